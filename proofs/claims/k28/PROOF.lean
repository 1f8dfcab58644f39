import PyProof.Rows.All
import Wide.All
import OpenK.AllK
import Wide.FinOn
import Lean
import PyProof.EqAt
import PyProof.EqKinds
import PyProof.TupleCall
import Wide.Seal
import PyProof.EnumMake
import PyProof.EnumStmt
import PyProof.EnumFor
import PyProof.StrWalks
import PyProof.StrCalls
import PyProof.DictCompW
import PyProof.ListRange
import PyProof.CompUse
import KE.KDictList
import PyProof.Rows.SumAny
import PyProof.Rows.SortWalk
import PyProof.IsRules
import PyProof.ExcArgsOwn
import KE.KIsAll
import KE.KTryDeepN
import OpenK.KOwn
import KE.KTryMore
import PyProof.NsDelKeeps
import PyProof.SliceStr2
import KE.RegKIsAll
import KE.RegKTryMore
import PyProof.Rows.SetFrom
import PyProof.SetRoads
import PyProof.AssignAttr
import PySem.Challenge.RW_chalkcave_k28_what_is_no_cave
set_option Elab.async false
set_option linter.all false
set_option maxRecDepth 100000
namespace L2
open PySem PySem.Spec PyProof.Rows
abbrev Key:=Sum Int (Option Str)
def keyIs:Key→Value→Bool
 | .inl k,v=>Value.isInt k v
 | .inr (some x),v=>Value.isStrOf x v
 | .inr none,.none=>true
 | .inr none,_=>false
def keyH (w:World):Key→Int
 | .inl k=>hashInt k
 | .inr (some x)=>hashStr w x
 | .inr none=>reduceHash 0xFCA86420
theorem keyIs_shape:∀ {k:Key}{v:Value},keyIs k v=true→(∃ i t,k=Sum.inl i∧v=Value.int i t)∨(∃ x t,k=Sum.inr (some x)∧v=Value.str x t)∨(k=Sum.inr none∧v=Value.none)
 | .inl i,v,h=>by
  obtain ⟨t,e⟩:=Value.isInt_shape (k:=i) (v:=v) h
  exact .inl ⟨i,t,rfl,e⟩
 | .inr none,v,h=>by
  cases v <;> first | exact .inr (.inr ⟨rfl,rfl⟩) | exact absurd h (by simp [keyIs])
 | .inr (some x),v,h=>by
  obtain ⟨t,e⟩:=Value.isStrOf_shape (x:=x) (v:=v) h
  exact .inr (.inl ⟨x,t,rfl,e⟩)
theorem key_ll (a b:Int):decide ((Sum.inl a:Key)=Sum.inl b)=(a == b):=by
 by_cases e:a=b
 · subst e;simp
 · have h:¬ (Sum.inl a:Key)=Sum.inl b:=fun q=>e (Sum.inl.inj q)
   rw [decide_eq_false h]
   exact (beq_eq_false_iff_ne.mpr e).symm
theorem key_rr (a b:Str):decide ((Sum.inr (some a):Key)=Sum.inr (some b))=decide (a=b):=by
 by_cases e:a=b
 · subst e;simp
 · have h:¬ (Sum.inr (some a):Key)=Sum.inr (some b):=fun q=>e (Option.some.inj (Sum.inr.inj q))
   rw [decide_eq_false h,decide_eq_false e]
theorem key_lr (a:Int) (b:Option Str):decide ((Sum.inl a:Key)=Sum.inr b)=false:=decide_eq_false (fun q=>nomatch q)
theorem key_rl (a:Option Str) (b:Int):decide ((Sum.inr a:Key)=Sum.inl b)=false:=decide_eq_false (fun q=>nomatch q)
theorem key_sn (a:Str):decide ((Sum.inr (some a):Key)=Sum.inr none)=false:=decide_eq_false (fun q=>nomatch q)
theorem key_ns (a:Str):decide ((Sum.inr none:Key)=Sum.inr (some a))=false:=decide_eq_false (fun q=>nomatch q)
theorem hash_non {prog:Program}{w:World}{A:Around}{E:Value→Shared→Prop}{s:Shared}{Q:Int→Shared→Prop} (h:Q (reduceHash 0xFCA86420) { s with toks:=s.toks+1 }):wpAny (model prog w) A (PySem.pyHash .none) Q E s:=
 PySem.W.pyHash_slot (T:="NoneType") rfl F.slot_NoneType_hash F.entry_NoneType_hash (F.args_NoneType_hash_1 _) (beq_builtin_none _) (.inl rfl) (wpAny_bind (wpAny_pure (wpAny_bind (wpAny_mkInt (wpAny_pure ⟨_,_,rfl,h⟩)))))
theorem eq_non {prog:Program}{w:World}{A:Around}{E:Value→Shared→Prop}{s:Shared}{Q:Bool→Shared→Prop} (h:Q true s):wpAny (model prog w) A (PySem.eqBool .none .none) Q E s:=by
 unfold PySem.eqBool
 refine wpAny_holding ?_
 exact wpAny_ite_split (fun _=>wpAny_bind (wpAny_rule (wpAny_pure h))) (fun z=>absurd rfl z)
def mixKind (prog:Program) (w:World):PySem.KeyKind prog w Key where
 is:=keyIs
 hash:=keyH w
 inj:=fun v a b ha hb=>by
  rcases keyIs_shape ha with ⟨i,t,rfl,rfl⟩ | ⟨x,t,rfl,rfl⟩ | ⟨rfl,rfl⟩
  · rcases keyIs_shape hb with ⟨j,u,rfl,e⟩ | ⟨y,u,rfl,e⟩ | ⟨rfl,e⟩
    · injection e with e1 _;rw [e1]
    · exact nomatch e
    · exact nomatch e
  · rcases keyIs_shape hb with ⟨j,u,rfl,e⟩ | ⟨y,u,rfl,e⟩ | ⟨rfl,e⟩
    · exact nomatch e
    · injection e with e1 _;rw [e1]
    · exact nomatch e
  · rcases keyIs_shape hb with ⟨j,u,rfl,e⟩ | ⟨y,u,rfl,e⟩ | ⟨rfl,e⟩
    · exact nomatch e
    · exact nomatch e
    · rfl
 byValue:=fun k v h=>by
  rcases keyIs_shape h with ⟨i,t,rfl,rfl⟩ | ⟨x,t,rfl,rfl⟩ | ⟨rfl,rfl⟩ <;> rfl
 pyHash:=fun hv h=>by
  rcases keyIs_shape hv with ⟨i,t,rfl,rfl⟩ | ⟨x,t,rfl,rfl⟩ | ⟨rfl,rfl⟩
  · exact wpAny_pyHash_int h
  · exact wpAny_pyHash_str h
  · exact hash_non h
 eqBool:=fun hu hv h=>by
  rcases keyIs_shape hu with ⟨i,t,rfl,rfl⟩ | ⟨x,t,rfl,rfl⟩ | ⟨rfl,rfl⟩
  · rcases keyIs_shape hv with ⟨j,u,rfl,rfl⟩ | ⟨y,u,rfl,rfl⟩ | ⟨rfl,rfl⟩
    · rw [key_ll] at h;exact wpAny_eqBool_int h
    · rw [key_lr] at h;exact SeqAt.EqAt.int_str i t y u _ _ _ _ h
    · rw [key_lr] at h;exact SeqAt.EqAt.int_none i t _ _ _ _ h
  · rcases keyIs_shape hv with ⟨j,u,rfl,rfl⟩ | ⟨y,u,rfl,rfl⟩ | ⟨rfl,rfl⟩
    · rw [key_rl] at h;exact SeqAt.EqAt.str_int x t j u _ _ _ _ h
    · rw [key_rr] at h;exact wpAny_eqBool_str h
    · rw [key_sn] at h;exact SeqAt.EqAt.str_none x t _ _ _ _ h
  · rcases keyIs_shape hv with ⟨j,u,rfl,rfl⟩ | ⟨y,u,rfl,rfl⟩ | ⟨rfl,rfl⟩
    · rw [key_rl] at h;exact SeqAt.EqAt.none_int j u _ _ _ _ h
    · rw [key_ns] at h;exact SeqAt.EqAt.none_str y u _ _ _ _ h
    · rw [decide_eq_true rfl] at h;exact eq_non h
 «strs»:=fun k x t v h=>by
  rcases keyIs_shape h with ⟨i,u,rfl,e⟩ | ⟨y,u,rfl,e⟩ | ⟨rfl,e⟩
  · exact nomatch e
  · injection e with e1 _
    subst e1
    cases v <;> rfl
  · exact nomatch e
inductive V where
 | non | bl (b:Bool) | int (i:Int) | str (x:Str) | byt (b:Array UInt8) | flt (b:UInt64) | ref (a:Addr) | ty (n:String)
 deriving DecidableEq
def RelV:V→Value→Prop
 | .non,u=>u=Value.none
 | .bl b,u=>u=Value.bool b
 | .int i,u=>∃ t,u=Value.int i t
 | .str x,u=>∃ t,u=Value.str x t
 | .byt b,u=>∃ t,u=Value.bytes b t
 | .flt b,u=>∃ t,u=Value.float b t
 | .ref a,u=>u=Value.ref a
 | .ty n,u=>u=Value.type n
abbrev Vals:List V→List Value→Prop:=Paired RelV
theorem Vals.length {xs:List V}{us:List Value} (r:Vals xs us):xs.length=us.length:=Paired.length r
theorem Vals.get:∀ {xs:List V}{us:List Value}{i:Nat}{x:V},Vals xs us→xs[i]?=some x→∃ u,us[i]?=some u∧RelV x u
 | _,_,_,_,.nil,e=>by simp at e
 | _,_,0,_,.cons r _,e=>by simp at e;subst e;exact ⟨_,rfl,r⟩
 | _,_,i+1,x,.cons _ t,e=>by
  obtain ⟨u,h1,h2⟩:=Vals.get (i:=i) (x:=x) t (by simpa using e)
  exact ⟨u,by simpa using h1,h2⟩
theorem Vals.set {x:V}{u:Value} (r:RelV x u):∀ {xs:List V}{us:List Value} (i:Nat),Vals xs us→Vals (xs.set i x) (us.set i u)
 | _,_,_,.nil=>.nil
 | _,_,0,.cons _ t=>.cons r t
 | _,_,i+1,.cons q t=>.cons q (Vals.set r i t)
theorem Vals.append:∀ {xs ys:List V}{us ws:List Value},Vals xs us→Vals ys ws→Vals (xs++ys) (us++ws)
 | _,_,_,_,.nil,s=>s
 | _,_,_,_,.cons r t,s=>.cons r (Vals.append t s)
theorem Vals.take:∀ {xs:List V}{us:List Value} (n:Nat),Vals xs us→Vals (xs.take n) (us.take n)
 | _,_,0,_=>.nil
 | _,_,_+1,.nil=>.nil
 | _,_,n+1,.cons r t=>.cons r (Vals.take n t)
theorem Vals.drop:∀ {xs:List V}{us:List Value} (n:Nat),Vals xs us→Vals (xs.drop n) (us.drop n)
 | _,_,0,r=>r
 | _,_,_+1,.nil=>.nil
 | _,_,n+1,.cons _ t=>Vals.drop n t
def RelO:Option V→Option Value→Prop
 | some v,some u=>RelV v u
 | none,none=>True
 | _,_=>False
def KV {κ:Type}:List (κ × V)→List (κ × Value)→Prop:=Paired fun (p:κ × V) (q:κ × Value)=>p.1=q.1∧RelV p.2 q.2
def kV:Key→V
 | .inl i=>.int i
 | .inr (some x)=>.str x
 | .inr none=>.non
inductive HO where
 | lst (xs:List V)
 | tup (xs:List V)
 | dK (kvs:List (Key × V)) | dT (kvs:List (List Key × V))
 | set (S:Int→Bool) (n:Nat)
 | ins (C dx:Addr) (fs:List (Str × V))
 | own (x:Addr)
 | xd (fs:List (Str × V))
 | met (f x:Addr)
 | rng (lo hi:Int)
 | frz (o:Obj) (u:HO)
 | tbl (ps:Array Value)
 | ext (φ:Heap→Prop)
abbrev Hp:=Addr→Option HO
def upd (H:Hp) (a:Addr) (o:HO):Hp:=fun b=>if b=a then some o else H b
theorem upd_same {H:Hp}{a:Addr}{o:HO}:upd H a o a=some o:=by unfold upd;rw [if_pos rfl]
theorem upd_ne {H:Hp}{a b:Addr}{o:HO} (h:b≠a):upd H a o b=H b:=by unfold upd;rw [if_neg h]
theorem upd_upd {H:Hp}{a:Addr}{o u:HO}:upd (upd H a o) a u=upd H a u:=by
 funext b;unfold upd;split <;> rfl
theorem ne_of_none {H:Hp}{a b:Addr}{o:HO} (h:H a=some o) (h':H b=none):a≠b:=by
 intro e;subst e;rw [h] at h';cases h'
section
variable (P:Program) (w:World)
def ObjOk (H:Hp) (h:Heap) (a:Addr):HO→Prop
 | .lst xs=>xs.length≤sizeLine∧∃ (its:List Value) (n:Nat),Vals xs its∧h.get? a=some { cls:=.type "list",data:=.seq its.toArray n }
 | .tup xs=>xs.length≤sizeLine∧∃ its:List Value,Vals xs its∧IsTup h a its.toArray
 | .dK kvs=>kvs.length≤sizeLine∧(a == sysModules)=false∧∃ vs,KV kvs vs∧h.DictOf (mixKind P w) a vs
 | .dT kvs=>kvs.length≤sizeLine∧(a == sysModules)=false∧∃ xs:List (List Key × Addr × Value),
   Paired (fun (p:List Key × V) (q:List Key × Addr × Value)=>p.1=q.1∧H q.2.1=some (.tup (p.1.map kV))∧RelV p.2 q.2.2) kvs xs∧
   ∃ o es ep,h.get? a=some o∧o.ExactDict∧o.data=.dict es ep∧es.toList=xs.map (entryOfKey (tupleKind (mixKind P w)))∧(xs.map (·.1)).Nodup
 | .set S n=>h.SetOf (intKind P w) a S n
 | .ins C dx fs=>H dx=some (.own a)∧fs.length≤1000∧dx≠a∧h.get? a=some (PySem.W.instObj C dx)∧
   ∃ mA,h.Ns1 dx mA∧(∀ f,RelO (fs.lookup f) (mA f))∧PySem.Within mA (fs.map (·.1))
 | .own _=>∃ o,h.get? a=some o
 | .xd fs=>∃ mA,h.Ns1 a mA∧∀ f,RelO (fs.lookup f) (mA f)
 | .rng lo hi=>∃ t u v,h.get? a=some { cls:=.type "range",data:=.fields #[.int lo t,.int hi u,.int 1 v] }
 | .frz o u=>h.get? a=some o∧ObjOk H h a u
 | .tbl ps=>h.get? a=some { cls:=.none,data:=.fields ps }
 | .met f x=>h.get? a=some (PySem.W.methodObj (.ref f) (.ref x))
 | .ext φ=>φ h∧(∃ o,h.get? a=some o)∧∀ h1 h2:Heap,φ h1→(∀ o,h1.get? a=some o→h2.get? a=some o)→φ h2
def HOk (H:Hp) (h:Heap):Prop:=∀ a o,H a=some o→ObjOk P w H h a o
end
section
variable {P:Program}{w:World}{H H':Hp}{h h':Heap}{a:Addr}{o:HO}
theorem ObjOk.lt (x:ObjOk P w H h a o):a < h.objs.size:=by
 cases o with
 | lst xs=>obtain ⟨_,_,_,_,e⟩:=x;exact Heap.lt_size e
 | tup xs=>obtain ⟨_,_,_,p⟩:=x;exact p.lt
 | dK kvs=>obtain ⟨_,_,_,_,o,_,_,e,_⟩:=x;exact Heap.lt_size e
 | dT kvs=>obtain ⟨_,_,_,_,o,_,_,e,_⟩:=x;exact Heap.lt_size e
 | set S n=>obtain ⟨o,_,_,_,e,_⟩:=x;exact Heap.lt_size e
 | ins C dx fs=>obtain ⟨_,_,_,e,_⟩:=x;exact Heap.lt_size e
 | own y=>obtain ⟨_,e⟩:=x;exact Heap.lt_size e
 | xd fs=>obtain ⟨_,⟨_,_,_,e,_⟩,_⟩:=x;exact Heap.lt_size e
 | rng lo hi=>obtain ⟨_,_,_,e⟩:=x;exact Heap.lt_size e
 | frz ob u=>obtain ⟨e,_⟩:=x;exact Heap.lt_size e
 | tbl ps=>exact Heap.lt_size (show h.get? a=some _ from x)
 | met f y=>exact Heap.lt_size (show h.get? a=some _ from x)
 | ext φ=>obtain ⟨_,⟨_,e⟩,_⟩:=x;exact Heap.lt_size e
theorem Paired.mapP {α β:Type}{F G:α→β→Prop}:∀ {l₁:List α}{l₂:List β},Paired F l₁ l₂→(∀ a b,F a b→G a b)→Paired G l₁ l₂
 | _,_,.nil,_=>.nil
 | _,_,.cons r t,f=>.cons (f _ _ r) (Paired.mapP t f)
theorem ObjOk.stay (x:ObjOk P w H h a o) (k:∀ b u,(b=a∨H b=some (.own a))→h.get? b=some u→h'.get? b=some u)
  (ho:∀ b,H b=some (.own a)→H' b=some (.own a)) (ht:∀ b xs,H b=some (.tup xs)→H' b=some (.tup xs)):ObjOk P w H' h' a o:=by
 induction o with
 | lst xs=>obtain ⟨z,its,n,r,e⟩:=x;exact ⟨z,its,n,r,k _ _ (.inl rfl) e⟩
 | tup xs=>obtain ⟨z,its,r,ob,e,c⟩:=x;exact ⟨z,its,r,ob,k _ _ (.inl rfl) e,c⟩
 | dK kvs=>obtain ⟨z,y,vs,r,ob,es,ep,e,c⟩:=x;exact ⟨z,y,vs,r,ob,es,ep,k _ _ (.inl rfl) e,c⟩
 | dT kvs=>
  obtain ⟨z,y,xs,r,ob,es,ep,e,c⟩:=x
  exact ⟨z,y,xs,Paired.mapP r fun p q z=>⟨z.1,ht _ _ z.2.1,z.2.2⟩,ob,es,ep,k _ _ (.inl rfl) e,c⟩
 | set S n=>obtain ⟨ob,es,ep,t,e,c⟩:=x;exact ⟨ob,es,ep,t,k _ _ (.inl rfl) e,c⟩
 | ins C dx fs=>
  obtain ⟨d,z,ne,e,mA,⟨od,es,ep,e2,c⟩,r⟩:=x
  exact ⟨ho _ d,z,ne,k _ _ (.inl rfl) e,mA,⟨od,es,ep,k _ _ (.inr d) e2,c⟩,r⟩
 | own y=>obtain ⟨ob,e⟩:=x;exact ⟨ob,k _ _ (.inl rfl) e⟩
 | xd fs=>obtain ⟨mA,⟨od,es,ep,e,c⟩,r⟩:=x;exact ⟨mA,⟨od,es,ep,k _ _ (.inl rfl) e,c⟩,r⟩
 | rng lo hi=>obtain ⟨t,u,v,e⟩:=x;exact ⟨t,u,v,k _ _ (.inl rfl) e⟩
 | frz ob u ih=>obtain ⟨e,q⟩:=x;exact ⟨k _ _ (.inl rfl) e,ih q⟩
 | tbl ps=>
  have e:h.get? a=some { cls:=.none,data:=.fields ps }:=x
  show h'.get? a=some { cls:=.none,data:=.fields ps }
  exact k a _ (.inl rfl) e
 | met f y=>
  have e:h.get? a=some (PySem.W.methodObj (.ref f) (.ref y)):=x
  show h'.get? a=some (PySem.W.methodObj (.ref f) (.ref y))
  exact k a _ (.inl rfl) e
 | ext φ=>obtain ⟨p,⟨o,e⟩,st⟩:=x;exact ⟨st _ _ p fun o q=>k _ _ (.inl rfl) q,⟨o,k _ _ (.inl rfl) e⟩,st⟩
theorem HOk.lt (x:HOk P w H h) (e:H a=some o):a < h.objs.size:=(x a o e).lt
theorem HOk.fresh (x:HOk P w H h) (e:h.objs.size≤a):H a=none:=by
 cases q:H a with
 | none=>rfl
 | some u=>exact absurd (Nat.lt_of_lt_of_le (x.lt q) e) (Nat.lt_irrefl _)
theorem HOk.kept (x:HOk P w H h) (k:∀ b u,h.get? b=some u→h'.get? b=some u):HOk P w H h':=fun a o e=>
 (x a o e).stay (fun b u _ q=>k b u q) (fun _ q=>q) fun _ _ q=>q
theorem HOk.laid (x:HOk P w H h) (k:∀ b u,h.get? b=some u→h'.get? b=some u) (hp:h.objs.size≤a) (new:ObjOk P w (upd H a o) h' a o):HOk P w (upd H a o) h':=fun b u e=>by
 have hn:=x.fresh hp
 by_cases hb:b=a
 · subst hb;rw [upd_same] at e;cases e;exact new
 · rw [upd_ne hb] at e
   exact (x b u e).stay (fun c v _ q=>k c v q) (fun c q=>by rw [upd_ne (ne_of_none q hn)];exact q) fun c xs q=>by rw [upd_ne (ne_of_none q hn)];exact q
end
def Rd (H:Hp) (a:Addr) (u:HO):Prop:=H a=some u∨∃ o,H a=some (.frz o u)
theorem Rd.ok {P:Program}{w:World}{H:Hp}{h:Heap}{a:Addr}{u:HO} (r:Rd H a u) (x:HOk P w H h):ObjOk P w H h a u:=by
 rcases r with r | ⟨o,r⟩
 · exact x a u r
 · obtain ⟨_,q⟩:=x a _ r
   exact q
def Mut:Option HO→Prop
 | some (.lst _)=>True
 | some (.dK _)=>True
 | some (.dT _)=>True
 | some (.set _ _)=>True
 | some (.ins _ _ _)=>True
 | some (.ext _)=>True
 | _=>False
section
variable {P:Program}{w:World}{H:Hp}{h h':Heap}{x e:Addr}{o':HO}
theorem HOk.write (ok:HOk P w H h) (mu:Mut (H x)) (he:e=x∨H e=some (.own x)) (k:∀ b u,b≠e→h.get? b=some u→h'.get? b=some u) (heo:∃ u,h'.get? e=some u)
  (new:ObjOk P w (upd H x o') h' x o'):HOk P w (upd H x o') h':=fun b u q=>by
 have nown:∀ c y,H c=some (.own y)→c≠x:=fun c y r z=>by subst z;rw [r] at mu;exact mu
 have ntup:∀ c xs,H c=some (.tup xs)→c≠x:=fun c xs r z=>by subst z;rw [r] at mu;exact mu
 by_cases hb:b=x
 · subst hb;rw [upd_same] at q;cases q;exact new
 · rw [upd_ne hb] at q
   by_cases hbe:b=e
   · have q':H b=some (.own x):=by
       rcases he with z | z
       · exact absurd (hbe.trans z) hb
       · rw [hbe];exact z
     rw [q] at q';cases q'
     obtain ⟨v,hv⟩:=heo
     exact ⟨v,by rw [hbe];exact hv⟩
   · refine (ok b u q).stay (fun c v hc r=>k c v ?_ r) (fun c r=>by rw [upd_ne (nown c b r)];exact r) fun c xs r=>by rw [upd_ne (ntup c xs r)];exact r
     rcases hc with rfl | hc
     · exact hbe
     · rintro rfl
       rcases he with z | z
       · exact nown c b hc z
       · rw [hc] at z;cases z;exact hb rfl
end
structure Un (fs ex:List Addr) (H H':Hp) (h h':Heap):Prop where
 keep:∀ b o,h.get? b=some o→H b=none→b∉fs→b∉ex→h'.get? b=some o
 slot:∀ b o,h.get? b=some o→H b=none→b∈fs→b∉ex→∃ sl,h'.get? b=some { o with slots:=sl }
 free:∀ b o,h.get? b=some o→H b=none→b∉ex→H' b=none
 there:∀ b o,h.get? b=some o→b∉ex→∃ o',h'.get? b=some o'
 tups:∀ b xs,H b=some (.tup xs)→H' b=some (.tup xs)
 frzs:∀ b o u,H b=some (.frz o u)→H' b=some (.frz o u)
 tbls:∀ b ps,H b=some (.tbl ps)→∃ more,H' b=some (.tbl (ps++more))
section
variable {fs fs' ex ex':List Addr}{H H1 H2:Hp}{h h1 h2 h':Heap}{a x e:Addr}{o:HO}
theorem Un.any (u:Un fs ex H H1 h h1) {b:Addr}{ob:Obj} (q:h.get? b=some ob) (n:H b=none) (hx:b∉ex):∃ sl,h1.get? b=some { ob with slots:=sl }:=by
 by_cases hb:b∈fs
 · exact u.slot b ob q n hb hx
 · exact ⟨ob.slots,u.keep b ob q n hb hx⟩
theorem Un.kept (k:∀ b u,h.get? b=some u→h'.get? b=some u):Un fs ex H H h h':=
 ⟨fun b ob q _ _ _=>k b ob q,fun b ob q _ _ _=>⟨ob.slots,k b ob q⟩,fun _ _ _ n _=>n,fun b ob q _=>⟨ob,k b ob q⟩,fun _ _ q=>q,fun _ _ _ q=>q,fun _ ps q=>⟨#[],by rw [q];simp⟩⟩
theorem Un.refl:Un fs ex H H h h:=Un.kept fun _ _ q=>q
theorem Un.laid (k:∀ b u,h.get? b=some u→h'.get? b=some u) (hp:h.objs.size≤a) (hn:H a=none):Un fs ex H (upd H a o) h h' where
 keep:=fun b u q _ _ _=>k b u q
 slot:=fun b u q _ _ _=>⟨u.slots,k b u q⟩
 free:=fun b u q n _=>by rw [upd_ne (Nat.ne_of_lt (Nat.lt_of_lt_of_le (Heap.lt_size q) hp))];exact n
 there:=fun b u q _=>⟨u,k b u q⟩
 tups:=fun b xs q=>by rw [upd_ne (ne_of_none q hn)];exact q
 frzs:=fun b u xs q=>by rw [upd_ne (ne_of_none q hn)];exact q
 tbls:=fun b ps q=>⟨#[],by rw [upd_ne (ne_of_none q hn),q];simp⟩
theorem Un.write (mu:Mut (H x)) (he:e=x∨H e=some (.own x)) (k:∀ b u,b≠e→h.get? b=some u→h'.get? b=some u) (heo:∃ u,h'.get? e=some u):Un fs ex H (upd H x o) h h':=by
 have hx:∀ b,H b=none→b≠x:=fun b n z=>by subst z;rw [n] at mu;exact mu
 have hb:∀ b,H b=none→b≠e:=fun b n z=>by
  subst z
  rcases he with r | r
  · exact hx b n r
  · rw [n] at r;cases r
 have hm:∀ b u,H b=some u→¬ Mut (some u)→b≠x:=fun b u q nm z=>by subst z;rw [q] at mu;exact nm mu
 refine ⟨fun b u q n _ _=>k b u (hb b n) q,fun b u q n _ _=>⟨u.slots,k b u (hb b n) q⟩,fun b u q n _=>by rw [upd_ne (hx b n)];exact n,fun b u q _=>?_,
  fun b xs q=>by rw [upd_ne (hm b _ q fun z=>z)];exact q,fun b u xs q=>by rw [upd_ne (hm b _ q fun z=>z)];exact q,fun b ps q=>⟨#[],by rw [upd_ne (hm b _ q fun z=>z),q];simp⟩⟩
 by_cases hbe:b=e
 · subst hbe;exact heo
 · exact ⟨u,k b u hbe q⟩
end
def trk (h:Heap) (H:Hp):List Addr:=(List.range h.objs.size).filter fun a=>(H a).isSome
def hidT (h:Heap) (H:Hp):Heap:=PySem.W.hideAll h (trk h H)
theorem hidT_size (h:Heap) (H:Hp):(hidT h H).objs.size=h.objs.size:=PySem.W.hideAll_size _ _
theorem hidT_get {h:Heap}{H:Hp}{b:Addr}{o:Obj} (e:h.get? b=some o) (n:H b=none):(hidT h H).get? b=some o:=
 PySem.W.hideAll_get _ e fun hm=>by
  have q:(H b).isSome=true:=(List.mem_filter.mp hm).2
  rw [n] at q;simp at q
theorem of_hidT {h:Heap}{H:Hp}{b:Addr}{o:Obj} (e:(hidT h H).get? b=some o):h.get? b=some o∧H b=none:=by
 have e':h.get? b=some o:=PySem.W.of_hideAll (trk h H) e
 refine ⟨e',?_⟩
 cases q:H b with
 | none=>rfl
 | some x=>
  have hm:b∈trk h H:=List.mem_filter.mpr ⟨List.mem_range.mpr (Heap.lt_size e'),by simp [q]⟩
  have z:(hidT h H).get? b=none:=PySem.W.hideAll_none (trk h H) hm
  rw [z] at e;cases e
structure Mod (K:PySem.W.Frag) (mg:Str→Option Value) (base:Heap):Prop where
 kin:K.In base
 glob:base.Ns mainGlobals mg
 blt:∃ mb,base.Ns builtinsNs mb∧∀ x:Str,x≠"__name__"→mb x=bootBuiltins x
 nolimit:base.NoLimit
structure Cx where
 prog:Program
 w:World
 K:PySem.W.Frag
 mg:Str→Option Value
 base:Heap
 A:Around
 N:List Str
 s₀:Shared
 H₀:Hp
 env:Env
 outer:List Env
 stack:List Env
 ex:List Addr
 fn:Str→Bool
 calm:Bool
 pn:List (Addr × Obj)
 xe:Value→Shared→Prop
def frs (l:List Env):List Addr:=l.filterMap (·.frame)
abbrev Cx.fs (X:Cx):List Addr:=frs X.outer
def Vis (sc:Scope) (x:Str):Prop:=sc.names.lookup x=some .local∨sc.names.lookup x=some .cell∨sc.names.lookup x=some .free
def Loc (sc:Scope) (x:Str):Prop:=sc.names.lookup x=some .local∨sc.names.lookup x=some .cell
def Look (env:Env) (h:Heap) (m:Str→Option Value) (x:Str) (u:Value):Prop:=
 (env.kindOf x=some .local∧m x=some u)∨((env.kindOf x=some .cell∨env.kindOf x=some .free)∧∃ c,env.cells.lookup x=some c∧h.IsCell c (some u))
structure Cx.Ok (X:Cx):Prop where
 mod:Mod X.K X.mg X.base
 kind:X.env.scope.kind=.function
 glob:X.env.globals=mainGlobals
 blt:X.env.builtins=builtinsNs
 above:X.s₀.heap.objs.size≤X.env.locals
 inj:∀ x y c,X.env.cells.lookup x=some c→X.env.cells.lookup y=some c→x=y
 has:∀ x,(X.env.kindOf x=some .cell∨X.env.kindOf x=some .free)→∃ c,X.env.cells.lookup x=some c
 cab:∀ x c,X.fn x=true→X.env.cells.lookup x=some c→X.s₀.heap.objs.size≤c
 hd:X.calm=true→X.A.handled=none
 frames:X.A.frames=some X.stack
 stk:X.stack=X.outer∨(X.stack=X.env::X.outer∧X.env.frame=some X.env.locals)
 exf:∀ b∈X.ex,b≠X.env.locals∧∀ x c,X.env.cells.lookup x=some c→c≠b
 bs:∀ b o,X.base.get? b=some o→X.s₀.heap.get? b=some o∧X.H₀ b=none
 bsz:X.base.objs.size≤X.s₀.heap.objs.size
 noex:∀ b o,X.base.get? b=some o→b∉X.ex
 exfs:∀ b∈X.ex,b∉X.fs
 funs:X.s₀.heap.FunFrames X.base X.outer
 frf:∀ b∈X.fs,X.H₀ b=none
structure Inv (X:Cx) (pins:List (Addr × Obj)) (σ:List (Option V)) (H:Hp) (s:Shared):Prop where
 ok:X.Ok
 os:s.os=X.s₀.os
 bare:AllBare s.gens
 base:Un X.fs X.ex X.H₀ H X.s₀.heap s.heap
 loc:∃ m,s.heap.Ns X.env.locals m∧∀ (i:Nat) (x:Str) (v:V),X.N[i]?=some x→σ[i]?=some (some v)→Vis X.env.scope x→∃ u,RelV v u∧Look X.env s.heap m x u
 cell:∀ x c,X.env.cells.lookup x=some c→∃ v,s.heap.IsCell c v
 free:H X.env.locals=none
 freeC:∀ x c,X.env.cells.lookup x=some c→H c=none
 pin:∀ p∈X.pn++pins,s.heap.get? p.1=some p.2∧H p.1=none∧p.1≠X.env.locals∧p.1∉X.fs∧∀ v,p.2.data≠.cell v
 hok:HOk X.prog X.w H s.heap
 len:σ.length=X.N.length
section
variable {X:Cx}{pins:List (Addr × Obj)}{σ:List (Option V)}{H H':Hp}{s:Shared}{h':Heap}
theorem Cx.Ok.nofr (ok:X.Ok) {b:Addr}{o:Obj} (e:X.base.get? b=some o):b∉X.fs:=fun hb=>by
 have:=(ok.funs.mem hb).1
 rw [e] at this;cases this
theorem Inv.bs (I:Inv X pins σ H s):∀ b o,X.base.get? b=some o→s.heap.get? b=some o∧H b=none:=fun b o e=>
 ⟨I.base.keep b o (I.ok.bs b o e).1 (I.ok.bs b o e).2 (I.ok.nofr e) (I.ok.noex b o e),I.base.free b o (I.ok.bs b o e).1 (I.ok.bs b o e).2 (I.ok.noex b o e)⟩
theorem Inv.bk (I:Inv X pins σ H s):∀ b o,X.base.get? b=some o→s.heap.get? b=some o:=fun b o e=>(I.bs b o e).1
theorem Inv.mod (I:Inv X pins σ H s):Mod X.K X.mg X.base:=I.ok.mod
theorem Inv.kIn (I:Inv X pins σ H s):X.K.In s.heap:=I.ok.mod.kin.keeps I.bk
theorem Inv.lt (I:Inv X pins σ H s):X.env.locals < s.heap.objs.size:=let ⟨_,hn,_⟩:=I.loc;hn.lt
theorem Inv.sz (I:Inv X pins σ H s):X.s₀.heap.objs.size≤s.heap.objs.size:=Nat.le_trans I.ok.above (Nat.le_of_lt I.lt)
theorem Inv.nofs (I:Inv X pins σ H s) {a:Addr} (h:s.heap.objs.size≤a):a∉X.fs:=fun hb=>by
 obtain ⟨_,o,ho,_⟩:=I.ok.funs.mem hb
 exact absurd (Nat.lt_of_lt_of_le (Heap.lt_size ho) (Nat.le_trans I.sz h)) (Nat.lt_irrefl _)
theorem Inv.cne (I:Inv X pins σ H s):∀ x c,X.env.cells.lookup x=some c→c≠X.env.locals:=fun x c e z=>by
 obtain ⟨v,o,ho,hd⟩:=I.cell x c e
 obtain ⟨m,⟨o',es,ep,ho',hd',_⟩,_⟩:=I.loc
 rw [z,ho'] at ho;cases ho;rw [hd'] at hd;cases hd
theorem Inv.funs (I:Inv X pins σ H s):s.heap.FunFrames X.base X.outer:=by
 have all:∀ (l:List Env),(∀ b∈frs l,b∈X.fs)→X.s₀.heap.FunFrames X.base l→s.heap.FunFrames X.base l:=by
  intro l
  induction l with
  | nil=>intro _ _;trivial
  | cons env r ih=>
   intro hs hl
   obtain ⟨hk,⟨L,o,hf,hn,ho,hd⟩,hr⟩:=hl
   have hL:L∈X.fs:=hs L (by unfold frs;rw [List.filterMap_cons,hf];exact List.mem_cons_self)
   obtain ⟨sl,e⟩:=I.base.slot L o ho (I.ok.frf L hL) hL fun z=>I.ok.exfs L z hL
   exact ⟨hk,⟨L,_,hf,hn,e,hd⟩,ih (fun b hb=>hs b (by unfold frs;rw [List.filterMap_cons,hf];exact List.mem_cons_of_mem _ hb)) hr⟩
 exact all X.outer (fun _ hb=>hb) I.ok.funs
theorem Inv.stack (I:Inv X pins σ H s):s.heap.FunFrames X.base X.stack:=by
 rcases I.ok.stk with e | ⟨e,hf⟩
 · rw [e];exact I.funs
 · rw [e]
   obtain ⟨m,hn,_⟩:=I.loc
   refine .cons (by rw [I.ok.kind];decide) hf hn ?_ I.funs
   exact Heap.get?_none_of_le (Nat.le_trans I.ok.bsz I.ok.above)
theorem Inv.stkSub (I:Inv X pins σ H s):∀ b∈frs X.stack,b∈X.env.locals::X.fs:=fun b hb=>by
 rcases I.ok.stk with e | ⟨e,hf⟩
 · rw [e] at hb;exact List.mem_cons_of_mem _ hb
 · rw [e] at hb
   unfold frs at hb
   rw [List.filterMap_cons,hf] at hb
   exact hb
theorem Inv.stkFree (I:Inv X pins σ H s):∀ b∈frs X.stack,H b=none:=fun b hb=>by
 rcases List.mem_cons.mp (I.stkSub b hb) with e | hb
 · rw [e];exact I.free
 · obtain ⟨_,o,ho,_⟩:=I.ok.funs.mem hb
   exact I.base.free b o ho (I.ok.frf b hb) fun z=>I.ok.exfs b z hb
theorem Inv.step {g':Array GenState}{t':Nat}{d':Drawn}{ch:List Addr} (I:Inv X pins σ H s)
  (hch:∀ b∈ch,(b∈X.ex∨X.s₀.heap.objs.size≤b)∧b≠X.env.locals∧(∀ x c,X.env.cells.lookup x=some c→c≠b)∧∀ p∈X.pn++pins,p.1≠b)
  (keep:∀ b o,b≠X.env.locals→b∉X.fs→b∉ch→s.heap.get? b=some o→H b=none→h'.get? b=some o)
  (slot:∀ b o,b≠X.env.locals→b∈X.fs→b∉ch→s.heap.get? b=some o→H b=none→∃ sl,h'.get? b=some { o with slots:=sl }) (free:∀ b o,b∉ch→s.heap.get? b=some o→H b=none→H' b=none)
  (there:∀ b o,b∉ch→s.heap.get? b=some o→∃ o',h'.get? b=some o')
  (tups:∀ b xs,H b=some (.tup xs)→H' b=some (.tup xs)) (frzs:∀ b o u,H b=some (.frz o u)→H' b=some (.frz o u)) (tbls:∀ b ps,H b=some (.tbl ps)→∃ more,H' b=some (.tbl (ps++more)))
  (ns:∀ m,s.heap.Ns X.env.locals m→h'.Ns X.env.locals m) (hok:HOk X.prog X.w H' h') (hg:AllBare g'):
  Inv X pins σ H' { s with heap:=h',gens:=g',drawn:=d',toks:=t' }:=by
 have neL:∀ b o,X.s₀.heap.get? b=some o→b≠X.env.locals:=fun b o e=>Nat.ne_of_lt (Nat.lt_of_lt_of_le (Heap.lt_size e) I.ok.above)
 have neC:∀ b o,X.s₀.heap.get? b=some o→b∉X.ex→b∉ch:=fun b o e hx hb=>by
  rcases (hch b hb).1 with z | z
  · exact hx z
  · exact absurd (Nat.lt_of_lt_of_le (Heap.lt_size e) z) (Nat.lt_irrefl _)
 have cellK:∀ x c,X.env.cells.lookup x=some c→∀ v,s.heap.IsCell c v→h'.IsCell c v:=fun x c e v ⟨o,ho,hd⟩=>by
  have nch:c∉ch:=fun z=>(hch c z).2.2.1 x c e rfl
  by_cases hc:c∈X.fs
  · obtain ⟨sl,q⟩:=slot c o (I.cne x c e) hc nch ho (I.freeC x c e)
    exact ⟨_,q,hd⟩
  · exact ⟨o,keep c o (I.cne x c e) hc nch ho (I.freeC x c e),hd⟩
 refine ⟨I.ok,I.os,hg,⟨fun b o e n hb hx=>?_,fun b o e n hb hx=>?_,fun b o e n hx=>?_,fun b o e hx=>?_,fun b xs e=>tups b xs (I.base.tups b xs e),fun b o xs e=>frzs b o xs (I.base.frzs b o xs e),fun b ps e=>?_⟩,?_,fun x c e=>?_,?_,fun x c e=>?_,fun p hp=>?_,hok,I.len⟩
 · exact keep b o (neL b o e) hb (neC b o e hx) (I.base.keep b o e n hb hx) (I.base.free b o e n hx)
 · obtain ⟨sl,e1⟩:=I.base.slot b o e n hb hx
   obtain ⟨sl',e2⟩:=slot b _ (neL b o e) hb (neC b o e hx) e1 (I.base.free b o e n hx)
   exact ⟨sl',e2⟩
 · obtain ⟨o',e1⟩:=I.base.there b o e hx
   exact free b o' (neC b o e hx) e1 (I.base.free b o e n hx)
 · obtain ⟨o',e1⟩:=I.base.there b o e hx
   exact there b o' (neC b o e hx) e1
 · obtain ⟨m1,e1⟩:=I.base.tbls b ps e
   obtain ⟨m2,e2⟩:=tbls b _ e1
   exact ⟨m1++m2,by rw [e2,Array.append_assoc]⟩
 · obtain ⟨m,hn,hl⟩:=I.loc
   refine ⟨m,ns m hn,fun i x v e1 e2 e3=>?_⟩
   obtain ⟨u,r,l⟩:=hl i x v e1 e2 e3
   refine ⟨u,r,?_⟩
   rcases l with l | ⟨k,c,e,z⟩
   · exact .inl l
   · exact .inr ⟨k,c,e,cellK x c e _ z⟩
 · obtain ⟨v,z⟩:=I.cell x c e
   exact ⟨v,cellK x c e v z⟩
 · obtain ⟨m,⟨o,_,_,ho,_⟩,_⟩:=I.loc
   exact free _ o (fun z=>(hch _ z).2.1 rfl) ho I.free
 · obtain ⟨v,o,ho,hd⟩:=I.cell x c e
   exact free c o (fun z=>(hch c z).2.2.1 x c e rfl) ho (I.freeC x c e)
 · obtain ⟨e,n,ne,nf,d⟩:=I.pin p hp
   have nch:p.1∉ch:=fun z=>(hch p.1 z).2.2.2 p hp rfl
   exact ⟨keep p.1 p.2 ne nf nch e n,free p.1 p.2 nch e n,ne,nf,d⟩
theorem Inv.un {t':Nat} (I:Inv X pins σ H s) (u:Un X.fs [] H H' s.heap h') (hok:HOk X.prog X.w H' h'):Inv X pins σ H' { s with heap:=h',toks:=t' }:=by
 obtain ⟨m,⟨o,es,ep,ho,r⟩,_⟩:=id I.loc
 obtain ⟨sl,hL⟩:=u.any ho I.free (by simp)
 exact I.step (g':=s.gens) (d':=s.drawn) (ch:=[]) (fun _ z=>nomatch z) (fun b o _ hb _ e n=>u.keep b o e n hb (by simp)) (fun b o _ hb _ e n=>u.slot b o e n hb (by simp)) (fun b o _ e n=>u.free b o e n (by simp)) (fun b o _ e=>u.there b o e (by simp)) u.tups u.frzs u.tbls (fun m' hm=>by
  obtain ⟨o',es',ep',ho',r'⟩:=hm
  rw [ho] at ho';cases ho'
  exact ⟨_,es',ep',hL,r'⟩) hok I.bare
theorem Inv.call {g':Array GenState}{t':Nat}{d':Drawn}{ch:List Addr} (I:Inv X pins σ H s) (u:Un (frs X.stack) ch H H' s.heap h') (hok:HOk X.prog X.w H' h') (hg:AllBare g')
  (hch:∀ b∈ch,(b∈X.ex∨X.s₀.heap.objs.size≤b)∧b≠X.env.locals∧(∀ x c,X.env.cells.lookup x=some c→c≠b)∧∀ p∈X.pn++pins,p.1≠b):
  Inv X pins σ H' { s with heap:=h',gens:=g',drawn:=d',toks:=t' }:=by
 obtain ⟨m,⟨o,es,ep,ho,r⟩,_⟩:=id I.loc
 obtain ⟨sl,hL⟩:=u.any ho I.free fun z=>(hch _ z).2.1 rfl
 exact I.step (ch:=ch) hch (fun b o hL hb hc e n=>u.keep b o e n (fun z=>(List.mem_cons.mp (I.stkSub b z)).elim hL hb) hc) (fun b o _ _ hc e n=>u.any e n hc) (fun b o hc e n=>u.free b o e n hc) (fun b o hc e=>u.there b o e hc) u.tups u.frzs u.tbls (fun m' hm=>by
  obtain ⟨o',es',ep',ho',r'⟩:=hm
  rw [ho] at ho';cases ho'
  exact ⟨_,es',ep',hL,r'⟩) hok hg
theorem Inv.turned {t':Nat}{it:Addr} (I:Inv X pins σ H s) (k:∀ b o,b≠it→s.heap.get? b=some o→h'.get? b=some o) (hn:H it=none) (hL:it≠X.env.locals)
  (h1:it∈X.ex∨X.s₀.heap.objs.size≤it) (h2:∀ x c,X.env.cells.lookup x=some c→c≠it) (h3:∀ p∈X.pn++pins,p.1≠it):Inv X pins σ H { s with heap:=h',toks:=t' }:=by
 have nit:∀ b u,H b=some u→b≠it:=fun b u e z=>by rw [z,hn] at e;cases e
 refine I.step (g':=s.gens) (d':=s.drawn) (ch:=[it]) (fun b hb=>?_) (fun b o _ _ hc e _=>k b o (fun z=>hc (by simp [z])) e) (fun b o _ _ hc e _=>⟨o.slots,k b o (fun z=>hc (by simp [z])) e⟩) (fun _ _ _ _ n=>n)
  (fun b o hc e=>⟨o,k b o (fun z=>hc (by simp [z])) e⟩) (fun _ _ e=>e) (fun _ _ _ e=>e) (fun b ps e=>⟨#[],by rw [e];simp⟩) (fun m hm=>?_) (fun b u e=>?_) I.bare
 · have e:b=it:=by simpa using hb
   subst e
   exact ⟨h1,hL,h2,h3⟩
 · obtain ⟨o,es,ep,ho,r⟩:=hm
   exact ⟨o,es,ep,k _ o (Ne.symm hL) ho,r⟩
 · refine (I.hok b u e).stay (fun c v hc q=>k c v ?_ q) (fun _ q=>q) fun _ _ q=>q
   rcases hc with z | z
   · rw [z];exact nit b u e
   · exact nit c _ z
theorem Inv.tok (I:Inv X pins σ H s) (t:Nat):Inv X pins σ H { s with toks:=t }:=I.un (h':=s.heap) (t':=t) Un.refl I.hok
theorem Inv.kept {t':Nat} (I:Inv X pins σ H s) (k:∀ b u,s.heap.get? b=some u→h'.get? b=some u):Inv X pins σ H { s with heap:=h',toks:=t' }:=I.un (Un.kept k) (I.hok.kept k)
theorem Inv.laid {a:Addr}{o:HO}{t':Nat} (I:Inv X pins σ H s) (k:∀ b u,s.heap.get? b=some u→h'.get? b=some u) (hp:s.heap.objs.size≤a) (new:ObjOk X.prog X.w (upd H a o) h' a o):
  Inv X pins σ (upd H a o) { s with heap:=h',toks:=t' }:=I.un (Un.laid k hp (I.hok.fresh hp)) (I.hok.laid k hp new)
theorem Inv.write {x e:Addr}{o:HO}{t':Nat} (I:Inv X pins σ H s) (mu:Mut (H x)) (he:e=x∨H e=some (.own x)) (k:∀ b u,b≠e→s.heap.get? b=some u→h'.get? b=some u) (heo:∃ u,h'.get? e=some u)
  (new:ObjOk X.prog X.w (upd H x o) h' x o):Inv X pins σ (upd H x o) { s with heap:=h',toks:=t' }:=I.un (Un.write mu he k heo) (I.hok.write mu he k heo new)
theorem Inv.pins_of {pins':List (Addr × Obj)} (I:Inv X pins σ H s) (h:∀ p∈pins',s.heap.get? p.1=some p.2∧H p.1=none∧p.1≠X.env.locals∧p.1∉X.fs∧∀ v,p.2.data≠.cell v):Inv X pins' σ H s:=
 ⟨I.ok,I.os,I.bare,I.base,I.loc,I.cell,I.free,I.freeC,fun p hp=>(List.mem_append.mp hp).elim (fun z=>I.pin p (List.mem_append_left _ z)) (h p),I.hok,I.len⟩
theorem nodup_ix {N:List Str} (hN:N.Nodup) {i j:Nat}{x:Str} (a:N[i]?=some x) (b:N[j]?=some x):i=j:=by
 obtain ⟨h1,e1⟩:=List.getElem?_eq_some_iff.mp a
 obtain ⟨h2,e2⟩:=List.getElem?_eq_some_iff.mp b
 exact (List.getElem_inj hN).mp (e1.trans e2.symm)
theorem store_ok2 {M:Model}{A:Around}{E:Value→Shared→Prop}{i:Nat}{x:Str}{v:V}{u:Value}{Q:Unit→Shared→Prop} (I:Inv X pins σ H s) (hN:X.N.Nodup) (hi:X.N[i]?=some x) (hx:Loc X.env.scope x) (r:RelV v u)
  (h:∀ s',Inv X pins (σ.set i (some v)) H s'→(∃ a,Heap.SameBut a s.heap s'.heap∧(a=X.env.locals∨X.env.cells.lookup x=some a))→Q () s') (hf:X.fn x=true∨X.env.scope.names.lookup x=some .local:=by first | exact .inl rfl | exact .inr rfl | assumption):wpAny M A (storeName X.env x u) Q E s:=by
 obtain ⟨m,hn,hl⟩:=id I.loc
 have hcls:(X.env.scope.kind == .class || (X.env.scope.kind == .module && X.env.locals != X.env.globals))=false:=by rw [I.ok.kind];rfl
 have hiσ:i < σ.length:=by rw [I.len];exact (List.getElem?_eq_some_iff.mp hi).1
 have cne:=I.cne
 have tracked:∀ {a:Addr}{h':Heap},(∃ o,s.heap.get? a=some o∧H a=none)→Heap.SameBut a s.heap h'→HOk X.prog X.w H h':=fun {a h'} ha hs b ob e=>by
  obtain ⟨_,_,hfree⟩:=ha
  refine (I.hok b ob e).stay (fun c w' hc q=>(hs.2 c ?_).trans q) (fun _ q=>q) fun _ _ q=>q
  rintro rfl
  rcases hc with rfl | hc
  · rw [hfree] at e;cases e
  · rw [hfree] at hc;cases hc
 rcases hx with hk | hk
 · refine wpAny_storeName_local hk hn (fun h' hn' hs=>?_) hcls
   obtain ⟨oL,_,_,hoL,_⟩:=id hn
   refine h _ ⟨I.ok,I.os,I.bare,⟨fun b o e n hb hx=>?_,fun b o e n hb hx=>?_,I.base.free,fun b o e hx=>?_,I.base.tups,I.base.frzs,I.base.tbls⟩,⟨_,hn',fun j y v' e1 e2 e3=>?_⟩,fun y c e=>?_,I.free,I.freeC,fun p hp=>?_,tracked ⟨oL,hoL,I.free⟩ hs,by simpa using I.len⟩ ⟨_,hs,.inl rfl⟩
   · exact (hs.2 b (Nat.ne_of_lt (Nat.lt_of_lt_of_le (Heap.lt_size e) I.ok.above))).trans (I.base.keep b o e n hb hx)
   · obtain ⟨sl,e1⟩:=I.base.slot b o e n hb hx
     exact ⟨sl,(hs.2 b (Nat.ne_of_lt (Nat.lt_of_lt_of_le (Heap.lt_size e) I.ok.above))).trans e1⟩
   · obtain ⟨o',e1⟩:=I.base.there b o e hx
     exact ⟨o',(hs.2 b (Nat.ne_of_lt (Nat.lt_of_lt_of_le (Heap.lt_size e) I.ok.above))).trans e1⟩
   · by_cases hj:j=i
     · subst hj
       rw [hi] at e1;cases e1
       rw [List.getElem?_set_self hiσ] at e2
       cases e2
       exact ⟨u,r,.inl ⟨hk,by simp⟩⟩
     · rw [List.getElem?_set_ne (Ne.symm hj)] at e2
       obtain ⟨u',r',q⟩:=hl j y v' e1 e2 e3
       refine ⟨u',r',?_⟩
       rcases q with ⟨k,e⟩ | ⟨k,c,e,z⟩
       · refine .inl ⟨k,?_⟩
         have:y≠x:=fun e=>hj (nodup_ix hN e1 (e▸hi))
         simp [this,e]
       · exact .inr ⟨k,c,e,z.sameBut hs (cne y c e)⟩
   · obtain ⟨w',z⟩:=I.cell y c e
     exact ⟨w',z.sameBut hs (cne y c e)⟩
   · obtain ⟨e,n,ne,nf,d⟩:=I.pin p hp
     exact ⟨(hs.2 p.1 ne).trans e,n,ne,nf,d⟩
 · have hfn:X.fn x=true:=by
     rcases hf with z | z
     · exact z
     · rw [z] at hk;cases hk
   obtain ⟨c,hc⟩:=I.ok.has x (.inl hk)
   obtain ⟨w',z⟩:=I.cell x c hc
   refine wpAny_storeName_cell I.ok.kind hk hc z (fun h' hc' hs=>?_)
   obtain ⟨oc,hoc,hocd⟩:=id z
   refine h { s with heap:=h' } ⟨I.ok,I.os,I.bare,⟨fun b o e n hb hx=>?_,fun b o e n hb hx=>?_,I.base.free,fun b o e hx=>?_,I.base.tups,I.base.frzs,I.base.tbls⟩,⟨m,hn.sameBut hs (Ne.symm (cne x c hc)),fun j y v' e1 e2 e3=>?_⟩,fun y c' e=>?_,I.free,I.freeC,fun p hp=>?_,tracked ⟨oc,hoc,I.freeC x c hc⟩ hs,by simpa using I.len⟩ ⟨c,hs,.inr hc⟩
   · exact (hs.2 b (Nat.ne_of_lt (Nat.lt_of_lt_of_le (Heap.lt_size e) (I.ok.cab x c hfn hc)))).trans (I.base.keep b o e n hb hx)
   · obtain ⟨sl,e1⟩:=I.base.slot b o e n hb hx
     exact ⟨sl,(hs.2 b (Nat.ne_of_lt (Nat.lt_of_lt_of_le (Heap.lt_size e) (I.ok.cab x c hfn hc)))).trans e1⟩
   · obtain ⟨o',e1⟩:=I.base.there b o e hx
     exact ⟨o',(hs.2 b (Nat.ne_of_lt (Nat.lt_of_lt_of_le (Heap.lt_size e) (I.ok.cab x c hfn hc)))).trans e1⟩
   · by_cases hj:j=i
     · subst hj
       rw [hi] at e1;cases e1
       rw [List.getElem?_set_self hiσ] at e2
       cases e2
       exact ⟨u,r,.inr ⟨.inl hk,c,hc,hc'⟩⟩
     · rw [List.getElem?_set_ne (Ne.symm hj)] at e2
       obtain ⟨u',r',q⟩:=hl j y v' e1 e2 e3
       refine ⟨u',r',?_⟩
       rcases q with q | ⟨k,c',e,z'⟩
       · exact .inl q
       · refine .inr ⟨k,c',e,z'.sameBut hs ?_⟩
         rintro rfl
         exact hj (nodup_ix hN e1 (I.ok.inj _ _ _ e hc▸hi))
   · by_cases hcc:c'=c
     · subst hcc;exact ⟨_,hc'⟩
     · obtain ⟨w2,z2⟩:=I.cell y c' e
       exact ⟨w2,z2.sameBut hs hcc⟩
   · obtain ⟨e,n,ne,nf,d⟩:=I.pin p hp
     refine ⟨(hs.2 p.1 ?_).trans e,n,ne,nf,d⟩
     intro q
     rw [q,hoc] at e
     have q':oc=p.2:=Option.some.inj e
     exact d w' (by rw [← q'];exact hocd)
theorem store_ok {M:Model}{A:Around}{E:Value→Shared→Prop}{i:Nat}{x:Str}{v:V}{u:Value}{Q:Unit→Shared→Prop} (I:Inv X pins σ H s) (hN:X.N.Nodup) (hi:X.N[i]?=some x) (hx:Loc X.env.scope x) (r:RelV v u)
  (h:∀ s',Inv X pins (σ.set i (some v)) H s'→Q () s') (hf:X.fn x=true∨X.env.scope.names.lookup x=some .local:=by first | exact .inl rfl | exact .inr rfl | assumption):wpAny M A (storeName X.env x u) Q E s:=
 store_ok2 I hN hi hx r (fun s' I' _=>h s' I') hf
theorem Inv.call' {s':Shared}{ch:List Addr} (I:Inv X pins σ H s) (ho:s'.os=s.os) (u:Un (frs X.stack) ch H H' s.heap s'.heap) (hok:HOk X.prog X.w H' s'.heap) (hg:AllBare s'.gens)
  (hch:∀ b∈ch,(b∈X.ex∨X.s₀.heap.objs.size≤b)∧b≠X.env.locals∧(∀ x c,X.env.cells.lookup x=some c→c≠b)∧∀ p∈X.pn++pins,p.1≠b):Inv X pins σ H' s':=by
 obtain ⟨h',g',d',t',o'⟩:=s'
 have e:o'=s.os:=ho
 subst e
 exact I.call (g':=g') (t':=t') (d':=d') u hok hg hch
end
abbrev XK:=Value→Option Addr→Hp→Prop
abbrev St:=List (Option V)
abbrev VK:=V→Hp→Prop
abbrev TE:=St→Hp→VK→Prop
abbrev TT:=St→Hp→(Bool→Hp→Prop)→Prop
abbrev TA:=St→Hp→(List V→Hp→Prop)→Prop
structure Ends where
 nx:St→Hp→Prop
 rt:VK
 bk:St→Hp→Prop:=fun _ _=>False
 ct:St→Hp→Prop:=fun _ _=>False
abbrev TS:=Ends→St→Hp→Prop
def EP (X:Cx) (pins:List (Addr × Obj)) (σ:St) (Q:VK) (u:Value) (s':Shared):Prop:=∃ v H',Inv X pins σ H' s'∧RelV v u∧Q v H'
def TP (X:Cx) (pins:List (Addr × Obj)) (σ:St) (Q:Bool→Hp→Prop) (b:Bool) (s':Shared):Prop:=∃ H',Inv X pins σ H' s'∧Q b H'
def AP (X:Cx) (pins:List (Addr × Obj)) (σ:St) (Q:List V→Hp→Prop) (us:List Value) (s':Shared):Prop:=∃ vs H',Inv X pins σ H' s'∧Vals vs us∧Q vs H'
def SP (X:Cx) (pins:List (Addr × Obj)) (D:Ends) (f:Flow) (s':Shared):Prop:=
 match f with
 | .next=>∃ σ' H',Inv X pins σ' H' s'∧D.nx σ' H'
 | .brk=>∃ σ' H',Inv X pins σ' H' s'∧D.bk σ' H'
 | .cont=>∃ σ' H',Inv X pins σ' H' s'∧D.ct σ' H'
 | .ret u=>∃ v σ' H',Inv X pins σ' H' s'∧RelV v u∧D.rt v H'
def PE (X:Cx) (e:Expr) (t:TE):Prop:=
 ∀ (pins:List (Addr × Obj)) (s:Shared) (σ:St) (H:Hp) (Q:VK),Inv X pins σ H s→t σ H Q→wpAny (model X.prog X.w) X.A (eval e X.env) (EP X pins σ Q) X.xe s
def PT (X:Cx) (e:Expr) (t:TT):Prop:=
 ∀ (pins:List (Addr × Obj)) (s:Shared) (σ:St) (H:Hp) (Q:Bool→Hp→Prop),Inv X pins σ H s→t σ H Q→wpAny (model X.prog X.w) X.A (isTrue e X.env (eval e X.env)) (TP X pins σ Q) X.xe s
def PW (X:Cx) (e:Expr) (t:TT):Prop:=
 ∀ (whole:Sem Value) (pins:List (Addr × Obj)) (s:Shared) (σ:St) (H:Hp) (Q:Bool→Hp→Prop),Inv X pins σ H s→t σ H Q→wpAny (model X.prog X.w) X.A (isTrue e X.env whole) (TP X pins σ Q) X.xe s
theorem PW.pt {X:Cx}{e:Expr}{t:TT} (h:PW X e t):PT X e t:=h _
def PA (X:Cx) (es:List Expr) (t:TA):Prop:=
 ∀ (pos:Pos) (pins:List (Addr × Obj)) (s:Shared) (σ:St) (H:Hp) (Q:List V→Hp→Prop),Inv X pins σ H s→t σ H Q→wpAny (model X.prog X.w) X.A (spliced (backTo pos (starEach es X.env))) (AP X pins σ Q) X.xe s
def PS (X:Cx) (st:Stmt) (t:TS):Prop:=
 ∀ (pins:List (Addr × Obj)) (s:Shared) (σ:St) (H:Hp) (D:Ends),Inv X pins σ H s→t D σ H→wpAny (model X.prog X.w) X.A (exec st X.env) (SP X pins D) X.xe s
def PSs (X:Cx) (st:List Stmt) (t:TS):Prop:=
 ∀ (pins:List (Addr × Obj)) (s:Shared) (σ:St) (H:Hp) (D:Ends),Inv X pins σ H s→t D σ H→wpAny (model X.prog X.w) X.A (execs st X.env) (SP X pins D) X.xe s
theorem thn {α:Type}{t:Sem α}{Q Q':α→Shared→Prop}{M:Model}{A:Around}{E:Value→Shared→Prop}{s:Shared} (h:wpAny M A t Q E s) (hQ:∀ a s,Q a s→Q' a s):wpAny M A t Q' E s:=wpAny_mono h hQ fun _ _ x=>x
section
variable {X:Cx}
def tVar (i:Nat):TE:=fun σ H Q=>∃ v,σ[i]?=some (some v)∧Q v H
def tC (v:V):TE:=fun _ H Q=>Q v H
theorem pe_var {i:Nat}{x:Str}{pos:Pos} (hN:X.N[i]?=some x) (hv:Vis X.env.scope x) (hd:(x == ("__debug__":Str))=false:=by decide) (hcd:(x == ("__classdict__":Str))=false:=by decide):PE X (.Name x pos) (tVar i):=by
 intro pins s σ H Q I h
 obtain ⟨v,e,h⟩:=h
 obtain ⟨m,hn,hl⟩:=I.loc
 obtain ⟨u,r,l⟩:=hl i x v hN e hv
 have fin:EP X pins σ Q u s:=⟨v,H,I,r,h⟩
 rcases l with ⟨hk,hm⟩ | ⟨hk,c,hc,hcell⟩
 · exact wpAny_Name (wpAny_loadName_local I.ok.kind hk hn hm fin) hd
 · rcases hk with hk | hk
   · exact wpAny_Name (wpAny_loadName_cell I.ok.kind hk hc hcell fin) hd
   · exact wpAny_Name (wpAny_loadName_free I.ok.kind hk hc hcell fin hcd) hd
theorem pe_int {i j pos}:PE X (.Constant (.int i) j pos) (tC (.int i)):=fun _ _ _ H _ I h=>wpAny_Constant_int ⟨.int i,H,I.tok _,⟨_,rfl⟩,h⟩
theorem pe_bl {b j pos}:PE X (.Constant (.bool b) j pos) (tC (.bl b)):=fun _ _ _ H _ I h=>Constant_bool ⟨.bl b,H,I,rfl,h⟩
theorem pe_non {j pos}:PE X (.Constant .none j pos) (tC .non):=fun _ _ _ H _ I h=>Constant_none ⟨.non,H,I,rfl,h⟩
theorem pe_str {x j pos}:PE X (.Constant (.str x) j pos) (tC (.str x)):=fun _ _ _ H _ I h=>Calls.Constant_str ⟨.str x,H,I.tok _,⟨_,rfl⟩,h⟩
def Gl (X:Cx) (x:Str):Prop:=X.env.kindOf x=some .globalImplicit
theorem ld_glob {E:Value→Shared→Prop}{pins:List (Addr × Obj)}{s:Shared}{σ:St}{H:Hp}{x:Str}{u:Value}{pos:Pos}{Q:Value→Shared→Prop} (I:Inv X pins σ H s) (hg:Gl X x) (hm:X.mg x=some u) (h:Q u s)
  (hd:(x == ("__debug__":Str))=false:=by decide):wpAny (model X.prog X.w) X.A (eval (.Name x pos) X.env) Q E s:=
 Calls.Name_function_global I.ok.kind hg (Calls.loadGlobal_global (by rw [I.ok.glob];exact I.mod.glob.keeps I.bk) hm h) hd
theorem ld_blt {E:Value→Shared→Prop}{pins:List (Addr × Obj)}{s:Shared}{σ:St}{H:Hp}{x:Str}{u:Value}{pos:Pos}{Q:Value→Shared→Prop} (I:Inv X pins σ H s) (hg:Gl X x) (hm:X.mg x=none) (hv:bootBuiltins x=some u) (h:Q u s)
  (hn:x≠"__name__":=by decide) (hd:(x == ("__debug__":Str))=false:=by decide):wpAny (model X.prog X.w) X.A (eval (.Name x pos) X.env) Q E s:=by
 obtain ⟨mb,h1,h2⟩:=I.mod.blt
 exact Calls.Name_function_global I.ok.kind hg (Calls.loadGlobal_builtin (by rw [I.ok.glob];exact I.mod.glob.keeps I.bk) hm (by rw [I.ok.blt];exact h1.keeps I.bk) ((h2 x hn).trans hv) h) hd
theorem pe_glob {x:Str}{v:V}{u:Value}{pos:Pos} (hg:Gl X x) (hm:X.mg x=some u) (r:RelV v u) (hd:(x == ("__debug__":Str))=false:=by decide):PE X (.Name x pos) (tC v):=
 fun _ _ _ H _ I h=>ld_glob I hg hm ⟨v,H,I,r,h⟩ hd
theorem pe_bltn {x:Str}{v:V}{u:Value}{pos:Pos} (hg:Gl X x) (hm:X.mg x=none) (hv:bootBuiltins x=some u) (r:RelV v u) (hn:x≠"__name__":=by decide) (hd:(x == ("__debug__":Str))=false:=by decide):PE X (.Name x pos) (tC v):=
 fun _ _ _ H _ I h=>ld_blt I hg hm hv ⟨v,H,I,r,h⟩ hn hd
variable {a b:Expr}{ta tb:TE}{pos:Pos}
def tB (t:TE):TT:=fun σ H Q=>t σ H fun x H1=>∃ c,x=.bl c∧Q c H1
theorem pt_val {e:Expr}{t:TE} (h:PE X e t) (he:∀ whole,isTrue e X.env whole=(do let v ← whole;standAt e.pos;holding [v] (truthy v)):=by intro _;rfl):PT X e (tB t):=by
 intro pins s σ H Q I hw
 refine isTrue_plain (thn (h pins s σ H _ I hw) fun v s1 ⟨x,H1,I1,r1,q1⟩=>?_) (he _)
 obtain ⟨d,rfl,q⟩:=q1
 cases r1
 exact wpAny_truthy_bool ⟨H1,I1,q⟩
variable {tA tB':TT}{rest:List Expr}
def tOr (t u:TT):TT:=fun σ H Q=>t σ H fun c H1=>if c=true then Q true H1 else u σ H1 Q
def tNot (t:TT):TT:=fun σ H Q=>t σ H fun c H1=>Q (!c) H1
theorem pw_or1 (ha:PT X a tA):PW X (.BoolOp .Or [a] pos) tA:=by
 intro wh pins s σ H Q I h
 refine isTrue_or (thn (ha pins s σ H Q I h) fun c s1 e=>?_)
 cases c with
 | false=>exact isTrue_or_nil e
 | true=>exact e
theorem pw_or (ha:PT X a tA) (hb:PW X (.BoolOp .Or (b::rest) pos) tB'):PW X (.BoolOp .Or (a::b::rest) pos) (tOr tA tB'):=by
 intro wh pins s σ H Q I h
 refine isTrue_or (thn (ha pins s σ H _ I h) fun c s1 ⟨H1,I1,q1⟩=>?_)
 cases c with
 | true=>exact ⟨H1,I1,q1⟩
 | false=>exact hb wh pins s1 σ H1 Q I1 q1
theorem pt_not (ha:PT X a tA):PT X (.UnaryOp .Not a pos) (tNot tA):=by
 intro pins s σ H Q I h
 exact isTrue_not (ha pins s σ H (fun c H1=>Q (!c) H1) I h)
def tAndV (ta tb:TE):TE:=fun σ H Q=>ta σ H fun x H1=>∃ c,x=.bl c∧if c=true then tb σ H1 Q else Q (.bl false) H1
theorem pe_one {op}{t:TE} (h:PE X a t):PE X (.BoolOp op [a] pos) t:=fun pins s σ H Q I hw=>BoolOp_one (h pins s σ H Q I hw)
theorem pe_and (ha:PE X a ta) (hb:PE X (.BoolOp .And (b::rest) pos) tb):PE X (.BoolOp .And (a::b::rest) pos) (tAndV ta tb):=by
 intro pins s σ H Q I h
 refine BoolOp_and (thn (ha pins s σ H _ I h) fun v s1 ⟨x,H1,I1,r1,q1⟩=>?_)
 obtain ⟨c,rfl,q1⟩:=q1
 cases r1
 refine wpAny_truthy_bool ?_
 cases c with
 | true=>exact hb pins s1 σ H1 Q I1 q1
 | false=>exact ⟨.bl false,H1,I1,rfl,q1⟩
end
def SqL (K:PySem.W.Frag) (H:Hp) (a:Addr) (xs:List V):Prop:=
 Rd H a (.lst xs)∨
  ∃ (o:Obj) (its:Array Value) (n:Nat),K.lookup a=some o∧o.cls=.type "list"∧o.dict=none∧o.data=.seq its n∧its.size≤sizeLine∧Vals xs its.toList
def SqT (K:PySem.W.Frag) (H:Hp) (a:Addr) (xs:List V):Prop:=
 Rd H a (.tup xs)∨
  ∃ (o:Obj) (its:Array Value) (n:Nat),K.lookup a=some o∧o.cls=.type "tuple"∧o.data=.seq its n∧its.size≤sizeLine∧Vals xs its.toList
def absV:Value→Option V
 | .none=>some .non
 | .bool b=>some (.bl b)
 | .int i _=>some (.int i)
 | .str x _=>some (.str x)
 | .bytes b _=>some (.byt b)
 | .float b _=>some (.flt b)
 | .ref a=>some (.ref a)
 | .type n=>some (.ty n)
 | _=>none
theorem RelV.abs {x:V}{u:Value} (r:RelV x u):absV u=some x:=by
 cases x with
 | non=>cases r;rfl
 | bl _=>cases r;rfl
 | int _=>obtain ⟨t,rfl⟩:=r;rfl
 | str _=>obtain ⟨t,rfl⟩:=r;rfl
 | byt _=>obtain ⟨t,rfl⟩:=r;rfl
 | flt _=>obtain ⟨t,rfl⟩:=r;rfl
 | ref _=>cases r;rfl
 | ty _=>cases r;rfl
theorem RelV.inj {x y:V}{u:Value} (r:RelV x u) (q:RelV y u):x=y:=Option.some.inj (r.abs.symm.trans q.abs)
theorem Vals.inj:∀ {xs ys:List V}{us:List Value},Vals xs us→Vals ys us→xs=ys
 | _,_,_,.nil,.nil=>rfl
 | _,_,_,.cons r t,.cons r' t'=>by rw [r.inj r',Vals.inj t t']
section
variable {X:Cx}{pins:List (Addr × Obj)}{σ:St}{H:Hp}{s:Shared}{a:Addr}{xs ys:List V}
theorem SqL.of {K:PySem.W.Frag} (h:H a=some (.lst xs)):SqL K H a xs:=.inl (.inl h)
theorem SqT.of {K:PySem.W.Frag} (h:H a=some (.tup xs)):SqT K H a xs:=.inl (.inl h)
theorem Inv.list (I:Inv X pins σ H s) (h:SqL X.K H a xs):∃ its:List Value,Vals xs its∧PlainL s.heap a its.toArray∧xs.length≤sizeLine:=by
 rcases h with h | ⟨o,its,n,hk,hc,hd,hs,hz,r⟩
 · obtain ⟨z,its,n,r,e⟩:=h.ok I.hok
   exact ⟨its,r,⟨_,n,e,rfl,rfl,rfl⟩,z⟩
 · refine ⟨its.toList,r,⟨o,n,I.kIn a o hk,hc,hd,by simpa using hs⟩,?_⟩
   have e:=r.length
   simp only [Array.length_toList] at e
   omega
theorem Inv.tuple (I:Inv X pins σ H s) (h:SqT X.K H a xs):∃ its:List Value,Vals xs its∧IsTup s.heap a its.toArray∧xs.length≤sizeLine:=by
 rcases h with h | ⟨o,its,n,hk,hc,hs,hz,r⟩
 · obtain ⟨z,its,r,p⟩:=h.ok I.hok
   exact ⟨its,r,p,z⟩
 · refine ⟨its.toList,r,⟨o,I.kIn a o hk,hc,n,by simpa using hs⟩,?_⟩
   have e:=r.length
   simp only [Array.length_toList] at e
   omega
theorem Inv.list_inj (I:Inv X pins σ H s) (h:SqL X.K H a xs) (h':SqL X.K H a ys):xs=ys:=by
 obtain ⟨its,r,⟨o,n,e,_,_,d⟩,_⟩:=I.list h
 obtain ⟨its',r',⟨o',n',e',_,_,d'⟩,_⟩:=I.list h'
 rw [e] at e';cases e'
 rw [d] at d'
 injection d' with d1 _
 have:its=its':=by simpa using congrArg Array.toList d1
 subst this
 exact r.inj r'
end
abbrev Cx.wish (X:Cx) (E:Value→Shared→Prop):Cx:={ X with xe:=E }
abbrev Cx.nox (X:Cx):Cx:=X.wish fun _ _=>False
theorem Cx.Ok.wish {X:Cx} (ok:X.Ok) (E:Value→Shared→Prop):(X.wish E).Ok:=
 ⟨ok.mod,ok.kind,ok.glob,ok.blt,ok.above,ok.inj,ok.has,ok.cab,ok.hd,ok.frames,ok.stk,ok.exf,ok.bs,ok.bsz,ok.noex,ok.exfs,ok.funs,ok.frf⟩
theorem Cx.Ok.unwish {X:Cx}{E:Value→Shared→Prop} (ok:(X.wish E).Ok):X.Ok:=
 ⟨ok.mod,ok.kind,ok.glob,ok.blt,ok.above,ok.inj,ok.has,ok.cab,ok.hd,ok.frames,ok.stk,ok.exf,ok.bs,ok.bsz,ok.noex,ok.exfs,ok.funs,ok.frf⟩
section
variable {X:Cx}{pins:List (Addr × Obj)}{σ:St}{H:Hp}{s:Shared}{E:Value→Shared→Prop}
theorem Inv.wish (I:Inv X pins σ H s) (E:Value→Shared→Prop):Inv (X.wish E) pins σ H s:=⟨I.ok.wish E,I.os,I.bare,I.base,I.loc,I.cell,I.free,I.freeC,I.pin,I.hok,I.len⟩
theorem Inv.unwish (I:Inv (X.wish E) pins σ H s):Inv X pins σ H s:=⟨I.ok.unwish,I.os,I.bare,I.base,I.loc,I.cell,I.free,I.freeC,I.pin,I.hok,I.len⟩
theorem SP.unwish {D:Ends}{f:Flow}{s':Shared} (h:SP (X.wish E) pins D f s'):SP X pins D f s':=by
 cases f with
 | next=>obtain ⟨σ',H',I,q⟩:=h;exact ⟨σ',H',I.unwish,q⟩
 | brk=>obtain ⟨σ',H',I,q⟩:=h;exact ⟨σ',H',I.unwish,q⟩
 | cont=>obtain ⟨σ',H',I,q⟩:=h;exact ⟨σ',H',I.unwish,q⟩
 | ret u=>obtain ⟨v,σ',H',I,r,q⟩:=h;exact ⟨v,σ',H',I.unwish,r,q⟩
theorem PSs.nox {st:List Stmt}{t:TS} (h:PSs X.nox st t):PSs X st t:=fun pins s σ H D I hw=>
 wpAny_mono (h pins s σ H D (I.wish _) hw) (fun _ _ q=>q.unwish) fun _ _ z=>False.elim z
end
section
variable {X:Cx}{st:Stmt}{rest:List Stmt}{t u:TS}{e:Expr}{te:TE}{pos:Pos}
def tNext:TS:=fun D σ H=>D.nx σ H
def tSeq (t u:TS):TS:=fun D σ H=>t { D with nx:=u D } σ H
theorem pss_nil:PSs X [] tNext:=fun _ _ σ H _ I h=>wpAny_execs_nil ⟨σ,H,I,h⟩
theorem pss_cons (h1:PS X st t) (h2:PSs X rest u):PSs X (st::rest) (tSeq t u):=by
 intro pins s σ H D I h
 refine wpAny_execs_cons (thn (h1 pins s σ H { D with nx:=u D } I h) fun f s1 q=>?_)
 cases f with
 | next=>
  obtain ⟨σ',H',I',q⟩:=q
  exact h2 pins s1 σ' H' D I' q
 | ret v=>exact q
 | brk=>exact q
 | cont=>exact q
theorem pss_one (h1:PS X st t):PSs X [st] t:=by
 intro pins s σ H D I h
 refine wpAny_execs_cons (thn (h1 pins s σ H D I h) fun f s1 q=>?_)
 cases f with
 | next=>exact wpAny_execs_nil q
 | ret v=>exact q
 | brk=>exact q
 | cont=>exact q
def tCont:TS:=fun D σ H=>D.ct σ H
theorem ps_continue:PS X (.Continue pos) tCont:=fun _ _ σ H _ I h=>wpAny_Continue ⟨σ,H,I,h⟩
theorem Inv.quiet {pins:List (Addr × Obj)}{σ:St}{H:Hp}{s:Shared} (I:Inv X pins σ H s):interactive X.env=false:=by simp [interactive,I.ok.kind]
def tDrop (te:TE):TS:=fun D σ H=>te σ H fun _ H1=>D.nx σ H1
theorem ps_expr (he:PE X e te) (hs:swapsWith e none pos.line X.env=pure false:=by rfl):PS X (.Expr e pos) (tDrop te):=by
 intro pins s σ H D I h
 exact wpAny_Expr_any (thn (he pins s σ H _ I h) fun v s1 ⟨x,H1,I1,r1,q1⟩=>⟨σ,H1,I1,q1⟩) I.quiet hs
def tRet (te:TE):TS:=fun D σ H=>te σ H D.rt
theorem ps_ret (he:PE X e te):PS X (.Return (some e) pos) (tRet te):=by
 intro pins s σ H D I h
 exact wpAny_Return_some (thn (he pins s σ H _ I h) fun v s1 ⟨x,H1,I1,r1,q1⟩=>⟨x,σ,H1,I1,r1,q1⟩)
def tIfS (c:TT) (t u:TS):TS:=fun D σ H=>c σ H fun b H1=>if b=true then t D σ H1 else u D σ H1
theorem ps_if {c:Expr}{a b:List Stmt}{tc:TT} (hc:PT X c tc) (ha:PSs X a t) (hb:PSs X b u):PS X (.If c a b pos) (tIfS tc t u):=by
 intro pins s σ H D I h
 refine wpAny_If (thn (hc pins s σ H _ I h) fun d s1 ⟨H1,I1,q1⟩=>?_)
 cases d with
 | true=>exact ha pins s1 σ H1 D I1 q1
 | false=>exact hb pins s1 σ H1 D I1 q1
def tNever:TS:=fun _ _ _=>False
theorem ps_never:PS X st tNever:=fun _ _ _ _ _ _ h=>h.elim
end
abbrev TG:=V→St→Hp→(St→Hp→Prop)→Prop
abbrev TGs:=List V→St→Hp→(St→Hp→Prop)→Prop
def PG (X:Cx) (target:Expr) (t:TG):Prop:=
 ∀ (pins:List (Addr × Obj)) (s:Shared) (σ:St) (H:Hp) (v:V) (u:Value) (Q:St→Hp→Prop),Inv X pins σ H s→RelV v u→t v σ H Q→
  wpAny (model X.prog X.w) X.A (assign target X.env u) (fun _ s'=>∃ σ' H',Inv X pins σ' H' s'∧Q σ' H') X.xe s
def PGs (X:Cx) (ts:List Expr) (t:TGs):Prop:=
 ∀ (pins:List (Addr × Obj)) (s:Shared) (σ:St) (H:Hp) (vs:List V) (us:List Value) (Q:St→Hp→Prop),Inv X pins σ H s→Vals vs us→t vs σ H Q→
  wpAny (model X.prog X.w) X.A (assignInOrder ((assignEach ts X.env).map (·.2)) us) (fun _ s'=>∃ σ' H',Inv X pins σ' H' s'∧Q σ' H') X.xe s
abbrev TSet:=V→V→V→Hp→(Hp→Prop)→Prop
def PSet (X:Cx) (t:TSet):Prop:=
 ∀ (pins:List (Addr × Obj)) (s:Shared) (σ:St) (H:Hp) (o i v:V) (ov iv u:Value) (Q:Hp→Prop),Inv X pins σ H s→RelV o ov→RelV i iv→RelV v u→t o i v H Q→
  wpAny (model X.prog X.w) X.A (setItem ov iv u) (fun _ s'=>∃ H',Inv X pins σ H' s'∧Q H') X.xe s
section
variable {X:Cx}{pos:Pos}
def gName (i:Nat):TG:=fun v σ H Q=>Q (σ.set i (some v)) H
theorem pg_name {i:Nat}{x:Str} (hN:X.N.Nodup) (hi:X.N[i]?=some x) (hx:Loc X.env.scope x) (hf:X.fn x=true∨X.env.scope.names.lookup x=some .local:=by first | exact .inl rfl | exact .inr rfl | assumption):PG X (.Name x pos) (gName i):=by
 intro pins s σ H v u Q I r h
 exact wpAny_assign_Name (store_ok I hN hi hx r (fun s' I'=>⟨_,H,I',h⟩) hf)
def gNil:TGs:=fun vs σ H Q=>vs=[]∧Q σ H
def gCons (t:TG) (u:TGs):TGs:=fun vs σ H Q=>∃ v r,vs=v::r∧t v σ H fun σ' H'=>u r σ' H' Q
theorem pgs_nil:PGs X [] gNil:=by
 intro pins s σ H vs us Q I r h
 obtain ⟨e,h⟩:=h
 subst e
 cases r
 exact assignInOrder_nil ⟨σ,H,I,h⟩
theorem pgs_cons {e:Expr}{es:List Expr}{t:TG}{u:TGs} (h1:PG X e t) (h2:PGs X es u)
  (hs:(assignEach (e::es) X.env).map (·.2)=assign e X.env::(assignEach es X.env).map (·.2):=by rfl):PGs X (e::es) (gCons t u):=by
 intro pins s σ H vs us Q I r h
 obtain ⟨v,vr,e1,h⟩:=h
 subst e1
 cases r with
 | cons r rr=>
  rw [hs]
  refine assignInOrder_cons (thn (h1 pins s σ H _ _ _ I r h) fun _ s1 ⟨σ1,H1,I1,q1⟩=>?_)
  exact h2 pins s1 σ1 H1 _ _ Q I1 rr q1
def gTup (K:PySem.W.Frag) (n:Nat) (t:TGs):TG:=fun v σ H Q=>∃ a xs,v=.ref a∧SqT K H a xs∧xs.length=n∧t xs σ H Q
theorem pg_tup {es:List Expr}{k:Nat}{t:TGs}{n:Nat} (hc:X.calm=true) (h:PGs X es t)
  (hn:(assignEach es X.env).length=n:=by rfl) (hst:(assignEach es X.env).findIdx? (·.1)=none:=by rfl):PG X (.Tuple es k pos) (gTup X.K n t):=by
 intro pins s σ H v u Q I r hw
 obtain ⟨a,xs,e1,hq,hl,hw⟩:=hw
 subst e1
 cases r
 obtain ⟨its,rv,ht,hz⟩:=I.tuple hq
 refine assign_Tuple_tuple (I.ok.hd hc) ht (by simp [hn, ← hl,rv.length]) hst fun h' hx=>?_
 have I1:Inv X pins σ H { s with heap:=h' }:=I.kept (t':=s.toks) fun b o e=>hx b o (Nat.ne_of_lt (Heap.lt_size e)) e
 exact h pins _ σ H xs _ Q I1 (by simpa using rv) hw
def gSub (to ti:TE) (t:TSet):TG:=fun v σ H Q=>to σ H fun o H1=>ti σ H1 fun i H2=>t o i v H2 fun H3=>Q σ H3
theorem pg_sub {o i:Expr}{to ti:TE}{t:TSet} (ho:PE X o to) (hi:PE X i ti) (hs:PSet X t)
  (ha:∀ v,assign (.Subscript o i pos) X.env v=(do
   let ov ← holding [v] (eval o X.env)
   let iv ← holding [v,ov] (eval i X.env)
   standAt pos
   holding [v,ov,iv] (setItem ov iv v)
   release [v,ov,iv] []):=by intro _;rfl):PG X (.Subscript o i pos) (gSub to ti t):=by
 intro pins s σ H v u Q I r h
 rw [ha]
 refine wpAny_bind (wpAny_holding (thn (ho pins s σ H _ I h) fun ov s1 ⟨x,H1,I1,r1,q1⟩=>?_))
 refine wpAny_bind (wpAny_holding (thn (hi pins s1 σ H1 _ I1 q1) fun iv s2 ⟨y,H2,I2,r2,q2⟩=>?_))
 refine wpAny_bind (wpAny_standAt (wpAny_bind (wpAny_holding (thn (hs pins s2 σ H2 x y v ov iv u _ I2 r1 r2 r q2) fun _ s3 ⟨H3,I3,q3⟩=>?_))))
 exact wpAny_release ⟨σ,H3,I3,q3⟩
def tAsg (te:TE) (g:TG):TS:=fun D σ H=>te σ H fun x H1=>g x σ H1 D.nx
theorem ps_asg {tg e:Expr}{te:TE}{g:TG} (he:PE X e te) (hg:PG X tg g) (hs:swapsWithSole [tg] e pos.line X.env=pure false:=by rfl) (hw:swappedStores [tg] e X.env=pure none:=by rfl)
  (h1:(assignEach [tg] X.env).map (·.2)=[assign tg X.env]:=by rfl):PS X (.Assign [tg] e pos) (tAsg te g):=by
 intro pins s σ H D I h
 refine wpAny_Assign_stores (thn (he pins s σ H _ I h) fun v s1 ⟨x,H1,I1,r1,q1⟩=>?_) hs hw
 rw [h1]
 exact thn (hg pins s1 σ H1 x v _ I1 r1 q1) fun _ s2 q=>q
theorem ps_set {i:Nat}{x:Str}{e:Expr}{te:TE}{pos':Pos} (hN:X.N.Nodup) (hi:X.N[i]?=some x) (hx:Loc X.env.scope x) (he:PE X e te) (hs:swapsWith e (some (.Name x pos')) pos.line X.env=pure false:=by rfl) (hf:X.fn x=true∨X.env.scope.names.lookup x=some .local:=by first | exact .inl rfl | exact .inr rfl | assumption):
  PS X (.Assign [.Name x pos'] e pos) (tAsg te (gName i)):=by
 intro pins s σ H D I h
 refine wpAny_Assign_Name (thn (he pins s σ H _ I h) fun v s1 ⟨y,H1,I1,r1,q1⟩=>?_) hs
 exact store_ok I1 hN hi hx r1 (fun s2 I2=>⟨_,H1,I2,q1⟩) hf
end
section
variable {X:Cx}{pos:Pos}
def tWhile (c:TT) (tb:TS):TS:=fun D σ H=>∃ W:Nat→St→Hp→Prop,(∃ m,W m σ H)∧∀ m σ H,W m σ H→
 c σ H fun b H1=>if b=true then ∃ N:St→Hp→Prop,(∀ σ' H',N σ' H'→∃ m',m' < m∧W m' σ' H')∧tb { D with nx:=N,ct:=N,bk:=D.nx } σ H1 else D.nx σ H1
theorem ps_while {c:Expr}{body:List Stmt}{tc:TT}{tb:TS} (hp:PassesOwn (model X.prog X.w) X.A X.env X.xe) (hc:PT X c tc) (hb:PSs X body tb):PS X (.While c body [] pos) (tWhile tc tb):=by
 intro pins s σ H D I h
 obtain ⟨W,⟨m0,w0⟩,turn⟩:=h
 refine wpAny_While (codeAny_whileLoop (fun n s'=>∃ σ' H',Inv X pins σ' H' s'∧W n σ' H') ?_ m0 ⟨σ,H,I,w0⟩)
 rintro n s1 ⟨σ1,H1,I1,w1⟩
 refine wpAny_passesOwn hp (thn (hc pins s1 σ1 H1 _ I1 (turn n σ1 H1 w1)) fun b s2 ⟨H2,I2,q2⟩=>?_)
 cases b with
 | true=>
  obtain ⟨N,hN,q2⟩:=q2
  rw [if_pos rfl]
  refine wpAny_passesOwn hp (thn (hb pins s2 σ1 H2 _ I2 q2) fun f s3 q3=>?_)
  cases f with
  | next=>
   obtain ⟨σ3,H3,I3,n3⟩:=q3
   obtain ⟨m',hm,w3⟩:=hN σ3 H3 n3
   exact ⟨m',hm,σ3,H3,I3,w3⟩
  | cont=>
   obtain ⟨σ3,H3,I3,n3⟩:=q3
   obtain ⟨m',hm,w3⟩:=hN σ3 H3 n3
   exact ⟨m',hm,σ3,H3,I3,w3⟩
  | brk=>exact q3
  | ret v=>exact q3
 | false=>
  rw [if_neg Bool.false_ne_true]
  exact wpAny_execs_nil ⟨σ1,H2,I2,q2⟩
end
structure It where
 go:Nat→Hp→Prop
 yld:Nat→Hp→V→Hp→Prop
 stop:Nat→Hp→Prop
def FpOk (X:Cx) (pins:List (Addr × Obj)) (H:Hp) (b:Addr):Prop:=
 H b=none∧b≠X.env.locals∧b∉X.fs∧(b∈X.ex∨X.s₀.heap.objs.size≤b)∧(∀ x c,X.env.cells.lookup x=some c→c≠b)∧∀ p∈X.pn++pins,p.1≠b
theorem Inv.fpOk {X:Cx}{pins:List (Addr × Obj)}{σ:St}{H H':Hp}{s:Shared}{b:Addr} (I:Inv X pins σ H s) (hb:s.heap.objs.size≤b) (hn:H' b=none):FpOk X pins H' b:=by
 refine ⟨hn,Nat.ne_of_gt (Nat.lt_of_lt_of_le I.lt hb),I.nofs hb,.inr (Nat.le_trans I.sz hb),fun x c e z=>?_,fun p hp z=>?_⟩
 · obtain ⟨v,q⟩:=I.cell x c e
   exact absurd (Nat.lt_of_lt_of_le q.lt (by rw [z];exact hb)) (Nat.lt_irrefl _)
 · exact absurd (Nat.lt_of_lt_of_le (Heap.lt_size (I.pin p hp).1) (by rw [z];exact hb)) (Nat.lt_irrefl _)
structure Turn (P:Program) (w:World) (K:PySem.W.Frag) (tg:Expr) (J:It) (fp:List Addr) (it:Addr) (tn:Nat→Heap→Prop):Prop where
 mem:it∈fp
 obj:∀ i h,tn i h→∀ b∈fp,∃ o,h.get? b=some o∧∀ v,o.data≠.cell v
 keep:∀ i h h',tn i h→(∀ b∈fp,∀ o,h.get? b=some o→h'.get? b=some o)→tn i h'
 item:∀ (X:Cx),X.prog=P→X.w=w→X.K=K→X.calm=true→∀ (i:Nat) (pins:List (Addr × Obj)) (s:Shared) (σ:St) (H:Hp) (E:Value→Shared→Prop),Inv X pins σ H s→(∀ b∈fp,FpOk X pins H b)→tn i s.heap→J.go i H→
  wpAny (model P w) X.A (pyNext (.ref it)) (fun r s1=>∃ u,r=some u∧
   wpAny (model P w) X.A (letOwnedTupleGo tg (.ref it) u) (fun _ s2=>∃ x H',Inv X pins σ H' s2∧RelV x u∧J.yld i H x H'∧tn (i+1) s2.heap∧∀ b∈fp,H' b=none) E s1) E s
 done:∀ (X:Cx),X.prog=P→X.w=w→X.K=K→X.calm=true→∀ (i:Nat) (pins:List (Addr × Obj)) (s:Shared) (σ:St) (H:Hp) (E:Value→Shared→Prop),Inv X pins σ H s→(∀ b∈fp,FpOk X pins H b)→tn i s.heap→J.stop i H→
  wpAny (model P w) X.A (pyNext (.ref it)) (fun r s1=>r=none∧Inv X pins σ H s1) E s
 self:∀ (A:Around) (i:Nat) (s:Shared) (Q:Value→Shared→Prop) (E:Value→Shared→Prop),tn i s.heap→Q (.ref it) s→wpAny (model P w) A (pyIter (.ref it)) Q E s
abbrev TI:=St→Hp→(It→Hp→Prop)→Prop
def PIE (X:Cx) (pins:List (Addr × Obj)) (σ:St) (tg:Expr) (R:It→Hp→Prop) (itv:Value) (s2:Shared):Prop:=
 ∃ (it:Addr) (fp:List Addr) (tn:Nat→Heap→Prop) (J:It) (H':Hp),itv=.ref it∧Inv X pins σ H' s2∧Turn X.prog X.w X.K tg J fp it tn∧tn 0 s2.heap∧(∀ b∈fp,FpOk X pins H' b)∧R J H'
def PI (X:Cx) (tg iter:Expr) (wi:TI):Prop:=
 ∀ (pins:List (Addr × Obj)) (s:Shared) (σ:St) (H:Hp) (R:It→Hp→Prop),Inv X pins σ H s→wi σ H R→
  wpAny (model X.prog X.w) X.A (eval iter X.env) (fun v s1=>wpAny (model X.prog X.w) X.A (pyIter v) (PIE X pins σ tg R) X.xe s1) X.xe s
theorem go_of {M:Model}{A:Around}{E:Value→Shared→Prop}{s:Shared}{tg:Expr}{it:Addr}{u:Value}{o:Obj}{n:String}{vs:Array Value}{Q:Unit→Shared→Prop} (ho:s.heap.get? it=some o) (hc:o.cls=.type n) (hd:o.data=.fields vs)
  (hn:["enumerate","zip","dict_itemiterator","dict_reverseitemiterator","odict_iterator","itertools.zip_longest","itertools.pairwise"].contains n=false) (hQ:Q () s):wpAny M A (letOwnedTupleGo tg (.ref it) u) Q E s:=by
 unfold letOwnedTupleGo
 cases tg <;> first
  | exact wpAny_pure hQ
  | (cases u <;> first
    | exact wpAny_pure hQ
    | (refine wpAny_bind (wpAny_load ho ?_)
       rw [hc,hd]
       show wpAny M A (if (["enumerate","zip","dict_itemiterator","dict_reverseitemiterator","odict_iterator","itertools.zip_longest","itertools.pairwise"].contains n && vs[0]? == some (rawInt _))=true then _ else _) Q E s
       rw [if_neg (by intro h;rw [hn,Bool.false_and] at h;cases h)]
       exact wpAny_pure hQ))
def Itl (K:PySem.W.Frag) (a:Addr):It:=
 ⟨fun i H=>∃ xs x,SqL K H a xs∧xs[i]?=some x,fun i H x H'=>H'=H∧∀ xs,SqL K H a xs→xs[i]?=some x,fun i H=>∃ xs,SqL K H a xs∧xs.length≤i⟩
def Itr (lo:Int) (n:Nat):It:=⟨fun i _=>i < n,fun i H x H'=>H'=H∧x=.int (lo+i),fun i _=>n≤i⟩
theorem turn_list {P:Program}{w:World}{K:PySem.W.Frag}{tg:Expr} (a it:Addr):Turn P w K tg (Itl K a) [it] it (fun i h=>h.IsListIter it a i) where
 mem:=by simp
 obj:=fun i h st b hb=>by
  have e:b=it:=by simpa using hb
  subst e
  obtain ⟨o,e,c,d⟩:=st
  exact ⟨o,e,fun v z=>by rw [d] at z;cases z⟩
 keep:=fun i h h' st k=>st.at fun o e=>k it (by simp) o e
 item:=by
  intro X hP hw hK hc i pins s σ H E I hf st hg
  subst hP hw hK
  obtain ⟨xs,x,hq,hx⟩:=hg
  obtain ⟨its,rv,p,hz⟩:=I.list hq
  obtain ⟨u,hu,ru⟩:=rv.get hx
  obtain ⟨f0,f1,f2,f3,f4,f5⟩:=hf it (by simp)
  refine wpAny_pyNext_list_item st p.isList (x:=u) (by simpa using hu) fun h' st' sb=>?_
  have I1:Inv X pins σ H { s with heap:=h' }:=I.turned (t':=s.toks) (fun b o hb e=>(sb.2 b hb).trans e) f0 f1 f3 f4 f5
  obtain ⟨o,e,c,d⟩:=id st'
  exact ⟨u,rfl,go_of (s:={ s with heap:=h' }) e c d (by decide) ⟨x,H,I1,ru,⟨rfl,fun ys hy=>by rw [I.list_inj hy hq];exact hx⟩,st',fun b hb=>(hf b hb).1⟩⟩
 done:=by
  intro X hP hw hK hc i pins s σ H E I hf st hg
  subst hP hw hK
  obtain ⟨xs,hq,hx⟩:=hg
  obtain ⟨its,rv,p,hz⟩:=I.list hq
  obtain ⟨f0,f1,f2,f3,f4,f5⟩:=hf it (by simp)
  have hl:=rv.length
  exact wpAny_pyNext_list_end (I.ok.hd hc) st p.isList (by simp;omega) fun h' eb=>⟨rfl,I.turned (t':=s.toks) (fun b o hb e=>eb b o hb e) f0 f1 f3 f4 f5⟩
 self:=fun _ _ _ _ _ st h=>wpAny_pyIter_listiter st h
theorem turn_range {P:Program}{w:World}{K:PySem.W.Frag}{tg:Expr} (it:Addr) (lo:Int) (n:Nat):Turn P w K tg (Itr lo n) [it] it (fun i h=>IsRangeIter h it (lo+(i:Nat) * 1) ((n:Int) - (i:Nat)) 1) where
 mem:=by simp
 obj:=fun i h st b hb=>by
  have e:b=it:=by simpa using hb
  subst e
  exact ⟨_,st,fun v z=>by
   have z':Data.fields _=Data.cell v:=z
   cases z'⟩
 keep:=fun i h h' st k=>k it (by simp) _ st
 item:=by
  intro X hP hw hK hc i pins s σ H E I hf st hg
  subst hP hw hK
  obtain ⟨f0,f1,f2,f3,f4,f5⟩:=hf it (by simp)
  have W:=Walks.range (prog:=X.prog) (w:=X.w) (I.ok.hd hc) it lo 1 n
  refine W.item i s _ _ hg st fun v h' tk hv st' kk=>?_
  obtain ⟨t,rfl⟩:=hv
  have I1:Inv X pins σ H { s with heap:=h',toks:=tk }:=I.turned (fun b o hb e=>kk b o (by simpa using hb) e) f0 f1 f3 f4 f5
  refine ⟨_,rfl,go_of (s:={ s with heap:=h',toks:=tk }) (n:="range_iterator") st' rfl rfl (by decide) ⟨.int (lo+i),H,I1,⟨t,?_⟩,⟨rfl,rfl⟩,st',fun b hb=>(hf b hb).1⟩⟩
  rw [Int.mul_one]
 done:=by
  intro X hP hw hK hc i pins s σ H E I hf st hg
  subst hP hw hK
  obtain ⟨f0,f1,f2,f3,f4,f5⟩:=hf it (by simp)
  exact wpAny_pyNext_range_end (I.ok.hd hc) st (by have:n≤i:=hg;omega) fun h' eb=>⟨rfl,I.turned (t':=s.toks) (fun b o hb e=>eb b o hb e) f0 f1 f3 f4 f5⟩
 self:=fun _ _ _ _ _ st h=>wpAny_pyIter_rangeiter st h
section
variable {X:Cx}{tg:Expr}
def iList (K:PySem.W.Frag) (tl:TE):TI:=fun σ H R=>tl σ H fun x H1=>∃ a,x=.ref a∧(∃ xs,SqL K H1 a xs)∧R (Itl K a) H1
theorem pi_list {l:Expr}{tl:TE} (hl:PE X l tl):PI X tg l (iList X.K tl):=by
 intro pins s σ H R I h
 refine thn (hl pins s σ H _ I h) fun v s1 ⟨x,H1,I1,r1,q1⟩=>?_
 obtain ⟨a,e,⟨xs,hq⟩,q⟩:=q1
 subst e
 cases r1
 obtain ⟨its,rv,p,hz⟩:=I1.list hq
 refine wpAny_pyIter_list p.isList ?_
 refine ⟨s1.heap.objs.size,[s1.heap.objs.size],_,_,H1,rfl,I1.kept (t':=s1.toks) fun b o e=>Heap.get?_push_of_some _ e,turn_list a _,⟨_,Heap.get?_push_size _ rfl,rfl,rfl⟩,fun b hb=>?_,q⟩
 have e:b=s1.heap.objs.size:=by simpa using hb
 subst e
 exact I1.fpOk (Nat.le_refl _) (I1.hok.fresh (Nat.le_refl _))
theorem range_it {pins:List (Addr × Obj)}{σ:St}{H:Hp}{s:Shared}{R:It→Hp→Prop}{E:Value→Shared→Prop}{lo hi:Int}{t u v:Tok}{tk:Nat} (I:Inv X pins σ H s) (h1: -(2 ^ 62)≤lo) (h2:lo < 2 ^ 62) (h3: -(2 ^ 62)≤hi) (h4:hi < 2 ^ 62)
  (q:R (Itr lo (hi - lo).toNat) H):wpAny (model X.prog X.w) X.A (pyIter (.ref s.heap.objs.size)) (PIE X pins σ tg R) E { s with heap:=s.heap.push { cls:=.type "range",data:=.fields #[.int lo t,.int hi u,.int 1 v] },toks:=tk }:=by
 refine wpAny_pyIter_range (IsRange.new ..) (small_one h1 h2 h3 h4) ?_
 have I1:Inv X pins σ H { s with heap:=s.heap.push { cls:=.type "range",data:=.fields #[.int lo t,.int hi u,.int 1 v] },toks:=tk }:=I.kept fun b o e=>Heap.get?_push_of_some _ e
 refine ⟨(s.heap.push { cls:=.type "range",data:=.fields #[.int lo t,.int hi u,.int 1 v] }).objs.size,[(s.heap.push { cls:=.type "range",data:=.fields #[.int lo t,.int hi u,.int 1 v] }).objs.size],_,_,H,rfl,
  I1.kept (t':=tk) fun b o e=>Heap.get?_push_of_some _ e,turn_range _ lo (hi - lo).toNat,?_,fun b hb=>?_,q⟩
 · have e1:lo+((0:Nat):Int) * 1=lo:=by simp
   have e2:(((hi - lo).toNat:Nat):Int) - ((0:Nat):Int)=Builtin.Range.rangeSize lo hi 1:=by rw [rangeSize_one];split <;> omega
   show IsRangeIter _ _ (lo+((0:Nat):Int) * 1) ((((hi - lo).toNat:Nat):Int) - ((0:Nat):Int)) 1
   rw [e1,e2]
   exact Heap.get?_push_size _ rfl
 · have e:b=(s.heap.push { cls:=.type "range",data:=.fields #[.int lo t,.int hi u,.int 1 v] }).objs.size:=by simpa using hb
   subst e
   exact I1.fpOk (Nat.le_refl _) (I1.hok.fresh (Nat.le_refl _))
def iRng1 (ta:TA):TI:=fun σ H R=>ta σ H fun vs H1=>∃ j:Int,vs=[.int j]∧ -(2 ^ 62)≤j∧j < 2 ^ 62∧R (Itr 0 j.toNat) H1
theorem pi_range1 {a:Expr}{ta:TA}{p pos:Pos} (hg:Gl X "range") (hm:X.mg "range"=none) (ha:PA X [a] ta) (hs:starEach [a] X.env=[(false,eval a X.env)]:=by rfl):PI X tg (.Call (.Name "range" p) [a] [] pos) (iRng1 ta):=by
 intro pins s σ H R I h
 refine Call_ (ld_blt I hg hm boot_range (PyProof.Rows.callWith_type1 (thn (ha pos pins s σ H _ I h) fun us s1 ⟨vs,H1,I1,r1,q1⟩=>?_) hs rfl))
 obtain ⟨j,e,q1,q2,q⟩:=q1
 subst e
 cases r1 with
 | cons r rr=>
  cases rr
  obtain ⟨t,rfl⟩:=r
  exact call_range_1 (range_it I1 (by omega) (by omega) q1 q2 (by simpa using q))
def tFor (wi:TI) (g:TG) (tb:TS):TS:=fun D σ H=>wi σ H fun J H1=>∃ W:Nat→Nat→St→Hp→Prop,(∃ m,W 0 m σ H1)∧∀ i m σ H,W i m σ H→
 (J.stop i H∧D.nx σ H)∨(J.go i H∧∃ N:St→Hp→Prop,(∀ σ' H',N σ' H'→∃ m',m' < m∧W (i+1) m' σ' H')∧∀ x H',J.yld i H x H'→g x σ H' fun σ2 H2=>tb { D with nx:=N,ct:=N,bk:=D.nx } σ2 H2)
def pinsAt (fp:List Addr) (h:Heap):List (Addr × Obj):=fp.filterMap fun b=>(h.get? b).map fun o=>(b,o)
theorem mem_pinsAt {fp:List Addr}{h:Heap}{b:Addr}{o:Obj} (hb:b∈fp) (e:h.get? b=some o):(b,o)∈pinsAt fp h:=List.mem_filterMap.mpr ⟨b,hb,by rw [e];rfl⟩
theorem of_pinsAt {fp:List Addr}{h:Heap}{p:Addr × Obj} (hp:p∈pinsAt fp h):p.1∈fp∧h.get? p.1=some p.2:=by
 obtain ⟨b,hb,e⟩:=List.mem_filterMap.mp hp
 cases q:h.get? b with
 | none=>rw [q] at e;cases e
 | some o=>
  rw [q] at e
  have e':(b,o)=p:=Option.some.inj e
  subst e'
  exact ⟨hb,q⟩
theorem Inv.pinned {pins:List (Addr × Obj)}{σ:St}{H:Hp}{s:Shared}{fp:List Addr} (I:Inv X pins σ H s) (hf:∀ b∈fp,FpOk X pins H b) (ho:∀ b∈fp,∃ o,s.heap.get? b=some o∧∀ v,o.data≠.cell v):Inv X (pins++pinsAt fp s.heap) σ H s:=
 I.pins_of fun p hp=>(List.mem_append.mp hp).elim (fun z=>I.pin p (List.mem_append_right _ z)) fun z=>by
  obtain ⟨hb,e⟩:=of_pinsAt z
  obtain ⟨f0,f1,f2,_⟩:=hf p.1 hb
  obtain ⟨o,e',d⟩:=ho p.1 hb
  rw [e] at e';cases e'
  exact ⟨e,f0,f1,f2,d⟩
theorem Inv.unpinned {pins pl:List (Addr × Obj)}{σ:St}{H:Hp}{s:Shared} (I:Inv X (pins++pl) σ H s):Inv X pins σ H s:=I.pins_of fun p hp=>I.pin p (List.mem_append_right _ (List.mem_append_left _ hp))
theorem ps_for {iter:Expr}{body:List Stmt}{wi:TI}{g:TG}{tb:TS}{pos:Pos} (hp:PassesOwn (model X.prog X.w) X.A X.env X.xe) (hc:X.calm=true) (hi:PI X tg iter wi) (hg:PG X tg g) (hb:PSs X body tb)
  (hs:∀ x,foldedSetIterable iter X.env x=pure x:=by intro _;rfl):PS X (.For tg iter body [] pos) (tFor wi g tb):=by
 intro pins s σ H D I h
 refine wpAny_For (thn (hi pins s σ H _ I h) fun v s1 h1=>thn h1 fun itv s2 h2=>?_) hs
 obtain ⟨it,fp,tn,J,H2,e,I2,T,st2,f2,W,⟨m0,w0⟩,turn⟩:=h2
 subst e
 have stat:∀ {H':Hp},(∀ b∈fp,H' b=none)→∀ b∈fp,FpOk X pins H' b:=fun hn b hb=>⟨hn b hb,(f2 b hb).2⟩
 refine codeAny_forLoop_any (fun n s'=>∃ i σ' H',Inv X pins σ' H' s'∧tn i s'.heap∧(∀ b∈fp,H' b=none)∧W i n σ' H') ?_ m0 ⟨0,σ,H2,I2,st2,fun b hb=>(f2 b hb).1,w0⟩
 rintro n s3 ⟨i,σ3,H3,I3,st3,fr3,w3⟩
 rcases turn i n σ3 H3 w3 with ⟨stop,qn⟩ | ⟨go,N,hN,step⟩
 · refine wpAny_passesOwn hp (thn (T.done X rfl rfl rfl hc i pins s3 σ3 H3 X.xe I3 (stat fr3) st3 stop) fun r s4 ⟨hr,I4⟩=>?_)
   subst hr
   exact wpAny_execs_nil ⟨σ3,H3,I4,qn⟩
 · refine wpAny_passesOwn hp (thn (T.item X rfl rfl rfl hc i pins s3 σ3 H3 X.xe I3 (stat fr3) st3 go) fun r s4 ⟨u,hr,h4⟩=>?_)
   subst hr
   refine wpAny_passesOwn hp (thn h4 fun _ s5 ⟨x,H5,I5,r5,y5,st5,fr5⟩=>?_)
   have I5':=I5.pinned (stat fr5) (T.obj _ _ st5)
   refine wpAny_passesOwn hp (thn (hg _ s5 σ3 H5 x u _ I5' r5 (step x H5 y5)) fun _ s6 ⟨σ6,H6,I6,q6⟩=>?_)
   refine wpAny_passesOwn hp (thn (hb _ s6 σ6 H6 _ I6 q6) fun f s7 q7=>?_)
   have again:∀ {σ7:St}{H7:Hp},Inv X (pins++pinsAt fp s5.heap) σ7 H7 s7→N σ7 H7→∃ m,m < n∧∃ i σ' H',Inv X pins σ' H' s7∧tn i s7.heap∧(∀ b∈fp,H' b=none)∧W i m σ' H':=fun {σ7 H7} I7 n7=>by
    obtain ⟨m',hm,w7⟩:=hN σ7 H7 n7
    refine ⟨m',hm,i+1,σ7,H7,I7.unpinned,T.keep _ _ _ st5 fun b hb o e=>(I7.pin (b,o) (List.mem_append_right _ (List.mem_append_right _ (mem_pinsAt hb e)))).1,fun b hb=>?_,w7⟩
    obtain ⟨o,e,d⟩:=T.obj _ _ st5 b hb
    exact (I7.pin (b,o) (List.mem_append_right _ (List.mem_append_right _ (mem_pinsAt hb e)))).2.1
   cases f with
   | next=>obtain ⟨σ7,H7,I7,n7⟩:=q7;exact again I7 n7
   | cont=>obtain ⟨σ7,H7,I7,n7⟩:=q7;exact again I7 n7
   | brk=>obtain ⟨σ7,H7,I7,q7⟩:=q7;exact ⟨σ7,H7,I7.unpinned,q7⟩
   | ret v=>obtain ⟨x7,σ7,H7,I7,r7,q7⟩:=q7;exact ⟨x7,σ7,H7,I7.unpinned,r7,q7⟩
end
theorem for_list {K:PySem.W.Frag}{a:Addr}{xs:List V}{g:TG}{tb:TS}{D:Ends}{σ:St}{H:Hp} (Pv:Nat→St→Hp→Prop) (h0:Pv 0 σ H) (hl:∀ i σ H,i≤xs.length→Pv i σ H→SqL K H a xs)
  (hs:∀ i x σ H,xs[i]?=some x→Pv i σ H→g x σ H fun σ2 H2=>tb { D with nx:=Pv (i+1),ct:=Pv (i+1),bk:=D.nx } σ2 H2) (hd:∀ σ H,Pv xs.length σ H→D.nx σ H):
  ∃ W:Nat→Nat→St→Hp→Prop,(∃ m,W 0 m σ H)∧∀ i m σ H,W i m σ H→
   ((Itl K a).stop i H∧D.nx σ H)∨((Itl K a).go i H∧∃ N:St→Hp→Prop,(∀ σ' H',N σ' H'→∃ m',m' < m∧W (i+1) m' σ' H')∧∀ x H',(Itl K a).yld i H x H'→g x σ H' fun σ2 H2=>tb { D with nx:=N,ct:=N,bk:=D.nx } σ2 H2):=by
 refine ⟨fun i m σ H=>m=xs.length - i∧i≤xs.length∧Pv i σ H,⟨xs.length,by simp,Nat.zero_le _,h0⟩,?_⟩
 rintro i m σ H ⟨rfl,hi,p⟩
 have q:=hl i σ H hi p
 by_cases hlt:i < xs.length
 · refine .inr ⟨⟨xs,xs[i],q,by simp [hlt]⟩,Pv (i+1),fun σ' H' p'=>⟨xs.length - (i+1),by omega,rfl,hlt,p'⟩,fun x H' y=>?_⟩
   obtain ⟨e,y⟩:=y
   subst e
   exact hs i x σ _ (y xs q) p
 · have e:i=xs.length:=by omega
   subst e
   exact .inl ⟨⟨xs,q,Nat.le_refl _⟩,hd σ H p⟩
theorem for_range {lo:Int}{n:Nat}{g:TG}{tb:TS}{D:Ends}{σ:St}{H:Hp} (Pv:Nat→St→Hp→Prop) (h0:Pv 0 σ H)
  (hs:∀ i σ H,i < n→Pv i σ H→g (.int (lo+i)) σ H fun σ2 H2=>tb { D with nx:=Pv (i+1),ct:=Pv (i+1),bk:=D.nx } σ2 H2) (hd:∀ σ H,Pv n σ H→D.nx σ H):
  ∃ W:Nat→Nat→St→Hp→Prop,(∃ m,W 0 m σ H)∧∀ i m σ H,W i m σ H→
   ((Itr lo n).stop i H∧D.nx σ H)∨((Itr lo n).go i H∧∃ N:St→Hp→Prop,(∀ σ' H',N σ' H'→∃ m',m' < m∧W (i+1) m' σ' H')∧∀ x H',(Itr lo n).yld i H x H'→g x σ H' fun σ2 H2=>tb { D with nx:=N,ct:=N,bk:=D.nx } σ2 H2):=by
 refine ⟨fun i m σ H=>m=n - i∧i≤n∧Pv i σ H,⟨n,by simp,Nat.zero_le _,h0⟩,?_⟩
 rintro i m σ H ⟨rfl,hi,p⟩
 by_cases hlt:i < n
 · refine .inr ⟨hlt,Pv (i+1),fun σ' H' p'=>⟨n - (i+1),by omega,rfl,hlt,p'⟩,fun x H' y=>?_⟩
   obtain ⟨e,y⟩:=y
   subst e y
   exact hs i σ _ hlt p
 · have e:i=n:=by omega
   subst e
   exact .inl ⟨Nat.le_refl _,hd σ H p⟩
theorem while_by {c:TT}{tb:TS}{D:Ends}{σ:St}{H:Hp} (Pv:St→Hp→Prop) (μ:St→Hp→Nat) (h0:Pv σ H)
  (hs:∀ σ H,Pv σ H→c σ H fun b H1=>if b=true then tb { D with nx:=fun σ' H'=>Pv σ' H'∧μ σ' H' < μ σ H,ct:=fun σ' H'=>Pv σ' H'∧μ σ' H' < μ σ H,bk:=D.nx } σ H1 else D.nx σ H1)
  (mono:∀ σ H Q Q',(∀ b H1,Q b H1→Q' b H1)→c σ H Q→c σ H Q'):tWhile c tb D σ H:=by
 refine ⟨fun m σ H=>m=μ σ H∧Pv σ H,⟨_,rfl,h0⟩,?_⟩
 rintro m σ H ⟨rfl,p⟩
 refine mono σ H _ _ (fun b H1 q=>?_) (hs σ H p)
 cases b with
 | true=>exact ⟨_,fun σ' H' ⟨p',l⟩=>⟨_,l,rfl,p'⟩,q⟩
 | false=>exact q
abbrev R2:=V→V→Hp→VK→Prop
def OpR (X:Cx) (f:Value→Value→Sem Value) (r:R2):Prop:=
 ∀ (pins:List (Addr × Obj)) (s:Shared) (σ:St) (H:Hp) (x y:V) (v u:Value) (Q:VK),Inv X pins σ H s→RelV x v→RelV y u→r x y H Q→
  wpAny (model X.prog X.w) X.A (f v u) (EP X pins σ Q) X.xe s
def UnR (X:Cx) (f:Value→Sem Value) (r:V→Hp→VK→Prop):Prop:=
 ∀ (pins:List (Addr × Obj)) (s:Shared) (σ:St) (H:Hp) (x:V) (v:Value) (Q:VK),Inv X pins σ H s→RelV x v→r x H Q→
  wpAny (model X.prog X.w) X.A (f v) (EP X pins σ Q) X.xe s
def CallR (X:Cx) (f:Value) (r:List V→Hp→VK→Prop):Prop:=
 ∀ (pins:List (Addr × Obj)) (s:Shared) (σ:St) (H:Hp) (xs:List V) (us:List Value) (Q:VK),Inv X pins σ H s→Vals xs us→r xs H Q→
  wpAny (model X.prog X.w) X.A (call f us) (EP X pins σ Q) X.xe s
def tOp (r:R2) (ta tb:TE):TE:=fun σ H Q=>ta σ H fun x H1=>tb σ H1 fun y H2=>r x y H2 Q
def tUn (r:V→Hp→VK→Prop) (ta:TE):TE:=fun σ H Q=>ta σ H fun x H1=>r x H1 Q
def rI (C:Int→Int→Prop) (g:Int→Int→V):R2:=fun x y H Q=>∃ i j,x=.int i∧y=.int j∧C i j∧Q (g i j) H
def rI0 (g:Int→Int→V):R2:=fun x y H Q=>∃ i j,x=.int i∧y=.int j∧Q (g i j) H
def rU (g:Int→V):V→Hp→VK→Prop:=fun x H Q=>∃ i,x=.int i∧Q (g i) H
section
variable {X:Cx}{a b c:Expr}{ta tb tc:TE}{pos:Pos}
theorem binT (ha:PE X a ta) (hb:PE X b tb) {pins:List (Addr × Obj)}{s:Shared}{σ:St}{H:Hp}{R:V→V→Hp→Prop} (I:Inv X pins σ H s)
  (h:ta σ H fun x H1=>tb σ H1 fun y H2=>R x y H2) {Q:Value→Shared→Prop}{f:Value→Value→Sem Value}
  (hf:∀ v u s2 x y H2,Inv X pins σ H2 s2→RelV x v→RelV y u→R x y H2→wpAny (model X.prog X.w) X.A (f v u) Q X.xe s2):
  wpAny (model X.prog X.w) X.A (eval a X.env) (fun v s₁=>wpAny (model X.prog X.w) X.A (eval b X.env) (fun u s₂=>wpAny (model X.prog X.w) X.A (f v u) Q X.xe s₂) X.xe s₁) X.xe s:=by
 refine thn (ha pins s σ H _ I h) fun v s1 ⟨x,H1,I1,r1,q1⟩=>?_
 refine thn (hb pins s1 σ H1 _ I1 q1) fun u s2 ⟨y,H2,I2,r2,q2⟩=>?_
 exact hf v u s2 x y H2 I2 r1 r2 q2
theorem pe_op {op:Operator}{r:R2} (ho:OpR X (binaryOp op) r) (ha:PE X a ta) (hb:PE X b tb):PE X (.BinOp a op b pos) (tOp r ta tb):=by
 intro pins s σ H Q I h
 exact wpAny_BinOp (binT ha hb I h fun v u s2 x y H2 I2 rx ry q=>ho pins s2 σ H2 x y v u Q I2 rx ry q)
theorem pe_un {op:UnaryOp}{r:V→Hp→VK→Prop} (ho:UnR X (unaryOp op) r) (ha:PE X a ta):PE X (.UnaryOp op a pos) (tUn r ta):=by
 intro pins s σ H Q I h
 exact UnaryOp_ (thn (ha pins s σ H _ I h) fun v s1 ⟨x,H1,I1,r1,q1⟩=>ho pins s1 σ H1 x v Q I1 r1 q1)
theorem opI {f:Value→Value→Sem Value}{C:Int→Int→Prop}{g:Int→Int→Int}
  (rule:∀ (i j:Int) (t u:Tok) (s:Shared) (Q:Value→Shared→Prop) (E:Value→Shared→Prop),C i j→Q (.int (g i j) s.toks) { s with toks:=s.toks+1 }→wpAny (model X.prog X.w) X.A (f (.int i t) (.int j u)) Q E s):
  OpR X f (rI C fun i j=>.int (g i j)):=by
 intro pins s σ H x y v u Q I rx ry h
 obtain ⟨i,j,rfl,rfl,hc,q⟩:=h
 obtain ⟨t,rfl⟩:=rx
 obtain ⟨t',rfl⟩:=ry
 exact rule i j t t' s _ _ hc ⟨.int (g i j),H,I.tok _,⟨_,rfl⟩,q⟩
theorem opI0 {f:Value→Value→Sem Value}{g:Int→Int→Int}
  (rule:∀ (i j:Int) (t u:Tok) (s:Shared) (Q:Value→Shared→Prop) (E:Value→Shared→Prop),Q (.int (g i j) s.toks) { s with toks:=s.toks+1 }→wpAny (model X.prog X.w) X.A (f (.int i t) (.int j u)) Q E s):
  OpR X f (rI0 fun i j=>.int (g i j)):=by
 intro pins s σ H x y v u Q I rx ry h
 obtain ⟨i,j,rfl,rfl,q⟩:=h
 obtain ⟨t,rfl⟩:=rx
 obtain ⟨t',rfl⟩:=ry
 exact rule i j t t' s _ _ ⟨.int (g i j),H,I.tok _,⟨_,rfl⟩,q⟩
theorem opB0 {f:Value→Value→Sem Value}{g:Int→Int→Bool}
  (rule:∀ (i j:Int) (t u:Tok) (s:Shared) (Q:Value→Shared→Prop) (E:Value→Shared→Prop),Q (.bool (g i j)) s→wpAny (model X.prog X.w) X.A (f (.int i t) (.int j u)) Q E s):
  OpR X f (rI0 fun i j=>.bl (g i j)):=by
 intro pins s σ H x y v u Q I rx ry h
 obtain ⟨i,j,rfl,rfl,q⟩:=h
 obtain ⟨t,rfl⟩:=rx
 obtain ⟨t',rfl⟩:=ry
 exact rule i j t t' s _ _ ⟨.bl (g i j),H,I,rfl,q⟩
def CDiv (i j:Int):Prop:=0 < j∧j < 1073741824
def CPow (i j:Int):Prop:=0≤j∧j≤1000000∧i.natAbs < 2 ^ 64
def CMul (i j:Int):Prop:=(-(2 ^ 64) < i∧i < 2 ^ 64)∨(-(2 ^ 64) < j∧j < 2 ^ 64)
theorem CMul.ok {i j:Int} (h:CMul i j):IntMulOk i j:=by
 rcases h with ⟨h1,h2⟩ | ⟨h1,h2⟩
 · exact .of_left (intBits_le_64 h1 h2)
 · exact .of_right (intBits_le_64 h1 h2)
theorem op_add:OpR X (binaryOp .Add) (rI0 fun i j=>.int (i+j)):=opI0 fun _ _ _ _ _ _ _ q=>add_int q
theorem op_sub:OpR X (binaryOp .Sub) (rI0 fun i j=>.int (i - j)):=opI0 fun _ _ _ _ _ _ _ q=>sub_int q
theorem op_mul:OpR X (binaryOp .Mult) (rI CMul fun i j=>.int (i * j)):=opI fun _ _ _ _ _ _ _ hc q=>mul_int q hc.ok
theorem op_fdiv:OpR X (binaryOp .FloorDiv) (rI CDiv fun i j=>.int (i / j)):=opI fun i j _ _ _ _ _ hc q=>by
 have h1:(0:Int) < j:=hc.1
 have h2:j < 1073741824:=hc.2
 exact floordiv_int (by omega) (by rw [Int.fdiv_eq_ediv_of_nonneg i (by omega)];exact q) (.inl (PyProof.noPylong_small (by omega)))
theorem op_mod:OpR X (binaryOp .Mod) (rI (fun _ j=>0 < j) fun i j=>.int (i % j)):=opI fun i j _ _ _ _ _ hc q=>by
 have h1:(0:Int) < j:=hc
 exact mod_int' (by omega) (by rw [Int.fmod_eq_emod_of_nonneg i (by omega)];exact q)
theorem op_pow:OpR X (binaryOp .Pow) (rI CPow fun i j=>.int (i ^ j.toNat)):=opI fun _ _ _ _ _ _ _ hc q=>pow_int_small hc.1 hc.2.1 hc.2.2 q
theorem unI {f:Value→Sem Value}{g:Int→Int}
  (rule:∀ (i:Int) (t:Tok) (s:Shared) (Q:Value→Shared→Prop) (E:Value→Shared→Prop),Q (.int (g i) s.toks) { s with toks:=s.toks+1 }→wpAny (model X.prog X.w) X.A (f (.int i t)) Q E s):
  UnR X f (rU fun i=>.int (g i)):=by
 intro pins s σ H x v Q I rx h
 obtain ⟨i,rfl,q⟩:=h
 obtain ⟨t,rfl⟩:=rx
 exact rule i t s _ _ ⟨.int (g i),H,I.tok _,⟨_,rfl⟩,q⟩
theorem un_neg:UnR X (unaryOp .USub) (rU fun i=>.int (-i)):=unI fun _ _ _ _ _ q=>neg_int q
end
def scal:V→V→Bool
 | .non,.non=>true | .non,.int _=>true | .int _,.non=>true | .non,.bl _=>true | .bl _,.non=>true | .non,.str _=>true | .str _,.non=>true
 | .int _,.int _=>true | .bl _,.bl _=>true | .str _,.str _=>true | .byt _,.byt _=>true
 | .int _,.str _=>true | .str _,.int _=>true | .bl _,.str _=>true | .str _,.bl _=>true
 | _,_=>false
def rEq:R2:=fun x y H Q=>scal x y=true∧Q (.bl (decide (x=y))) H
def rNe:R2:=fun x y H Q=>scal x y=true∧Q (.bl (!decide (x=y))) H
theorem dec_int {i j:Int}:decide (V.int i=V.int j)=(i == j):=by
 rw [Bool.eq_iff_iff]
 simp
theorem dec_bl {i j:Bool}:decide (V.bl i=V.bl j)=(i == j):=by
 rw [Bool.eq_iff_iff]
 simp
theorem dec_str {i j:Str}:decide (V.str i=V.str j)=(i == j):=by
 rw [Bool.eq_iff_iff]
 simp
theorem dec_byt {i j:Array UInt8}:decide (V.byt i=V.byt j)=(i.toList == j.toList):=by
 rw [Bool.eq_iff_iff]
 cases i
 cases j
 simp
section
variable {X:Cx}{a b c:Expr}{ta tb tc:TE}{pos:Pos}
theorem fin_bl {pins:List (Addr × Obj)}{σ:St}{H:Hp}{s:Shared}{Q:VK}{k k':Bool} (I:Inv X pins σ H s) (q:Q (.bl k) H) (e:k=k'):EP X pins σ Q (.bool k') s:=by
 subst e
 exact ⟨.bl k,H,I,rfl,q⟩
theorem op_eq:OpR X (compareOp .Eq) rEq:=by
 intro pins s σ H x y v u Q I rx ry h
 obtain ⟨hs,q⟩:=h
 cases x with
 | non=>
  cases rx
  cases y with
  | non=>cases ry;exact PySem.EqNone.eq_none_none (fin_bl I q (by simp))
  | bl j=>cases ry;exact PySem.EqNone.eq_none_bool (fin_bl I q (by simp))
  | int j=>obtain ⟨t',rfl⟩:=ry;exact PySem.EqNone.eq_none_int (fin_bl I q (by simp))
  | str j=>obtain ⟨t',rfl⟩:=ry;exact PySem.EqNone.eq_none_str (fin_bl I q (by simp))
  | _=>exact absurd (show false=true from hs) Bool.false_ne_true
 | bl i=>
  cases rx
  cases y with
  | non=>cases ry;exact PySem.EqNone.eq_bool_none (fin_bl I q (by simp))
  | bl j=>cases ry;exact eq_bool (fin_bl I q dec_bl)
  | str j=>obtain ⟨t',rfl⟩:=ry;exact PySem.EqMixed.eq_bool_str (fin_bl I q (by simp))
  | _=>exact absurd (show false=true from hs) Bool.false_ne_true
 | int i=>
  obtain ⟨t,rfl⟩:=rx
  cases y with
  | non=>cases ry;exact PySem.EqNone.eq_int_none (fin_bl I q (by simp))
  | int j=>obtain ⟨t',rfl⟩:=ry;exact eq_int (fin_bl I q dec_int)
  | str j=>obtain ⟨t',rfl⟩:=ry;exact PySem.EqMixed.eq_int_str (fin_bl I q (by simp))
  | _=>exact absurd (show false=true from hs) Bool.false_ne_true
 | str i=>
  obtain ⟨t,rfl⟩:=rx
  cases y with
  | non=>cases ry;exact PySem.EqNone.eq_str_none (fin_bl I q (by simp))
  | bl j=>cases ry;exact PySem.EqMixed.eq_str_bool (fin_bl I q (by simp))
  | int j=>obtain ⟨t',rfl⟩:=ry;exact PySem.EqMixed.eq_str_int (fin_bl I q (by simp))
  | str j=>obtain ⟨t',rfl⟩:=ry;exact eq_str (fin_bl I q dec_str)
  | _=>exact absurd (show false=true from hs) Bool.false_ne_true
 | byt i=>
  obtain ⟨t,rfl⟩:=rx
  cases y with
  | byt j=>obtain ⟨t',rfl⟩:=ry;exact PySem.W.eq_bytes (fin_bl I q dec_byt)
  | _=>exact absurd (show false=true from hs) Bool.false_ne_true
 | _=>cases y <;> exact absurd (show false=true from hs) Bool.false_ne_true
theorem op_ne:OpR X (compareOp .NotEq) rNe:=by
 intro pins s σ H x y v u Q I rx ry h
 obtain ⟨hs,q⟩:=h
 cases x with
 | non=>
  cases rx
  cases y with
  | non=>cases ry;exact PySem.EqNone.ne_none_none (fin_bl I q (by simp))
  | bl j=>cases ry;exact PySem.EqNone.ne_none_bool (fin_bl I q (by simp))
  | int j=>obtain ⟨t',rfl⟩:=ry;exact PySem.EqNone.ne_none_int (fin_bl I q (by simp))
  | str j=>obtain ⟨t',rfl⟩:=ry;exact PySem.EqNone.ne_none_str (fin_bl I q (by simp))
  | _=>exact absurd (show false=true from hs) Bool.false_ne_true
 | bl i=>
  cases rx
  cases y with
  | non=>cases ry;exact PySem.EqNone.ne_bool_none (fin_bl I q (by simp))
  | bl j=>cases ry;exact ne_bool (fin_bl I q (congrArg not dec_bl))
  | str j=>obtain ⟨t',rfl⟩:=ry;exact PySem.EqMixed.ne_bool_str (fin_bl I q (by simp))
  | _=>exact absurd (show false=true from hs) Bool.false_ne_true
 | int i=>
  obtain ⟨t,rfl⟩:=rx
  cases y with
  | non=>cases ry;exact PySem.EqNone.ne_int_none (fin_bl I q (by simp))
  | int j=>obtain ⟨t',rfl⟩:=ry;exact ne_int (fin_bl I q (congrArg not dec_int))
  | str j=>obtain ⟨t',rfl⟩:=ry;exact PySem.EqMixed.ne_int_str (fin_bl I q (by simp))
  | _=>exact absurd (show false=true from hs) Bool.false_ne_true
 | str i=>
  obtain ⟨t,rfl⟩:=rx
  cases y with
  | non=>cases ry;exact PySem.EqNone.ne_str_none (fin_bl I q (by simp))
  | bl j=>cases ry;exact PySem.EqMixed.ne_str_bool (fin_bl I q (by simp))
  | int j=>obtain ⟨t',rfl⟩:=ry;exact PySem.EqMixed.ne_str_int (fin_bl I q (by simp))
  | str j=>obtain ⟨t',rfl⟩:=ry;exact ne_str (fin_bl I q (congrArg not dec_str))
  | _=>exact absurd (show false=true from hs) Bool.false_ne_true
 | byt i=>
  obtain ⟨t,rfl⟩:=rx
  cases y with
  | byt j=>obtain ⟨t',rfl⟩:=ry;exact PySem.W.ne_bytes (fin_bl I q (congrArg not dec_byt))
  | _=>exact absurd (show false=true from hs) Bool.false_ne_true
 | _=>cases y <;> exact absurd (show false=true from hs) Bool.false_ne_true
theorem op_lt:OpR X (compareOp .Lt) (rI0 fun i j=>.bl (decide (i < j))):=opB0 fun _ _ _ _ _ _ _ q=>lt_int q
theorem op_gt:OpR X (compareOp .Gt) (rI0 fun i j=>.bl (decide (j < i))):=opB0 fun _ _ _ _ _ _ _ q=>gt_int q
theorem op_ge:OpR X (compareOp .GtE) (rI0 fun i j=>.bl (decide (j≤i))):=opB0 fun _ _ _ _ _ _ _ q=>ge_int q
theorem op_isN:OpR X (compareOp .Is) (fun x y H Q=>y=.non∧Q (.bl (decide (x=.non))) H):=by
 intro pins s σ H x y v u Q I rx ry h
 obtain ⟨rfl,q⟩:=h
 cases ry
 refine is_none_gen (fin_bl I q ?_)
 cases x <;> first
  | (cases rx;rfl)
  | (obtain ⟨t,rfl⟩:=rx;rfl)
theorem op_notN:OpR X (compareOp .IsNot) (fun x y H Q=>y=.non∧Q (.bl (!decide (x=.non))) H):=by
 intro pins s σ H x y v u Q I rx ry h
 obtain ⟨rfl,q⟩:=h
 cases ry
 refine isnot_none_gen (fin_bl I q ?_)
 cases x <;> first
  | (cases rx;rfl)
  | (obtain ⟨t,rfl⟩:=rx;rfl)
theorem nomark (b:Expr) {op:CmpOp} (h:op≠.In:=by decide) (h2:op≠.NotIn:=by decide):behindInMarks op b=false:=by
 have e1:(op == CmpOp.In)=false:=by cases op <;> first | rfl | exact absurd rfl h
 have e2:(op == CmpOp.NotIn)=false:=by cases op <;> first | rfl | exact absurd rfl h2
 cases b <;> simp [behindInMarks,e1,e2]
theorem pe_cmpR {op:CmpOp}{r:R2} (ho:OpR X (compareOp op) r) (ha:PE X a ta) (hb:PE X b tb) (hm:behindInMarks op b=false):PE X (.Compare a [op] [b] pos) (tOp r ta tb):=by
 intro pins s σ H Q I h
 exact wpAny_Compare1 (binT ha hb I h fun v u s2 x y H2 I2 rx ry q=>ho pins s2 σ H2 x y v u Q I2 rx ry q) hm
def tTest (t:TE):TT:=fun σ H Q=>t σ H fun x H'=>∃ k,x=.bl k∧Q k H'
theorem pt_cmpR {op:CmpOp}{r:R2} (ho:OpR X (compareOp op) r) (ha:PE X a ta) (hb:PE X b tb) (hm:behindInMarks op b=false):PT X (.Compare a [op] [b] pos) (tTest (tOp r ta tb)):=by
 intro pins s σ H Q I h
 refine wpAny_isTrue_Compare1 (thn (ha pins s σ H _ I h) fun v s1 ⟨x,H1,I1,r1,q1⟩=>thn (hb pins s1 σ H1 _ I1 q1) fun u s2 ⟨y,H2,I2,r2,q2⟩=>
  thn (ho pins s2 σ H2 x y v u _ I2 r1 r2 q2) fun c s3 ⟨z,H3,I3,r3,k,e,q3⟩=>?_) hm
 subst e
 cases r3
 exact wpAny_truthy_bool ⟨H3,I3,q3⟩
theorem line63:(sizeLine:Nat) < 2 ^ 63:=by rw [sizeLine_eq];decide
theorem vals1 {x:V}{us:List Value} (r:Vals [x] us):∃ u,us=[u]∧RelV x u:=by
 cases r with
 | cons r1 r2=>cases r2;exact ⟨_,rfl,r1⟩
theorem vals2 {x y:V}{us:List Value} (r:Vals [x,y] us):∃ u w',us=[u,w']∧RelV x u∧RelV y w':=by
 cases r with
 | cons r1 r2=>
  cases r2 with
  | cons r3 r4=>cases r4;exact ⟨_,_,rfl,r1,r3⟩
theorem call_max2 (hc:X.calm=true):CallR X (.builtin "max") (fun xs H Q=>∃ i j,xs=[.int i,.int j]∧Q (.int (if j > i then j else i)) H):=by
 intro pins s σ H xs us Q I r h
 obtain ⟨i,j,rfl,q⟩:=h
 obtain ⟨u,w',rfl,⟨t,rfl⟩,⟨t',rfl⟩⟩:=vals2 r
 refine max_two_ints (I.ok.hd hc) fun h' tk k=>⟨_,H,I.kept k,?_,q⟩
 by_cases hj:j > i
 · rw [if_pos hj,if_pos hj];exact ⟨_,rfl⟩
 · rw [if_neg hj,if_neg hj];exact ⟨_,rfl⟩
end
structure ObjM (h:Heap) (x dx C:Addr) (mA:Str→Option Value):Prop where
 obj:h.get? x=some (PySem.W.instObj C dx)
 ns:h.Ns1 dx mA
 ne:dx≠x
theorem lookIn_ns {h:Heap}{dx:Addr}{mA:Str→Option Value} (n:h.Ns1 dx mA):∃ od,h.get? dx=some od∧∀ name,PySem.W.lookIn name od=some (mA name):=by
 obtain ⟨o,es,ep,ho,hd,hk,_,hm⟩:=n
 refine ⟨o,ho,fun name=>?_⟩
 have e:=hm name
 unfold nsFind findBy at e
 rw [← Array.find?_toList] at e
 unfold PySem.W.lookIn
 rw [hd]
 dsimp only
 split
 · rename_i y q
   rw [q] at e
   exact congrArg some e
 · rename_i q
   rw [q] at e
   have a:es.toList.any (·.refKey)=false:=by
    rw [List.any_eq_false]
    intro y hy
    obtain ⟨z,t,hkey⟩:=hk y (Array.mem_toList_iff.mp hy)
    simp [DictEntry.refKey,hkey]
   have a':¬ es.toList.any (·.refKey)=true:=by rw [a];exact Bool.false_ne_true
   rw [if_neg a']
   exact congrArg some e
theorem ObjM.look {h:Heap}{x dx C:Addr}{mA:Str→Option Value} (I:ObjM h x dx C mA):∃ od,PySem.W.InstAt h x (PySem.W.instObj C dx) C (some od)∧∀ name,PySem.W.lookIn name od=some (mA name):=
 let ⟨od,ho,hl⟩:=lookIn_ns I.ns
 ⟨od,⟨I.obj,rfl,rfl,ho⟩,hl⟩
section
variable {prog:Program}{w:World}{A:Around}{E:Value→Shared→Prop}{s:Shared}{K:PySem.W.Frag}{x dx C f:Addr}{mA:Str→Option Value}{name:Str}{v:Value}
theorem get_map {expr:Bool}{Q:Value→Shared→Prop} (X:K.In s.heap) (I:ObjM s.heap x dx C mA) (hg:PySem.W.plainGet K C name=true) (hh:PySem.W.hasDictIn K C=true)
  (ha:PySem.W.findIn K (.ref C) name=some none) (hv:mA name=some v) (hv':PySem.W.handedIn v=true) (h:Q v { s with toks:=s.toks+1 }):
  wpAny (model prog w) A (getAttr (.ref x) name expr) Q E s:=by
 obtain ⟨od,J,hl⟩:=I.look
 exact PySem.W.get_value X J (PySem.W.plainGet_of hg).1 (PySem.W.findObj_own hh ha rfl (by rw [hl,hv])) hv' h
theorem get_meth {pl:Sem Bool}{Q:Value × List Value→Shared→Prop} (X:K.In s.heap) (I:ObjM s.heap x dx C mA) (hg:PySem.W.plainGet K C name=true)
  (hf:PySem.W.findIn K (.ref C) name=some (some (.ref f))) (ht:PySem.W.isFn K (.ref f)=true) (hv:mA name=none) (h:Q (.ref f,[.ref x]) s):
  wpAny (model prog w) A (getMethod (.ref x) name pl) Q E s:=by
 obtain ⟨od,J,hl⟩:=I.look
 exact PySem.W.method_fn X J (PySem.W.plainGet_of hg).1 (PySem.W.plainGet_of hg).2 hf (beq_iff_eq.mp ht) (by show (PySem.W.lookIn name od).map (·.isSome)=some false;rw [hl,hv];rfl) h
theorem set_map {ns:List Str}{Q:Unit→Shared→Prop} (X:K.In s.heap) (I:ObjM s.heap x dx C mA)
  (hs:PySem.W.findIn K (.ref C) "__setattr__"=some (some (.builtin "object.__setattr__"))) (hp:PySem.W.plainOver K C=true) (ht:PySem.W.takerIn K C name=some none) (hh:PySem.W.hasDictIn K C=true)
  (hw:PySem.Within mA ns) (hsz:ns.length≤sizeLine)
  (h:∀ h',ObjM h' x dx C (fun y=>if y=name then some v else mA y)→Heap.SameBut dx s.heap h'→Q () { s with heap:=h',toks:=s.toks+2 }):
  wpAny (model prog w) A (setAttr (.ref x) name v) Q E s:=by
 obtain ⟨od,J,hl⟩:=I.look
 refine PySem.W.set_plain X J hs (PySem.W.osa_open (s:={ s with toks:=s.toks+1 }) (r:=none) X J hp ht fun b=>?_)
 obtain ⟨cd,hc,hd'⟩:=PySem.W.any_some hh
 have hx:s.heap.get? x=some ⟨.ref C,some dx,.plain, #[]⟩:=I.obj
 refine wpAny_bind (wpAny_pure (wpAny_bind (wpAny_bind (wpAny_loadPart hx (wpAny_bind (PySem.W.Looks.here (s:={ s with toks:=s.toks+1 }) (PySem.W.looks_clsIn X hc) ?_))))))
 rw [hd']
 refine wpAny_pure (a:=some dx) (wpAny_bind (wpAny_pure (wpAny_bind ?_)))
 refine wpAny_nsSet1 (s:={ s with toks:=s.toks+1 }) I.ns fun h' hn2 hs2=>?_
 obtain ⟨oD,esD,epD,hoD,hdD,hcD⟩:=hn2.count (PySem.Within.cons name v hw)
 refine wpAny_bind (wpAny_lookBehind hoD (by rw [hdD];exact pastItsLine_dict (Nat.le_trans hcD (by rw [List.length_cons];omega))) ?_)
 exact wpAny_pure (h _ ⟨(hs2.2 _ (Ne.symm I.ne)).trans I.obj,hn2,I.ne⟩ hs2)
theorem make_map {R:Result→Shared→Prop}{vs:List Value}{kw:List (Str × Value)} (X:K.In s.heap) (hm:PySem.W.makesIn K C=true)
  (hi:PySem.W.findIn K (.ref C) "__init__"=some (some (.ref f))) (hf:PySem.W.typeIn K (.ref f)=some (.type "function"))
  (h:codeAny (model prog w) (A.under (.builtin "type.__call__" ⟨.ref C::vs,kw⟩)) (.call (.ref f) ⟨.ref (s.heap.objs.size+1)::vs,kw⟩) (PySem.W.InitBack (s.heap.objs.size+1) R)
   { s with heap:=(s.heap.push PySem.W.emptyDict).push (PySem.W.instObj C s.heap.objs.size) }):
  codeAny (model prog w) A (.call (.ref C) ⟨vs,kw⟩) R s:=by
 obtain ⟨hh,g,d,t,os⟩:=s
 exact PySem.W.make_core (PySem.W.makes_of X hm) (PySem.W.looks_findIn X hi) (fun self=>PySem.W.bind_fn X self hf) (.inl rfl) h
end
def putF (f:Str) (v:V):List (Str × V)→List (Str × V)
 | []=>[(f,v)]
 | (g,x)::r=>if g=f then (g,v)::r else (g,x)::putF f v r
theorem lookup_putF (f g:Str) (v:V):∀ fs:List (Str × V),(putF f v fs).lookup g=if g=f then some v else fs.lookup g
 | []=>by
  show List.lookup g [(f,v)]=_
  by_cases h:g=f
  · have hb:(g == f)=true:=beq_iff_eq.mpr h
    simp only [List.lookup,hb,if_pos h]
  · have hb:(g == f)=false:=beq_eq_false_iff_ne.mpr h
    simp only [List.lookup,hb,if_neg h]
 | (k,x)::r=>by
  have ih:=lookup_putF f g v r
  rw [show putF f v ((k,x)::r)=(if k=f then (k,v)::r else (k,x)::putF f v r) from rfl]
  by_cases hk:k=f
  · rw [if_pos hk]
    by_cases h:g=k
    · have hb:(g == k)=true:=beq_iff_eq.mpr h
      simp only [List.lookup,hb,if_pos (h.trans hk)]
    · have hb:(g == k)=false:=beq_eq_false_iff_ne.mpr h
      simp only [List.lookup,hb,if_neg (fun e:g=f=>h (e.trans hk.symm))]
  · rw [if_neg hk]
    by_cases h:g=k
    · have hb:(g == k)=true:=beq_iff_eq.mpr h
      simp only [List.lookup,hb,if_neg (fun e:g=f=>hk (h.symm.trans e))]
    · have hb:(g == k)=false:=beq_eq_false_iff_ne.mpr h
      simp only [List.lookup,hb]
      exact ih
theorem keys_putF (f:Str) (v:V):∀ fs:List (Str × V),f∈(putF f v fs).map (·.1)∧∀ g,g∈fs.map (·.1)→g∈(putF f v fs).map (·.1)
 | []=>⟨by simp [putF],fun g h=>by simp at h⟩
 | (k,x)::r=>by
  obtain ⟨i1,i2⟩:=keys_putF f v r
  rw [show putF f v ((k,x)::r)=(if k=f then (k,v)::r else (k,x)::putF f v r) from rfl]
  by_cases hk:k=f
  · rw [if_pos hk]
    subst hk
    exact ⟨by simp,fun g h=>by simpa using h⟩
  · rw [if_neg hk]
    refine ⟨?_,fun g h=>?_⟩
    · rw [List.map_cons]
      exact List.mem_cons_of_mem _ i1
    · rw [List.map_cons] at h ⊢
      rcases List.mem_cons.mp h with e | e
      · exact List.mem_cons.mpr (.inl e)
      · exact List.mem_cons_of_mem _ (i2 g e)
theorem length_putF (f:Str) (v:V):∀ fs:List (Str × V),(putF f v fs).length≤fs.length+1
 | []=>by simp [putF]
 | (k,x)::r=>by
  have ih:=length_putF f v r
  rw [show putF f v ((k,x)::r)=(if k=f then (k,v)::r else (k,x)::putF f v r) from rfl]
  by_cases hk:k=f
  · rw [if_pos hk,List.length_cons,List.length_cons];omega
  · rw [if_neg hk,List.length_cons,List.length_cons];omega
theorem RelO.some_of {v:V}{o:Option Value} (r:RelO (some v) o):∃ u,o=some u∧RelV v u:=by
 cases o with
 | none=>exact (show False from r).elim
 | some u=>exact ⟨u,rfl,r⟩
theorem RelO.none_of {o:Option Value} (r:RelO none o):o=none:=by
 cases o with
 | none=>rfl
 | some u=>exact (show False from r).elim
theorem handed_of {v:V}{u:Value} (r:RelV v u):PySem.W.handedIn u=true:=by
 cases v with
 | non=>cases (show u=Value.none from r);rfl
 | bl b=>cases (show u=Value.bool b from r);rfl
 | int i=>obtain ⟨t,e⟩:=(show ∃ t,u=Value.int i t from r);cases e;rfl
 | str x=>obtain ⟨t,e⟩:=(show ∃ t,u=Value.str x t from r);cases e;rfl
 | byt b=>obtain ⟨t,e⟩:=(show ∃ t,u=Value.bytes b t from r);cases e;rfl
 | flt b=>obtain ⟨t,e⟩:=(show ∃ t,u=Value.float b t from r);cases e;rfl
 | ref a=>cases (show u=Value.ref a from r);rfl
 | ty n=>cases (show u=Value.type n from r);rfl
section
variable {P:Program}{w:World}{H H':Hp}{h h':Heap}{a C dx:Addr}{fs fs':List (Str × V)}
theorem ins_get (hok:HOk P w H h) (e:H a=some (.ins C dx fs)):∃ mA,ObjM h a dx C mA∧(∀ f,RelO (fs.lookup f) (mA f))∧PySem.Within mA (fs.map (·.1))∧fs.length≤1000∧H dx=some (.own a):=by
 obtain ⟨d,z,ne,ob,mA,n,r,q⟩:=(show ObjOk P w H h a (.ins C dx fs) from hok a _ e)
 exact ⟨mA,⟨ob,n,ne⟩,r,q,z,d⟩
end
structure Cls (K:PySem.W.Frag) (C:Addr):Prop where
 pg:PySem.W.plainGet K C Str.empty=true
 hd:PySem.W.hasDictIn K C=true
 po:PySem.W.plainOver K C=true
 sa:PySem.W.findIn K (.ref C) "__setattr__"=some (some (.builtin "object.__setattr__"))
theorem Cls.get {K:PySem.W.Frag}{C:Addr} (c:Cls K C) (f:Str):PySem.W.plainGet K C f=true:=c.pg
def NoAttr (K:PySem.W.Frag) (C:Addr) (f:Str):Prop:=PySem.W.findIn K (.ref C) f=some none
theorem NoAttr.taker {K:PySem.W.Frag}{C:Addr}{f:Str} (n:NoAttr K C f):PySem.W.takerIn K C f=some none:=by
 unfold PySem.W.takerIn
 rw [show PySem.W.findIn K (.ref C) f=some none from n]
 rfl
structure Meth (K:PySem.W.Frag) (C:Addr) (m:Str) (f:Addr):Prop where
 at_:PySem.W.findIn K (.ref C) m=some (some (.ref f))
 fn:PySem.W.isFn K (.ref f)=true
 kp:PySem.W.keepIn K (.ref f)=true
section
variable {X:Cx}{pins:List (Addr × Obj)}{σ:St}{H:Hp}{s:Shared}{a C dx:Addr}{fs:List (Str × V)}{f:Str}{v:V}{A:Around}{E:Value→Shared→Prop}
theorem getattr_ok {b:Bool}{Q:Value→Shared→Prop} (I:Inv X pins σ H s) (e:H a=some (.ins C dx fs)) (c:Cls X.K C) (n:NoAttr X.K C f) (l:fs.lookup f=some v)
  (h:∀ u s',Inv X pins σ H s'→RelV v u→Q u s'):wpAny (model X.prog X.w) A (getAttr (.ref a) f b) Q E s:=by
 obtain ⟨mA,O,r,_,_,_⟩:=ins_get I.hok e
 obtain ⟨u,hu,ru⟩:=RelO.some_of (v:=v) (o:=mA f) (by rw [← l];exact r f)
 exact get_map I.kIn O (c.get f) c.hd n hu (handed_of ru) (h u _ (I.tok _) ru)
theorem getmeth_ok {m:Str}{g:Addr}{pl:Sem Bool}{Q:Value × List Value→Shared→Prop} (I:Inv X pins σ H s) (e:H a=some (.ins C dx fs)) (c:Cls X.K C) (k:Meth X.K C m g) (l:fs.lookup m=none)
  (h:Q (.ref g,[.ref a]) s):wpAny (model X.prog X.w) A (getMethod (.ref a) m pl) Q E s:=by
 obtain ⟨mA,O,r,_,_,_⟩:=ins_get I.hok e
 have hn:mA m=none:=RelO.none_of (by rw [← l];exact r m)
 exact get_meth I.kIn O (c.get m) k.at_ k.fn hn h
theorem setattr_ok {y:V}{u:Value}{Q:Unit→Shared→Prop} (I:Inv X pins σ H s) (e:H a=some (.ins C dx fs)) (c:Cls X.K C) (n:NoAttr X.K C f) (hl:fs.length < 1000) (ry:RelV y u)
  (h:∀ s',Inv X pins σ (upd H a (.ins C dx (putF f y fs))) s'→Q () s'):wpAny (model X.prog X.w) A (setAttr (.ref a) f u) Q E s:=by
 obtain ⟨mA,O,r,wi,_,ho⟩:=ins_get I.hok e
 have hz:(fs.map (·.1)).length≤sizeLine:=by rw [List.length_map,sizeLine_eq];omega
 refine set_map I.kIn O c.sa c.po n.taker c.hd wi hz fun h' O' sb=>h _ ?_
 have hd:∃ o,h'.get? dx=some o:=let ⟨o,_,_,e',_⟩:=O'.ns;⟨o,e'⟩
 refine I.write (x:=a) (e:=dx) (by rw [e];exact True.intro) (.inr ho) (fun b q hb z=>(sb.2 b hb).trans z) hd ?_
 refine ⟨by rw [upd_ne O.ne];exact ho,?_,O.ne,O'.obj,_,O'.ns,fun g=>?_,fun g hg=>?_⟩
 · have:=length_putF f y fs;omega
 · show RelO ((putF f y fs).lookup g) (if g=f then some u else mA g)
   rw [lookup_putF]
   by_cases q:g=f
   · rw [if_pos q,if_pos q];exact ry
   · rw [if_neg q,if_neg q];exact r g
 · by_cases q:g=f
   · rw [q];exact (keys_putF f y fs).1
   · refine (keys_putF f y fs).2 g (wi g fun z=>hg ?_)
     show (if g=f then some u else mA g)=none
     rw [if_neg q];exact z
theorem Inv.made (I:Inv X pins σ H s):Inv X pins σ (upd (upd H s.heap.objs.size (.own (s.heap.objs.size+1))) (s.heap.objs.size+1) (.ins C s.heap.objs.size []))
  { s with heap:=(s.heap.push PySem.W.emptyDict).push (PySem.W.instObj C s.heap.objs.size) }:=by
 have e1:(s.heap.push PySem.W.emptyDict).get? s.heap.objs.size=some PySem.W.emptyDict:=Heap.get?_push_size s.heap rfl
 have e2:((s.heap.push PySem.W.emptyDict).push (PySem.W.instObj C s.heap.objs.size)).get? (s.heap.objs.size+1)=some (PySem.W.instObj C s.heap.objs.size):=by
  have:=Heap.get?_push_size (s.heap.push PySem.W.emptyDict) (o:=PySem.W.instObj C s.heap.objs.size) rfl
  rwa [Heap.size_push] at this
 have e3:(s.heap.push PySem.W.emptyDict).Ns s.heap.objs.size (fun _=>none):=⟨PySem.W.emptyDict, #[],_,e1,rfl,(fun e he=>absurd he (by simp)),fun _=>rfl⟩
 have I1:=I.laid (a:=s.heap.objs.size) (o:=.own (s.heap.objs.size+1)) (h':=s.heap.push PySem.W.emptyDict) (t':=s.toks) (fun b u q=>Heap.get?_push_of_some _ q) (Nat.le_refl _) ⟨_,e1⟩
 refine I1.laid (a:=s.heap.objs.size+1) (o:=.ins C s.heap.objs.size []) (t':=s.toks) (fun b u q=>Heap.get?_push_of_some _ q) (Nat.le_of_eq (Heap.size_push _ _)) ?_
 have ne:s.heap.objs.size≠s.heap.objs.size+1:=Nat.ne_of_lt (Nat.lt_succ_self _)
 refine ⟨by rw [upd_ne ne,upd_same],Nat.zero_le _,ne,e2,fun _=>none,(Heap.Ns1.of_empty e3).at fun o q=>Heap.get?_push_of_some _ q,fun _=>True.intro,fun y hy=>absurd rfl hy⟩
theorem attr_of {prog:Program}{w:World}{env:Env}{e:Expr}{f:Str}{pos:Pos}{s:Shared}{Q:Value→Shared→Prop} (hb:attributeBase e f env (eval e env)=eval e env)
  (h:wpAny (model prog w) A (eval e env) (fun o s₁=>wpAny (model prog w) A (getAttr o f true) Q E s₁) E s):wpAny (model prog w) A (eval (.Attribute e f pos) env) Q E s:=
 Attribute_any_ h (by rw [arm_eval_Attribute,hb])
end
def tFld (K:PySem.W.Frag) (ta:TE) (f:Str):TE:=fun σ H Q=>ta σ H fun x H1=>∃ a C dx fs v,x=.ref a∧H1 a=some (.ins C dx fs)∧Cls K C∧NoAttr K C f∧fs.lookup f=some v∧Q v H1
def sFld (K:PySem.W.Frag) (ta tv:TE) (f:Str):TS:=fun D σ H=>tv σ H fun y H1=>ta σ H1 fun x H2=>∃ a C dx fs,x=.ref a∧H2 a=some (.ins C dx fs)∧Cls K C∧NoAttr K C f∧fs.length < 1000∧
 D.nx σ (upd H2 a (.ins C dx (putF f y fs)))
section
variable {X:Cx}{o e value:Expr}{f:Str}{pos pos' tpos:Pos}{ta tv:TE}
theorem pe_fld (he:PE X e ta) (hb:attributeBase e f X.env (eval e X.env)=eval e X.env):PE X (.Attribute e f pos) (tFld X.K ta f):=by
 intro pins s σ H Q I h
 refine attr_of hb (thn (he pins s σ H _ I h) fun u s1 ⟨x,H1,I1,rx,a,C,dx,fs,v,ex,ea,c,n,l,q⟩=>?_)
 subst ex
 obtain rfl:u=Value.ref a:=rx
 exact getattr_ok I1 ea c n l fun u' s2 I2 ru=>⟨v,H1,I2,ru,q⟩
theorem ps_fld (ha:PE X o ta) (hv:PE X value tv) (hs:swapsWith value (some (.Attribute o f pos')) pos.line X.env=pure false):PS X (.Assign [.Attribute o f pos'] value pos) (sFld X.K ta tv f):=by
 intro pins s σ H D I h
 refine plainObj_wpAny_Assign_Attribute (thn (hv pins s σ H _ I h) fun u s1 ⟨y,H1,I1,ry,q⟩=>thn (ha pins s1 σ H1 _ I1 q) fun ov s2 ⟨x,H2,I2,rx,a,C,dx,fs,ex,ea,c,n,l,q2⟩=>?_) hs
 subst ex
 obtain rfl:ov=Value.ref a:=rx
 exact setattr_ok I2 ea c n l ry fun s3 I3=>⟨σ,_,I3,q2⟩
end
structure Room (k:Nat) (A:Around):Prop where
 hd:A.handled=none
 dp:A.depth+3 * k+5 < recursionLimit
 un:A.units+16 * k+200 < cLine
theorem Room.mono {j k:Nat}{A:Around} (r:Room k A) (h:j≤k):Room j A:=⟨r.hd,by have:=r.dp;omega,by have:=r.un;omega⟩
theorem Room.deeper {k:Nat}{A:Around} (r:Room (k+1) A) (env:Env):Room k (A.deeper env):=
 ⟨r.hd,by have:=r.dp;show A.depth+1+3 * k+5 < _;omega,by have:=r.un;show A.units+3+16 * k+200 < _;omega⟩
theorem make_depth {A:Around}{C:Addr}{us:List Value}{kw:List (Str × Value)}:(A.under (.builtin "type.__call__" ⟨.ref C::us,kw⟩)).depth=A.depth+1:=by
 first | rfl | simp [Around.under,Code.weight,Code.isCreation,Code.isGuard,Code.isCaller,Code.frames,Code.isFrame,guardIds]
theorem make_units {A:Around}{C:Addr}{us:List Value}{kw:List (Str × Value)}:(A.under (.builtin "type.__call__" ⟨.ref C::us,kw⟩)).units=A.units+1:=by
 first | rfl | simp [Around.under,Code.cUnits,Code.frames,Code.isFrame]
theorem Room.make {k:Nat}{A:Around} (r:Room (k+1) A) (C:Addr) (us:List Value) (kw:List (Str × Value)):Room k (A.under (.builtin "type.__call__" ⟨.ref C::us,kw⟩)):=
 ⟨r.hd,by have:=r.dp;rw [make_depth];omega,by have:=r.un;rw [make_units];omega⟩
theorem Room.depth {k:Nat}{A:Around} (r:Room k A):A.depth < recursionLimit:=by have:=r.dp;omega
theorem Room.units {k:Nat}{A:Around} (r:Room k A):A.units+64 < cLine:=by have:=r.un;omega
def tNil:TA:=fun _ H Q=>Q [] H
def tCons (ta:TE) (tr:TA):TA:=fun σ H Q=>ta σ H fun x H1=>tr σ H1 fun xs H2=>Q (x::xs) H2
section
variable {X:Cx}{e:Expr}{es:List Expr}{te:TE}{t:TA}{pos:Pos}
theorem pa_nil:PA X [] tNil:=fun _ _ _ _ H Q I h=>Calls.spliced_nil ⟨[],H,I,.nil,h⟩
theorem pa_cons (ha:PE X e te) (hr:PA X es t) (hs:starEach (e::es) X.env=(false,eval e X.env)::starEach es X.env:=by rfl):PA X (e::es) (tCons te t):=by
 intro pos pins s σ H Q I h
 rw [hs]
 show wpAny _ _ (spliced ((false,eval e X.env)::backTo pos (starEach es X.env))) _ _ s
 refine Calls.spliced_cons (thn (ha pins s σ H _ I h) fun u s1 ⟨x,H1,I1,r1,q1⟩=>?_)
 exact thn (hr pos pins s1 σ H1 _ I1 q1) fun us s2 ⟨xs,H2,I2,r2,q2⟩=>⟨x::xs,H2,I2,.cons r1 r2,q2⟩
def tTup (t:TA):TE:=fun σ H Q=>t σ H fun xs H1=>xs.length≤sizeLine∧∀ p,H1 p=none→Q (.ref p) (upd H1 p (.tup xs))
def tLst (t:TA):TE:=fun σ H Q=>t σ H fun xs H1=>xs.length≤sizeLine∧∀ p,H1 p=none→Q (.ref p) (upd H1 p (.lst xs))
theorem pe_tup {x1} (h:PA X es t):PE X (.Tuple es x1 pos) (tTup t):=by
 intro pins s σ H Q I hq
 refine wpAny_Tuple_spliced (thn (h pos pins s σ H _ I hq) fun us s1 ⟨xs,H1,I1,r,z,q⟩=>⟨by rw [← r.length];exact z,?_⟩)
 have hf:H1 s1.heap.objs.size=none:=I1.hok.fresh (Nat.le_refl _)
 refine ⟨.ref s1.heap.objs.size,upd H1 s1.heap.objs.size (.tup xs),I1.laid (t':=s1.toks) (fun b u e=>Heap.get?_push_of_some _ e) (Nat.le_refl _) ?_,rfl,q _ hf⟩
 exact ⟨z,us,r,⟨_,Heap.get?_push_size _ rfl,rfl,_,rfl⟩⟩
theorem pe_lst (h:PA X es t):PE X (.List es pos) (tLst t):=by
 intro pins s σ H Q I hq
 refine wpAny_List_spliced (thn (h pos pins s σ H _ I hq) fun us s1 ⟨xs,H1,I1,r,z,q⟩=>⟨by rw [← r.length];exact z,?_⟩)
 have hf:H1 s1.heap.objs.size=none:=I1.hok.fresh (Nat.le_refl _)
 refine ⟨.ref s1.heap.objs.size,upd H1 s1.heap.objs.size (.lst xs),I1.laid (t':=s1.toks) (fun b u e=>Heap.get?_push_of_some _ e) (Nat.le_refl _) ?_,rfl,q _ hf⟩
 exact ⟨z,us,0,r,Heap.get?_push_size _ rfl⟩
end
abbrev Sp:=List V→Hp→VK→XK→Prop
abbrev CXT:=List Env→Hp→Shared→XK→Value→Shared→Prop
structure Env0 (P:Program) (w:World) (K:PySem.W.Frag) (mg:Str→Option Value) (base:Heap) (A:Around) (outer:List Env) (s:Shared) (H:Hp):Prop where
 frames:A.frames=some outer
 mod:Mod K mg base
 bs:∀ b o,base.get? b=some o→s.heap.get? b=some o∧H b=none
 bsz:base.objs.size≤s.heap.objs.size
 funs:s.heap.FunFrames base outer
 frf:∀ b∈frs outer,H b=none
 hok:HOk P w H s.heap
 bare:AllBare s.gens
def CE (outer:List Env) (P:Program) (w:World) (H:Hp) (s:Shared) (Q:VK) (u:Value) (s':Shared):Prop:=
 ∃ v H',s'.os=s.os∧AllBare s'.gens∧Un (frs outer) [] H H' s.heap s'.heap∧HOk P w H' s'.heap∧RelV v u∧Q v H'
def CR (CX:CXT) (outer:List Env) (P:Program) (w:World) (H:Hp) (s:Shared) (Q:VK) (E:XK) (r:Result) (s':Shared):Prop:=
 match r with
 | .ok (.ret u)=>CE outer P w H s Q u s'
 | .ok _=>False
 | .error e=>CX outer H s E e s'
structure FnOk (P:Program) (w:World) (K:PySem.W.Frag) (mg:Str→Option Value) (base:Heap) (CX:CXT) (k:Nat) (f:Addr) (fd:FuncData) (ps:List Str) (sp:Sp):Prop where
 len:∀ vs H Q E,sp vs H Q E→vs.length=ps.length
 run:∀ (A:Around) (outer:List Env) (s:Shared) (H:Hp) (args:Args) (us:List Value) (vs:List V) (Q:VK) (E:XK),Room k A→Env0 P w K mg base A outer s H→BindsTo s fd args (ps.zip us)→Vals vs us→sp vs H Q E→
  codeAny (model P w) A (.call (.ref f) args) (CR CX outer P w H s Q E) s
theorem Env0.make {P:Program}{w:World}{K:PySem.W.Frag}{mg:Str→Option Value}{base:Heap}{A:Around}{outer:List Env}{s:Shared}{H:Hp} (e:Env0 P w K mg base A outer s H) (C:Addr) (us:List Value) (kw:List (Str × Value)):
  Env0 P w K mg base (A.under (.builtin "type.__call__" ⟨.ref C::us,kw⟩)) outer s H:=⟨by first | exact e.frames | (simpa [Around.under,Code.envs,Code.isFrame,pushEnvs] using e.frames),e.mod,e.bs,e.bsz,e.funs,e.frf,e.hok,e.bare⟩
section
variable {X:Cx}{pins:List (Addr × Obj)}{σ:St}{H:Hp}{s s':Shared}
theorem Inv.env0 (I:Inv X pins σ H s):Env0 X.prog X.w X.K X.mg X.base X.A X.stack s H:=
 ⟨I.ok.frames,I.ok.mod,I.bs,Nat.le_trans I.ok.bsz I.sz,I.stack,I.stkFree,I.hok,I.bare⟩
theorem Inv.after {Q:VK}{u:Value} (I:Inv X pins σ H s) (h:CE X.stack X.prog X.w H s Q u s'):EP X pins σ Q u s':=by
 obtain ⟨v,H',os,bare,un,hok,r,q⟩:=h
 obtain ⟨hh,g,d,t,os'⟩:=s'
 obtain rfl:os'=s.os:=os
 exact ⟨v,H',I.call (h':=hh) (g':=g) (d':=d) (t':=t) (ch:=[]) un hok bare (fun b z=>absurd z (by simp)),r,q⟩
end
def tCall (sp:Sp) (dvs:List V) (E:XK) (t:TA):TE:=fun σ H Q=>t σ H fun vs H1=>sp (vs++dvs) H1 Q E
def tMeth (C:Addr) (m:Str) (sp:Sp) (dvs:List V) (E:XK) (ta:TE) (t:TA):TE:=fun σ H Q=>ta σ H fun x H1=>∃ a dx fs,x=.ref a∧H1 a=some (.ins C dx fs)∧fs.lookup m=none∧
 t σ H1 fun vs H2=>sp (x::(vs++dvs)) H2 Q E
def tMake (C:Addr) (sp:Sp) (dvs:List V) (E:XK) (t:TA):TE:=fun σ H Q=>t σ H fun vs H1=>∀ x dx,H1 x=none→H1 dx=none→dx≠x→
 sp (.ref x::(vs++dvs)) (upd (upd H1 dx (.own x)) x (.ins C dx [])) (fun v H2=>v=.non∧Q (.ref x) H2) E
def Binds (K:PySem.W.Frag) (fd:FuncData) (ps:List Str) (ds:List Value):Prop:=
 ∀ (s:Shared) (us:List Value),K.In s.heap→(us++ds).length=ps.length→BindsTo s fd ⟨us,[]⟩ (ps.zip (us++ds))
theorem Binds.all {K:PySem.W.Frag}{fd:FuncData}{ps:List Str} (h:∀ us:List Value,us.length=ps.length→bindArgs fd ⟨us,[]⟩=pure (ps.zip us)):Binds K fd ps []:=fun s us _ hl=>by
 rw [List.append_nil] at hl ⊢
 exact .of_eq (h us hl)
def Passes (CX:CXT) (X:Cx) (E:XK):Prop:=∀ (pins:List (Addr × Obj)) (σ:St) (H:Hp) (s:Shared) (e:Value) (s':Shared),Inv X pins σ H s→CX X.stack H s E e s'→X.xe e s'
section
variable {X:Cx}{CX:CXT}{k:Nat}{f C:Addr}{fd:FuncData}{ps:List Str}{sp:Sp}{dvs:List V}{ds:List Value}{E:XK}{x m:Str}{p pos apos:Pos}{e o:Expr}{es:List Expr}{ta:TE}{t:TA}
theorem run_fn {pins:List (Addr × Obj)}{σ:St}{H:Hp}{s:Shared}{Q:VK}{us:List Value}{vs:List V} (F:FnOk X.prog X.w X.K X.mg X.base CX k f fd ps sp) (hr:Room k X.A) (hb:Binds X.K fd ps ds) (hd:Vals dvs ds) (hx:Passes CX X E)
  (I:Inv X pins σ H s) (r:Vals vs us) (h:sp (vs++dvs) H Q E):wpAny (model X.prog X.w) X.A (call (.ref f) us) (EP X pins σ Q) X.xe s:=by
 have r2:Vals (vs++dvs) (us++ds):=r.append hd
 have hl:(us++ds).length=ps.length:=by rw [← r2.length];exact F.len _ _ _ _ h
 refine wpAny_call (codeAny_mono (F.run X.A X.stack s H ⟨us,[]⟩ (us++ds) (vs++dvs) Q E hr I.env0 (hb s us I.kIn hl) r2 h) fun r s' hq=>?_)
 cases r with
 | error e=>exact hx pins σ H s e s' I hq
 | ok fl=>
  cases fl with
  | ret u=>exact I.after hq
  | next=>exact False.elim hq
  | brk=>exact False.elim hq
  | cont=>exact False.elim hq
theorem pe_call (F:FnOk X.prog X.w X.K X.mg X.base CX k f fd ps sp) (hr:Room k X.A) (hg:Gl X x) (hm:X.mg x=some (.ref f)) (hk:PySem.W.keepIn X.K (.ref f)=true) (hb:Binds X.K fd ps ds) (hd:Vals dvs ds) (hx:Passes CX X E)
  (ha:PA X (e::es) t) (hdb:(x == ("__debug__":Str))=false:=by decide) (he:starEach (e::es) X.env=(false,eval e X.env)::starEach es X.env:=by rfl) (hpl:(backTo pos (starEach es X.env)).any (·.1)=false:=by rfl):
  PE X (.Call (.Name x p) (e::es) [] pos) (tCall sp dvs E t):=by
 intro pins s σ H Q I h
 refine wpAny_Call_Name_kw (ld_glob I hg hm ?_ hdb)
 refine PySem.W.callWith_K (h₀:=X.base) I.ok.mod.kin hk (thn (ha pos pins s σ H _ I h) fun us s1 ⟨vs,H1,I1,r,q⟩=>⟨I1.kIn,?_⟩) he hpl
 exact run_fn F hr hb hd hx I1 r q
theorem pe_meth0 {pl:Sem Bool} (he:PE X o ta) (c:Cls X.K C) (hm:Meth X.K C m f) (F:FnOk X.prog X.w X.K X.mg X.base CX k f fd ps sp) (hr:Room k X.A) (hb:Binds X.K fd ps ds) (hd:Vals dvs ds) (hx:Passes CX X E)
  (ht:eval (.Call (.Attribute o m apos) [] [] pos) X.env=(do
   let ov ← eval o X.env
   standAt apos.atName
   let (f,first) ← holding [ov] (getMethod ov m pl)
   callWith pos f first (backTo pos (starEach [] X.env)) (backToKw pos (keywordEach [] X.env))):=by rfl):
  PE X (.Call (.Attribute o m apos) [] [] pos) (tMeth C m sp dvs E ta tNil):=by
 intro pins s σ H Q I h
 refine PySem.W.methodCall_KW (pl:=pl) (thn (he pins s σ H _ I h) fun u s1 ⟨x,H1,I1,rx,a,dx,fs,ex,ea,l,q⟩=>?_) ht
 subst ex
 obtain rfl:u=Value.ref a:=rx
 refine getmeth_ok I1 ea c hm l ?_
 exact PySem.W.callWith_K0 (first:=[.ref a]) I1.kIn hm.kp (run_fn (us:=[.ref a]) (vs:=[.ref a]) F hr hb hd hx I1 (.cons rfl .nil) q)
structure Mk (K:PySem.W.Frag) (C f:Addr):Prop where
 makes:PySem.W.makesIn K C=true
 init:PySem.W.findIn K (.ref C) "__init__"=some (some (.ref f))
 fn:PySem.W.isFn K (.ref f)=true
 kp:PySem.W.keepIn K (.ref C)=true
theorem run_make {pins:List (Addr × Obj)}{σ:St}{H:Hp}{s:Shared}{Q:VK}{us:List Value}{vs:List V} (M:Mk X.K C f) (F:FnOk X.prog X.w X.K X.mg X.base CX k f fd ps sp) (hr:Room (k+1) X.A) (hb:Binds X.K fd ps ds) (hd:Vals dvs ds)
  (hx:Passes CX X E) (I:Inv X pins σ H s) (r:Vals vs us)
  (h:∀ x dx,H x=none→H dx=none→dx≠x→sp (.ref x::(vs++dvs)) (upd (upd H dx (.own x)) x (.ins C dx [])) (fun v H2=>v=.non∧Q (.ref x) H2) E):
  wpAny (model X.prog X.w) X.A (call (.ref C) us) (EP X pins σ Q) X.xe s:=by
 have hq:=h (s.heap.objs.size+1) s.heap.objs.size (I.hok.fresh (Nat.le_succ _)) (I.hok.fresh (Nat.le_refl _)) (Nat.ne_of_lt (Nat.lt_succ_self _))
 have I2:=Inv.made (C:=C) I
 have r2:Vals (V.ref (s.heap.objs.size+1)::(vs++dvs)) (Value.ref (s.heap.objs.size+1)::(us++ds)):=.cons rfl (r.append hd)
 have hl:(Value.ref (s.heap.objs.size+1)::us++ds).length=ps.length:=by
  have e:=r2.length
  rw [F.len _ _ _ _ hq] at e
  exact e.symm
 refine wpAny_call (make_map (f:=f) I.kIn M.makes M.init (beq_iff_eq.mp M.fn) (codeAny_mono (F.run _ X.stack _ _ ⟨Value.ref (s.heap.objs.size+1)::us,[]⟩ (Value.ref (s.heap.objs.size+1)::(us++ds)) _ _ E (hr.make C us [])
  (I2.env0.make C us []) (hb _ (Value.ref (s.heap.objs.size+1)::us) I2.kIn hl) r2 hq) fun r s' hq'=>?_))
 cases r with
 | error e=>exact hx pins σ _ _ e s' I2 hq'
 | ok fl=>
  cases fl with
  | ret u=>
   obtain ⟨v,H',I3,rv,ev,q3⟩:=I2.after hq'
   subst ev
   exact ⟨rv,⟨V.ref (s.heap.objs.size+1),H',I3,rfl,q3⟩⟩
  | next=>exact False.elim hq'
  | brk=>exact False.elim hq'
  | cont=>exact False.elim hq'
theorem pe_make (M:Mk X.K C f) (F:FnOk X.prog X.w X.K X.mg X.base CX k f fd ps sp) (hr:Room (k+1) X.A) (hg:Gl X x) (hm:X.mg x=some (.ref C)) (hb:Binds X.K fd ps ds) (hd:Vals dvs ds) (hx:Passes CX X E)
  (ha:PA X (e::es) t) (hdb:(x == ("__debug__":Str))=false:=by decide) (he:starEach (e::es) X.env=(false,eval e X.env)::starEach es X.env:=by rfl) (hpl:(backTo pos (starEach es X.env)).any (·.1)=false:=by rfl):
  PE X (.Call (.Name x p) (e::es) [] pos) (tMake C sp dvs E t):=by
 intro pins s σ H Q I h
 refine wpAny_Call_Name_kw (ld_glob I hg hm ?_ hdb)
 refine PySem.W.callWith_K (h₀:=X.base) I.ok.mod.kin M.kp (thn (ha pos pins s σ H _ I h) fun us s1 ⟨vs,H1,I1,r,q⟩=>⟨I1.kIn,?_⟩) he hpl
 exact run_make M F hr hb hd hx I1 r q
end
structure FnScope (N P:List Str) (sc:Scope):Prop where
 kind:sc.kind=.function
 co:sc.isCoroutine=false
 gen:sc.isGenerator=false
 nd:N.Nodup
 pre:N.take P.length=P
 par:∀ x∈P,sc.names.lookup x=some .local∨sc.names.lookup x=some .cell
 nofree:∀ y∈sc.names,y.2≠.free
theorem bindL_out {kindOf:Str→Option NameKind}{x:Str}:∀ {binds:List (Str × Value)}{m:Str→Option Value},(∀ v,(x,v)∉binds)→bindL kindOf binds m x=m x
 | [],_,_=>rfl
 | (n,v)::r,m,h=>by
  unfold bindL
  rw [bindL_out fun w hw=>h w (List.mem_cons_of_mem _ hw)]
  split
  · have:x≠n:=by rintro rfl;exact h v List.mem_cons_self
    simp [this]
  · rfl
theorem bindC_out {kindOf:Str→Option NameKind}{x:Str}:∀ {binds:List (Str × Value)}{m:Str→Option Value},(∀ v,(x,v)∉binds)→bindC kindOf binds m x=m x
 | [],_,_=>rfl
 | (n,v)::r,m,h=>by
  unfold bindC
  rw [bindC_out fun w hw=>h w (List.mem_cons_of_mem _ hw)]
  split
  · rfl
  · have:x≠n:=by rintro rfl;exact h v List.mem_cons_self
    simp [this]
theorem bindL_get {kindOf:Str→Option NameKind}{x:Str}{v:Value}:∀ {P:List Str}{vs:List Value}{i:Nat}{m:Str→Option Value},P.Nodup→P[i]?=some x→vs[i]?=some v→kindOf x=some .local→
  bindL kindOf (P.zip vs) m x=some v
 | [],_,_,_,_,h,_,_=>by simp at h
 | _::_,[],_,_,_,_,h,_=>by simp at h
 | p::P,w::vs,0,m,nd,h1,h2,hk=>by
  simp at h1 h2;subst h1;subst h2
  show bindL kindOf ((p,w)::P.zip vs) m p=_
  unfold bindL
  rw [bindL_out fun v hv=>(List.nodup_cons.mp nd).1 (List.of_mem_zip hv).1,if_pos hk]
  simp
 | p::P,w::vs,i+1,m,nd,h1,h2,hk=>by
  show bindL kindOf ((p,w)::P.zip vs) m x=_
  unfold bindL
  exact bindL_get (i:=i) (List.nodup_cons.mp nd).2 (by simpa using h1) (by simpa using h2) hk
theorem bindC_get {kindOf:Str→Option NameKind}{x:Str}{v:Value}:∀ {P:List Str}{vs:List Value}{i:Nat}{m:Str→Option Value},P.Nodup→P[i]?=some x→vs[i]?=some v→kindOf x≠some .local→
  bindC kindOf (P.zip vs) m x=some v
 | [],_,_,_,_,h,_,_=>by simp at h
 | _::_,[],_,_,_,_,h,_=>by simp at h
 | p::P,w::vs,0,m,nd,h1,h2,hk=>by
  simp at h1 h2;subst h1;subst h2
  show bindC kindOf ((p,w)::P.zip vs) m p=_
  unfold bindC
  rw [bindC_out fun v hv=>(List.nodup_cons.mp nd).1 (List.of_mem_zip hv).1,if_neg hk]
  simp
 | p::P,w::vs,i+1,m,nd,h1,h2,hk=>by
  show bindC kindOf ((p,w)::P.zip vs) m x=_
  unfold bindC
  exact bindC_get (i:=i) (List.nodup_cons.mp nd).2 (by simpa using h1) (by simpa using h2) hk
def start (N:List Str) (vs:List V):St:=vs.map some++List.replicate (N.length - vs.length) none
def cxOf (CX:CXT) (P:Program) (w:World) (K:PySem.W.Frag) (mg:Str→Option Value) (base:Heap) (N:List Str) (qual:Str) (scope:Scope) (f:Addr) (cd:Value) (A:Around) (outer:List Env) (s:Shared) (H:Hp) (E:XK):Cx where
 prog:=P
 w:=w
 K:=K
 mg:=mg
 base:=base
 A:=A.deeper (envOfC qual scope s.heap.objs.size f cd)
 N:=N
 s₀:=s
 H₀:=H
 env:=envOfC qual scope s.heap.objs.size f cd
 outer:=outer
 stack:=envOfC qual scope s.heap.objs.size f cd::outer
 ex:=[]
 calm:=true
 fn:=fun _=>true
 pn:=[]
 xe:=fun e s'=>wpAny (model P w) (A.deeper (envOfC qual scope s.heap.objs.size f cd)) (leaving (envOfC qual scope s.heap.objs.size f cd) e) (fun _ s''=>CX outer H s E e s'') (fun e' s''=>CX outer H s E e' s'') s'
theorem cell_has {sc:Scope}{n:Nat}{x:Str} (h:sc.names.lookup x=some .cell):∃ c,(cellsFrom n sc.names []).lookup x=some c:=by
 have q:=PySem.W.cellsFrom_some sc.names n [] (.inl h)
 exact Option.isSome_iff_exists.mp q
theorem inv_start {CX:CXT}{P:Program}{w:World}{K:PySem.W.Frag}{mg:Str→Option Value}{base:Heap}{N ps:List Str}{qual:Str}{scope:Scope}{f:Addr}{cd:Value}{A:Around}{outer:List Env}{s s1:Shared}{H:Hp}{E:XK}{us:List Value}{vs:List V}
  (S:FnScope N ps scope) (hd:A.handled=none) (e0:Env0 P w K mg base A outer s H) (hl:vs.length=ps.length) (r:Vals vs us)
  (x:InCallC s s.heap.objs.size (bindL (envOfC qual scope s.heap.objs.size f cd).kindOf (ps.zip us) fun _=>none) (cellsFrom (s.heap.objs.size+1) scope.names []) (bindC (envOfC qual scope s.heap.objs.size f cd).kindOf (ps.zip us) fun _=>none) s1):
  Inv (cxOf CX P w K mg base N qual scope f cd A outer s H E) [] (start N vs) H s1:=by
 have hpl:ps.length≤N.length:=by have:=congrArg List.length S.pre;rw [List.length_take] at this;omega
 obtain ⟨h1,tk,rfl,hk⟩:=x.done
 have noA:∀ b:Addr,b∉(cxOf CX P w K mg base N qual scope f cd A outer s H E).ex:=fun b z=>absurd (show b∈([]:List Addr) from z) (by simp)
 refine ⟨⟨e0.mod,S.kind,rfl,rfl,Nat.le_refl _,fun y z c h1 h2=>?_,fun y hy=>?_,fun y c _ h=>?_,fun _=>hd,Around.frames_deeper e0.frames,.inr ⟨rfl,rfl⟩,fun b z=>absurd z (noA b),e0.bs,e0.bsz,fun b _ _=>noA b,fun b z=>absurd z (noA b),e0.funs,e0.frf⟩,
  rfl,e0.bare,Un.kept hk,⟨_,x.toInCall.ns,fun i y v h1 h2 h3=>?_⟩,fun y c h=>⟨_,x.cell y c h⟩,e0.hok.fresh (Nat.le_refl _),fun y c h=>?_,fun p hp=>absurd (show p∈([]:List (Addr × Obj)) from hp) (by simp),e0.hok.kept hk,?_⟩
 · exact name_of_addr x.apart (PySem.mem_of_lookup h1) (PySem.mem_of_lookup h2)
 · have hy:scope.names.lookup y=some .cell∨scope.names.lookup y=some .free:=hy
   rcases hy with hy | hy
   · exact cell_has hy
   · exact absurd rfl (S.nofree _ (PySem.mem_of_lookup hy))
 · exact Nat.le_of_lt (x.above y c (PySem.mem_of_lookup h))
 · have hi:i < vs.length:=by
     unfold start at h2
     by_cases hi:i < vs.length
     · exact hi
     · rw [List.getElem?_append_right (by simpa using hi)] at h2
       rw [List.getElem?_replicate] at h2
       split at h2 <;> cases h2
   have ha:vs[i]?=some v:=by
    unfold start at h2
    rw [List.getElem?_append_left (by simpa using hi),List.getElem?_map] at h2
    cases e:vs[i]? with
    | none=>rw [e] at h2;cases h2
    | some a=>rw [e] at h2;cases h2;rfl
   obtain ⟨u,hu,rv⟩:=r.get ha
   have hp:ps[i]?=some y:=by
    rw [← S.pre,List.getElem?_take_of_lt (by omega)];exact h1
   have ndP:ps.Nodup:=by rw [← S.pre];exact S.nd.sublist (List.take_sublist _ _)
   refine ⟨u,rv,?_⟩
   rcases S.par y (List.mem_of_getElem? hp) with k | k
   · exact .inl ⟨k,bindL_get ndP hp hu k⟩
   · obtain ⟨c,e⟩:=cell_has (n:=s.heap.objs.size+1) k
     refine .inr ⟨.inl k,c,e,?_⟩
     have q:=x.cell y c e
     rw [bindC_get ndP hp hu (by show scope.names.lookup y≠_;rw [k];decide)] at q
     exact q
 · exact e0.hok.fresh (Nat.le_of_lt (x.above y c (PySem.mem_of_lookup h)))
 · unfold start
   show _=N.length
   rw [List.length_append,List.length_map,List.length_replicate]
   omega
theorem fn_of {CX:CXT}{P:Program}{w:World}{K:PySem.W.Frag}{mg:Str→Option Value}{base:Heap}{k:Nat}{f:Addr}{name qual:Str}{params:Arguments}{body:List Stmt}{scope:Scope}{dV kV doc pm cdv ct oc:Value}{an od:Option Addr}
  {osl:Array (Option Value)}{N ps:List Str}{sp:Sp} (lk:K.lookup f=some ⟨oc,od,.func (PySem.W.fnOf name qual params body scope dV kV doc pm an cdv ct),osl⟩) (hcd:PySem.W.codeIn K cdv qual=true) (S:FnScope N ps scope)
  (len:∀ vs H Q E,sp vs H Q E→vs.length=ps.length)
  (hbody:∀ (A:Around) (outer:List Env) (s:Shared) (H:Hp) (vs:List V) (Q:VK) (E:XK),Room k (A.deeper (envOfC qual scope s.heap.objs.size f cdv))→sp vs H Q E→
   ∃ t,PSs (cxOf CX P w K mg base N qual scope f cdv A outer s H E) body t∧t { nx:=fun _ H'=>Q .non H',rt:=Q } (start N vs) H):
  FnOk P w K mg base CX (k+1) f (PySem.W.fnOf name qual params body scope dV kV doc pm an cdv ct) ps sp:=by
 refine ⟨len,fun A outer s H args us vs Q E hr e0 hb r hsp=>?_⟩
 have hl:=len _ _ _ _ hsp
 have KX:K.In s.heap:=e0.mod.kin.keeps fun b o e=>(e0.bs b o e).1
 have lim:s.heap.NoLimit:=e0.mod.nolimit.keeps fun b o e=>(e0.bs b o e).1
 have hkind:∀ y∈ps.zip us,scope.names.lookup y.1=some .local∨(scope.names.lookup y.1=some .cell∧((cellsFrom (s.heap.objs.size+1) scope.names []).lookup y.1).isSome=true):=fun ⟨n,v⟩ hy=>by
  rcases S.par n (List.of_mem_zip hy).1 with q | q
  · exact .inl q
  · exact .inr ⟨q,PySem.W.cellsFrom_some _ _ _ (.inl q)⟩
 refine codeAny_call_function hr.depth (KX _ _ lk) rfl S.co S.gen rfl (PySem.W.codeRec_of KX hcd) (hb _ _ _ _ ?_)
 refine wpAny_newFunctionEnv_cells S.kind hkind fun env he s1 x=>?_
 subst he
 refine ⟨lim.keeps x.toInCall.keep,codeAny_func ?_⟩
 obtain ⟨t,ht,hq⟩:=hbody A outer s H vs Q E (hr.deeper _) hsp
 have I:Inv (cxOf CX P w K mg base N qual scope f cdv A outer s H E) [] (start N vs) H s1:=inv_start S hr.hd e0 hl r x
 refine wpAny_mono (ht [] s1 (start N vs) H _ I hq) (fun fl s' hs=>?_) fun e s' hs=>hs
 have fin:∀ {σ':St}{H':Hp}{v:V}{u:Value},Inv (cxOf CX P w K mg base N qual scope f cdv A outer s H E) [] σ' H' s'→RelV v u→Q v H'→CE outer P w H s Q u s':=
  fun {σ' H' v u} J rv q=>⟨v,H',J.os,J.bare,J.base,J.hok,rv,q⟩
 cases fl with
 | ret u=>
  obtain ⟨v,σ',H',J,rv,q⟩:=hs
  exact fin J rv q
 | next=>
  obtain ⟨σ',H',J,q⟩:=hs
  exact fin (v:=V.non) (u:=Value.none) J rfl q
 | brk=>
  obtain ⟨_,_,_,q⟩:=hs
  exact False.elim q
 | cont=>
  obtain ⟨_,_,_,q⟩:=hs
  exact False.elim q
section
variable {X:Cx}{x:Str}{p pos:Pos}{e:Expr}{es:List Expr}{t:TA}{id T:String}{r:List V→Hp→VK→Prop}
def tCB (r:List V→Hp→VK→Prop) (t:TA):TE:=fun σ H Q=>t σ H fun vs H1=>r vs H1 Q
theorem pe_callB (hc:CallR X (.builtin id) r) (hg:Gl X x) (hm:X.mg x=none) (hv:bootBuiltins x=some (.builtin id)) (ha:PA X (e::es) t) (hn:x≠"__name__":=by decide) (hdb:(x == ("__debug__":Str))=false:=by decide)
  (he:starEach (e::es) X.env=(false,eval e X.env)::starEach es X.env:=by rfl) (hpl:(backTo pos (starEach es X.env)).any (·.1)=false:=by rfl):PE X (.Call (.Name x p) (e::es) [] pos) (tCB r t):=by
 intro pins s σ H Q I h
 refine wpAny_Call_Name_kw (ld_blt I hg hm hv ?_ hn hdb)
 exact PyProof.Rows.callWith_builtin1 (thn (ha pos pins s σ H _ I h) fun us s1 ⟨vs,H1,I1,r1,q1⟩=>hc pins s1 σ H1 vs us Q I1 r1 q1) he hpl
theorem pe_callTy (hc:CallR X (.type T) r) (hg:Gl X x) (hm:X.mg x=none) (hv:bootBuiltins x=some (.type T)) (ha:PA X (e::es) t) (hn:x≠"__name__":=by decide) (hdb:(x == ("__debug__":Str))=false:=by decide)
  (he:starEach (e::es) X.env=(false,eval e X.env)::starEach es X.env:=by rfl) (hpl:(backTo pos (starEach es X.env)).any (·.1)=false:=by rfl):PE X (.Call (.Name x p) (e::es) [] pos) (tCB r t):=by
 intro pins s σ H Q I h
 refine wpAny_Call_Name_kw (ld_blt I hg hm hv ?_ hn hdb)
 exact PyProof.Rows.callWith_type1 (thn (ha pos pins s σ H _ I h) fun us s1 ⟨vs,H1,I1,r1,q1⟩=>hc pins s1 σ H1 vs us Q I1 r1 q1) he hpl
end
end L2
namespace HT
open PySem PyProof.Rows
section
variable {prog:Program}{w:World}{A:Around}{E:Value→Shared→Prop}{s:Shared}
def sIx (n d:Nat):Option Int→Nat
 | none=>d
 | some v=>if v < 0 then (v+(n:Int)).toNat else min v.toNat n
theorem sIx_none (n d:Nat):sIx n d none=d:=rfl
theorem sIx_nat (n d k:Nat):sIx n d (some (k:Int))=min k n:=by
 show (if (k:Int) < 0 then ((k:Int)+(n:Int)).toNat else min (k:Int).toNat n)=min k n
 rw [if_neg (by omega),Int.toNat_natCast]
end
end HT
namespace L2
open PySem PySem.Spec PyProof.Rows
abbrev TO:=St→Hp→(Option Int→Hp→Prop)→Prop
def PO (X:Cx) (e:Option Expr) (t:TO):Prop:=
 ∀ (pins:List (Addr × Obj)) (s:Shared) (σ:St) (H:Hp) (Q:Option Int→Hp→Prop),Inv X pins σ H s→t σ H Q→
  wpAny (model X.prog X.w) X.A (evalPart e X.env) (fun u s'=>∃ o H',Inv X pins σ H' s'∧IsPart u o∧Q o H') X.xe s
def tNoPart:TO:=fun _ H Q=>Q none H
def tPart (t:TE):TO:=fun σ H Q=>t σ H fun x H1=>∃ i,x=.int i∧Q (some i) H1
theorem intsAre_of {ns:List Int}:∀ {us:List Value},Vals (ns.map V.int) us→IntsAre us ns:=by
 induction ns with
 | nil=>intro us r;rw [List.map_nil] at r;cases r;exact .nil
 | cons n ns ih=>
  intro us r
  rw [List.map_cons] at r
  cases r with
  | cons r1 r2=>
   obtain ⟨t,e⟩:=r1
   subst e
   exact .cons n t (ih r2)
section
variable {X:Cx}{e:Expr}{te:TE}{lo hi:Option Expr}{tl th:TO}{pos p2:Pos}
theorem po_none:PO X none tNoPart:=by
 intro pins s σ H Q I h
 rw [evalPart_none]
 exact wpAny_pure ⟨none,H,I,.none,h⟩
theorem po_some (h:PE X e te):PO X (some e) (tPart te):=by
 intro pins s σ H Q I hw
 rw [evalPart_some]
 refine thn (h pins s σ H _ I hw) fun u s1 ⟨x,H1,I1,r1,q1⟩=>?_
 obtain ⟨i,rfl,q⟩:=q1
 obtain ⟨t,rfl⟩:=r1
 exact ⟨some i,H1,I1,.int i t,q⟩
def SlR (X:Cx) (r:V→Option Int→Option Int→Hp→VK→Prop):Prop:=
 ∀ (pins:List (Addr × Obj)) (s:Shared) (σ:St) (H:Hp) (x:V) (v vl vu:Value) (lo hi:Option Int) (sl:Addr) (Q:VK),Inv X pins σ H s→RelV x v→s.heap.IsSliceOf sl vl vu .none→IsPart vl lo→IsPart vu hi→r x lo hi H Q→
  ∃ T id,typeLookup (.type T) "__getitem__"=pure (some (.builtin id))∧s.TypeIs v T∧wpAny (model X.prog X.w) X.A (getItem v (.ref sl)) (EP X pins σ Q) X.xe s
def tSl (r:V→Option Int→Option Int→Hp→VK→Prop) (te:TE) (tl th:TO):TE:=fun σ H Q=>te σ H fun x H1=>tl σ H1 fun l H2=>th σ H2 fun u H3=>r x l u H3 Q
theorem pe_slice {r:V→Option Int→Option Int→Hp→VK→Prop} (hr:SlR X r) (he:PE X e te) (hl:PO X lo tl) (hu:PO X hi th):PE X (.Subscript e (.Slice lo hi none p2) pos) (tSl r te tl th):=by
 intro pins s σ H Q I h
 refine Subscript_ (thn (he pins s σ H _ I h) fun v s1 ⟨x,H1,I1,r1,q1⟩=>?_)
 refine wpAny_Slice (thn (hl pins s1 σ H1 _ I1 q1) fun vl s2 ⟨l,H2,I2,pl,q2⟩=>thn (hu pins s2 σ H2 _ I2 q2) fun vu s3 ⟨u,H3,I3,pu,q3⟩=>?_)
 rw [evalPart_none]
 refine wpAny_pure ?_
 have I4:Inv X pins σ H3 { s3 with heap:=s3.heap.push { cls:=.type "slice",data:=.fields #[vl,vu,.none] } }:=I3.kept (t':=s3.toks) fun b ob q=>Heap.get?_push_of_some _ q
 obtain ⟨T,id,hT,ht,hg⟩:=hr pins { s3 with heap:=s3.heap.push { cls:=.type "slice",data:=.fields #[vl,vu,.none] } } σ H3 x v vl vu l u s3.heap.objs.size Q I4 r1 (Heap.IsSliceOf.new ..) pl pu q3
 show wpAny (model X.prog X.w) X.A (subscriptTail e (.Slice lo hi none p2) v (.ref s3.heap.objs.size)) (EP X pins σ Q) X.xe { s3 with heap:=s3.heap.push { cls:=.type "slice",data:=.fields #[vl,vu,.none] } }
 exact tail_any (ops:=[.ref s3.heap.objs.size,v]) ht hT hg (by with_unfolding_all rfl)
def cutV (xs:List V) (lo hi:Option Int):List V:=(xs.drop (HT.sIx xs.length 0 lo)).take (HT.sIx xs.length xs.length hi - HT.sIx xs.length 0 lo)
theorem cutV_length (xs:List V) (lo hi:Option Int):(cutV xs lo hi).length≤xs.length:=by
 unfold cutV
 rw [List.length_take,List.length_drop]
 omega
end
def ixN (n:Nat) (i:Int):Option Nat:=if 0≤i then (if i < n then some i.toNat else none) else if -(n:Int)≤i then some (i+n).toNat else none
def atI {α:Type} (xs:List α) (i:Int):Option α:=(ixN xs.length i).bind fun j=>xs[j]?
theorem ixN_seq {n:Nat}{i:Int}{j:Nat} (h:ixN n i=some j):seqIndex? i n=some j∧j < n∧ -(n:Int)≤i∧i < n:=by
 unfold ixN at h
 by_cases h0:0≤i
 · rw [if_pos h0] at h
   by_cases h1:i < n
   · rw [if_pos h1] at h
     have e:i.toNat=j:=Option.some.inj h
     exact ⟨by rw [seqIndex_of h0 h1,e],by omega,by omega,h1⟩
   · rw [if_neg h1] at h;cases h
 · rw [if_neg h0] at h
   by_cases h1: -(n:Int)≤i
   · rw [if_pos h1] at h
     have e:(i+n).toNat=j:=Option.some.inj h
     exact ⟨by rw [seqIndex_neg (by omega) h1,e],by omega,h1,by omega⟩
   · rw [if_neg h1] at h;cases h
theorem atI_get {α:Type}{xs:List α}{i:Int}{v:α} (h:atI xs i=some v):∃ j,seqIndex? i xs.length=some j∧xs[j]?=some v∧j < xs.length∧ -(xs.length:Int)≤i∧i < xs.length:=by
 unfold atI at h
 cases e:ixN xs.length i with
 | none=>rw [e] at h;cases h
 | some j=>
  rw [e] at h
  obtain ⟨h1,h2,h3,h4⟩:=ixN_seq e
  exact ⟨j,h1,h,h2,h3,h4⟩
theorem atI_nat {α:Type}{xs:List α}{j:Nat}{v:α} (h:xs[j]?=some v):atI xs (j:Int)=some v:=by
 have hj:j < xs.length:=(List.getElem?_eq_some_iff.mp h).1
 have e:ixN xs.length (j:Int)=some j:=by
  unfold ixN
  rw [if_pos (by omega),if_pos (by omega)];simp
 unfold atI;rw [e];exact h
def PlainIx (b:Expr):Prop:=∀ o i,subscripted b false o i=operate [o,i] (getItem o i)
def IxR (X:Cx) (r:R2):Prop:=
 ∀ (value slice:Expr) (pins:List (Addr × Obj)) (s:Shared) (σ:St) (H:Hp) (x y:V) (v u:Value) (Q:VK),Inv X pins σ H s→RelV x v→RelV y u→r x y H Q→
  subscripted slice false v u=operate [v,u] (getItem v u)→wpAny (model X.prog X.w) X.A (subscriptTail value slice v u) (EP X pins σ Q) X.xe s
def MtR (X:Cx) (id:String) (r:V→List V→Hp→VK→Prop):Prop:=
 ∀ (pins:List (Addr × Obj)) (s:Shared) (σ:St) (H:Hp) (x:V) (xs:List V) (v:Value) (us:List Value) (Q:VK),Inv X pins σ H s→RelV x v→Vals xs us→r x xs H Q→
  wpAny (model X.prog X.w) X.A (call (.builtin id) (v::us)) (EP X pins σ Q) X.xe s
section
variable {X:Cx}{a b:Expr}{ta tb:TE}{pos:Pos}
theorem pe_ix {r:R2} (hr:IxR X r) (ha:PE X a ta) (hb:PE X b tb) (hs:PlainIx b):PE X (.Subscript a b pos) (tOp r ta tb):=by
 intro pins s σ H Q I h
 exact Subscript_ (binT ha hb I h fun v u s2 x y H2 I2 rx ry q=>hr a b pins s2 σ H2 x y v u Q I2 rx ry q (hs _ _))
def rIxL (K:PySem.W.Frag):R2:=fun x y H Q=>∃ p xs i v,x=.ref p∧y=.int i∧SqL K H p xs∧atI xs i=some v∧Q v H
theorem ix_list:IxR X (rIxL X.K):=by
 intro value slice pins s σ H x y v u Q I rx ry h hs
 obtain ⟨p,xs,i,z,rfl,rfl,hq,he,q⟩:=h
 cases rx
 obtain ⟨t,rfl⟩:=ry
 obtain ⟨its,r,pl,hz⟩:=I.list hq
 obtain ⟨j,h1,h2,h3,h4,h5⟩:=atI_get he
 obtain ⟨w,ew,rw'⟩:=r.get h2
 have hl:=r.length
 have hn:=line63
 have fin:EP X pins σ Q w s:=⟨z,H,I,rw',q⟩
 by_cases h0:0≤i
 · have hj:i.toNat=j:=by
     rw [seqIndex_of h0 h5] at h1
     exact Option.some.inj h1
   exact item_listR pl.isList h0 (by omega) (by rw [hj];simpa using ew) fin hs
 · have hj:(i+(its.toArray.size:Int)).toNat=j:=by
     rw [seqIndex_neg (by omega) h4] at h1
     rw [List.size_toArray, ← hl]
     exact Option.some.inj h1
   exact subscriptTail_builtinR (x:=w) pl.isList.typeIs slot_list_getitem.lookup
    (wpAny_getItem_list_neg (Q:=fun r s'=>r=w∧EP X pins σ Q r s') pl.isList (by omega) (by rw [List.size_toArray] <;> omega) (by omega) (by rw [hj];simpa using ew) ⟨rfl,fin⟩) hs
theorem mapSeq_set (its:List Value) (n j:Nat) (u:Value):Obj.mapSeq (·.setIfInBounds j u) { cls:=.type "list",data:=.seq its.toArray n }={ cls:=.type "list",data:=.seq (its.set j u).toArray n }:=by
 simp [Obj.mapSeq]
theorem Inv.lst {pins:List (Addr × Obj)}{σ:St}{H:Hp}{s:Shared}{p:Addr}{xs:List V} (I:Inv X pins σ H s) (h:H p=some (.lst xs)):
  ∃ (its:List Value) (n:Nat),Vals xs its∧s.heap.get? p=some { cls:=.type "list",data:=.seq its.toArray n }∧xs.length≤sizeLine:=by
 obtain ⟨z,its,n,r,e⟩:=I.hok p _ h
 exact ⟨its,n,r,e,z⟩
theorem Inv.lstUpd {pins:List (Addr × Obj)}{σ:St}{H:Hp}{s:Shared}{p:Addr}{xs ys:List V}{its its':List Value}{n n':Nat}{f:Obj→Obj} (I:Inv X pins σ H s) (h:H p=some (.lst xs))
  (ho:s.heap.get? p=some { cls:=.type "list",data:=.seq its.toArray n }) (hf:f { cls:=.type "list",data:=.seq its.toArray n }={ cls:=.type "list",data:=.seq its'.toArray n' }) (r:Vals ys its') (hz:ys.length≤sizeLine) (t:Nat):
  Inv X pins σ (upd H p (.lst ys)) { s with heap:=s.heap.update p f,toks:=t }:=by
 have e:(s.heap.update p f).get? p=some { cls:=.type "list",data:=.seq its'.toArray n' }:=by
  rw [Heap.get?_update_self f ho (by rw [hf] <;> rfl),hf]
 refine I.write (x:=p) (e:=p) (by rw [h];trivial) (.inl rfl) (fun b u hb q=>(Heap.get?_update_other _ _ (Ne.symm hb)).trans q) ⟨_,e⟩ ?_
 exact ⟨hz,its',n',r,e⟩
def rSetL:V→V→V→Hp→(Hp→Prop)→Prop:=fun o i v H Q=>∃ p xs k j,o=.ref p∧i=.int k∧H p=some (.lst xs)∧ixN xs.length k=some j∧Q (upd H p (.lst (xs.set j v)))
theorem set_list:PSet X rSetL:=by
 intro pins s σ H o i v ov iv u Q I ro ri rv h
 obtain ⟨p,xs,k,j,rfl,rfl,hp,hj,q⟩:=h
 cases ro
 obtain ⟨t,rfl⟩:=ri
 obtain ⟨its,n,r,ho,hz⟩:=I.lst hp
 obtain ⟨h1,h2,h3,h4⟩:=ixN_seq hj
 have hl:=r.length
 have hn:=line63
 have I':Inv X pins σ (upd H p (.lst (xs.set j v))) { s with heap:=s.heap.update p (Obj.mapSeq (·.setIfInBounds j u)) }:=
  I.lstUpd hp ho (mapSeq_set its n j u) (r.set rv j) (by rw [List.length_set];exact hz) s.toks
 by_cases h0:0≤k
 · have hk:k.toNat=j:=by
     rw [seqIndex_of h0 h4] at h1
     exact Option.some.inj h1
   exact PySem.W.ki_setAt ho h0 (by omega) (by rw [List.size_toArray, ← hl];exact h4) (by rw [hk];exact ⟨_,I',q⟩)
 · have hk:(k+(its.toArray.size:Int)).toNat=j:=by
     rw [seqIndex_neg (by omega) h3] at h1
     rw [List.size_toArray, ← hl]
     exact Option.some.inj h1
   exact PySem.W.ki_setBack ho (by omega) (by rw [List.size_toArray, ← hl];exact h3) (by omega) (by rw [hk];exact ⟨_,I',q⟩)
theorem slice_bounds (lo hi:Option Int) (n:Nat):(sliceBounds lo hi none n).1=((HT.sIx n 0 lo:Nat):Int)∧(sliceBounds lo hi none n).2.1=((HT.sIx n n hi:Nat):Int)∧(sliceBounds lo hi none n).2.2=1:=by
 refine ⟨?_,?_,rfl⟩
 · cases lo with
   | none=>simp [sliceBounds,HT.sIx]
   | some i=>
    simp only [sliceBounds,HT.sIx,Option.getD_none,show (1:Int) > 0 by decide,if_true]
    by_cases h:i < 0
    · simp only [h,if_true] <;> omega
    · simp only [h,if_false] <;> omega
 · cases hi with
   | none=>simp [sliceBounds,HT.sIx]
   | some i=>
    simp only [sliceBounds,HT.sIx,Option.getD_none,show (1:Int) > 0 by decide,if_true]
    by_cases h:i < 0
    · simp only [h,if_true] <;> omega
    · simp only [h,if_false] <;> omega
theorem slicePick_cut (its:List Value) (lo hi:Option Int):slicePick its.toArray lo hi none=((its.drop (HT.sIx its.length 0 lo)).take (HT.sIx its.length its.length hi - HT.sIx its.length 0 lo)).toArray:=by
 obtain ⟨h1,h2,h3⟩:=slice_bounds lo hi its.toArray.size
 unfold slicePick
 rw [h1,h2,h3]
 simp only [sliceRange_one,pick_run,List.size_toArray] <;> rfl
def rSlL (K:PySem.W.Frag):V→Option Int→Option Int→Hp→VK→Prop:=fun x lo hi H Q=>∃ a xs,x=.ref a∧SqL K H a xs∧∀ p,H p=none→Q (.ref p) (upd H p (.lst (cutV xs lo hi)))
theorem sl_list:SlR X (rSlL X.K):=by
 intro pins s σ H x v vl vu lo hi sl Q I rx hs pl pu h
 obtain ⟨a,xs,rfl,hx,q⟩:=h
 cases rx
 obtain ⟨its,r,ht,hz⟩:=I.list hx
 have hlen:=r.length
 refine ⟨"list",_,slot_list_getitem.lookup,ht.isList.typeIs,?_⟩
 refine wpAny_getItem_list_slice ht.isList hs pl pu .none (by simp) ?_ (by rw [List.size_toArray] <;> omega)
 rw [slicePick_cut, ← hlen]
 refine ⟨.ref s.heap.objs.size,_,I.laid (t':=s.toks) (o:=.lst (cutV xs lo hi)) (fun b ob q=>Heap.get?_push_of_some _ q) (Nat.le_refl _) ?_,rfl,q _ (I.hok.fresh (Nat.le_refl _))⟩
 exact ⟨Nat.le_trans (cutV_length xs lo hi) hz,_,0,(r.drop (HT.sIx xs.length 0 lo)).take (HT.sIx xs.length xs.length hi - HT.sIx xs.length 0 lo),Heap.get?_push_size _ rfl⟩
theorem call_len_seq:CallR X (.builtin "len") (fun xs H Q=>∃ p ys,xs=[.ref p]∧(SqL X.K H p ys∨SqT X.K H p ys)∧Q (.int ys.length) H):=by
 intro pins s σ H xs us Q I r h
 obtain ⟨p,ys,rfl,hq,q⟩:=h
 obtain ⟨u,rfl,rx⟩:=vals1 r
 cases rx
 have hn:=line63
 rcases hq with hq | hq
 · obtain ⟨its,r',pl,hz⟩:=I.list hq
   have hlen:=r'.length
   exact Calls.call_len_list pl.isList (by simp only [List.size_toArray] <;> omega) ⟨.int ys.length,H,I.tok _,⟨s.toks+1,by rw [List.size_toArray,hlen]⟩,q⟩
 · obtain ⟨its,r',pl,hz⟩:=I.tuple hq
   have hlen:=r'.length
   exact len_tuple pl (by simp only [List.size_toArray] <;> omega) ⟨.int ys.length,H,I.tok _,⟨s.toks+1,by rw [List.size_toArray,hlen]⟩,q⟩
theorem call_list_of:CallR X (.type "list") (fun xs H Q=>∃ p ys,xs=[.ref p]∧(SqL X.K H p ys∨SqT X.K H p ys)∧∀ l,H l=none→Q (.ref l) (upd H l (.lst ys))):=by
 intro pins s σ H xs us Q I r h
 obtain ⟨p,ys,rfl,hq,q⟩:=h
 obtain ⟨u,rfl,rx⟩:=vals1 r
 cases rx
 have fin:∀ (its:List Value),Vals ys its→ys.length≤sizeLine→∀ (h':Heap) (c':Nat),(∀ b o',s.heap.get? b=some o'→h'.get? b=some o')→
   h'.get? s.heap.objs.size=some { cls:=.type "list",dict:=none,data:=.seq its.toArray c',slots:= #[] }→EP X pins σ Q (.ref s.heap.objs.size) { s with heap:=h' }:=fun its r' hz h' c' kp e=>
  ⟨.ref s.heap.objs.size,_,I.laid (t':=s.toks) kp (Nat.le_refl _) (show ObjOk X.prog X.w _ h' _ (.lst ys) from ⟨hz,its,c',r',e⟩),rfl,q _ (I.hok.fresh (Nat.le_refl _))⟩
 rcases hq with hq | hq
 · obtain ⟨its,r',pl,hz⟩:=I.list hq
   have hlen:=r'.length
   obtain ⟨o,ho,hc,n,hd⟩:=pl.isList
   exact call_list_seq p (.inl rfl) ho hc hd (fun h' c' kp e=>fin its r' hz h' c' kp e) (by simp only [List.size_toArray] <;> omega)
 · obtain ⟨its,r',pl,hz⟩:=I.tuple hq
   have hlen:=r'.length
   obtain ⟨o,ho,hc,n,hd⟩:=pl
   exact call_list_seq p (.inr rfl) ho hc hd (fun h' c' kp e=>fin its r' hz h' c' kp e) (by simp only [List.size_toArray] <;> omega)
def tyV (K:PySem.W.Frag) (T:String) (x:V) (H:Hp):Prop:=match x with
 | .str _=>T="str"
 | .int _=>T="int"
 | .ref p=>(T="list"∧∃ xs,SqL K H p xs)∨(T="tuple"∧∃ o,K.lookup p=some o∧o.cls=.type "tuple"∧o.dict=none)∨
   (T="dict"∧((∃ kvs,H p=some (.dK kvs))∨∃ kvs,H p=some (.dT kvs)))∨(T="set"∧∃ S n,H p=some (.set S n))
 | _=>False
theorem tyV_is {pins:List (Addr × Obj)}{σ:St}{H:Hp}{s:Shared}{T:String}{x:V}{v:Value} (I:Inv X pins σ H s) (r:RelV x v) (ty:tyV X.K T x H):
  s.TypeIs v T∧∀ a,v=.ref a→∃ ob,s.heap.get? a=some ob∧ob.dict=none:=by
 cases x with
 | str z=>
  obtain ⟨t,rfl⟩:=r
  cases (show T="str" from ty)
  exact ⟨typeIs_str s z t,fun _ e=>nomatch e⟩
 | int i=>
  obtain ⟨t,rfl⟩:=r
  cases (show T="int" from ty)
  exact ⟨typeIs_int s i t,fun _ e=>nomatch e⟩
 | ref p=>
  cases r
  rcases ty with ⟨rfl,xs,hq⟩ | ⟨rfl,o,hk,hc,hd⟩ | ⟨rfl,hk⟩ | ⟨rfl,S,n,hk⟩
  · obtain ⟨its,_,pl,_⟩:=I.list hq
    refine ⟨pl.isList.typeIs,fun a e=>?_⟩
    cases e
    obtain ⟨o,n,e,c,hd,_⟩:=pl
    exact ⟨o,e,hd⟩
  · refine ⟨⟨o,I.kIn p o hk,hc⟩,fun a e=>?_⟩
    cases e
    exact ⟨o,I.kIn _ o hk,hd⟩
  · have z:∃ o,s.heap.get? p=some o∧o.ExactDict:=by
      rcases hk with ⟨kvs,hk⟩ | ⟨kvs,hk⟩
      · obtain ⟨_,_,_,_,o,_,_,e,ex,_⟩:=I.hok p _ hk
        exact ⟨o,e,ex⟩
      · obtain ⟨_,_,_,_,o,_,_,e,ex,_⟩:=I.hok p _ hk
        exact ⟨o,e,ex⟩
    obtain ⟨o,e,ex⟩:=z
    refine ⟨⟨o,e,ex.1⟩,fun a e2=>?_⟩
    cases e2
    exact ⟨o,e,ex.2.1⟩
  · obtain ⟨o,_,_,_,e,ex,_⟩:=I.hok p _ hk
    refine ⟨⟨o,e,ex.1⟩,fun a e2=>?_⟩
    cases e2
    exact ⟨o,e,ex.2.1⟩
 | _=>exact False.elim ty
def tBM0 (K:PySem.W.Frag) (T:String) (r:V→List V→Hp→VK→Prop) (to:TE):TE:=fun σ H Q=>to σ H fun x H1=>tyV K T x H1∧r x [] H1 Q
def tBM (K:PySem.W.Frag) (T:String) (r:V→List V→Hp→VK→Prop) (to:TE) (t:TA):TE:=fun σ H Q=>to σ H fun x H1=>tyV K T x H1∧t σ H1 fun xs H2=>r x xs H2 Q
variable {o e:Expr}{es:List Expr}{to:TE}{t:TA}{name:Str}{apos cpos:Pos}{T id:String}{r:V→List V→Hp→VK→Prop}
theorem pe_bm0 (pa:PlainAttrs T) (slot:Slot T name id) (hty:typeOf (.builtin id)=pure (.type "method_descriptor")) (hm:MtR X id r) (ho:PE X o to)
  (hbase:attributeBase o name X.env (eval o X.env)=eval o X.env:=by rfl) (hline:(apos.endLine == cpos.line)=true:=by rfl):PE X (.Call (.Attribute o name apos) [] [] cpos) (tBM0 X.K T r to):=by
 intro pins s σ H Q I h
 refine wpAny_Call_method0_late hbase hline (thn (ho pins s σ H _ I h) fun v s1 ⟨x,H1,I1,r1,ty,q1⟩=>?_)
 obtain ⟨h1,h2⟩:=tyV_is I1 r1 ty
 exact ⟨T,id,pa,slot,hty,h1,h2,Calls.callWith_builtin rfl (PySem.evalArgs_none (hm pins s1 σ H1 x [] v [] Q I1 r1 .nil q1))⟩
theorem pe_bm (pa:PlainAttrs T) (slot:Slot T name id) (hty:typeOf (.builtin id)=pure (.type "method_descriptor")) (hm:MtR X id r) (ho:PE X o to) (ha:PA X (e::es) t)
  (hbase:attributeBase o name X.env (eval o X.env)=eval o X.env:=by rfl)
  (hfew:((backTo cpos (starEach (e::es) X.env)).all (fun x=> !x.1) && (backToKw cpos (keywordEach [] X.env)).all (fun x=>x.1.isSome)
   && decide ((e::es).length+([]:List Keyword).length+(if ([]:List Keyword).isEmpty then 0 else 1) < 30))=true:=by rfl)
  (hline:(apos.endLine == cpos.line)=true:=by rfl) (hs:starEach (e::es) X.env=(false,eval e X.env)::starEach es X.env:=by rfl) (hplain:(backTo cpos (starEach es X.env)).any (·.1)=false:=by rfl):
  PE X (.Call (.Attribute o name apos) (e::es) [] cpos) (tBM X.K T r to t):=by
 intro pins s σ H Q I h
 refine wpAny_Call_method_late hbase hfew hline rfl (thn (ho pins s σ H _ I h) fun v s1 ⟨x,H1,I1,r1,ty,q1⟩=>?_)
 obtain ⟨h1,h2⟩:=tyV_is I1 r1 ty
 refine ⟨T,id,pa,slot,hty,h1,h2,?_⟩
 have hA:=ha cpos pins s1 σ H1 _ I1 q1
 rw [hs] at hA ⊢
 refine Calls.callWith_builtin (by show (false || (backTo cpos (starEach es X.env)).any (·.1))=false;rw [hplain] <;> rfl) (Calls.evalArgs_plain ?_)
 exact thn hA fun us s2 ⟨vs,H2,I2,r2,q2⟩=>hm pins s2 σ H2 x vs v us Q I2 r1 r2 q2
end
def MtM (X:Cx) (id:String) (r:V→List V→Hp→VK→Prop):Prop:=
 ∀ (pins:List (Addr × Obj)) (s:Shared) (σ:St) (H:Hp) (x:V) (xs:List V) (v:Value) (us:List Value) (Q:VK),Inv X pins σ H s→RelV x v→Vals xs us→r x xs H Q→
  wpAny (model X.prog X.w) X.A (call (.builtin id) (v::us)) (EP X pins σ Q) X.xe s
theorem Vals.one:∀ {x:V}{us:List Value},Vals [x] us→∃ u,us=[u]∧RelV x u
 | _,_,.cons r .nil=>⟨_,rfl,r⟩
theorem Vals.zero:∀ {us:List Value},Vals [] us→us=[]
 | _,.nil=>rfl
theorem Vals.dropLast {xs:List V}{us:List Value} (h:Vals xs us):Vals xs.dropLast us.dropLast:=by
 induction h with
 | nil=>exact .nil
 | cons r t ih=>
  cases t with
  | nil=>exact .nil
  | cons q t'=>exact .cons r ih
theorem Vals.eraseIdx:∀ {xs:List V}{us:List Value} (i:Nat),Vals xs us→Vals (xs.eraseIdx i) (us.eraseIdx i)
 | _,_,_,.nil=>.nil
 | _,_,0,.cons _ t=>t
 | _,_,i+1,.cons r t=>.cons r (Vals.eraseIdx i t)
theorem Vals.rep {xs:List V}{us:List Value} (h:Vals xs us):∀ k:Nat,Vals (List.replicate k xs).flatten (List.replicate k us).flatten
 | 0=>.nil
 | k+1=>by
  rw [List.replicate_succ,List.replicate_succ,List.flatten_cons,List.flatten_cons]
  exact Vals.append h (Vals.rep h k)
theorem erase_last {α:Type} (l:List α):l.eraseIdx (l.length - 1)=l.dropLast:=by
 induction l with
 | nil=>rfl
 | cons a r ih=>
  cases r with
  | nil=>rfl
  | cons b r=>
   have e:(a::b::r).length - 1=((b::r).length - 1)+1:=by
    have h1:(a::b::r).length=r.length+2:=rfl
    have h2:(b::r).length=r.length+1:=rfl
    omega
   rw [e,List.eraseIdx_cons_succ,ih]
   all_goals rfl
theorem len_erase {α:Type}:∀ (l:List α) (i:Nat),(l.eraseIdx i).length≤l.length
 | [],_=>Nat.le_refl _
 | _::_,0=>Nat.le_succ _
 | _::r,i+1=>Nat.succ_le_succ (len_erase r i)
theorem foldl_rep (its:List Value):∀ (k:Nat) (acc:List Value),
  List.foldl (fun x1 x2=>x1++x2) acc.toArray (List.replicate k its.toArray)=(acc++(List.replicate k its).flatten).toArray
 | 0,acc=>by simp
 | k+1,acc=>by
  have e:acc.toArray++its.toArray=(acc++its).toArray:=by simp
  have e2:(acc++its)++(List.replicate k its).flatten=acc++(List.replicate (k+1) its).flatten:=by
   rw [List.replicate_succ,List.flatten_cons,List.append_assoc]
  rw [← e2, ← foldl_rep its k (acc++its), ← e,List.replicate_succ,List.foldl_cons]
section
variable {X:Cx}{pins:List (Addr × Obj)}{σ:St}{H:Hp}{s:Shared}{l b:Addr}{xs ys zs:List V}
theorem Inv.lset {its its':List Value}{n:Nat}{f:Array Value→Array Value}{t':Nat} (I:Inv X pins σ H s) (hH:H l=some (.lst xs))
  (e:s.heap.get? l=some { cls:=.type "list",data:=.seq its.toArray n }) (hf:f its.toArray=its'.toArray) (hv:Vals ys its') (hz:ys.length≤sizeLine):
  Inv X pins σ (upd H l (.lst ys)) { s with heap:=s.heap.update l (Obj.mapSeq f),toks:=t' }:=by
 have q:=PySem.IsL.update e f
 rw [hf] at q
 refine I.write (x:=l) (e:=l) (by rw [hH];exact trivial) (.inl rfl) (fun b' u hb hu=>(Heap.get?_update_other s.heap (Obj.mapSeq f) (Ne.symm hb)).trans hu) ⟨_,q⟩ ?_
 exact ⟨hz,its',_,hv,q⟩
theorem Inv.lnew {its:List Value}{t':Nat} (I:Inv X pins σ H s) (hv:Vals ys its) (hz:ys.length≤sizeLine):
  Inv X pins σ (upd H s.heap.objs.size (.lst ys)) { s with heap:=s.heap.push { cls:=.type "list",data:=.seq its.toArray },toks:=t' }:=
 I.laid (fun _ _ q=>Heap.get?_push_of_some _ q) (Nat.le_refl _) ⟨hz,its,0,hv,Heap.get?_push_size _ rfl⟩
theorem Inv.fresh (I:Inv X pins σ H s):H s.heap.objs.size=none:=I.hok.fresh (Nat.le_refl _)
theorem Inv.lstM (I:Inv X pins σ H s) (hH:H l=some (.lst xs)):xs.length≤sizeLine∧∃ (its:List Value) (n:Nat),Vals xs its∧xs.length=its.length∧s.heap.get? l=some { cls:=.type "list",data:=.seq its.toArray n }:=by
 obtain ⟨z,its,n,r,e⟩:=I.hok l _ hH
 exact ⟨z,its,n,r,r.length,e⟩
theorem notLongL {n:Nat} (h:n≤sizeLine):Builtin.List.listTooLong n=false:=by
 unfold Builtin.List.listTooLong
 exact decide_eq_false (by omega)
end
section
variable {X:Cx}
def rAppend:V→List V→Hp→VK→Prop:=fun x vs H Q=>∃ l xs y,x=.ref l∧vs=[y]∧H l=some (.lst xs)∧xs.length < sizeLine∧Q .non (upd H l (.lst (xs++[y])))
theorem mt_append:MtM X "list.append" rAppend:=by
 intro pins s σ H x vs v us Q I rx rv h
 obtain ⟨l,xs,y,rfl,rfl,hH,hz,q⟩:=h
 cases rx
 obtain ⟨u,rfl,ru⟩:=rv.one
 obtain ⟨z,its,n,r,hl,e⟩:=I.lstM hH
 refine call_meets F.slot_list_append ⟨_,e,rfl⟩ F.entry_list_append (F.args_list_append_2 _ _) (PySem.list_append l its.toArray n u (by rw [List.size_toArray];omega)) ⟨e,?_⟩
 refine ⟨.non,_,I.lset (its':=its++[u]) hH e (by simp) (r.append (.cons ru .nil)) ?_,rfl,q⟩
 rw [List.length_append,List.length_singleton]
 omega
def rPop:V→List V→Hp→VK→Prop:=fun x vs H Q=>∃ l xs y,x=.ref l∧vs=[]∧H l=some (.lst xs)∧xs[xs.length - 1]?=some y∧Q y (upd H l (.lst xs.dropLast))
theorem mt_pop:MtM X "list.pop" rPop:=by
 intro pins s σ H x vs v us Q I rx rv h
 obtain ⟨l,xs,y,rfl,rfl,hH,hy,q⟩:=h
 cases rx
 have hus:=rv.zero
 subst hus
 obtain ⟨z,its,n,r,hl,e⟩:=I.lstM hH
 obtain ⟨u,hu,ru⟩:=r.get hy
 have hy':its.toArray[its.toArray.size - 1]?=some u:=by
  show its.toArray[its.length - 1]?=some u
  rw [← Array.getElem?_toList, ← hl]
  exact hu
 refine call_meets F.slot_list_pop ⟨_,e,rfl⟩ F.entry_list_pop (F.args_list_pop_1 _) (MeetsSeq.list_pop_last l its.toArray n u hy' (by rw [List.size_toArray];omega)) ⟨e,?_⟩
 refine ⟨y,_,I.lset (its':=its.dropLast) hH e ?_ r.dropLast ?_,ru,q⟩
 · show its.toArray.eraseIdxIfInBounds (its.toArray.size - 1)=its.dropLast.toArray
   rw [List.size_toArray,List.eraseIdxIfInBounds_toArray,erase_last]
 · rw [List.length_dropLast]
   omega
def rPopAt:V→List V→Hp→VK→Prop:=fun x vs H Q=>∃ l xs i k y,x=.ref l∧vs=[.int i]∧H l=some (.lst xs)∧ -(2 ^ 63)≤i∧i < 2 ^ 63∧seqIndex? i xs.length=some k∧xs[k]?=some y∧Q y (upd H l (.lst (xs.eraseIdx k)))
theorem mt_popAt:MtM X "list.pop" rPopAt:=by
 intro pins s σ H x vs v us Q I rx rv h
 obtain ⟨l,xs,i,k,y,rfl,rfl,hH,h1,h2,hk,hy,q⟩:=h
 cases rx
 obtain ⟨u,rfl,ru⟩:=rv.one
 obtain ⟨t,rfl⟩:=ru
 obtain ⟨z,its,n,r,hl,e⟩:=I.lstM hH
 obtain ⟨w,hw,rw'⟩:=r.get hy
 refine call_meets F.slot_list_pop ⟨_,e,rfl⟩ F.entry_list_pop (F.args_list_pop_2 _ _)
  (MeetsSeq.list_pop_at l its.toArray n i t k w (fitsIndex_both h1 h2) (by rw [List.size_toArray, ← hl];exact hk) (by rw [← Array.getElem?_toList];exact hw) (by rw [List.size_toArray];omega)) ⟨e,?_⟩
 refine ⟨y,_,I.lset (its':=its.eraseIdx k) hH e ?_ (r.eraseIdx k) ?_,rw',q⟩
 · show its.toArray.eraseIdxIfInBounds k=(its.eraseIdx k).toArray
   rw [List.eraseIdxIfInBounds_toArray]
 · have:=len_erase xs k
   omega
def rCat:R2:=fun x y H Q=>∃ l b xs zs,x=.ref l∧y=.ref b∧H l=some (.lst xs)∧H b=some (.lst zs)∧xs.length+zs.length≤sizeLine∧∀ p,H p=none→Q (.ref p) (upd H p (.lst (xs++zs)))
theorem op_cat:OpR X (binaryOp .Add) rCat:=by
 intro pins s σ H x y v u Q I rx ry h
 obtain ⟨l,b,xs,zs,rfl,rfl,hH,hB,hz,q⟩:=h
 cases rx
 cases ry
 obtain ⟨z,its,n,r,hl,e⟩:=I.lstM hH
 obtain ⟨z2,its2,n2,r2,hl2,e2⟩:=I.lstM hB
 refine PySem.P.add_list e e2 ?_ (by rw [List.size_toArray,List.size_toArray];omega)
 have ea:its.toArray++its2.toArray=(its++its2).toArray:=by simp
 rw [ea]
 exact ⟨.ref _,_,I.lnew (t':=s.toks) (r.append r2) (by rw [List.length_append];omega),rfl,q _ I.fresh⟩
def rRep:R2:=fun x y H Q=>∃ l k xs,x=.ref l∧y=.int k∧H l=some (.lst xs)∧ -(2 ^ 63)≤k∧k < 2 ^ 63∧xs.length * k.toNat≤sizeLine∧
 ∀ p,H p=none→Q (.ref p) (upd H p (.lst (List.replicate k.toNat xs).flatten))
theorem len_rep {α:Type} (xs:List α) (k:Nat):(List.replicate k xs).flatten.length=k * xs.length:=by
 induction k with
 | zero=>simp
 | succ k ih=>rw [List.replicate_succ,List.flatten_cons,List.length_append,ih,Nat.succ_mul,Nat.add_comm]
theorem op_rep:OpR X (binaryOp .Mult) rRep:=by
 intro pins s σ H x y v u Q I rx ry h
 obtain ⟨l,k,xs,rfl,rfl,hH,h1,h2,hz,q⟩:=h
 cases rx
 obtain ⟨t,rfl⟩:=ry
 obtain ⟨z,its,n,r,hl,e⟩:=I.lstM hH
 have hlen:its.toArray.size * k.toNat≤sizeLine:=by rw [List.size_toArray, ← hl];exact hz
 have hcap:¬ its.toArray.size * k.toNat > (2 ^ 63 - 1) / 8:=by
  have:(sizeLine:Nat)≤(2 ^ 63 - 1) / 8:=by decide
  omega
 have hfit:¬ (!Builtin.List.listFitsIndex k)=true:=by
  rw [fitsIndex_both h1 h2]
  exact Bool.false_ne_true
 have hlong:¬ Builtin.List.listTooLong (its.toArray.size * k.toNat)=true:=by
  rw [notLongL hlen]
  exact Bool.false_ne_true
 have hnew:List.foldl (fun x1 x2=>x1++x2) #[] (List.replicate (if its.toArray.isEmpty=true then 0 else k.toNat) its.toArray)=(List.replicate k.toNat its).flatten.toArray:=by
  have f0:∀ m:Nat,List.foldl (fun x1 x2=>x1++x2) #[] (List.replicate m its.toArray)=(List.replicate m its).flatten.toArray:=fun m=>by
   have:=foldl_rep its m []
   rw [List.nil_append] at this
   exact this
  rw [f0]
  cases its with
  | nil=>simp
  | cons a r'=>rw [if_neg (by simp)]
 refine wpAny_binaryOp_repeat_ref (T:="list") (U:="int") (by decide) ⟨_,e,rfl⟩ (fun s'=>typeIs_int s' k t) noFill_list_mul F.fills_int_mul F.slot_int_rmul repeat_list F.slot_int_index.lookup
  (call_meets F.slot_int_rmul (typeIs_int s k t) F.entry_int_rmul (F.args_int_rmul_2 _ _) (int___rmul___int_list k t l its.toArray n)
   ⟨e,rfl,⟨_,e,rfl⟩,call_meets F.slot_list_mul ⟨_,e,rfl⟩ F.entry_list_mul (F.args_list_mul_2 _ _) (AutoListH.list___mul___list_int_3 l its.toArray n k t hfit hcap hlong) ⟨e,?_⟩⟩)
 rw [hnew]
 exact ⟨.ref _,_,I.lnew (t':=s.toks) (r.rep k.toNat) (by rw [len_rep,Nat.mul_comm];exact hz),rfl,q _ I.fresh⟩
end
end L2
namespace Att
open PySem PySem.W PySem.Calls PyProof.Rows
theorem ints_of_wellAll {P:Params}{h:Heap}:∀ (ns:List Int) (vs:List Value),WellAll P h vs (ns.map WData.int)→IntsAre vs ns:=by
 intro ns
 induction ns with
 | nil=>
  intro vs w
  rw [List.map_nil] at w
  cases w
  exact .nil
 | cons n ns ih=>
  intro vs w
  rw [List.map_cons] at w
  cases w with
  | cons a b=>
   cases a
   exact .cons _ _ (ih _ b)
theorem script_of {l:OpenLaw}{n:Nat} (hn:l.most=some n) {P:Params}{h:Heap}{args:List WData}{vals:List Value}
  (hpre:l.row.toRowW.claim.pre args=true) (hwl:WellAll P h vals args):
  ∃ a vs ns,vals=[Value.ref a]∧args=[WData.list (ns.map WData.int)]∧h.get? a=some { cls:=.type "list",data:=.seq vs.toArray }∧IntsAre vs ns∧ns.length≤n:=by
 have hsh:WShape.hasAll [] args [.list .int]=true:=(pre_splitW hpre).1
 have hc:l.pre.holds [] { args:=args }=true:=(pre_splitW hpre).2
 obtain ⟨d,r,rfl,h1,h2⟩:=hasAllW_cons hsh
 obtain rfl:=hasAllW_nil h2
 obtain ⟨xs,rfl,h3⟩:=hasW_list h1
 obtain ⟨ns,rfl⟩:=items_int h3
 have hlen:ns.length≤n:=by
  unfold OpenLaw.pre at hc
  have h4:(WTm.not (.lt (.lit (.int (n:Int))) (.len (.arg 0)))).holds [] { args:=[.list (ns.map .int)] }=true:=by
   have h4:=(holds_andW hc).1
   rw [hn] at h4
   exact h4
  have h5:=condW_of h4 (w_not (w_lt w_lit (w_len_list (w_arg rfl))))
  rw [List.length_map] at h5
  refine Nat.le_of_not_lt fun q=>?_
  have q':(n:Int) < ((ns.length:Nat):Int):=by omega
  first
   | (rw [decide_eq_true q'] at h5;exact absurd h5 (by decide))
   | (simp at h5;omega)
 cases hwl with
 | cons w1 w2=>
  cases w2
  cases w1 with
  | list ho hall=>exact ⟨_,_,ns,rfl,rfl,ho,ints_of_wellAll ns _ hall,hlen⟩
theorem post_true (l:OpenLaw) (args:List WData):l.row.toRowW.claim.post args (.bool true) args=true:=
 postW_of (r:=l.row.toRowW) (X:=(true == true))
  (show WShape.has [] (.bool true) .bool=true by first | rfl | decide | simp [WShape.has,WShape.arms,WShape.armsAll])
  (show (WTm.eq .res (.lit (.bool true))).value [] { args:=args,res:=some (.bool true),after:=args }=some (.bool (true == true)) from w_eq_bool (w_res rfl) w_lit) rfl
theorem attach_call {l:OpenLaw}{n:Nat}{q:Program}{loose:List Str}{XP:(Str→Option Value)→Heap→Prop}{YP:World→Heap→Prop}{d:DefRec}
  (hn:l.most=some n) (hdf:d.params.defaults=[])
  (call:∀ (w:World) (s₀ s₁:Shared) (mg mb:Str→Option Value) (fa:Addr) (o:Obj) (pm cd doc:Value) (a:Addr) (vs:List Value) (ns:List Int),
   Ground q loose [] XP w s₀ mg mb s₁.heap→YP w s₁.heap→
   s₁.heap.get? fa=some o→o.data=.func (docDef d.name d.params d.body d.scope pm cd doc)→s₁.heap.CodeRec cd d.name→mg d.name=some (.ref fa)→
   s₁.heap.get? a=some { cls:=.type "list",data:=.seq vs.toArray }→IntsAre vs ns→ns.length≤n→s₁.gens= #[]→
   codeAny (model l.prog w) callerA (.call (.ref fa) ⟨[.ref a],[]⟩) (fun r s'=>r=.ok (.ret (.bool true))∧OldK s₁.heap s'.heap∧s'.os=s₁.os∧AllBare s'.gens) s₁):
  WalkO q loose XP YP l.row.toRowW d [] (fun f vs=>PySem.call f vs):=by
 intro w s₀ s₁ mg mb G Y fa o pm cd doc dV kV ho hd hcd hD hmg hg args vals as hpre hlay hrd hwl hlo
 obtain rfl:dV=.none:=Dflts.none hD hdf
 obtain rfl:kV=.none:=Dflts.noKw hD
 obtain ⟨a,vs,ns,rfl,rfl,hobj,hints,hlen⟩:=script_of hn hpre hwl
 refine enter_call (codeAny_mono (call w s₀ s₁ mg mb fa o pm cd doc a vs ns G Y ho (fd_plain hd) hcd hmg hobj hints hlen hg) fun r s' hq=>?_)
 obtain ⟨rfl,h2,h3,h4⟩:=hq
 exact ⟨.inl ⟨.bool true,.bool true,[],rfl,fun _=>rfl,.bool true,post_true l _,fun _=>⟨List.Pairwise.nil,fun _ hm=>(nomatch hm)⟩⟩,h2,h3,h4⟩
section
variable {prog:Program}{w:World}{A:Around}{E:Value→Shared→Prop}{s:Shared}{K:Frag}
end
end Att
namespace L2
open PySem PySem.Spec PyProof.Rows
theorem vals_ints:∀ {vs:List Value}{ns:List Int},IntsAre vs ns→Vals (ns.map V.int) vs
 | _,_,.nil=>.nil
 | _,_,.cons n t h=>.cons ⟨t,rfl⟩ (vals_ints h)
def Only (H:Hp):Prop:=∀ b,H b=none∨∃ o xs,H b=some (.frz o (.lst xs))
theorem law_call {P:Program}{w:World}{K:PySem.W.Frag}{mg mb:Str→Option Value}{CX:CXT}{k:Nat}{fa a:Addr}{fd:FuncData}{x:Str}{sp:Sp}{s₁:Shared}{vs:List Value}{ns:List Int}
  (KX:K.In s₁.heap) (hns:s₁.heap.Ns mainGlobals mg) (hb:s₁.heap.Ns builtinsNs mb) (hbb:∀ x:Str,x≠"__name__"→mb x=bootBuiltins x) (hlim:s₁.heap.NoLimit) (hg:s₁.gens= #[])
  (ha:s₁.heap.get? a=some { cls:=.type "list",data:=.seq vs.toArray }) (hi:IntsAre vs ns) (hl:ns.length≤sizeLine) (hr:Room k callerA)
  (F:∀ base:Heap,K.In base→base.Ns mainGlobals mg→FnOk P w K mg base CX k fa fd [x] sp) (hbind:∀ (s:Shared) (u:Value),BindsTo s fd ⟨[u],[]⟩ [(x,u)])
  (hsp:∀ H:Hp,Only H→SqL K H a (ns.map V.int)→sp [.ref a] H (fun v _=>v=.bl true) fun _ _ _=>False)
  (hCX:∀ H e s',CX [] H s₁ (fun _ _ _=>False) e s'→False):
  codeAny (model P w) callerA (.call (.ref fa) ⟨[.ref a],[]⟩) (fun r s'=>r=.ok (.ret (.bool true))∧OldK s₁.heap s'.heap∧s'.os=s₁.os∧AllBare s'.gens) s₁:=by
 have rv:=vals_ints hi
 have lenV:=hi.length
 have core:∀ H:Hp,Only H→SqL K H a (ns.map V.int)→HOk P w H s₁.heap→(∀ b,H b≠none→b=a)→(H a≠none→K.lookup a=none)→
   codeAny (model P w) callerA (.call (.ref fa) ⟨[.ref a],[]⟩) (fun r s'=>r=.ok (.ret (.bool true))∧OldK s₁.heap s'.heap∧s'.os=s₁.os∧AllBare s'.gens) s₁:=by
  intro H hO hS hok hA hK
  have base_of:∀ {b:Addr}{o:Obj},s₁.heap.get? b=some o→H b=none→(hidT s₁.heap H).get? b=some o:=fun e n=>hidT_get e n
  have noA:∀ {b:Addr}{o:Obj}{es:Array DictEntry}{ep:Nat},s₁.heap.get? b=some o→o.data=.dict es ep→H b=none:=fun {b o es ep} e d=>by
   cases q:H b with
   | none=>rfl
   | some u=>
    have e':b=a:=hA b (by rw [q];simp)
    subst e'
    rw [ha] at e;cases e
    have d':Data.seq vs.toArray _=Data.dict es ep:=d
    cases d'
  have nsK:∀ {b:Addr}{m:Str→Option Value},s₁.heap.Ns b m→(hidT s₁.heap H).Ns b m:=fun {b m} ⟨o,es,ep,e,d,r⟩=>⟨o,es,ep,base_of e (noA e d),d,r⟩
  have hKb:K.In (hidT s₁.heap H):=fun b o e=>base_of (KX b o e) (by
   cases q:H b with
   | none=>rfl
   | some u=>
    have e':b=a:=hA b (by rw [q];simp)
    subst e'
    rw [hK (by rw [q];simp)] at e;cases e)
  have hM:Mod K mg (hidT s₁.heap H):=⟨hKb,nsK hns,⟨mb,nsK hb,hbb⟩,let ⟨mc,h1,h2⟩:=hlim;⟨mc,nsK h1,h2⟩⟩
  have e0:Env0 P w K mg (hidT s₁.heap H) callerA [] s₁ H:=⟨rfl,hM,fun b o e=>of_hidT e,Nat.le_of_eq (hidT_size _ _),trivial,fun b hb=>absurd (show b∈([]:List Addr) from hb) (by simp),hok,.of_eq hg⟩
  refine codeAny_mono ((F _ hKb (nsK hns)).run callerA [] s₁ H ⟨[.ref a],[]⟩ [.ref a] [.ref a] _ _ hr e0 (hbind s₁ (.ref a)) (.cons rfl .nil) (hsp H hO hS)) fun r s' h=>?_
  cases r with
  | error e=>exact (hCX H e s' h).elim
  | ok fl=>
   cases fl with
   | next=>exact False.elim h
   | brk=>exact False.elim h
   | cont=>exact False.elim h
   | ret u=>
    obtain ⟨v,H',os,bare,un,hok',r',q⟩:=h
    have q':v=.bl true:=q
    subst q'
    obtain rfl:u=Value.bool true:=r'
    refine ⟨rfl,OldK.of_keep fun b o e=>?_,os,bare⟩
    cases q:H b with
    | none=>exact un.keep b o e q (by intro z;exact absurd (show b∈([]:List Addr) from z) (by simp)) (by simp)
    | some u=>
     rcases hO b with z | ⟨ob,xs,z⟩
     · rw [q] at z;cases z
     · have z2:=un.frzs b ob _ z
       obtain ⟨e1,_⟩:=hok b _ z
       obtain ⟨e2,_⟩:=hok' b _ z2
       rw [e] at e1;cases e1
       exact e2
 cases hk:K.lookup a with
 | some o=>
  have e:=KX a o hk
  rw [ha] at e
  cases e
  refine core (fun _=>none) (fun _=>.inl rfl) (.inr ⟨_,vs.toArray,_,hk,rfl,rfl,rfl,by rw [List.size_toArray,lenV];exact hl,by simpa using rv⟩) (fun b u z=>by have z':(none:Option HO)=some u:=z;cases z') (fun b z=>absurd rfl z) fun z=>absurd rfl z
 | none=>
  refine core (fun b=>if b=a then some (.frz { cls:=.type "list",data:=.seq vs.toArray } (.lst (ns.map V.int))) else none) (fun b=>?_) (.inl (.inr ⟨{ cls:=.type "list",data:=.seq vs.toArray },if_pos rfl⟩)) (fun b u z=>?_) (fun b z=>?_) fun _=>hk
  · by_cases hb:b=a
    · exact .inr ⟨_,_,if_pos hb⟩
    · exact .inl (if_neg hb)
  · by_cases hb:b=a
    · have z':=(if_pos hb).symm.trans z
      cases z'
      subst hb
      exact ⟨ha,by rw [List.length_map];exact hl,vs,_,rv,ha⟩
    · have z':=(if_neg hb).symm.trans z
      cases z'
  · by_cases hb:b=a
    · exact hb
    · exact absurd (if_neg hb) z
theorem walk_of {l:PySem.W.OpenLaw}{n k:Nat}{q:Program}{loose:List Str}{XP:(Str→Option Value)→Heap→Prop}{YP:World→Heap→Prop}{d:DefRec}{K:Params→PySem.W.Frag}{CX:World→CXT}{sp:World→Sp}{x:Str}
  (hn:l.most=some n) (hn2:n≤sizeLine) (hdf:d.params.defaults=[]) (hr:Room k callerA)
  (hY:∀ (w:World) (h:Heap),YP w h→(K w.params).In h)
  (F:∀ (w:World) (mg:Str→Option Value) (fa:Addr) (h:Heap),(K w.params).In h→h.Ns mainGlobals mg→mg d.name=some (.ref fa)→
   ∃ fd:FuncData,(∀ (s:Shared) (u:Value),BindsTo s fd ⟨[u],[]⟩ [(x,u)])∧
    ∀ base:Heap,(K w.params).In base→base.Ns mainGlobals mg→FnOk l.prog w (K w.params) mg base (CX w) k fa fd [x] (sp w))
  (hsp:∀ (w:World) (H:Hp) (a:Addr) (ns:List Int),ns.length≤n→Only H→SqL (K w.params) H a (ns.map V.int)→sp w [.ref a] H (fun v _=>v=.bl true) fun _ _ _=>False)
  (hCX:∀ (w:World) (H:Hp) (s:Shared) (e:Value) (s':Shared),CX w [] H s (fun _ _ _=>False) e s'→False):
  PySem.W.WalkO q loose XP YP l.row.toRowW d [] (fun f vs=>PySem.call f vs):=by
 refine Att.attach_call hn hdf fun w s₀ s₁ mg mb fa o pm cd doc a vs ns G Y ho hd hcd hmg hobj hints hlen hg=>?_
 have KX:=hY w _ Y
 obtain ⟨fd,hb,hF⟩:=F w mg fa _ KX G.T.g hmg
 exact law_call KX G.T.g G.T.b G.T.builtins G.T.nolimit hg hobj hints (Nat.le_trans hlen hn2) hr hF hb (fun H hO hS=>hsp w H a ns hlen hO hS) fun H e s'=>hCX w H s₁ e s'
def inClass (s:Stmt) (j:Nat):Stmt:=match s with
 | .ClassDef _ _ _ body _ _ _ _ _ _ _=>body.getD j (.Pass ⟨0,0,0,0⟩)
 | _=>.Pass ⟨0,0,0,0⟩
def defArgs (s:Stmt):Arguments:=match s with
 | .FunctionDef _ a _ _ _ _ _ _ _ _=>a
 | _=>{ posonlyargs:=[],args:=[],vararg:=none,kwonlyargs:=[],kw_defaults:=[],kwarg:=none,defaults:=[] }
def defBody (s:Stmt):List Stmt:=match s with
 | .FunctionDef _ _ b _ _ _ _ _ _ _=>b
 | _=>[]
def defScope (s:Stmt):Scope:=match s with
 | .FunctionDef _ _ _ _ _ _ sc _ _ _=>sc
 | _=>{ kind:=.function,names:=[],isGenerator:=false,isCoroutine:=false }
abbrev CX0:CXT:=fun _ _ _ _ _ _=>False
abbrev E0:XK:=fun _ _ _=>False
theorem pass0 {X:Cx}:Passes CX0 X E0:=fun _ _ _ _ _ _ _ h=>h.elim
structure Fun (K:PySem.W.Frag) (x qual:Str) (st:Stmt) (f:Addr) (fd:FuncData):Prop where
 ex:∃ (oc:Value) (od:Option Addr) (kV doc pm:Value) (an:Option Addr) (cdv ct:Value) (osl:Array (Option Value)),
  fd=PySem.W.fnOf x qual (defArgs st) (defBody st) (defScope st) .none kV doc pm an cdv ct∧K.lookup f=some ⟨oc,od,.func fd,osl⟩∧PySem.W.codeIn K cdv qual=true
 kp:PySem.W.keepIn K (.ref f)=true
section
variable {P:Program}{w:World}{K:PySem.W.Frag}{mg:Str→Option Value}{base:Heap}
theorem Fun.ok {x qual:Str}{st:Stmt}{f:Addr}{fd:FuncData}{N ps:List Str}{k:Nat}{sp:Sp} (F:Fun K x qual st f fd) (S:FnScope N ps (defScope st)) (len:∀ vs H Q E,sp vs H Q E→vs.length=ps.length)
  (hbody:∀ (cdv:Value) (A:Around) (outer:List Env) (s:Shared) (H:Hp) (vs:List V) (Q:VK) (E:XK),Room k (A.deeper (envOfC qual (defScope st) s.heap.objs.size f cdv))→sp vs H Q E→
   ∃ t,PSs (cxOf CX0 P w K mg base N qual (defScope st) f cdv A outer s H E).nox (defBody st) t∧t { nx:=fun _ H'=>Q .non H',rt:=Q } (start N vs) H):FnOk P w K mg base CX0 (k+1) f fd ps sp:=by
 obtain ⟨oc,od,kV,doc,pm,an,cdv,ct,osl,rfl,lk,hcd⟩:=F.ex
 refine fn_of lk hcd S len fun A outer s H vs Q E hr hsp=>?_
 obtain ⟨t,h,q⟩:=hbody cdv A outer s H vs Q E hr hsp
 exact ⟨t,h.nox,q⟩
theorem Fun.binds {x qual:Str}{st:Stmt}{f:Addr}{fd:FuncData}{ps:List Str} (F:Fun K x qual st f fd)
  (h:∀ (kV doc pm:Value) (an:Option Addr) (cdv ct:Value) (us:List Value),us.length=ps.length→bindArgs (PySem.W.fnOf x qual (defArgs st) (defBody st) (defScope st) .none kV doc pm an cdv ct) ⟨us,[]⟩=pure (ps.zip us)):Binds K fd ps []:=by
 obtain ⟨oc,od,kV,doc,pm,an,cdv,ct,osl,rfl,lk,hcd⟩:=F.ex
 exact .all (h kV doc pm an cdv ct)
theorem fun_mk {x qual:Str}{st:Stmt}{f:Addr}{oc:Value}{od an:Option Addr}{osl:Array (Option Value)}{kV doc pm cdv ct:Value} (l:K.lookup f=some ⟨oc,od,.func (PySem.W.fnOf x qual (defArgs st) (defBody st) (defScope st) .none kV doc pm an cdv ct),osl⟩)
  (c:PySem.W.codeIn K cdv qual=true) (k:PySem.W.keepIn K (.ref f)=true):Fun K x qual st f (PySem.W.fnOf x qual (defArgs st) (defBody st) (defScope st) .none kV doc pm an cdv ct):=⟨⟨oc,od,kV,doc,pm,an,cdv,ct,osl,rfl,l,c⟩,k⟩
end
theorem hu_of {A:Around}{k:Nat} (hr:Room k A):A.units+1 < cLine:=Nat.lt_of_le_of_lt (Nat.add_le_add_left (by decide:1≤64) _) hr.units
section
variable {X:Cx}
theorem pv (i:Nat) {x:Str}{pos:Pos} (hN:X.N[i]?=some x:=by rfl) (hv:Vis X.env.scope x:=by first | exact Or.inl rfl | exact Or.inr (Or.inl rfl) | exact Or.inr (Or.inr rfl)) (hd:(x == ("__debug__":Str))=false:=by decide)
  (hcd:(x == ("__classdict__":Str))=false:=by decide):PE X (.Name x pos) (tVar i):=pe_var hN hv hd hcd
end
theorem iteF {A B:Prop} (h:B):if false=true then A else B:=by
 rw [if_neg Bool.false_ne_true]
 exact h
theorem iteT {A B:Prop} (h:A):if true=true then A else B:=by
 rw [if_pos rfl]
 exact h
theorem ite2 {c A B:Prop} [Decidable c] (h1:c→A) (h2:¬ c→B):if c then A else B:=by
 by_cases h:c
 · rw [if_pos h]
   exact h1 h
 · rw [if_neg h]
   exact h2 h
def Same (H H':Hp):Prop:=∀ b o,H b=some o→H' b=some o
theorem Same.refl (H:Hp):Same H H:=fun _ _ h=>h
theorem Same.trans {H H1 H2:Hp} (a:Same H H1) (b:Same H1 H2):Same H H2:=fun c o h=>b c o (a c o h)
theorem Same.free {H H':Hp} (e:Same H H') {l:Addr} (h:H' l=Option.none):H l=Option.none:=by
 cases q:H l with
 | none=>rfl
 | some o=>
  rw [e l o q] at h
  cases h
theorem Same.seq {K:PySem.W.Frag}{H H':Hp}{a:Addr}{xs:List V} (e:Same H H') (h:SqL K H a xs):SqL K H' a xs:=by
 rcases h with (h | ⟨o,h⟩) | h
 · exact .inl (.inl (e _ _ h))
 · exact .inl (.inr ⟨o,e _ _ h⟩)
 · exact .inr h
def Cx.blk (X:Cx) (N:List Str) (scope:Scope) (cl:List (Str × Addr)) (C:Addr) (s:Shared) (H:Hp) (fp:List Addr):Cx:=
 { prog:=X.prog,w:=X.w,K:=X.K,mg:=X.mg,base:=X.base,A:=X.A,N:=N,s₀:=s,H₀:=H,env:=compEnvC scope cl C X.env,outer:=X.stack,stack:=X.stack,ex:=fp,fn:=fun _=>false,calm:=X.calm,pn:=[],xe:=fun _ _=>False }
def blkSt (ix:List Nat) (x:Option V) (σ:St):St:=x::ix.map fun i=>(σ[i]?).join
theorem HOk.sameBut {P:Program}{w:World}{H:Hp}{h h':Heap}{C:Addr} (x:HOk P w H h) (hC:H C=none) (sb:Heap.SameBut C h h'):HOk P w H h':=fun a o e=>
 (x a o e).stay (fun b u hb q=>(sb.2 b (by
  rintro rfl
  rcases hb with hb | hb
  · rw [← hb,hC] at e;cases e
  · rw [hC] at hb;cases hb)).trans q) (fun _ q=>q) fun _ _ q=>q
inductive Wr (P:Prop):Prop where
 | mk (h:P):Wr P
theorem Wr.get {P:Prop} (h:Wr P):P:=by cases h;assumption
section
variable {X:Cx}{e:Expr}{te:TE}{pos p1 p2 p3:Pos}
abbrev wr2 (r:R2):R2:=fun x y H Q=>Wr (r x y H Q)
theorem OpR.wr {f:Value→Value→Sem Value}{r:R2} (h:OpR X f r):OpR X f (wr2 r):=fun pins s σ H x y v u Q I rx ry q=>h pins s σ H x y v u Q I rx ry q.get
theorem ix_l:IxR X (wr2 (rIxL X.K)):=fun value slice pins s σ H x y v u Q I rx ry q hs=>ix_list value slice pins s σ H x y v u Q I rx ry q.get hs
theorem sl_l:SlR X (fun x lo hi H Q=>Wr (rSlL X.K x lo hi H Q)):=fun pins s σ H x v vl vu lo hi sl Q I rx hs pl pu q=>sl_list pins s σ H x v vl vu lo hi sl Q I rx hs pl pu q.get
theorem op_catW:OpR X (binaryOp .Add) (wr2 rCat):=op_cat.wr
def rEqI (K:PySem.W.Frag):R2:=fun x y H Q=>∃ (a b:Addr) (ns ms:List Int),x=.ref a∧y=.ref b∧SqL K H a (ns.map V.int)∧SqL K H b (ms.map V.int)∧Q (.bl (decide (ns=ms))) H
def rNeI (K:PySem.W.Frag):R2:=fun x y H Q=>∃ (a b:Addr) (ns ms:List Int),x=.ref a∧y=.ref b∧SqL K H a (ns.map V.int)∧SqL K H b (ms.map V.int)∧Q (.bl (!decide (ns=ms))) H
theorem op_eqIs (hu:X.A.units+64 < cLine):OpR X (compareOp .Eq) (wr2 (rEqI X.K)):=by
 intro pins s σ H x y v u Q I rx ry h
 replace h:=h.get
 obtain ⟨a,b,ns,ms,rfl,rfl,ha,hb,q⟩:=h
 cases rx
 cases ry
 obtain ⟨its,r,ht,hz⟩:=I.list ha
 obtain ⟨its',r',ht',hz'⟩:=I.list hb
 exact PySem.W.eq_intsK ht.isList (intsAre_of r) ht'.isList (intsAre_of r') hu ⟨.bl _,H,I,rfl,q⟩
theorem op_neIs (hu:X.A.units+64 < cLine):OpR X (compareOp .NotEq) (wr2 (rNeI X.K)):=by
 intro pins s σ H x y v u Q I rx ry h
 replace h:=h.get
 obtain ⟨a,b,ns,ms,rfl,rfl,ha,hb,q⟩:=h
 cases rx
 cases ry
 obtain ⟨its,r,ht,hz⟩:=I.list ha
 obtain ⟨its',r',ht',hz'⟩:=I.list hb
 exact PySem.W.ne_intsK ht.isList (intsAre_of r) ht'.isList (intsAre_of r') hu ⟨.bl _,H,I,rfl,q⟩
def rList (K:PySem.W.Frag) (xs:List V) (H:Hp) (Q:VK):Prop:=∃ p ys,xs=[.ref p]∧(SqL K H p ys∨SqT K H p ys)∧∀ l,H l=none→Q (.ref l) (upd H l (.lst ys))
theorem call_listR:CallR X (.type "list") (fun xs H Q=>Wr (rList X.K xs H Q)):=fun pins s σ H vs us Q I r h=>call_list_of pins s σ H vs us Q I r h.get
theorem comp_ints {K:PySem.W.Frag}{a:Addr}{ns:List Int}{ix:List Nat}{te:TE}{σ:St}{H:Hp}{Q:VK} (f:Int→Int) (hq:SqL K H a (ns.map V.int)) (hl:ns.length < sizeLine)
  (he:∀ z∈ns,∀ (H':Hp) (Q':VK),Q' (.int (f z)) H'→te (blkSt ix (some (.int z)) σ) H' Q') (h:∀ D,H D=none→Q (.ref D) (upd H D (.lst ((ns.map f).map V.int)))):
  ∀ D,H D=none→∃ W:Nat→Nat→List V→Hp→Prop,(∃ m,W 0 m [] (upd H D (.lst [])))∧
   ∀ i m ys H2,W i m ys H2→H2 D=some (.lst ys)∧(((Itl K a).stop i H2∧Q (.ref D) H2)∨((Itl K a).go i H2∧ys.length < sizeLine∧∀ x H',(Itl K a).yld i H2 x H'→te (blkSt ix (some x) σ) H' fun y H3=>
    H3 D=some (.lst ys)∧∃ m',m' < m∧W (i+1) m' (ys++[y]) (upd H3 D (.lst (ys++[y]))))):=by
 intro D hD
 refine ⟨fun i m ys H2=>m=ns.length - i∧i≤ns.length∧ys=((ns.take i).map f).map V.int∧H2=upd H D (.lst ys),⟨ns.length,by simp,Nat.zero_le _,by simp,rfl⟩,?_⟩
 rintro i m ys H2 ⟨rfl,hi,rfl,rfl⟩
 have hs:SqL K (upd H D (.lst (((ns.take i).map f).map V.int))) a (ns.map V.int):=by
  have s:Same H (upd H D (.lst (((ns.take i).map f).map V.int))):=fun b o e=>by rw [upd_ne (ne_of_none e hD)];exact e
  exact s.seq hq
 refine ⟨upd_same,?_⟩
 by_cases hlt:i < ns.length
 · refine .inr ⟨⟨_,V.int ns[i],hs,by simp [hlt]⟩,by simp;omega,fun x H' y=>?_⟩
   obtain ⟨e,y⟩:=y
   subst e
   have ey:=y _ hs
   simp only [List.getElem?_map,List.getElem?_eq_getElem hlt,Option.map_some] at ey
   cases ey
   refine he ns[i] (List.getElem_mem hlt) _ _ ⟨upd_same,ns.length - (i+1),by omega,rfl,hlt,?_,?_⟩
   · rw [List.take_succ_eq_append_getElem hlt];simp only [List.map_append,List.map_cons,List.map_nil]
   · rw [upd_upd]
 · have e:i=ns.length:=by omega
   subst e
   refine .inl ⟨⟨_,hs,by simp⟩,?_⟩
   rw [List.take_of_length_le (Nat.le_refl _)]
   exact h D hD
def rLst (xs:List V) (H:Hp) (Q:VK):Prop:=xs.length≤sizeLine∧∀ p,H p=none→Q (.ref p) (upd H p (.lst xs))
def tLstW (t:TA):TE:=fun σ H Q=>t σ H fun xs H1=>Wr (rLst xs H1 Q)
theorem pe_lstW {es:List Expr}{t:TA} (h:PA X es t):PE X (.List es pos) (tLstW t):=by
 intro pins s σ H Q I hq
 refine wpAny_List_spliced (thn (h pos pins s σ H _ I hq) fun us s1 ⟨xs,H1,I1,r,w⟩=>?_)
 obtain ⟨z,q⟩:=w.get
 refine ⟨by rw [← r.length];exact z,?_⟩
 have hf:H1 s1.heap.objs.size=none:=I1.hok.fresh (Nat.le_refl _)
 refine ⟨.ref s1.heap.objs.size,upd H1 s1.heap.objs.size (.lst xs),I1.laid (t':=s1.toks) (fun b u e=>Heap.get?_push_of_some _ e) (Nat.le_refl _) ?_,rfl,q _ hf⟩
 exact ⟨z,us,0,r,Heap.get?_push_size _ rfl⟩
end
def Ite (K:PySem.W.Frag) (a:Addr):It where
 go:=fun i H=>∃ xs x,SqL K H a xs∧xs[i]?=some x
 yld:=fun i H x H'=>∃ t y,H t=none∧x=.ref t∧H'=upd H t (.tup [.int i,y])∧∀ ys,SqL K H a ys→ys[i]?=some y
 stop:=fun i H=>∃ xs,SqL K H a xs∧xs.length≤i
theorem turn_enum {P:Program}{w:World}{K:PySem.W.Frag}{es:List Expr}{k:Nat}{pos:Pos} (a e it:Addr) (hei:e≠it):
  Turn P w K (.Tuple es k pos) (Ite K a) [e,it] e (fun i h=>(∃ old,IsEnum h e it ((i:Nat):Int) old)∧h.IsListIter it a i) where
 mem:=by simp
 obj:=fun i h ⟨⟨old,st⟩,si⟩ b hb=>by
  rcases List.mem_cons.mp hb with rfl | hb
  · exact ⟨_,st,fun v z=>by
      have z':Data.fields _=Data.cell v:=z
      cases z'⟩
  · have e':b=it:=by simpa using hb
    subst e'
    obtain ⟨o,e,c,d⟩:=si
    exact ⟨o,e,fun v z=>by rw [d] at z;cases z⟩
 keep:=fun i h h' ⟨⟨old,st⟩,si⟩ k=>⟨⟨old,k e (by simp) _ st⟩,si.at fun o q=>k it (by simp) o q⟩
 item:=by
  intro X hP hw hK hc i pins s σ H E I hf ⟨⟨old,st⟩,si⟩ hg
  subst hP hw hK
  obtain ⟨xs,x,hq,hx⟩:=hg
  obtain ⟨its,rv,p,hz⟩:=I.list hq
  obtain ⟨u,hu,ru⟩:=rv.get hx
  obtain ⟨e0,e1,e2,e3,e4,e5⟩:=hf e (by simp)
  obtain ⟨f0,f1,f2,f3,f4,f5⟩:=hf it (by simp)
  have hT:=I.hok.fresh (Nat.le_refl s.heap.objs.size)
  refine wpAny_pyNext_enum_item st si p.isList (x:=u) (by simpa using hu) hei fun h1 heo hit1 ht1 hz1 hk1=>?_
  refine ⟨_,rfl,wpAny_letOwnedTupleGo_enum heo fun h2 he2 sb2=>?_⟩
  have sb2:Heap.SameBut e h1 h2:=sb2
  have hk2:∀ b o,b≠e→b≠it→s.heap.get? b=some o→h2.get? b=some o:=fun b o n1 n2 q=>(sb2.2 b n1).trans (hk1 b o n1 n2 q)
  have eT:e≠s.heap.objs.size:=Nat.ne_of_lt (Heap.lt_size st)
  have ht2:h2.get? s.heap.objs.size=some { cls:=.type "tuple",data:=.seq #[.int i s.toks,u] }:=(sb2.2 _ eT.symm).trans ht1
  have hit2:h2.IsListIter it a (i+1):=hit1.at fun o q=>(sb2.2 it hei.symm).trans q
  have he2:IsEnum h2 e it (((i+1:Nat)):Int) u:=by
   have:(((i+1:Nat)):Int)=(i:Int)+1:=by push_cast;rfl
   rw [this];exact he2
  have iT:it≠s.heap.objs.size:=by
   obtain ⟨o,q,_⟩:=si
   exact Nat.ne_of_lt (Heap.lt_size q)
  have trk:∀ b o,H b=some o→b≠e∧b≠it∧b≠s.heap.objs.size:=fun b o q=>⟨(fun z=>by rw [z,e0] at q;cases q),(fun z=>by rw [z,f0] at q;cases q),(fun z=>by rw [z,hT] at q;cases q)⟩
  have hok:HOk X.prog X.w (upd H s.heap.objs.size (.tup [.int i,x])) h2:=fun b o q=>by
   by_cases hb:b=s.heap.objs.size
   · subst hb
     rw [upd_same] at q;cases q
     exact ⟨(show 2≤sizeLine by decide),[.int i s.toks,u],.cons ⟨_,rfl⟩ (.cons ru .nil),⟨_,ht2,rfl,_,rfl⟩⟩
   · rw [upd_ne hb] at q
     refine (I.hok b o q).stay (fun c v hc' r=>hk2 c v ?_ ?_ r) (fun c r=>by rw [upd_ne (trk c _ r).2.2];exact r) fun c ys r=>by rw [upd_ne (trk c _ r).2.2];exact r
     · rcases hc' with rfl | hc'
       · exact (trk _ _ q).1
       · exact (trk _ _ hc').1
     · rcases hc' with rfl | hc'
       · exact (trk _ _ q).2.1
       · exact (trk _ _ hc').2.1
  have old':∀ b o,s.heap.get? b=some o→b≠s.heap.objs.size:=fun b o q=>Nat.ne_of_lt (Heap.lt_size q)
  have I1:Inv X pins σ (upd H s.heap.objs.size (.tup [.int i,x])) { s with heap:=h2,toks:=s.toks+1 }:=by
   refine I.step (g':=s.gens) (d':=s.drawn) (t':=s.toks+1) (ch:=[e,it]) (fun b hb=>?_) (fun b o _ _ hc' q _=>hk2 b o (fun z=>hc' (by simp [z])) (fun z=>hc' (by simp [z])) q) (fun b o _ _ hc' q _=>⟨o.slots,hk2 b o (fun z=>hc' (by simp [z])) (fun z=>hc' (by simp [z])) q⟩)
    (fun b o _ q n=>by rw [upd_ne (old' b o q)];exact n) (fun b o hc' q=>⟨o,hk2 b o (fun z=>hc' (by simp [z])) (fun z=>hc' (by simp [z])) q⟩) (fun b ys q=>by rw [upd_ne (trk b _ q).2.2];exact q) (fun b o ys q=>by rw [upd_ne (trk b _ q).2.2];exact q)
    (fun b ps q=>⟨#[],by rw [upd_ne (trk b _ q).2.2,q];simp⟩) (fun m hm=>?_) hok I.bare
   · rcases List.mem_cons.mp hb with rfl | hb
     · exact ⟨e3,e1,e4,e5⟩
     · have e':b=it:=by simpa using hb
       subst e'
       exact ⟨f3,f1,f4,f5⟩
   · obtain ⟨o,es',ep,ho,r⟩:=hm
     exact ⟨o,es',ep,hk2 _ _ e1.symm f1.symm ho,r⟩
  refine ⟨.ref s.heap.objs.size,_,I1,rfl,⟨s.heap.objs.size,x,hT,rfl,rfl,fun ys hy=>by rw [I.list_inj hy hq];exact hx⟩,⟨⟨u,he2⟩,hit2⟩,fun b hb=>?_⟩
  rcases List.mem_cons.mp hb with rfl | hb
  · rw [upd_ne eT];exact e0
  · have e':b=it:=by simpa using hb
    subst e'
    rw [upd_ne iT];exact f0
 done:=by
  intro X hP hw hK hc i pins s σ H E I hf ⟨⟨old,st⟩,si⟩ hg
  subst hP hw hK
  obtain ⟨xs,hq,hx⟩:=hg
  obtain ⟨its,rv,p,hz⟩:=I.list hq
  obtain ⟨f0,f1,f2,f3,f4,f5⟩:=hf it (by simp)
  have hl:=rv.length
  exact wpAny_pyNext_enum_end (I.ok.hd hc) st si p.isList (by simp;omega) fun h' eb=>⟨rfl,I.turned (t':=s.toks) (fun b o hb q=>eb b o hb q) f0 f1 f3 f4 f5⟩
 self:=fun _ _ _ _ _ ⟨⟨old,st⟩,_⟩ h=>wpAny_pyIter_enum st h
section
variable {X:Cx}
def iEnum (K:PySem.W.Frag) (ta:TA):TI:=fun σ H R=>ta σ H fun vs H1=>∃ a,vs=[.ref a]∧(∃ xs,SqL K H1 a xs)∧R (Ite K a) H1
theorem pi_enum {l:Expr}{ta:TA}{p pos pt:Pos}{es:List Expr}{k:Nat} (hg:Gl X "enumerate") (hm:X.mg "enumerate"=none) (hb:bootBuiltins "enumerate"=some (.type "enumerate")) (ha:PA X [l] ta) (hs:starEach [l] X.env=[(false,eval l X.env)]:=by rfl):
  PI X (.Tuple es k pt) (.Call (.Name "enumerate" p) [l] [] pos) (iEnum X.K ta):=by
 intro pins s σ H R I h
 refine Call_ (ld_blt I hg hm hb (PyProof.Rows.callWith_type1 (thn (ha pos pins s σ H _ I h) fun us s1 ⟨vs,H1,I1,r1,q1⟩=>?_) hs rfl))
 obtain ⟨a,e,⟨xs,hq⟩,q⟩:=q1
 subst e
 cases r1 with
 | cons r rr=>
  cases rr
  cases r
  obtain ⟨its,rv,pl,hz⟩:=I1.list hq
  refine call_enumerate_list pl.isList fun h' he hit hsz hk=>?_
  refine wpAny_pyIter_enum he ?_
  have I2:Inv X pins σ H1 { s1 with heap:=h' }:=I1.kept (t':=s1.toks) fun b o e=>hk b o e
  refine ⟨s1.heap.objs.size+1,[s1.heap.objs.size+1,s1.heap.objs.size],_,_,H1,rfl,I2,turn_enum a _ _ (Nat.succ_ne_self _),⟨⟨_,he⟩,hit⟩,fun b hb=>?_,q⟩
  rcases List.mem_cons.mp hb with rfl | hb
  · exact I1.fpOk (Nat.le_succ _) (I1.hok.fresh (Nat.le_succ _))
  · have e:b=s1.heap.objs.size:=by simpa using hb
    subst e
    exact I1.fpOk (Nat.le_refl _) (I1.hok.fresh (Nat.le_refl _))
theorem for_enum {K:PySem.W.Frag}{a:Addr}{xs:List V}{g:TG}{tb:TS}{D:Ends}{σ:St}{H:Hp} (Pv:Nat→St→Hp→Prop) (h0:Pv 0 σ H) (hl:∀ i σ H,i≤xs.length→Pv i σ H→SqL K H a xs)
  (hs:∀ i x σ H t,xs[i]?=some x→H t=none→Pv i σ H→g (.ref t) σ (upd H t (.tup [.int i,x])) fun σ2 H2=>tb { D with nx:=Pv (i+1),ct:=Pv (i+1),bk:=D.nx } σ2 H2) (hd:∀ σ H,Pv xs.length σ H→D.nx σ H):
  ∃ W:Nat→Nat→St→Hp→Prop,(∃ m,W 0 m σ H)∧∀ i m σ H,W i m σ H→
   ((Ite K a).stop i H∧D.nx σ H)∨((Ite K a).go i H∧∃ N:St→Hp→Prop,(∀ σ' H',N σ' H'→∃ m',m' < m∧W (i+1) m' σ' H')∧∀ x H',(Ite K a).yld i H x H'→g x σ H' fun σ2 H2=>tb { D with nx:=N,ct:=N,bk:=D.nx } σ2 H2):=by
 refine ⟨fun i m σ H=>m=xs.length - i∧i≤xs.length∧Pv i σ H,⟨xs.length,by simp,Nat.zero_le _,h0⟩,?_⟩
 rintro i m σ H ⟨rfl,hi,p⟩
 have q:=hl i σ H hi p
 by_cases hlt:i < xs.length
 · refine .inr ⟨⟨xs,xs[i],q,by simp [hlt]⟩,Pv (i+1),fun σ' H' p'=>⟨xs.length - (i+1),by omega,rfl,hlt,p'⟩,fun x H' y=>?_⟩
   obtain ⟨t,y,ht,rfl,rfl,hy⟩:=y
   exact hs i y σ H t (hy xs q) ht p
 · have e:i=xs.length:=by omega
   subst e
   exact .inl ⟨⟨xs,q,Nat.le_refl _⟩,hd σ H p⟩
end
open PySem.SeqAt
mutual
inductive Dt (K:PySem.W.Frag) (H:Hp):V→PyData→Prop
 | non:Dt K H .non .none
 | bl (b:Bool):Dt K H (.bl b) (.bool b)
 | int (i:Int):Dt K H (.int i) (.int i)
 | str (x:Str):Dt K H (.str x) (.str x)
 | lst {a:Addr}{xs:List V}{ds:List PyData} (h:SqL K H a xs) (r:Dts K H xs ds):Dt K H (.ref a) (.list ds)
 | tup {a:Addr}{xs:List V}{ds:List PyData} (h:SqT K H a xs) (r:Dts K H xs ds):Dt K H (.ref a) (.tuple ds)
inductive Dts (K:PySem.W.Frag) (H:Hp):List V→List PyData→Prop
 | nil:Dts K H [] []
 | cons {x:V}{d:PyData}{xs:List V}{ds:List PyData} (h:Dt K H x d) (r:Dts K H xs ds):Dts K H (x::xs) (d::ds)
end
section
variable {X:Cx}{pins:List (Addr × Obj)}{σ:St}{H:Hp}{s:Shared}
mutual
theorem Dt.reads (I:Inv X pins σ H s):∀ {x:V}{d:PyData}{u:Value},Dt X.K H x d→RelV x u→∃ as,Reads s.heap u d as
 | _,_,_,.non,r=>by cases (show _=Value.none from r);exact ⟨_,.none⟩
 | _,_,_,.bl b,r=>by cases (show _=Value.bool b from r);exact ⟨_,.bool b⟩
 | _,_,_,.int i,r=>by obtain ⟨t,e⟩:=(show ∃ t,_=Value.int i t from r);cases e;exact ⟨_,.int i t⟩
 | _,_,_,.str x,r=>by obtain ⟨t,e⟩:=(show ∃ t,_=Value.str x t from r);cases e;exact ⟨_,.str x t⟩
 | _,_,_,.lst (a:=a) h rr,r=>by
  cases (show _=Value.ref a from r)
  obtain ⟨its,rv,p,hz⟩:=I.list h
  obtain ⟨as,q⟩:=Dts.reads I rr rv
  obtain ⟨o,ho,hc,n,hd⟩:=p.isList
  exact ⟨_,.list ho hc hd (by simpa using q)⟩
 | _,_,_,.tup (a:=a) h rr,r=>by
  cases (show _=Value.ref a from r)
  obtain ⟨its,rv,p,hz⟩:=I.tuple h
  obtain ⟨as,q⟩:=Dts.reads I rr rv
  obtain ⟨o,ho,hc,n,hd⟩:=p
  exact ⟨_,.tuple ho hc hd (by simpa using q)⟩
theorem Dts.reads (I:Inv X pins σ H s):∀ {xs:List V}{ds:List PyData}{us:List Value},Dts X.K H xs ds→Vals xs us→∃ as,ReadsAll s.heap us ds as
 | _,_,_,.nil,.nil=>⟨_,.nil⟩
 | _,_,_,.cons h rr,.cons r rs=>by
  obtain ⟨as,q⟩:=Dt.reads I h r
  obtain ⟨bs,q'⟩:=Dts.reads I rr rs
  exact ⟨_,.cons q q'⟩
end
end
section
variable {X:Cx}
def rEqD (K:PySem.W.Frag):R2:=fun x y H Q=>∃ d d',Dt K H x d∧Dt K H y d'∧shaped d=true∧shaped d'=true∧noMix d d'=true∧Q (.bl (same d d')) H
def rNeD (K:PySem.W.Frag):R2:=fun x y H Q=>∃ d d',Dt K H x d∧Dt K H y d'∧shaped d=true∧shaped d'=true∧noMix d d'=true∧Q (.bl (!same d d')) H
theorem op_eqD (hu:X.A.units+64 < cLine):OpR X (compareOp .Eq) (wr2 (rEqD X.K)):=by
 intro pins s σ H x y v u Q I rx ry h
 obtain ⟨d,d',a,b,sa,sb,m,q⟩:=h.get
 obtain ⟨as,ra⟩:=a.reads I rx
 obtain ⟨bs,rb⟩:=b.reads I ry
 exact eq_dataH_same ra rb sa sb hu m ⟨.bl _,H,I,rfl,q⟩
theorem op_neD (hu:X.A.units+64 < cLine):OpR X (compareOp .NotEq) (wr2 (rNeD X.K)):=by
 intro pins s σ H x y v u Q I rx ry h
 obtain ⟨d,d',a,b,sa,sb,m,q⟩:=h.get
 obtain ⟨as,ra⟩:=a.reads I rx
 obtain ⟨bs,rb⟩:=b.reads I ry
 exact ne_dataH_same ra rb sa sb hu m ⟨.bl _,H,I,rfl,q⟩
end
end L2
namespace L2
open PySem PySem.Spec PyProof.Rows
section
variable {X:Cx}{tg:Expr}
theorem comp_vals {K:PySem.W.Frag}{a:Addr}{xs:List V}{ix:List Nat}{te:TE}{σ:St}{H:Hp}{Q:VK} (f:V→V) (hq:SqL K H a xs) (hl:xs.length < sizeLine)
  (he:∀ z∈xs,∀ (H':Hp) (Q':VK),Same H H'→Q' (f z) H'→te (blkSt ix (some z) σ) H' Q') (h:∀ D,H D=none→Q (.ref D) (upd H D (.lst (xs.map f)))):
  ∀ D,H D=none→∃ W:Nat→Nat→List V→Hp→Prop,(∃ m,W 0 m [] (upd H D (.lst [])))∧
   ∀ i m ys H2,W i m ys H2→H2 D=some (.lst ys)∧(((Itl K a).stop i H2∧Q (.ref D) H2)∨((Itl K a).go i H2∧ys.length < sizeLine∧∀ x H',(Itl K a).yld i H2 x H'→te (blkSt ix (some x) σ) H' fun y H3=>
    H3 D=some (.lst ys)∧∃ m',m' < m∧W (i+1) m' (ys++[y]) (upd H3 D (.lst (ys++[y]))))):=by
 intro D hD
 refine ⟨fun i m ys H2=>m=xs.length - i∧i≤xs.length∧ys=(xs.take i).map f∧H2=upd H D (.lst ys),⟨xs.length,by simp,Nat.zero_le _,by simp,rfl⟩,?_⟩
 rintro i m ys H2 ⟨rfl,hi,rfl,rfl⟩
 have s:Same H (upd H D (.lst ((xs.take i).map f))):=fun b o e=>by rw [upd_ne (ne_of_none e hD)];exact e
 have hs:=s.seq hq
 refine ⟨upd_same,?_⟩
 by_cases hlt:i < xs.length
 · refine .inr ⟨⟨_,xs[i],hs,by simp [hlt]⟩,by simp;omega,fun x H' y=>?_⟩
   obtain ⟨e,y⟩:=y
   subst e
   have ey:=y _ hs
   rw [List.getElem?_eq_getElem hlt] at ey
   cases ey
   refine he xs[i] (List.getElem_mem hlt) _ _ s ⟨upd_same,xs.length - (i+1),by omega,rfl,hlt,?_,?_⟩
   · rw [List.take_succ_eq_append_getElem hlt];simp only [List.map_append,List.map_cons,List.map_nil]
   · rw [upd_upd]
 · have e:i=xs.length:=by omega
   subst e
   refine .inl ⟨⟨_,hs,by simp⟩,?_⟩
   rw [List.take_of_length_le (Nat.le_refl _)]
   exact h D hD
end
section
variable {κ:Type} [DecidableEq κ]
theorem nd_snoc:∀ {l:List κ}{k:κ},l.Nodup→¬ k∈l→(l++[k]).Nodup
 | [],k,_,_=>by simp
 | a::r,k,h,hk=>by
  obtain ⟨h1,h2⟩:=List.nodup_cons.mp h
  show (a::(r++[k])).Nodup
  refine List.nodup_cons.mpr ⟨fun m=>?_,nd_snoc h2 fun m=>hk (List.mem_cons.mpr (Or.inr m))⟩
  rcases List.mem_append.mp m with q | q
  · exact h1 q
  · exact hk (List.mem_cons.mpr (Or.inl (List.mem_singleton.mp q).symm))
end
section
variable {X:Cx}
def tRng (ta:TA):TE:=fun σ H Q=>ta σ H fun vs H1=>∃ j:Int,vs=[.int j]∧∀ p,H1 p=none→Q (.ref p) (upd H1 p (.rng 0 j))
theorem pe_rng {a:Expr}{ta:TA}{p pos:Pos} (hg:Gl X "range") (hm:X.mg "range"=none) (ha:PA X [a] ta) (hs:starEach [a] X.env=[(false,eval a X.env)]:=by rfl):PE X (.Call (.Name "range" p) [a] [] pos) (tRng ta):=by
 intro pins s σ H Q I h
 refine Call_ (ld_blt I hg hm boot_range (PyProof.Rows.callWith_type1 (thn (ha pos pins s σ H _ I h) fun us s1 ⟨vs,H1,I1,r1,q1⟩=>?_) hs rfl))
 obtain ⟨j,e,q⟩:=q1
 subst e
 cases r1 with
 | cons r rr=>
  cases rr
  obtain ⟨t,rfl⟩:=r
  refine call_range_1 ?_
  exact ⟨.ref s1.heap.objs.size,_,I1.laid (o:=.rng 0 j) (fun b u e=>Heap.get?_push_of_some _ e) (Nat.le_refl _) ⟨_,_,_,Heap.get?_push_size _ rfl⟩,rfl,q _ (I1.hok.fresh (Nat.le_refl _))⟩
def rListR (xs:List V) (H:Hp) (Q:VK):Prop:=∃ (r:Addr) (n:Nat),xs=[.ref r]∧H r=some (.rng 0 n)∧n≤1000000∧∀ l,H l=none→Q (.ref l) (upd H l (.lst ((List.range n).map fun (i:Nat)=>V.int i)))
theorem call_listRng (hc:X.calm=true):CallR X (.type "list") (fun xs H Q=>Wr (rListR xs H Q)):=by
 intro pins s σ H xs us Q I r h
 obtain ⟨ra,n,rfl,hr,hn,q⟩:=h.get
 obtain ⟨u,rfl,ru⟩:=r.one
 cases ru
 obtain ⟨t,tu,tv,e⟩:=(show ObjOk X.prog X.w H s.heap ra (.rng 0 n) from I.hok ra _ hr)
 have hsz:Builtin.Range.rangeSize 0 (n:Int) 1=(n:Int):=by rw [rangeSize_one];split <;> omega
 refine call_list_range (n:=n) (I.ok.hd hc) e (small_one (by omega) (by omega) (by omega) (by omega)) hsz (by omega) fun h' tk acc c hk hS hacc=>?_
 refine ⟨.ref s.heap.objs.size,_,I.laid (t':=tk) (o:=.lst ((List.range n).map fun (i:Nat)=>V.int i)) hk (Nat.le_refl _) ?_,rfl,q _ (I.hok.fresh (Nat.le_refl _))⟩
 have hl:sizeLine=16777216:=sizeLine_eq
 refine ⟨by rw [List.length_map,List.length_range];omega,acc.toList,c,?_,by simpa using hS⟩
 have gen:∀ (k:Nat) (l:List Value),l.length=n - k→(∀ j v,l[j]?=some v→∃ t,v=Value.int ((0:Int)+((k+j:Nat):Int) * 1) t)→k≤n→Vals ((List.range' k (n - k)).map fun (i:Nat)=>V.int i) l:=by
  intro k l
  induction l generalizing k with
  | nil=>
   intro hl _ _
   have:n - k=0:=by simpa using hl.symm
   rw [this]
   exact .nil
  | cons v l ih=>
   intro hl hv hk'
   have h1:n - k=(n - (k+1))+1:=by simp at hl;omega
   rw [h1,List.range'_succ,List.map_cons]
   refine .cons ?_ (ih (k+1) (by simp at hl;omega) (fun j v' hj=>?_) (by simp at hl;omega))
   · obtain ⟨t,e⟩:=hv 0 v rfl
     exact ⟨t,by rw [e];simp⟩
   · obtain ⟨t,e⟩:=hv (j+1) v' (by simpa using hj)
     refine ⟨t,?_⟩
     rw [e]
     congr 3
     omega
 have:=gen 0 acc.toList (by simpa using hacc.1) (fun j v hj=>by
  obtain ⟨t,e⟩:=hacc.2 j v (by simpa using hj)
  exact ⟨t,by rw [e];simp⟩) (Nat.zero_le _)
 rw [Nat.sub_zero, ← List.range_eq_range'] at this
 exact this
theorem comp_range {lo:Int}{n:Nat}{ix:List Nat}{te:TE}{σ:St}{H:Hp}{Q:VK}
  (h:∀ D,H D=none→∃ Pv:Nat→List V→Hp→Prop,Pv 0 [] (upd H D (.lst []))∧(∀ i ys H2,Pv i ys H2→H2 D=some (.lst ys)∧ys.length < sizeLine)∧
   (∀ i ys H2,i < n→Pv i ys H2→∀ Q':VK,(∀ y H3,H3 D=some (.lst ys)→Pv (i+1) (ys++[y]) (upd H3 D (.lst (ys++[y])))→Q' y H3)→te (blkSt ix (some (.int (lo+i))) σ) H2 Q')∧∀ ys H2,Pv n ys H2→Q (.ref D) H2):
  ∀ D,H D=none→∃ W:Nat→Nat→List V→Hp→Prop,(∃ m,W 0 m [] (upd H D (.lst [])))∧
   ∀ i m ys H2,W i m ys H2→H2 D=some (.lst ys)∧(((Itr lo n).stop i H2∧Q (.ref D) H2)∨((Itr lo n).go i H2∧ys.length < sizeLine∧∀ x H',(Itr lo n).yld i H2 x H'→te (blkSt ix (some x) σ) H' fun y H3=>
    H3 D=some (.lst ys)∧∃ m',m' < m∧W (i+1) m' (ys++[y]) (upd H3 D (.lst (ys++[y]))))):=by
 intro D hD
 obtain ⟨Pv,p0,pl,ps,pq⟩:=h D hD
 refine ⟨fun i m ys H2=>m=n - i∧i≤n∧Pv i ys H2∧True,⟨n,by simp,Nat.zero_le _,p0,trivial⟩,?_⟩
 rintro i m ys H2 ⟨rfl,hi,p,_⟩
 obtain ⟨e1,e2⟩:=pl i ys H2 p
 refine ⟨e1,?_⟩
 by_cases hlt:i < n
 · refine .inr ⟨hlt,e2,fun x H' y=>?_⟩
   obtain ⟨e,y⟩:=y
   subst e y
   exact ps i ys _ hlt p _ fun y H3 e3 p3=>⟨e3,n - (i+1),by omega,rfl,hlt,p3,trivial⟩
 · have e:i=n:=by omega
   subst e
   exact .inl ⟨Nat.le_refl _,pq ys H2 p⟩
end
open PySem.W
end L2
namespace L2
open PySem PySem.Spec PyProof.Rows
abbrev Ints (H:Hp) (a:Addr) (ns:List Int):Prop:=H a=some (.lst (ns.map V.int))
theorem Ints.sq {K:PySem.W.Frag}{H:Hp}{a:Addr}{ns:List Int} (h:Ints H a ns):SqL K H a (ns.map V.int):=SqL.of h
def cutL {α:Type} (xs:List α) (lo hi:Option Int):List α:=(xs.drop (HT.sIx xs.length 0 lo)).take (HT.sIx xs.length xs.length hi - HT.sIx xs.length 0 lo)
theorem cutV_int (ns:List Int) (lo hi:Option Int):cutV (ns.map V.int) lo hi=(cutL ns lo hi).map V.int:=by
 unfold cutV cutL
 simp [List.map_drop,List.map_take]
theorem cutL_to {α:Type} (xs:List α) (k:Nat):cutL xs none (some (k:Int))=xs.take k:=by
 unfold cutL
 rw [HT.sIx_nat,HT.sIx_none]
 simp only [List.drop_zero,Nat.sub_zero]
 by_cases h:k≤xs.length
 · rw [Nat.min_eq_left h]
 · rw [Nat.min_eq_right (by omega),List.take_of_length_le (Nat.le_refl _),List.take_of_length_le (by omega)]
theorem cutL_from {α:Type} (xs:List α) (k:Nat):cutL xs (some (k:Int)) none=xs.drop k:=by
 unfold cutL
 rw [HT.sIx_nat,HT.sIx_none]
 by_cases h:k≤xs.length
 · rw [Nat.min_eq_left h,List.take_of_length_le (by rw [List.length_drop];exact Nat.le_refl _)]
 · rw [Nat.min_eq_right (by omega),List.drop_of_length_le (Nat.le_refl _),List.drop_of_length_le (by omega)];simp
theorem cutL_ft {α:Type} (xs:List α) (j k:Nat) (h:j≤k):cutL xs (some (j:Int)) (some (k:Int))=(xs.drop j).take (k - j):=by
 unfold cutL
 rw [HT.sIx_nat,HT.sIx_nat]
 by_cases h1:k≤xs.length
 · rw [Nat.min_eq_left h1,Nat.min_eq_left (by omega)]
 · rw [Nat.min_eq_right (show xs.length≤k by omega)]
   by_cases h2:j≤xs.length
   · rw [Nat.min_eq_left h2,List.take_of_length_le (by rw [List.length_drop];exact Nat.le_refl _),List.take_of_length_le (by rw [List.length_drop];omega)]
   · rw [Nat.min_eq_right (by omega),List.drop_of_length_le (Nat.le_refl _),List.drop_of_length_le (by omega)];simp
theorem cutL_len {α:Type} (xs:List α) (lo hi:Option Int):(cutL xs lo hi).length≤xs.length:=by
 unfold cutL
 rw [List.length_take,List.length_drop]
 omega
theorem atI_int {ns:List Int}{j:Nat} (h:j < ns.length):atI (ns.map V.int) (j:Int)=some (V.int (ns[j]'h)):=atI_nat (by rw [List.getElem?_map,List.getElem?_eq_getElem h];rfl)
theorem get_int {ns:List Int}{i:Nat}{y:V} (h:(ns.map V.int)[i]?=some y):∃ z,y=V.int z∧ns[i]?=some z:=by
 rw [List.getElem?_map] at h
 cases e:ns[i]? with
 | none=>rw [e] at h;cases h
 | some z=>rw [e] at h;exact ⟨z,(Option.some.inj h).symm,rfl⟩
theorem Same.upd {H H1:Hp}{a:Addr}{o:HO} (s:Same H H1) (n:H a=none):Same H (upd H1 a o):=fun b u e=>by
 rw [upd_ne (ne_of_none e n)];exact s b u e
theorem Same.ints {H H':Hp}{a:Addr}{ns:List Int} (e:Same H H') (h:Ints H a ns):Ints H' a ns:=e _ _ h
theorem Ints.other {H:Hp}{a b:Addr}{ns:List Int}{o:HO} (h:Ints H a ns) (n:a≠b):Ints (L2.upd H b o) a ns:=by
 show L2.upd H b o a=_
 rw [upd_ne n];exact h
theorem Ints.put {H:Hp}{a:Addr}{ns:List Int}:Ints (L2.upd H a (.lst (ns.map V.int))) a ns:=upd_same
theorem Ints.snoc {H:Hp}{a:Addr}{ns:List Int}{v:Int}:Ints (L2.upd H a (.lst (ns.map V.int++[V.int v]))) a (ns++[v]):=by
 show L2.upd H a _ a=_
 rw [upd_same,List.map_append];rfl
theorem Same.upd' {H H1:Hp}{a:Addr}{o:HO} (s:Same H H1) (n:H1 a=none):Same H (L2.upd H1 a o):=s.upd (s.free n)
theorem small4k {n:Nat} (h:n≤10000000):n < sizeLine:=Nat.lt_of_le_of_lt h (by decide)
theorem new_rd {H:Hp}{xs:List V}{Q:VK} (ns:List Int) (e:xs=ns.map V.int) (h:∀ (p:Addr) (H':Hp),H p=none→Ints H' p ns→Same H H'→Q (.ref p) H'):∀ p,H p=none→Q (.ref p) (upd H p (.lst xs)):=fun p hp=>by
 subst e
 exact h p _ hp .put ((Same.refl H).upd hp)
theorem ls_rd {H:Hp}{ns:List Int}{Q:VK} (h:∀ (p:Addr) (H':Hp),H p=none→Ints H' p ns→Same H H'→Q (.ref p) H'):∀ p,H p=none→Q (.ref p) (upd H p (.lst (ns.map V.int))):=new_rd ns rfl h
theorem sl_rd {H:Hp}{ns:List Int}{lo hi:Option Int}{Q:VK} (h:∀ (p:Addr) (H':Hp),H p=none→Ints H' p (cutL ns lo hi)→Same H H'→Q (.ref p) H'):∀ p,H p=none→Q (.ref p) (upd H p (.lst (cutV (ns.map V.int) lo hi))):=new_rd _ (cutV_int ..) h
theorem cat_rd {H:Hp}{ns ms:List Int}{Q:VK} (h:∀ (p:Addr) (H':Hp),H p=none→Ints H' p (ns++ms)→Same H H'→Q (.ref p) H'):∀ p,H p=none→Q (.ref p) (upd H p (.lst (ns.map V.int++ms.map V.int))):=new_rd _ (by rw [List.map_append]) h
theorem at_k {ms:List Int} (k:Nat) {i:Int} (h:k < ms.length) (e:i=(k:Int):=by rfl):atI (ms.map V.int) i=some (V.int (ms.getD k 0)):=by
 subst e
 rw [atI_int h]
 simp [List.getD,h]
theorem rd_list {K:PySem.W.Frag}{H:Hp}{a:Addr}{ns:List Int}{Q:VK} (hq:Ints H a ns) (h:∀ (p:Addr) (H':Hp),H p=none→Ints H' p ns→Same H H'→Q (.ref p) H'):Wr (rList K [.ref a] H Q):=⟨⟨a,_,rfl,.inl (SqL.of hq),ls_rd h⟩⟩
theorem rd_slice {K:PySem.W.Frag}{H:Hp}{a:Addr}{ns:List Int}{lo hi:Option Int}{Q:VK} (hq:Ints H a ns) (h:∀ (p:Addr) (H':Hp),H p=none→Ints H' p (cutL ns lo hi)→Same H H'→Q (.ref p) H'):Wr (rSlL K (.ref a) lo hi H Q):=⟨⟨a,_,rfl,SqL.of hq,sl_rd h⟩⟩
theorem rd_cat {H:Hp}{a b:Addr}{ns ms:List Int}{Q:VK} (ha:Ints H a ns) (hb:Ints H b ms) (hl:ns.length+ms.length≤10000000) (h:∀ (p:Addr) (H':Hp),H p=none→Ints H' p (ns++ms)→Same H H'→Q (.ref p) H'):Wr (rCat (.ref a) (.ref b) H Q):=
 ⟨⟨a,b,_,_,rfl,rfl,ha,hb,by simp only [List.length_map];exact Nat.le_of_lt (small4k hl),cat_rd h⟩⟩
theorem rd_at {K:PySem.W.Frag}{H:Hp}{a:Addr}{ns:List Int}{i:Int}{Q:VK} (k:Nat) (hq:Ints H a ns) (hk:k < ns.length) (h:Q (.int (ns.getD k 0)) H) (e:i=(k:Int):=by rfl):Wr (rIxL K (.ref a) (.int i) H Q):=⟨⟨a,_,i,_,rfl,rfl,SqL.of hq,at_k k hk e,h⟩⟩
theorem ite_key {c:Bool}{A:Prop}{H2:Hp}{K:Hp→Prop} (P:Hp→Prop) (hP:P H2) (key:∀ H,P H→K H) (h1:(∀ H,P H→K H)→A):if c=true then A else K H2:=by
 cases c with
 | true=>rw [if_pos rfl];exact h1 key
 | false=>rw [if_neg Bool.false_ne_true];exact key _ hP
theorem rd_eq {K:PySem.W.Frag}{H:Hp}{a b:Addr}{ns ms:List Int}{Q:VK} (ha:Ints H a ns) (hb:Ints H b ms) (h:Q (.bl (decide (ns=ms))) H):Wr (rEqI K (.ref a) (.ref b) H Q):=⟨⟨a,b,ns,ms,rfl,rfl,SqL.of ha,SqL.of hb,h⟩⟩
theorem rd_ne {K:PySem.W.Frag}{H:Hp}{a b:Addr}{ns ms:List Int}{Q:VK} (ha:Ints H a ns) (hb:Ints H b ms) (h:Q (.bl (!decide (ns=ms))) H):Wr (rNeI K (.ref a) (.ref b) H Q):=⟨⟨a,b,ns,ms,rfl,rfl,SqL.of ha,SqL.of hb,h⟩⟩
theorem rd_nsame {K:PySem.W.Frag}{H:Hp}{a b:Addr}{ns ms:List Int}{Q:VK} (ha:Ints H a ns) (hb:Ints H b ms) (e:ns=ms) (h:Q (.bl false) H):Wr (rNeI K (.ref a) (.ref b) H Q):=rd_ne ha hb (by rw [decide_eq_true e];exact h)
theorem rd_lst {H:Hp}{xs:List V}{Q:VK} (ns:List Int) (h:∀ (p:Addr) (H':Hp),H p=none→Ints H' p ns→Same H H'→Q (.ref p) H') (e:xs=ns.map V.int:=by rfl) (hl:ns.length≤1000:=by simp):Wr (rLst xs H Q):=by
 subst e
 exact ⟨⟨by rw [List.length_map];exact Nat.le_of_lt (small4k (by omega)),ls_rd h⟩⟩
structure Rdy (P:Program) (w:World) (K:PySem.W.Frag) (mg:Str→Option Value) (base:Heap) (x:Str) (ps:List Str) (k:Nat) (sp:Sp) where
 f:Addr
 fd:FuncData
 ok:FnOk P w K mg base CX0 k f fd ps sp
 mgx:mg x=some (.ref f)
 kp:PySem.W.keepIn K (.ref f)=true
 bd:Binds K fd ps []
theorem Rdy.pe {X:Cx}{x:Str}{ps:List Str}{k j:Nat}{sp:Sp}{e:Expr}{es:List Expr}{t:TA}{p pos:Pos} (R:Rdy X.prog X.w X.K X.mg X.base x ps k sp) (hr:Room j X.A) (ha:PA X (e::es) t) (hg:Gl X x:=by rfl) (hj:k≤j:=by decide)
  (hdb:(x == ("__debug__":Str))=false:=by decide) (he:starEach (e::es) X.env=(false,eval e X.env)::starEach es X.env:=by rfl) (hpl:(backTo pos (starEach es X.env)).any (·.1)=false:=by rfl):
  PE X (.Call (.Name x p) (e::es) [] pos) (tCall sp [] E0 t):=pe_call R.ok (hr.mono hj) hg R.mgx R.kp R.bd .nil pass0 ha hdb he hpl
end L2
set_option maxHeartbeats 4000000
namespace My
open PySem L2
structure Txt (K:PySem.W.Frag) (mg:Str→Option Value):Prop where
 len:mg "len"=none
 range:mg "range"=none
 list:mg "list"=none
 int:mg "int"=none
 bool:mg "bool"=none
 inst:mg "isinstance"=none
 tuple:mg "tuple"=none
 abs:mg "abs"=none
 enum:mg "enumerate"=none
 str:mg "str"=none
def spNumL (K:PySem.W.Frag):Sp:=fun vs H Q _=>∃ (a:Addr) (ns:List Int) (many:Nat),vs=[.ref a,.int many]∧SqL K H a (ns.map V.int)∧ns.length≤63∧many≤1000∧
 ∀ (l:Addr) (ms:List Int) (H':Hp),ms.length=many→True→H l=none→Ints H' l ms→Same H H'→Q (.ref l) H'
theorem pow18:((10:Int) ^ (18:Int).toNat)=1000000000000000000:=by decide
theorem bt_list:bootBuiltins "list"=some (.type "list"):=by decide+kernel
theorem bt_inst:bootBuiltins "isinstance"=some (.builtin "isinstance"):=by decide+kernel
theorem bt_enum:bootBuiltins "enumerate"=some (.type "enumerate"):=by decide+kernel
def spLaw (K:PySem.W.Frag):Sp:=fun vs H Q _=>∃ (a:Addr) (ns:List Int),vs=[.ref a]∧SqL K H a (ns.map V.int)∧ns.length≤63∧∀ H',Q (.bl true) H'
def lab0 (n:Nat):List Int:=(List.range n).map fun (i:Nat)=>(i:Int)
theorem rd_range {K:PySem.W.Frag}{H:Hp}{r:Addr}{n:Nat}{Q:VK} (hr:H r=some (.rng 0 n)) (hn:n≤1000000) (h:∀ (p:Addr) (H':Hp),H p=none→Ints H' p (lab0 n)→Same H H'→Q (.ref p) H'):Wr (rListR [.ref r] H Q):=
 ⟨⟨r,n,rfl,hr,hn,new_rd _ (by simp [lab0,List.map_map,Function.comp_def]) h⟩⟩
structure TxtM (mg:Str→Option Value):Prop where
 min:mg "min"=none
 max:mg "max"=none
theorem bt_max:bootBuiltins "max"=some (.builtin "max"):=by decide+kernel
def Kp (g:Addr) (H H':Hp):Prop:=∀ b o,H b=some o→b≠g→H' b=some o
theorem hcl_nil {cells:List (Str × Addr)}:∀ z c,([]:List (Str × Addr)).lookup z=some c→cells.lookup z=some c:=fun z c h=>by cases h
theorem iteTe {c:Bool}{A B:Prop} (e:c=true) (h:A):if c=true then A else B:=by rw [if_pos e];exact h
theorem iteFe {c:Bool}{A B:Prop} (e:c=false) (h:B):if c=true then A else B:=by rw [e];exact iteF h
structure Rdm (P:Program) (w:World) (K:PySem.W.Frag) (mg:Str→Option Value) (base:Heap) (C:Addr) (m:Str) (ps:List Str) (k:Nat) (sp:Sp) where
 f:Addr
 fd:FuncData
 ok:FnOk P w K mg base CX0 k f fd ps sp
 cl:Cls K C
 mt:Meth K C m f
 bd:Binds K fd ps []
structure Rdk (P:Program) (w:World) (K:PySem.W.Frag) (mg:Str→Option Value) (base:Heap) (C:Addr) (x:Str) (ps:List Str) (k:Nat) (sp:Sp) where
 f:Addr
 fd:FuncData
 ok:FnOk P w K mg base CX0 k f fd ps sp
 mkf:Mk K C f
 mgx:mg x=some (.ref C)
 bd:Binds K fd ps []
theorem Rdk.pe {X:Cx}{x:Str}{C:Addr}{ps:List Str}{k j:Nat}{sp:Sp}{e:Expr}{es:List Expr}{t:TA}{p pos:Pos} (R:Rdk X.prog X.w X.K X.mg X.base C x ps k sp) (hr:Room j X.A) (ha:PA X (e::es) t) (hg:Gl X x:=by rfl) (hj:k+1≤j:=by decide)
  (hdb:(x == ("__debug__":Str))=false:=by decide) (he:starEach (e::es) X.env=(false,eval e X.env)::starEach es X.env:=by rfl) (hpl:(backTo pos (starEach es X.env)).any (·.1)=false:=by rfl):
  PE X (.Call (.Name x p) (e::es) [] pos) (tMake C sp [] E0 t):=pe_make R.mkf R.ok (hr.mono hj) hg R.mgx R.bd .nil pass0 ha hdb he hpl
open PySem.SeqAt PyProof.Rows
theorem rd_atV {K:PySem.W.Frag}{H:Hp}{a:Addr}{xs:List V}{i:Int}{v:V}{Q:VK} (hq:H a=some (.lst xs)) (e:atI xs i=some v) (h:Q v H):Wr (rIxL K (.ref a) (.int i) H Q):=⟨⟨a,xs,i,v,rfl,rfl,SqL.of hq,e,h⟩⟩
theorem rd_lstV {H:Hp}{xs:List V}{Q:VK} (hl:xs.length≤1000) (h:∀ (p:Addr) (H':Hp),H p=none→H' p=some (.lst xs)→Same H H'→Q (.ref p) H'):Wr (rLst xs H Q):=
 ⟨⟨Nat.le_of_lt (small4k (by omega)),fun p hp=>h p _ hp upd_same ((Same.refl H).upd hp)⟩⟩
theorem Rdm.pe0 {X:Cx}{m:Str}{C:Addr}{ps:List Str}{k j:Nat}{sp:Sp}{o:Expr}{ta:TE}{apos pos:Pos}{pl:Sem Bool} (R:Rdm X.prog X.w X.K X.mg X.base C m ps k sp) (hr:Room j X.A) (ho:PE X o ta) (hj:k≤j:=by decide)
  (ht:eval (.Call (.Attribute o m apos) [] [] pos) X.env=(do
   let ov ← eval o X.env
   standAt apos.atName
   let (f,first) ← holding [ov] (getMethod ov m pl)
   callWith pos f first (backTo pos (starEach [] X.env)) (backToKw pos (keywordEach [] X.env))):=by rfl):
  PE X (.Call (.Attribute o m apos) [] [] pos) (tMeth C m sp [] E0 ta tNil):=pe_meth0 ho R.cl R.mt R.ok (hr.mono hj) R.bd .nil pass0 ht
end My
namespace L2
open PySem PySem.Spec PyProof.Rows
def rComp (J:It) (ix:List Nat) (te:TE) (σ:St) (H1:Hp) (Q:VK):Prop:=∀ D,H1 D=none→∃ W:Nat→Nat→List V→Hp→Prop,(∃ m,W 0 m [] (upd H1 D (.lst [])))∧
 ∀ i m ys H2,W i m ys H2→H2 D=some (.lst ys)∧((J.stop i H2∧Q (.ref D) H2)∨(J.go i H2∧ys.length < sizeLine∧∀ x H',J.yld i H2 x H'→te (blkSt ix (some x) σ) H' fun y H3=>
  H3 D=some (.lst ys)∧∃ m',m' < m∧W (i+1) m' (ys++[y]) (upd H3 D (.lst (ys++[y])))))
def rCompIf (J:It) (ix:List Nat) (tt:TT) (te:TE) (σ:St) (H1:Hp) (Q:VK):Prop:=∀ D,H1 D=none→∃ W:Nat→Nat→List V→Hp→Prop,(∃ m,W 0 m [] (upd H1 D (.lst [])))∧
 ∀ i m ys H2,W i m ys H2→H2 D=some (.lst ys)∧((J.stop i H2∧Q (.ref D) H2)∨(J.go i H2∧ys.length < sizeLine∧∀ x H',J.yld i H2 x H'→tt (blkSt ix (some x) σ) H' fun b H3=>if b=true then te (blkSt ix (some x) σ) H3 (fun y H4=>
  H4 D=some (.lst ys)∧∃ m',m' < m∧W (i+1) m' (ys++[y]) (upd H4 D (.lst (ys++[y])))) else ∃ m',m' < m∧W (i+1) m' ys H3))
def tCompW (wi:TI) (ix:List Nat) (te:TE):TE:=fun σ H Q=>wi σ H fun J H1=>Wr (rComp J ix te σ H1 Q)
def Cx.blkC (X:Cx) (N:List Str) (scope:Scope) (cl:List (Str × Addr)) (x:Str) (C:Addr) (s:Shared) (H:Hp) (fp:List Addr):Cx:=
 { prog:=X.prog,w:=X.w,K:=X.K,mg:=X.mg,base:=X.base,A:=X.A,N:=N,s₀:=s,H₀:=H,env:=compEnvC scope ((x,C+1)::cl) C X.env,outer:=X.stack,stack:=X.stack,ex:=fp,fn:=fun y=>y == x,calm:=X.calm,pn:=[],xe:=fun _ _=>False }
theorem nfe_cells {M:Model}{A:Around}{E:Value→Shared→Prop}{s:Shared}{scope:Scope}{globals:Addr}{closure:List (Str × Addr)}{qual:Str}{env:Env}{Q:Env→Shared→Prop}
  (h:Q (newEnv scope s.heap.objs.size globals (cellsFrom (s.heap.objs.size+1) scope.names closure) qual none .none (some env) builtinsNs) { s with heap:=pushCells (s.heap.push { cls:=.type "dict",data:=.dict #[] }) scope.names }):
  wpAny M A (newFunctionEnv scope globals closure [] qual none .none (some env)) Q E s:=by
 simp only [newFunctionEnv,Option.isSome_some,if_true]
 refine wpAny_bind (wpAny_alloc ?_)
 refine wpAny_bind (wpAny_layCells _ (fun name kind cells=>by cases hkc:kind == NameKind.cell <;> simp [hkc]) _ _ _ _ ?_)
 rw [show ({ s with heap:=s.heap.push { cls:=.type "dict",data:=.dict #[] } }:Shared).heap.objs.size=s.heap.objs.size+1 from Heap.size_push ..]
 exact wpAny_bind (by rw [List.forIn_nil];exact wpAny_pure (wpAny_pure h))
structure CompB (X:Cx) (scope:Scope) (cl:List (Str × Addr)) (x:Str) (fr:List Str) (ix:List Nat) (iter:Expr):Prop where
 clos:closureFor scope X.env=pure cl
 calm:X.calm=true
 kind:scope.kind=.function
 cell:(scope.names.all fun p=>p.2 != .cell)=true
 names:(scope.names.all fun p=>p.2 != .local || scope.names.lookup p.1 == some .local)=true
 hx:scope.names.lookup x=some .local
 hN:(x::fr).Nodup
 hix:ix.map (fun i=>X.N[i]?)=fr.map some
 fr:(fr.all fun y=>X.env.kindOf y == some .cell && (relabel scope X.env).names.lookup y == some .cell)=true
 cl2:((relabel scope X.env).names.all fun p=>(p.2 != .cell && p.2 != .free) || (cl.lookup p.1).isSome)=true
 hs:∀ x,foldedSetIterable iter X.env x=pure x
section
variable {X:Cx}{x:Str}{px pos:Pos}{elt iter:Expr}{scope:Scope}{cl:List (Str × Addr)}{fr:List Str}{ix:List Nat}{wi:TI}{te:TE}{tt:TT}{ifs:List Expr}
theorem CompB.cell' (k:CompB X scope cl x fr ix iter):∀ y∈scope.names,y.2≠.cell:=fun y hy e=>by
 have:=List.all_eq_true.mp k.cell y hy
 rw [e] at this
 exact absurd this (by decide)
theorem CompB.names' (k:CompB X scope cl x fr ix iter):∀ y∈scope.names,y.2=.local→scope.names.lookup y.1=some .local:=fun y hy e=>by
 have:=List.all_eq_true.mp k.names y hy
 rw [e] at this
 simpa using this
theorem CompB.fr' (k:CompB X scope cl x fr ix iter):∀ y∈fr,X.env.kindOf y=some .cell∧(relabel scope X.env).names.lookup y=some .cell:=fun y hy=>by
 have:=List.all_eq_true.mp k.fr y hy
 rw [Bool.and_eq_true] at this
 exact ⟨eq_of_beq this.1,eq_of_beq this.2⟩
theorem CompB.cl2' (k:CompB X scope cl x fr ix iter):∀ y,((relabel scope X.env).names.lookup y=some .cell∨(relabel scope X.env).names.lookup y=some .free)→∃ c,cl.lookup y=some c:=fun y hy=>by
 have:∃ k,(relabel scope X.env).names.lookup y=some k∧(k=.cell∨k=.free):=by
  rcases hy with h | h
  · exact ⟨_,h,.inl rfl⟩
  · exact ⟨_,h,.inr rfl⟩
 obtain ⟨k',e,hk'⟩:=this
 have:=List.all_eq_true.mp k.cl2 (y,k') (PySem.mem_of_lookup e)
 have h2:(cl.lookup y).isSome=true:=by
  rcases hk' with rfl | rfl <;> simpa using this
 exact Option.isSome_iff_exists.mp h2
def OneIf (B:Cx→Prop) (ifs:List Expr) (tt:TT):Prop:=(ifs=[]∧tt=fun _ H Q=>Q true H)∨∃ ct,ifs=[ct]∧∀ Y,B Y→PT Y ct tt
theorem tests_of {B:Cx}{BB:Cx→Prop}{pins:List (Addr × Obj)}{σ:St}{H:Hp}{s:Shared}{Q:Bool→Hp→Prop} (hif:OneIf BB ifs tt) (hb:BB B) (I:Inv B pins σ H s) (h:tt σ H Q):
  wpAny (model B.prog B.w) B.A (forIn ifs true fun c r=>if r=true then do
   let ok ← PySem.isTrue c B.env (eval c B.env)
   pure (ForInStep.yield ok) else pure (ForInStep.yield r)) (fun b s'=>∃ H',Inv B pins σ H' s'∧Q b H') B.xe s:=by
 rcases hif with ⟨rfl,rfl⟩ | ⟨ct,rfl,ht⟩
 · rw [List.forIn_nil]
   exact wpAny_pure ⟨_,I,h⟩
 · exact wpAny_tests_one (wpAny_mono (ht B hb _ s _ H _ I h) (fun bb s6 ⟨H6,I6,q6⟩=>⟨H6,I6,q6⟩) fun _ _ z=>z)
theorem lcomp_gen {use:Option (Value→Sem Unit)}{Post:Value→Shared→Prop}{p0:Pos} (k:CompB X scope cl x fr ix iter) (hi:PI X (.Name x px) iter wi) (hcl:∀ y c,cl.lookup y=some c→X.env.cells.lookup y=some c)
  (he:∀ C s H fp,PE (X.blk (x::fr) scope cl C s H fp) elt te) (hif:OneIf (fun Y=>∃ C s H fp,Y=X.blk (x::fr) scope cl C s H fp) ifs tt)
  {pins:List (Addr × Obj)}{s:Shared}{σ:St}{H:Hp}{Q:VK} (I:Inv X pins σ H s) {R:It→Hp→Prop} (h:wi σ H R) (hR:∀ J H1,R J H1→Wr (rCompIf J ix tt te σ H1 Q))
  (fin:∀ (s2 s4:Shared) (H2 H3:Hp) (fp:List Addr) (C:Addr) (x':Option V),Inv X pins σ H2 s2→(∀ b∈fp,FpOk X pins H2 b)→C=s2.heap.objs.size+1→(∀ b o,s2.heap.get? b=some o→b≠C)→Inv (X.blk (x::fr) scope cl C s2 H2 fp) [] (blkSt ix x' σ) H3 s4→Q (.ref s2.heap.objs.size) H3→
   ∀ a,compPost (model X.prog X.w) X.A X.xe use Post (.ref s2.heap.objs.size) C (.ok a) s4):
  wpAny (model X.prog X.w) X.A (comprehension (.ListComp elt [⟨.Name x px,iter,ifs,0⟩] scope pos) scope X.env p0 (newList []) false (eval iter X.env) use) Post X.xe s:=by
 refine wpAny_comprehension_free rfl k.hs k.clos k.kind k.names' (thn (hi pins s σ H _ I h) fun xv s1 h1=>thn h1 fun itv s2 h2=>?_)
 obtain ⟨it,fp,tn,J,H2,e,I2,T,st2,f2,q⟩:=h2
 have q:=hR J H2 q
 subst e
 refine wpAny_newObj_type (wpAny_newFunctionEnv k.cell' (by intro y hy;simp at hy) (fun h₁ hns₁ hsb₁=>?_) k.kind)
 dsimp only at hns₁ hsb₁ ⊢
 have hDn:H2 s2.heap.objs.size=none:=I2.hok.fresh (Nat.le_refl _)
 obtain ⟨W,⟨m0,w0⟩,turn⟩:=q.get s2.heap.objs.size hDn
 generalize hHL:s2.heap.push { cls:=.type "list",dict:=none,data:=.seq ([]:List Value).toArray }=HL at hns₁ hsb₁ ⊢
 have hC:HL.objs.size=s2.heap.objs.size+1:=by rw [← hHL,Heap.size_push]
 have old:∀ b o,s2.heap.get? b=some o→h₁.get? b=some o:=fun b o e=>(hsb₁.2 b (by rw [hC];exact Nat.ne_of_lt (Nat.lt_succ_of_lt (Heap.lt_size e)))).trans (Heap.get?_push_of_some _ (hHL▸Heap.get?_push_of_some _ e))
 have hD1:h₁.get? s2.heap.objs.size=some { cls:=.type "list",data:=.seq ([]:List Value).toArray }:=
  (hsb₁.2 _ (by rw [hC];exact Nat.ne_of_lt (Nat.lt_succ_self _))).trans (Heap.get?_push_of_some _ (hHL▸Heap.get?_push_size _ rfl))
 generalize hCC:HL.objs.size=C at hns₁ hsb₁ ⊢
 rw [hCC] at hC
 have bC:∀ b o,s2.heap.get? b=some o→b≠C:=fun b o e=>by rw [hC];exact Nat.ne_of_lt (Nat.lt_succ_of_lt (Heap.lt_size e))
 have stl:∀ b∈frs X.stack,∃ o,s2.heap.get? b=some o:=fun b hb=>by
  obtain ⟨_,o,ho,_⟩:=I2.stack.mem hb
  exact ⟨o,ho⟩
 have fpl:∀ b∈fp,∃ o,s2.heap.get? b=some o∧∀ v,o.data≠.cell v:=fun b hb=>T.obj 0 _ st2 b hb
 have fpstk:∀ b∈fp,b∉frs X.stack:=fun b hb z=>by
  rcases List.mem_cons.mp (I2.stkSub b z) with z | z
  · exact (f2 b hb).2.1 z
  · exact (f2 b hb).2.2.1 z
 let B:=X.blk (x::fr) scope cl C s2 H2 fp
 have okB:B.Ok:=by
  refine ⟨I2.ok.mod,k.kind,I2.ok.glob,I2.ok.blt,(by show s2.heap.objs.size≤C;rw [hC];exact Nat.le_succ _),fun y z c e1 e2=>I2.ok.inj y z c (hcl _ _ e1) (hcl _ _ e2),fun y hy=>k.cl2' y hy,fun y c z=>absurd (show false=true from z) Bool.false_ne_true,
   fun _=>I2.ok.hd k.calm,I2.ok.frames,.inl rfl,fun b hb=>⟨?_,fun y c e=>(f2 b hb).2.2.2.2.1 y c (hcl _ _ e)⟩,I2.bs,Nat.le_trans I2.ok.bsz I2.sz,fun b o e hb=>?_,fun b hb=>fpstk b hb,I2.stack,I2.stkFree⟩
  · obtain ⟨o,e,_⟩:=fpl b hb
    exact bC b o e
  · rcases (f2 b hb).2.2.2.1 with z | z
    · exact I2.ok.noex b o e z
    · exact absurd (Nat.lt_of_lt_of_le (Heap.lt_size (I2.ok.bs b o e).1) z) (Nat.lt_irrefl _)
 have IB:∀ tk,Inv B [] (blkSt ix none σ) (upd H2 s2.heap.objs.size (.lst [])) { s2 with heap:=h₁,toks:=tk }:=fun tk=>by
  refine ⟨okB,rfl,I2.bare,Un.laid old (Nat.le_refl _) hDn,⟨_,hns₁,fun j y v e1 e2 e3=>?_⟩,fun y c e=>?_,?_,fun y c e=>?_,(fun p hp=>nomatch hp),I2.hok.laid old (Nat.le_refl _) ⟨Nat.zero_le _,[],0,.nil,hD1⟩,?_⟩
  · cases j with
    | zero=>cases (show (some none:Option (Option V))=some (some v) from e2)
    | succ j=>
     have e1:fr[j]?=some y:=e1
     have e2:(ix.map fun i=>(σ[i]?).join)[j]?=some (some v):=e2
     have hj:=congrArg (fun l=>l[j]?) k.hix
     simp only [List.getElem?_map,e1] at hj
     rw [List.getElem?_map] at e2
     cases hij:ix[j]? with
     | none=>rw [hij] at e2;cases e2
     | some i=>
      rw [hij] at hj e2
      have hj:X.N[i]?=some y:=Option.some.inj hj
      have e2:(σ[i]?).join=some v:=Option.some.inj e2
      have e2:σ[i]?=some (some v):=by
       cases z:σ[i]? with
       | none=>rw [z] at e2;cases e2
       | some z'=>rw [z] at e2;rw [show z'=some v from e2]
      obtain ⟨m,hn,hl⟩:=I2.loc
      have hk:=k.fr' y (List.mem_of_getElem? e1)
      obtain ⟨u,ru,lk⟩:=hl i y v hj e2 (.inr (.inl hk.1))
      refine ⟨u,ru,.inr ⟨.inl hk.2,?_⟩⟩
      rcases lk with ⟨z,_⟩ | ⟨_,c,ec,⟨oc,hoc,hcd⟩⟩
      · rw [hk.1] at z;cases z
      · obtain ⟨c',ec'⟩:=k.cl2' y (.inl hk.2)
        have:=hcl _ _ ec'
        rw [ec] at this;cases this
        exact ⟨c,ec',oc,old c oc hoc,hcd⟩
  · obtain ⟨v,oc,hoc,hcd⟩:=I2.cell y c (hcl _ _ e)
    exact ⟨v,oc,old c oc hoc,hcd⟩
  · show upd H2 s2.heap.objs.size (.lst []) C=none
    rw [upd_ne (by rw [hC];exact Nat.succ_ne_self _)]
    exact I2.hok.fresh (by rw [hC];exact Nat.le_succ _)
  · obtain ⟨v,oc,hoc,hcd⟩:=I2.cell y c (hcl _ _ e)
    rw [upd_ne (Nat.ne_of_lt (Heap.lt_size hoc))]
    exact I2.freeC y c (hcl _ _ e)
  · show (blkSt ix none σ).length=(x::fr).length
    have:=congrArg List.length k.hix
    simp only [List.length_map] at this
    simp [blkSt,this]
 have st1:∀ tk,tn 0 ({ s2 with heap:=h₁,toks:=tk }:Shared).heap:=fun _=>T.keep 0 _ _ st2 fun b hb o e=>old b o e
 have fB:∀ {H':Hp},(∀ b∈fp,H' b=none)→∀ b∈fp,FpOk B [] H' b:=fun hn b hb=>by
  obtain ⟨o,e,_⟩:=fpl b hb
  exact ⟨hn b hb,bC b o e,fpstk b hb,.inl hb,fun y c ec=>(f2 b hb).2.2.2.2.1 y c (hcl _ _ ec),(fun p hp=>nomatch hp)⟩
 have loop:∀ tk,codeAny (model X.prog X.w) X.A (.compLoop (.ListComp elt [⟨.Name x px,iter,ifs,0⟩] scope pos) 0 (.ref it) (.ref s2.heap.objs.size) (compEnvC scope cl C X.env))
   (compPost (model X.prog X.w) X.A X.xe use Post (.ref s2.heap.objs.size) C) { s2 with heap:=h₁,toks:=tk }:=fun tk=>by
  refine codeAny_loop rfl (fun n s'=>∃ i ys x' H',Inv B [] (blkSt ix x' σ) H' s'∧tn i s'.heap∧(∀ b∈fp,H' b=none)∧W i n ys H') (fun n s3 hI=>?_) m0 ⟨0,[],none,_,IB tk,st1 tk,fun b hb=>?_,w0⟩
  · obtain ⟨i,ys,x',H3,I3,st3,fr3,w3⟩:=hI
    show wpAny _ _ ((compTurn (.ListComp elt [⟨.Name x px,iter,ifs,0⟩] scope pos) 0 (.ref it) (.ref s2.heap.objs.size) (compEnvC scope cl C X.env)).onRaise (fun x=>do noteFrame x (compEnvC scope cl C X.env);theTreesLotGoes x)) _ _ s3
    refine wpAny_noted ?_
    rw [compTurn_list]
    obtain ⟨hD3,alt⟩:=turn i n ys H3 w3
    refine wpAny_bind (wpAny_standAt (wpAny_bind ?_))
    rcases alt with ⟨stop,qn⟩ | ⟨go,hlen,step⟩
    · refine thn (T.done B rfl rfl rfl k.calm i [] s3 _ H3 _ I3 (fB fr3) st3 stop) fun r s4 ⟨hr,I4⟩=>?_
      subst hr
      refine wpAny_pure ?_
      exact fin s2 s4 H2 H3 fp C _ I2 f2 hC bC I4 qn _
    · refine thn (T.item B rfl rfl rfl k.calm i [] s3 _ H3 _ I3 (fB fr3) st3 go) fun r s4 ⟨u,hr,h4⟩=>?_
      subst hr
      refine wpAny_bind (thn h4 fun _ s5 ⟨xv,H5,I5,r5,y5,st5,fr5⟩=>?_)
      have I5':=I5.pinned (fB fr5) (T.obj _ _ st5)
      refine wpAny_bind (wpAny_assign_Name (store_ok (i:=0) (X:=B) I5' k.hN rfl (.inl (lookup_relabel_local k.hx)) r5 (fun s6 I6=>?_) (.inr (lookup_relabel_local k.hx))))
      have I6:Inv B ([]++pinsAt fp s5.heap) (blkSt ix (some xv) σ) H5 s6:=I6
      refine wpAny_bind (wpAny_mono (tests_of hif ⟨C,s2,H2,fp,rfl⟩ I6 (step xv H5 y5)) (fun bb s6' ⟨H6,I6',q6⟩=>?_) fun _ _ z=>False.elim z)
      have kp:∀ {st:St}{H8:Hp}{s8:Shared},Inv B (([]:List (Addr × Obj))++pinsAt fp s5.heap) st H8 s8→tn (i+1) s8.heap∧∀ b∈fp,H8 b=none:=fun I8=>⟨T.keep _ _ _ st5 fun b hb o e=>(I8.pin (b,o) (List.mem_append_right _ (List.mem_append_right _ (mem_pinsAt hb e)))).1,fun b hb=>by
       obtain ⟨o,e,d⟩:=T.obj _ _ st5 b hb
       exact (I8.pin (b,o) (List.mem_append_right _ (List.mem_append_right _ (mem_pinsAt hb e)))).2.1⟩
      cases bb with
      | false=>
       rw [if_neg (by decide)] at q6
       obtain ⟨m',hm,w7⟩:=q6
       exact wpAny_pure ⟨rfl,m',hm,i+1,ys,some xv,_,I6'.unpinned,(kp I6').1,(kp I6').2,w7⟩
      | true=>
       rw [if_pos rfl] at q6
       refine wpAny_bind (wpAny_bind (wpAny_mono (he C s2 H2 fp _ s6' _ H6 _ I6' q6) (fun v s7 ⟨y,H7,I7,r7,hD7,m',hm,w7⟩=>?_) fun _ _ z=>False.elim z))
       refine wpAny_bind (wpAny_mono (mt_append (X:=B) _ s7 _ H7 (.ref s2.heap.objs.size) [y] (.ref s2.heap.objs.size) [v] (fun _ H8=>H8=upd H7 s2.heap.objs.size (.lst (ys++[y]))) I7 rfl (.cons r7 .nil) ⟨_,ys,y,rfl,rfl,hD7,hlen,rfl⟩)
        (fun _ s8 ⟨_,H8,I8,_,e8⟩=>?_) fun _ _ z=>False.elim z)
       subst e8
       exact wpAny_pure (wpAny_pure ⟨rfl,m',hm,i+1,ys++[y],some xv,_,I8.unpinned,(kp I8).1,(kp I8).2,w7⟩)
  · obtain ⟨o,e,_⟩:=fpl b hb
    rw [upd_ne (Nat.ne_of_lt (Heap.lt_size e))]
    exact (f2 b hb).1
 exact codeAny_compStart_list (loop _) (T.self _ 0 _ _ _ (st1 _) (loop _))
theorem comp_true {J:It}{σ:St}{H:Hp}{Q:VK} (h:Wr (rComp J ix te σ H Q)):Wr (rCompIf J ix (fun _ H Q=>Q true H) te σ H Q):=⟨fun D hD=>by
 obtain ⟨W,w0,turn⟩:=h.get D hD
 refine ⟨W,w0,fun i m ys H2 w=>?_⟩
 obtain ⟨a,b | ⟨c,d,e⟩⟩:=turn i m ys H2 w
 · exact ⟨a,.inl b⟩
 · exact ⟨a,.inr ⟨c,d,fun x H' y=>by
   show (if true=true then _ else _)
   rw [if_pos rfl];exact e x H' y⟩⟩⟩
theorem pe_gen (k:CompB X scope cl x fr ix iter) (hi:PI X (.Name x px) iter wi) (hcl:∀ y c,cl.lookup y=some c→X.env.cells.lookup y=some c)
  (he:∀ C s H fp,PE (X.blk (x::fr) scope cl C s H fp) elt te) (hif:OneIf (fun Y=>∃ C s H fp,Y=X.blk (x::fr) scope cl C s H fp) ifs tt)
  {RR:St→VK→It→Hp→Prop} (hR:∀ σ Q J H1,RR σ Q J H1→Wr (rCompIf J ix tt te σ H1 Q)):PE X (.ListComp elt [⟨.Name x px,iter,ifs,0⟩] scope pos) (fun σ H Q=>wi σ H (RR σ Q)):=by
 intro pins s σ H Q I h
 rw [eval_ListComp]
 refine lcomp_gen k hi hcl he hif I h (hR σ Q) fun s2 s4 H2 H3 fp C x' I2 f2 hC bC I4 qn _=>?_
 obtain ⟨m4,hn4,_⟩:=I4.loc
 refine ⟨m4,hn4,fun h' sb=>?_⟩
 have un:Un (frs X.stack) fp H2 H3 s2.heap h':=by
  have u:=I4.base
  refine ⟨fun b o e n hb hx=>(sb.2 b (bC b o e)).trans (u.keep b o e n hb hx),fun b o e n hb hx=>?_,u.free,fun b o e hx=>?_,u.tups,u.frzs,u.tbls⟩
  · obtain ⟨sl,e1⟩:=u.slot b o e n hb hx
    exact ⟨sl,(sb.2 b (bC b o e)).trans e1⟩
  · obtain ⟨o',e1⟩:=u.there b o e hx
    exact ⟨o',(sb.2 b (bC b o e)).trans e1⟩
 exact ⟨.ref s2.heap.objs.size,H3,I2.call' (s':={ s4 with heap:=h' }) (ch:=fp) I4.os un (I4.hok.sameBut I4.free sb) I4.bare (fun b hb=>⟨(f2 b hb).2.2.2.1,(f2 b hb).2.1,(f2 b hb).2.2.2.2⟩),rfl,qn⟩
theorem one_nil {B:Cx→Prop}:OneIf B [] (fun _ H Q=>Q true H):=.inl ⟨rfl,rfl⟩
theorem pe_compW (fr:List Str) (ix:List Nat) (hi:PI X (.Name x px) iter wi) (he:∀ C s H fp,PE (X.blk (x::fr) scope cl C s H fp) elt te) (hcl:∀ y c,cl.lookup y=some c→X.env.cells.lookup y=some c)
  (k:CompB X scope cl x fr ix iter:=by exact ⟨rfl,rfl,rfl,rfl,rfl,rfl,by decide+kernel,rfl,rfl,rfl,fun _=>rfl⟩):
  PE X (.ListComp elt [⟨.Name x px,iter,[],0⟩] scope pos) (tCompW wi ix te):=pe_gen k hi hcl he one_nil fun _ _ _ _ h=>comp_true h
end
section
variable {X:Cx}
theorem pe_lcompC {x:Str}{px pos:Pos}{elt iter:Expr}{scope:Scope}{cl:List (Str × Addr)}{fr:List Str}{ix:List Nat}{wi:TI}{te:TE}
  (hc:X.calm=true) (hi:PI X (.Name x px) iter wi)
  (hclos:closureFor scope X.env=pure cl) (hkind:scope.kind=.function) (hcells:∀ n,cellsFrom n scope.names cl=(x,n)::cl) (hpush:∀ h:Heap,pushCells h scope.names=h.push { cls:=.type "cell",data:=.cell none }) (hxcl:cl.lookup x=none)
  (hnames:∀ y∈scope.names,y.2=.local→scope.names.lookup y.1=some .local) (hx:(relabel scope X.env).names.lookup x=some .cell)
  (hN:(x::fr).Nodup) (hix:ix.map (fun i=>X.N[i]?)=fr.map some)
  (hfr:∀ y∈fr,X.env.kindOf y=some .cell∧(relabel scope X.env).names.lookup y=some .cell)
  (hcl:∀ y c,cl.lookup y=some c→X.env.cells.lookup y=some c)
  (hcl2:∀ y,((relabel scope X.env).names.lookup y=some .cell∨(relabel scope X.env).names.lookup y=some .free)→y=x∨∃ c,cl.lookup y=some c)
  (he:∀ C s H fp,PE (X.blkC (x::fr) scope cl x C s H fp) elt te)
  (hs:∀ x,foldedSetIterable iter X.env x=pure x:=by intro _;rfl):
  PE X (.ListComp elt [⟨.Name x px,iter,[],0⟩] scope pos) (tCompW wi ix te):=by
 intro pins s σ H Q I h
 rw [eval_ListComp]
 refine wpAny_comprehension_free (use:=none) rfl hs hclos hkind hnames (thn (hi pins s σ H _ I h) fun xv s1 h1=>thn h1 fun itv s2 h2=>?_)
 obtain ⟨it,fp,tn,J,H2,e,I2,T,st2,f2,q⟩:=h2
 subst e
 refine wpAny_newObj_type (nfe_cells ?_)
 rw [hcells,hpush]
 have hDn:H2 s2.heap.objs.size=none:=I2.hok.fresh (Nat.le_refl _)
 obtain ⟨W,⟨m0,w0⟩,turn⟩:=q.get s2.heap.objs.size hDn
 generalize hHL:s2.heap.push { cls:=.type "list",dict:=none,data:=.seq ([]:List Value).toArray }=HL
 have hC:HL.objs.size=s2.heap.objs.size+1:=by rw [← hHL,Heap.size_push]
 have hns₁:((HL.push { cls:=.type "dict",data:=.dict #[] }).push { cls:=.type "cell",data:=.cell none }).Ns HL.objs.size (fun _=>none):=(Heap.Ns.new HL (.type "dict")).keeps fun b o e=>Heap.get?_push_of_some _ e
 have hcl₁:((HL.push { cls:=.type "dict",data:=.dict #[] }).push { cls:=.type "cell",data:=.cell none }).get? (HL.objs.size+1)=some { cls:=.type "cell",data:=.cell none }:=by
  rw [← Heap.size_push HL { cls:=.type "dict",data:=.dict #[] }];exact Heap.get?_push_size _ rfl
 have old:∀ b o,s2.heap.get? b=some o→((HL.push { cls:=.type "dict",data:=.dict #[] }).push { cls:=.type "cell",data:=.cell none }).get? b=some o:=fun b o e=>Heap.get?_push_of_some _ (Heap.get?_push_of_some _ (hHL▸Heap.get?_push_of_some _ e))
 have hD1:((HL.push { cls:=.type "dict",data:=.dict #[] }).push { cls:=.type "cell",data:=.cell none }).get? s2.heap.objs.size=some { cls:=.type "list",data:=.seq ([]:List Value).toArray }:=
  Heap.get?_push_of_some _ (Heap.get?_push_of_some _ (hHL▸Heap.get?_push_size _ rfl))
 generalize hH1:((HL.push { cls:=.type "dict",data:=.dict #[] }).push { cls:=.type "cell",data:=.cell none })=h₁ at hns₁ hcl₁ old hD1
 show codeAny _ _ (.compStart _ 0 _ _ (compEnvC scope ((x,HL.objs.size+1)::cl) HL.objs.size X.env)) (compPost _ _ _ none _ _ HL.objs.size) { s2 with heap:=h₁ }
 generalize hCC:HL.objs.size=C at hns₁ hcl₁ ⊢
 rw [hCC] at hC
 have bC:∀ b o,s2.heap.get? b=some o→b≠C:=fun b o e=>by rw [hC];exact Nat.ne_of_lt (Nat.lt_succ_of_lt (Heap.lt_size e))
 have bCC:∀ b o,s2.heap.get? b=some o→C+1≠b:=fun b o e=>Nat.ne_of_gt (Nat.lt_trans (Heap.lt_size e) (by rw [hC];exact Nat.lt_succ_of_lt (Nat.lt_succ_self _)))
 have lkc:∀ y c,((x,C+1)::cl).lookup y=some c→(y=x∧c=C+1)∨(y≠x∧cl.lookup y=some c):=fun y c e=>by
  rw [List.lookup_cons] at e
  cases z:y == x with
  | true=>rw [z] at e;exact .inl ⟨eq_of_beq z,(Option.some.inj e).symm⟩
  | false=>rw [z] at e;exact .inr ⟨fun q=>by rw [q] at z;simp at z,e⟩
 have lkx:((x,C+1)::cl).lookup x=some (C+1):=by rw [List.lookup_cons];simp
 have lko:∀ y c,cl.lookup y=some c→((x,C+1)::cl).lookup y=some c:=fun y c e=>by
  rw [List.lookup_cons]
  cases z:y == x with
  | true=>rw [eq_of_beq z,hxcl] at e;cases e
  | false=>exact e
 have oldc:∀ y c,cl.lookup y=some c→C+1≠c:=fun y c e=>by
  obtain ⟨v,oc,hoc,_⟩:=I2.cell y c (hcl _ _ e)
  exact bCC c oc hoc
 have stl:∀ b∈frs X.stack,∃ o,s2.heap.get? b=some o:=fun b hb=>by
  obtain ⟨_,o,ho,_⟩:=I2.stack.mem hb
  exact ⟨o,ho⟩
 have fpl:∀ b∈fp,∃ o,s2.heap.get? b=some o∧∀ v,o.data≠.cell v:=fun b hb=>T.obj 0 _ st2 b hb
 have fpstk:∀ b∈fp,b∉frs X.stack:=fun b hb z=>by
  rcases List.mem_cons.mp (I2.stkSub b z) with z | z
  · exact (f2 b hb).2.1 z
  · exact (f2 b hb).2.2.1 z
 let B:=X.blkC (x::fr) scope cl x C s2 H2 fp
 have okB:B.Ok:=by
  refine ⟨I2.ok.mod,hkind,I2.ok.glob,I2.ok.blt,(by show s2.heap.objs.size≤C;rw [hC];exact Nat.le_succ _),fun y z c e1 e2=>?inj,fun y hy=>?has,fun y c z e=>?cab,
   fun _=>I2.ok.hd hc,I2.ok.frames,.inl rfl,fun b hb=>⟨?fb,fun y c e=>?fc⟩,I2.bs,Nat.le_trans I2.ok.bsz I2.sz,fun b o e hb=>?bs,fun b hb=>fpstk b hb,I2.stack,I2.stkFree⟩
  case inj=>
   rcases lkc _ _ e1 with ⟨q1,q2⟩ | ⟨q1,q2⟩ <;> rcases lkc _ _ e2 with ⟨q3,q4⟩ | ⟨q3,q4⟩
   · rw [q1,q3]
   · exact absurd q2.symm (oldc _ _ q4)
   · exact absurd q4.symm (oldc _ _ q2)
   · exact I2.ok.inj y z c (hcl _ _ q2) (hcl _ _ q4)
  case has=>
   rcases hcl2 y hy with q | ⟨c,q⟩
   · rw [q];exact ⟨_,lkx⟩
   · exact ⟨c,lko _ _ q⟩
  case cab=>
   rcases lkc _ _ e with ⟨q1,q2⟩ | ⟨q1,q2⟩
   · rw [q2];show s2.heap.objs.size≤C+1;rw [hC];exact Nat.le_succ_of_le (Nat.le_succ _)
   · exact absurd (eq_of_beq z) q1
  case fb=>
   obtain ⟨o,e,_⟩:=fpl b hb
   exact bC b o e
  case fc=>
   rcases lkc _ _ e with ⟨q1,q2⟩ | ⟨q1,q2⟩
   · obtain ⟨o,e,_⟩:=fpl b hb
     rw [q2];exact bCC b o e
   · exact (f2 b hb).2.2.2.2.1 y c (hcl _ _ q2)
  case bs=>
   rcases (f2 b hb).2.2.2.1 with z | z
   · exact I2.ok.noex b o e z
   · exact absurd (Nat.lt_of_lt_of_le (Heap.lt_size (I2.ok.bs b o e).1) z) (Nat.lt_irrefl _)
 have IB:∀ tk,Inv B [] (blkSt ix none σ) (upd H2 s2.heap.objs.size (.lst [])) { s2 with heap:=h₁,toks:=tk }:=fun tk=>by
  refine ⟨okB,rfl,I2.bare,Un.laid old (Nat.le_refl _) hDn,⟨_,hns₁,fun j y v e1 e2 e3=>?_⟩,fun y c e=>?_,?_,fun y c e=>?_,(fun p hp=>nomatch hp),I2.hok.laid old (Nat.le_refl _) ⟨Nat.zero_le _,[],0,.nil,hD1⟩,?_⟩
  · cases j with
    | zero=>cases (show (some none:Option (Option V))=some (some v) from e2)
    | succ j=>
     have e1:fr[j]?=some y:=e1
     have e2:(ix.map fun i=>(σ[i]?).join)[j]?=some (some v):=e2
     have hj:=congrArg (fun l=>l[j]?) hix
     simp only [List.getElem?_map,e1] at hj
     rw [List.getElem?_map] at e2
     cases hij:ix[j]? with
     | none=>rw [hij] at e2;cases e2
     | some i=>
      rw [hij] at hj e2
      have hj:X.N[i]?=some y:=Option.some.inj hj
      have e2:(σ[i]?).join=some v:=Option.some.inj e2
      have e2:σ[i]?=some (some v):=by
       cases z:σ[i]? with
       | none=>rw [z] at e2;cases e2
       | some z'=>rw [z] at e2;rw [show z'=some v from e2]
      obtain ⟨m,hn,hl⟩:=I2.loc
      have hk:=hfr y (List.mem_of_getElem? e1)
      obtain ⟨u,ru,lk⟩:=hl i y v hj e2 (.inr (.inl hk.1))
      refine ⟨u,ru,.inr ⟨.inl hk.2,?_⟩⟩
      rcases lk with ⟨z,_⟩ | ⟨_,c,ec,⟨oc,hoc,hcd⟩⟩
      · rw [hk.1] at z;cases z
      · rcases hcl2 y (.inl hk.2) with q | ⟨c',ec'⟩
        · rw [q] at e1
          exact absurd (List.mem_of_getElem? e1) (List.nodup_cons.mp hN).1
        · have:=hcl _ _ ec'
          rw [ec] at this;cases this
          exact ⟨c,lko _ _ ec',oc,old c oc hoc,hcd⟩
  · rcases lkc _ _ e with ⟨q1,q2⟩ | ⟨q1,q2⟩
    · rw [q2];exact ⟨_,_,hcl₁,rfl⟩
    · obtain ⟨v,oc,hoc,hcd⟩:=I2.cell y c (hcl _ _ q2)
      exact ⟨v,oc,old c oc hoc,hcd⟩
  · show upd H2 s2.heap.objs.size (.lst []) C=none
    rw [upd_ne (by rw [hC];exact Nat.succ_ne_self _)]
    exact I2.hok.fresh (by rw [hC];exact Nat.le_succ _)
  · rcases lkc _ _ e with ⟨q1,q2⟩ | ⟨q1,q2⟩
    · rw [q2,upd_ne (by rw [hC];exact Nat.ne_of_gt (Nat.lt_succ_of_lt (Nat.lt_succ_self _)))]
      exact I2.hok.fresh (by rw [hC];exact Nat.le_succ_of_le (Nat.le_succ _))
    · obtain ⟨v,oc,hoc,hcd⟩:=I2.cell y c (hcl _ _ q2)
      rw [upd_ne (Nat.ne_of_lt (Heap.lt_size hoc))]
      exact I2.freeC y c (hcl _ _ q2)
  · show (blkSt ix none σ).length=(x::fr).length
    have:=congrArg List.length hix
    simp only [List.length_map] at this
    simp [blkSt,this]
 have st1:∀ tk,tn 0 ({ s2 with heap:=h₁,toks:=tk }:Shared).heap:=fun _=>T.keep 0 _ _ st2 fun b hb o e=>old b o e
 have fB:∀ {H':Hp},(∀ b∈fp,H' b=none)→∀ b∈fp,FpOk B [] H' b:=fun hn b hb=>by
  obtain ⟨o,e,_⟩:=fpl b hb
  refine ⟨hn b hb,bC b o e,fpstk b hb,.inl hb,fun y c ec=>?_,(fun p hp=>nomatch hp)⟩
  rcases lkc _ _ ec with ⟨q1,q2⟩ | ⟨q1,q2⟩
  · rw [q2];exact bCC b o e
  · exact (f2 b hb).2.2.2.2.1 y c (hcl _ _ q2)
 have loop:∀ tk,codeAny (model X.prog X.w) X.A (.compLoop (.ListComp elt [⟨.Name x px,iter,[],0⟩] scope pos) 0 (.ref it) (.ref s2.heap.objs.size) (compEnvC scope ((x,C+1)::cl) C X.env))
   (compPost (model X.prog X.w) X.A X.xe none (EP X pins σ Q) (.ref s2.heap.objs.size) C) { s2 with heap:=h₁,toks:=tk }:=fun tk=>by
  refine codeAny_loop rfl (fun n s'=>∃ i ys x' H',Inv B [] (blkSt ix x' σ) H' s'∧tn i s'.heap∧(∀ b∈fp,H' b=none)∧W i n ys H') (fun n s3 hI=>?_) m0 ⟨0,[],none,_,IB tk,st1 tk,fun b hb=>?_,w0⟩
  · obtain ⟨i,ys,x',H3,I3,st3,fr3,w3⟩:=hI
    show wpAny _ _ ((compTurn (.ListComp elt [⟨.Name x px,iter,[],0⟩] scope pos) 0 (.ref it) (.ref s2.heap.objs.size) (compEnvC scope ((x,C+1)::cl) C X.env)).onRaise (fun zz=>do noteFrame zz (compEnvC scope ((x,C+1)::cl) C X.env);theTreesLotGoes zz)) _ _ s3
    refine wpAny_noted ?_
    rw [compTurn_list1]
    obtain ⟨hD3,alt⟩:=turn i n ys H3 w3
    refine wpAny_bind (wpAny_standAt (wpAny_bind ?_))
    rcases alt with ⟨stop,qn⟩ | ⟨go,hlen,step⟩
    · refine thn (T.done B rfl rfl rfl hc i [] s3 _ H3 _ I3 (fB fr3) st3 stop) fun r s4 ⟨hr,I4⟩=>?_
      subst hr
      refine wpAny_pure ?_
      obtain ⟨m4,hn4,_⟩:=I4.loc
      refine ⟨m4,hn4,fun h' sb=>?_⟩
      have un:Un (frs X.stack) fp H2 H3 s2.heap h':=by
       have u:=I4.base
       refine ⟨fun b o e n hb hx=>(sb.2 b (bC b o e)).trans (u.keep b o e n hb hx),fun b o e n hb hx=>?_,u.free,fun b o e hx=>?_,u.tups,u.frzs,u.tbls⟩
       · obtain ⟨sl,e1⟩:=u.slot b o e n hb hx
         exact ⟨sl,(sb.2 b (bC b o e)).trans e1⟩
       · obtain ⟨o',e1⟩:=u.there b o e hx
         exact ⟨o',(sb.2 b (bC b o e)).trans e1⟩
      refine ⟨.ref s2.heap.objs.size,H3,I2.call' (s':={ s4 with heap:=h' }) (ch:=fp) I4.os un (I4.hok.sameBut I4.free sb) I4.bare (fun b hb=>⟨(f2 b hb).2.2.2.1,(f2 b hb).2.1,(f2 b hb).2.2.2.2⟩),rfl,qn⟩
    · refine thn (T.item B rfl rfl rfl hc i [] s3 _ H3 _ I3 (fB fr3) st3 go) fun r s4 ⟨u,hr,h4⟩=>?_
      subst hr
      refine wpAny_bind (thn h4 fun _ s5 ⟨xv,H5,I5,r5,y5,st5,fr5⟩=>?_)
      have I5':=I5.pinned (fB fr5) (T.obj _ _ st5)
      refine wpAny_bind (wpAny_assign_Name (store_ok (i:=0) (X:=B) I5' hN rfl (.inr hx) r5 (fun s6 I6=>?_) (.inl (beq_self_eq_true x))))
      have I6:Inv B ([]++pinsAt fp s5.heap) (blkSt ix (some xv) σ) H5 s6:=I6
      refine wpAny_bind (wpAny_bind (wpAny_mono (he C s2 H2 fp _ s6 _ H5 _ I6 (step xv H5 y5)) (fun v s7 ⟨y,H7,I7,r7,hD7,m',hm,w7⟩=>?_) fun _ _ z=>False.elim z))
      refine wpAny_bind (wpAny_mono (mt_append (X:=B) _ s7 _ H7 (.ref s2.heap.objs.size) [y] (.ref s2.heap.objs.size) [v] (fun _ H8=>H8=upd H7 s2.heap.objs.size (.lst (ys++[y]))) I7 rfl (.cons r7 .nil) ⟨_,ys,y,rfl,rfl,hD7,hlen,rfl⟩)
       (fun _ s8 ⟨_,H8,I8,_,e8⟩=>?_) fun _ _ z=>False.elim z)
      subst e8
      refine wpAny_pure (wpAny_pure ⟨rfl,m',hm,i+1,ys++[y],some xv,_,I8.unpinned,T.keep _ _ _ st5 fun b hb o e=>(I8.pin (b,o) (List.mem_append_right _ (List.mem_append_right _ (mem_pinsAt hb e)))).1,fun b hb=>?_,w7⟩)
      obtain ⟨o,e,d⟩:=T.obj _ _ st5 b hb
      exact (I8.pin (b,o) (List.mem_append_right _ (List.mem_append_right _ (mem_pinsAt hb e)))).2.1
  · obtain ⟨o,e,_⟩:=fpl b hb
    rw [upd_ne (Nat.ne_of_lt (Heap.lt_size e))]
    exact (f2 b hb).1
 exact codeAny_compStart_list (loop _) (T.self _ 0 _ _ _ (st1 _) (loop _))
end
section
variable {X:Cx}{e:Expr}{te:TE}{pos:Pos}
theorem pe_compC {x:Str}{px:Pos}{elt iter:Expr}{scope:Scope}{cl:List (Str × Addr)}{wi:TI} (fr:List Str) (ix:List Nat)
  (hi:PI X (.Name x px) iter wi) (he:∀ C s H fp,PE (X.blkC (x::fr) scope cl x C s H fp) elt te)
  (hcl:∀ y c,cl.lookup y=some c→X.env.cells.lookup y=some c)
  (hclos:closureFor scope X.env=pure cl:=by rfl) (hc:X.calm=true:=by rfl) (hkind:scope.kind=.function:=by rfl) (hcells:∀ n,cellsFrom n scope.names cl=(x,n)::cl:=by intro _;rfl)
  (hpush:∀ h:Heap,pushCells h scope.names=h.push { cls:=.type "cell",data:=.cell none }:=by intro _;rfl) (hxcl:cl.lookup x=none:=by rfl)
  (hnames:(scope.names.all fun p=>p.2 != .local || scope.names.lookup p.1 == some .local)=true:=by rfl) (hx:(relabel scope X.env).names.lookup x=some .cell:=by rfl)
  (hN:(x::fr).Nodup:=by decide+kernel) (hix:ix.map (fun i=>X.N[i]?)=fr.map some:=by rfl)
  (hfr:(fr.all fun y=>X.env.kindOf y == some .cell && (relabel scope X.env).names.lookup y == some .cell)=true:=by rfl)
  (hcl2:((relabel scope X.env).names.all fun p=>(p.2 != .cell && p.2 != .free) || (p.1 == x || (cl.lookup p.1).isSome))=true:=by rfl)
  (hs:∀ x,foldedSetIterable iter X.env x=pure x:=by intro _;rfl):
  PE X (.ListComp elt [⟨.Name x px,iter,[],0⟩] scope pos) (tCompW wi ix te):=by
 refine pe_lcompC hc hi hclos hkind hcells hpush hxcl (fun y hy e=>?_) hx hN hix (fun y hy=>?_) hcl (fun y hy=>?_) he hs
 · have:=List.all_eq_true.mp hnames y hy
   rw [e] at this
   simpa using this
 · have:=List.all_eq_true.mp hfr y hy
   rw [Bool.and_eq_true] at this
   exact ⟨eq_of_beq this.1,eq_of_beq this.2⟩
 · have:∃ k,(relabel scope X.env).names.lookup y=some k∧(k=.cell∨k=.free):=by
     rcases hy with h | h
     · exact ⟨_,h,.inl rfl⟩
     · exact ⟨_,h,.inr rfl⟩
   obtain ⟨k,e,hk⟩:=this
   have:=List.all_eq_true.mp hcl2 (y,k) (PySem.mem_of_lookup e)
   have h2:(y == x || (cl.lookup y).isSome)=true:=by
    rcases hk with rfl | rfl <;> simpa using this
   rcases Bool.or_eq_true _ _ |>.mp h2 with h | h
   · exact .inl (eq_of_beq h)
   · exact .inr (Option.isSome_iff_exists.mp h)
theorem comp_list {K:PySem.W.Frag}{a:Addr}{xs:List V}{ix:List Nat}{te:TE}{σ:St}{H:Hp}{Q:VK}
  (h:∀ D,H D=none→∃ Pv:Nat→List V→Hp→Prop,Pv 0 [] (upd H D (.lst []))∧(∀ i ys H2,i≤xs.length→Pv i ys H2→SqL K H2 a xs∧H2 D=some (.lst ys)∧ys.length < sizeLine)∧
   (∀ i x ys H2,xs[i]?=some x→Pv i ys H2→∀ Q':VK,(∀ y H3,H3 D=some (.lst ys)→Pv (i+1) (ys++[y]) (upd H3 D (.lst (ys++[y])))→Q' y H3)→te (blkSt ix (some x) σ) H2 Q')∧∀ ys H2,Pv xs.length ys H2→Q (.ref D) H2):
  Wr (rComp (Itl K a) ix te σ H Q):=by
 refine ⟨fun D hD=>?_⟩
 obtain ⟨Pv,p0,pl,ps,pq⟩:=h D hD
 refine ⟨fun i m ys H2=>m=xs.length - i∧i≤xs.length∧Pv i ys H2,⟨xs.length,by simp,Nat.zero_le _,p0⟩,?_⟩
 rintro i m ys H2 ⟨rfl,hi,p⟩
 obtain ⟨e0,e1,e2⟩:=pl i ys H2 hi p
 refine ⟨e1,?_⟩
 by_cases hlt:i < xs.length
 · refine .inr ⟨⟨_,xs[i],e0,by simp [hlt]⟩,e2,fun x H' y=>?_⟩
   obtain ⟨e,y⟩:=y
   subst e
   exact ps i x ys _ (y _ e0) p _ fun y H3 e3 p3=>⟨e3,xs.length - (i+1),by omega,rfl,hlt,p3⟩
 · have e:i=xs.length:=by omega
   subst e
   exact .inl ⟨⟨_,e0,Nat.le_refl _⟩,pq ys H2 p⟩
end
theorem comp_intsW {K:PySem.W.Frag}{a:Addr}{ns:List Int}{ix:List Nat}{te:TE}{σ:St}{H:Hp}{Q:VK} (f:Int→Int) (hq:SqL K H a (ns.map V.int)) (hl:ns.length < sizeLine)
  (he:∀ z∈ns,∀ (H':Hp) (Q':VK),Q' (.int (f z)) H'→te (blkSt ix (some (.int z)) σ) H' Q') (h:∀ D,H D=none→Q (.ref D) (upd H D (.lst ((ns.map f).map V.int)))):Wr (rComp (Itl K a) ix te σ H Q):=
 ⟨fun D hD=>comp_ints f hq hl he h D hD⟩
section
variable {X:Cx}{x:Str}{px pos:Pos}{elt iter:Expr}{scope:Scope}{cl:List (Str × Addr)}{fr:List Str}{ix:List Nat}{wi:TI}{te:TE}{tt:TT}{ifs:List Expr}
variable {nmT:Str}{py spos:Pos}{kT:Nat}
theorem ps_gen (k:CompB X scope cl x fr ix iter) (hi:PI X (.Name x px) iter wi) (hcl:∀ y c,cl.lookup y=some c→X.env.cells.lookup y=some c)
  (he:∀ C s H fp,PE (X.blk (x::fr) scope cl C s H fp) elt te) (hif:OneIf (fun Y=>∃ C s H fp,Y=X.blk (x::fr) scope cl C s H fp) ifs tt) (hNX:X.N.Nodup) (hkT:X.N[kT]?=some nmT) (hyT:Loc X.env.scope nmT)
  (hsw:swapsWith (.ListComp elt [⟨.Name x px,iter,ifs,0⟩] scope pos) (some (.Name nmT py)) spos.line X.env=pure true) (hf:X.fn nmT=true∨X.env.scope.names.lookup nmT=some .local)
  {RR:St→VK→It→Hp→Prop} (hR:∀ σ Q J H1,RR σ Q J H1→Wr (rCompIf J ix tt te σ H1 Q)):
  PS X (.Assign [.Name nmT py] (.ListComp elt [⟨.Name x px,iter,ifs,0⟩] scope pos) spos) (tAsg (fun σ H Q=>wi σ H (RR σ Q)) (gName kT)):=by
 intro pins s σ H DE I h
 have h:wi σ H (RR σ (fun x H1=>DE.nx (σ.set kT (some x)) H1)):=h
 rw [exec_Assign_Name_used _ _ _ _ hsw]
 refine wpAny_bind (wpAny_standAt (wpAny_bind ?_))
 show wpAny _ X.A (do let _ ← comprehension (.ListComp elt [⟨.Name x px,iter,ifs,0⟩] scope pos) scope X.env _ (newList []) false (eval iter X.env) (some (assign (.Name nmT py) X.env))) _ _ s
 refine wpAny_bind (wpAny_mono (lcomp_gen (use:=some (assign (.Name nmT py) X.env)) (Post:=fun _ s'=>SP X pins DE .next s') k hi hcl he hif I h (hR σ _) fun s2 s4 H2 H3 fp C x' I2 f2 hC bC I4 qn _=>?_) (fun _ s' hq=>wpAny_pure (wpAny_pure hq)) fun _ _ e=>e)
 obtain ⟨m4,hn4,_⟩:=I4.loc
 have IX:Inv X pins σ H3 s4:=I2.call' (s':=s4) (ch:=fp) I4.os I4.base I4.hok I4.bare (fun b hb=>⟨(f2 b hb).2.2.2.1,(f2 b hb).2.1,(f2 b hb).2.2.2.2⟩)
 have hCL:C≠X.env.locals:=by
  obtain ⟨mL,hnL,_⟩:=I2.loc
  rw [hC]
  exact Nat.ne_of_gt (Nat.lt_succ_of_lt hnL.lt)
 show wpAny _ _ (assign (.Name nmT py) X.env (.ref s2.heap.objs.size)) _ _ s4
 refine wpAny_assign_Name (store_ok2 (v:=.ref s2.heap.objs.size) IX hNX hkT hyT rfl (fun s5 I5 ⟨a5,sb5,ha5⟩=>?_) hf)
 have nCa:C≠a5:=by
  rcases ha5 with rfl | ha5
  · exact hCL
  · obtain ⟨v,oc,hoc,_⟩:=I2.cell _ _ ha5
    exact (bC _ _ hoc).symm
 refine ⟨m4,hn4.sameBut sb5 nCa,fun h' sb=>⟨σ.set kT (some (.ref s2.heap.objs.size)),H3,?_,qn⟩⟩
 refine I5.call' (s':={ s5 with heap:=h' }) (ch:=[C]) rfl ⟨fun b o e n hb hx=>(sb.2 b (fun z=>hx (z▸List.mem_singleton_self _))).trans e,fun b o e n hb hx=>⟨o.slots,(sb.2 b (fun z=>hx (z▸List.mem_singleton_self _))).trans e⟩,fun b o e n hx=>n,fun b o e hx=>⟨o,(sb.2 b (fun z=>hx (z▸List.mem_singleton_self _))).trans e⟩,fun b xs e=>e,fun b o u e=>e,fun b ps e=>⟨#[],by rw [Array.append_empty];exact e⟩⟩ (I5.hok.sameBut I4.free sb) I5.bare fun b hb=>?_
 rw [List.mem_singleton.mp hb]
 refine ⟨.inr (Nat.le_trans I2.sz (by rw [hC];exact Nat.le_succ _)),hCL,fun x c e=>?_,fun p hp=>?_⟩
 · obtain ⟨v,oc,hoc,_⟩:=I2.cell x c e
   exact bC _ _ hoc
 · exact bC _ _ (I2.pin p hp).1
theorem ps_compW (kT:Nat) (fr:List Str) (ix:List Nat) (hNX:X.N.Nodup) (hi:PI X (.Name x px) iter wi) (he:∀ C s H fp,PE (X.blk (x::fr) scope cl C s H fp) elt te) (hcl:∀ y c,cl.lookup y=some c→X.env.cells.lookup y=some c)
  (hkT:X.N[kT]?=some nmT:=by rfl) (hyT:Loc X.env.scope nmT:=by first | exact .inl rfl | exact .inr rfl)
  (k:CompB X scope cl x fr ix iter:=by exact ⟨rfl,rfl,rfl,rfl,rfl,rfl,by decide+kernel,rfl,rfl,rfl,fun _=>rfl⟩)
  (hsw:swapsWith (.ListComp elt [⟨.Name x px,iter,[],0⟩] scope pos) (some (.Name nmT py)) spos.line X.env=pure true:=by rfl) (hf:X.fn nmT=true∨X.env.scope.names.lookup nmT=some .local:=by first | exact .inl rfl | exact .inr rfl | assumption):
  PS X (.Assign [.Name nmT py] (.ListComp elt [⟨.Name x px,iter,[],0⟩] scope pos) spos) (tAsg (tCompW wi ix te) (gName kT)):=ps_gen k hi hcl he one_nil hNX hkT hyT hsw hf fun _ _ _ _ h=>comp_true h
end
section
variable {X:Cx}{l o:Expr}{tl ta:TE}{tg:Expr}{f:Str}{pos:Pos} (K:PySem.W.Frag)
theorem ixl (e:X.K=K):IxR X (wr2 (rIxL K)):=by subst e;exact ix_l
theorem pil (e:X.K=K) (hl:PE X l tl):PI X tg l (iList K tl):=by subst e;exact pi_list hl
theorem listK (e:X.K=K):CallR X (.type "list") (fun xs H Q=>Wr (rList K xs H Q)):=by subst e;exact call_listR
end
end L2
namespace My
open PySem L2
def oV:Option Int→V
 | none=>.non
 | some n=>.int n
abbrev Tab:=List (List (Option Int))
abbrev Row (H:Hp) (a:Addr) (r:List (Option Int)):Prop:=H a=some (.lst (r.map oV))
structure Tb (H:Hp) (t:Addr) (as:List Addr) (T:Tab):Prop where
 is:H t=some (.lst (as.map V.ref))
 len:as.length=T.length
 rw:∀ (i:Nat) a r,as[i]?=some a→T[i]?=some r→Row H a r
def cell (T:Tab) (c j:Nat):Option Int:=(T.getD c []).getD j none
theorem Tb.on {H H':Hp}{t:Addr}{as:List Addr}{T:Tab} (h:Tb H t as T) (k:∀ a∈t::as,∀ o,H a=some o→H' a=some o):Tb H' t as T:=
 ⟨k t (List.mem_cons_self ..) _ h.is,h.len,fun i a r e1 e2=>k a (List.mem_cons_of_mem _ (List.mem_of_getElem? e1)) _ (h.rw i a r e1 e2)⟩
theorem Tb.same {H H':Hp}{t:Addr}{as:List Addr}{T:Tab} (h:Tb H t as T) (s:Same H H'):Tb H' t as T:=h.on fun a _ o e=>s a o e
theorem Tb.at {H:Hp}{t:Addr}{as:List Addr}{T:Tab} (h:Tb H t as T) {i:Nat} (hi:i < T.length):∃ a,as[i]?=some a∧a∈as∧T[i]?=some (T.getD i [])∧Row H a (T.getD i []):=by
 have h1:i < as.length:=by rw [h.len];exact hi
 have e:T[i]?=some (T.getD i []):=by simp [List.getD,hi]
 exact ⟨as[i],by simp [h1],List.getElem_mem h1,e,h.rw i _ _ (by simp [h1]) e⟩
theorem Tb.live {H:Hp}{t:Addr}{as:List Addr}{T:Tab} (h:Tb H t as T):∀ a∈t::as,∃ o,H a=some o:=fun a ha=>by
 rcases List.mem_cons.mp ha with e | e
 · rw [e];exact ⟨_,h.is⟩
 · obtain ⟨i,hi,e⟩:=List.getElem_of_mem e
   have hi2:i < T.length:=by rw [← h.len];exact hi
   exact ⟨_,h.rw i a (T.getD i []) (by simp [← e,hi]) (by simp [List.getD,hi2])⟩
theorem Tb.set {H:Hp}{t a:Addr}{as:List Addr}{T:Tab}{i:Nat} (h:Tb H t as T) (nd:(t::as).Nodup) (e:as[i]?=some a) (r:List (Option Int)):Tb (upd H a (.lst (r.map oV))) t as (T.set i r):=by
 obtain ⟨n1,n2⟩:=List.nodup_cons.mp nd
 have ma:=List.mem_of_getElem? e
 obtain ⟨hi,ea⟩:=List.getElem?_eq_some_iff.mp e
 refine ⟨?_,by rw [h.len,List.length_set],fun j b s e1 e2=>?_⟩
 · have nt:t≠a:=fun z=>n1 (z▸ma)
   rw [upd_ne nt];exact h.is
 · by_cases hj:j=i
   · subst hj
     rw [e] at e1;cases e1
     rw [List.getElem?_set_self (by rw [← h.len];exact hi)] at e2
     cases e2
     exact upd_same
   · rw [List.getElem?_set_ne (Ne.symm hj)] at e2
     have:b≠a:=fun z=>by
      subst z
      obtain ⟨hj',eb⟩:=List.getElem?_eq_some_iff.mp e1
      exact hj ((List.getElem_inj n2).mp (eb.trans ea.symm))
     show upd H a _ b=_
     rw [upd_ne this]
     exact h.rw j b s e1 e2
theorem Tb.snoc {H:Hp}{t a:Addr}{as:List Addr}{T:Tab}{r:List (Option Int)} (h:Tb H t as T) (ha:Row H a r) (n:a≠t) (nt:t∉as):Tb (upd H t (.lst (as.map V.ref++[V.ref a]))) t (as++[a]) (T++[r]):=by
 refine ⟨by rw [upd_same,List.map_append];rfl,by simp [h.len],fun j b s e1 e2=>?_⟩
 have hb:b≠t:=by
  rcases List.mem_append.mp (List.mem_of_getElem? e1) with q | q
  · exact fun z=>nt (z▸q)
  · rw [List.mem_singleton.mp q];exact n
 show upd H t _ b=_
 rw [upd_ne hb]
 by_cases hj:j < as.length
 · rw [List.getElem?_append_left hj] at e1
   rw [List.getElem?_append_left (by rw [← h.len];exact hj)] at e2
   exact h.rw j b s e1 e2
 · rw [List.getElem?_append_right (by omega)] at e1
   rw [List.getElem?_append_right (by rw [← h.len];omega), ← h.len] at e2
   have z:j - as.length=0:=by
    have:=(List.getElem?_eq_some_iff.mp e1).1
    simp at this;omega
   rw [z] at e1 e2
   cases e1;cases e2
   exact ha
structure TabOk (k n:Nat) (T:Tab):Prop where
 len:T.length=n
 row:∀ r∈T,r.length=k
 rng:∀ c j e,cell T c j=some e→0≤e∧e < n
 inj:∀ c d j e,cell T c j=some e→cell T d j=some e→c=d
open PySem.SeqAt PyProof.Rows
def dO:Option Int→PyData
 | none=>.none
 | some n=>.int n
def dR (r:List (Option Int)):PyData:=.list (r.map dO)
def dTab (T:Tab):PyData:=.list (T.map dR)
theorem lay_opt:∀ r:List (Option Int),PyData.canLayAll0 (r.map dO)=true∧PyData.depthAll (r.map dO)=0∧noMixAll (r.map dO) (r.map dO)=true
 | []=>⟨by simp [PyData.canLayAll0],by simp [PyData.depthAll],by simp [noMixAll]⟩
 | a::r=>by
  obtain ⟨h1,h2,h3⟩:=lay_opt r
  cases a with
  | none=>exact ⟨by rw [List.map_cons,PyData.canLayAll0,h1];simp [dO,PyData.canLay0],by rw [List.map_cons,PyData.depthAll,h2];simp [dO,PyData.depth],by rw [List.map_cons,noMixAll,h3];simp [dO,noMix]⟩
  | some z=>exact ⟨by rw [List.map_cons,PyData.canLayAll0,h1];simp [dO,PyData.canLay0],by rw [List.map_cons,PyData.depthAll,h2];simp [dO,PyData.depth],by rw [List.map_cons,noMixAll,h3];simp [dO,noMix]⟩
theorem lay_tab:∀ T:Tab,PyData.canLayAll0 (T.map dR)=true∧PyData.depthAll (T.map dR)≤1∧noMixAll (T.map dR) (T.map dR)=true
 | []=>⟨by simp [PyData.canLayAll0],by simp [PyData.depthAll],by simp [noMixAll]⟩
 | a::r=>by
  obtain ⟨h1,h2,h3⟩:=lay_tab r
  obtain ⟨g1,g2,g3⟩:=lay_opt a
  refine ⟨?_,?_,?_⟩
  · rw [List.map_cons,PyData.canLayAll0,h1];simp [dR,PyData.canLay0,g1]
  · rw [List.map_cons,PyData.depthAll]
    have:(dR a).depth=1:=by rw [dR,PyData.depth,g2]
    omega
  · rw [List.map_cons,noMixAll,h3];simp [dR,noMix,g3]
theorem dts_opt {K:PySem.W.Frag}{H:Hp}:∀ r:List (Option Int),Dts K H (r.map oV) (r.map dO)
 | []=>.nil
 | none::r=>.cons .non (dts_opt r)
 | some z::r=>.cons (.int z) (dts_opt r)
theorem dts_rows {K:PySem.W.Frag}{H:Hp}:∀ {as:List Addr}{T:Tab},as.length=T.length→(∀ (i:Nat) a r,as[i]?=some a→T[i]?=some r→Row H a r)→Dts K H (as.map V.ref) (T.map dR)
 | [],[],_,_=>.nil
 | a::as,r::T,e,h=>.cons (.lst (SqL.of (h 0 a r rfl rfl)) (dts_opt r)) (dts_rows (by simpa using e) fun i b s h1 h2=>h (i+1) b s (by simpa using h1) (by simpa using h2))
 | [],_::_,e,_=>by simp at e
 | _::_,[],e,_=>by simp at e
theorem Tb.dt {K:PySem.W.Frag}{H:Hp}{t:Addr}{as:List Addr}{T:Tab} (h:Tb H t as T):Dt K H (.ref t) (dTab T):=.lst (SqL.of h.is) (dts_rows h.len h.rw)
theorem lay_dTab (T:Tab):shaped (dTab T)=true∧noMix (dTab T) (dTab T)=true:=by
 obtain ⟨a1,a2,a3⟩:=lay_tab T
 refine ⟨?_,?_⟩
 · unfold shaped
   rw [Bool.and_eq_true]
   refine ⟨by simp [PyData.canLay0,dTab,a1],decide_eq_true ?_⟩
   simp only [PyData.depth,dTab]
   omega
 · simp [noMix,dTab,a3]
theorem rd_neT {K:PySem.W.Frag}{H:Hp}{x y:Addr}{as bs:List Addr}{T:Tab}{Q:VK} (hx:Tb H x as T) (hy:Tb H y bs T) (h:Q (.bl false) H):Wr (rNeD K (.ref x) (.ref y) H Q):=by
 refine ⟨⟨_,_,hx.dt,hy.dt,(lay_dTab T).1,(lay_dTab T).1,(lay_dTab T).2,?_⟩⟩
 rw [PyProof.Rows.same_refl]
 exact h
def col (T:Tab) (j:Nat):List (Option Int):=T.map fun r=>r.getD j none
def cols (k:Nat) (T:Tab):Tab:=(List.range k).map (col T)
theorem cols_len (k:Nat) (T:Tab):(cols k T).length=k:=by simp [cols]
theorem cols_at {k j:Nat} (T:Tab) (h:j < k):(cols k T)[j]?=some (col T j):=by simp [cols,h]
theorem cols_getD {k j:Nat} (T:Tab) (h:j < k):(cols k T).getD j []=col T j:=by simp [List.getD,cols_at T h]
theorem col_len (T:Tab) (j:Nat):(col T j).length=T.length:=by simp [col]
theorem col_getD (T:Tab) (c j:Nat):(col T j).getD c none=cell T c j:=by
 unfold col cell
 by_cases h:c < T.length
 · simp [List.getD,h]
 · simp [List.getD,List.getElem?_eq_none (Nat.le_of_not_lt h)]
structure BegPart (i:Nat) (ends fs:List (Option Int)):Prop where
 len:fs.length=ends.length
 iff:∀ (e:Nat) (c:Int),fs.getD e none=some c↔∃ m:Nat,c=m∧m < i∧ends.getD m none=some (e:Int)
abbrev BegOk (ends fs:List (Option Int)):Prop:=BegPart ends.length ends fs
def chf (k:Nat) (lo li:Addr):List (Str × V):=putF "inward" (.ref li) (putF "onward" (.ref lo) (putF "kinds" (.int k) []))
theorem chf_look (k:Nat) (lo li:Addr) (m:Str):(chf k lo li).lookup m=if m="inward" then some (.ref li) else if m="onward" then some (.ref lo) else if m="kinds" then some (.int k) else none:=by
 unfold chf
 rw [lookup_putF,lookup_putF,lookup_putF];rfl
theorem chf_on (k:Nat) (lo li:Addr):(chf k lo li).lookup ("onward":Str)=some (.ref lo):=by rw [chf_look,if_neg (by decide),if_pos rfl]
theorem chf_no (k:Nat) (lo li:Addr) {m:Str} (h1:¬ m="inward":=by decide) (h2:¬ m="onward":=by decide) (h3:¬ m="kinds":=by decide):(chf k lo li).lookup m=none:=by rw [chf_look,if_neg h1,if_neg h2,if_neg h3]
structure ChAt (C:Addr) (H:Hp) (g:Addr) (k n:Nat) (T:Tab) (fp:List Addr):Prop where
 ok:TabOk k n T
 k1:1≤k
 k5:k≤5
 n1:1≤n
 n7:n≤700
 ob:∃ dx lo li as bs I,fp=g::((lo::as)++(li::bs))∧H g=some (.ins C dx (chf k lo li))∧Tb H lo as (cols k T)∧Tb H li bs I∧I.length=k∧∀ j,j < k→BegOk (col T j) (I.getD j [])
theorem ChAt.on {C:Addr}{H H':Hp}{g:Addr}{k n:Nat}{T:Tab}{fp:List Addr} (h:ChAt C H g k n T fp) (s:∀ a∈fp,∀ o,H a=some o→H' a=some o):ChAt C H' g k n T fp:=by
 obtain ⟨dx,lo,li,as,bs,I,rfl,hg,h1,h2,h3,h4⟩:=h.ob
 refine ⟨h.ok,h.k1,h.k5,h.n1,h.n7,dx,lo,li,as,bs,I,rfl,s g (List.mem_cons_self ..) _ hg,h1.on fun a ha=>s a ?_,h2.on fun a ha=>s a ?_,h3,h4⟩
 · exact List.mem_cons_of_mem _ (List.mem_append_left _ ha)
 · exact List.mem_cons_of_mem _ (List.mem_append_right _ ha)
theorem ChAt.other {C:Addr}{H:Hp}{g x:Addr}{k n:Nat}{T:Tab}{fp:List Addr}{o:HO} (h:ChAt C H g k n T fp) (n':x∉fp):ChAt C (upd H x o) g k n T fp:=h.on fun a ha _ e=>by
 have ne:a≠x:=fun z=>n' (z▸ha)
 rw [upd_ne ne];exact e
end My
namespace My
open PySem L2
structure TxtC (K:PySem.W.Frag) (mg:Str→Option Value) (C:Addr):Prop where
 cl:Cls K C
 nk:NoAttr K C "kinds"
 no:NoAttr K C "onward"
 ni:NoAttr K C "inward"
 mkk:∃ t,mg "MOST_KINDS"=some (.int 5 t)
 mcc:∃ t,mg "MOST_CHAMBERS"=some (.int 700 t)
 sum:mg "sum"=none
theorem Row.same {H H':Hp}{a:Addr}{r:List (Option Int)} (h:Row H a r) (s:Same H H'):Row H' a r:=s _ _ h
theorem get_opt {r:List (Option Int)}{i:Nat}{y:V} (h:(r.map oV)[i]?=some y):∃ z,y=oV z∧r[i]?=some z:=by
 rw [List.getElem?_map] at h
 cases e:r[i]? with
 | none=>rw [e] at h;cases h
 | some z=>rw [e] at h;exact ⟨z,(Option.some.inj h).symm,rfl⟩
theorem get_adr {as:List Addr}{i:Nat}{y:V} (h:(as.map V.ref)[i]?=some y):∃ z,y=V.ref z∧as[i]?=some z:=by
 rw [List.getElem?_map] at h
 cases e:as[i]? with
 | none=>rw [e] at h;cases h
 | some z=>rw [e] at h;exact ⟨z,(Option.some.inj h).symm,rfl⟩
theorem getD_some {α:Type}{r:List α}{i:Nat}{z d:α} (h:r[i]?=some z):r.getD i d=z:=by rw [List.getD,h];rfl
theorem rd_cell {K:PySem.W.Frag}{H:Hp}{a:Addr}{r:List (Option Int)}{i:Int}{Q:VK} (k:Nat) (hq:Row H a r) (hk:k < r.length) (h:Q (oV (r.getD k none)) H) (e:i=(k:Int):=by rfl):Wr (rIxL K (.ref a) (.int i) H Q):=by
 refine ⟨⟨a,_,i,_,rfl,rfl,SqL.of hq,?_,h⟩⟩
 subst e
 exact atI_nat (by rw [List.getElem?_map,show r[k]?=some (r.getD k none) by simp [List.getD,hk]];rfl)
theorem rd_row {K:PySem.W.Frag}{H:Hp}{t a:Addr}{as:List Addr}{T:Tab}{i:Int}{Q:VK} (k:Nat) (hq:Tb H t as T) (ha:as[k]?=some a) (h:Q (.ref a) H) (e:i=(k:Int):=by rfl):Wr (rIxL K (.ref t) (.int i) H Q):=by
 refine ⟨⟨t,_,i,_,rfl,rfl,SqL.of hq.is,?_,h⟩⟩
 subst e
 exact atI_nat (by rw [List.getElem?_map,ha];rfl)
theorem comp_col {K:PySem.W.Frag}{t:Addr}{as:List Addr}{T:Tab}{j:Nat}{ix:List Nat}{te:TE}{σ:St}{H:Hp}{Q:VK} (h:Tb H t as T) (hl:T.length≤100000)
  (he:∀ a r,r∈T→∀ (H':Hp) (Q':VK),Same H H'→Row H' a r→Q' (oV (r.getD j none)) H'→te (blkSt ix (some (.ref a)) σ) H' Q') (hQ:∀ D,H D=none→Q (.ref D) (upd H D (.lst ((col T j).map oV)))):
  Wr (rComp (Itl K t) ix te σ H Q):=by
 let f:V→V:=fun z=>match z with
  | .ref a=>(match H a with | some (.lst xs)=>xs.getD j .non | _=>.non)
  | _=>.non
 have fe:∀ a r,Row H a r→f (.ref a)=oV (r.getD j none):=fun a r hr=>by
  show (match H a with | some (.lst xs)=>xs.getD j .non | _=>.non)=_
  rw [show H a=some (.lst (r.map oV)) from hr]
  show (r.map oV).getD j .non=_
  by_cases hj:j < r.length
  · simp [List.getD,hj]
  · simp [List.getD,List.getElem?_eq_none (Nat.le_of_not_lt hj),oV]
 refine ⟨comp_vals (xs:=as.map V.ref) f (SqL.of h.is) (small4k (by rw [List.length_map,h.len];omega)) (fun z hz H' Q' s q=>?_) fun D hD=>?_⟩
 · obtain ⟨a,ha,rfl⟩:=List.mem_map.mp hz
   obtain ⟨i,hi,e⟩:=List.getElem_of_mem ha
   have hi2:i < T.length:=by rw [← h.len];exact hi
   have hr:=h.rw i a T[i] (by simp [← e,hi]) (by simp [hi2])
   rw [fe a _ hr] at q
   exact he a _ (List.getElem_mem hi2) H' Q' s (hr.same s) q
 · have:(as.map V.ref).map f=(col T j).map oV:=by
     unfold col
     rw [List.map_map,List.map_map]
     refine List.ext_getElem (by simp [h.len]) fun i h1 h2=>?_
     have h1':i < as.length:=by simpa using h1
     have h2':i < T.length:=by simpa using h2
     simp only [List.getElem_map,Function.comp]
     exact fe _ _ (h.rw i as[i] T[i] (by simp [h1']) (by simp [h2']))
   rw [this]
   exact hQ D hD
theorem hcl1 {cells:List (Str × Addr)}{a:Str}{x:Addr} (h1:cells.lookup a=some x):∀ z c,[(a,x)].lookup z=some c→cells.lookup z=some c:=fun z c h=>by
 rw [List.lookup_cons] at h
 cases e:z == a with
 | true=>rw [e] at h;rw [eq_of_beq e,h1];exact h
 | false=>rw [e] at h;cases h
theorem rd_rep {H:Hp}{a:Addr}{n:Nat}{k:Int}{z:Option Int}{Q:VK} (ha:H a=some (.lst [oV z])) (hn:n≤100000) (h:∀ (p:Addr) (H':Hp),H p=none→Row H' p (List.replicate n z)→Same H H'→Q (.ref p) H') (e:k=(n:Int):=by rfl):Wr (rRep (.ref a) (.int k) H Q):=by
 subst e
 refine ⟨⟨a,n,[oV z],rfl,rfl,ha,by omega,by omega,?_,fun p hp=>?_⟩⟩
 · exact Nat.le_of_lt (small4k (by simp;omega))
 · have e:(List.replicate (n:Int).toNat [oV z]).flatten=(List.replicate n z).map oV:=by
     rw [Int.toNat_natCast]
     clear h hn
     induction n with
     | zero=>rfl
     | succ n ih=>rw [List.replicate_succ,List.flatten_cons,ih,List.replicate_succ,List.map_cons];rfl
   rw [e]
   exact h p _ hp upd_same ((Same.refl H).upd hp)
def spCopied:Sp:=fun vs H Q _=>∃ (t:Addr) (as:List Addr) (T:Tab),vs=[.ref t]∧Tb H t as T∧T.length≤1000∧
 ∀ (t':Addr) (as':List Addr) (H':Hp),H t'=none→(∀ a∈as',H a=none)→(t'::as').Nodup→Tb H' t' as' T→Same H H'→Q (.ref t') H'
def spShape:Sp:=fun vs H Q _=>∃ (k n:Nat) (t:Addr) (as:List Addr) (T:Tab),vs=[.int k,.ref t]∧Tb H t as T∧TabOk k n T∧1≤k∧k≤5∧1≤n∧n≤700∧Q .non H
def EndsOk (ends:List (Option Int)):Prop:=(∀ (c:Nat) e,ends.getD c none=some e→0≤e∧e < ends.length)∧∀ (c d:Nat) e,ends.getD c none=some e→ends.getD d none=some e→c=d
theorem TabOk.ends {k n:Nat}{T:Tab} (h:TabOk k n T) (j:Nat):EndsOk (col T j):=by
 refine ⟨fun c e he=>?_,fun c d e h1 h2=>?_⟩
 · rw [col_getD] at he
   rw [col_len,h.len];exact h.rng _ _ _ he
 · rw [col_getD] at h1 h2
   exact h.inj _ _ _ _ h1 h2
def spBeg:Sp:=fun vs H Q _=>∃ (a:Addr) (ends:List (Option Int)),vs=[.ref a]∧Row H a ends∧EndsOk ends∧ends.length≤1000∧
 ∀ (l:Addr) (fs:List (Option Int)) (H':Hp),H l=none→Row H' l fs→BegOk ends fs→Same H H'→Q (.ref l) H'
def spInit (C:Addr):Sp:=fun vs H Q _=>∃ (g dx:Addr) (k n:Nat) (t:Addr) (as:List Addr) (T:Tab),vs=[.ref g,.int k,.ref t]∧H g=some (.ins C dx [])∧Tb H t as T∧TabOk k n T∧1≤k∧k≤5∧1≤n∧n≤700∧
 ∀ (H':Hp) (fp:List Addr),ChAt C H' g k n T fp→(∀ a∈fp,a≠g→H a=none)→Kp g H H'→Q .non H'
def spSize (C:Addr):Sp:=fun vs H Q _=>∃ (g:Addr) (k n:Nat) (T:Tab) (fp:List Addr),vs=[.ref g]∧ChAt C H g k n T fp∧Q (.int n) H
theorem BegPart.zero (ends:List (Option Int)):BegPart 0 ends (List.replicate ends.length none):=by
 refine ⟨by simp,fun e c=>⟨fun h=>?_,fun ⟨m,_,h,_⟩=>by omega⟩⟩
 rw [List.getD,List.getElem?_replicate] at h
 split at h <;> cases h
theorem BegPart.skip {i:Nat}{ends fs:List (Option Int)} (h:BegPart i ends fs) (e:ends.getD i none=none):BegPart (i+1) ends fs:=by
 refine ⟨h.len,fun x c=>(h.iff x c).trans ⟨fun ⟨m,a,b,d⟩=>⟨m,a,by omega,d⟩,fun ⟨m,a,b,d⟩=>⟨m,a,?_,d⟩⟩⟩
 by_cases q:m=i
 · subst q;rw [e] at d;cases d
 · omega
theorem BegPart.free {i x:Nat}{ends fs:List (Option Int)} (h:BegPart i ends fs) (ok:EndsOk ends) (e:ends.getD i none=some (x:Int)):fs.getD x none=none:=by
 cases q:fs.getD x none with
 | none=>rfl
 | some c=>
  obtain ⟨m,_,hm,d⟩:=(h.iff x c).mp q
  have:=ok.2 _ _ _ d e
  omega
theorem BegPart.put {i x:Nat}{ends fs:List (Option Int)} (h:BegPart i ends fs) (ok:EndsOk ends) (e:ends.getD i none=some (x:Int)):BegPart (i+1) ends (fs.set x (some (i:Int))):=by
 have hx:x < fs.length:=by
  have:=(ok.1 i _ e).2
  rw [h.len];omega
 refine ⟨by rw [List.length_set];exact h.len,fun y c=>?_⟩
 by_cases q:y=x
 · subst q
   have e1:(fs.set y (some (i:Int))).getD y none=some (i:Int):=by rw [List.getD,List.getElem?_set_self hx];rfl
   rw [e1]
   constructor
   · intro z;exact ⟨i,(Option.some.inj z).symm,by omega,e⟩
   · rintro ⟨m,rfl,hm,d⟩
     rw [ok.2 _ _ _ d e]
 · have e1:(fs.set x (some (i:Int))).getD y none=fs.getD y none:=by rw [List.getD,List.getElem?_set_ne (fun z=>q z.symm)];rfl
   rw [e1,h.iff]
   constructor
   · rintro ⟨m,a,b,d⟩;exact ⟨m,a,by omega,d⟩
   · rintro ⟨m,a,b,d⟩
     refine ⟨m,a,?_,d⟩
     by_cases z:m=i
     · subst z
       rw [e] at d
       exact absurd (Option.some.inj d) (by omega)
     · omega
theorem map_eraseIdx {α β:Type} (f:α→β):∀ (l:List α) (i:Nat),(l.map f).eraseIdx i=(l.eraseIdx i).map f
 | [],_=>rfl
 | _::_,0=>rfl
 | a::l,i+1=>by
  show f a::(l.map f).eraseIdx i=f a::(l.eraseIdx i).map f
  rw [map_eraseIdx f l i]
structure NewT (H H':Hp) (t:Addr) (as:List Addr) (T:Tab):Prop where
 ft:H t=none
 fa:∀ a∈as,H a=none
 nd:(t::as).Nodup
 tb:Tb H' t as T
 sm:Same H H'
theorem NewT.zero {H:Hp}{D:Addr} (h:H D=none):NewT H (upd H D (.lst [])) D [] []:=⟨h,(fun _ z=>nomatch z),by simp,⟨upd_same,rfl,fun i a r e=>by simp at e⟩,(Same.refl H).upd h⟩
theorem NewT.snoc {H H2 H3:Hp}{D a:Addr}{as:List Addr}{T:Tab}{r:List (Option Int)} (h:NewT H H2 D as T) (ha:H2 a=none) (hr:Row H3 a r) (s:Same H2 H3):NewT H (upd H3 D (.lst (as.map V.ref++[V.ref a]))) D (as++[a]) (T++[r]):=by
 have nD:a≠D:=fun z=>by rw [z,h.tb.is] at ha;cases ha
 obtain ⟨n1,n2⟩:=List.nodup_cons.mp h.nd
 have na:a∉as:=fun z=>by
  obtain ⟨o,e⟩:=h.tb.live a (List.mem_cons_of_mem _ z)
  rw [ha] at e;cases e
 refine ⟨h.ft,fun b hb=>?_,?_,(h.tb.same s).snoc hr nD n1,(h.sm.trans s).upd h.ft⟩
 · rcases List.mem_append.mp hb with q | q
   · exact h.fa b q
   · rw [List.mem_singleton.mp q];exact h.sm.free ha
 · refine List.nodup_cons.mpr ⟨fun z=>?_,nd_snoc n2 na⟩
   rcases List.mem_append.mp z with q | q
   · exact n1 q
   · exact nD (List.mem_singleton.mp q).symm
theorem NewT.row {H H2 H3:Hp}{D:Addr}{as:List Addr}{T:Tab} (h:NewT H H2 D as T) (s:Same H2 H3):H3 D=some (.lst (as.map V.ref)):=s _ _ h.tb.is
theorem comp_tab {lo:Int}{n:Nat}{ix:List Nat}{te:TE}{σ:St}{H:Hp}{Q:VK} (f:Nat→List (Option Int)) (hn:n≤100000)
  (he:∀ i,i < n→∀ H2,Same H H2→∀ Q':VK,(∀ (a:Addr) (H3:Hp),H2 a=none→Row H3 a (f i)→Same H2 H3→Q' (.ref a) H3)→te (blkSt ix (some (.int (lo+i))) σ) H2 Q')
  (hQ:∀ D as H',NewT H H' D as ((List.range n).map f)→Q (.ref D) H'):
  Wr (rComp (Itr lo n) ix te σ H Q):=by
 refine ⟨comp_range fun D hD=>⟨fun i ys H2=>∃ as,ys=as.map V.ref∧NewT H H2 D as ((List.range i).map f)∧i≤n,⟨[],rfl,NewT.zero hD,Nat.zero_le _⟩,?_,?_,?_⟩⟩
 · rintro i ys H2 ⟨as,rfl,h,hi⟩
   refine ⟨h.tb.is,small4k ?_⟩
   rw [List.length_map,h.tb.len];simp;omega
 · rintro i ys H2 hi ⟨as,rfl,h,_⟩ Q' q'
   refine he i hi H2 h.sm Q' fun a H3 ha hr s=>q' _ _ (h.row s) ⟨as++[a],by rw [List.map_append];rfl,?_,hi⟩
   rw [List.range_succ,List.map_append]
   exact h.snoc ha hr s
 · rintro ys H2 ⟨as,rfl,h,_⟩
   exact hQ D as H2 h
theorem comp_tabL {K:PySem.W.Frag}{a0:Addr}{xs:List V}{ix:List Nat}{te:TE}{σ:St}{H:Hp}{Q:VK} (T:Tab) (hq:SqL K H a0 xs) (hl:T.length=xs.length) (hn:xs.length≤100000)
  (he:∀ (i:Nat) x r,xs[i]?=some x→T[i]?=some r→∀ H2,Same H H2→∀ Q':VK,(∀ (a:Addr) (H3:Hp),H2 a=none→Row H3 a r→Same H2 H3→Q' (.ref a) H3)→te (blkSt ix (some x) σ) H2 Q')
  (hQ:∀ D as H',NewT H H' D as T→Q (.ref D) H'):
  Wr (rComp (Itl K a0) ix te σ H Q):=by
 refine comp_list (xs:=xs) fun D hD=>⟨fun i ys H2=>∃ as,ys=as.map V.ref∧NewT H H2 D as (T.take i),⟨[],rfl,by rw [List.take_zero];exact NewT.zero hD⟩,?_,?_,?_⟩
 · rintro i ys H2 hi ⟨as,rfl,h⟩
   refine ⟨h.sm.seq hq,h.tb.is,small4k ?_⟩
   rw [List.length_map,h.tb.len,List.length_take];omega
 · rintro i x ys H2 hi ⟨as,rfl,h⟩ Q' q'
   have hi':i < T.length:=by rw [hl];exact (List.getElem?_eq_some_iff.mp hi).1
   refine he i x T[i] hi (by simp [hi']) H2 h.sm Q' fun a H3 ha hr s=>q' _ _ (h.row s) ⟨as++[a],by rw [List.map_append];rfl,?_⟩
   rw [List.take_succ_eq_append_getElem hi']
   exact h.snoc ha hr s
 · rintro ys H2 ⟨as,rfl,h⟩
   rw [List.take_of_length_le (by omega)] at h
   exact hQ D as H2 h
theorem comp_tabP {K:PySem.W.Frag}{a0:Addr}{xs:List V}{ix:List Nat}{te:TE}{σ:St}{H:Hp}{Q:VK} (R:Nat→List (Option Int)→Prop) (hq:SqL K H a0 xs) (hn:xs.length≤100000)
  (he:∀ (i:Nat) x,xs[i]?=some x→∀ H2,Same H H2→∀ Q':VK,(∀ (a:Addr) (r:List (Option Int)) (H3:Hp),H2 a=none→Row H3 a r→R i r→Same H2 H3→Q' (.ref a) H3)→te (blkSt ix (some x) σ) H2 Q')
  (hQ:∀ D as T H',NewT H H' D as T→T.length=xs.length→(∀ (i:Nat) r,T[i]?=some r→R i r)→Q (.ref D) H'):
  Wr (rComp (Itl K a0) ix te σ H Q):=by
 refine comp_list (xs:=xs) fun D hD=>⟨fun i ys H2=>∃ as T,ys=as.map V.ref∧NewT H H2 D as T∧T.length=i∧i≤xs.length∧∀ (j:Nat) r,T[j]?=some r→R j r,⟨[],[],rfl,NewT.zero hD,rfl,Nat.zero_le _,fun j r e=>by simp at e⟩,?_,?_,?_⟩
 · rintro i ys H2 hi ⟨as,T,rfl,h,e,_⟩
   refine ⟨h.sm.seq hq,h.tb.is,small4k ?_⟩
   rw [List.length_map,h.tb.len];omega
 · rintro i x ys H2 hi ⟨as,T,rfl,h,e,_,hR⟩ Q' q'
   refine he i x hi H2 h.sm Q' fun a r H3 ha hr hr2 s=>q' _ _ (h.row s) ⟨as++[a],T++[r],by rw [List.map_append];rfl,h.snoc ha hr s,by simp [e],(List.getElem?_eq_some_iff.mp hi).1,fun j r' e'=>?_⟩
   by_cases hj:j < T.length
   · rw [List.getElem?_append_left hj] at e';exact hR j r' e'
   · rw [List.getElem?_append_right (by omega)] at e'
     have z:j - T.length=0:=by
      have:=(List.getElem?_eq_some_iff.mp e').1
      simp at this;omega
     rw [z] at e';cases e'
     have:j=i:=by omega
     rw [this];exact hr2
 · rintro ys H2 ⟨as,T,rfl,h,e,_,hR⟩
   exact hQ D as T H2 h e hR
theorem rd_listO {K:PySem.W.Frag}{H:Hp}{a:Addr}{r:List (Option Int)}{Q:VK} (hq:Row H a r) (h:∀ (p:Addr) (H':Hp),H p=none→Row H' p r→Same H H'→Q (.ref p) H'):Wr (rList K [.ref a] H Q):=
 ⟨⟨a,_,rfl,.inl (SqL.of hq),fun p hp=>h p _ hp upd_same ((Same.refl H).upd hp)⟩⟩
theorem not_fresh {H:Hp}{l:List Addr}{x:Addr} (h:∀ a∈l,H a=none) (hx:∃ o,H x=some o):x∉l:=fun z=>by
 obtain ⟨o,e⟩:=hx
 rw [h x z] at e;cases e
end My
set_option autoImplicit false
namespace L2
open PySem PySem.Spec PyProof.Rows
theorem bt_sorted:bootBuiltins "sorted"=some (.builtin "sorted"):=by decide+kernel
def rSort (K:PySem.W.Frag) (xs:List V) (H:Hp) (Q:VK):Prop:=∃ (a:Addr) (ns:List Int),xs=[.ref a]∧SqL K H a (ns.map V.int)∧ns.length < 64∧∀ (l:Addr) (ms:List Int),H l=none→ms.Perm ns→ms.Pairwise (· ≤ ·)→Q (.ref l) (upd H l (.lst (ms.map V.int)))
theorem ints_are {ns:List Int}{vs:List Value} (r:Vals (ns.map V.int) vs):IntsAre vs ns:=by
 induction ns generalizing vs with
 | nil=>cases r;exact .nil
 | cons n ns ih=>
  cases r with
  | cons r1 r2=>
   obtain ⟨t,rfl⟩:=(show ∃ t,_=Value.int n t from r1)
   exact .cons _ _ (ih r2)
theorem are_ints {ns:List Int}{vs:List Value} (r:IntsAre vs ns):Vals (ns.map V.int) vs:=by
 induction r with
 | nil=>exact .nil
 | cons _ _ _ ih=>exact .cons ⟨_,rfl⟩ ih
section
variable {X:Cx}
theorem call_sorted (K:PySem.W.Frag) (e:X.K=K):CallR X (.builtin "sorted") (fun xs H Q=>Wr (rSort K xs H Q)):=by
 subst e
 intro pins s σ H xs us Q I r h
 obtain ⟨a,ns,rfl,hq,h64,q⟩:=h.get
 obtain ⟨u,rfl,ru⟩:=r.one
 cases ru
 obtain ⟨its,rv,p,hz⟩:=I.list hq
 have lv:its.length=ns.length:=by rw [← rv.length,List.length_map]
 refine sorted_ints (vs:=its) p.isList (ints_are rv) (by rw [lv];exact h64) fun out ns' a1 a2 a3=>?_
 obtain ⟨e,he⟩:=sortedAll_at s.heap its out
 refine ⟨.ref (s.heap.objs.size+1),_,I.laid (t':=s.toks) (o:=.lst (ns'.map V.int)) (fun b u hb=>sortedAll_old hb) (Nat.le_succ _) ?_,rfl,q _ ns' (I.hok.fresh (Nat.le_succ _)) a2 a3⟩
 refine ⟨by rw [List.length_map,a2.length_eq];exact Nat.le_of_lt (Nat.lt_of_lt_of_le h64 (by rw [sizeLine_eq];decide)),out.toList,e,are_ints a1,?_⟩
 exact he
end
end L2
namespace My
open PySem L2
structure PermT (k n:Nat) (U:Tab):Prop where
 len:U.length=k
 row:∀ r∈U,∃ p:List Int,r=p.map some∧p.Perm (lab0 n)
theorem rowI {H:Hp}{a:Addr}{p:List Int}:Row H a (p.map some)↔Ints H a p:=by
 show _=_↔_=_
 rw [List.map_map];exact Iff.rfl
theorem lab0_len (n:Nat):(lab0 n).length=n:=by simp [lab0]
theorem lab0_mem {n:Nat}{e:Int}:e∈lab0 n↔0≤e∧e < n:=by
 unfold lab0
 rw [List.mem_map]
 constructor
 · rintro ⟨i,hi,rfl⟩
   have:=List.mem_range.mp hi;omega
 · rintro ⟨h1,h2⟩
   exact ⟨e.toNat,List.mem_range.mpr (by omega),by omega⟩
theorem lab0_nd (n:Nat):(lab0 n).Nodup:=by
 unfold lab0
 refine List.pairwise_map.mpr ?_
 exact (List.nodup_range (n:=n)).imp fun hab z=>hab (by omega)
theorem lab0_le (n:Nat):(lab0 n).Pairwise (· ≤ ·):=by
 unfold lab0
 refine List.pairwise_map.mpr ?_
 exact (List.pairwise_lt_range (n:=n)).imp fun h=>by omega
theorem PermT.plen {k n:Nat}{U:Tab} (h:PermT k n U):∀ r∈U,r.length=n:=fun r hr=>by
 obtain ⟨p,rfl,hp⟩:=h.row r hr
 rw [List.length_map,hp.length_eq,lab0_len]
theorem cell_some {p:List Int}{c:Nat}{e:Int} (h:(p.map some).getD c none=some e):∃ hc:c < p.length,p[c]=e:=by
 by_cases hc:c < p.length
 · refine ⟨hc,?_⟩
   rw [List.getD,List.getElem?_map,List.getElem?_eq_getElem hc] at h
   exact Option.some.inj h
 · rw [List.getD,List.getElem?_eq_none (by rw [List.length_map];omega)] at h;cases h
theorem cell_cols (U:Tab) (n c j:Nat):cell (cols n U) c j=if c < n then cell U j c else none:=by
 unfold cell
 by_cases hc:c < n
 · rw [if_pos hc,cols_getD U hc,col_getD];rfl
 · rw [if_neg hc,show (cols n U).getD c []=[] by rw [List.getD,List.getElem?_eq_none (by rw [cols_len];omega)];rfl];rfl
theorem cell_in {U:Tab}{j c:Nat}{e:Int} (h:cell U j c=some e):U.getD j []∈U:=by
 unfold cell at h
 by_cases hj:j < U.length
 · simp [List.getD,hj]
 · rw [show U.getD j []=[] by simp [List.getD,List.getElem?_eq_none (Nat.le_of_not_lt hj)]] at h;cases h
theorem PermT.ok {k n:Nat}{U:Tab} (h:PermT k n U):TabOk k n (cols n U):=by
 refine ⟨cols_len ..,fun r hr=>?_,fun c j e he=>?_,fun c d j e h1 h2=>?_⟩
 · obtain ⟨j,_,rfl⟩:=List.mem_map.mp hr
   rw [col_len,h.len]
 · rw [cell_cols] at he
   split at he
   · obtain ⟨p,ep,hp⟩:=h.row _ (cell_in he)
     unfold cell at he
     rw [ep] at he
     obtain ⟨hc,ee⟩:=cell_some he
     exact lab0_mem.mp (hp.mem_iff.mp (ee▸List.getElem_mem hc))
   · cases he
 · rw [cell_cols] at h1 h2
   split at h1
   · split at h2
     · obtain ⟨p,ep,hp⟩:=h.row _ (cell_in h1)
       unfold cell at h1 h2
       rw [ep] at h1 h2
       obtain ⟨hc,e1⟩:=cell_some h1
       obtain ⟨hd,e2⟩:=cell_some h2
       have nd:p.Nodup:=(List.Perm.nodup_iff hp).mpr (lab0_nd n)
       exact (List.getElem_inj nd).mp (e1.trans e2.symm)
     · cases h2
   · cases h1
structure TxtV (K:PySem.W.Frag) (mg:Str→Option Value) (C:Addr):Prop where
 cl:Cls K C
 nk:NoAttr K C "kinds"
 np:NoAttr K C "placed"
 nc:NoAttr K C "chart"
def cvf (k:Nat) (pl ch:Addr):List (Str × V):=putF "chart" (.ref ch) (putF "placed" (.ref pl) (putF "kinds" (.int k) []))
theorem cvf_look (k:Nat) (lo li:Addr) (m:Str):(cvf k lo li).lookup m=if m="chart" then some (.ref li) else if m="placed" then some (.ref lo) else if m="kinds" then some (.int k) else none:=by
 unfold cvf
 rw [lookup_putF,lookup_putF,lookup_putF];rfl
theorem cvf_c (k:Nat) (lo li:Addr):(cvf k lo li).lookup ("chart":Str)=some (.ref li):=by rw [cvf_look,if_pos rfl]
theorem cvf_no (k:Nat) (lo li:Addr) {m:Str} (h1:¬ m="chart":=by decide) (h2:¬ m="placed":=by decide) (h3:¬ m="kinds":=by decide):(cvf k lo li).lookup m=none:=by rw [cvf_look,if_neg h1,if_neg h2,if_neg h3]
structure CvAt (C Cc:Addr) (H:Hp) (g:Addr) (k n:Nat) (U:Tab) (ps:List Int) (fp:List Addr):Prop where
 pm:PermT k n U
 pr:∀ p∈ps,0≤p∧p < (n:Int)
 ob:∃ dx pl ch fc,fp=g::pl::fc∧H g=some (.ins C dx (cvf k pl ch))∧Ints H pl ps∧ChAt Cc H ch k n (cols n U) fc
theorem CvAt.on {C Cc:Addr}{H H':Hp}{g:Addr}{k n:Nat}{U:Tab}{ps:List Int}{fp:List Addr} (h:CvAt C Cc H g k n U ps fp) (s:∀ a∈fp,∀ o,H a=some o→H' a=some o):CvAt C Cc H' g k n U ps fp:=by
 obtain ⟨dx,pl,ch,fc,rfl,hg,h1,h2⟩:=h.ob
 refine ⟨h.pm,h.pr,dx,pl,ch,fc,rfl,s g (List.mem_cons_self ..) _ hg,s pl ?_ _ h1,h2.on fun a ha=>s a ?_⟩
 · exact List.mem_cons_of_mem _ (List.mem_cons_self ..)
 · exact List.mem_cons_of_mem _ (List.mem_cons_of_mem _ ha)
theorem CvAt.same {C Cc:Addr}{H H':Hp}{g:Addr}{k n:Nat}{U:Tab}{ps:List Int}{fp:List Addr} (h:CvAt C Cc H g k n U ps fp) (s:Same H H'):CvAt C Cc H' g k n U ps fp:=h.on fun a _ o e=>s a o e
def spPerms:Sp:=fun vs H Q _=>∃ (k n:Nat) (ld:Addr) (ds:List Int),vs=[.int k,.int n,.ref ld]∧Ints H ld ds∧k≤1000∧1≤n∧n≤1000∧k * n≤ds.length∧
 ∀ (t:Addr) (as:List Addr) (U:Tab) (H':Hp),H t=none→(∀ a∈as,H a=none)→(t::as).Nodup→Tb H' t as U→PermT k n U→Same H H'→Q (.ref t) H'
def spCSize (C Cc:Addr):Sp:=fun vs H Q _=>∃ (g:Addr) (k n:Nat) (U:Tab) (ps:List Int) (fp:List Addr),vs=[.ref g]∧CvAt C Cc H g k n U ps fp∧Q (.int n) H
theorem erase_perm:∀ {l:List Int}{i:Nat} (hi:i < l.length),l.Perm (l[i]::l.eraseIdx i)
 | a::l,0,_=>.refl _
 | a::l,i+1,hi=>by
  have:=erase_perm (l:=l) (i:=i) (by simpa using hi)
  exact (this.cons a).trans (.swap ..)
structure MidP (n c:Nat) (left ends:List Int):Prop where
 len:left.length=n - c
 pm:(left++ends).Perm (lab0 n)
theorem MidP.zero (n:Nat):MidP n 0 (lab0 n) []:=⟨lab0_len n,by rw [List.append_nil]⟩
theorem MidP.step {n c i:Nat}{left ends:List Int} (h:MidP n c left ends) (hi:i < left.length):MidP n (c+1) (left.eraseIdx i) (ends++[left[i]]):=by
 refine ⟨by rw [List.length_eraseIdx_of_lt hi,h.len];omega,?_⟩
 refine List.Perm.trans ?_ h.pm
 have e:left.Perm (left[i]::left.eraseIdx i):=erase_perm hi
 refine List.Perm.trans ?_ (e.symm.append_right ends)
 rw [← List.append_assoc]
 exact List.perm_append_comm
theorem MidP.done {n:Nat}{left ends:List Int} (h:MidP n n left ends):ends.Perm (lab0 n):=by
 have:left=[]:=List.length_eq_zero_iff.mp (by have:=h.len;omega)
 have:=h.pm
 simpa [‹left=[]›] using this
end My
namespace L2
open PySem PySem.Spec PyProof.Rows
end L2
namespace My
open PySem L2
end My
namespace L2
open PySem PySem.Spec PyProof.Rows
end L2
namespace My
open PySem L2
section
variable {T:Tab}{k n:Nat}
end
end My
namespace L2
open PySem PySem.Spec PyProof.Rows PySem.W
end L2
namespace L2
open PySem PySem.Spec PyProof.Rows
theorem sC {X:Cx}{st:Stmt}{t:TS}{rest:List Stmt}{u:TS} (h1:PS X st t) (h2:PSs X rest u):PSs X (st::rest) (tSeq t u):=pss_cons h1 h2
theorem sO {X:Cx}{st:Stmt}{t:TS} (h:PS X st t):PSs X [st] t:=pss_one h
theorem sS {X:Cx}{i:Nat}{x:Str}{e:Expr}{te:TE}{pos pos':Pos} (hN:X.N.Nodup) (hi:X.N[i]?=some x) (hx:Loc X.env.scope x) (he:PE X e te) (hs:swapsWith e (some (.Name x pos')) pos.line X.env=pure false) (hf:X.fn x=true∨X.env.scope.names.lookup x=some .local):
  PS X (.Assign [.Name x pos'] e pos) (tAsg te (gName i)):=ps_set hN hi hx he hs hf
theorem sR {X:Cx}{e:Expr}{te:TE}{pos:Pos} (he:PE X e te):PS X (.Return (some e) pos) (tRet te):=ps_ret he
theorem aC {X:Cx}{e:Expr}{te:TE}{es:List Expr}{t:TA} (ha:PE X e te) (hr:PA X es t) (hs:starEach (e::es) X.env=(false,eval e X.env)::starEach es X.env):PA X (e::es) (tCons te t):=pa_cons ha hr hs
theorem eL {X:Cx}{es:List Expr}{t:TA}{pos:Pos} (h:PA X es t):PE X (.List es pos) (tLstW t):=pe_lstW h
theorem us1 {α:Type}{us:List α} (h:us.length=1):∃ a,us=[a]:=by
 match us,h with
 | [a],_=>exact ⟨a,rfl⟩
theorem us2 {α:Type}{us:List α} (h:us.length=2):∃ a b,us=[a,b]:=by
 cases us with
 | nil=>cases h
 | cons a r=>obtain ⟨b,rfl⟩:=us1 (us:=r) (by simpa using h);exact ⟨a,b,rfl⟩
theorem us3 {α:Type}{us:List α} (h:us.length=3):∃ a b c,us=[a,b,c]:=by
 cases us with
 | nil=>cases h
 | cons a r=>obtain ⟨b,c,rfl⟩:=us2 (us:=r) (by simpa using h);exact ⟨a,b,c,rfl⟩
theorem us4 {α:Type}{us:List α} (h:us.length=4):∃ a b c d,us=[a,b,c,d]:=by
 cases us with
 | nil=>cases h
 | cons a r=>obtain ⟨b,c,d,rfl⟩:=us3 (us:=r) (by simpa using h);exact ⟨a,b,c,d,rfl⟩
theorem us5 {α:Type}{us:List α} (h:us.length=5):∃ a b c d e,us=[a,b,c,d,e]:=by
 cases us with
 | nil=>cases h
 | cons a r=>obtain ⟨b,c,d,e,rfl⟩:=us4 (us:=r) (by simpa using h);exact ⟨a,b,c,d,e,rfl⟩
theorem scm {N P:List Str}{sc:Scope} (a:sc.kind=.function:=by rfl) (b:sc.isCoroutine=false:=by rfl) (c:sc.isGenerator=false:=by rfl) (d:N.Nodup:=by decide+kernel) (e:N.take P.length=P:=by rfl) (f:∀ x∈P,sc.names.lookup x=some .local∨sc.names.lookup x=some .cell:=by decide+kernel) (g:∀ y∈sc.names,y.2≠.free:=by decide+kernel):FnScope N P sc:=⟨a,b,c,d,e,f,g⟩
end L2
namespace My
open PySem L2
end My
namespace PySem.W
open PySem PySem.Spec PySem.Calls PyProof.Rows
section
variable {prog:Program}{w:World}{A:Around}{E:Value→Shared→Prop}{s:Shared}{K:Frag}{x C:Addr}{ox:Obj}
def ClsAt (C x:Addr) (h:Heap):Prop:=∃ o,h.get? x=some o∧o.cls=.ref C
theorem ClsAt.ty {M:Model}{h:Heap} (I:ClsAt C x h):Looks M h (typeOf (.ref x)) (.ref C):=by
 obtain ⟨o,h1,h2⟩:=I
 exact h2▸(Looks.ld h1).andThen .now
structure ExcK (K:Frag) (C:Addr):Prop where
 cls:(clsIn K C).isSome=true
 ga:findIn K (.ref C) "__getattribute__"=some (some (.builtin "BaseException.__getattribute__"))
 gn:findIn K (.ref C) "__getattr__"=some none
 ca:findIn K (.ref C) "__class__"=some (some (.builtin "object.__class__"))
 sub:subIn K (.ref C) (.type "BaseException")=some true
 mro:mroIn K C (.type "object")=some true
 get:specialIn K (.builtin "object.__class__") "__get__"=some (some (.builtin "getset_descriptor.__get__"))
 tk:takesIn K (.builtin "object.__class__")=some true
theorem exc_find {M:Model}{h:Heap} (e:ExcK K C) (X:K.In h):Looks M h (Builtin.ObjectAttr.find (.ref x) (.ref C) "__class__") (.bind (.builtin "getset_descriptor.__get__") (.builtin "object.__class__")):=by
 refine (looks_findIn (M:=M) X e.ca).andThen (Looks.andThen (looks_specialIn X e.get) ?_)
 refine Looks.andThen (a:=some (Value.builtin "getset_descriptor.__get__",Value.builtin "object.__class__")) ?_ ?_
 · exact (looks_takesIn (M:=M) X e.tk).andThen .now
 · exact Looks.tag .now
theorem exc_got {tp:Value}{R:Result→Shared→Prop} (e:ExcK K C) (X:K.In s.heap) (I:ClsAt C x s.heap) (h:R (.ok (.ret (.ref C))) s):
  codeAny (model prog w) A (.call (.builtin "getset_descriptor.__get__") ⟨[.builtin "object.__class__",.ref x,tp],[]⟩) R s:=by
 obtain ⟨hp,g,dw,t,os⟩:=s
 have L0:=I.ty (M:=model prog w)
 have L1:=looks_mroIn (M:=model prog w) X e.mro
 refine codeAny_call_builtin KF.slot_gs.plain KF.entry_gs (KF.slot_gs.check _ _ _ _ _ _ _ _ KF.type_class (KF.args_gs _ _ tp) ?_)
 unfold Builtin.«getset_descriptor.__get__» Builtin.Getset_descriptor.descrGet
 rw [dga_obj]
 refine wpAny_bind (Q:=_) (wpAny_pure ?_)
 unfold Builtin.Getset_descriptor.descrGetter Builtin.Getset_descriptor.descrCheckInstance Builtin.Getset_descriptor.descrNameAndClass isInstance
 simp only [KF.owner_class]
 repeat lk
 refine And.intro (Code.quiet_builtin _ (by decide+kernel)) (codeAny_builtin KF.entry_class ?_)
 unfold Builtin.«object.__class__»
 unfold shownTypeOf
 repeat lk
 exact h
theorem exc_class {Q:Option Value→Shared→Prop} (e:ExcK K C) (X:K.In s.heap) (I:ClsAt C x s.heap) (h:Q (some (.ref C)) { s with toks:=s.toks+1 }):wpAny (model prog w) A (getAttr? (.ref x) "__class__") Q E s:=by
 obtain ⟨hh,g,d,t,os⟩:=s
 have M0:=I.ty (M:=model prog w)
 have M1:=looks_findIn (M:=model prog w) X e.ga
 have M2:=looks_findIn (M:=model prog w) X e.gn
 have M4:=looks_subIn (M:=model prog w) X e.sub
 unfold getAttr? getAttrBy?
 unfold getAttrBy
 refine wpAny_bind (wpAny_mkText (wpAny_bind (wpAny_attempt (wpAny_holding (wpAny_bind (M0.at (wpAny_bind (M1.at ?_))))))))
 have ga2:(Value.builtin "BaseException.__getattribute__" == Value.builtin "object.__getattribute__")=false:=by decide+kernel
 have ga1:(onTheHeap (Value.ref C) && Value.builtin "BaseException.__getattribute__" == Value.builtin "object.__getattribute__")=false:=by rw [ga2];rfl
 dsimp only
 rw [if_neg (by rw [ga1];decide)]
 unfold getAttrByItsOwn hookBefore
 refine wpAny_bind ?_
 rw [if_pos (show onTheHeap (Value.ref C)=true from rfl)]
 refine M2.at ?_
 unfold callGetattribute boundAndCalled
 refine wpAny_bind (wpAny_attempt (wpAny_holding ?_))
 rw [if_neg (show ¬ ((false && onTheHeap (Value.builtin "BaseException.__getattribute__"))=true) by decide)]
 have f3:=(F.attr_ValueError.ga).bind (.ref x)
 refine wpAny_bind (wpAny_of_eq f3 ?_)
 refine wpAny_call ?_
 refine codeAny_call_builtin F.attr_ValueError.ga.plain F.entry_bexc_ga ?_
 have kd:builtinKind "BaseException.__getattribute__"=some .slot:=by decide+kernel
 have sp:splitId "BaseException.__getattribute__"=some ("BaseException","__getattribute__"):=by decide+kernel
 have ha2:=F.args_bexc_ga (.ref x) (.str "__class__" t)
 have LI:Looks (model prog w) hh (isInstance (.ref x) (.type "BaseException")) true:=M0.andThen M4
 simp only [checkBuiltinCall,kd,sp]
 refine wpAny_bind (LI.at ?_)
 rw [if_neg (by decide)]
 refine wpAny_mono (Q:=fun _ s'=>s'=(⟨hh,g,d,t+1,os⟩:Shared)) (E:=fun _ _=>False) ?_ ?_ (fun _ _ z=>z.elim)
 · have hq:wpAny (model prog w) A.in1 (match Manifest.signature? "BaseException.__getattribute__" with
     | some sig=>Bind.checkArgs "BaseException.__getattribute__" sig { pos:=[Value.ref x]++[Value.str (Str.ofString "__class__") t] }
     | _=>pure ()) (fun _ s'=>s'=(⟨hh,g,d,t+1,os⟩:Shared)) (fun _ _=>False) ⟨hh,g,d,t+1,os⟩:=by
     have e:(match Manifest.signature? "BaseException.__getattribute__" with
      | some sig=>Bind.checkArgs "BaseException.__getattribute__" sig { pos:=[Value.ref x]++[Value.str (Str.ofString "__class__") t] }
      | _=>pure ())=pure ():=ha2
     rw [e]
     exact wpAny_pure rfl
   exact hq
 rintro _ _ rfl
 unfold Builtin.«object.__getattribute__»
 have M5:=exc_find (M:=model prog w) (x:=x) e X
 refine wpAny_bind (wpAny_pure (wpAny_bind (wpAny_pure (wpAny_bind (M0.at (wpAny_bind (M5.at ?_)))))))
 dsimp only
 unfold Builtin.ObjectAttr.bindTo
 show wpAny _ _ (holding [Value.builtin "object.__class__"] (call (Value.builtin "getset_descriptor.__get__") [Value.builtin "object.__class__",Value.ref x,Value.ref C]) >>= ret) _ _ _
 refine wpAny_bind (wpAny_holding (wpAny_call (exc_got (s:=⟨hh,g,d,t+1,os⟩) e X I ?_)))
 refine wpAny_pure ?_
 exact handed_on rfl (wpAny_pure h)
theorem kitx_exc (e:ExcK K C):KitX K (.ref x) (.ref C) (ClsAt C x) where
 ty:=fun _ _ _ I=>I.ty
 it:=fun _ _ X _=>by
  obtain ⟨cdD,hcD⟩:=Option.isSome_iff_exists.mp e.cls
  unfold clsIn at hcD
  split at hcD
  · rename_i c' d' cd' sl' ho
    intro A' Q' E' s' k q
    unfold isType loadHead
    exact wpAny_bind (wpAny_loadPart (k _ _ (X _ _ ho)) (wpAny_pure q))
  · cases hcD
 ne:=fun h tp dd its n sl X htp=>by
  obtain ⟨cdD,hcD⟩:=Option.isSome_iff_exists.mp e.cls
  refine Bool.eq_false_iff.mpr fun q=>?_
  have e:C=tp:=Value.ref.inj (beq_iff_eq.mp q)
  subst e
  unfold clsIn at hcD
  split at hcD
  · rename_i c' d' cd' sl' ho
    have z:=(X _ _ ho).symm.trans htp
    cases z
  · cases hcD
 ca:=fun X I k=>exc_class e X I k
end
end PySem.W
namespace L2
open PySem PySem.Spec PyProof.Rows
section
variable {P:Program}{w:World}{H H':Hp}{h h':Heap}{a:Addr}{o:HO}
theorem ObjOk.has (x:ObjOk P w H h a o):∃ u,h.get? a=some u:=by
 cases o with
 | lst xs=>obtain ⟨_,_,_,_,e⟩:=x;exact ⟨_,e⟩
 | tup xs=>obtain ⟨_,_,_,o,e,_⟩:=x;exact ⟨_,e⟩
 | dK kvs=>obtain ⟨_,_,_,_,o,_,_,e,_⟩:=x;exact ⟨_,e⟩
 | dT kvs=>obtain ⟨_,_,_,_,o,_,_,e,_⟩:=x;exact ⟨_,e⟩
 | set S n=>obtain ⟨o,_,_,_,e,_⟩:=x;exact ⟨_,e⟩
 | ins C dx fs=>obtain ⟨_,_,_,e,_⟩:=x;exact ⟨_,e⟩
 | own y=>obtain ⟨_,e⟩:=x;exact ⟨_,e⟩
 | xd fs=>obtain ⟨_,⟨_,_,_,e,_⟩,_⟩:=x;exact ⟨_,e⟩
 | rng lo hi=>obtain ⟨_,_,_,e⟩:=x;exact ⟨_,e⟩
 | frz ob u=>obtain ⟨e,_⟩:=x;exact ⟨_,e⟩
 | tbl ps=>exact ⟨_,(show h.get? a=some _ from x)⟩
 | met f y=>exact ⟨_,(show h.get? a=some _ from x)⟩
 | ext φ=>obtain ⟨_,⟨_,e⟩,_⟩:=x;exact ⟨_,e⟩
theorem HOk.only (x:HOk P w H h) (k:∀ b u,H b≠none→h.get? b=some u→h'.get? b=some u):HOk P w H h':=fun a o e=>
 (x a o e).stay (fun b u hb q=>k b u (by
  rcases hb with hb | hb
  · rw [hb,e];exact fun z=>nomatch z
  · rw [hb];exact fun z=>nomatch z) q) (fun _ q=>q) fun _ _ q=>q
end
def FlAt (B:Heap) (l:List Env) (e:Addr) (cls a0 fl:Value) (h:Heap):Prop:=B.StaysIn h∧B.get? e=none∧h.FunFrames B l∧h.TracedAtW B e cls a0 fl
theorem FlAt.cls {B:Heap}{l:List Env}{e:Addr}{cls a0 fl:Value}{h:Heap} (x:FlAt B l e cls a0 fl h):∃ o vs,h.get? e=some o∧o.cls=cls∧o.data=.fields vs:=by
 obtain ⟨_,_,_,oe,vs,_,_,_,he,hc,hd,_⟩:=x
 exact ⟨oe,vs,he,hc.1,hd⟩
theorem FlAt.notStk {B:Heap}{l:List Env}{e:Addr}{cls a0 fl:Value}{h:Heap} (x:FlAt B l e cls a0 fl h):e∉frs l:=fun z=>by
 obtain ⟨o,vs,h1,_,h2⟩:=x.cls
 obtain ⟨_,o',h3,h4⟩:=x.2.2.1.mem z
 rw [h1] at h3
 cases h3
 exact h4 vs h2
section
variable {M:Model}{A:Around}{E:Value→Shared→Prop}{s:Shared}{B:Heap}{env:Env}{outer l:List Env}{L e:Addr}{cls a0 fl:Value}{Q:Unit→Shared→Prop}
theorem note_fl (hfr:A.frames=some (env::outer)) (hf:env.frame=some L) (h:FlAt B (env::outer) e cls a0 fl s.heap)
  (hQ:∀ h',FlAt B (env::outer) e cls a0 (rawInt L) h'→s.heap.UpToSlots h'→Q () { s with heap:=h' }):wpAny M A (noteFrame (.ref e) env) Q E s:=by
 by_cases hfl:(fl == rawInt L)=true
 · have:fl=rawInt L:=beq_iff_eq.mp hfl
   subst this
   exact wpAny_noteFrame_againW hf h.2.2.2 (hQ s.heap h (Heap.UpToSlots.refl _))
 obtain ⟨f1,f2,f3,oe,vs,tb,otb,ts,he,⟨hcls,h0⟩,hd,h1,hntb,htbe,htb,hdtb,h3⟩:=h
 subst hcls
 have rest:∀ b,b≠tb→(s.heap.update tb (Obj.mapFields (·.setIfInBounds 3 Value.none))).get? b=s.heap.get? b:=fun b hb=>Heap.get?_update_other _ _ (Ne.symm hb)
 have noRec:∀ b o,s.heap.get? b=some o→(∀ vs,o.data≠.fields vs)→b≠tb:=fun b o hb hnf q=>by
  rw [q,htb] at hb
  cases hb
  exact hnf ts hdtb
 unfold noteFrame
 simp only [hf]
 refine wpAny_bind (wpAny_field he hd h1 ?_)
 rw [if_pos (show (Value.ref tb != Value.none)=true from by simp)]
 refine wpAny_bind (wpAny_field htb hdtb h3 ?_)
 rw [if_neg hfl]
 refine wpAny_bind (wpAny_setField htb hdtb (Array.getElem?_eq_some_iff.mp h3).1 ?_)
 refine wpAny_entryW hfr (f3.of_keeps fun b o hb hnf=>⟨o,(rest b (noRec b o hb hnf)).trans hb,rfl⟩) hf ((rest e (Ne.symm htbe)).trans he)
  (fun b o hbo=>(rest b fun q=>by rw [q,hntb] at hbo;cases hbo).trans (f1 b o hbo)) f2 hd (Array.getElem?_eq_some_iff.mp h1).1 h0 fun h' ⟨x1,x2,x3,x4⟩=>?_
 exact hQ h' ⟨x1,f2,x2,x3⟩ fun b o hb hnf=>x4 b o ((rest b (noRec b o hb hnf)).trans hb) hnf
theorem land_fl (h:FlAt B l e cls a0 fl s.heap) (hQ:∀ h',FlAt B l e cls a0 .none h'→s.heap.UpToSlots h'→Q () { s with heap:=h' }):wpAny M A (setFlight (.ref e) none) Q E s:=
 wpAny_setFlight_noneW h.1 h.2.2.1 h.2.2.2 fun h' k1 k2 k3 k4=>hQ h' ⟨k1,h.2.1,k2,k3⟩ fun b o hb hn=>⟨o.slots,k4 b o hb hn⟩
theorem leave_fl (hfr:A.frames=some (env::outer)) (hf:env.frame=some L) (h:FlAt B (env::outer) e cls a0 fl s.heap)
  (hQ:∀ h',FlAt B outer e cls a0 .none h'→s.heap.UpToSlots h'→Q () { s with heap:=h' }):wpAny M A (leaving env (.ref e)) Q E s:=by
 unfold leaving
 refine wpAny_bind (note_fl hfr hf h fun h1 x1 u1=>?_)
 refine land_fl (s:={ s with heap:=h1 }) x1 fun h2 x2 u2=>hQ h2 ⟨x2.1,x2.2.1,x2.2.2.1.2.2,x2.2.2.2⟩ (u1.trans u2)
theorem put_fl {fo:Option Addr} (h:FlAt B l e cls a0 fl s.heap) (hQ:∀ h',FlAt B l e cls a0 (fo.elim Value.none fun f=>rawInt f) h'→s.heap.UpToSlots h'→Q () { s with heap:=h' }):wpAny M A (setFlight (.ref e) fo) Q E s:=by
 obtain ⟨f1,f2,f3,oe,vs,tb,otb,ts,he,hcls,hd,h1,hntb,htbe,htb,hdtb,h3⟩:=h
 have three:3 < ts.size:=(Array.getElem?_eq_some_iff.mp h3).1
 have rest:∀ b,b≠tb→(s.heap.update tb (Obj.mapFields (·.setIfInBounds 3 (fo.elim Value.none fun f=>rawInt f)))).get? b=s.heap.get? b:=fun b hb=>Heap.get?_update_other _ _ (Ne.symm hb)
 have noRec:∀ b o,s.heap.get? b=some o→(∀ vs,o.data≠.fields vs)→b≠tb:=fun b o hb hnf q=>by
  rw [q,htb] at hb
  cases hb
  exact hnf ts hdtb
 unfold setFlight
 refine wpAny_bind (wpAny_field he hd h1 ?_)
 rw [if_pos (show (Value.ref tb != Value.none)=true from by simp)]
 refine wpAny_setField htb hdtb three (hQ _ ⟨fun b o hbo=>(rest b fun q=>by rw [q,hntb] at hbo;cases hbo).trans (f1 b o hbo),f2,f3.of_keeps fun b o hb hnf=>⟨o,(rest b (noRec b o hb hnf)).trans hb,rfl⟩,?_⟩ fun b o hb hnf=>⟨o.slots,(rest b (noRec b o hb hnf)).trans hb⟩)
 exact ⟨oe,vs,tb,_,_,(rest e (Ne.symm htbe)).trans he,hcls,hd,h1,hntb,htbe,Heap.get?_update_self _ htb (Obj.isFreed_of_fields (Obj.data_mapFields hdtb _)),Obj.data_mapFields hdtb _,by simp [three]⟩
end
structure Hold (B:Heap) (fs ex:List Addr) (H H':Hp) (h h':Heap):Prop where
 a1:∀ b o,H' b≠none→h'.get? b=some o→B.get? b=some o
 a2:∀ b o,h.get? b=some o→H b=none→b∉fs→b∉ex→B.get? b=some o
 a3:∀ b o,h.get? b=some o→b∉fs→b∉ex→∃ o',B.get? b=some o'
section
variable {P:Program}{w:World}{B h h1 h2:Heap}{fs ex:List Addr}{H H':Hp}
theorem un_up (u:Un fs ex H H' h h1) (k:Hold B fs ex H H' h h1) (hB:B.StaysIn h2) (up:h1.UpToSlots h2) (fr:∀ b∈fs,∀ o,h1.get? b=some o→∀ vs,o.data≠.fields vs):Un fs ex H H' h h2 where
 keep:=fun b o q n hb he=>hB _ _ (k.a2 b o q n hb he)
 slot:=fun b o q n hb he=>by
  obtain ⟨sl,e⟩:=u.slot b o q n hb he
  obtain ⟨sl',e'⟩:=up b _ e (fr b hb _ e)
  exact ⟨sl',e'⟩
 free:=u.free
 there:=fun b o q he=>by
  by_cases hb:b∈fs
  · obtain ⟨o',e⟩:=u.there b o q he
    obtain ⟨sl',e'⟩:=up b _ e (fr b hb _ e)
    exact ⟨_,e'⟩
  · obtain ⟨o',e⟩:=k.a3 b o q hb he
    exact ⟨o',hB _ _ e⟩
 tups:=u.tups
 frzs:=u.frzs
 tbls:=u.tbls
theorem hold_up (hok:HOk P w H' h1) (k:Hold B fs ex H H' h h1) (hB:B.StaysIn h2):Hold B fs ex H H' h h2∧HOk P w H' h2:=by
 refine ⟨⟨fun b o n q=>?_,k.a2,k.a3⟩,hok.only fun b u n q=>hB _ _ (k.a1 b u n q)⟩
 cases e:H' b with
 | none=>exact absurd e n
 | some x=>
  obtain ⟨u,hu⟩:=(hok b x e).has
  have:=k.a1 b u n hu
  have z:=hB _ _ this
  rw [q] at z
  cases z
  exact this
end
structure Fly (P:Program) (w:World) (l:List Env) (H H':Hp) (h:Heap) (ea:Addr) (cls:Value) (h':Heap):Prop where
 ex:∃ B a0,FlAt B l ea cls a0 .none h'∧Hold B (frs l) [] H H' h h'
 un:Un (frs l) [] H H' h h'
 hok:HOk P w H' h'
def CXe (P:Program) (w:World):CXT:=fun l H s E e s'=>∃ ea cls H',e=.ref ea∧s'.os=s.os∧AllBare s'.gens∧Fly P w l H H' s.heap ea cls s'.heap∧E cls none H'
def FlI (X:Cx) (pins:List (Addr × Obj)) (σ:St) (E:XK) (e:Value) (s':Shared):Prop:=∃ ea cls H' B a0 fl,e=.ref ea∧Inv X pins σ H' s'∧FlAt B X.stack ea cls a0 fl s'.heap∧
 Hold B X.fs X.ex X.H₀ H' X.s₀.heap s'.heap∧(∀ p∈X.pn++pins,B.get? p.1=some p.2)∧E cls none H'
section
variable {X:Cx}{pins:List (Addr × Obj)}{σ:St}{H H':Hp}{s s':Shared}{B h2:Heap}
theorem Inv.up (I:Inv X pins σ H s) (k:Hold B X.fs X.ex X.H₀ H X.s₀.heap s.heap) (hp:∀ p∈X.pn++pins,B.get? p.1=some p.2) (hB:B.StaysIn h2) (up:s.heap.UpToSlots h2):Inv X pins σ H { s with heap:=h2 }:=by
 have ic:∀ c v,s.heap.IsCell c v→h2.IsCell c v:=fun c v ⟨o,e,d⟩=>by
  obtain ⟨sl,e'⟩:=up c o e fun vs z=>by rw [d] at z;cases z
  exact ⟨_,e',d⟩
 obtain ⟨m,hn,hl⟩:=I.loc
 refine ⟨I.ok,I.os,I.bare,un_up I.base k hB up fun b hb o e=>?_,⟨m,up.ns hn,fun i x v e1 e2 e3=>?_⟩,fun x c e=>?_,I.free,I.freeC,fun p hp'=>?_,(hold_up I.hok k hB).2,I.len⟩
 · obtain ⟨_,o',e',d⟩:=I.funs.mem hb
   rw [e] at e'
   cases e'
   exact d
 · obtain ⟨u,r,lk⟩:=hl i x v e1 e2 e3
   refine ⟨u,r,?_⟩
   rcases lk with lk | ⟨q,c,e,z⟩
   · exact .inl lk
   · exact .inr ⟨q,c,e,ic _ _ z⟩
 · obtain ⟨v,z⟩:=I.cell x c e
   exact ⟨v,ic _ _ z⟩
 · exact ⟨hB _ _ (hp p hp'),(I.pin p hp').2⟩
theorem Inv.notStk (I:Inv X pins σ H s) {b:Addr}{o:Obj} (e:X.s₀.heap.get? b=some o) (h:b∉X.fs):b∉frs X.stack:=fun z=>by
 rcases List.mem_cons.mp (I.stkSub b z) with q | q
 · exact absurd (Nat.lt_of_lt_of_le (Heap.lt_size e) I.ok.above) (by rw [q];exact Nat.lt_irrefl _)
 · exact h q
theorem Inv.flew {E:XK}{e:Value} (I:Inv X pins σ H s) (h:CXe X.prog X.w X.stack H s E e s'):FlI X pins σ E e s':=by
 obtain ⟨ea,cls,H',rfl,os,bare,F,hE⟩:=h
 obtain ⟨B,a0,fl,k⟩:=F.ex
 refine ⟨ea,cls,H',B,a0,.none,rfl,I.call' os F.un F.hok bare (fun b z=>absurd z (by simp)),fl,⟨k.a1,fun b o e n hb hx=>?_,fun b o e hb hx=>?_⟩,fun p hp=>?_,hE⟩
 · exact k.a2 b o (I.base.keep b o e n hb hx) (I.base.free b o e n hx) (I.notStk e hb) (by simp)
 · obtain ⟨o',e'⟩:=I.base.there b o e hx
   exact k.a3 b o' e' (I.notStk e hb) (by simp)
 · obtain ⟨h1,h2,h3,h4,_⟩:=I.pin p hp
   refine k.a2 p.1 p.2 h1 h2 (fun z=>?_) (by simp)
   rcases List.mem_cons.mp (I.stkSub _ z) with q | q
   · exact h3 q
   · exact h4 q
end
def PX (X:Cx) (e:Expr) (t:XK→TE):Prop:=
 ∀ (pins:List (Addr × Obj)) (s:Shared) (σ:St) (H:Hp) (Q:VK) (E:XK),Inv X pins σ H s→t E σ H Q→wpAny (model X.prog X.w) X.A (eval e X.env) (EP X pins σ Q) (FlI X pins σ E) s
def XeF (X:Cx) (E:XK) (e:Value) (s':Shared):Prop:=(∃ pins σ,FlI X pins σ E e s')∨
 ∃ pins σ H h C ea args,e=.ref ea∧Inv X pins σ H { s' with heap:=h }∧Heap.MadeExcOf h s'.heap ea (.ref C) args∧E (.ref C) none H
section
variable {P:Program}{w:World}{K:PySem.W.Frag}{mg:Str→Option Value}{base:Heap}
theorem Inv.frFields {X:Cx}{pins:List (Addr × Obj)}{σ:St}{H:Hp}{s:Shared} (I:Inv X pins σ H s):∀ b∈X.fs,∀ o,s.heap.get? b=some o→∀ vs,o.data≠.fields vs:=fun b hb o e=>by
 obtain ⟨_,o',e',d⟩:=I.funs.mem hb
 rw [e] at e'
 cases e'
 exact d
theorem Inv.hold {X:Cx}{pins:List (Addr × Obj)}{σ:St}{H:Hp}{s:Shared} (I:Inv X pins σ H s):Hold (PySem.W.hideAll s.heap (frs X.stack)) X.fs X.ex X.H₀ H X.s₀.heap s.heap where
 a1:=fun b o n e=>PySem.W.hideAll_get _ e fun z=>n (I.stkFree b z)
 a2:=fun b o e n hb hx=>PySem.W.hideAll_get _ (I.base.keep b o e n hb hx) (I.notStk e hb)
 a3:=fun b o e hb hx=>by
  obtain ⟨o',e'⟩:=I.base.there b o e hx
  exact ⟨o',PySem.W.hideAll_get _ e' (I.notStk e hb)⟩
theorem XeF.out {N:List Str}{qual:Str}{scope:Scope}{f:Addr}{cd:Value}{A:Around}{outer:List Env}{s:Shared}{H:Hp}{E:XK}{e:Value}{s':Shared} (h:XeF (cxOf (CXe P w) P w K mg base N qual scope f cd A outer s H E) E e s'):
  (cxOf (CXe P w) P w K mg base N qual scope f cd A outer s H E).xe e s':=by
 rcases h with ⟨pins,σ,ea,cls,H',B,a0,fl,rfl,I,F,k,_,hE⟩ | ⟨pins,σ,H',h,C,ea,args,rfl,I,hx,hE⟩
 · refine leave_fl (L:=s.heap.objs.size) I.ok.frames rfl F fun h' F' up=>?_
   obtain ⟨k',hok'⟩:=hold_up I.hok k F'.1
   exact ⟨ea,cls,H',rfl,I.os,I.bare,⟨⟨B,a0,F',k'⟩,un_up I.base k F'.1 up I.frFields,hok'⟩,hE⟩
 · refine wpAny_leaves_madeW (base:=PySem.W.hideAll h (frs (cxOf (CXe P w) P w K mg base N qual scope f cd A outer s H E).stack)) (L:=s.heap.objs.size) (h:=h) I.ok.frames rfl (fun b o q=>PySem.W.of_hideAll _ q)
     (PySem.W.funFrames_hide I.stack fun env he a hf=>List.mem_filterMap.mpr ⟨env,he,hf⟩) hx fun h' t F' _ _ up=>?_
   have k:=I.hold
   obtain ⟨k',hok'⟩:=hold_up I.hok k F'.1
   have up':h.UpToSlots h':=(Heap.UpToSlots.of_keeps hx.keeps).trans up
   exact ⟨ea,.ref C,H',rfl,I.os,I.bare,⟨⟨_,_,F',k'⟩,un_up I.base k F'.1 up' I.frFields,hok'⟩,hE⟩
theorem Fun.okX {x qual:Str}{st:Stmt}{f:Addr}{fd:FuncData}{N ps:List Str}{k:Nat}{sp:Sp} (F:Fun K x qual st f fd) (S:FnScope N ps (defScope st)) (len:∀ vs H Q E,sp vs H Q E→vs.length=ps.length)
  (hbody:∀ (cdv:Value) (A:Around) (outer:List Env) (s:Shared) (H:Hp) (vs:List V) (Q:VK) (E:XK),Room k (A.deeper (envOfC qual (defScope st) s.heap.objs.size f cdv))→sp vs H Q E→
   ∃ t,PSs ((cxOf (CXe P w) P w K mg base N qual (defScope st) f cdv A outer s H E).wish (XeF (cxOf (CXe P w) P w K mg base N qual (defScope st) f cdv A outer s H E) E)) (defBody st) t∧t { nx:=fun _ H'=>Q .non H',rt:=Q } (start N vs) H):FnOk P w K mg base (CXe P w) (k+1) f fd ps sp:=by
 obtain ⟨oc,od,kV,doc,pm,an,cdv,ct,osl,rfl,lk,hcd⟩:=F.ex
 refine fn_of lk hcd S len fun A outer s H vs Q E hr hsp=>?_
 obtain ⟨t,h,q⟩:=hbody cdv A outer s H vs Q E hr hsp
 exact ⟨t,fun pins s1 σ1 H1 D I hw=>wpAny_mono (h pins s1 σ1 H1 D (I.wish _) hw) (fun _ _ q=>q.unwish) fun _ _ z=>XeF.out z,q⟩
end
abbrev veMro:List Value:=[.type "ValueError",.type "Exception",.type "BaseException",.type "object"]
def VeP (K:PySem.W.Frag) (C:Addr):Prop:=∃ (dd:Option Addr) (nm qn:Str) (bs sub:List Value) (B ns:Addr) (hd ab:Bool) (sn:List Str) (col:Option Bool) (k0 k1 k2 k3 k5:Option Value),
 K.lookup C=some ⟨.type "type",dd,.cls ⟨nm,bs,.ref C::.ref B::veMro,ns,qn,hd,sn,sub,ab,col,false⟩, #[k0,k1,k2,k3,some (.builtin "ValueError.__new__"),k5]⟩∧PySem.W.nsOkIn K ns=true∧PySem.W.nsIn K ns "__init__"=some none∧PySem.W.tailIn K veMro (.ref B::veMro)=true
noncomputable def isVe (K:PySem.W.Frag) (C:Addr):Bool:=@decide (VeP K C) (Classical.propDecidable _)
theorem exc_obj {K:PySem.W.Frag}{h:Heap}{C:Addr} (X:K.In h) (q:isVe K C=true):∃ bm N nm qn bs hdct sn sub ab col dd k0 k1 k2 k3 k5 mN,h.get? C=some (excClassObj nm qn C N bs bm hdct sn sub ab col dd k0 k1 k2 k3 k5 "ValueError.__new__")∧h.Ns N mN∧mN "__init__"=none∧OwnTail h veMro bm:=by
 obtain ⟨dd,nm,qn,bs,sub,B,ns,hd,ab,sn,col,k0,k1,k2,k3,k5,ho,hok,hni,ht⟩:=@of_decide_eq_true _ (Classical.propDecidable _) q
 exact ⟨.ref B::veMro,ns,nm,qn,bs,hd,sn,sub,ab,col,dd,k0,k1,k2,k3,k5,_,X _ _ ho,.of_isNs (PySem.W.isNs_of_in X hok),PySem.W.nsMap_none_of_in X hok hni,PySem.W.tail_of_in X ht⟩
def tRaise (C:Addr) (E:XK) (ta:TA):TS:=fun _ σ H=>ta σ H fun vs H1=>vs.length≤sizeLine∧E (.ref C) none H1
theorem ps_raise {X:Cx}{E:XK}{C:Addr}{x:Str}{np cpos pos:Pos}{e:Expr}{es:List Expr}{ta:TA} (hc:X.calm=true) (hg:Gl X x) (hm:X.mg x=some (.ref C)) (q:isVe X.K C=true) (ha:PA X.nox (e::es) ta)
  (hdb:(x == ("__debug__":Str))=false:=by decide) (he:starEach (e::es) X.env=(false,eval e X.env)::starEach es X.env:=by rfl) (hpl:(backTo cpos (starEach es X.env)).any (·.1)=false:=by rfl):
  PS (X.wish (XeF X E)) (.Raise (some (.Call (.Name x np) (e::es) [] cpos)) none pos) (tRaise C E ta):=by
 intro pins s σ H D I h
 have I0:=I.unwish
 obtain ⟨bm,N,nm,qn,bs,hdct,sn,sub,ab,col,dd,k0,k1,k2,k3,k5,mN,hC,hN,hni,T⟩:=exc_obj I0.mod.kin q
 refine wpAny_Raise_call_subT (C:=C) (nm:=nm) (q:=qn) (N:=N) (bs:=bs) (bm:=bm) (hdct:=hdct) (sn:=sn) (sub:=sub) (ab:=ab) (col:=col) (dd:=dd) (k0:=k0) (k1:=k1) (k2:=k2) (k3:=k3) (k5:=k5)
  F.excBase_ValueError (mN:=mN) (T.hasType (by decide+kernel)) (I0.ok.hd hc) (by rw [he];show (false || (backTo cpos (starEach es X.env)).any (·.1))=false;rw [hpl];rfl) hni (ld_glob I hg hm ⟨rfl,?_⟩ hdb)
 have z:=ha cpos pins s σ H _ (I0.wish _) h
 show wpAny _ _ (evalArgs (.ref C) true (backTo cpos (starEach (e::es) X.env)) []) _ _ _
 rw [he] at z ⊢
 refine Calls.evalArgs_plain (wpAny_mono z (fun vs s2 ⟨ws,H1,I1,r,hl,hE⟩=>?_) fun _ _ z=>False.elim z)
 have I1:=I1.unwish
 exact ⟨rfl,by rw [← r.length];exact hl,I1.bk _ _ hC,hN.keeps I1.bk,T.keeps I1.bk,fun h' ea hx=>.inr ⟨pins,σ,H1,s2.heap,C,ea,vs,rfl,I1,hx,hE⟩⟩
def Cx.caught (X:Cx) (ea:Addr):Cx:={ X with A:=X.A.mark (some (.ref ea)),calm:=false,xe:=fun _ _=>False }
section
variable {X:Cx}{pins:List (Addr × Obj)}{σ:St}{H:Hp}{s:Shared}{ea:Addr}
theorem Inv.caught (I:Inv X pins σ H s):Inv (X.caught ea) pins σ H s:=
 ⟨⟨I.ok.mod,I.ok.kind,I.ok.glob,I.ok.blt,I.ok.above,I.ok.inj,I.ok.has,I.ok.cab,(fun z=>nomatch (show false=true from z)),I.ok.frames,I.ok.stk,I.ok.exf,I.ok.bs,I.ok.bsz,I.ok.noex,I.ok.exfs,I.ok.funs,I.ok.frf⟩,I.os,I.bare,I.base,I.loc,I.cell,I.free,I.freeC,I.pin,I.hok,I.len⟩
theorem Inv.uncaught (ok:X.Ok) (I:Inv (X.caught ea) pins σ H s):Inv X pins σ H s:=⟨ok,I.os,I.bare,I.base,I.loc,I.cell,I.free,I.freeC,I.pin,I.hok,I.len⟩
theorem Inv.lose {k:Nat}{n:Str}{m:Str→Option Value}{h':Heap}{v:Option Value}{t':Nat} (I:Inv X pins σ H s) (hN:X.N.Nodup) (hk:X.N[k]?=some n)
  (hl:∀ (i:Nat) (x:Str) (v:V),X.N[i]?=some x→σ[i]?=some (some v)→Vis X.env.scope x→∃ u,RelV v u∧Look X.env s.heap m x u)
  (hn':h'.Ns X.env.locals (fun x=>if x=n then v else m x)) (hs:Heap.SameBut X.env.locals s.heap h'):Inv X pins (σ.set k none) H { s with heap:=h',toks:=t' }:=by
 have cne:=I.cne
 have hok:HOk X.prog X.w H h':=fun b ob e=>(I.hok b ob e).stay (fun c w' hc q=>(hs.2 c (by
  rintro rfl
  rcases hc with hc | hc
  · rw [← hc,I.free] at e;cases e
  · rw [I.free] at hc;cases hc)).trans q) (fun _ q=>q) fun _ _ q=>q
 refine ⟨I.ok,I.os,I.bare,⟨fun b o e n hb hx=>?_,fun b o e n hb hx=>?_,I.base.free,fun b o e hx=>?_,I.base.tups,I.base.frzs,I.base.tbls⟩,⟨_,hn',fun j y v' e1 e2 e3=>?_⟩,fun y c e=>?_,I.free,I.freeC,fun p hp=>?_,hok,by simpa using I.len⟩
 · exact (hs.2 b (Nat.ne_of_lt (Nat.lt_of_lt_of_le (Heap.lt_size e) I.ok.above))).trans (I.base.keep b o e n hb hx)
 · obtain ⟨sl,e1⟩:=I.base.slot b o e n hb hx
   exact ⟨sl,(hs.2 b (Nat.ne_of_lt (Nat.lt_of_lt_of_le (Heap.lt_size e) I.ok.above))).trans e1⟩
 · obtain ⟨o',e1⟩:=I.base.there b o e hx
   exact ⟨o',(hs.2 b (Nat.ne_of_lt (Nat.lt_of_lt_of_le (Heap.lt_size e) I.ok.above))).trans e1⟩
 · by_cases hj:j=k
   · subst hj
     rw [List.getElem?_set_self (by rw [I.len];exact (List.getElem?_eq_some_iff.mp hk).1)] at e2
     cases e2
   · rw [List.getElem?_set_ne (Ne.symm hj)] at e2
     obtain ⟨u',r',q⟩:=hl j y v' e1 e2 e3
     refine ⟨u',r',?_⟩
     rcases q with ⟨k',e⟩ | ⟨k',c,e,z⟩
     · refine .inl ⟨k',?_⟩
       have:y≠n:=fun e=>hj (nodup_ix hN e1 (e▸hk))
       simp [this,e]
     · exact .inr ⟨k',c,e,z.sameBut hs (cne y c e)⟩
 · obtain ⟨w',z⟩:=I.cell y c e
   exact ⟨w',z.sameBut hs (cne y c e)⟩
 · obtain ⟨h1,h2,h3,h4,h5⟩:=I.pin p hp
   exact ⟨(hs.2 p.1 h3).trans h1,h2,h3,h4,h5⟩
theorem Inv.exc {B:Heap}{C:Addr}{a0 fl:Value} (I:Inv X pins σ H s) (hst:X.stack=X.env::X.outer) (hex:X.ex=[]) (hfr:X.env.frame=some X.env.locals) (F:FlAt B X.stack ea (.ref C) a0 fl s.heap) (k:Hold B X.fs X.ex X.H₀ H X.s₀.heap s.heap) (kp:∀ p∈X.pn++pins,B.get? p.1=some p.2):
  H ea=none∧Inv X pins σ (upd H ea (.ext (PySem.W.ClsAt C ea))) s:=by
 obtain ⟨oe,vs,he,hc,hd⟩:=F.cls
 have hea:H ea=none:=by
  cases z:H ea with
  | none=>rfl
  | some o=>
   have:=k.a1 ea oe (by rw [z];exact fun q=>nomatch q) he
   rw [F.2.1] at this
   cases this
 have nS:=F.notStk
 have sub:∀ b∈X.fs,b∈frs X.stack:=fun b hb=>by
  rw [hst]
  obtain ⟨env',h1,h2⟩:=List.mem_filterMap.mp hb
  exact List.mem_filterMap.mpr ⟨env',List.mem_cons_of_mem _ h1,h2⟩
 have nL:X.env.locals≠ea:=fun z=>nS (by rw [hst, ← z];exact List.mem_filterMap.mpr ⟨X.env,List.mem_cons_self ..,hfr⟩)
 have nb:∀ b o,X.s₀.heap.get? b=some o→b≠ea:=fun b o e z=>by
  subst z
  by_cases hb:b∈X.fs
  · exact nS (sub b hb)
  · obtain ⟨o',e'⟩:=k.a3 b o e hb (by rw [hex];simp)
    rw [F.2.1] at e'
    cases e'
 refine ⟨hea,I.ok,I.os,I.bare,⟨I.base.keep,I.base.slot,fun b o e n hx=>?_,I.base.there,fun b xs e=>?_,fun b o u e=>?_,fun b ps e=>?_⟩,I.loc,I.cell,?_,fun x c e=>?_,fun p hp=>?_,fun b o e=>?_,I.len⟩
 · rw [upd_ne (nb b o e)];exact I.base.free b o e n hx
 · have:=I.base.tups b xs e
   rw [upd_ne (ne_of_none this hea)];exact this
 · have:=I.base.frzs b o u e
   rw [upd_ne (ne_of_none this hea)];exact this
 · obtain ⟨more,this⟩:=I.base.tbls b ps e
   exact ⟨more,by rw [upd_ne (ne_of_none this hea)];exact this⟩
 · rw [upd_ne nL];exact I.free
 · obtain ⟨v,o,h1,h2⟩:=I.cell x c e
   rw [upd_ne (fun z=>by rw [z,he] at h1;cases h1;rw [hd] at h2;cases h2)]
   exact I.freeC x c e
 · obtain ⟨h1,h2,h3⟩:=I.pin p hp
   refine ⟨h1,?_,h3⟩
   rw [upd_ne (fun z=>by have:=kp p hp;rw [z,F.2.1] at this;cases this)]
   exact h2
 · by_cases hb:b=ea
   · subst hb
     rw [upd_same] at e
     cases e
     exact ⟨⟨oe,he,hc⟩,⟨oe,he⟩,fun h1 h2 ⟨o,q1,q2⟩ kk=>⟨o,kk o q1,q2⟩⟩
   · rw [upd_ne hb] at e
     refine (I.hok b o e).stay (fun c u _ q=>q) (fun c q=>?_) fun c xs q=>?_
     · rw [upd_ne (ne_of_none q hea)];exact q
     · rw [upd_ne (ne_of_none q hea)];exact q
end
def exEnds (k:Nat) (D:Ends):Ends:={ nx:=fun σ H=>D.nx (σ.set k none) H,rt:=D.rt,bk:=fun σ H=>D.bk (σ.set k none) H,ct:=fun σ H=>D.ct (σ.set k none) H }
section
variable {X:Cx}
inductive ClsV:V→Value→Prop
 | ty (T:String):ClsV (.ty T) (.type T)
 | own (D:Addr):ClsV (.ref D) (.ref D)
def rIsX (K:PySem.W.Frag):List V→Hp→VK→Prop:=fun vs H Q=>∃ a C c u b,vs=[.ref a,c]∧H a=some (.ext (PySem.W.ClsAt C a))∧PySem.W.ExcK K C∧ClsV c u∧PySem.W.kitOne K (.ref C) u=some b∧Q (.bl b) H
theorem call_isX:CallR X (.builtin "isinstance") (rIsX X.K):=by
 intro pins s σ H xs us Q I r h
 obtain ⟨a,C,c,u,b,rfl,ha,ek,cv,e,q⟩:=h
 obtain ⟨v1,w1,rfl,r1,r2⟩:∃ v1 w1,us=[v1,w1]∧RelV (.ref a) v1∧RelV c w1:=by
  cases r with
  | cons r1 t=>
   cases t with
   | cons r2 t2=>
    cases t2
    exact ⟨_,_,rfl,r1,r2⟩
 cases (show v1=Value.ref a from r1)
 have e2:w1=u:=by
  cases cv with
  | ty T=>exact r2
  | own D=>exact r2
 subst e2
 obtain ⟨p,_⟩:=(show ObjOk X.prog X.w H s.heap a (.ext (PySem.W.ClsAt C a)) from I.hok a _ ha)
 exact PySem.W.kia_one (PySem.W.kitx_exc ek) I.kIn p e (fun z=>nomatch z) fun tk=>⟨.bl b,H,I.tok tk,rfl,q⟩
theorem call_isXK {K:PySem.W.Frag} (h:X.K=K):CallR X (.builtin "isinstance") (rIsX K):=by
 subst h
 exact call_isX
end
structure Rdx (P:Program) (w:World) (K:PySem.W.Frag) (mg:Str→Option Value) (base:Heap) (x:Str) (ps:List Str) (k:Nat) (sp:Sp) where
 f:Addr
 fd:FuncData
 ok:FnOk P w K mg base (CXe P w) k f fd ps sp
 mgx:mg x=some (.ref f)
 kp:PySem.W.keepIn K (.ref f)=true
 bd:Binds K fd ps []
def strKey (e:DictEntry):Bool:=match e.key with
 | .str _ _=>true
 | _=>false
theorem nsOk_mk {K:PySem.W.Frag}{N:Addr}{c:Value}{d:Option Addr}{es:Array DictEntry}{n:Nat}{sl:Array (Option Value)} (l:K.lookup N=some ⟨c,d,.dict es n,sl⟩) (h:es.toList.all strKey=true):PySem.W.nsOkIn K N=true:=by
 unfold PySem.W.nsOkIn
 rw [l]
 rw [Array.all_toList] at h
 exact h
theorem isVe_mk {K:PySem.W.Frag}{C B ns:Addr}{dd od:Option Addr}{nm qn:Str}{bs sub:List Value}{hd ab:Bool}{sn:List Str}{col:Option Bool}{k0 k1 k2 k3 k5:Option Value}{oc:Value}{cdB:ClassData}{osl:Array (Option Value)}
  (l:K.lookup C=some ⟨.type "type",dd,.cls ⟨nm,bs,.ref C::.ref B::veMro,ns,qn,hd,sn,sub,ab,col,false⟩, #[k0,k1,k2,k3,some (.builtin "ValueError.__new__"),k5]⟩) (n1:PySem.W.nsOkIn K ns=true) (n2:PySem.W.nsIn K ns "__init__"=some none)
  (l2:K.lookup B=some ⟨oc,od,.cls cdB,osl⟩) (n3:PySem.W.nsOkIn K cdB.ns=true) (n4:PySem.W.nsIn K cdB.ns "__init__"=some none):isVe K C=true:=by
 have t:PySem.W.tailIn K veMro (.ref B::veMro)=true:=by
  unfold PySem.W.tailIn
  dsimp only
  rw [l2]
  dsimp only
  rw [n3,n4]
  have:PySem.W.tailIn K veMro veMro=true:=by
   unfold PySem.W.tailIn
   rw [beq_self_eq_true]
   rfl
  rw [this,Bool.or_eq_true]
  exact .inr rfl
 exact @decide_eq_true _ (Classical.propDecidable _) ⟨dd,nm,qn,bs,sub,B,ns,hd,ab,sn,col,k0,k1,k2,k3,k5,l,n1,n2,t⟩
theorem passX {X:Cx}{E:XK}:Passes (CXe X.prog X.w) (X.wish (XeF X E)) E:=fun pins σ _ _ _ _ I h=>.inl ⟨pins,σ,I.unwish.flew h⟩
theorem passesXeF {X:Cx}{E:XK}{L:Addr} (hst:X.stack=X.env::X.outer) (hfr:X.env.frame=some L):PassesOwn (model X.prog X.w) X.A X.env (XeF X E):=by
 intro ev s' h
 have fin:∀ (pins:List (Addr × Obj)) (σ:St) (H':Hp) (ea:Addr) (cls a0:Value) (B:Heap) (s1:Shared) (h2:Heap),Inv X pins σ H' s1→Hold B X.fs X.ex X.H₀ H' X.s₀.heap s1.heap→(∀ p∈X.pn++pins,B.get? p.1=some p.2)→FlAt B (X.env::X.outer) ea cls a0 (rawInt L) h2→s1.heap.UpToSlots h2→E cls none H'→
   cameBackBy (model X.prog X.w) X.A X.env (XeF X E) (.ref ea) { s1 with heap:=h2 }:=by
  intro pins σ H' ea cls a0 B s1 h2 I k kp F2 up hE
  unfold cameBackBy
  obtain ⟨_,_,_,oe,vs,T,oT,ts,he,_,hd,h1,_⟩:=id F2
  refine wpAny_bind (wpAny_field (s:={ s1 with heap:=h2 }) he hd h1 ?_)
  rw [if_neg (by simp)]
  refine put_fl (s:={ s1 with heap:=h2 }) F2 fun h3 F3 up3=>?_
  exact .inl ⟨pins,σ,ea,cls,H',B,a0,_,rfl,I.up k kp F3.1 (up.trans up3),by rw [hst];exact F3,(hold_up I.hok k F3.1).1,kp,hE⟩
 rcases h with ⟨pins,σ,ea,cls,H',B,a0,fl,rfl,I,F,k,kp,hE⟩ | ⟨pins,σ,H',h,C,ea,args,rfl,I,hx,hE⟩
 · have fr1:X.A.frames=some (X.env::X.outer):=by rw [← hst];exact I.ok.frames
   have F':FlAt B (X.env::X.outer) ea cls a0 fl s'.heap:=by rw [← hst];exact F
   refine note_fl fr1 hfr F' fun h2 F2 up2=>?_
   exact fin pins σ H' ea cls a0 B s' h2 I k kp F2 up2 hE
 · have fr1:X.A.frames=some (X.env::X.outer):=by rw [← hst];exact I.ok.frames
   obtain ⟨t,he,_,_⟩:=hx.there
   have st:(PySem.W.hideAll h (frs X.stack)).StaysIn s'.heap:=fun b o q=>hx.keeps b o (PySem.W.of_hideAll _ q)
   have en:(PySem.W.hideAll h (frs X.stack)).get? ea=none:=by
    cases z:(PySem.W.hideAll h (frs X.stack)).get? ea with
    | none=>rfl
    | some o=>have:=PySem.W.of_hideAll _ z;rw [hx.new] at this;cases this
   have ff:s'.heap.FunFrames (PySem.W.hideAll h (frs X.stack)) (X.env::X.outer):=by
    rw [← hst]
    exact (PySem.W.funFrames_hide I.stack fun env he a hf=>List.mem_filterMap.mpr ⟨env,he,hf⟩).of_keeps fun b o hb _=>⟨o,hx.keeps b o hb,rfl⟩
   have kp:∀ p∈X.pn++pins,(PySem.W.hideAll h (frs X.stack)).get? p.1=some p.2:=fun p hp=>by
    obtain ⟨h1,h2,h3,h4,_⟩:=I.pin p hp
    refine PySem.W.hideAll_get _ h1 fun z=>?_
    rcases List.mem_cons.mp (I.stkSub _ z) with q | q
    · exact h3 q
    · exact h4 q
   unfold notedBy noteFrame
   simp only [hfr]
   refine wpAny_bind (wpAny_field (x:=.none) he rfl rfl ?_)
   rw [if_neg (by decide)]
   refine wpAny_entryW (a0:=.ref t) fr1 ff hfr he st en rfl (show 1 < 6 by decide) rfl fun h2 ⟨x1,x2,x3,x4⟩=>?_
   exact fin pins σ H' ea (.ref C) (.ref t) _ { s' with heap:=h } h2 I I.hold kp ⟨x1,en,x2,x3⟩ ((Heap.UpToSlots.of_keeps hx.keeps).trans x4) hE
section
variable {X:Cx}{k:Nat}{f C:Addr}{fd:FuncData}{ps:List Str}{sp:Sp}{dvs:List V}{ds:List Value}{x m:Str}{p pos apos:Pos}{e o:Expr}{es:List Expr}{ta:TE}{t:TA}
theorem run_makeX {pins:List (Addr × Obj)}{σ:St}{H:Hp}{s:Shared}{Q:VK}{E:XK}{us:List Value}{vs:List V} (M:Mk X.K C f) (F:FnOk X.prog X.w X.K X.mg X.base (CXe X.prog X.w) k f fd ps sp) (hr:Room (k+1) X.A) (hb:Binds X.K fd ps ds) (hd:Vals dvs ds)
  (I:Inv X pins σ H s) (r:Vals vs us)
  (h:∀ x dx,H x=none→H dx=none→dx≠x→sp (.ref x::(vs++dvs)) (upd (upd H dx (.own x)) x (.ins C dx [])) (fun v H2=>v=.non∧Q (.ref x) H2) E):
  wpAny (model X.prog X.w) X.A (call (.ref C) us) (EP X pins σ Q) (FlI X pins σ E) s:=by
 have hq:=h (s.heap.objs.size+1) s.heap.objs.size (I.hok.fresh (Nat.le_succ _)) (I.hok.fresh (Nat.le_refl _)) (Nat.ne_of_lt (Nat.lt_succ_self _))
 have I2:=Inv.made (C:=C) I
 have r2:Vals (V.ref (s.heap.objs.size+1)::(vs++dvs)) (Value.ref (s.heap.objs.size+1)::(us++ds)):=.cons rfl (r.append hd)
 have hl:(Value.ref (s.heap.objs.size+1)::us++ds).length=ps.length:=by
  have e:=r2.length
  rw [F.len _ _ _ _ hq] at e
  exact e.symm
 refine wpAny_call (make_map (f:=f) I.kIn M.makes M.init (beq_iff_eq.mp M.fn) (codeAny_mono (F.run _ X.stack _ _ ⟨Value.ref (s.heap.objs.size+1)::us,[]⟩ (Value.ref (s.heap.objs.size+1)::(us++ds)) _ _ E (hr.make C us [])
  (I2.env0.make C us []) (hb _ (Value.ref (s.heap.objs.size+1)::us) I2.kIn hl) r2 hq) fun r s' hq'=>?_))
 cases r with
 | error e=>exact I2.flew hq'
 | ok fl=>
  cases fl with
  | ret u=>
   obtain ⟨v,H',I3,rv,ev,q3⟩:=I2.after hq'
   subst ev
   exact ⟨rv,⟨V.ref (s.heap.objs.size+1),H',I3,rfl,q3⟩⟩
  | next=>exact False.elim hq'
  | brk=>exact False.elim hq'
  | cont=>exact False.elim hq'
theorem px_make (M:Mk X.K C f) (F:FnOk X.prog X.w X.K X.mg X.base (CXe X.prog X.w) k f fd ps sp) (hr:Room (k+1) X.A) (hg:Gl X x) (hm:X.mg x=some (.ref C)) (hb:Binds X.K fd ps ds) (hd:Vals dvs ds)
  (ha:PA X.nox (e::es) t) (hdb:(x == ("__debug__":Str))=false:=by decide) (he:starEach (e::es) X.env=(false,eval e X.env)::starEach es X.env:=by rfl) (hpl:(backTo pos (starEach es X.env)).any (·.1)=false:=by rfl):
  PX X (.Call (.Name x p) (e::es) [] pos) (fun E=>tMake C sp dvs E t):=by
 intro pins s σ H Q E I h
 refine wpAny_Call_Name_kw (ld_glob I hg hm ?_ hdb)
 refine PySem.W.callWith_K (h₀:=X.base) I.ok.mod.kin M.kp (wpAny_mono (ha pos pins s σ H _ (I.wish _) h) (fun us s1 ⟨vs,H1,I1,r,q⟩=>⟨I1.unwish.kIn,?_⟩) fun _ _ z=>False.elim z) he hpl
 exact run_makeX M F hr hb hd I1.unwish r q
end
def PSX (X:Cx) (st:Stmt) (t:XK→TS):Prop:=
 ∀ (pins:List (Addr × Obj)) (s:Shared) (σ:St) (H:Hp) (D:Ends) (E:XK),Inv X pins σ H s→t E D σ H→wpAny (model X.prog X.w) X.A (exec st X.env) (SP X pins D) (FlI X pins σ E) s
def tSetX (i:Nat) (te:XK→TE) (E:XK):TS:=fun D σ H=>te E σ H fun v H1=>D.nx (σ.set i (some v)) H1
theorem psx_set {X:Cx}{i:Nat}{x:Str}{e:Expr}{te:XK→TE}{px pa:Pos} (hN:X.N.Nodup) (hi:X.N[i]?=some x) (hx:Loc X.env.scope x) (he:PX X e te) (hs:swapsWith e (some (.Name x px)) pa.line X.env=pure false:=by rfl) (hfn:∀ x,X.fn x=true:=by intro _;rfl):
  PSX X (.Assign [.Name x px] e pa) (tSetX i te):=by
 intro pins s σ H D E I h
 refine wpAny_Assign_Name (wpAny_mono (he pins s σ H _ _ I h) (fun v s1 ⟨y,H1,I1,r1,q1⟩=>?_) (fun ev s1 hfl=>hfl)) hs
 exact store_ok I1 hN hi hx r1 (fun s2 I2=>⟨_,H1,I2,q1⟩) (.inl (hfn x))
def tTryX (K:PySem.W.Frag) (Ce:Addr) (k:Nat) (tb:XK→TS) (ts:TS):TS:=fun D σ H=>
 tb (fun cls _ H'=>∃ C,cls=.ref C∧PySem.W.exmOne K (.ref C) (.ref Ce)=some true∧∀ ea,H' ea=none→ts (exEnds k D) (σ.set k (some (.ref ea))) (upd H' ea (.ext (PySem.W.ClsAt C ea)))) D σ H
theorem ps_tryX {X:Cx}{k:Nat}{n cx:Str}{b:Stmt}{tb:XK→TS}{ts:TS}{b₀:Stmt}{suite:List Stmt}{Ce:Addr}{np hp pos:Pos} (hN:X.N.Nodup) (hk:X.N[k]?=some n) (hkl:X.env.scope.names.lookup n=some .local)
  (hb:PSX X b tb) (hg:Gl X cx) (hm:X.mg cx=some (.ref Ce)) (hsu:∀ ea,PSs (X.caught ea) (b₀::suite) ts)
  (hdb:(cx == ("__debug__":Str))=false:=by decide) (hst:X.stack=X.env::X.outer:=by rfl) (hex:X.ex=[]:=by rfl) (hfr:X.env.frame=some X.env.locals:=by rfl) (hfn:∀ x,X.fn x=true:=by intro _;rfl):
  PS X (.Try [b] [.ExceptHandler (some (.Name cx np)) (some n) (b₀::suite) hp] [] [] pos) (tTryX X.K Ce k tb ts):=by
 intro pins s σ H D I h
 have hcls:(X.env.scope.kind == .class || (X.env.scope.kind == .module && X.env.locals != X.env.globals))=false:=by rw [I.ok.kind];rfl
 refine wpAny_Try_except (wpAny_execs_cons (wpAny_mono (hb pins s σ H D _ I h) (fun f s1 q=>?_) (fun ev s1 hfl=>?_)))
 · cases f with
   | next=>exact wpAny_execs_nil (wpAny_execs_nil q)
   | ret v=>exact q
   | brk=>exact q
   | cont=>exact q
 obtain ⟨ea,cls,H',B,a0,fl,rfl,I1,F1,k1,kp,C,rfl,hexm,hE⟩:=hfl
 have fr1:X.A.frames=some (X.env::X.outer):=by rw [← hst];exact I.ok.frames
 have F1':FlAt B (X.env::X.outer) ea (.ref C) a0 fl s1.heap:=by rw [← hst];exact F1
 refine note_fl fr1 hfr F1' fun h2 F2 up2=>?_
 refine land_fl (s:={ s1 with heap:=h2 }) F2 fun h3 F3 up3=>?_
 have I3:=I1.up k1 kp F3.1 (up2.trans up3)
 obtain ⟨oe,vs,g1,g2,g3⟩:=F3.cls
 have LT:PySem.W.Looks (model X.prog X.w) h3 (typeOf (.ref ea)) (.ref C):=PySem.W.ClsAt.ty ⟨oe,g1,g2⟩
 refine wpAny_handleBy_cons (codeAny_handlers_test ?_) (by intro q;cases q)
 refine ld_glob (X:=X.caught ea) (I3.caught (ea:=ea)) hg hm ?_ hdb
 refine (PySem.W.exm_one (M:=model X.prog X.w) I3.kIn LT hexm).at ?_
 refine codeAny_handlers_suite_as ?_
 refine land_fl (s:={ s1 with heap:=h3 }) F3 fun h4 F4 up4=>?_
 have I4:=I1.up k1 kp F4.1 ((up2.trans up3).trans up4)
 have F4':FlAt B X.stack ea (.ref C) a0 .none h4:=by rw [hst];exact F4
 obtain ⟨hea,I5⟩:=I4.exc hst hex hfr F4' (hold_up I1.hok k1 F4.1).1 kp
 refine store_ok (X:=X.caught ea) (v:=.ref ea) (I5.caught (ea:=ea)) hN hk (.inl hkl) rfl (fun s6 I6=>?_) (.inl (hfn n))
 refine wpAny_mono (hsu ea pins s6 _ _ (exEnds k D) I6 (hE ea hea)) (fun f s7 q=>?_) fun _ _ z=>False.elim z
 have goes:∀ {σ':St}{H7:Hp}{Q:Unit→Shared→Prop},Inv (X.caught ea) pins σ' H7 s7→(∀ s8,Inv X pins (σ'.set k none) H7 s8→Q () s8)→wpAny (model X.prog X.w) X.A (do bindName X.env n .none;unbindBehindTheSuite X.env n hp) Q X.xe s7:=fun {σ' H7 Q} I7 hq=>by
  have I7:=I7.uncaught I.ok
  obtain ⟨m,hn,hl⟩:=I7.loc
  exact wpAny_nameGoes_keeps hkl hn hcls fun h' v hn' sb=>hq _ (I7.lose hN hk hl hn' sb)
 cases f with
 | next=>obtain ⟨σ',H7,I7,q⟩:=q;exact goes I7 fun s8 I8=>⟨_,_,I8,q⟩
 | brk=>obtain ⟨σ',H7,I7,q⟩:=q;exact goes I7 fun s8 I8=>⟨_,_,I8,q⟩
 | cont=>obtain ⟨σ',H7,I7,q⟩:=q;exact goes I7 fun s8 I8=>⟨_,_,I8,q⟩
 | ret u=>obtain ⟨v,σ',H7,I7,r,q⟩:=q;exact goes I7 fun s8 I8=>⟨v,_,_,I8,r,q⟩
end L2
namespace My
open PySem L2 PySem.SeqAt PyProof.Rows PySem.Spec
mutual
def okD (m:Bool):PyData→Bool
 | .none=>true
 | .bool _=> !m
 | .int _=>m
 | .str _=>true
 | .list xs=>okDs m xs
 | .tuple xs=>okDs m xs
 | .dict _=>false
def okDs (m:Bool):List PyData→Bool
 | []=>true
 | x::r=>okD m x && okDs m r
end
mutual
theorem noMix_ok (m:Bool):∀ d d':PyData,okD m d=true→okD m d'=true→noMix d d'=true
 | .none,d',_,h=>by cases d' <;> first | rfl | (rw [noMix])
 | .bool a,d',g,h=>by
  cases d' <;> first | rfl | (rw [noMix];done) | (cases m <;> simp [okD] at g h)
 | .int a,d',g,h=>by
  cases d' <;> first | rfl | (rw [noMix];done) | (cases m <;> simp [okD] at g h)
 | .str a,d',_,h=>by cases d' <;> first | rfl | (rw [noMix])
 | .list xs,d',g,h=>by
  cases d' with
  | list ys=>
   rw [noMix]
   rw [okD] at g h
   exact noMixAll_ok m xs ys g h
  | _=>rw [noMix]
 | .tuple xs,d',g,h=>by
  cases d' with
  | tuple ys=>
   rw [noMix]
   rw [okD] at g h
   exact noMixAll_ok m xs ys g h
  | _=>rw [noMix]
 | .dict _,_,g,_=>by rw [okD] at g;cases g
theorem noMixAll_ok (m:Bool):∀ xs ys:List PyData,okDs m xs=true→okDs m ys=true→noMixAll xs ys=true
 | [],[],_,_=>by rw [noMixAll]
 | [],_::_,_,_=>by rw [noMixAll]
 | _::_,[],_,_=>by rw [noMixAll]
 | x::xs,y::ys,g,h=>by
  rw [okDs,Bool.and_eq_true] at g h
  rw [noMixAll,noMix_ok m x y g.1 h.1,noMixAll_ok m xs ys g.2 h.2];rfl
end
structure Gd (m:Bool) (n:Nat) (d:PyData):Prop where
 lay:d.canLay0=true
 dep:d.depth≤n
 ok:okD m d=true
theorem Gd.bl {n:Nat} (b:Bool):Gd false n (.bool b):=⟨by rw [PyData.canLay0],by rw [PyData.depth];omega,by rw [okD];rfl⟩
theorem Gd.mono {m:Bool}{n n':Nat}{d:PyData} (h:Gd m n d) (e:n≤n'):Gd m n' d:=⟨h.lay,Nat.le_trans h.dep e,h.ok⟩
theorem gds {m:Bool}{n:Nat}:∀ {ds:List PyData},(∀ d∈ds,Gd m n d)→PyData.canLayAll0 ds=true∧PyData.depthAll ds≤n∧okDs m ds=true
 | [],_=>⟨by rw [PyData.canLayAll0],by rw [PyData.depthAll];omega,by rw [okDs]⟩
 | d::r,h=>by
  obtain ⟨a,b,c⟩:=gds (ds:=r) fun x hx=>h x (List.mem_cons_of_mem _ hx)
  have z:=h d (List.mem_cons_self ..)
  refine ⟨by rw [PyData.canLayAll0,a,z.lay];rfl,?_,by rw [okDs,c,z.ok];rfl⟩
  rw [PyData.depthAll]
  have:=z.dep
  omega
theorem Gd.list {m:Bool}{n:Nat}{ds:List PyData} (h:∀ d∈ds,Gd m n d):Gd m (n+1) (.list ds):=by
 obtain ⟨a,b,c⟩:=gds h
 exact ⟨by rw [PyData.canLay0];exact a,by rw [PyData.depth];omega,by rw [okD];exact c⟩
theorem Gd.shaped {m:Bool}{n:Nat}{d:PyData} (h:Gd m n d) (e:n≤64:=by decide):shaped d=true:=by
 unfold PySem.SeqAt.shaped
 rw [h.lay,decide_eq_true (Nat.le_trans h.dep e)];rfl
section
variable {K:PySem.W.Frag}{H:Hp}{x y:V}{d d':PyData}{m:Bool}{Q:VK}
theorem rd_eqG (hx:Dt K H x d) (hy:Dt K H y d') (g:Gd m 64 d) (g':Gd m 64 d') (h:Q (.bl (same d d')) H):Wr (rEqD K x y H Q):=
 ⟨⟨d,d',hx,hy,g.shaped,g'.shaped,noMix_ok m d d' g.ok g'.ok,h⟩⟩
end
mutual
theorem same_eq (m:Bool):∀ d d':PyData,okD m d=true→okD m d'=true→same d d'=true→d=d'
 | .none,d',_,h,s=>by cases d' <;> first | rfl | (simp [same] at s)
 | .bool a,d',_,h,s=>by cases d' <;> first | (simp [same] at s;done) | (simp [same] at s;rw [s])
 | .int a,d',_,h,s=>by cases d' <;> first | (simp [same] at s;done) | (simp [same] at s;rw [s])
 | .str a,d',_,h,s=>by cases d' <;> first | (simp [same] at s;done) | (simp [same] at s;rw [s])
 | .list xs,d',g,h,s=>by
  cases d' with
  | list ys=>
   rw [same] at s
   rw [okD] at g h
   rw [sameAll_eq m xs ys g h s]
  | _=>simp [same] at s
 | .tuple xs,d',g,h,s=>by
  cases d' with
  | tuple ys=>
   rw [same] at s
   rw [okD] at g h
   rw [sameAll_eq m xs ys g h s]
  | _=>simp [same] at s
 | .dict _,_,g,_,_=>by rw [okD] at g;cases g
theorem sameAll_eq (m:Bool):∀ xs ys:List PyData,okDs m xs=true→okDs m ys=true→sameAll xs ys=true→xs=ys
 | [],[],_,_,_=>rfl
 | [],_::_,_,_,s=>by simp [sameAll] at s
 | _::_,[],_,_,s=>by simp [sameAll] at s
 | x::xs,y::ys,g,h,s=>by
  rw [okDs,Bool.and_eq_true] at g h
  rw [sameAll,Bool.and_eq_true] at s
  rw [same_eq m x y g.1 h.1 s.1,sameAll_eq m xs ys g.2 h.2 s.2]
end
theorem same_ne {m:Bool}{n n':Nat}{d d':PyData} (g:Gd m n d) (g':Gd m n' d') (h:d≠d'):same d d'=false:=by
 cases e:same d d' with
 | false=>rfl
 | true=>exact absurd (same_eq m d d' g.ok g'.ok e) h
end My
namespace L2
open PySem
theorem tTryX.splitS {K:PySem.W.Frag}{Ce:Addr}{k:Nat}{tb:XK→TS}{ts u:TS}{D:Ends}{σ:St}{H:Hp}
  (h:∀ EE:XK,(∀ (C:Addr) (H':Hp),PySem.W.exmOne K (.ref C) (.ref Ce)=some true→(∀ ea,H' ea=none→ts (exEnds k { D with nx:=u D }) (σ.set k (some (.ref ea))) (upd H' ea (.ext (PySem.W.ClsAt C ea))))→EE (.ref C) none H')→tb EE { D with nx:=u D } σ H):tSeq (tTryX K Ce k tb ts) u D σ H:=
 h _ fun C H' e q=>⟨C,rfl,e,q⟩
section
variable {X:Cx}{E:XK}{x m:Str}{C:Addr}{ps:List Str}{k j:Nat}{sp:Sp}{o e:Expr}{es:List Expr}{ta:TE}{t:TA}{apos p pos:Pos}{pl:Sem Bool}
theorem Rdx.pe (R:Rdx X.prog X.w X.K X.mg X.base x ps k sp) (hr:Room j X.A) (ha:PA (X.wish (XeF X E)) (e::es) t) (hg:Gl X x:=by rfl) (hj:k≤j:=by decide)
  (hdb:(x == ("__debug__":Str))=false:=by decide) (he:starEach (e::es) X.env=(false,eval e X.env)::starEach es X.env:=by rfl) (hpl:(backTo pos (starEach es X.env)).any (·.1)=false:=by rfl):
  PE (X.wish (XeF X E)) (.Call (.Name x p) (e::es) [] pos) (tCall sp [] E t):=pe_call (X:=X.wish (XeF X E)) R.ok (hr.mono hj) hg R.mgx R.kp R.bd .nil passX ha hdb he hpl
end
end L2
namespace My
open PySem L2
theorem bt_ve:bootBuiltins "ValueError"=some (.type "ValueError"):=by decide+kernel
def refN:List Str:=["NoKind","NoWay","NoMark","NoEntry","NoHold","NoChamber","NoChart","NoCave","NoHome","Barred","Full"]
structure XR (K:PySem.W.Frag) (mg:Str→Option Value) (CE:Addr) (CS:Nat→Addr):Prop where
 m0:mg "NoKind"=some (.ref (CS 0))
 m1:mg "NoWay"=some (.ref (CS 1))
 m2:mg "NoMark"=some (.ref (CS 2))
 m3:mg "NoEntry"=some (.ref (CS 3))
 m4:mg "NoHold"=some (.ref (CS 4))
 m5:mg "NoChamber"=some (.ref (CS 5))
 m6:mg "NoChart"=some (.ref (CS 6))
 m7:mg "NoCave"=some (.ref (CS 7))
 m8:mg "NoHome"=some (.ref (CS 8))
 m9:mg "Barred"=some (.ref (CS 9))
 m10:mg "Full"=some (.ref (CS 10))
 mCE:mg "CaveError"=some (.ref CE)
 tv:mg "ValueError"=none
structure XOne (K:PySem.W.Frag) (CE:Addr) (CS:Nat→Addr) (c:Nat):Prop where
 kv:PySem.W.kitOne K (.ref (CS c)) (.type "ValueError")=some true
 k0:PySem.W.kitOne K (.ref (CS c)) (.ref (CS 0))=some (decide (0=c))
 k1:PySem.W.kitOne K (.ref (CS c)) (.ref (CS 1))=some (decide (1=c))
 k2:PySem.W.kitOne K (.ref (CS c)) (.ref (CS 2))=some (decide (2=c))
 k3:PySem.W.kitOne K (.ref (CS c)) (.ref (CS 3))=some (decide (3=c))
 k4:PySem.W.kitOne K (.ref (CS c)) (.ref (CS 4))=some (decide (4=c))
 k5:PySem.W.kitOne K (.ref (CS c)) (.ref (CS 5))=some (decide (5=c))
 k6:PySem.W.kitOne K (.ref (CS c)) (.ref (CS 6))=some (decide (6=c))
 k7:PySem.W.kitOne K (.ref (CS c)) (.ref (CS 7))=some (decide (7=c))
 k8:PySem.W.kitOne K (.ref (CS c)) (.ref (CS 8))=some (decide (8=c))
 k9:PySem.W.kitOne K (.ref (CS c)) (.ref (CS 9))=some (decide (9=c))
 k10:PySem.W.kitOne K (.ref (CS c)) (.ref (CS 10))=some (decide (10=c))
 ex:PySem.W.exmOne K (.ref (CS c)) (.ref CE)=some true
 ek:PySem.W.ExcK K (CS c)
theorem kit_self {K:PySem.W.Frag}{C:Addr}:PySem.W.kitOne K (.ref C) (.ref C)=some true:=by
 show (if (Value.ref C == Value.ref C)=true then some true else _)=_
 rw [if_pos (beq_self_eq_true _)]
def badB (c:Nat):List Bool:=[true,decide (0=c),decide (1=c),decide (2=c),decide (3=c),decide (4=c),decide (5=c),decide (6=c),decide (7=c),decide (8=c),decide (9=c),decide (10=c)]
def badL (c:Nat):List V:=(badB c).map V.bl
theorem due_eq:∀ c < 11,([V.bl true]++([V.str "NoKind",V.str "NoWay",V.str "NoMark",V.str "NoEntry",V.str "NoHold",V.str "NoChamber",V.str "NoChart",V.str "NoCave",V.str "NoHome",V.str "Barred"]++[V.str "Full"]).map fun v=>V.bl (decide (v=V.str (refN.getD c ""))))=badL c:=by decide+kernel
theorem comp_valsW {K:PySem.W.Frag}{a:Addr}{xs:List V}{ix:List Nat}{te:TE}{σ:St}{H:Hp}{Q:VK} (f:V→V) (hq:SqL K H a xs) (hl:xs.length < sizeLine)
  (he:∀ z∈xs,∀ (H':Hp) (Q':VK),Same H H'→Q' (f z) H'→te (blkSt ix (some z) σ) H' Q') (h:∀ (D:Addr) (H':Hp),H D=none→H' D=some (.lst (xs.map f))→Same H H'→Q (.ref D) H'):Wr (rComp (Itl K a) ix te σ H Q):=
 ⟨fun D hD=>comp_vals f hq hl he (fun D hD=>h D _ hD upd_same ((Same.refl H).upd hD)) D hD⟩
def spDueX:Sp:=fun vs H Q _=>∃ c,c < 11∧vs=[.str (refN.getD c "")]∧∀ (p:Addr) (H':Hp),H p=none→H' p=some (.lst (badL c))→Same H H'→Q (.ref p) H'
theorem rd_lsV {H:Hp}{xs:List V}{Q:VK} (hl:xs.length≤1000) (h:∀ (p:Addr) (H':Hp),H p=none→H' p=some (.lst xs)→Same H H'→Q (.ref p) H'):Wr (rLst xs H Q):=
 ⟨⟨Nat.le_of_lt (small4k (by omega)),fun p hp=>h p _ hp upd_same ((Same.refl H).upd hp)⟩⟩
theorem rd_catV {H:Hp}{a b:Addr}{xs ys:List V}{Q:VK} (ha:H a=some (.lst xs)) (hb:H b=some (.lst ys)) (hl:xs.length+ys.length≤10000000) (h:∀ (p:Addr) (H':Hp),H p=none→H' p=some (.lst (xs++ys))→Same H H'→Q (.ref p) H'):Wr (rCat (.ref a) (.ref b) H Q):=
 ⟨⟨a,b,_,_,rfl,rfl,ha,hb,Nat.le_of_lt (small4k hl),fun p hp=>h p _ hp upd_same ((Same.refl H).upd hp)⟩⟩
theorem dts_bls {K:PySem.W.Frag}{H:Hp}:∀ (bs:List Bool),Dts K H (bs.map V.bl) (bs.map PyData.bool)
 | []=>.nil
 | b::r=>.cons (.bl b) (dts_bls r)
theorem gd_bls (bs:List Bool):Gd false 1 (.list (bs.map PyData.bool)):=Gd.list fun d hd=>by
 obtain ⟨b,_,rfl⟩:=List.mem_map.mp hd
 exact Gd.bl b
theorem bls_dt {K:PySem.W.Frag}{H:Hp}{a:Addr}{bs:List Bool} (h:H a=some (.lst (bs.map V.bl))):Dt K H (.ref a) (.list (bs.map PyData.bool)):=.lst (SqL.of h) (dts_bls bs)
theorem bool_inj:∀ {bs cs:List Bool},bs.map PyData.bool=cs.map PyData.bool→bs=cs
 | [],[],_=>rfl
 | [],_::_,h=>nomatch h
 | _::_,[],h=>nomatch h
 | b::bs,c::cs,h=>by
  rw [List.map_cons,List.map_cons] at h
  injection h with h1 h2
  injection h1 with h1
  rw [h1,bool_inj h2]
theorem rd_eqB {K:PySem.W.Frag}{H:Hp}{x y:Addr}{bs cs:List Bool}{Q:VK} (hx:H x=some (.lst (bs.map V.bl))) (hy:H y=some (.lst (cs.map V.bl))) (h:Q (.bl (decide (bs=cs))) H):Wr (rEqD K (.ref x) (.ref y) H Q):=
 rd_eqG (bls_dt hx) (bls_dt hy) ((gd_bls bs).mono (by decide)) ((gd_bls cs).mono (by decide)) (by
  have:PySem.Spec.same (.list (bs.map PyData.bool)) (.list (cs.map PyData.bool))=decide (bs=cs):=by
   by_cases e:bs=cs
   · rw [e,PyProof.Rows.same_refl,decide_eq_true rfl]
   · rw [decide_eq_false e]
     exact same_ne (gd_bls bs) (gd_bls cs) fun z=>e (bool_inj (by injection z))
  rw [this];exact h)
section
variable {X:Cx}{E:XK}{x m:Str}{C:Addr}{ps:List Str}{k j:Nat}{sp:Sp}{o e:Expr}{es:List Expr}{ta:TE}{t:TA}{apos p pos:Pos}{pl:Sem Bool}
structure Rdkx (P:Program) (w:World) (K:PySem.W.Frag) (mg:Str→Option Value) (base:Heap) (C:Addr) (x:Str) (ps:List Str) (k:Nat) (sp:Sp) where
 f:Addr
 fd:FuncData
 ok:FnOk P w K mg base (CXe P w) k f fd ps sp
 mkf:Mk K C f
 mgx:mg x=some (.ref C)
 bd:Binds K fd ps []
theorem Rdkx.px (R:Rdkx X.prog X.w X.K X.mg X.base C x ps k sp) (hr:Room j X.A) (ha:PA X.nox (e::es) t) (hg:Gl X x:=by rfl) (hj:k+1≤j:=by decide)
  (hdb:(x == ("__debug__":Str))=false:=by decide) (he:starEach (e::es) X.env=(false,eval e X.env)::starEach es X.env:=by rfl) (hpl:(backTo pos (starEach es X.env)).any (·.1)=false:=by rfl):
  PX X (.Call (.Name x p) (e::es) [] pos) (fun E=>tMake C sp [] E t):=px_make R.mkf R.ok (hr.mono hj) hg R.mgx R.bd .nil ha hdb he hpl
end
end My
namespace L2
open PySem PySem.Spec PyProof.Rows
section
variable {X:Cx}
end
end L2
namespace My
open PySem L2
end My
namespace L2
open PySem PySem.Spec PyProof.Rows
end L2
namespace My
open PySem L2
theorem rd_sliceV {K:PySem.W.Frag}{H:Hp}{a:Addr}{xs:List V}{lo hi:Option Int}{Q:VK} (hq:H a=some (.lst xs)) (h:∀ (p:Addr) (H':Hp),H p=none→H' p=some (.lst (cutV xs lo hi))→Same H H'→Q (.ref p) H'):Wr (rSlL K (.ref a) lo hi H Q):=
 ⟨⟨a,_,rfl,SqL.of hq,fun p hp=>h p _ hp upd_same ((Same.refl H).upd hp)⟩⟩
end My
namespace L2
open PySem PySem.Spec PyProof.Rows
end L2
namespace L2
end L2
namespace My
open PySem L2
theorem w_nm {i:Nat}{v:V}{σ:St}{H:Hp}{Q:St→Hp→Prop} (h:Q (σ.set i (some v)) H):gName i v σ H Q:=h
end My
namespace L2
open PySem PySem.Spec PyProof.Rows
theorem minRun_le:∀ f n r:Nat,minRun' f n r≤n+r
 | 0,n,r=>Nat.le_of_eq rfl
 | f+1,n,r=>by
  rw [minRun'_succ]
  split
  · exact Nat.le_refl _
  · have:=minRun_le f (n / 2) (max r (n % 2))
    omega
section
variable {prog:Program}{w:World}{A:Around}{E:Value→Shared→Prop}{s:Shared}{b:Array Keyed}{st:SortSt}
theorem rise_count {Q:Option Nat→SortSt→Prop} (hk:IntKeys b) (n1:1≤b.size) (sb:SBase b st) (up:SortedTo (arrOf st) b.size) (q:Q (some b.size) st):wpS (model prog w) A E s (countRun' 0 b.size) Q st:=by
 rw [countRun0_eq]
 refine wpS_bind (wpS_ascLoop hk (Nat.le_refl _) (Nat.le_refl 1) n1 sb (fun i j ij jl=>up i j ij (by omega)) fun m m1 m2 _ o=>?_)
 have e:m=b.size:=by
  rcases Nat.lt_or_ge m b.size with lt | ge
  · have:=o.resolve_left (Nat.ne_of_lt lt)
    have:=up (m - 1) m (by omega) lt
    omega
  · omega
 subst e
 dsimp only
 rw [if_pos (beq_self_eq_true _)]
 exact wpS_pure q
theorem rise_runs {Q:Unit→SortSt→Prop} (hk:IntKeys b) (n1:1≤b.size) (sb:SBase b st) (up:SortedTo (arrOf st) b.size) (q:∀ z,arrOf z=arrOf st→failedOf z=none→Q () z):wpS (model prog w) A E s sortRuns' Q st:=by
 rw [sortRuns'_eq]
 refine wpS_bind (wpS_get ?_)
 dsimp only
 have mr:=minRun_le b.size b.size 0
 simp only [sb.size]
 generalize minRun' b.size b.size 0=mn at mr
 let z1:SortSt:=setPending st ((pendingOf st).push (0,b.size,0))
 refine wpS_bind (wpS_mono (wpS_forRange (I:=fun x c z=>(x=0∧c=(none,0)∧z=st)∨(1≤x∧c=(none,b.size)∧z=z1)) (Q:=fun c z=>c=(none,b.size)∧z=z1) ?one ?end_ (.inl ⟨rfl,rfl,rfl⟩)) ?rest)
 case end_=>
  rintro c z (⟨hx,_,_⟩ | ⟨_,hc,hz⟩)
  · omega
  · exact ⟨hc,hz⟩
 case one=>
  rintro x c z _ hx (⟨rfl,rfl,rfl⟩ | ⟨_,rfl,rfl⟩)
  · dsimp only
    rw [if_neg (by omega),Nat.sub_zero]
    refine wpS_bind (rise_count hk n1 sb up ?_)
    dsimp only
    rw [if_neg (by omega)]
    refine wpS_bind (wpS_get ?_)
    rw [show (pendingOf z).back?=none by rw [sb.pend];rfl]
    dsimp only
    exact wpS_bind (wpS_modify (wpS_pure (.inr ⟨by omega,by rw [Nat.zero_add],rfl⟩)))
  · dsimp only
    rw [if_pos (Nat.le_refl _)]
    exact wpS_pure ⟨rfl,rfl⟩
 case rest=>
  rintro c z ⟨rfl,rfl⟩
  dsimp only
  have pz:(pendingOf z1).size≤1:=by
   show ((pendingOf st).push (0,b.size,0)).size≤1
   rw [sb.pend]
   exact Nat.le_refl 1
  refine wpS_bind (wpS_mono (wpS_forRange (I:=fun _ c z=>z=z1∧c=(none,())) (Q:=fun c z=>z=z1∧c=(none,())) ?_ (fun _ _ y=>y) ⟨rfl,rfl⟩) ?_)
  · rintro x c z _ _ ⟨rfl,rfl⟩
    refine wpS_bind (wpS_get ?_)
    rw [if_pos pz]
    exact wpS_pure ⟨rfl,rfl⟩
  · rintro c z ⟨rfl,rfl⟩
    exact wpS_pure (q z1 rfl sb.failed)
theorem rise_keys {vs:List Value}{ns:List Int} (hI:IntsAre vs ns) (up:ns.Pairwise (· ≤ ·)):SortedTo (pairsOf vs) (pairsOf vs).size:=by
 have at_:∀ i,(hi:i < vs.length)→K (pairsOf vs) i=numOf vs[i]:=fun i hi=>by
  have hi2:i < (pairsOf vs).size:=by rw [pairsOf_size];exact hi
  rw [K_eq hi2]
  congr 1
  simp [pairsOf]
 have en:=hI.nums
 have ln:ns.length=vs.length:=by rw [← en,List.length_map]
 intro i j ij jl
 rw [pairsOf_size] at jl
 rw [at_ i (by omega),at_ j jl]
 have f:∀ k,(hk:k < vs.length)→numOf vs[k]=ns[k]'(by omega):=fun k hk=>by
  simp only [← en,List.getElem_map]
 rw [f i (by omega),f j jl]
 rcases Nat.lt_or_ge i j with lt | ge
 · exact List.pairwise_iff_getElem.mp up i j (by omega) (by omega) lt
 · have:i=j:=by omega
   subst this
   exact Int.le_refl _
theorem line4k {n:Nat} (h:n≤4000):n≤sizeLine:=Nat.le_trans h (by decide)
theorem rise_sort {a:Addr}{vs:List Value}{ns:List Int}{e0:Nat}{P:PySem.Fin→Shared→Prop} (at0:s.heap.get? a=some (seqObj "list" vs.toArray e0)) (hI:IntsAre vs ns) (up:ns.Pairwise (· ≤ ·)) (le:vs.length≤4000)
  (q:P (.done (.ret .none)) { s with heap:=sortedHeap s.heap a vs vs.toArray }):wpAny (model prog w) A (Builtin.«list.sort» ⟨[.ref a],[]⟩) P E s:=by
 have la:a < s.heap.objs.size:=Heap.lt_size at0
 have sz:vs.toArray.size=vs.length:=List.size_toArray ..
 rw [list_sort_plain]
 refine wpAny_bind (listItems_at at0 rfl (wpAny_bind (listUpdate_at at0 rfl ?_ (by rw [sz];exact line4k le) (Nat.zero_le _))))
 obtain ⟨e1,at1⟩:∃ e1,(s.heap.update a (Obj.mapSeq fun _=> #[])).get? a=some (seqObj "list" #[] e1):=⟨_,get?_update_seq at0 (fun _=> #[])⟩
 refine wpAny_bind (seqEpoch_at at1 rfl (wpAny_bind (wpAny_newTuple ?_ (by simpa using line4k le))))
 refine wpAny_bind (wpAny_newList ?_ (Nat.zero_le _))
 refine wpAny_holding ?_
 have at2:(((s.heap.update a (Obj.mapSeq fun _=> #[])).push (seqObj "tuple" vs.toArray 0)).push (seqObj "list" #[] 0)).get? a=some (seqObj "list" #[] e1):=
  Heap.get?_push_of_some _ (Heap.get?_push_of_some _ at1)
 show wpAny (model prog w) A _ P E { s with heap:=((s.heap.update a (Obj.mapSeq fun _=> #[])).push (seqObj "tuple" vs.toArray 0)).push (seqObj "list" #[] 0) }
 dsimp only
 have out:(pairsOf vs).map (·.2)=vs.toArray:=by
  apply Array.ext'
  rw [Array.toList_map,pairsOf_toList]
  exact List.map_snd_zip (Nat.le_refl _)
 have fin:∀ z:SortSt,arrOf z=pairsOf vs→P (.done (.ret .none)) { s with heap:=sortedHeap s.heap a vs ((arrOf z).map (·.2)) }:=fun z e=>by rw [e,out];exact q
 have szo:∀ z:SortSt,arrOf z=pairsOf vs→((arrOf z).map (·.2)).size≤sizeLine+1:=fun z e=>by
  rw [e,out,sz]
  exact Nat.le_succ_of_le (line4k le)
 by_cases few:vs.toArray.size < 2
 · rw [if_pos few,if_pos few]
   refine wpAny_bind (wpAny_pure ?_)
   rw [StateT.run_pure]
   refine wpAny_bind (wpAny_pure ?_)
   dsimp only
   refine wpAny_bind (seqEpoch_at at2 rfl (wpAny_bind (listUpdate_at at2 rfl ?_ (Nat.zero_le _) (szo _ rfl))))
   simp only [bne_self_eq_false,Bool.false_eq_true,if_false]
   exact wpAny_pure (fin _ rfl)
 · rw [if_neg few,if_neg few]
   rw [sz] at few
   match vs,few,hI,fin,szo,at2 with
   | [],few,_,_,_,_=>exact absurd (show 0 < 2 by decide) few
   | [_],few,_,_,_,_=>exact absurd (show 1 < 2 by decide) few
   | v::v2::r,_,hI,fin,szo,at2=>
    rw [keyKind_ints hI]
    refine wpAny_bind (wpAny_pure ?_)
    refine wpAny_bind (wpAny_mono (rise_runs (b:=pairsOf (v::v2::r)) (st:=SortSt.mk' oneType' ((v::v2::r).toArray.zip (v::v2::r).toArray) #[] 7 none) (Q:=fun _ z=>arrOf z=pairsOf (v::v2::r)∧failedOf z=none)
     hI.intKeys (by rw [pairsOf_size];simp) ⟨Array.Perm.refl _,rfl,rfl,rfl⟩ (rise_keys hI up) fun z h1 h2=>⟨h1,h2⟩) ?_ fun _ _ y=>y)
    rintro ⟨⟨⟩,z⟩ s' ⟨rfl,ea,ef⟩
    dsimp only
    refine wpAny_bind (seqEpoch_at at2 rfl (wpAny_bind (listUpdate_at at2 rfl ?_ (Nat.zero_le _) (szo z ea))))
    rw [ef]
    simp only [bne_self_eq_false,Bool.false_eq_true,if_false]
    exact wpAny_pure (fin z ea)
theorem rise_sorted {l:Addr}{vs:List Value}{ns:List Int}{Q:Value→Shared→Prop} (hl:s.heap.IsList l vs.toArray) (hI:IntsAre vs ns) (up:ns.Pairwise (· ≤ ·)) (le:vs.length≤4000)
  (q:Q (.ref (s.heap.objs.size+1)) { s with heap:=sortedAll s.heap vs vs.toArray }):wpAny (model prog w) A (call (.builtin "sorted") [.ref l]) Q E s:=by
 refine Calls.call_function_entry kind_sorted plain_sorted entry_sorted (args_sorted1 _) ?_
 unfold Builtin.«sorted»
 refine wpAny_bind (m:=checkCount "sorted" 1 1 _) (wpAny_pure (wpAny_bind (collect_list hl ?_ (line4k le))))
 refine wpAny_bind (wpAny_newList ?_ (line4k le))
 have sz:((s.heap.push (seqObj "list" #[] 0)).update s.heap.objs.size (Obj.mapSeq (· ++vs.toArray))).objs.size=s.heap.objs.size+1:=by rw [Heap.size_update,size_push']
 have at0:(((s.heap.push (seqObj "list" #[] 0)).update s.heap.objs.size (Obj.mapSeq (· ++vs.toArray))).push (seqObj "list" vs.toArray 0)).get? (s.heap.objs.size+1)=some (seqObj "list" vs.toArray 0):=by
  rw [← sz]
  exact Heap.get?_push_size _ rfl
 show wpAny _ _ _ _ _ { s with heap:=((s.heap.push (seqObj "list" #[] 0)).update s.heap.objs.size (Obj.mapSeq (· ++vs.toArray))).push (seqObj "list" vs.toArray 0) }
 rw [sz]
 refine wpAny_bind (wpAny_holding (wpAny_call_entry slot_list_sort ⟨_,at0,rfl⟩ entry_list_sort (rise_sort at0 hI up le ⟨_,rfl,?_⟩) (args_list_sort _)))
 exact wpAny_pure ⟨_,rfl,q⟩
end
def rSortA (K:PySem.W.Frag) (xs:List V) (H:Hp) (Q:VK):Prop:=∃ (a:Addr) (ns:List Int),xs=[.ref a]∧SqL K H a (ns.map V.int)∧
 ((ns.length < 64∧∀ (l:Addr) (ms:List Int),H l=none→ms.Perm ns→ms.Pairwise (· ≤ ·)→Q (.ref l) (upd H l (.lst (ms.map V.int))))∨(ns.length≤4000∧ns.Pairwise (· ≤ ·)∧∀ l:Addr,H l=none→Q (.ref l) (upd H l (.lst (ns.map V.int)))))
section
variable {X:Cx}
theorem call_sortedA (K:PySem.W.Frag) (e:X.K=K):CallR X (.builtin "sorted") (fun xs H Q=>Wr (rSortA K xs H Q)):=by
 subst e
 intro pins s σ H xs us Q I r h
 obtain ⟨a,ns,rfl,hq,h | ⟨le,up,q⟩⟩:=h.get
 · exact call_sorted X.K rfl pins s σ H _ us Q I r ⟨⟨a,ns,rfl,hq,h.1,h.2⟩⟩
 · obtain ⟨u,rfl,ru⟩:=r.one
   cases ru
   obtain ⟨its,rv,p,hz⟩:=I.list hq
   have lv:its.length=ns.length:=by rw [← rv.length,List.length_map]
   refine rise_sorted (vs:=its) p.isList (ints_are rv) up (by omega) ?_
   obtain ⟨e,he⟩:=sortedAll_at s.heap its its.toArray
   refine ⟨.ref (s.heap.objs.size+1),_,I.laid (t':=s.toks) (o:=.lst (ns.map V.int)) (fun b u hb=>sortedAll_old hb) (Nat.le_succ _) ?_,rfl,q _ (I.hok.fresh (Nat.le_succ _))⟩
   exact ⟨by rw [List.length_map];exact line4k le,its,e,rv,he⟩
end
end L2
namespace My
open PySem L2
def SrtOk (p:List Int):Prop:=p.length≤63∨(p.length≤1000∧p.Pairwise (· ≤ ·))
def AllI (T:Tab):Prop:=∀ r∈T,∃ p:List Int,r=p.map some∧SrtOk p
theorem rd_sortedA {K:PySem.W.Frag}{H:Hp}{a:Addr}{p:List Int} (n:Nat) {Q:VK} (ha:Ints H a p) (ok:SrtOk p)
  (h:∀ (l:Addr) (ms:List Int) (H':Hp),H l=none→Ints H' l ms→(ms=lab0 n↔p.Perm (lab0 n))→Same H H'→Q (.ref l) H'):Wr (rSortA K [.ref a] H Q):=by
 refine ⟨⟨a,p,rfl,SqL.of ha,?_⟩⟩
 rcases ok with le | ⟨le,up⟩
 · refine .inl ⟨by omega,fun l ms hl h1 h2=>h l ms _ hl upd_same ⟨fun e=>?_,fun e=>?_⟩ ((Same.refl H).upd hl)⟩
   · rw [← e];exact h1.symm
   · exact List.Perm.eq_of_pairwise (fun a b _ _ h1 h2=>Int.le_antisymm h1 h2) h2 (lab0_le n) (h1.trans e)
 · refine .inr ⟨by omega,up,fun l hl=>h l p _ hl upd_same ⟨fun e=>?_,fun e=>?_⟩ ((Same.refl H).upd hl)⟩
   · rw [e]
   · exact List.Perm.eq_of_pairwise (fun a b _ _ h1 h2=>Int.le_antisymm h1 h2) up (lab0_le n) e
structure GoodB (k:Int) (T:Tab):Prop where
 k1:1≤k
 k5:k≤5
 len:(T.length:Int)=k
 n1:1≤(T.getD 0 []).length
 n7:(T.getD 0 []).length≤700
 pm:∀ r∈T,∃ p:List Int,r=p.map some∧p.Perm (lab0 (T.getD 0 []).length)
structure GoodC (k:Int) (T:Tab) (ps:List Int):Prop where
 tb:GoodB k T
 pr:∀ p∈ps,0≤p∧p < ((T.getD 0 []).length:Int)
theorem some_inj {p q:List Int} (h:p.map some=q.map some):p=q:=List.map_inj_right (fun _ _ e=>Option.some.inj e) |>.mp h
def spCkTabX (cC:Addr):Sp:=fun vs H Q E=>∃ (k:Int) (t:Addr) (as:List Addr) (T:Tab),vs=[.int k,.ref t]∧Tb H t as T∧AllI T∧T.length≤1000∧(GoodB k T→∀ H',Same H H'→Q .non H')∧(¬ GoodB k T→∀ H',Same H H'→E (.ref cC) none H')
def spCkPlX (cC:Addr):Sp:=fun vs H Q E=>∃ (n:Nat) (a:Addr) (ps:List Int),vs=[.int n,.ref a]∧Ints H a ps∧((∀ p∈ps,0≤p∧p < (n:Int))→Q .non H)∧(¬ (∀ p∈ps,0≤p∧p < (n:Int))→E (.ref cC) none H)
def spCInitX (C Cc cC:Addr):Sp:=fun vs H Q E=>∃ (g dx:Addr) (k:Int) (t a:Addr) (as:List Addr) (T:Tab) (ps:List Int),vs=[.ref g,.int k,.ref t,.ref a]∧H g=some (.ins C dx [])∧Tb H t as T∧AllI T∧T.length≤1000∧Ints H a ps∧
 (GoodC k T ps→∀ (H':Hp) (fp:List Addr),CvAt C Cc H' g k.toNat (T.getD 0 []).length T ps fp→(∀ a∈fp,a≠g→H a=none)→Kp g H H'→Q .non H')∧(¬ GoodC k T ps→∀ H',Kp g H H'→E (.ref cC) none H')
def spGood28:Sp:=fun vs H Q _=>∃ (k:Int) (t a:Addr) (as:List Addr) (T:Tab) (ps:List Int),vs=[.int k,.ref t,.ref a]∧Tb H t as T∧AllI T∧T.length≤1000∧Ints H a ps∧(GoodC k T ps→∀ H',Same H H'→Q (.bl true) H')∧(¬ GoodC k T ps→∀ H',Same H H'→Q (.bl false) H')
def spSpoilt28:Sp:=fun vs H Q _=>∃ (k n:Nat) (t a ld:Addr) (as:List Addr) (T:Tab) (ps ds:List Int),vs=[.int k,.int n,.ref t,.ref a,.ref ld]∧Tb H t as T∧(t::as).Nodup∧PermT k n T∧1≤k∧k≤5∧1≤n∧n≤20∧Ints H a ps∧ps.length≤24∧Ints H ld ds∧ds.length=5∧a∉t::as∧ld∉t::as∧
 ∀ (p:Addr) (k':Int) (t' a':Addr) (as':List Addr) (T':Tab) (ps':List Int) (H':Hp),H' p=some (.tup [.int k',.ref t',.ref a'])→Tb H' t' as' T'→AllI T'→T'.length≤100→Ints H' a' ps'→ps'.length≤100→(∀ b o,H b=some o→b∉t::as→H' b=some o)→Q (.ref p) H'
theorem sk {s i j:Int} (z:decide (V.int s=V.int i)=true) (h:i≠j:=by decide):decide (V.int s=V.int j)=false:=decide_eq_false fun e=>h ((V.int.inj (of_decide_eq_true z)).symm.trans (V.int.inj e))
theorem PermT.all {k n:Nat}{T:Tab} (h:PermT k n T) (hn:n≤63):AllI T:=fun r hr=>by
 obtain ⟨p,e,hp⟩:=h.row r hr
 exact ⟨p,e,.inl (by rw [hp.length_eq,lab0_len];exact hn)⟩
theorem AllI.set {T:Tab} (h:AllI T) (i:Nat) {p:List Int} (hp:SrtOk p):AllI (T.set i (p.map some)):=fun r hr=>by
 rcases List.mem_or_eq_of_mem_set hr with m | m
 · exact h r m
 · exact ⟨p,m,hp⟩
theorem cutV_tail {xs:List V} (h:1≤xs.length):cutV xs (some 1) none=xs.drop 1:=by
 unfold cutV
 have h1:HT.sIx xs.length 0 (some 1)=1:=by
  unfold HT.sIx
  simp
  omega
 have h2:HT.sIx xs.length xs.length none=xs.length:=rfl
 rw [h1,h2]
 exact List.take_of_length_le (by rw [List.length_drop];omega)
theorem Tb.drop1 {H H':Hp}{t l:Addr}{as:List Addr}{T:Tab} (h:Tb H t as T) (s:Same H H') (hl:H' l=some (.lst ((as.map V.ref).drop 1))):Tb H' l (as.drop 1) (T.drop 1):=
 ⟨by rw [hl, ← List.map_drop],by rw [List.length_drop,List.length_drop,h.len],fun i a r e1 e2=>s _ _ (h.rw (1+i) a r (by rwa [List.getElem?_drop] at e1) (by rwa [List.getElem?_drop] at e2))⟩
theorem Tb.more1 {H H':Hp}{t l b:Addr}{as:List Addr}{T:Tab}{r:List (Option Int)} (h:Tb H t as T) (s:Same H H') (hb:Row H' b r) (hl:H' l=some (.lst (as.map V.ref++[V.ref b]))):Tb H' l (as++[b]) (T++[r]):=by
 refine ⟨by rw [hl,List.map_append];rfl,by simp [h.len],fun i a q e1 e2=>?_⟩
 by_cases hi:i < as.length
 · rw [List.getElem?_append_left hi] at e1
   rw [List.getElem?_append_left (by rw [← h.len];exact hi)] at e2
   exact s _ _ (h.rw i a q e1 e2)
 · rw [List.getElem?_append_right (by omega)] at e1
   rw [List.getElem?_append_right (by rw [← h.len];omega)] at e2
   have z:i - as.length=0:=by
    have:=(List.getElem?_eq_some_iff.mp e1).1
    simp at this;omega
   rw [← h.len,z] at e2
   rw [z] at e1
   cases e1;cases e2
   exact hb
def top (i:Nat):Stmt:=PySem.Challenge.pw_chalkcave_k28_what_is_no_cave.main.body.getD i (.Pass ⟨0,0,0,0⟩)
abbrev s_Chart___init__:Stmt:=inClass (top 17) 0
abbrev s_Chart_size:Stmt:=inClass (top 17) 1
abbrev s_check_shape:Stmt:=top 18
abbrev s_beginnings:Stmt:=top 19
abbrev s_Cave___init__:Stmt:=inClass (top 21) 0
abbrev s_Cave_size:Stmt:=inClass (top 21) 1
abbrev s_check_tables:Stmt:=top 23
abbrev s_check_places:Stmt:=top 24
abbrev s__law_numbers:Stmt:=top 26
abbrev s__law_perms:Stmt:=top 27
abbrev s__law_copied:Stmt:=top 28
abbrev s__law_due:Stmt:=top 29
abbrev s__law_good:Stmt:=top 30
abbrev s__law_spoilt:Stmt:=top 31
abbrev s_law:Stmt:=top 32
abbrev sNum:Stmt:=s__law_numbers
section
variable {P:Program}{w:World}{K:PySem.W.Frag}{mg:Str→Option Value}{base:Heap}
theorem scNum:FnScope ["_law_script","_law_many","_law_row","_law_seed","_law_cell","_law_rest","_law_k"] ["_law_script","_law_many"] (defScope sNum):=scm
theorem ok_num {f:Addr}{fd:FuncData} (F:Fun K "_law_numbers" "_law_numbers" sNum f fd) (T:Txt K mg):FnOk P w K mg base CX0 1 f fd ["_law_script","_law_many"] (spNumL K):=by
 refine F.ok scNum (fun vs H Q E h=>?_) (fun cdv A outer s H vs Q E hr h=>?_)
 · obtain ⟨a,ns,many,rfl,_⟩:=h
   rfl
 · obtain ⟨a,ns,many,rfl,hS,hn,hm,k⟩:=h
   refine ⟨_,pss_cons (ps_set (i:=2) scNum.nd rfl (Or.inl rfl) (pe_lst pa_nil))
    (pss_cons (ps_set (i:=3) scNum.nd rfl (Or.inl rfl) pe_int)
    (pss_cons (ps_for PassesOwn.never rfl (pi_list (pe_slice sl_list (pv 0) po_none (po_some pe_int))) (pg_name (i:=4) scNum.nd rfl (Or.inl rfl))
     (pss_cons (ps_set (i:=3) scNum.nd rfl (Or.inl rfl) (pe_op op_mod (pe_op op_add (pe_op op_add (pe_op op_mul (pv 3) pe_int) (pe_op op_mod (pv 4) pe_int)) pe_int) pe_int))
     (pss_cons (ps_set (i:=5) scNum.nd rfl (Or.inl rfl) (pe_op op_sub (pv 4) (pe_op op_pow pe_int pe_int)))
     (pss_cons (ps_if (pt_cmpR op_lt (pv 5) pe_int (nomark _))
      (pss_one (ps_expr (pe_bm PySem.F.plainAttrs_list PySem.F.slot_list_append PySem.F.type_list_append mt_append (pv 2) (pa_cons (pe_op op_mod (pv 4) pe_int) pa_nil)))) pss_nil)
     (pss_one (ps_for PassesOwn.never rfl (pi_range1 rfl T.range (pa_cons pe_int pa_nil)) (pg_name (i:=6) scNum.nd rfl (Or.inl rfl))
      (pss_one (ps_if (pt_cmpR op_gt (pv 5) pe_int (nomark _))
       (pss_cons (ps_expr (pe_bm PySem.F.plainAttrs_list PySem.F.slot_list_append PySem.F.type_list_append mt_append (pv 2) (pa_cons (pe_op op_mod (pv 5) pe_int) pa_nil)))
       (pss_one (ps_set (i:=5) scNum.nd rfl (Or.inl rfl) (pe_op op_fdiv (pv 5) pe_int)))) pss_nil))))))))
    (pss_cons (ps_while PassesOwn.never (pt_cmpR op_lt (pe_callB call_len_seq (by rfl) T.len PySem.boot_len (pa_cons (pv 2) pa_nil)) (pv 1) (nomark _))
     (pss_cons (ps_set (i:=3) scNum.nd rfl (Or.inl rfl) (pe_op op_mod (pe_op op_add (pe_op op_add (pe_op op_add (pe_op op_mul (pv 3) (pv 3)) (pe_op op_mul pe_int (pv 3))) (pe_op op_mul pe_int (pe_callB call_len_seq (by rfl) T.len PySem.boot_len (pa_cons (pv 2) pa_nil)))) pe_int) pe_int))
     (pss_one (ps_expr (pe_bm PySem.F.plainAttrs_list PySem.F.slot_list_append PySem.F.type_list_append mt_append (pv 2) (pa_cons (pe_op op_mod (pe_op op_fdiv (pv 3) pe_int) pe_int) pa_nil))))))
    (pss_one (ps_ret (pe_slice sl_list (pv 2) po_none (po_some (pv 1)))))))),?_⟩
   refine ⟨Nat.zero_le _,fun r hr0=>?_⟩
   refine ⟨_,rfl,_,rfl,a,_,rfl,(Same.refl H).upd hr0 |>.seq hS,fun p hp=>?_⟩
   have nrp:r≠p:=ne_of_none (H:=upd H r (.lst [])) (o:=.lst []) upd_same hp
   have hp0:H p=none:=by rw [upd_ne nrp.symm] at hp;exact hp
   rw [cutV_int]
   have hcl:=cutL_len ns none (some 63)
   generalize cutL ns none (some 63)=cs at hcl ⊢
   refine ⟨p,rfl,⟨_,SqL.of upd_same⟩,for_list (K:=K) (a:=p) (xs:=cs.map V.int) (fun i σ H2=>∃ (ms:List Int) (seed:Int) (c x y:Option V),σ=[some (.ref a),some (.int many),some (.ref r),some (.int seed),c,x,y]∧0≤seed∧seed < 2147483647∧
    ms.length≤61 * i∧Ints H2 r ms∧Ints H2 p cs∧Same H H2)
    ⟨[],17,none,none,none,rfl,by decide,by decide,Nat.zero_le _,((Ints.put (ns:=[])).other nrp),.put,((Same.refl H).upd hr0).upd hp0⟩ (fun i σ H2 _ ⟨_,_,_,_,_,_,_,_,_,_,z,_⟩=>SqL.of z) ?_ ?_⟩
   · rintro i y σ H2 hi ⟨ms,seed,c,x,y',rfl,h0,h1,hl,h2,h3,hs⟩
     obtain ⟨z,rfl,hz⟩:=get_int hi
     have hil:i < cs.length:=(List.getElem?_eq_some_iff.mp hz).1
     refine ⟨_,rfl,_,_,rfl,rfl,.inl ⟨by omega,by omega⟩,_,rfl,_,_,rfl,rfl,(by show (0:Int) < 1000003;decide),_,_,rfl,rfl,_,_,rfl,rfl,_,_,rfl,rfl,(by show (0:Int) < 2147483647;decide),?_⟩
     have g0:=Int.emod_nonneg (seed * 48271+z % 1000003+11) (show (2147483647:Int)≠0 by decide)
     have g1:=Int.emod_lt_of_pos (seed * 48271+z % 1000003+11) (show (0:Int) < 2147483647 by decide)
     refine ⟨_,rfl,_,_,rfl,rfl,⟨by decide,by decide,by decide⟩,_,_,rfl,rfl,?_⟩
     rw [pow18]
     refine ⟨_,rfl,_,_,rfl,rfl,_,rfl,?_⟩
     refine ite_key (fun H2=>∃ ms:List Int,ms.length≤61 * i+1∧Ints H2 r ms∧Ints H2 p cs∧Same H H2) ⟨ms,by omega,h2,h3,hs⟩ (fun H2 hP=>?key) (fun key=>?w1)
     case w1=>
      exact ⟨_,rfl,.inl ⟨rfl,_,SqL.of h2⟩,_,rfl,_,_,rfl,rfl,(by show (0:Int) < 1000;decide),r,_,_,rfl,rfl,h2,small4k (by rw [List.length_map];omega),key _ ⟨ms++[z % 1000],by simp;omega,.snoc,h3.other nrp.symm,hs.upd hr0⟩⟩
     case key=>
      obtain ⟨ms,hl,h2,h3,hs⟩:=hP
      refine ⟨_,rfl,by decide,by decide,for_range (lo:=0) (n:=60) (fun j σ H2=>∃ (ms:List Int) (rest:Int) (y:Option V),σ=[some (.ref a),some (.int many),some (.ref r),some (.int ((seed * 48271+z % 1000003+11) % 2147483647)),some (.int z),some (.int rest),y]∧
       ms.length≤61 * i+1+j∧Ints H2 r ms∧Ints H2 p cs∧Same H H2) ⟨ms,_,_,rfl,by omega,h2,h3,hs⟩ ?_ ?_⟩
      · rintro j σ H3 hj ⟨ms,rest,y,rfl,hl,h2,h3,hs⟩
        refine ⟨_,rfl,_,_,rfl,rfl,_,rfl,?_⟩
        refine ite2 (fun _=>?_) (fun _=>?_)
        · skip
          refine ⟨_,rfl,.inl ⟨rfl,_,SqL.of h2⟩,_,rfl,_,_,rfl,rfl,(by show (0:Int) < 1000;decide),r,_,_,rfl,rfl,h2,small4k (by rw [List.length_map];omega),?_⟩
          refine ⟨_,rfl,_,_,rfl,rfl,⟨by decide,by decide⟩,?_⟩
          exact ⟨ms++[rest % 1000],_,_,rfl,by simp;omega,.snoc,h3.other nrp.symm,hs.upd hr0⟩
        · exact ⟨ms,rest,_,rfl,by omega,h2,h3,hs⟩
      · rintro σ H3 ⟨ms,rest,y,rfl,hl,h2,h3,hs⟩
        exact ⟨ms,_,_,_,_,rfl,g0,g1,by omega,h2,h3,hs⟩
   · rintro σ H2 ⟨ms,seed,c,x,y,rfl,h0,h1,hl,h2,h3,hs⟩
     rw [List.length_map] at hl
     refine while_by (fun σ H2=>∃ (ms:List Int) (seed:Int) (c x y:Option V),σ=[some (.ref a),some (.int many),some (.ref r),some (.int seed),c,x,y]∧0≤seed∧seed < 2147483647∧ms.length≤4000∧Ints H2 r ms∧Same H H2)
      (fun σ H2=>match H2 r with | some (.lst xs)=>1000 - xs.length | _=>0) ⟨ms,seed,c,x,y,rfl,h0,h1,by omega,h2,hs⟩ ?_ ?_
     · rintro σ H2 ⟨ms,seed,c,x,y,rfl,h0,h1,hl,h2,hs⟩
       refine ⟨_,rfl,r,_,rfl,.inl (SqL.of h2),_,rfl,_,_,rfl,rfl,_,rfl,?_⟩
       refine ite2 (fun hlt=>?_) (fun hge=>?_)
       · have hlt:=of_decide_eq_true hlt
         rw [List.length_map] at hlt
         refine ⟨_,rfl,_,rfl,_,_,rfl,rfl,.inl ⟨by omega,by omega⟩,_,rfl,_,_,rfl,rfl,.inl ⟨by decide,by decide⟩,_,_,rfl,rfl,_,rfl,r,_,rfl,.inl (SqL.of h2),_,_,rfl,rfl,.inl ⟨by decide,by decide⟩,_,_,rfl,rfl,_,_,rfl,rfl,_,_,rfl,rfl,
          (by show (0:Int) < 2147483629;decide),?_⟩
         have g0:=Int.emod_nonneg (seed * seed+69621 * seed+7 * ((ms.map V.int).length:Int)+5) (show (2147483629:Int)≠0 by decide)
         have g1:=Int.emod_lt_of_pos (seed * seed+69621 * seed+7 * ((ms.map V.int).length:Int)+5) (show (0:Int) < 2147483629 by decide)
         refine ⟨_,rfl,.inl ⟨rfl,_,SqL.of h2⟩,_,rfl,_,_,rfl,rfl,⟨by decide,by decide⟩,_,_,rfl,rfl,(by show (0:Int) < 1000;decide),r,_,_,rfl,rfl,h2,small4k (by rw [List.length_map];omega),?_⟩
         refine ⟨⟨ms++[_],_,_,_,_,rfl,g0,Int.lt_trans g1 (by decide),by simp;omega,.snoc,hs.upd hr0⟩,?_⟩
         show (match upd H2 r _ r with | some (.lst xs)=>1000 - xs.length | _=>0) < (match H2 r with | some (.lst xs)=>1000 - xs.length | _=>0)
         rw [upd_same,h2]
         simp only [List.length_append,List.length_map,List.length_singleton]
         omega
       · have hge:¬ ((ms.map V.int).length:Int) < (many:Int):=fun z=>hge (decide_eq_true z)
         rw [List.length_map] at hge
         refine ⟨_,rfl,_,rfl,_,rfl,r,_,rfl,SqL.of h2,fun q hq=>?_⟩
         rw [cutV_int,cutL_to]
         exact k q (ms.take many) _ (by rw [List.length_take];omega) trivial (hs.free hq) .put (hs.upd' hq)
     · rintro σ H Q Q' hQ ⟨v,e,p,ys,e',q,v',e'',i,j,e3,e4,b,e5,q5⟩
       exact ⟨v,e,p,ys,e',q,v',e'',i,j,e3,e4,b,e5,hQ _ _ q5⟩
theorem sc__law_perms:FnScope ["_law_kinds","_law_size","_law_draws","_law_tables","_law_k","_law_left","_law_ends","_law_c"] ["_law_kinds","_law_size","_law_draws"] (defScope s__law_perms):=scm
theorem ok_perms {f:Addr}{fd:FuncData} (F:Fun K "_law_perms" "_law_perms" s__law_perms f fd) (T:Txt K mg):FnOk P w K mg base CX0 1 f fd ["_law_kinds","_law_size","_law_draws"] spPerms:=by
 refine F.ok sc__law_perms (fun vs H Q E h=>?_) (fun cdv A outer s H vs Q E hr h=>?_)
 · obtain ⟨k,n,ld,ds,rfl,_⟩:=h
   rfl
 · obtain ⟨k,n,ld,ds,rfl,hd,k5,n1,n7,hl,q⟩:=h
   refine ⟨_,(@sC _ _ _ _ _ (@sS _ 3 _ _ _ _ _ sc__law_perms.nd rfl (Or.inl rfl) (pe_lstW pa_nil) (by rfl) (.inl rfl))
    (@sC _ _ _ _ _ (ps_for PassesOwn.never rfl (pi_range1 rfl T.range (@aC _ _ _ _ _ (pv 0) pa_nil (by rfl))) (pg_name (i:=4) sc__law_perms.nd rfl (Or.inl rfl)) (@sC _ _ _ _ _ (@sS _ 5 _ _ _ _ _ sc__law_perms.nd rfl (Or.inl rfl) (pe_callTy (call_listRng rfl) rfl T.list bt_list (pa_cons (pe_rng rfl T.range (@aC _ _ _ _ _ (pv 1) pa_nil (by rfl))) pa_nil)) (by rfl) (.inl rfl))
    (@sC _ _ _ _ _ (@sS _ 6 _ _ _ _ _ sc__law_perms.nd rfl (Or.inl rfl) (pe_lstW pa_nil) (by rfl) (.inl rfl))
    (@sC _ _ _ _ _ (ps_for PassesOwn.never rfl (pi_range1 rfl T.range (@aC _ _ _ _ _ (pv 1) pa_nil (by rfl))) (pg_name (i:=7) sc__law_perms.nd rfl (Or.inl rfl)) (@sO _ _ _ (ps_expr (pe_bm PySem.F.plainAttrs_list PySem.F.slot_list_append PySem.F.type_list_append mt_append (pv 6) (@aC _ _ _ _ _ (pe_bm PySem.F.plainAttrs_list PySem.F.slot_list_pop PySem.F.type_list_pop mt_popAt (pv 5) (@aC _ _ _ _ _ (pe_op op_mod (pe_ix ix_l (pv 2) (pe_op op_add (pe_op op_mul (pv 4) (pv 1)) (pv 7)) (fun _ _=>rfl)) (pe_callB call_len_seq (by rfl) T.len PySem.boot_len (@aC _ _ _ _ _ (pv 5) pa_nil (by rfl)))) pa_nil (by rfl))) pa_nil (by rfl))))))
    (@sO _ _ _ (ps_expr (pe_bm PySem.F.plainAttrs_list PySem.F.slot_list_append PySem.F.type_list_append mt_append (pv 3) (@aC _ _ _ _ _ (pv 6) pa_nil (by rfl)))))))))
    (@sO _ _ _ (@sR _ _ _ _ (pv 3))))),?_⟩
   refine rd_lstV (by simp) fun t H1 ht0 it s1=>?_
   have N1:NewT H H1 t [] []:=⟨ht0,(fun _ z=>nomatch z),by simp,⟨it,rfl,fun i a r e=>by simp at e⟩,s1⟩
   refine ⟨_,rfl,_,rfl,by omega,by omega,for_range (lo:=0) (n:=(k:Int).toNat) (fun i σ H2=>∃ (U:Tab) (as:List Addr) (x4 x5 x6 x7:Option V),σ=[some (.int k),some (.int n),some (.ref ld),some (.ref t),x4,x5,x6,x7]∧NewT H H2 t as U∧PermT i n U)
    ⟨[],[],none,none,none,none,rfl,N1,rfl,(fun _ z=>nomatch z)⟩ ?_ ?_⟩
   · rintro i σ H2 hi ⟨U,as,x4,x5,x6,x7,rfl,N2,pm⟩
     have hi:i < k:=by omega
     refine ⟨_,rfl,_,rfl,fun r hr0=>rd_range (K:=K) upd_same (by omega) fun lf H3 hlf il s3=>?_⟩
     have s23:Same H2 H3:=((Same.refl H2).upd hr0).trans s3
     have hlf2:H2 lf=none:=by
      have:=hlf
      by_cases z:lf=r
      · rw [z];exact hr0
      · rwa [upd_ne z] at this
     refine rd_lstV (by simp) fun en H4 hen ie s4=>?_
     have hen2:H2 en=none:=s23.free hen
     have nle:lf≠en:=fun z=>by rw [z] at il;rw [show H3 en=_ from il] at hen;cases hen
     refine ⟨_,rfl,_,rfl,by omega,by omega,for_range (lo:=0) (n:=(n:Int).toNat) (fun c σ H5=>∃ (left ends:List Int) (y7:Option V),σ=[some (.int k),some (.int n),some (.ref ld),some (.ref t),some (.int (0+i)),some (.ref lf),some (.ref en),y7]∧Same H2 H5∧Ints H5 lf left∧Ints H5 en ends∧ends.length=c∧MidP n c left ends)
      ⟨lab0 n,[],_,rfl,s23.trans s4,s4.ints il,ie,rfl,MidP.zero n⟩ ?_ ?_⟩
     · rintro c σ H5 hc ⟨left,ends,y7,rfl,s5,i5,e5,lc,md⟩
       have hc:c < n:=by omega
       have h5:=(N2.sm.trans s5).ints hd
       have mul:i * n+c < ds.length:=by
        have h5:(i+1) * n≤k * n:=Nat.mul_le_mul_right n hi
        rw [Nat.add_mul] at h5
        omega
       have ll:=md.len
       have e1:((left.map V.int).length:Int)=((n - c:Nat):Int):=by rw [List.length_map,ll]
       refine ⟨_,rfl,.inl ⟨rfl,_,SqL.of e5⟩,_,rfl,.inl ⟨rfl,_,SqL.of i5⟩,_,rfl,_,rfl,_,rfl,_,_,rfl,rfl,.inl ⟨by omega,by omega⟩,_,rfl,_,_,rfl,rfl,rd_at (i * n+c) h5 mul ?_ (by rw [Int.zero_add,Int.zero_add,Int.natCast_add,Int.natCast_mul])⟩
       generalize ds.getD (i * n+c) 0=d
       have m0:=Int.emod_nonneg d (show ((n - c:Nat):Int)≠0 by omega)
       have m1:=Int.emod_lt_of_pos d (show (0:Int) < ((n - c:Nat):Int) by omega)
       obtain ⟨m,em⟩:∃ m:Nat,d % ((n - c:Nat):Int)=(m:Int):=⟨(d % ((n - c:Nat):Int)).toNat,by omega⟩
       have hm:m < left.length:=by omega
       have ix:ixN (left.map V.int).length (m:Int)=some m:=by
        unfold ixN
        rw [if_pos (by omega),if_pos (by rw [List.length_map];omega)];rfl
       refine ⟨_,rfl,lf,_,rfl,.inl (SqL.of i5),_,_,rfl,rfl,by rw [e1];omega,lf,_,_,m,.int left[m],rfl,rfl,i5,?_,?_,?_,?_,?_⟩
       · rw [e1,em];omega
       · rw [e1,em];have:=(ixN_seq ix).2.2.2;rw [List.length_map] at this;omega
       · rw [e1,em];exact (ixN_seq ix).1
       · simp [hm]
       have il6:Ints (upd H5 lf (.lst ((left.map V.int).eraseIdx m))) lf (left.eraseIdx m):=by
        show upd _ _ _ _=_
        rw [upd_same,map_eraseIdx]
       have ie6:Ints (upd H5 lf (.lst ((left.map V.int).eraseIdx m))) en ends:=e5.other nle.symm
       have s6:Same H2 (upd H5 lf (.lst ((left.map V.int).eraseIdx m))):=s5.upd hlf2
       generalize upd H5 lf (.lst ((left.map V.int).eraseIdx m))=H6 at il6 ie6 s6
       refine ⟨en,_,_,rfl,rfl,ie6,small4k (by rw [List.length_map];omega),?_⟩
       refine ⟨_,_,_,rfl,s6.upd hen2,il6.other nle,Ints.snoc,by simp [lc],md.step hm⟩
     · rintro σ H5 ⟨left,ends,y7,rfl,s5,i5,e5,lc,md⟩
       rw [Int.toNat_natCast] at md
       have hT:=s5 _ _ N2.tb.is
       refine ⟨_,rfl,.inl ⟨rfl,_,SqL.of hT⟩,_,rfl,t,_,_,rfl,rfl,hT,small4k (by rw [List.length_map,N2.tb.len,pm.len];omega),?_⟩
       refine ⟨U++[ends.map some],as++[en],_,_,_,_,rfl,N2.snoc hen2 (rowI.mpr e5) s5,by simp [pm.len],fun r hr2=>?_⟩
       rcases List.mem_append.mp hr2 with e | e
       · exact pm.row r e
       · exact ⟨ends,List.mem_singleton.mp e,md.done⟩
   · rintro σ H2 ⟨U,as,x4,x5,x6,x7,rfl,N2,pm⟩
     rw [Int.toNat_natCast] at pm
     exact ⟨_,rfl,q t as U H2 N2.ft N2.fa N2.nd N2.tb pm N2.sm⟩
theorem sc__law_copied:FnScope ["_law_table"] ["_law_table"] (defScope s__law_copied):=scm
theorem ok_copied {f:Addr}{fd:FuncData} (F:Fun K "_law_copied" "_law_copied" s__law_copied f fd) (T:Txt K mg):FnOk P w K mg base CX0 1 f fd ["_law_table"] spCopied:=by
 refine F.ok sc__law_copied (fun vs H Q E h=>?_) (fun cdv A outer s H vs Q E hr h=>?_)
 · obtain ⟨t,as,T',rfl,_⟩:=h
   rfl
 · obtain ⟨t,as,T',rfl,ht,hl,q⟩:=h
   refine ⟨_,(@sO _ _ _ (@sR _ _ _ _ (pe_compW [] [] (pi_list (pv 0)) (fun C s H fp=>pe_callTy (listK K rfl) rfl T.list bt_list (pa_cons (pv 0) pa_nil)) hcl_nil))),?_⟩
   refine ⟨_,rfl,t,rfl,⟨_,SqL.of ht.is⟩,comp_tabL (xs:=as.map V.ref) T' (SqL.of ht.is) (by rw [List.length_map,ht.len]) (by rw [List.length_map,ht.len];omega) (fun i x r hi hr2 H2 s2 Q' q'=>?_) fun D bs H2 N2=>q D bs H2 N2.ft N2.fa N2.nd N2.tb N2.sm⟩
   obtain ⟨a,rfl,ea⟩:=get_adr hi
   exact ⟨_,rfl,rd_listO ((ht.rw i a r ea hr2).same s2) q'⟩
theorem sc__law_due:FnScope ["_law_want","_law_names"] ["_law_want"] (defScope s__law_due):=scm
theorem ok_due {f:Addr}{fd:FuncData} (F:Fun K "_law_due" "_law_due" s__law_due f fd):FnOk P w K mg base CX0 1 f fd ["_law_want"] spDueX:=by
 refine F.ok sc__law_due (fun vs H Q E h=>?_) (fun cdv A outer s H vs Q E hr h=>?_)
 · obtain ⟨c,hc,rfl,_⟩:=h
   rfl
 · obtain ⟨c,hc,rfl,k⟩:=h
   refine ⟨_,(@sC _ _ _ _ _ (@sS _ 1 _ _ _ _ _ sc__law_due.nd rfl (Or.inl rfl) (@eL _ _ _ _ (@aC _ _ _ _ _ pe_str (@aC _ _ _ _ _ pe_str (@aC _ _ _ _ _ pe_str (@aC _ _ _ _ _ pe_str (@aC _ _ _ _ _ pe_str (@aC _ _ _ _ _ pe_str (@aC _ _ _ _ _ pe_str (@aC _ _ _ _ _ pe_str (@aC _ _ _ _ _ pe_str (@aC _ _ _ _ _ pe_str pa_nil (by rfl)) (by rfl)) (by rfl)) (by rfl)) (by rfl)) (by rfl)) (by rfl)) (by rfl)) (by rfl)) (by rfl))) (by rfl) (.inl rfl))
    (@sO _ _ _ (@sR _ _ _ _ (pe_op op_catW (@eL _ _ _ _ (@aC _ _ _ _ _ pe_bl pa_nil (by rfl))) (pe_compW ["_law_want"] [0] (pi_list (pe_op op_catW (pv 1) (pe_lstW (pa_cons pe_str pa_nil)))) (fun C s H fp=>pe_cmpR op_eq (pv 0) (pv 1) (nomark _)) (hcl1 rfl)))))),?_⟩
   refine rd_lsV (by decide) fun l1 H1 f1 h1 s1=>?_
   refine rd_lsV (by decide) fun l2 H2 f2 h2 s2=>?_
   refine ⟨_,rfl,rd_lsV (by decide) fun l3 H3 f3 h3 s3=>?_⟩
   refine rd_catV (s3 _ _ (s2 _ _ h1)) h3 (by decide) fun l4 H4 f4 h4 s4=>?_
   refine ⟨l4,rfl,⟨_,SqL.of h4⟩,?_⟩
   refine comp_valsW (K:=K) (fun v=>.bl (decide (v=V.str (refN.getD c "")))) (SqL.of h4) (small4k (by decide)) (fun z hz H' Q' _ q'=>⟨_,rfl,_,rfl,(by
    have:z∈([V.str "NoKind",V.str "NoWay",V.str "NoMark",V.str "NoEntry",V.str "NoHold",V.str "NoChamber",V.str "NoChart",V.str "NoCave",V.str "NoHome",V.str "Barred"]++[V.str "Full"]):=hz
    simp only [List.cons_append,List.nil_append,List.mem_cons,List.not_mem_nil,or_false] at this
    rcases this with rfl | rfl | rfl | rfl | rfl | rfl | rfl | rfl | rfl | rfl | rfl <;> rfl),q'⟩) fun D H5 hD h5 s4D=>?_
   have s14:=(s1.trans (s2.trans (s3.trans s4)))
   refine rd_catV (s4D _ _ (s4 _ _ (s3 _ _ h2))) h5 (by rw [List.length_map];decide) fun p H' fp hp s'=>?_
   refine k p H' ?_ ?_ ((s14.trans s4D).trans s')
   · exact (s14.trans s4D).free fp
   · rw [hp]
     exact congrArg (fun l=>some (HO.lst l)) (due_eq c hc)
theorem sc_Chart_size:FnScope ["self"] ["self"] (defScope s_Chart_size):=scm
theorem ok_size {f C:Addr}{fd:FuncData} (F:Fun K "size" "Chart.size" s_Chart_size f fd) (T:Txt K mg) (TC:TxtC K mg C):FnOk P w K mg base CX0 1 f fd ["self"] (spSize C):=by
 refine F.ok sc_Chart_size (fun vs H Q E h=>?_) (fun cdv A outer s H vs Q E hr h=>?_)
 · obtain ⟨g,k,n,T',fp,rfl,_⟩:=h
   rfl
 · obtain ⟨g,k,n,T',fp,rfl,hc,q⟩:=h
   obtain ⟨dx,lo,li,as,bs,I,rfl,hg,h1,h2,h3,h4⟩:=hc.ob
   refine ⟨_,(@sO _ _ _ (@sR _ _ _ _ (pe_callB call_len_seq (by rfl) T.len PySem.boot_len (@aC _ _ _ _ _ (pe_ix ix_l (pe_fld (pv 0) rfl) pe_int (fun _ _=>rfl)) pa_nil (by rfl))))),?_⟩
   obtain ⟨a,ea,_,e0,hr0⟩:=h1.at (i:=0) (by rw [cols_len];exact hc.k1)
   rw [cols_getD T' hc.k1] at hr0
   refine ⟨_,rfl,g,C,dx,_,_,rfl,hg,TC.cl,TC.no,chf_on ..,rd_row 0 h1 ea ⟨a,_,rfl,.inl (SqL.of hr0),?_⟩⟩
   rw [List.length_map,col_len,hc.ok.len]
   exact q
theorem sc_check_shape:FnScope ["kinds","table","row"] ["kinds","table"] (defScope s_check_shape):=scm
theorem ok_shape {f C:Addr}{fd:FuncData} (F:Fun K "check_shape" "check_shape" s_check_shape f fd) (T:Txt K mg) (TC:TxtC K mg C):FnOk P w K mg base CX0 1 f fd ["kinds","table"] spShape:=by
 obtain ⟨_,hmk⟩:=TC.mkk
 obtain ⟨_,hmc⟩:=TC.mcc
 refine F.ok sc_check_shape (fun vs H Q E h=>?_) (fun cdv A outer s H vs Q E hr h=>?_)
 · obtain ⟨k,n,t,as,T',rfl,_⟩:=h
   rfl
 · obtain ⟨k,n,t,as,T',rfl,ht,ok,k1,k5,n1,n7,q⟩:=h
   refine ⟨_,(@sC _ _ _ _ _ (ps_if (PW.pt (pw_or (pt_cmpR op_lt (pv 0) pe_int (nomark _)) (pw_or1 (pt_cmpR op_gt (pv 0) (pe_glob (v:=.int 5) rfl hmk ⟨_,rfl⟩) (nomark _))))) (@sO _ _ _ ps_never) pss_nil)
    (@sC _ _ _ _ _ (ps_if (PW.pt (pw_or (pt_cmpR op_lt (pe_callB call_len_seq (by rfl) T.len PySem.boot_len (@aC _ _ _ _ _ (pv 1) pa_nil (by rfl))) pe_int (nomark _)) (pw_or1 (pt_cmpR op_gt (pe_callB call_len_seq (by rfl) T.len PySem.boot_len (@aC _ _ _ _ _ (pv 1) pa_nil (by rfl))) (pe_glob (v:=.int 700) rfl hmc ⟨_,rfl⟩) (nomark _))))) (@sO _ _ _ ps_never) pss_nil)
    (@sO _ _ _ (ps_for PassesOwn.never rfl (pi_list (pv 1)) (pg_name (i:=2) sc_check_shape.nd rfl (Or.inl rfl)) (@sO _ _ _ (ps_if (pt_cmpR op_ne (pe_callB call_len_seq (by rfl) T.len PySem.boot_len (@aC _ _ _ _ _ (pv 2) pa_nil (by rfl))) (pv 0) (nomark _)) (@sO _ _ _ ps_never) pss_nil)))))),?_⟩
   have hl:as.length=n:=by rw [ht.len,ok.len]
   have e1:((as.map V.ref).length:Int)=n:=by rw [List.length_map,hl]
   refine ⟨_,rfl,_,_,rfl,rfl,_,rfl,iteFe (decide_eq_false (by omega)) ⟨_,rfl,_,_,rfl,rfl,_,rfl,iteFe (decide_eq_false (by omega)) ?_⟩⟩
   refine ⟨_,rfl,t,_,rfl,.inl (SqL.of ht.is),_,_,rfl,rfl,_,rfl,iteFe (decide_eq_false (by omega)) ⟨_,rfl,t,_,rfl,.inl (SqL.of ht.is),_,_,rfl,rfl,_,rfl,iteFe (decide_eq_false (by omega)) ?_⟩⟩
   refine ⟨_,rfl,t,rfl,⟨_,SqL.of ht.is⟩,for_list (K:=K) (a:=t) (xs:=as.map V.ref) (fun i σ H2=>(∃ x,σ=[some (.int k),some (.ref t),x])∧H2=H) ⟨⟨none,rfl⟩,rfl⟩ (fun i σ H2 _ ⟨_,e⟩=>by rw [e];exact SqL.of ht.is) ?_ ?_⟩
   · rintro i x σ H2 hi ⟨⟨y,rfl⟩,rfl⟩
     obtain ⟨a,rfl,ea⟩:=get_adr hi
     have hi':i < T'.length:=by rw [← ht.len];exact (List.getElem?_eq_some_iff.mp ea).1
     obtain ⟨a',e1,_,e2,hr2⟩:=ht.at hi'
     rw [ea] at e1;cases e1
     have rl:((T'.getD i []).map oV).length=k:=by rw [List.length_map];exact ok.row _ (List.mem_of_getElem? e2)
     refine ⟨_,rfl,a,_,rfl,.inl (SqL.of hr2),_,rfl,rfl,_,rfl,iteFe ?_ ⟨⟨_,rfl⟩,rfl⟩⟩
     rw [rl];simp
   · rintro σ H2 ⟨⟨y,rfl⟩,rfl⟩
     exact q
theorem sc_beginnings:FnScope ["ends","found","chamber","there"] ["ends"] (defScope s_beginnings):=scm
theorem ok_beg {f:Addr}{fd:FuncData} (F:Fun K "beginnings" "beginnings" s_beginnings f fd) (T:Txt K mg):FnOk P w K mg base CX0 1 f fd ["ends"] spBeg:=by
 refine F.ok sc_beginnings (fun vs H Q E h=>?_) (fun cdv A outer s H vs Q E hr h=>?_)
 · obtain ⟨a,ends,rfl,_⟩:=h
   rfl
 · obtain ⟨a,ends,rfl,ha,ok,hl,q⟩:=h
   refine ⟨_,(@sC _ _ _ _ _ (@sS _ 1 _ _ _ _ _ sc_beginnings.nd rfl (Or.inl rfl) (pe_op op_rep.wr (pe_lstW (pa_cons pe_non pa_nil)) (pe_callB call_len_seq (by rfl) T.len PySem.boot_len (pa_cons (pv 0) pa_nil))) (by rfl) (.inl rfl))
    (@sC _ _ _ _ _ (ps_for PassesOwn.never rfl (pi_enum rfl T.enum bt_enum (@aC _ _ _ _ _ (pv 0) pa_nil (by rfl))) (pg_tup rfl (pgs_cons (pg_name (i:=2) sc_beginnings.nd rfl (Or.inl rfl)) (pgs_cons (pg_name (i:=3) sc_beginnings.nd rfl (Or.inl rfl)) pgs_nil))) (@sC _ _ _ _ _ (ps_if (pt_cmpR op_isN (pv 3) pe_non (nomark _)) (@sO _ _ _ ps_continue) pss_nil)
    (@sC _ _ _ _ _ (ps_if (PW.pt (pw_or (pt_cmpR op_lt (pv 3) pe_int (nomark _)) (pw_or1 (pt_cmpR op_ge (pv 3) (pe_callB call_len_seq (by rfl) T.len PySem.boot_len (@aC _ _ _ _ _ (pv 0) pa_nil (by rfl))) (nomark _))))) (@sO _ _ _ ps_never) pss_nil)
    (@sC _ _ _ _ _ (ps_if (pt_cmpR op_notN (pe_ix ix_l (pv 1) (pv 3) (fun _ _=>rfl)) pe_non (nomark _)) (@sO _ _ _ ps_never) pss_nil)
    (@sO _ _ _ (ps_asg (pv 2) (pg_sub (pv 1) (pv 3) set_list)))))))
    (@sO _ _ _ (@sR _ _ _ _ (pv 1))))),?_⟩
   refine rd_lstV (by simp) fun p H1 hp ip s1=>?_
   have le:((ends.map oV).length:Int)=ends.length:=by rw [List.length_map]
   refine ⟨_,rfl,a,_,rfl,.inl (SqL.of (ha.same s1)),rd_rep (z:=none) ip (by omega) (fun l H2 hl2 il s2=>?_) le⟩
   have s12:=s1.trans s2
   have hla:H l=none:=s1.free hl2
   refine ⟨_,rfl,a,rfl,⟨_,SqL.of (ha.same s12)⟩,for_enum (K:=K) (a:=a) (xs:=ends.map oV) (fun i σ H3=>∃ (fs:List (Option Int)) (x y:Option V),σ=[some (.ref a),some (.ref l),x,y]∧Row H3 l fs∧BegPart i ends fs∧Same H H3)
    ⟨_,none,none,rfl,il,BegPart.zero ends,s12⟩ (fun i σ H3 _ ⟨_,_,_,_,_,_,s3⟩=>SqL.of (ha.same s3)) ?_ ?_⟩
   · rintro i v σ H3 tt hi ht3 ⟨fs,x,y,rfl,il3,bp,s3⟩
     obtain ⟨z,rfl,ez⟩:=get_opt hi
     have hlt:l≠tt:=ne_of_none il3 ht3
     have s4:Same H (upd H3 tt (.tup [.int i,oV z])):=s3.upd' ht3
     have il4:Row (upd H3 tt (.tup [.int i,oV z])) l fs:=by show upd _ _ _ _=_;rw [upd_ne hlt];exact il3
     refine ⟨tt,_,rfl,SqT.of upd_same,rfl,_,_,rfl,_,_,rfl,rfl,?_⟩
     generalize upd H3 tt (.tup [.int i,oV z])=H4 at s4 il4
     have eg:=getD_some (d:=none) ez
     cases z with
     | none=>exact ⟨_,rfl,rfl,_,rfl,iteT ⟨fs,_,_,rfl,il4,bp.skip eg,s4⟩⟩
     | some e=>
      obtain ⟨e0,e1⟩:=ok.1 i e eg
      obtain ⟨m,rfl⟩:∃ m:Nat,e=(m:Int):=⟨e.toNat,by omega⟩
      have fr:=bp.free ok eg
      have hm:m < fs.length:=by rw [bp.len];omega
      refine ⟨_,rfl,rfl,_,rfl,iteF ?_⟩
      refine ⟨_,rfl,_,_,rfl,rfl,_,rfl,iteFe (decide_eq_false (by omega)) ⟨_,rfl,_,rfl,a,_,rfl,.inl (SqL.of (ha.same s4)),_,_,rfl,rfl,_,rfl,iteFe (decide_eq_false (by rw [le];omega)) ?_⟩⟩
      refine ⟨_,rfl,_,rfl,rd_cell m il4 hm ⟨rfl,_,rfl,?_⟩⟩
      rw [fr]
      refine iteF ⟨_,rfl,_,rfl,_,rfl,l,_,m,m,rfl,rfl,il4,?_,?_⟩
      · unfold ixN
        rw [if_pos (by omega),if_pos (by rw [List.length_map];omega)];rfl
      · refine ⟨fs.set m (some (i:Int)),_,_,rfl,?_,bp.put ok eg,s4.upd hla⟩
        show upd _ _ _ _=_
        rw [upd_same,List.map_set];rfl
   · rintro σ H3 ⟨fs,x,y,rfl,il3,bp,s3⟩
     rw [List.length_map] at bp
     exact ⟨_,rfl,q l fs H3 hla il3 bp s3⟩
theorem sc_Chart___init__:FnScope ["self","kinds","table"] ["self","kinds","table"] (defScope s_Chart___init__):=scm
theorem ok_init {f C:Addr}{fd:FuncData} (F:Fun K "__init__" "Chart.__init__" s_Chart___init__ f fd) (T:Txt K mg) (TC:TxtC K mg C) (SH:Rdy P w K mg base "check_shape" ["kinds","table"] 1 spShape) (BG:Rdy P w K mg base "beginnings" ["ends"] 1 spBeg):
  FnOk P w K mg base CX0 2 f fd ["self","kinds","table"] (spInit C):=by
 refine F.ok sc_Chart___init__ (fun vs H Q E h=>?_) (fun cdv A outer s H vs Q E hr h=>?_)
 · obtain ⟨g,dx,k,n,t,as,T',rfl,_⟩:=h
   rfl
 · obtain ⟨g,dx,k,n,t,as,T',rfl,hg,ht,ok,k1,k5,n1,n7,q⟩:=h
   refine ⟨_,(@sC _ _ _ _ _ (ps_expr (SH.pe hr (@aC _ _ _ _ _ (pv 1) (@aC _ _ _ _ _ (pv 2) pa_nil (by rfl)) (by rfl))))
    (@sC _ _ _ _ _ (ps_fld (pv 0) (pv 1) rfl)
    (@sC _ _ _ _ _ (ps_fld (pv 0) (pe_compC ["table"] [2] (pi_range1 rfl T.range (pa_cons (pv 1) pa_nil)) (fun C s H fp=>pe_compW ["place"] [0] (pil K rfl (pv 1)) (fun C2 s2 H2 fp2=>pe_ix (ixl K rfl) (pv 0) (pv 1) (fun _ _=>rfl)) (hcl1 rfl)) (hcl1 rfl)) rfl)
    (@sO _ _ _ (ps_fld (pv 0) (pe_compW [] [] (pi_list (pe_fld (pv 0) rfl)) (fun C s H fp=>BG.pe hr (pa_cons (pv 0) pa_nil)) hcl_nil) rfl))))),?_⟩
   have hT:T'.length≤1000:=by rw [ok.len];omega
   refine ⟨_,rfl,_,rfl,k,n,t,as,T',rfl,ht,ok,k1,k5,n1,n7,?_⟩
   refine ⟨_,rfl,_,rfl,g,C,dx,[],rfl,hg,TC.cl,TC.nk,(by show 0 < 1000;decide),?_⟩
   have ag:∀ a∈t::as,a≠g:=fun a ha z=>by
    subst z
    rcases List.mem_cons.mp ha with e | e
    · subst e;rw [ht.is] at hg;cases hg
    · obtain ⟨i,hi,e⟩:=List.getElem_of_mem e
      have hi2:i < T'.length:=by rw [← ht.len];exact hi
      have:=ht.rw i a T'[i] (by simp [← e,hi]) (by simp [hi2])
      rw [show H a=_ from this] at hg;cases hg
   have ht1:Tb (upd H g (.ins C dx (putF "kinds" (.int k) []))) t as T':=ht.on fun a ha o e=>by rw [upd_ne (ag a ha)];exact e
   have hg1:upd H g (.ins C dx (putF "kinds" (.int k) [])) g=some (.ins C dx (putF "kinds" (.int k) [])):=upd_same
   have k01:Kp g H (upd H g (.ins C dx (putF "kinds" (.int k) []))):=fun c o e nc=>by rw [upd_ne nc];exact e
   have fr1:∀ a,upd H g (.ins C dx (putF "kinds" (.int k) [])) a=none→H a=none:=fun a ha=>by
    by_cases z:a=g
    · rw [z,upd_same] at ha;cases ha
    · rwa [upd_ne z] at ha
   generalize upd H g (.ins C dx (putF "kinds" (.int k) []))=H1 at ht1 hg1 k01 fr1
   refine ⟨_,rfl,_,rfl,by omega,by omega,comp_tab (n:=(k:Int).toNat) (fun j=>col T' j) (by omega) (fun j hj H2 s2 Q' q'=>?_) fun lo os H2 N2=>?_⟩
   · refine ⟨_,rfl,t,rfl,⟨_,SqL.of (ht1.same s2).is⟩,comp_col (j:=j) (ht1.same s2) (by omega) (fun a r hr2 H3 Q3 s3 h3 q3=>?_) fun D hD=>q' D _ hD upd_same ((Same.refl _).upd hD)⟩
     exact ⟨_,rfl,_,rfl,rd_cell j h3 (by rw [ok.row r hr2];omega) q3 (by omega)⟩
   have e2:(List.range (k:Int).toNat).map (fun j=>col T' j)=cols k T':=by rw [Int.toNat_natCast];rfl
   rw [e2] at N2
   have ng:lo≠g:=fun z=>by have:=N2.ft;rw [z,hg1] at this;cases this
   have nos:∀ a∈lo::os,a≠g:=fun a ha z=>by
    rcases List.mem_cons.mp ha with e | e
    · exact ng (e▸z)
    · have:=N2.fa a e;rw [z,hg1] at this;cases this
   refine ⟨_,rfl,g,C,dx,_,rfl,N2.sm _ _ hg1,TC.cl,TC.no,(by show 1 < 1000;decide),?_⟩
   have hg3:upd H2 g (.ins C dx (putF "onward" (.ref lo) (putF "kinds" (.int k) []))) g=some (.ins C dx (putF "onward" (.ref lo) (putF "kinds" (.int k) []))):=upd_same
   have to3:Tb (upd H2 g (.ins C dx (putF "onward" (.ref lo) (putF "kinds" (.int k) [])))) lo os (cols k T'):=N2.tb.on fun a ha o e=>by rw [upd_ne (nos a ha)];exact e
   have k13:Kp g H1 (upd H2 g (.ins C dx (putF "onward" (.ref lo) (putF "kinds" (.int k) [])))):=fun c o e nc=>by rw [upd_ne nc];exact N2.sm _ _ e
   have fr3:∀ a,upd H2 g (.ins C dx (putF "onward" (.ref lo) (putF "kinds" (.int k) []))) a=none→H1 a=none:=fun a ha=>by
    by_cases z:a=g
    · rw [z,upd_same] at ha;cases ha
    · rw [upd_ne z] at ha;exact N2.sm.free ha
   generalize upd H2 g (.ins C dx (putF "onward" (.ref lo) (putF "kinds" (.int k) [])))=H3 at hg3 to3 k13 fr3
   refine ⟨_,rfl,g,C,dx,_,_,rfl,hg3,TC.cl,TC.no,(by rw [lookup_putF,if_pos rfl]),lo,rfl,⟨_,SqL.of to3.is⟩,comp_tabP (xs:=os.map V.ref) (fun i r=>BegOk (col T' i) r) (SqL.of to3.is) (by rw [List.length_map,to3.len,cols_len];omega) (fun i x hi H4 s4 Q' q'=>?_) fun li bs I H4 N4 lI hI=>?_⟩
   · obtain ⟨a,rfl,ea⟩:=get_adr hi
     have hik:i < k:=by
      have:=(List.getElem?_eq_some_iff.mp ea).1
      rw [to3.len,cols_len] at this;exact this
     have hrow:Row H4 a (col T' i):=(to3.rw i a _ ea (cols_at T' hik)).same s4
     exact ⟨_,rfl,a,_,rfl,hrow,ok.ends i,by rw [col_len];omega,fun l fs H5 hl hr5 hb s5=>q' l fs H5 hl hr5 hb s5⟩
   · have ng4:li≠g:=fun z=>by have:=N4.ft;rw [z,hg3] at this;cases this
     have nos4:∀ a∈li::bs,a≠g:=fun a ha z=>by
      rcases List.mem_cons.mp ha with e | e
      · exact ng4 (e▸z)
      · have:=N4.fa a e;rw [z,hg3] at this;cases this
     refine ⟨_,rfl,g,C,dx,_,rfl,N4.sm _ _ hg3,TC.cl,TC.ni,(by show 2 < 1000;decide),?_⟩
     rw [List.length_map,to3.len,cols_len] at lI
     refine q _ (g::((lo::os)++(li::bs))) ⟨ok,k1,k5,n1,n7,dx,lo,li,os,bs,I,rfl,upd_same,?_,?_,lI,fun j hj=>?_⟩ ?_ ?_
     · exact (to3.same N4.sm).on fun a ha o e=>by rw [upd_ne (nos a ha)];exact e
     · exact N4.tb.on fun a ha o e=>by rw [upd_ne (nos4 a ha)];exact e
     · exact hI j _ (by simp [List.getD,lI,hj])
     · intro a ha nag
       rcases List.mem_cons.mp ha with e | e
       · exact absurd e nag
       · rcases List.mem_append.mp e with e | e
         · refine fr1 a ?_
           rcases List.mem_cons.mp e with e | e
           · rw [e];exact N2.ft
           · exact N2.fa a e
         · refine fr1 a (fr3 a ?_)
           rcases List.mem_cons.mp e with e | e
           · rw [e];exact N4.ft
           · exact N4.fa a e
     · intro c o e nc
       rw [upd_ne nc]
       exact N4.sm _ _ (k13 _ _ (k01 _ _ e nc) nc)
theorem sc_check_tables:FnScope ["kinds","tables","size","table"] ["kinds","tables"] (defScope s_check_tables):=scm
theorem ok_ckTabX {f C cC:Addr}{fd:FuncData} (F:Fun K "check_tables" "check_tables" s_check_tables f fd) (hmNoCave:mg "NoCave"=some (.ref cC)) (hvNoCave:isVe K cC=true) (T:Txt K mg) (TC:TxtC K mg C) (hso:mg "sorted"=none):FnOk P w K mg base (CXe P w) 1 f fd ["kinds","tables"] (spCkTabX cC):=by
 obtain ⟨_,hmk⟩:=TC.mkk
 obtain ⟨_,hmc⟩:=TC.mcc
 refine F.okX sc_check_tables (fun vs H Q E h=>?_) (fun cdv A outer s H vs Q E hr h=>?_)
 · obtain ⟨k,t,as,T',rfl,_⟩:=h
   rfl
 · obtain ⟨k,t,as,T',rfl,ht,ai,hT,q,qe⟩:=h
   have hu:=hr.units
   refine ⟨_,(@sC _ _ _ _ _ (ps_if (PW.pt (pw_or (pt_cmpR op_lt (pv 0) pe_int (nomark _)) (pw_or1 (pt_cmpR op_gt (pv 0) (pe_glob (v:=.int 5) rfl hmk ⟨_,rfl⟩) (nomark _))))) (@sO _ _ _ (ps_raise rfl rfl hmNoCave hvNoCave (pa_cons pe_str pa_nil))) pss_nil)
    (@sC _ _ _ _ _ (ps_if (pt_cmpR op_ne (pe_callB call_len_seq (by rfl) T.len PySem.boot_len (@aC _ _ _ _ _ (pv 1) pa_nil (by rfl))) (pv 0) (nomark _)) (@sO _ _ _ (ps_raise rfl rfl hmNoCave hvNoCave (pa_cons pe_str pa_nil))) pss_nil)
    (@sC _ _ _ _ _ (@sS _ 2 _ _ _ _ _ sc_check_tables.nd rfl (Or.inl rfl) (pe_callB call_len_seq (by rfl) T.len PySem.boot_len (@aC _ _ _ _ _ (pe_ix ix_l (pv 1) pe_int (fun _ _=>rfl)) pa_nil (by rfl))) (by rfl) (.inl rfl))
    (@sC _ _ _ _ _ (ps_if (PW.pt (pw_or (pt_cmpR op_lt (pv 2) pe_int (nomark _)) (pw_or1 (pt_cmpR op_gt (pv 2) (pe_glob (v:=.int 700) rfl hmc ⟨_,rfl⟩) (nomark _))))) (@sO _ _ _ (ps_raise rfl rfl hmNoCave hvNoCave (pa_cons pe_str pa_nil))) pss_nil)
    (@sO _ _ _ (ps_for (passesXeF rfl rfl) rfl (pi_list (pv 1)) (pg_name (i:=3) sc_check_tables.nd rfl (Or.inl rfl)) (@sO _ _ _ (ps_if (pt_cmpR (op_neIs hu) (pe_callB (call_sortedA K rfl) (by rfl) hso bt_sorted (@aC _ _ _ _ _ (pv 3) pa_nil (by rfl))) (pe_callTy (call_listRng rfl) rfl T.list bt_list (pa_cons (pe_rng rfl T.range (@aC _ _ _ _ _ (pv 2) pa_nil (by rfl))) pa_nil)) (nomark _)) (@sO _ _ _ (ps_raise rfl rfl hmNoCave hvNoCave (pa_cons pe_str pa_nil))) pss_nil)))))))),?_⟩
   have e1:((as.map V.ref).length:Int)=T'.length:=by rw [List.length_map,ht.len]
   refine ⟨_,rfl,_,_,rfl,rfl,_,rfl,ite2 (fun z=>⟨by decide,qe (fun g=>by have:=of_decide_eq_true z;have:=g.k1;omega) _ (Same.refl _)⟩) fun z=>⟨_,rfl,_,_,rfl,rfl,_,rfl,ite2 (fun y=>⟨by decide,qe (fun g=>by have:=of_decide_eq_true y;have:=g.k5;omega) _ (Same.refl _)⟩) fun y=>?_⟩⟩
   have z:¬ k < 1:=fun w=>z (decide_eq_true w)
   have y:¬ (5:Int) < k:=fun w=>y (decide_eq_true w)
   refine ⟨_,rfl,t,_,rfl,.inl (SqL.of ht.is),_,rfl,rfl,_,rfl,?_⟩
   rw [e1]
   by_cases lk:¬ (T'.length:Int)=k
   · exact iteTe (by rw [decide_eq_false (fun w=>lk (V.int.inj w))];rfl) ⟨by decide,qe (fun g=>lk g.len) _ (Same.refl _)⟩
   have lk:(T'.length:Int)=k:=Decidable.not_not.mp lk
   refine iteFe (by rw [lk];simp) ?_
   obtain ⟨a,ea,_,e0,hr0⟩:=ht.at (i:=0) (by omega)
   have l0:((T'.getD 0 []).map oV).length=(T'.getD 0 []).length:=List.length_map _
   obtain ⟨n,en⟩:∃ n,n=(T'.getD 0 []).length:=⟨_,rfl⟩
   refine ⟨_,rfl,rd_row 0 ht ea ⟨a,_,rfl,.inl (SqL.of hr0),?_⟩⟩
   rw [l0, ← en]
   have gb:GoodB k T'↔1≤n∧n≤700∧∀ r∈T',∃ p:List Int,r=p.map some∧p.Perm (lab0 n):=by
    rw [en]
    exact ⟨fun g=>⟨g.n1,g.n7,g.pm⟩,fun g=>⟨by omega,by omega,lk,g.1,g.2.1,g.2.2⟩⟩
   refine ⟨_,rfl,_,_,rfl,rfl,_,rfl,ite2 (fun z=>⟨by decide,qe (fun g=>by have:=of_decide_eq_true z;have:=(gb.mp g).1;omega) _ (Same.refl _)⟩) fun z1=>⟨_,rfl,_,_,rfl,rfl,_,rfl,ite2 (fun y=>⟨by decide,qe (fun g=>by have:=of_decide_eq_true y;have:=(gb.mp g).2.1;omega) _ (Same.refl _)⟩) fun y1=>?_⟩⟩
   have n1:1≤n:=by
    rcases Nat.lt_or_ge n 1 with w | w
    · exact absurd (decide_eq_true (by omega)) z1
    · exact w
   have n7:n≤700:=by
    rcases Nat.lt_or_ge 700 n with w | w
    · exact absurd (decide_eq_true (by omega)) y1
    · exact w
   refine ⟨_,rfl,t,rfl,⟨_,SqL.of ht.is⟩,for_list (K:=K) (a:=t) (xs:=as.map V.ref) (fun i σ H2=>(∃ x,σ=[some (.int k),some (.ref t),some (.int n),x])∧Same H H2∧∀ (j:Nat) r,j < i→T'[j]?=some r→∃ p:List Int,r=p.map some∧p.Perm (lab0 n)) ⟨⟨none,rfl⟩,Same.refl H,fun j r z=>by omega⟩ (fun i σ H2 _ ⟨_,s2,_⟩=>s2.seq (SqL.of ht.is)) ?_ ?_⟩
   · rintro i x σ H2 hi ⟨⟨y,rfl⟩,s2,al⟩
     obtain ⟨b,rfl,eb⟩:=get_adr hi
     have hi':i < T'.length:=by rw [← ht.len];exact (List.getElem?_eq_some_iff.mp eb).1
     have ei:T'[i]?=some T'[i]:=by simp [hi']
     have hrb:=(ht.rw i b T'[i] eb ei).same s2
     obtain ⟨p,ep,hp⟩:=ai _ (List.getElem_mem hi')
     rw [ep] at hrb
     refine ⟨_,rfl,rd_sortedA n (rowI.mp hrb) hp fun l ms H3 hl il iff s3=>?_⟩
     refine ⟨_,rfl,_,rfl,fun r hr3=>rd_range (K:=K) upd_same (by omega) fun l2 H4 hl2 il2 s4=>?_⟩
     have s34:Same H3 H4:=((Same.refl H3).upd hr3).trans s4
     refine rd_ne (s34.ints il) il2 ⟨_,rfl,?_⟩
     have sA:=s2.trans (s3.trans s34)
     by_cases e:ms=lab0 n
     · refine iteFe (by rw [decide_eq_true e];rfl) ⟨⟨_,rfl⟩,sA,fun j r hj er=>?_⟩
       by_cases ji:j=i
       · rw [ji,ei] at er
         rw [← Option.some.inj er]
         exact ⟨p,ep,iff.mp e⟩
       · exact al j r (by omega) er
     · refine iteTe (by rw [decide_eq_false e];rfl) ⟨by decide,qe (fun g=>?_) _ sA⟩
       obtain ⟨p2,e2,h2⟩:=(gb.mp g).2.2 _ (List.getElem_mem hi')
       rw [ep] at e2
       rw [← some_inj e2] at h2
       exact e (iff.mpr h2)
   · rintro σ H2 ⟨⟨y,rfl⟩,s2,al⟩
     rw [List.length_map,ht.len] at al
     refine q (gb.mpr ⟨n1,n7,fun r hr=>?_⟩) _ s2
     obtain ⟨j,hj,ej⟩:=List.getElem_of_mem hr
     exact al j r hj (by rw [List.getElem?_eq_getElem hj,ej])
theorem sc_check_places:FnScope ["size","places","place"] ["size","places"] (defScope s_check_places):=scm
theorem ok_ckPlX {f cC:Addr}{fd:FuncData} (F:Fun K "check_places" "check_places" s_check_places f fd) (hmNoCave:mg "NoCave"=some (.ref cC)) (hvNoCave:isVe K cC=true):FnOk P w K mg base (CXe P w) 1 f fd ["size","places"] (spCkPlX cC):=by
 refine F.okX sc_check_places (fun vs H Q E h=>?_) (fun cdv A outer s H vs Q E hr h=>?_)
 · obtain ⟨n,a,ps,rfl,_⟩:=h
   rfl
 · obtain ⟨n,a,ps,rfl,ha,q,qe⟩:=h
   refine ⟨_,(@sO _ _ _ (ps_for (passesXeF rfl rfl) rfl (pi_list (pv 1)) (pg_name (i:=2) sc_check_places.nd rfl (Or.inl rfl)) (@sO _ _ _ (ps_if (PW.pt (pw_or (pt_cmpR op_lt (pv 2) pe_int (nomark _)) (pw_or1 (pt_cmpR op_ge (pv 2) (pv 0) (nomark _))))) (@sO _ _ _ (ps_raise rfl rfl hmNoCave hvNoCave (pa_cons pe_str pa_nil))) pss_nil)))),?_⟩
   refine ⟨_,rfl,a,rfl,⟨_,SqL.of ha⟩,for_list (K:=K) (a:=a) (xs:=ps.map V.int) (fun i σ H2=>(∃ x,σ=[some (.int n),some (.ref a),x])∧H2=H∧∀ (j:Nat) z,j < i→ps[j]?=some z→0≤z∧z < (n:Int)) ⟨⟨none,rfl⟩,rfl,fun j z w=>by omega⟩ (fun i σ H2 _ ⟨_,e,_⟩=>by rw [e];exact SqL.of ha) ?_ ?_⟩
   · rintro i x σ H2 hi ⟨⟨y,rfl⟩,rfl,al⟩
     obtain ⟨z,rfl,ez⟩:=get_int hi
     have mz:=List.mem_of_getElem? ez
     refine ⟨_,rfl,_,_,rfl,rfl,_,rfl,ite2 (fun w=>⟨by decide,qe fun g=>by have:=of_decide_eq_true w;have:=(g z mz).1;omega⟩) fun w1=>⟨_,rfl,_,rfl,_,_,rfl,rfl,_,rfl,ite2 (fun w=>⟨by decide,qe fun g=>by have:=of_decide_eq_true w;have:=(g z mz).2;omega⟩) fun w2=>⟨⟨_,rfl⟩,rfl,fun j v hj ev=>?_⟩⟩⟩
     by_cases ji:j=i
     · rw [ji,ez] at ev
       rw [← Option.some.inj ev]
       have w1:¬ z < 0:=fun x=>w1 (decide_eq_true x)
       have w2:¬ (n:Int)≤z:=fun x=>w2 (decide_eq_true x)
       omega
     · exact al j v (by omega) ev
   · rintro σ H2 ⟨⟨y,rfl⟩,rfl,al⟩
     rw [List.length_map] at al
     refine q fun p hp=>?_
     obtain ⟨j,hj,ej⟩:=List.getElem_of_mem hp
     exact al j p hj (by rw [List.getElem?_eq_getElem hj,ej])
theorem sc_Cave___init__:FnScope ["self","kinds","tables","places","size"] ["self","kinds","tables","places"] (defScope s_Cave___init__):=scm
theorem ok_cinitX {f C Cc cC:Addr}{fd:FuncData} (F:Fun K "__init__" "Cave.__init__" s_Cave___init__ f fd) (T:Txt K mg) (TV:TxtV K mg C) (CT:Rdx P w K mg base "check_tables" ["kinds","tables"] 1 (spCkTabX cC)) (CPL:Rdx P w K mg base "check_places" ["size","places"] 1 (spCkPlX cC)) (CH:Rdk P w K mg base Cc "Chart" ["self","kinds","table"] 2 (spInit Cc)):
  FnOk P w K mg base (CXe P w) 4 f fd ["self","kinds","tables","places"] (spCInitX C Cc cC):=by
 refine F.okX sc_Cave___init__ (fun vs H Q E h=>?_) (fun cdv A outer s H vs Q E hr h=>?_)
 · obtain ⟨g,dx,k,t,a,as,T',ps,rfl,_⟩:=h
   rfl
 · obtain ⟨g,dx,k,t,a,as,T',ps,rfl,hg,ht,ai,hT,ha,q,qe⟩:=h
   have sK:∀ {Ha Hb:Hp},Same Ha Hb→Kp g Ha Hb:=fun s b o e _=>s b o e
   refine ⟨_,(@sC _ _ _ _ _ (ps_expr (CT.pe hr (@aC _ _ _ _ _ (pv 1) (@aC _ _ _ _ _ (pv 2) pa_nil (by rfl)) (by rfl))))
    (@sC _ _ _ _ _ (@sS _ 4 _ _ _ _ _ sc_Cave___init__.nd rfl (Or.inl rfl) (pe_callB call_len_seq (by rfl) T.len PySem.boot_len (@aC _ _ _ _ _ (pe_ix ix_l (pv 2) pe_int (fun _ _=>rfl)) pa_nil (by rfl))) (by rfl) (.inl rfl))
    (@sC _ _ _ _ _ (ps_expr (CPL.pe hr (@aC _ _ _ _ _ (pv 4) (@aC _ _ _ _ _ (pv 3) pa_nil (by rfl)) (by rfl))))
    (@sC _ _ _ _ _ (ps_fld (pv 0) (pv 1) rfl)
    (@sC _ _ _ _ _ (ps_fld (pv 0) (pe_callTy call_listR rfl T.list bt_list (@aC _ _ _ _ _ (pv 3) pa_nil (by rfl))) rfl)
    (@sO _ _ _ (ps_fld (pv 0) (CH.pe hr (@aC _ _ _ _ _ (pv 1) (@aC _ _ _ _ _ (pe_compC ["tables"] [2] (pi_range1 rfl T.range (pa_cons (pv 4) pa_nil)) (fun C s H fp=>pe_compW ["chamber"] [0] (pil K rfl (pv 1)) (fun C2 s2 H2 fp2=>pe_ix (ixl K rfl) (pv 0) (pv 1) (fun _ _=>rfl)) (hcl1 rfl)) (hcl1 rfl) (hclos:=rfl)) pa_nil (by rfl)) (by rfl))) rfl))))))),?_⟩
   refine ⟨_,rfl,_,rfl,k,t,as,T',rfl,ht,ai,hT,fun gb H1 s1=>?_,fun ng H1 s1=>qe (fun g2=>ng g2.tb) _ (sK s1)⟩
   have k1:=gb.k1
   have k5:=gb.k5
   obtain ⟨k',rfl⟩:∃ k':Nat,k=(k':Int):=⟨k.toNat,by omega⟩
   have n1:=gb.n1
   have n7:=gb.n7
   have pm:PermT k' (T'.getD 0 []).length T':=⟨by have:=gb.len;omega,gb.pm⟩
   rw [Int.toNat_natCast] at q
   have qe0:=qe
   replace qe:(¬ ∀ p∈ps,0≤p∧p < ((T'.getD 0 []).length:Int))→∀ H',Kp g H H'→E (.ref cC) none H':=fun h=>qe0 fun g2=>h g2.pr
   replace q:(∀ p∈ps,0≤p∧p < ((T'.getD 0 []).length:Int))→_:=fun h=>q ⟨gb,h⟩
   obtain ⟨n,en⟩:∃ n,n=(T'.getD 0 []).length:=⟨_,rfl⟩
   rw [← en] at q qe n1 n7 pm
   replace hg:=s1 _ _ hg
   replace ht:=ht.same s1
   replace ha:=s1.ints ha
   obtain ⟨b,ea,_,e0,hr0⟩:=ht.at (i:=0) (by rw [pm.len];omega)
   have l0:((T'.getD 0 []).map oV).length=n:=by rw [List.length_map,en]
   refine ⟨_,rfl,rd_row 0 ht ea ⟨b,_,rfl,.inl (SqL.of hr0),?_⟩⟩
   rw [l0]
   refine ⟨_,rfl,_,rfl,n,a,ps,rfl,ha,fun pr=>?_,fun npr=>qe npr _ (sK s1)⟩
   replace q:=q pr
   refine ⟨_,rfl,_,rfl,g,C,dx,[],rfl,hg,TV.cl,TV.nk,(by show 0 < 1000;decide),?_⟩
   have ag:∀ b∈t::as,b≠g:=fun b hb z=>by
    obtain ⟨o,eo⟩:=(show ∃ xs,H1 b=some (.lst xs) by
     rcases List.mem_cons.mp hb with e | e
     · rw [e];exact ⟨_,ht.is⟩
     · obtain ⟨i,hi,e⟩:=List.getElem_of_mem e
       have hi2:i < T'.length:=by rw [← ht.len];exact hi
       exact ⟨_,ht.rw i b T'[i] (by simp [← e,hi]) (by simp [hi2])⟩)
    rw [z,hg] at eo;cases eo
   have aa:a≠g:=fun z=>by
    have ha':H1 g=some (.lst _):=z▸ha
    rw [hg] at ha';cases ha'
   have ht2:Tb (upd H1 g (.ins C dx (putF "kinds" (.int (k':Int)) []))) t as T':=ht.on fun b hb o e=>by rw [upd_ne (ag b hb)];exact e
   have hg2:upd H1 g (.ins C dx (putF "kinds" (.int (k':Int)) [])) g=some (.ins C dx (putF "kinds" (.int (k':Int)) [])):=upd_same
   have ha2:Ints (upd H1 g (.ins C dx (putF "kinds" (.int (k':Int)) []))) a ps:=ha.other aa
   have k12:Kp g H1 (upd H1 g (.ins C dx (putF "kinds" (.int (k':Int)) []))):=fun c o e nc=>by rw [upd_ne nc];exact e
   have fr2:∀ b,upd H1 g (.ins C dx (putF "kinds" (.int (k':Int)) [])) b=none→H1 b=none:=fun b hb=>by
    by_cases z:b=g
    · rw [z,upd_same] at hb;cases hb
    · rwa [upd_ne z] at hb
   generalize upd H1 g (.ins C dx (putF "kinds" (.int (k':Int)) []))=H2 at ht2 hg2 ha2 k12 fr2
   refine ⟨_,rfl,rd_list ha2 fun pl H3 hpl ipl s3=>?_⟩
   refine ⟨_,rfl,g,C,dx,_,rfl,s3 _ _ hg2,TV.cl,TV.np,(by show 1 < 1000;decide),?_⟩
   have npl:pl≠g:=fun z=>by rw [z,hg2] at hpl;cases hpl
   have ht4:Tb (upd H3 g (.ins C dx (putF "placed" (.ref pl) (putF "kinds" (.int (k':Int)) [])))) t as T':=(ht2.same s3).on fun b hb o e=>by rw [upd_ne (ag b hb)];exact e
   have hg4:upd H3 g (.ins C dx (putF "placed" (.ref pl) (putF "kinds" (.int (k':Int)) []))) g=some (.ins C dx (putF "placed" (.ref pl) (putF "kinds" (.int (k':Int)) []))):=upd_same
   have hp4:Ints (upd H3 g (.ins C dx (putF "placed" (.ref pl) (putF "kinds" (.int (k':Int)) [])))) pl ps:=ipl.other npl
   have k24:Kp g H2 (upd H3 g (.ins C dx (putF "placed" (.ref pl) (putF "kinds" (.int (k':Int)) [])))):=fun c o e nc=>by rw [upd_ne nc];exact s3 _ _ e
   have fr4:∀ b,upd H3 g (.ins C dx (putF "placed" (.ref pl) (putF "kinds" (.int (k':Int)) []))) b=none→H2 b=none:=fun b hb=>by
    by_cases z:b=g
    · rw [z,upd_same] at hb;cases hb
    · rw [upd_ne z] at hb;exact s3.free hb
   generalize upd H3 g (.ins C dx (putF "placed" (.ref pl) (putF "kinds" (.int (k':Int)) [])))=H4 at ht4 hg4 hp4 k24 fr4
   refine ⟨_,rfl,_,rfl,_,rfl,by omega,by omega,comp_tab (n:=(n:Int).toNat) (fun c=>col T' c) (by omega) (fun c hc H5 s5 Q' q'=>?_) fun lt ls H5 N5=>?_⟩
   · refine ⟨_,rfl,t,rfl,⟨_,SqL.of (ht4.same s5).is⟩,comp_col (j:=c) (ht4.same s5) (by rw [pm.len];omega) (fun b r hr2 H6 Q6 s6 h6 q6=>?_) fun D hD=>q' D _ hD upd_same ((Same.refl _).upd hD)⟩
     exact ⟨_,rfl,_,rfl,rd_cell c h6 (by rw [pm.plen r hr2];omega) q6 (by omega)⟩
   have e5:(List.range (n:Int).toNat).map (fun c=>col T' c)=cols n T':=by rw [Int.toNat_natCast];rfl
   rw [e5] at N5
   refine fun x dx2 nx ndx nex=>?_
   have sx:Same H5 (upd (upd H5 dx2 (.own x)) x (.ins Cc dx2 [])):=((Same.refl H5).upd ndx).upd nx
   refine ⟨x,dx2,k',n,lt,ls,cols n T',rfl,upd_same,N5.tb.same sx,pm.ok,(by omega),(by omega),n1,by omega,fun H6 fc hc6 ff kp=>⟨rfl,?_⟩⟩
   have s6:Same H5 H6:=fun b o e=>kp b o (sx b o e) fun z=>by rw [z,nx] at e;cases e
   have fc5:∀ b∈fc,H5 b=none:=fun b hb=>by
    by_cases z:b=x
    · rw [z];exact nx
    · exact sx.free (ff b hb z)
   have s46:Same H4 H6:=N5.sm.trans s6
   have fc4:∀ b∈fc,H4 b=none:=fun b hb=>N5.sm.free (fc5 b hb)
   have gfc:g∉fc:=not_fresh fc4 ⟨_,hg4⟩
   refine ⟨_,rfl,g,C,dx,_,rfl,s46 _ _ hg4,TV.cl,TV.nc,(by show 2 < 1000;decide),?_⟩
   refine q _ (g::pl::fc) ⟨pm,pr,dx,pl,x,fc,rfl,upd_same,(s46.ints hp4).other npl,hc6.other gfc⟩ ?_ ?_
   · intro b hb nb
     rcases List.mem_cons.mp hb with e | e
     · exact absurd e nb
     · rcases List.mem_cons.mp e with e | e
       · rw [e];exact s1.free (fr2 _ hpl)
       · exact s1.free (fr2 _ (fr4 _ (fc4 b e)))
   · intro c o e nc
     rw [upd_ne nc]
     exact s46 _ _ (k24 _ _ (k12 _ _ (s1 _ _ e) nc) nc)
theorem sc_Cave_size:FnScope ["self"] ["self"] (defScope s_Cave_size):=scm
theorem ok_csize {f C Cc:Addr}{fd:FuncData} (F:Fun K "size" "Cave.size" s_Cave_size f fd) (TV:TxtV K mg C) (SZ:Rdm P w K mg base Cc "size" ["self"] 1 (spSize Cc)):FnOk P w K mg base CX0 2 f fd ["self"] (spCSize C Cc):=by
 refine F.ok sc_Cave_size (fun vs H Q E h=>?_) (fun cdv A outer s H vs Q E hr h=>?_)
 · obtain ⟨g,k,n,U,ps,fp,rfl,_⟩:=h
   rfl
 · obtain ⟨g,k,n,U,ps,fp,rfl,hv,q⟩:=h
   obtain ⟨dx,pl,ch,fc,rfl,hg,h1,hc⟩:=id hv.ob
   obtain ⟨dx2,lo,li,as,bs,I,rfl,hg2,_⟩:=id hc.ob
   refine ⟨_,(@sO _ _ _ (@sR _ _ _ _ (SZ.pe0 hr (pe_fld (pv 0) rfl)))),?_⟩
   exact ⟨_,rfl,g,C,dx,_,_,rfl,hg,TV.cl,TV.nc,cvf_c ..,ch,dx2,_,rfl,hg2,chf_no ..,ch,k,n,_,_,rfl,hc,q⟩
theorem sc__law_spoilt:FnScope ["_law_kinds","_law_size","_law_tables","_law_places","_law_draws","_law_spoil","_law_kind","_law_at","_law_odd","_law_to"] ["_law_kinds","_law_size","_law_tables","_law_places","_law_draws"] (defScope s__law_spoilt):=scm
theorem ok_spoilt28 {f:Addr}{fd:FuncData} (F:Fun K "_law_spoilt" "_law_spoilt" s__law_spoilt f fd) (T:Txt K mg) (TM:TxtM mg):FnOk P w K mg base CX0 1 f fd ["_law_kinds","_law_size","_law_tables","_law_places","_law_draws"] spSpoilt28:=by
 refine F.ok sc__law_spoilt (fun vs H Q E h=>?_) (fun cdv A outer s H vs Q E hr h=>?_)
 · obtain ⟨k,n,t,a,ld,as,T',ps,ds,rfl,_⟩:=h
   rfl
 · obtain ⟨k,n,t,a,ld,as,T',ps,ds,rfl,ht,nd,pm,k1,k5,n1,n20,ha,la,hd,ldl,na,nl,q⟩:=h
   refine ⟨_,(@sC _ _ _ _ _ (@sS _ 5 _ _ _ _ _ sc__law_spoilt.nd rfl (Or.inl rfl) (pe_op op_mod (pe_ix ix_l (pv 4) pe_int (fun _ _=>rfl)) pe_int) (by rfl) (.inl rfl))
    (@sC _ _ _ _ _ (@sS _ 6 _ _ _ _ _ sc__law_spoilt.nd rfl (Or.inl rfl) (pe_op op_mod (pe_ix ix_l (pv 4) pe_int (fun _ _=>rfl)) (pv 0)) (by rfl) (.inl rfl))
    (@sC _ _ _ _ _ (@sS _ 7 _ _ _ _ _ sc__law_spoilt.nd rfl (Or.inl rfl) (pe_op op_mod (pe_ix ix_l (pv 4) pe_int (fun _ _=>rfl)) (pv 1)) (by rfl) (.inl rfl))
    (@sC _ _ _ _ _ (@sS _ 8 _ _ _ _ _ sc__law_spoilt.nd rfl (Or.inl rfl) (pe_ix ix_l (@eL _ _ _ _ (@aC _ _ _ _ _ (pv 1) (@aC _ _ _ _ _ (pe_un un_neg pe_int) (@aC _ _ _ _ _ (pe_op op_add (pv 1) (pe_ix ix_l (pv 4) pe_int (fun _ _=>rfl))) (@aC _ _ _ _ _ (pe_un un_neg (pv 1)) (@aC _ _ _ _ _ (pe_op op_pow pe_int pe_int) pa_nil (by rfl)) (by rfl)) (by rfl)) (by rfl)) (by rfl))) (pe_op op_mod (pe_ix ix_l (pv 4) pe_int (fun _ _=>rfl)) pe_int) (fun _ _=>rfl)) (by rfl) (.inl rfl))
    (@sC _ _ _ _ _ (ps_if (pt_cmpR op_eq (pv 5) pe_int (nomark _)) (@sO _ _ _ (ps_expr (pe_bm PySem.F.plainAttrs_list PySem.F.slot_list_append PySem.F.type_list_append mt_append (pe_ix ix_l (pv 2) (pv 6) (fun _ _=>rfl)) (@aC _ _ _ _ _ (pv 1) pa_nil (by rfl))))) pss_nil)
    (@sC _ _ _ _ _ (ps_if (pt_cmpR op_eq (pv 5) pe_int (nomark _)) (@sO _ _ _ (ps_expr (pe_bm0 PySem.F.plainAttrs_list PySem.F.slot_list_pop PySem.F.type_list_pop mt_pop (pe_ix ix_l (pv 2) (pv 6) (fun _ _=>rfl))))) pss_nil)
    (@sC _ _ _ _ _ (ps_if (pt_cmpR op_eq (pv 5) pe_int (nomark _)) (@sO _ _ _ (ps_asg (pv 8) (pg_sub (pe_ix ix_l (pv 2) (pv 6) (fun _ _=>rfl)) (pv 7) set_list))) pss_nil)
    (@sC _ _ _ _ _ (ps_if (pt_cmpR op_eq (pv 5) pe_int (nomark _)) (@sO _ _ _ (ps_asg (pe_ix ix_l (pe_ix ix_l (pv 2) (pv 6) (fun _ _=>rfl)) (pe_op op_mod (pe_ix ix_l (pv 4) pe_int (fun _ _=>rfl)) (pv 1)) (fun _ _=>rfl)) (pg_sub (pe_ix ix_l (pv 2) (pv 6) (fun _ _=>rfl)) (pv 7) set_list))) pss_nil)
    (@sC _ _ _ _ _ (ps_if (pt_cmpR op_eq (pv 5) pe_int (nomark _)) (@sC _ _ _ _ _ (@sS _ 9 _ _ _ _ _ sc__law_spoilt.nd rfl (Or.inl rfl) (pe_op op_mod (pe_ix ix_l (pv 4) pe_int (fun _ _=>rfl)) (pe_op op_add (pe_callB call_len_seq (by rfl) T.len PySem.boot_len (@aC _ _ _ _ _ (pv 3) pa_nil (by rfl))) pe_int)) (by rfl) (.inl rfl))
    (@sO _ _ _ (@sS _ 3 _ _ _ _ _ sc__law_spoilt.nd rfl (Or.inl rfl) (pe_op op_catW (pe_op op_catW (pe_slice sl_l (pv 3) po_none (po_some (pv 9))) (@eL _ _ _ _ (@aC _ _ _ _ _ (pv 8) pa_nil (by rfl)))) (pe_slice sl_l (pv 3) (po_some (pv 9)) po_none)) (by rfl) (.inl rfl)))) pss_nil)
    (@sC _ _ _ _ _ (ps_if (pt_cmpR op_eq (pv 5) pe_int (nomark _)) (@sC _ _ _ _ _ (@sS _ 0 _ _ _ _ _ sc__law_spoilt.nd rfl (Or.inl rfl) (pe_op op_sub (pe_op op_mod (pe_ix ix_l (pv 4) pe_int (fun _ _=>rfl)) pe_int) pe_int) (by rfl) (.inl rfl))
    (@sO _ _ _ (ps_if (pt_cmpR op_eq (pe_op op_mod (pe_ix ix_l (pv 4) pe_int (fun _ _=>rfl)) pe_int) pe_int (nomark _)) (@sO _ _ _ (ps_set (i:=2) sc__law_spoilt.nd rfl (Or.inr rfl) (pe_compW ["_law_tables"] [2] (pi_range1 rfl T.range (pa_cons (pe_callB (call_max2 rfl) (by rfl) TM.max bt_max (pa_cons pe_int (pa_cons (pv 0) pa_nil))) pa_nil)) (fun C s H fp=>pe_callTy (listK K rfl) rfl T.list bt_list (pa_cons (pe_ix (ixl K rfl) (pv 1) pe_int (fun _ _=>rfl)) pa_nil)) (hcl1 rfl)))) pss_nil))) pss_nil)
    (@sC _ _ _ _ _ (ps_if (pt_cmpR op_eq (pv 5) pe_int (nomark _)) (@sO _ _ _ (ps_set (i:=2) sc__law_spoilt.nd rfl (Or.inr rfl) (pe_ix ix_l (@eL _ _ _ _ (@aC _ _ _ _ _ (pe_lstW pa_nil) (@aC _ _ _ _ _ (pe_compW [] [] (pi_range1 rfl T.range (pa_cons (pv 0) pa_nil)) (fun C s H fp=>pe_lstW pa_nil) hcl_nil) (@aC _ _ _ _ _ (pe_slice sl_l (pv 2) (po_some pe_int) po_none) (@aC _ _ _ _ _ (pe_op op_catW (pv 2) (@eL _ _ _ _ (@aC _ _ _ _ _ (pe_callTy (call_listRng rfl) rfl T.list bt_list (pa_cons (pe_rng rfl T.range (@aC _ _ _ _ _ (pv 1) pa_nil (by rfl))) pa_nil)) pa_nil (by rfl)))) pa_nil (by rfl)) (by rfl)) (by rfl)) (by rfl))) (pe_op op_mod (pe_ix ix_l (pv 4) pe_int (fun _ _=>rfl)) pe_int) (fun _ _=>rfl)))) pss_nil)
    (@sC _ _ _ _ _ (ps_if (pt_cmpR op_eq (pv 5) pe_int (nomark _)) (@sO _ _ _ (ps_set (i:=2) sc__law_spoilt.nd rfl (Or.inr rfl) (pe_compW ["_law_draws"] [4] (pi_range1 rfl T.range (pa_cons (pv 0) pa_nil)) (fun C s H fp=>pe_callTy (call_listRng rfl) rfl T.list bt_list (pa_cons (pe_rng rfl T.range (pa_cons (pe_op op_add pe_int (pe_op op_mod (pe_ix (ixl K rfl) (pv 1) pe_int (fun _ _=>rfl)) pe_int)) pa_nil)) pa_nil)) (hcl1 rfl)))) pss_nil)
    (@sO _ _ _ (@sR _ _ _ _ (pe_tup (@aC _ _ _ _ _ (pv 0) (@aC _ _ _ _ _ (pv 2) (@aC _ _ _ _ _ (pv 3) pa_nil (by rfl)) (by rfl)) (by rfl))))))))))))))))),?_⟩
   refine ⟨_,rfl,rd_at 0 hd (by omega) ⟨_,_,rfl,rfl,(by show (0:Int) < 9;decide),?_⟩⟩
   have m0:=Int.emod_nonneg (ds.getD 1 0) (show (k:Int)≠0 by omega)
   have m1:=Int.emod_lt_of_pos (ds.getD 1 0) (show (0:Int) < k by omega)
   obtain ⟨j,ej,jk⟩:∃ j:Nat,ds.getD 1 0 % (k:Int)=(j:Int)∧j < k:=⟨(ds.getD 1 0 % (k:Int)).toNat,by omega,by omega⟩
   have b0:=Int.emod_nonneg (ds.getD 2 0) (show (n:Int)≠0 by omega)
   have b1:=Int.emod_lt_of_pos (ds.getD 2 0) (show (0:Int) < n by omega)
   obtain ⟨c,ec,cn⟩:∃ c:Nat,ds.getD 2 0 % (n:Int)=(c:Int)∧c < n:=⟨(ds.getD 2 0 % (n:Int)).toNat,by omega,by omega⟩
   have d0:=Int.emod_nonneg (ds.getD 4 0) (show (5:Int)≠0 by decide)
   have d1:=Int.emod_lt_of_pos (ds.getD 4 0) (show (0:Int) < 5 by decide)
   obtain ⟨o,eo,o5⟩:∃ o:Nat,ds.getD 4 0 % 5=(o:Int)∧o < 5:=⟨(ds.getD 4 0 % 5).toNat,by omega,by omega⟩
   refine ⟨_,rfl,rd_at 1 hd (by omega) ⟨_,rfl,_,_,rfl,rfl,(by show (0:Int) < k;omega),?_⟩⟩
   show gName 6 (V.int (ds.getD 1 0 % (k:Int))) _ _ _
   rw [ej]
   refine ⟨_,rfl,rd_at 2 hd (by omega) ⟨_,rfl,_,_,rfl,rfl,(by show (0:Int) < n;omega),?_⟩⟩
   show gName 7 (V.int (ds.getD 2 0 % (n:Int))) _ _ _
   rw [ec]
   refine ⟨_,rfl,_,rfl,_,rfl,_,rfl,rd_at 3 hd (by omega) ⟨_,_,rfl,rfl,_,rfl,_,rfl,_,_,rfl,rfl,⟨by decide,by decide,by decide⟩,?_⟩⟩
   refine rd_lst [(n:Int), -1,(n:Int)+ds.getD 3 0, -(n:Int),(10:Int) ^ (30:Int).toNat] fun l5 H1 f5 i5 s1=>?_
   refine ⟨_,rfl,rd_at 4 (s1.ints hd) (by omega) ⟨_,_,rfl,rfl,(by show (0:Int) < 5;decide),rd_at o i5 o5 ?_ eo⟩⟩
   generalize [(n:Int), -1,(n:Int)+ds.getD 3 0, -(n:Int),(10:Int) ^ (30:Int).toNat].getD o 0=od
   have ht1:=ht.same s1
   have ha1:=s1.ints ha
   have hd1:=s1.ints hd
   have ai:=pm.all (show n≤63 by omega)
   have lT:T'.length=k:=pm.len
   obtain ⟨rb,erb,mrb,eT,hrb⟩:=ht1.at (i:=j) (by omega)
   obtain ⟨pr,epr,hpr⟩:=pm.row _ (List.mem_of_getElem? eT)
   have lpr:pr.length=n:=by rw [hpr.length_eq,lab0_len]
   rw [epr] at hrb
   have irb:=rowI.mp hrb
   have ixc:ixN (pr.map V.int).length (c:Int)=some c:=by
    unfold ixN
    rw [if_pos (by omega),if_pos (by rw [List.length_map];omega)];rfl
   have nra:a≠rb:=fun z=>na (by rw [z];exact List.mem_cons_of_mem _ mrb)
   have fin:∀ (p2:List Int),p2.length≤63→∀ (p:Addr) (G:Hp),G=upd H1 rb (.lst (p2.map V.int))→G p=none→Q (.ref p) (upd G p (.tup [.int k,.ref t,.ref a])):=fun p2 l2 p G eG hp=>by
    have e2:p2.map V.int=(p2.map some).map oV:=by rw [List.map_map];rfl
    have tb2:=ht1.set nd erb (p2.map some)
    rw [← e2, ← eG] at tb2
    have ha2:Ints G a ps:=by
     rw [eG]
     show upd _ _ _ _=_
     rw [upd_ne nra];exact ha1
    have sG:Same G (upd G p (.tup [.int k,.ref t,.ref a])):=(Same.refl G).upd hp
    refine q p k t a as _ ps _ upd_same (tb2.same sG) (ai.set j (.inl l2)) (by rw [List.length_set];omega) (sG.ints ha2) (by omega) fun b u e nb=>?_
    refine sG _ _ ?_
    rw [eG,upd_ne (fun z=>nb (by rw [z];exact List.mem_cons_of_mem _ mrb))]
    exact s1 _ _ e
   have fin2:∀ (k':Int) (t' a':Addr) (as':List Addr) (T2:Tab) (ps':List Int) (G:Hp) (p:Addr),Same H1 G→Tb G t' as' T2→AllI T2→T2.length≤100→Ints G a' ps'→ps'.length≤100→G p=none→Q (.ref p) (upd G p (.tup [.int k',.ref t',.ref a'])):=fun k' t' a' as' T2 ps' G p sG tb2 ai2 l2 ia lp hp=>by
    have sP:Same G (upd G p (.tup [.int k',.ref t',.ref a'])):=(Same.refl G).upd hp
    exact q p k' t' a' as' T2 ps' _ upd_same (tb2.same sP) ai2 l2 (sP.ints ia) lp fun b u e _=>sP _ _ (sG _ _ (s1 _ _ e))
   refine ⟨_,rfl,rfl,_,rfl,ite2 (fun z=>?_) fun z1=>?_⟩
   · refine ⟨_,rfl,_,rfl,rd_row j ht1 erb ⟨.inl ⟨rfl,_,SqL.of irb⟩,_,rfl,rb,_,_,rfl,rfl,irb,small4k (by rw [List.length_map];omega),?_⟩⟩
     refine ⟨_,rfl,rfl,_,rfl,iteFe (sk z) ?_⟩
     refine ⟨_,rfl,rfl,_,rfl,iteFe (sk z) ?_⟩
     refine ⟨_,rfl,rfl,_,rfl,iteFe (sk z) ?_⟩
     refine ⟨_,rfl,rfl,_,rfl,iteFe (sk z) ?_⟩
     refine ⟨_,rfl,rfl,_,rfl,iteFe (sk z) ?_⟩
     refine ⟨_,rfl,rfl,_,rfl,iteFe (sk z) ?_⟩
     refine ⟨_,rfl,rfl,_,rfl,iteFe (sk z) ?_⟩
     refine ⟨_,rfl,_,rfl,_,rfl,by show 3≤sizeLine;decide,fun p hp=>?_⟩
     exact fin (pr++[(n:Int)]) (by simp;omega) p _ (by rw [List.map_append];rfl) hp
   refine ⟨_,rfl,rfl,_,rfl,ite2 (fun z=>?_) fun z2=>?_⟩
   · obtain ⟨v,ev⟩:∃ v,(pr.map V.int)[(pr.map V.int).length - 1]?=some v:=⟨_,List.getElem?_eq_getElem (by rw [List.length_map];omega)⟩
     refine ⟨_,rfl,_,rfl,rd_row j ht1 erb ⟨.inl ⟨rfl,_,SqL.of irb⟩,rb,_,v,rfl,rfl,irb,ev,?_⟩⟩
     refine ⟨_,rfl,rfl,_,rfl,iteFe (sk z) ?_⟩
     refine ⟨_,rfl,rfl,_,rfl,iteFe (sk z) ?_⟩
     refine ⟨_,rfl,rfl,_,rfl,iteFe (sk z) ?_⟩
     refine ⟨_,rfl,rfl,_,rfl,iteFe (sk z) ?_⟩
     refine ⟨_,rfl,rfl,_,rfl,iteFe (sk z) ?_⟩
     refine ⟨_,rfl,rfl,_,rfl,iteFe (sk z) ?_⟩
     refine ⟨_,rfl,_,rfl,_,rfl,by show 3≤sizeLine;decide,fun p hp=>?_⟩
     exact fin pr.dropLast (by rw [List.length_dropLast];omega) p _ (by rw [List.map_dropLast]) hp
   refine ⟨_,rfl,rfl,_,rfl,ite2 (fun z=>?_) fun z3=>?_⟩
   · refine ⟨_,rfl,_,rfl,_,rfl,rd_row j ht1 erb ⟨_,rfl,rb,_,(c:Int),c,rfl,rfl,irb,ixc,?_⟩⟩
     refine ⟨_,rfl,rfl,_,rfl,iteFe (sk z) ?_⟩
     refine ⟨_,rfl,rfl,_,rfl,iteFe (sk z) ?_⟩
     refine ⟨_,rfl,rfl,_,rfl,iteFe (sk z) ?_⟩
     refine ⟨_,rfl,rfl,_,rfl,iteFe (sk z) ?_⟩
     refine ⟨_,rfl,rfl,_,rfl,iteFe (sk z) ?_⟩
     refine ⟨_,rfl,_,rfl,_,rfl,by show 3≤sizeLine;decide,fun p hp=>?_⟩
     exact fin (pr.set c od) (by rw [List.length_set];omega) p _ (by rw [List.map_set]) hp
   refine ⟨_,rfl,rfl,_,rfl,ite2 (fun z=>?_) fun z4=>?_⟩
   · have g0:=Int.emod_nonneg (ds.getD 3 0) (show (n:Int)≠0 by omega)
     have g1:=Int.emod_lt_of_pos (ds.getD 3 0) (show (0:Int) < n by omega)
     obtain ⟨y,ey,yn⟩:∃ y:Nat,ds.getD 3 0 % (n:Int)=(y:Int)∧y < n:=⟨(ds.getD 3 0 % (n:Int)).toNat,by omega,by omega⟩
     refine ⟨_,rfl,_,rfl,rd_row j ht1 erb ⟨_,rfl,rd_at 3 hd1 (by omega) ⟨_,rfl,_,_,rfl,rfl,(by show (0:Int) < n;omega),rd_at y irb (by omega) ?_ ey⟩⟩⟩
     refine ⟨_,rfl,_,rfl,rd_row j ht1 erb ⟨_,rfl,rb,_,(c:Int),c,rfl,rfl,irb,ixc,?_⟩⟩
     refine ⟨_,rfl,rfl,_,rfl,iteFe (sk z) ?_⟩
     refine ⟨_,rfl,rfl,_,rfl,iteFe (sk z) ?_⟩
     refine ⟨_,rfl,rfl,_,rfl,iteFe (sk z) ?_⟩
     refine ⟨_,rfl,rfl,_,rfl,iteFe (sk z) ?_⟩
     refine ⟨_,rfl,_,rfl,_,rfl,by show 3≤sizeLine;decide,fun p hp=>?_⟩
     exact fin (pr.set c (pr.getD y 0)) (by rw [List.length_set];omega) p _ (by rw [List.map_set]) hp
   refine ⟨_,rfl,rfl,_,rfl,ite2 (fun z=>?_) fun z5=>?_⟩
   · refine ⟨_,rfl,rd_at 3 hd1 (by omega) ⟨_,rfl,a,_,rfl,.inl (SqL.of ha1),_,_,rfl,rfl,_,_,rfl,rfl,(by show (0:Int) < _;rw [List.length_map];omega),?_⟩⟩
     have cl:∀ lo hi,(cutL ps lo hi).length≤24:=fun lo hi=>Nat.le_trans (cutL_len ..) la
     refine ⟨_,rfl,_,rfl,_,rfl,rd_slice ha1 fun q1 H2 f2 i2 s2=>?_⟩
     refine ⟨_,rfl,rd_lst [od] fun q2 H3 f3 i3 s3=>rd_cat (s3.ints i2) i3 (Nat.le_trans (Nat.add_le_add (cl _ _) (Nat.le_refl _)) (by show 24+1≤10000000;decide)) fun q3 H4 f4 i4 s4=>?_⟩
     have s14:=s2.trans (s3.trans s4)
     refine ⟨_,rfl,_,rfl,_,rfl,rd_slice (s14.ints ha1) fun q4 H5 f5 i6 s5=>rd_cat (s5.ints i4) i6 (by rw [List.length_append];exact Nat.le_trans (Nat.add_le_add (Nat.add_le_add (cl _ _) (Nat.le_refl _)) (cl _ _)) (by show 24+1+24≤10000000;decide)) fun q5 H6 f6 i7 s6=>?_⟩
     have s16:=s14.trans (s5.trans s6)
     refine ⟨_,rfl,rfl,_,rfl,iteFe (sk z) ?_⟩
     refine ⟨_,rfl,rfl,_,rfl,iteFe (sk z) ?_⟩
     refine ⟨_,rfl,rfl,_,rfl,iteFe (sk z) ?_⟩
     refine ⟨_,rfl,_,rfl,_,rfl,by show 3≤sizeLine;decide,fun p hp=>?_⟩
     exact fin2 k t q5 as T' _ H6 p s16 (ht1.same s16) ai (by omega) i7 (by rw [List.length_append,List.length_append];exact Nat.le_trans (Nat.add_le_add (Nat.add_le_add (cl _ _) (Nat.le_refl _)) (cl _ _)) (by show 24+1+24≤100;decide)) hp
   refine ⟨_,rfl,rfl,_,rfl,ite2 (fun z=>?_) fun z6=>?_⟩
   · refine ⟨_,rfl,rd_at 3 hd1 (by omega) ⟨_,_,rfl,rfl,(by show (0:Int) < 9;decide),_,_,rfl,rfl,?_⟩⟩
     have g0:=Int.emod_nonneg (ds.getD 3 0) (show (9:Int)≠0 by decide)
     have g1:=Int.emod_lt_of_pos (ds.getD 3 0) (show (0:Int) < 9 by decide)
     generalize ds.getD 3 0 % 9=kn at g0 g1
     show gName 0 (V.int (kn - 1)) _ _ _
     refine w_nm ?_
     refine ⟨_,rfl,rd_at 4 hd1 (by omega) ⟨_,_,rfl,rfl,(by show (0:Int) < 2;decide),rfl,_,rfl,ite2 (fun _=>?_) fun _=>?_⟩⟩
     · obtain ⟨q6,e6,q8⟩:∃ q6:Nat,(if kn - 1 > 0 then kn - 1 else 0)=(q6:Int)∧q6≤8:=by
         by_cases w:kn - 1 > 0
         · rw [if_pos w];exact ⟨(kn - 1).toNat,by omega,by omega⟩
         · rw [if_neg w];exact ⟨0,rfl,by decide⟩
       obtain ⟨r0,er0,mr0,eT0,hr0⟩:=ht1.at (i:=0) (by omega)
       obtain ⟨p0,ep0,hp0⟩:=pm.row _ (List.mem_of_getElem? eT0)
       rw [ep0] at hr0
       refine ⟨_,rfl,_,_,rfl,?_⟩
       refine ⟨_,rfl,?_⟩
       rw [e6]
       refine ⟨by omega,by omega,comp_tab (n:=(q6:Int).toNat) (fun _=>p0.map some) (by omega) (fun i hi H4 s4 Q' q'=>?_) fun D as6 H5 N5=>?_⟩
       · exact ⟨_,rfl,rd_row 0 (ht1.same s4) er0 (rd_list (s4.ints (rowI.mp hr0)) fun p3 H6 f6 i6 s6=>q' p3 H6 f6 (rowI.mpr i6) s6)⟩
       · refine w_nm ?_
         refine ⟨_,rfl,rfl,_,rfl,iteFe (sk z) ?_⟩
         refine ⟨_,rfl,rfl,_,rfl,iteFe (sk z) ?_⟩
         refine ⟨_,rfl,_,rfl,_,rfl,by show 3≤sizeLine;decide,fun p hp=>?_⟩
         refine fin2 (kn - 1) D a as6 _ ps H5 p N5.sm N5.tb (fun r hr=>?_) (by simp;omega) (N5.sm.ints ha1) (by omega) hp
         obtain ⟨_,_,rfl⟩:=List.mem_map.mp hr
         exact ⟨p0,rfl,.inl (by rw [hp0.length_eq,lab0_len];omega)⟩
     · skip
       refine ⟨_,rfl,rfl,_,rfl,iteFe (sk z) ?_⟩
       refine ⟨_,rfl,rfl,_,rfl,iteFe (sk z) ?_⟩
       refine ⟨_,rfl,_,rfl,_,rfl,by show 3≤sizeLine;decide,fun p hp=>?_⟩
       exact fin2 (kn - 1) t a as T' ps H1 p (Same.refl _) ht1 ai (by omega) ha1 (by omega) hp
   refine ⟨_,rfl,rfl,_,rfl,ite2 (fun z=>?_) fun z7=>?_⟩
   · refine rd_lsV (by decide) fun l1 H2 f2 h2 s2=>?_
     refine ⟨_,rfl,_,rfl,by omega,by omega,comp_tab (n:=(k:Int).toNat) (fun _=>[]) (by omega) (fun i hi H3 s3 Q' q'=>rd_lstV (by simp) fun p H4 hp ip s4=>q' p H4 hp ip s4) fun D2 as2 H3 N3=>?_⟩
     have s13:=s2.trans N3.sm
     refine ⟨_,rfl,_,rfl,rd_sliceV (s13 _ _ ht1.is) fun l3 H4 f4 h4 s4=>?_⟩
     rw [cutV_tail (by rw [List.length_map,ht1.len];omega)] at h4
     have s14:=s13.trans s4
     refine ⟨_,rfl,_,rfl,_,rfl,fun r hr0=>rd_range (K:=K) upd_same (by omega) fun lf H5 hlf il s5=>?_⟩
     have s45:Same H4 H5:=((Same.refl H4).upd hr0).trans s5
     refine rd_lsV (by show 1≤1000;decide) fun l5 H6 f6 h6 s6=>?_
     have s16:=s14.trans (s45.trans s6)
     refine rd_catV (s16 _ _ ht1.is) h6 (by rw [List.length_map,ht1.len];show T'.length+1≤_;omega) fun l7 H7 f7 h7 s7=>?_
     have s17:=s16.trans s7
     refine rd_lsV (by show 4≤1000;decide) fun l8 H8 f8 h8 s8=>?_
     have s18:=s17.trans s8
     have s38:=s4.trans (s45.trans (s6.trans (s7.trans s8)))
     have w0:=Int.emod_nonneg (ds.getD 4 0) (show (4:Int)≠0 by decide)
     have w1:=Int.emod_lt_of_pos (ds.getD 4 0) (show (0:Int) < 4 by decide)
     have nil8:AllI []:=fun r hr=>by cases hr
     have e0:SrtOk []:=.inl (by decide)
     refine ⟨_,rfl,rd_at 4 (s18.ints hd1) (by omega) ⟨_,_,rfl,rfl,(by show (0:Int) < 4;decide),?_⟩⟩
     rcases (show ds.getD 4 0 % 4=0∨ds.getD 4 0 % 4=1∨ds.getD 4 0 % 4=2∨ds.getD 4 0 % 4=3 by omega) with ew | ew | ew | ew
     · refine rd_atV h8 (by show atI _ (ds.getD 4 0 % 4)=_;rw [ew];rfl) ?_
       refine w_nm ?_
       refine ⟨_,rfl,rfl,_,rfl,iteFe (sk z) ?_⟩
       refine ⟨_,rfl,_,rfl,_,rfl,by show 3≤sizeLine;decide,fun p hp=>?_⟩
       exact fin2 k l1 a [] [] ps H8 p s18 ⟨s38 _ _ (N3.sm _ _ h2),rfl,fun i a r e=>by simp at e⟩ nil8 (by decide) (s18.ints ha1) (by omega) hp
     · refine rd_atV h8 (by show atI _ (ds.getD 4 0 % 4)=_;rw [ew];rfl) ?_
       refine w_nm ?_
       refine ⟨_,rfl,rfl,_,rfl,iteFe (sk z) ?_⟩
       refine ⟨_,rfl,_,rfl,_,rfl,by show 3≤sizeLine;decide,fun p hp=>?_⟩
       exact fin2 k D2 a as2 _ ps H8 p s18 (N3.tb.same s38) (fun r hr=>by obtain ⟨_,_,rfl⟩:=List.mem_map.mp hr;exact ⟨[],rfl,e0⟩) (by simp;omega) (s18.ints ha1) (by omega) hp
     · refine rd_atV h8 (by show atI _ (ds.getD 4 0 % 4)=_;rw [ew];rfl) ?_
       refine w_nm ?_
       refine ⟨_,rfl,rfl,_,rfl,iteFe (sk z) ?_⟩
       refine ⟨_,rfl,_,rfl,_,rfl,by show 3≤sizeLine;decide,fun p hp=>?_⟩
       exact fin2 k l3 a _ _ ps H8 p s18 ((ht1.same s13).drop1 s38 ((s45.trans (s6.trans (s7.trans s8))) _ _ h4)) (fun r hr=>ai r (List.mem_of_mem_drop hr)) (by rw [List.length_drop];omega) (s18.ints ha1) (by omega) hp
     · refine rd_atV h8 (by show atI _ (ds.getD 4 0 % 4)=_;rw [ew];rfl) ?_
       refine w_nm ?_
       refine ⟨_,rfl,rfl,_,rfl,iteFe (sk z) ?_⟩
       refine ⟨_,rfl,_,rfl,_,rfl,by show 3≤sizeLine;decide,fun p hp=>?_⟩
       exact fin2 k l7 a _ _ ps H8 p s18 ((ht1.same s16).more1 (s7.trans s8) (rowI.mpr ((s6.trans (s7.trans s8)).ints il)) (s8 _ _ h7)) (fun r hr=>by
        rcases List.mem_append.mp hr with m | m
        · exact ai r m
        · rw [List.mem_singleton.mp m];exact ⟨lab0 n,rfl,.inl (by rw [lab0_len];omega)⟩) (by simp;omega) (s18.ints ha1) (by omega) hp
   refine ⟨_,rfl,rfl,_,rfl,ite2 (fun z=>?_) fun z8=>?_⟩
   · have w0:=Int.emod_nonneg (ds.getD 4 0) (show (4:Int)≠0 by decide)
     have w1:=Int.emod_lt_of_pos (ds.getD 4 0) (show (0:Int) < 4 by decide)
     obtain ⟨m,em,m7⟩:∃ m:Nat,(699:Int)+ds.getD 4 0 % 4=(m:Int)∧m≤702:=⟨(699+ds.getD 4 0 % 4).toNat,by omega,by omega⟩
     refine ⟨_,rfl,_,rfl,by omega,by omega,comp_tab (n:=(k:Int).toNat) (fun _=>(lab0 m).map some) (by omega) (fun i hi H4 s4 Q' q'=>?_) fun D as6 H5 N5=>?_⟩
     · refine ⟨_,rfl,rd_at 4 (s4.ints hd1) (by omega) ⟨_,_,rfl,rfl,(by show (0:Int) < 4;decide),_,_,rfl,rfl,?_⟩⟩
       refine ⟨_,rfl,?_⟩
       rw [em]
       exact fun r hr0=>rd_range (K:=K) upd_same (by omega) fun lf H6 hlf il s6=>q' lf H6 (((Same.refl H4).upd hr0).free hlf) (rowI.mpr il) (((Same.refl H4).upd hr0).trans s6)
     · refine w_nm ?_
       refine ⟨_,rfl,_,rfl,_,rfl,by show 3≤sizeLine;decide,fun p hp=>?_⟩
       refine fin2 k D a as6 _ ps H5 p N5.sm N5.tb (fun r hr=>?_) (by simp;omega) (N5.sm.ints ha1) (by omega) hp
       obtain ⟨_,_,rfl⟩:=List.mem_map.mp hr
       exact ⟨lab0 m,rfl,.inr ⟨by rw [lab0_len];omega,lab0_le m⟩⟩
   · refine ⟨_,rfl,_,rfl,_,rfl,by show 3≤sizeLine;decide,fun p hp=>?_⟩
     exact fin2 k t a as T' ps H1 p (Same.refl _) ht1 ai (by omega) ha1 (by omega) hp
theorem sc__law_good:FnScope ["_law_kinds","_law_tables","_law_places","_law_size","_law_ends","_law_place"] ["_law_kinds","_law_tables","_law_places"] (defScope s__law_good):=scm
theorem ok_good28 {f:Addr}{fd:FuncData} (F:Fun K "_law_good" "_law_good" s__law_good f fd) (T:Txt K mg) (hso:mg "sorted"=none):FnOk P w K mg base CX0 1 f fd ["_law_kinds","_law_tables","_law_places"] spGood28:=by
 refine F.ok sc__law_good (fun vs H Q E h=>?_) (fun cdv A outer s H vs Q E hr h=>?_)
 · obtain ⟨k,t,a,as,T',ps,rfl,_⟩:=h
   rfl
 · obtain ⟨k,t,pa,as,T',ps,rfl,ht,ai,hT,hpa,q,qe⟩:=h
   have hu:=hr.units
   refine ⟨_,(@sC _ _ _ _ _ (ps_if (PW.pt (pw_or (pt_cmpR op_lt (pv 0) pe_int (nomark _)) (pw_or (pt_cmpR op_gt (pv 0) pe_int (nomark _)) (pw_or1 (pt_cmpR op_ne (pe_callB call_len_seq (by rfl) T.len PySem.boot_len (@aC _ _ _ _ _ (pv 1) pa_nil (by rfl))) (pv 0) (nomark _)))))) (@sO _ _ _ (@sR _ _ _ _ pe_bl)) pss_nil)
    (@sC _ _ _ _ _ (@sS _ 3 _ _ _ _ _ sc__law_good.nd rfl (Or.inl rfl) (pe_callB call_len_seq (by rfl) T.len PySem.boot_len (@aC _ _ _ _ _ (pe_ix ix_l (pv 1) pe_int (fun _ _=>rfl)) pa_nil (by rfl))) (by rfl) (.inl rfl))
    (@sC _ _ _ _ _ (ps_if (PW.pt (pw_or (pt_cmpR op_lt (pv 3) pe_int (nomark _)) (pw_or1 (pt_cmpR op_gt (pv 3) pe_int (nomark _))))) (@sO _ _ _ (@sR _ _ _ _ pe_bl)) pss_nil)
    (@sC _ _ _ _ _ (ps_for PassesOwn.never rfl (pi_list (pv 1)) (pg_name (i:=4) sc__law_good.nd rfl (Or.inl rfl)) (@sO _ _ _ (ps_if (PW.pt (pw_or (pt_cmpR op_ne (pe_callB call_len_seq (by rfl) T.len PySem.boot_len (@aC _ _ _ _ _ (pv 4) pa_nil (by rfl))) (pv 3) (nomark _)) (pw_or1 (pt_cmpR (op_neIs hu) (pe_callB (call_sortedA K rfl) (by rfl) hso bt_sorted (@aC _ _ _ _ _ (pv 4) pa_nil (by rfl))) (pe_callTy (call_listRng rfl) rfl T.list bt_list (pa_cons (pe_rng rfl T.range (@aC _ _ _ _ _ (pv 3) pa_nil (by rfl))) pa_nil)) (nomark _))))) (@sO _ _ _ (@sR _ _ _ _ pe_bl)) pss_nil)))
    (@sC _ _ _ _ _ (ps_for PassesOwn.never rfl (pi_list (pv 2)) (pg_name (i:=5) sc__law_good.nd rfl (Or.inl rfl)) (@sO _ _ _ (ps_if (PW.pt (pw_or (pt_cmpR op_lt (pv 5) pe_int (nomark _)) (pw_or1 (pt_cmpR op_ge (pv 5) (pv 3) (nomark _))))) (@sO _ _ _ (@sR _ _ _ _ pe_bl)) pss_nil)))
    (@sO _ _ _ (@sR _ _ _ _ pe_bl))))))),?_⟩
   have e1:((as.map V.ref).length:Int)=T'.length:=by rw [List.length_map,ht.len]
   refine ⟨_,rfl,_,_,rfl,rfl,_,rfl,ite2 (fun z=>qe (fun g=>by have:=of_decide_eq_true z;have:=g.tb.k1;omega) _ (Same.refl _)) fun z=>⟨_,rfl,_,_,rfl,rfl,_,rfl,ite2 (fun y=>qe (fun g=>by have:=of_decide_eq_true y;have:=g.tb.k5;omega) _ (Same.refl _)) fun y=>?_⟩⟩
   have z:¬ k < 1:=fun w=>z (decide_eq_true w)
   have y:¬ (5:Int) < k:=fun w=>y (decide_eq_true w)
   refine ⟨_,rfl,t,_,rfl,.inl (SqL.of ht.is),_,rfl,rfl,_,rfl,?_⟩
   rw [e1]
   by_cases lk:¬ (T'.length:Int)=k
   · exact iteTe (by rw [decide_eq_false (fun w=>lk (V.int.inj w))];rfl) (qe (fun g=>lk g.tb.len) _ (Same.refl _))
   have lk:(T'.length:Int)=k:=Decidable.not_not.mp lk
   refine iteFe (by rw [lk];simp) ?_
   obtain ⟨a,ea,_,e0,hr0⟩:=ht.at (i:=0) (by omega)
   have l0:((T'.getD 0 []).map oV).length=(T'.getD 0 []).length:=List.length_map _
   obtain ⟨n,en⟩:∃ n,n=(T'.getD 0 []).length:=⟨_,rfl⟩
   refine ⟨_,rfl,rd_row 0 ht ea ⟨a,_,rfl,.inl (SqL.of hr0),?_⟩⟩
   rw [l0, ← en]
   have gb:GoodC k T' ps↔1≤n∧n≤700∧(∀ r∈T',∃ p:List Int,r=p.map some∧p.Perm (lab0 n))∧∀ p∈ps,0≤p∧p < (n:Int):=by
    rw [en]
    exact ⟨fun g=>⟨g.tb.n1,g.tb.n7,g.tb.pm,g.pr⟩,fun g=>⟨⟨by omega,by omega,lk,g.1,g.2.1,g.2.2.1⟩,g.2.2.2⟩⟩
   refine ⟨_,rfl,_,_,rfl,rfl,_,rfl,ite2 (fun z=>qe (fun g=>by have:=of_decide_eq_true z;have:=(gb.mp g).1;omega) _ (Same.refl _)) fun z1=>⟨_,rfl,_,_,rfl,rfl,_,rfl,ite2 (fun y=>qe (fun g=>by have:=of_decide_eq_true y;have:=(gb.mp g).2.1;omega) _ (Same.refl _)) fun y1=>?_⟩⟩
   have n1:1≤n:=by
    rcases Nat.lt_or_ge n 1 with w | w
    · exact absurd (decide_eq_true (by omega)) z1
    · exact w
   have n7:n≤700:=by
    rcases Nat.lt_or_ge 700 n with w | w
    · exact absurd (decide_eq_true (by omega)) y1
    · exact w
   refine ⟨_,rfl,t,rfl,⟨_,SqL.of ht.is⟩,for_list (K:=K) (a:=t) (xs:=as.map V.ref) (fun i σ H2=>(∃ x,σ=[some (.int k),some (.ref t),some (.ref pa),some (.int n),x,none])∧Same H H2∧∀ (j:Nat) r,j < i→T'[j]?=some r→∃ p:List Int,r=p.map some∧p.Perm (lab0 n)) ⟨⟨none,rfl⟩,Same.refl H,fun j r z=>by omega⟩ (fun i σ H2 _ ⟨_,s2,_⟩=>s2.seq (SqL.of ht.is)) ?_ ?_⟩
   · rintro i x σ H2 hi ⟨⟨y,rfl⟩,s2,al⟩
     obtain ⟨b,rfl,eb⟩:=get_adr hi
     have hi':i < T'.length:=by rw [← ht.len];exact (List.getElem?_eq_some_iff.mp eb).1
     have ei:T'[i]?=some T'[i]:=by simp [hi']
     have hrb:=(ht.rw i b T'[i] eb ei).same s2
     obtain ⟨p,ep,hp⟩:=ai _ (List.getElem_mem hi')
     rw [ep] at hrb
     have bad:¬ p.Perm (lab0 n)→∀ H',Same H H'→Q (.bl false) H':=fun np=>qe fun g=>by
      obtain ⟨p2,e2,h2⟩:=(gb.mp g).2.2.1 _ (List.getElem_mem hi')
      rw [ep] at e2
      rw [← some_inj e2] at h2
      exact np h2
     have hib:=rowI.mp hrb
     refine ⟨_,rfl,b,_,rfl,.inl (SqL.of hib),_,rfl,rfl,_,rfl,?_⟩
     by_cases lp:¬ p.length=n
     · exact iteTe (by rw [List.length_map,decide_eq_false (fun w=>lp (by have:=V.int.inj w;omega))];rfl) (bad (fun h=>lp (by rw [h.length_eq,lab0_len])) _ s2)
     have lp:p.length=n:=Decidable.not_not.mp lp
     refine iteFe (by rw [List.length_map,lp];simp) ?_
     refine ⟨_,rfl,rd_sortedA n hib hp fun l ms H3 hl il iff s3=>?_⟩
     refine ⟨_,rfl,_,rfl,fun r hr3=>rd_range (K:=K) upd_same (by omega) fun l2 H4 hl2 il2 s4=>?_⟩
     have s34:Same H3 H4:=((Same.refl H3).upd hr3).trans s4
     refine rd_ne (s34.ints il) il2 ⟨_,rfl,?_⟩
     have sA:=s2.trans (s3.trans s34)
     by_cases e:ms=lab0 n
     · refine iteFe (by rw [decide_eq_true e];rfl) ⟨⟨_,rfl⟩,sA,fun j r hj er=>?_⟩
       by_cases ji:j=i
       · rw [ji,ei] at er
         rw [← Option.some.inj er]
         exact ⟨p,ep,iff.mp e⟩
       · exact al j r (by omega) er
     · exact iteTe (by rw [decide_eq_false e];rfl) (bad (fun h=>e (iff.mpr h)) _ sA)
   · rintro σ H2 ⟨⟨y,rfl⟩,s2,al⟩
     rw [List.length_map,ht.len] at al
     have hp2:=s2.ints hpa
     refine ⟨_,rfl,pa,rfl,⟨_,SqL.of hp2⟩,for_list (K:=K) (a:=pa) (xs:=ps.map V.int) (fun i σ H3=>(∃ x4 x5,σ=[some (.int k),some (.ref t),some (.ref pa),some (.int n),x4,x5])∧H3=H2∧∀ (j:Nat) z,j < i→ps[j]?=some z→0≤z∧z < (n:Int)) ⟨⟨_,_,rfl⟩,rfl,fun j z w=>by omega⟩ (fun i σ H3 _ ⟨_,e,_⟩=>by rw [e];exact SqL.of hp2) ?_ ?_⟩
     · rintro i x σ H3 hi ⟨⟨y4,y5,rfl⟩,rfl,al2⟩
       obtain ⟨z,rfl,ez⟩:=get_int hi
       have mz:=List.mem_of_getElem? ez
       refine ⟨_,rfl,_,_,rfl,rfl,_,rfl,ite2 (fun w=>qe (fun g=>by have:=of_decide_eq_true w;have:=((gb.mp g).2.2.2 z mz).1;omega) _ s2) fun w1=>⟨_,rfl,_,rfl,_,_,rfl,rfl,_,rfl,ite2 (fun w=>qe (fun g=>by have:=of_decide_eq_true w;have:=((gb.mp g).2.2.2 z mz).2;omega) _ s2) fun w2=>⟨⟨_,_,rfl⟩,rfl,fun j v hj ev=>?_⟩⟩⟩
       by_cases ji:j=i
       · rw [ji,ez] at ev
         rw [← Option.some.inj ev]
         have w1:¬ z < 0:=fun x=>w1 (decide_eq_true x)
         have w2:¬ (n:Int)≤z:=fun x=>w2 (decide_eq_true x)
         omega
       · exact al2 j v (by omega) ev
     · rintro σ H3 ⟨⟨y4,y5,rfl⟩,rfl,al2⟩
       rw [List.length_map] at al2
       refine q (gb.mpr ⟨n1,n7,fun r hr=>?_,fun p hp=>?_⟩) _ s2
       · obtain ⟨j,hj,ej⟩:=List.getElem_of_mem hr
         exact al j r hj (by rw [List.getElem?_eq_getElem hj,ej])
       · obtain ⟨j,hj,ej⟩:=List.getElem_of_mem hp
         exact al2 j p hj (by rw [List.getElem?_eq_getElem hj,ej])
end
section
variable {P:Program}{w:World}{K:PySem.W.Frag}{mg:Str→Option Value}{base:Heap}
theorem sc_law:FnScope ["_law_script","_law_numbers_here","_law_kinds","_law_size","_law_tables","_law_places","_law_handed","_law_lain","_law_found","_law_bad","e"] ["_law_script"] (defScope s_law):=scm
theorem ok_law {f C Cc CE:Addr}{CS:Nat→Addr}{fd:FuncData} (F:Fun K "law" "law" s_law f fd) (T:Txt K mg) (XQ:XR K mg CE CS) (X7:XOne K CE CS 7) (N:Rdy P w K mg base "_law_numbers" ["_law_script","_law_many"] 1 (spNumL K)) (PM:Rdy P w K mg base "_law_perms" ["_law_kinds","_law_size","_law_draws"] 1 spPerms)
  (SPO:Rdy P w K mg base "_law_spoilt" ["_law_kinds","_law_size","_law_tables","_law_places","_law_draws"] 1 spSpoilt28) (CP:Rdy P w K mg base "_law_copied" ["_law_table"] 1 spCopied) (CV:Rdkx P w K mg base C "Cave" ["self","kinds","tables","places"] 4 (spCInitX C Cc (CS 7))) (SZ:Rdm P w K mg base C "size" ["self"] 2 (spCSize C Cc))
  (GD:Rdy P w K mg base "_law_good" ["_law_kinds","_law_tables","_law_places"] 1 spGood28) (DU:Rdy P w K mg base "_law_due" ["_law_want"] 1 spDueX):
  FnOk P w K mg base CX0 6 f fd ["_law_script"] (spLaw K):=by
 refine F.ok sc_law (fun vs H Q E h=>?_) (fun cdv A outer s H vs Q E hr h=>?_)
 · obtain ⟨a,ns,rfl,_⟩:=h
   rfl
 · obtain ⟨sc,ns,rfl,hS,hn,kk⟩:=h
   have hu:=hr.units
   have hu1:=hu_of hr
   have rest12:∃ u:TS,PSs (cxOf CX0 P w K mg base ["_law_script","_law_numbers_here","_law_kinds","_law_size","_law_tables","_law_places","_law_handed","_law_lain","_law_found","_law_bad","e"] "law" (defScope s_law) f cdv A outer s H E).nox ((defBody s_law).drop 12) u∧
     ∀ (x1 x3 x10:Option V) (t a hd ln b:Addr) (as hs:List Addr) (T':Tab) (ps:List Int) (k:Int) (vf:V) (G:Hp),Tb G t as T'→Tb G hd hs T'→Ints G a ps→Ints G ln ps→AllI T'→T'.length≤1000→
      (¬ GoodC k T' ps→G b=some (.lst (badL 7)))→(GoodC k T' ps→G b=some (.lst [])∧∃ (x:Addr) (fp:List Addr),vf=.ref x∧CvAt C Cc G x k.toNat (T'.getD 0 []).length T' ps fp)→
      u { nx:=fun _ H'=>Q .non H',rt:=Q } [some (.ref sc),x1,some (.int k),x3,some (.ref t),some (.ref a),some (.ref hd),some (.ref ln),some vf,some (.ref b),x10] G:=by
    refine ⟨_,(@sC _ _ _ _ _ (ps_if (PW.pt (pw_or (pt_cmpR (op_neD hu) (pv 6) (pv 4) (nomark _)) (pw_or1 (pt_cmpR (op_neIs hu) (pv 7) (pv 5) (nomark _))))) (@sO _ _ _ (@sR _ _ _ _ pe_bl)) pss_nil)
    (@sC _ _ _ _ _ (ps_if (pt_not (pt_val (GD.pe hr (@aC _ _ _ _ _ (pv 2) (@aC _ _ _ _ _ (pv 4) (@aC _ _ _ _ _ (pv 5) pa_nil (by rfl)) (by rfl)) (by rfl))))) (@sO _ _ _ (@sR _ _ _ _ (pe_cmpR (op_eqD hu) (pv 9) (DU.pe hr (@aC _ _ _ _ _ pe_str pa_nil (by rfl))) (nomark _)))) pss_nil)
    (@sO _ _ _ (@sR _ _ _ _ (pe_and (pe_cmpR (op_eqIs hu) (pv 9) (pe_lstW pa_nil) (nomark _)) (pe_one (pe_cmpR op_eq (SZ.pe0 hr (pv 8)) (pe_callB call_len_seq (by rfl) T.len PySem.boot_len (@aC _ _ _ _ _ (pe_ix ix_l (pv 4) pe_int (fun _ _=>rfl)) pa_nil (by rfl))) (nomark _)))))))),?_⟩
    intro x1 x3 x10 t a hd ln b as hs T' ps k vf G tb tbh ia il ai l1 hbad hgood
    refine ⟨_,rfl,_,rfl,rd_neT tbh tb ⟨_,rfl,iteF ?_⟩⟩
    refine ⟨_,rfl,_,rfl,rd_nsame il ia rfl ⟨_,rfl,iteF ?_⟩⟩
    refine ⟨_,rfl,_,rfl,_,rfl,k,t,a,as,T',ps,rfl,tb,ai,l1,ia,fun g H1 s1=>⟨_,rfl,iteF ?_⟩,fun ng H1 s1=>⟨_,rfl,iteT ?_⟩⟩
    · obtain ⟨hb,x,fp,rfl,hx⟩:=hgood g
      refine ⟨_,rfl,rd_lsV (by decide) fun e3 H3 f3 h3 s3=>rd_eq (ns:=[]) (ms:=[]) (s3 _ _ (s1 _ _ hb)) h3 ?_⟩
      have hx3:=(hx.same s1).same s3
      obtain ⟨dx,pl,ch,fc,efp,hg3,_,_⟩:=id hx3.ob
      have tb3:=(tb.same s1).same s3
      have lT:0 < T'.length:=by have:=g.tb.len;have:=g.tb.k1;omega
      obtain ⟨ra,era,mra,eT,hra⟩:=tb3.at (i:=0) lT
      refine ⟨_,rfl,iteTe rfl ⟨_,rfl,x,dx,_,rfl,hg3,cvf_no ..,x,k.toNat,_,T',ps,fp,rfl,hx3,_,rfl,rd_row 0 tb3 era ⟨ra,_,rfl,.inl (SqL.of hra),rfl,?_⟩⟩⟩
      rw [List.length_map,decide_eq_true rfl]
      exact kk _
    · refine ⟨_,rfl,7,by decide,rfl,fun pd H2 fd hd s2=>?_⟩
      refine rd_eqB (bs:=badB 7) (cs:=badB 7) (s2 _ _ (s1 _ _ (hbad ng))) hd ?_
      rw [decide_eq_true rfl]
      exact kk _
   obtain ⟨u12,hu12,kk12⟩:=rest12
   have rest7:∃ u:TS,PSs (cxOf CX0 P w K mg base ["_law_script","_law_numbers_here","_law_kinds","_law_size","_law_tables","_law_places","_law_handed","_law_lain","_law_found","_law_bad","e"] "law" (defScope s_law) f cdv A outer s H E).nox ((defBody s_law).drop 7) u∧
     ∀ (x1 x3:Option V) (t a:Addr) (as:List Addr) (T':Tab) (ps:List Int) (k:Int) (G:Hp),Tb G t as T'→Ints G a ps→AllI T'→T'.length≤100→ps.length≤100→
      u { nx:=fun _ H'=>Q .non H',rt:=Q } [some (.ref sc),x1,some (.int k),x3,some (.ref t),some (.ref a),none,none,none,none,none] G:=by
    refine ⟨_,(@sC _ _ _ _ _ (@sS _ 6 _ _ _ _ _ sc_law.nd rfl (Or.inl rfl) (CP.pe hr (@aC _ _ _ _ _ (pv 4) pa_nil (by rfl))) (by rfl) (.inl rfl))
    (@sC _ _ _ _ _ (@sS _ 7 _ _ _ _ _ sc_law.nd rfl (Or.inl rfl) (pe_callTy call_listR rfl T.list bt_list (@aC _ _ _ _ _ (pv 5) pa_nil (by rfl))) (by rfl) (.inl rfl))
    (@sC _ _ _ _ _ (@sS _ 8 _ _ _ _ _ sc_law.nd rfl (Or.inl rfl) pe_non (by rfl) (.inl rfl))
    (@sC _ _ _ _ _ (@sS _ 9 _ _ _ _ _ sc_law.nd rfl (Or.inl rfl) (pe_lstW pa_nil) (by rfl) (.inl rfl))
    (@sC _ _ _ _ _ (ps_tryX (k:=10) sc_law.nd rfl rfl (psx_set (i:=8) sc_law.nd rfl (Or.inl rfl) (CV.px hr (@aC _ _ _ _ _ (pv 2) (@aC _ _ _ _ _ (pv 6) (@aC _ _ _ _ _ (pv 7) pa_nil (by rfl)) (by rfl)) (by rfl)))) rfl XQ.mCE (fun ea=>(@sC _ _ _ _ _ (@sS _ 9 _ _ _ _ _ sc_law.nd rfl (Or.inl rfl) (@eL _ _ _ _ (@aC _ _ _ _ _ (pe_callB (call_isXK (K:=K) rfl) (by rfl) T.inst bt_inst (pa_cons (pv 10) (pa_cons (pe_bltn (v:=.ty "ValueError") rfl XQ.tv bt_ve rfl) pa_nil))) (@aC _ _ _ _ _ (pe_callB (call_isXK (K:=K) rfl) (by rfl) T.inst bt_inst (pa_cons (pv 10) (pa_cons (pe_glob (v:=.ref (CS 0)) rfl XQ.m0 rfl) pa_nil))) (@aC _ _ _ _ _ (pe_callB (call_isXK (K:=K) rfl) (by rfl) T.inst bt_inst (pa_cons (pv 10) (pa_cons (pe_glob (v:=.ref (CS 1)) rfl XQ.m1 rfl) pa_nil))) (@aC _ _ _ _ _ (pe_callB (call_isXK (K:=K) rfl) (by rfl) T.inst bt_inst (pa_cons (pv 10) (pa_cons (pe_glob (v:=.ref (CS 2)) rfl XQ.m2 rfl) pa_nil))) pa_nil (by rfl)) (by rfl)) (by rfl)) (by rfl))) (by rfl) (.inl rfl))
    (@sC _ _ _ _ _ (@sS _ 9 _ _ _ _ _ sc_law.nd rfl (Or.inl rfl) (pe_op op_catW (pv 9) (@eL _ _ _ _ (@aC _ _ _ _ _ (pe_callB (call_isXK (K:=K) rfl) (by rfl) T.inst bt_inst (pa_cons (pv 10) (pa_cons (pe_glob (v:=.ref (CS 3)) rfl XQ.m3 rfl) pa_nil))) (@aC _ _ _ _ _ (pe_callB (call_isXK (K:=K) rfl) (by rfl) T.inst bt_inst (pa_cons (pv 10) (pa_cons (pe_glob (v:=.ref (CS 4)) rfl XQ.m4 rfl) pa_nil))) (@aC _ _ _ _ _ (pe_callB (call_isXK (K:=K) rfl) (by rfl) T.inst bt_inst (pa_cons (pv 10) (pa_cons (pe_glob (v:=.ref (CS 5)) rfl XQ.m5 rfl) pa_nil))) (@aC _ _ _ _ _ (pe_callB (call_isXK (K:=K) rfl) (by rfl) T.inst bt_inst (pa_cons (pv 10) (pa_cons (pe_glob (v:=.ref (CS 6)) rfl XQ.m6 rfl) pa_nil))) pa_nil (by rfl)) (by rfl)) (by rfl)) (by rfl)))) (by rfl) (.inl rfl))
    (@sO _ _ _ (@sS _ 9 _ _ _ _ _ sc_law.nd rfl (Or.inl rfl) (pe_op op_catW (pv 9) (@eL _ _ _ _ (@aC _ _ _ _ _ (pe_callB (call_isXK (K:=K) rfl) (by rfl) T.inst bt_inst (pa_cons (pv 10) (pa_cons (pe_glob (v:=.ref (CS 7)) rfl XQ.m7 rfl) pa_nil))) (@aC _ _ _ _ _ (pe_callB (call_isXK (K:=K) rfl) (by rfl) T.inst bt_inst (pa_cons (pv 10) (pa_cons (pe_glob (v:=.ref (CS 8)) rfl XQ.m8 rfl) pa_nil))) (@aC _ _ _ _ _ (pe_callB (call_isXK (K:=K) rfl) (by rfl) T.inst bt_inst (pa_cons (pv 10) (pa_cons (pe_glob (v:=.ref (CS 9)) rfl XQ.m9 rfl) pa_nil))) (@aC _ _ _ _ _ (pe_callB (call_isXK (K:=K) rfl) (by rfl) T.inst bt_inst (pa_cons (pv 10) (pa_cons (pe_glob (v:=.ref (CS 10)) rfl XQ.m10 rfl) pa_nil))) pa_nil (by rfl)) (by rfl)) (by rfl)) (by rfl)))) (by rfl) (.inl rfl)))))))
    hu12))))),?_⟩
    intro x1 x3 t a as T' ps k G tb ia ai l1 lp
    refine ⟨_,rfl,t,as,T',rfl,tb,by omega,fun hd hs H1 fhd fhs ndh tbh s1=>?_⟩
    refine ⟨_,rfl,rd_list (s1.ints ia) fun ln H2 fln iln s2=>?_⟩
    refine rd_lsV (by decide) fun b H0 fb b0 sb0=>?_
    dsimp only [gName]
    have s12:=s1.trans (s2.trans sb0)
    have tb0:=tb.same s12
    have tbh0:=tbh.same (s2.trans sb0)
    have ia0:=s12.ints ia
    have il0:=sb0.ints iln
    refine tTryX.splitS fun EE hEE=>?_
    refine ⟨_,rfl,_,rfl,_,rfl,fun x dx nx ndx nex=>?_⟩
    have sx:Same H0 (upd (upd H0 dx (.own x)) x (.ins C dx [])):=((Same.refl H0).upd ndx).upd nx
    have sme:∀ H3,Kp x (upd (upd H0 dx (.own x)) x (.ins C dx [])) H3→Same H0 H3:=fun H3 kp b o e=>kp b o (sx b o e) fun z=>by rw [z,nx] at e;cases e
    refine ⟨x,dx,k,hd,ln,hs,T',ps,rfl,upd_same,tbh0.same sx,ai,by omega,sx.ints il0,fun g H3 fp hc ff kp=>⟨rfl,?_⟩,fun ng H3 kp=>?_⟩
    · have s3:=sme H3 kp
      exact kk12 _ _ _ t a hd ln b as hs T' ps k _ H3 (tb0.same s3) (tbh0.same s3) (s3.ints ia0) (s3.ints il0) ai (by omega) (fun w=>absurd g w) fun _=>⟨s3 _ _ b0,x,fp,rfl,hc⟩
    · have s3:=sme H3 kp
      refine hEE _ _ X7.ex fun ea hea=>?_
      have he:upd H3 ea (.ext (PySem.W.ClsAt (CS 7) ea)) ea=some (.ext (PySem.W.ClsAt (CS 7) ea)):=upd_same
      have sE:Same H3 (upd H3 ea (.ext (PySem.W.ClsAt (CS 7) ea))):=(Same.refl H3).upd hea
      generalize upd H3 ea (.ext (PySem.W.ClsAt (CS 7) ea))=G1 at he sE
      refine ⟨_,rfl,ea,_,_,_,_,rfl,he,X7.ek,.ty _,X7.kv,_,rfl,ea,_,_,_,_,rfl,he,X7.ek,.own _,X7.k0,_,rfl,ea,_,_,_,_,rfl,he,X7.ek,.own _,X7.k1,_,rfl,ea,_,_,_,_,rfl,he,X7.ek,.own _,X7.k2,rd_lsV (by show 4≤1000;decide) fun l1b H1b f1b h1b s1b=>?_⟩
      have he1b:=s1b _ _ he
      refine ⟨_,rfl,_,rfl,ea,_,_,_,_,rfl,he1b,X7.ek,.own _,X7.k3,_,rfl,ea,_,_,_,_,rfl,he1b,X7.ek,.own _,X7.k4,_,rfl,ea,_,_,_,_,rfl,he1b,X7.ek,.own _,X7.k5,_,rfl,ea,_,_,_,_,rfl,he1b,X7.ek,.own _,X7.k6,rd_lsV (by show 4≤1000;decide) fun l2b H2b f2b h2b s2b=>?_⟩
      refine rd_catV (s2b _ _ h1b) h2b (by show 4+4≤10000000;decide) fun l3b H3b f3b h3b s3b=>?_
      have he3b:=s3b _ _ (s2b _ _ he1b)
      refine ⟨_,rfl,_,rfl,ea,_,_,_,_,rfl,he3b,X7.ek,.own _,X7.k7,_,rfl,ea,_,_,_,_,rfl,he3b,X7.ek,.own _,X7.k8,_,rfl,ea,_,_,_,_,rfl,he3b,X7.ek,.own _,X7.k9,_,rfl,ea,_,_,_,_,rfl,he3b,X7.ek,.own _,X7.k10,rd_lsV (by show 4≤1000;decide) fun l4b H4b f4b h4b s4b=>?_⟩
      refine rd_catV (s4b _ _ h3b) h4b (by show 8+4≤10000000;decide) fun lb Hb fb hb s5b=>?_
      have sb:=s1b.trans (s2b.trans (s3b.trans (s4b.trans s5b)))
      replace hb:Hb lb=some (.lst (badL _)):=hb
      have sEb:=s3.trans (sE.trans sb)
      exact kk12 _ _ _ t a hd ln lb as hs T' ps k _ Hb (tb0.same sEb) (tbh0.same sEb) (sEb.ints ia0) (sEb.ints il0) ai (by omega) (fun _=>hb) fun w=>absurd w ng
   obtain ⟨u7,hu7,kk7⟩:=rest7
   have rest4:∃ u:TS,PSs (cxOf CX0 P w K mg base ["_law_script","_law_numbers_here","_law_kinds","_law_size","_law_tables","_law_places","_law_handed","_law_lain","_law_found","_law_bad","e"] "law" (defScope s_law) f cdv A outer s H E).nox ((defBody s_law).drop 4) u∧
     ∀ (l0:Addr) (ms:List Int) (k n:Nat) (G:Hp),Ints G l0 ms→ms.length=160→1≤k→k≤5→1≤n→n≤20→u { nx:=fun _ H'=>Q .non H',rt:=Q } [some (.ref sc),some (.ref l0),some (.int k),some (.int n),none,none,none,none,none,none,none] G:=by
    refine ⟨_,(@sC _ _ _ _ _ (@sS _ 4 _ _ _ _ _ sc_law.nd rfl (Or.inl rfl) (PM.pe hr (@aC _ _ _ _ _ (pv 2) (@aC _ _ _ _ _ (pv 3) (@aC _ _ _ _ _ (pe_slice sl_l (pv 1) (po_some pe_int) po_none) pa_nil (by rfl)) (by rfl)) (by rfl))) (by rfl) (.inl rfl))
    (@sC _ _ _ _ _ (ps_compW 5 ["_law_size"] [3] sc_law.nd (pi_list (pe_slice sl_l (pv 1) (po_some pe_int) (po_some (pe_op op_add pe_int (pe_op op_mod (pe_ix ix_l (pv 1) pe_int (fun _ _=>rfl)) pe_int))))) (fun C s H fp=>pe_op op_mod (pv 0) (pv 1)) (hcl1 rfl))
    (@sC _ _ _ _ _ (ps_asg (SPO.pe hr (@aC _ _ _ _ _ (pv 2) (@aC _ _ _ _ _ (pv 3) (@aC _ _ _ _ _ (pv 4) (@aC _ _ _ _ _ (pv 5) (@aC _ _ _ _ _ (pe_slice sl_l (pv 1) (po_some pe_int) (po_some pe_int)) pa_nil (by rfl)) (by rfl)) (by rfl)) (by rfl)) (by rfl))) (pg_tup rfl (pgs_cons (pg_name (i:=2) sc_law.nd rfl (Or.inl rfl)) (pgs_cons (pg_name (i:=4) sc_law.nd rfl (Or.inl rfl)) (pgs_cons (pg_name (i:=5) sc_law.nd rfl (Or.inl rfl)) pgs_nil)))))
    hu7))),?_⟩
    intro l0 ms k n G h0 hm k1 k5 n1 n20
    have hkn:k * n≤100:=Nat.le_trans (Nat.mul_le_mul k5 n20) (by decide)
    have dr:(cutL ms (some 50) none).length=110:=by
     rw [show (50:Int)=((50:Nat):Int) from rfl,cutL_from,List.length_drop,hm]
    refine ⟨_,rfl,_,rfl,_,rfl,_,rfl,rd_slice h0 fun ld H1 f1 i1 s1=>?_⟩
    refine ⟨k,n,ld,_,rfl,i1,by omega,n1,by omega,by rw [dr];omega,fun t as U H2 ft fa nd tb pm s2=>?_⟩
    have h1:=s1.ints h0
    have h2:=s2.ints h1
    have v0:=Int.emod_nonneg (ms.getD 3 0) (show (25:Int)≠0 by decide)
    have v1:=Int.emod_lt_of_pos (ms.getD 3 0) (show (0:Int) < 25 by decide)
    obtain ⟨v,ev,v24⟩:∃ v:Nat,(20:Int)+ms.getD 3 0 % 25=((20+v:Nat):Int)∧v≤24:=⟨(ms.getD 3 0 % 25).toNat,by omega,by omega⟩
    refine ⟨_,rfl,_,rfl,_,rfl,rd_at 3 h2 (by omega) ⟨_,_,rfl,rfl,(by show (0:Int) < 25;decide),_,_,rfl,rfl,_,rfl,rd_slice h2 fun lp H3 f3 i3 s3=>?_⟩⟩
    have lps:(cutL ms (some 20) (some (20+ms.getD 3 0 % 25))).length≤24:=by
     rw [ev,show (20:Int)=((20:Nat):Int) from rfl,cutL_ft _ _ _ (by omega),List.length_take];omega
    generalize cutL ms (some 20) (some (20+ms.getD 3 0 % 25))=ps0 at i3 lps
    refine ⟨lp,rfl,⟨_,SqL.of i3⟩,comp_intsW (ns:=ps0) (fun z=>z % n) i3.sq (small4k (by omega)) (fun z hz H' Q' q'=>?_) fun D hD=>?_⟩
    · exact ⟨_,rfl,_,rfl,_,_,rfl,rfl,by show (0:Int) < n;omega,q'⟩
    have lp2:(ps0.map (fun z=>z % (n:Int))).length≤24:=by rw [List.length_map];exact lps
    generalize ps0.map (fun z=>z % (n:Int))=ps at lp2
    have s4:Same H3 (upd H3 D (.lst (ps.map V.int))):=(Same.refl H3).upd hD
    have i4:Ints (upd H3 D (.lst (ps.map V.int))) D ps:=upd_same
    generalize upd H3 D (.lst (ps.map V.int))=H4 at s4 i4
    have s24:=s3.trans s4
    have h4:=s24.ints h2
    have tb4:=tb.same s24
    have d5:(cutL ms (some 4) (some 9)).length=5:=by
     rw [show (4:Int)=((4:Nat):Int) from rfl,show (9:Int)=((9:Nat):Int) from rfl,cutL_ft _ _ _ (by decide),List.length_take,List.length_drop,hm];decide
    refine ⟨_,rfl,_,rfl,_,rfl,_,rfl,_,rfl,_,rfl,_,rfl,rd_slice h4 fun l5 H5 f5 i5 s5=>?_⟩
    have lv:∀ b∈t::as,∃ o,H4 b=some o:=tb4.live
    have nD:D∉t::as:=fun z=>by
     obtain ⟨o,e⟩:=(tb.same s3).live D z
     rw [hD] at e;cases e
    have n5:l5∉t::as:=fun z=>by obtain ⟨o,e⟩:=lv l5 z;rw [f5] at e;cases e
    refine ⟨k,n,t,D,l5,as,U,ps,_,rfl,tb4.same s5,nd,pm,k1,k5,n1,n20,s5.ints i4,lp2,i5,d5,nD,n5,fun p k' t' a' as' T' ps' H6 hp tb' ai l1 ia lq kp=>?_⟩
    refine ⟨p,_,rfl,SqT.of hp,rfl,_,_,rfl,_,_,rfl,_,_,rfl,rfl,?_⟩
    exact kk7 _ _ t' a' as' T' ps' k' H6 tb' ia ai l1 lq
   obtain ⟨u4,hu4,kk4⟩:=rest4
   refine ⟨_,(@sC _ _ _ _ _ (@sS _ 1 _ _ _ _ _ sc_law.nd rfl (Or.inl rfl) (N.pe hr (@aC _ _ _ _ _ (pv 0) (@aC _ _ _ _ _ pe_int pa_nil (by rfl)) (by rfl))) (by rfl) (.inl rfl))
    (@sC _ _ _ _ _ (@sS _ 2 _ _ _ _ _ sc_law.nd rfl (Or.inl rfl) (pe_op op_add pe_int (pe_op op_mod (pe_ix ix_l (pv 1) pe_int (fun _ _=>rfl)) pe_int)) (by rfl) (.inl rfl))
    (@sC _ _ _ _ _ (ps_set (i:=3) sc_law.nd rfl (Or.inr rfl) (pe_op op_add pe_int (pe_op op_mod (pe_ix ix_l (pv 1) pe_int (fun _ _=>rfl)) pe_int)))
    (@sC _ _ _ _ _ (ps_if (pt_cmpR op_eq (pe_op op_mod (pe_ix ix_l (pv 1) pe_int (fun _ _=>rfl)) pe_int) pe_int (nomark _)) (@sO _ _ _ (ps_set (i:=3) sc_law.nd rfl (Or.inr rfl) (pe_op op_add pe_int (pe_op op_mod (pe_ix ix_l (pv 1) pe_int (fun _ _=>rfl)) pe_int)))) pss_nil)
    hu4)))),?_⟩
   refine ⟨_,rfl,sc,ns,160,rfl,hS,hn,by decide,fun l0 ms H1 hms hg f0 h0 s1=>?_⟩
   have a0:=Int.emod_nonneg (ms.getD 0 0) (show (5:Int)≠0 by decide)
   have a1:=Int.emod_lt_of_pos (ms.getD 0 0) (show (0:Int) < 5 by decide)
   have b0:=Int.emod_nonneg (ms.getD 1 0) (show (9:Int)≠0 by decide)
   have b1:=Int.emod_lt_of_pos (ms.getD 1 0) (show (0:Int) < 9 by decide)
   have c0:=Int.emod_nonneg (ms.getD 1 0) (show (20:Int)≠0 by decide)
   have c1:=Int.emod_lt_of_pos (ms.getD 1 0) (show (0:Int) < 20 by decide)
   refine ⟨_,rfl,rd_at 0 h0 (by omega) ⟨_,_,rfl,rfl,(by show (0:Int) < 5;decide),_,_,rfl,rfl,?_⟩⟩
   refine ⟨_,rfl,rd_at 1 h0 (by omega) ⟨_,_,rfl,rfl,(by show (0:Int) < 9;decide),_,_,rfl,rfl,?_⟩⟩
   refine ⟨_,rfl,rd_at 2 h0 (by omega) ⟨_,_,rfl,rfl,(by show (0:Int) < 8;decide),rfl,_,rfl,?_⟩⟩
   refine ite2 (fun _=>?_) (fun _=>?_)
   · refine ⟨_,rfl,rd_at 1 h0 (by omega) ⟨_,_,rfl,rfl,(by show (0:Int) < 20;decide),_,_,rfl,rfl,?_⟩⟩
     have:=kk4 l0 ms (1+ms.getD 0 0 % 5).toNat (1+ms.getD 1 0 % 20).toNat H1 h0 hms (by omega) (by omega) (by omega) (by omega)
     rw [Int.toNat_of_nonneg (show 0≤1+ms.getD 0 0 % 5 by omega),Int.toNat_of_nonneg (show 0≤1+ms.getD 1 0 % 20 by omega)] at this
     exact this
   · have:=kk4 l0 ms (1+ms.getD 0 0 % 5).toNat (1+ms.getD 1 0 % 9).toNat H1 h0 hms (by omega) (by omega) (by omega) (by omega)
     rw [Int.toNat_of_nonneg (show 0≤1+ms.getD 0 0 % 5 by omega),Int.toNat_of_nonneg (show 0≤1+ms.getD 1 0 % 9 by omega)] at this
     exact this
end
theorem all_mk {l:PySem.W.OpenLaw}{w:World}{K:PySem.W.Frag}{h:Heap}{mg:Str→Option Value}{fa f1 f2 f3 f4 f5 f6 f7 f8 f9 f10 f11 f12 f13 f14 f15 CChart CCave CNoKind CNoWay CNoMark CNoEntry CNoHold CNoChamber CNoChart CNoCave CNoHome CBarred CFull CCaveError:Addr} (X:K.In h) (G:h.Ns mainGlobals mg) (hfa:mg "law"=some (.ref fa))
  {d1 d2 d3 d4 d5 d6 d7 d8 d9 d10 d11 d12 d13 d14 d15:FuncData}{tkMK tkMC:Tok}{cdNoCave:ClassData}{ddWNoCave dWnNoCave:Option Addr}{nmWNoCave qnWNoCave:Str}{bsWNoCave subWNoCave:List Value}{nsWNoCave:Addr}{hdWNoCave abWNoCave:Bool}{snWNoCave:List Str}{colWNoCave:Option Bool}{q0NoCave q1NoCave q2NoCave q3NoCave q5NoCave:Option Value}{cWnNoCave:Value}{esWNoCave:Array DictEntry}{nWnNoCave:Nat}{slWNoCave:Array (Option Value)}{odB dBn:Option Addr}{nmB qnB:Str}{bsB subB mroB:List Value}{nsB:Addr}{hdB abB delB:Bool}{snB:List Str}{colB:Option Bool}{cBn ocB:Value}{esB:Array DictEntry}{nBn:Nat}{slB oslB:Array (Option Value)}
  (a1:PySem.W.nsIn K mainGlobals "_law_numbers"=some (some (.ref f1)))
  (F1:Fun K "_law_numbers" "_law_numbers" s__law_numbers f1 d1)
  (a2:PySem.W.nsIn K mainGlobals "_law_perms"=some (some (.ref f2)))
  (F2:Fun K "_law_perms" "_law_perms" s__law_perms f2 d2)
  (a3:PySem.W.nsIn K mainGlobals "_law_copied"=some (some (.ref f3)))
  (F3:Fun K "_law_copied" "_law_copied" s__law_copied f3 d3)
  (a4:PySem.W.nsIn K mainGlobals "_law_due"=some (some (.ref f4)))
  (F4:Fun K "_law_due" "_law_due" s__law_due f4 d4)
  (a5:PySem.W.nsIn K mainGlobals "_law_good"=some (some (.ref f5)))
  (F5:Fun K "_law_good" "_law_good" s__law_good f5 d5)
  (a6:PySem.W.nsIn K mainGlobals "_law_spoilt"=some (some (.ref f6)))
  (F6:Fun K "_law_spoilt" "_law_spoilt" s__law_spoilt f6 d6)
  (a7:PySem.W.nsIn K mainGlobals "check_shape"=some (some (.ref f7)))
  (F7:Fun K "check_shape" "check_shape" s_check_shape f7 d7)
  (a8:PySem.W.nsIn K mainGlobals "beginnings"=some (some (.ref f8)))
  (F8:Fun K "beginnings" "beginnings" s_beginnings f8 d8)
  (a9:PySem.W.nsIn K mainGlobals "check_tables"=some (some (.ref f9)))
  (F9:Fun K "check_tables" "check_tables" s_check_tables f9 d9)
  (a10:PySem.W.nsIn K mainGlobals "check_places"=some (some (.ref f10)))
  (F10:Fun K "check_places" "check_places" s_check_places f10 d10)
  (a11:PySem.W.findIn K (.ref CChart) "__init__"=some (some (.ref f11))) (i11:PySem.W.isFn K (.ref f11)=true)
  (F11:Fun K "__init__" "Chart.__init__" s_Chart___init__ f11 d11)
  (a12:PySem.W.findIn K (.ref CChart) "size"=some (some (.ref f12))) (i12:PySem.W.isFn K (.ref f12)=true)
  (F12:Fun K "size" "Chart.size" s_Chart_size f12 d12)
  (a13:PySem.W.findIn K (.ref CCave) "__init__"=some (some (.ref f13))) (i13:PySem.W.isFn K (.ref f13)=true)
  (F13:Fun K "__init__" "Cave.__init__" s_Cave___init__ f13 d13)
  (a14:PySem.W.findIn K (.ref CCave) "size"=some (some (.ref f14))) (i14:PySem.W.isFn K (.ref f14)=true)
  (F14:Fun K "size" "Cave.size" s_Cave_size f14 d14)
  (a15:PySem.W.nsIn K mainGlobals "law"=some (some (.ref f15)))
  (F15:Fun K "law" "law" s_law f15 d15)
  (aChart:PySem.W.nsIn K mainGlobals "Chart"=some (some (.ref CChart))) (pgChart:PySem.W.plainGet K CChart Str.empty=true) (hdChart:PySem.W.hasDictIn K CChart=true) (poChart:PySem.W.plainOver K CChart=true) (saChart:PySem.W.findIn K (.ref CChart) "__setattr__"=some (some (.builtin "object.__setattr__"))) (mkChart:PySem.W.makesIn K CChart=true) (kcChart:PySem.W.keepIn K (.ref CChart)=true)
  (nChart_kinds:PySem.W.findIn K (.ref CChart) "kinds"=some none)
  (nChart_onward:PySem.W.findIn K (.ref CChart) "onward"=some none)
  (nChart_inward:PySem.W.findIn K (.ref CChart) "inward"=some none)
  (aCave:PySem.W.nsIn K mainGlobals "Cave"=some (some (.ref CCave))) (pgCave:PySem.W.plainGet K CCave Str.empty=true) (hdCave:PySem.W.hasDictIn K CCave=true) (poCave:PySem.W.plainOver K CCave=true) (saCave:PySem.W.findIn K (.ref CCave) "__setattr__"=some (some (.builtin "object.__setattr__"))) (mkCave:PySem.W.makesIn K CCave=true) (kcCave:PySem.W.keepIn K (.ref CCave)=true)
  (nCave_kinds:PySem.W.findIn K (.ref CCave) "kinds"=some none)
  (nCave_placed:PySem.W.findIn K (.ref CCave) "placed"=some none)
  (nCave_chart:PySem.W.findIn K (.ref CCave) "chart"=some none)
  (z1:PySem.W.nsIn K mainGlobals "len"=some none)
  (z2:PySem.W.nsIn K mainGlobals "range"=some none)
  (z3:PySem.W.nsIn K mainGlobals "list"=some none)
  (z4:PySem.W.nsIn K mainGlobals "int"=some none)
  (z5:PySem.W.nsIn K mainGlobals "bool"=some none)
  (z6:PySem.W.nsIn K mainGlobals "isinstance"=some none)
  (z7:PySem.W.nsIn K mainGlobals "tuple"=some none)
  (z8:PySem.W.nsIn K mainGlobals "abs"=some none)
  (z9:PySem.W.nsIn K mainGlobals "enumerate"=some none)
  (z10:PySem.W.nsIn K mainGlobals "str"=some none)
  (z_sum:PySem.W.nsIn K mainGlobals "sum"=some none)
  (z_sorted:PySem.W.nsIn K mainGlobals "sorted"=some none)
  (z_min:PySem.W.nsIn K mainGlobals "min"=some none)
  (z_max:PySem.W.nsIn K mainGlobals "max"=some none)
  (z_ValueError:PySem.W.nsIn K mainGlobals "ValueError"=some none)
  (aNoKind:PySem.W.nsIn K mainGlobals "NoKind"=some (some (.ref CNoKind)))
  (aNoWay:PySem.W.nsIn K mainGlobals "NoWay"=some (some (.ref CNoWay)))
  (aNoMark:PySem.W.nsIn K mainGlobals "NoMark"=some (some (.ref CNoMark)))
  (aNoEntry:PySem.W.nsIn K mainGlobals "NoEntry"=some (some (.ref CNoEntry)))
  (aNoHold:PySem.W.nsIn K mainGlobals "NoHold"=some (some (.ref CNoHold)))
  (aNoChamber:PySem.W.nsIn K mainGlobals "NoChamber"=some (some (.ref CNoChamber)))
  (aNoChart:PySem.W.nsIn K mainGlobals "NoChart"=some (some (.ref CNoChart)))
  (aNoCave:PySem.W.nsIn K mainGlobals "NoCave"=some (some (.ref CNoCave)))
  (aNoHome:PySem.W.nsIn K mainGlobals "NoHome"=some (some (.ref CNoHome)))
  (aBarred:PySem.W.nsIn K mainGlobals "Barred"=some (some (.ref CBarred)))
  (aFull:PySem.W.nsIn K mainGlobals "Full"=some (some (.ref CFull)))
  (aCaveError:PySem.W.nsIn K mainGlobals "CaveError"=some (some (.ref CCaveError)))
  (yMK:PySem.W.nsIn K mainGlobals "MOST_KINDS"=some (some (.int 5 tkMK)))
  (yMC:PySem.W.nsIn K mainGlobals "MOST_CHAMBERS"=some (some (.int 700 tkMC)))
  (e7:PySem.W.specialIn K (.builtin "object.__class__") "__get__"=some (some (.builtin "getset_descriptor.__get__")))
  (e8:PySem.W.takesIn K (.builtin "object.__class__")=some true)
  (kNoCave_NoKind:PySem.W.kitOne K (.ref CNoCave) (.ref CNoKind)=some false)
  (kNoCave_NoWay:PySem.W.kitOne K (.ref CNoCave) (.ref CNoWay)=some false)
  (kNoCave_NoMark:PySem.W.kitOne K (.ref CNoCave) (.ref CNoMark)=some false)
  (kNoCave_NoEntry:PySem.W.kitOne K (.ref CNoCave) (.ref CNoEntry)=some false)
  (kNoCave_NoHold:PySem.W.kitOne K (.ref CNoCave) (.ref CNoHold)=some false)
  (kNoCave_NoChamber:PySem.W.kitOne K (.ref CNoCave) (.ref CNoChamber)=some false)
  (kNoCave_NoChart:PySem.W.kitOne K (.ref CNoCave) (.ref CNoChart)=some false)
  (kNoCave_NoHome:PySem.W.kitOne K (.ref CNoCave) (.ref CNoHome)=some false)
  (kNoCave_Barred:PySem.W.kitOne K (.ref CNoCave) (.ref CBarred)=some false)
  (kNoCave_Full:PySem.W.kitOne K (.ref CNoCave) (.ref CFull)=some false)
  (kvNoCave:PySem.W.kitOne K (.ref CNoCave) (.type "ValueError")=some true)
  (exmNoCave:PySem.W.exmOne K (.ref CNoCave) (.ref CCaveError)=some true)
  (e1NoCave:PySem.W.clsIn K CNoCave=some cdNoCave)
  (e2NoCave:PySem.W.findIn K (.ref CNoCave) "__getattribute__"=some (some (.builtin "BaseException.__getattribute__")))
  (e3NoCave:PySem.W.findIn K (.ref CNoCave) "__getattr__"=some none)
  (e4NoCave:PySem.W.findIn K (.ref CNoCave) "__class__"=some (some (.builtin "object.__class__")))
  (e5NoCave:PySem.W.subIn K (.ref CNoCave) (.type "BaseException")=some true)
  (e6NoCave:PySem.W.mroIn K CNoCave (.type "object")=some true)
  (lWNoCave:K.lookup CNoCave=some ⟨.type "type",ddWNoCave,.cls ⟨nmWNoCave,bsWNoCave,.ref CNoCave::.ref CCaveError::veMro,nsWNoCave,qnWNoCave,hdWNoCave,snWNoCave,subWNoCave,abWNoCave,colWNoCave,false⟩, #[q0NoCave,q1NoCave,q2NoCave,q3NoCave,some (.builtin "ValueError.__new__"),q5NoCave]⟩)
  (lWnNoCave:K.lookup nsWNoCave=some ⟨cWnNoCave,dWnNoCave,.dict esWNoCave nWnNoCave,slWNoCave⟩)
  (hWNoCave:esWNoCave.toList.all strKey=true)
  (iWNoCave:PySem.W.nsIn K nsWNoCave "__init__"=some none)
  (lB:K.lookup CCaveError=some ⟨ocB,odB,.cls ⟨nmB,bsB,mroB,nsB,qnB,hdB,snB,subB,abB,colB,delB⟩,oslB⟩)
  (lBn:K.lookup nsB=some ⟨cBn,dBn,.dict esB nBn,slB⟩)
  (hB:esB.toList.all strKey=true)
  (iB:PySem.W.nsIn K nsB "__init__"=some none)
  :
  ∃ fd:FuncData,(∀ (s:Shared) (v:Value),BindsTo s fd ⟨[v],[]⟩ [("_law_script",v)])∧∀ base:Heap,K.In base→base.Ns mainGlobals mg→FnOk l.prog w K mg base CX0 6 fa fd ["_law_script"] (spLaw K):=by
 have e:=hfa.symm.trans (PySem.W.mg_of X G a15)
 cases e
 have T:Txt K mg:=⟨PySem.W.mg_none_of X G z1,PySem.W.mg_none_of X G z2,PySem.W.mg_none_of X G z3,PySem.W.mg_none_of X G z4,PySem.W.mg_none_of X G z5,PySem.W.mg_none_of X G z6,PySem.W.mg_none_of X G z7,PySem.W.mg_none_of X G z8,PySem.W.mg_none_of X G z9,PySem.W.mg_none_of X G z10⟩
 have CLChart:Cls K CChart:=⟨pgChart,hdChart,poChart,saChart⟩
 have CLCave:Cls K CCave:=⟨pgCave,hdCave,poCave,saCave⟩
 have TC:TxtC K mg CChart:=⟨CLChart,nChart_kinds,nChart_onward,nChart_inward,⟨_,PySem.W.mg_of X G yMK⟩,⟨_,PySem.W.mg_of X G yMC⟩,PySem.W.mg_none_of X G z_sum⟩
 let CS:Nat→Addr:=fun j=>([CNoKind,CNoWay,CNoMark,CNoEntry,CNoHold,CNoChamber,CNoChart,CNoCave,CNoHome,CBarred,CFull]:List Addr).getD j 0
 have XQ:XR K mg CCaveError CS:=⟨PySem.W.mg_of X G aNoKind,PySem.W.mg_of X G aNoWay,PySem.W.mg_of X G aNoMark,PySem.W.mg_of X G aNoEntry,PySem.W.mg_of X G aNoHold,PySem.W.mg_of X G aNoChamber,PySem.W.mg_of X G aNoChart,PySem.W.mg_of X G aNoCave,PySem.W.mg_of X G aNoHome,PySem.W.mg_of X G aBarred,PySem.W.mg_of X G aFull,PySem.W.mg_of X G aCaveError,PySem.W.mg_none_of X G z_ValueError⟩
 have X7:XOne K CCaveError CS 7:=⟨kvNoCave,kNoCave_NoKind,kNoCave_NoWay,kNoCave_NoMark,kNoCave_NoEntry,kNoCave_NoHold,kNoCave_NoChamber,kNoCave_NoChart,kit_self,kNoCave_NoHome,kNoCave_Barred,kNoCave_Full,exmNoCave,⟨congrArg Option.isSome e1NoCave,e2NoCave,e3NoCave,e4NoCave,e5NoCave,e6NoCave,e7,e8⟩⟩
 have V7:isVe K CNoCave=true:=isVe_mk lWNoCave (nsOk_mk lWnNoCave hWNoCave) iWNoCave lB (nsOk_mk lBn hB) iB
 have hso:mg "sorted"=none:=PySem.W.mg_none_of X G z_sorted
 have TV:TxtV K mg CCave:=⟨CLCave,nCave_kinds,nCave_placed,nCave_chart⟩
 have TM:TxtM mg:=⟨PySem.W.mg_none_of X G z_min,PySem.W.mg_none_of X G z_max⟩
 have b1:=F1.binds (ps:=["_law_script","_law_many"]) fun _ _ _ _ _ _ us hl=>by obtain ⟨_,_,rfl⟩:=us2 hl;rfl
 have b2:=F2.binds (ps:=["_law_kinds","_law_size","_law_draws"]) fun _ _ _ _ _ _ us hl=>by obtain ⟨_,_,_,rfl⟩:=us3 hl;rfl
 have b3:=F3.binds (ps:=["_law_table"]) fun _ _ _ _ _ _ us hl=>by obtain ⟨_,rfl⟩:=us1 hl;rfl
 have b4:=F4.binds (ps:=["_law_want"]) fun _ _ _ _ _ _ us hl=>by obtain ⟨_,rfl⟩:=us1 hl;rfl
 have b5:=F5.binds (ps:=["_law_kinds","_law_tables","_law_places"]) fun _ _ _ _ _ _ us hl=>by obtain ⟨_,_,_,rfl⟩:=us3 hl;rfl
 have b6:=F6.binds (ps:=["_law_kinds","_law_size","_law_tables","_law_places","_law_draws"]) fun _ _ _ _ _ _ us hl=>by obtain ⟨_,_,_,_,_,rfl⟩:=us5 hl;rfl
 have b7:=F7.binds (ps:=["kinds","table"]) fun _ _ _ _ _ _ us hl=>by obtain ⟨_,_,rfl⟩:=us2 hl;rfl
 have b8:=F8.binds (ps:=["ends"]) fun _ _ _ _ _ _ us hl=>by obtain ⟨_,rfl⟩:=us1 hl;rfl
 have b9:=F9.binds (ps:=["kinds","tables"]) fun _ _ _ _ _ _ us hl=>by obtain ⟨_,_,rfl⟩:=us2 hl;rfl
 have b10:=F10.binds (ps:=["size","places"]) fun _ _ _ _ _ _ us hl=>by obtain ⟨_,_,rfl⟩:=us2 hl;rfl
 have b11:=F11.binds (ps:=["self","kinds","table"]) fun _ _ _ _ _ _ us hl=>by obtain ⟨_,_,_,rfl⟩:=us3 hl;rfl
 have b12:=F12.binds (ps:=["self"]) fun _ _ _ _ _ _ us hl=>by obtain ⟨_,rfl⟩:=us1 hl;rfl
 have b13:=F13.binds (ps:=["self","kinds","tables","places"]) fun _ _ _ _ _ _ us hl=>by obtain ⟨_,_,_,_,rfl⟩:=us4 hl;rfl
 have b14:=F14.binds (ps:=["self"]) fun _ _ _ _ _ _ us hl=>by obtain ⟨_,rfl⟩:=us1 hl;rfl
 obtain ⟨x1,x2,x3,x4,x5,x6,x7,x8,x9,e,_⟩:=F15.ex
 subst e
 refine ⟨PySem.W.fnOf "law" "law" (defArgs s_law) (defBody s_law) (defScope s_law) .none x3 x4 x5 x6 x7 x8,fun s v=>.of_eq rfl,fun base _ _=>?_⟩
 let R__law_numbers:Rdy l.prog w K mg base "_law_numbers" ["_law_script","_law_many"] 1 (spNumL K):=⟨f1,_,ok_num F1 T,PySem.W.mg_of X G a1,F1.kp,b1⟩
 let R__law_perms:Rdy l.prog w K mg base "_law_perms" ["_law_kinds","_law_size","_law_draws"] 1 spPerms:=⟨f2,_,ok_perms F2 T,PySem.W.mg_of X G a2,F2.kp,b2⟩
 let R__law_copied:Rdy l.prog w K mg base "_law_copied" ["_law_table"] 1 spCopied:=⟨f3,_,ok_copied F3 T,PySem.W.mg_of X G a3,F3.kp,b3⟩
 let R__law_due:Rdy l.prog w K mg base "_law_due" ["_law_want"] 1 spDueX:=⟨f4,_,ok_due F4,PySem.W.mg_of X G a4,F4.kp,b4⟩
 let R__law_good:Rdy l.prog w K mg base "_law_good" ["_law_kinds","_law_tables","_law_places"] 1 spGood28:=⟨f5,_,ok_good28 F5 T hso,PySem.W.mg_of X G a5,F5.kp,b5⟩
 let R__law_spoilt:Rdy l.prog w K mg base "_law_spoilt" ["_law_kinds","_law_size","_law_tables","_law_places","_law_draws"] 1 spSpoilt28:=⟨f6,_,ok_spoilt28 F6 T TM,PySem.W.mg_of X G a6,F6.kp,b6⟩
 let R_check_shape:Rdy l.prog w K mg base "check_shape" ["kinds","table"] 1 spShape:=⟨f7,_,ok_shape F7 T TC,PySem.W.mg_of X G a7,F7.kp,b7⟩
 let R_beginnings:Rdy l.prog w K mg base "beginnings" ["ends"] 1 spBeg:=⟨f8,_,ok_beg F8 T,PySem.W.mg_of X G a8,F8.kp,b8⟩
 let R_check_tables:Rdx l.prog w K mg base "check_tables" ["kinds","tables"] 1 (spCkTabX CNoCave):=⟨f9,_,ok_ckTabX F9 (PySem.W.mg_of X G aNoCave) V7 T TC hso,PySem.W.mg_of X G a9,F9.kp,b9⟩
 let R_check_places:Rdx l.prog w K mg base "check_places" ["size","places"] 1 (spCkPlX CNoCave):=⟨f10,_,ok_ckPlX F10 (PySem.W.mg_of X G aNoCave) V7,PySem.W.mg_of X G a10,F10.kp,b10⟩
 let K_Chart:Rdk l.prog w K mg base CChart "Chart" ["self","kinds","table"] 2 (spInit CChart):=⟨f11,_,ok_init F11 T TC R_check_shape R_beginnings,⟨mkChart,a11,i11,kcChart⟩,PySem.W.mg_of X G aChart,b11⟩
 let M_Chart_size:Rdm l.prog w K mg base CChart "size" ["self"] 1 (spSize CChart):=⟨f12,_,ok_size F12 T TC,CLChart,⟨a12,i12,F12.kp⟩,b12⟩
 let K_Cave:Rdkx l.prog w K mg base CCave "Cave" ["self","kinds","tables","places"] 4 (spCInitX CCave CChart CNoCave):=⟨f13,_,ok_cinitX F13 T TV R_check_tables R_check_places K_Chart,⟨mkCave,a13,i13,kcCave⟩,PySem.W.mg_of X G aCave,b13⟩
 let M_Cave_size:Rdm l.prog w K mg base CCave "size" ["self"] 2 (spCSize CCave CChart):=⟨f14,_,ok_csize F14 TV M_Chart_size,CLCave,⟨a14,i14,F14.kp⟩,b14⟩
 exact ok_law F15 T XQ X7 R__law_numbers R__law_perms R__law_spoilt R__law_copied K_Cave M_Cave_size R__law_good R__law_due
theorem walk {l:PySem.W.OpenLaw}{q:Program}{loose:List Str}{XP:(Str→Option Value)→Heap→Prop}{YP:World→Heap→Prop}{d:DefRec}{K:Params→PySem.W.Frag} (hn:l.most=some 63) (hdf:d.params.defaults=[])
  (hY:∀ (w:World) (h:Heap),YP w h→(K w.params).In h)
  (F:∀ (w:World) (mg:Str→Option Value) (fa:Addr) (h:Heap),(K w.params).In h→h.Ns mainGlobals mg→mg d.name=some (.ref fa)→
   ∃ fd:FuncData,(∀ (s:Shared) (u:Value),BindsTo s fd ⟨[u],[]⟩ [("_law_script",u)])∧∀ base:Heap,(K w.params).In base→base.Ns mainGlobals mg→FnOk l.prog w (K w.params) mg base CX0 6 fa fd ["_law_script"] (spLaw (K w.params))):
  PySem.W.WalkO q loose XP YP l.row.toRowW d [] (fun f vs=>PySem.call f vs):=
 L2.walk_of (n:=63) (k:=6) (x:="_law_script") (CX:=fun _=>CX0) (sp:=fun w=>spLaw (K w.params)) hn (by decide) hdf ⟨rfl,by decide,by decide⟩ hY F (fun _ _ a ns hl _ hS=>⟨a,ns,rfl,hS,hl,fun _=>rfl⟩) fun _ _ _ _ _ z=>z
end My
def PySem.W.Fast.tw8109037859961308907:Unit:=()
def PySem.W.Fast.tw10708362559464873826:Unit:=()
def PySem.W.Fast.tw15731877716546422996:Unit:=()
def PySem.W.Fast.tw8746529070176176964:Unit:=()
def PySem.W.Fast.tw4061808828827894833:Unit:=()
def PySem.W.Fast.tw14209878112730524016:Unit:=()
def PySem.W.Fast.tw14178566824244234004:Unit:=()
def PySem.W.Fast.tw1705095725637160822:Unit:=()
def PySem.W.Fast.tw5152459556278677077:Unit:=()
def PySem.W.Fast.tw16230822902280309547:Unit:=()
def PySem.W.Fast.tw6551791290890670982:Unit:=()
def PySem.W.Fast.tw3659082847368052610:Unit:=()
def PySem.W.Fast.tw1890075664183936444:Unit:=()
def PySem.W.Fast.tw3061166878792105026:Unit:=()
def PySem.W.Fast.tw17169898422920587686:Unit:=()
def PySem.W.Fast.tw17837767428127660850:Unit:=()
def PySem.W.Fast.tw14748690027110133112:Unit:=()
def PySem.W.Fast.tw15006416693260264963:Unit:=()
def PySem.W.Fast.tw10597475079467477456:Unit:=()
def PySem.W.Fast.tw10602291491027797687:Unit:=()
def PySem.W.Fast.tw9126136923511859062:Unit:=()
def PySem.W.Fast.tw11663334203382691956:Unit:=()
def PySem.W.Fast.tw4039772233770535645:Unit:=()
def PySem.W.Fast.tw15910430911784058006:Unit:=()
def PySem.W.Fast.tw4281272105305536435:Unit:=()
def PySem.W.Fast.tw2296382882929315999:Unit:=()
def PySem.W.Fast.tw2315602462099399039:Unit:=()
def PySem.W.Fast.tw6110206465604799907:Unit:=()
def PySem.W.Fast.tw12543650649743951021:Unit:=()
def PySem.W.Fast.tw11765365511648102727:Unit:=()
def PySem.W.Fast.tw11310698918364019826:Unit:=()
def PySem.W.Fast.tw1736412287724857339:Unit:=()
def PySem.W.Fast.tw10305432255773792824:Unit:=()
def PySem.W.Fast.tw18434154835302126559:Unit:=()
def PySem.W.Fast.tw14770831642101274044:Unit:=()
def PySem.W.Fast.tw17416828632767633238:Unit:=()
def PySem.W.Fast.tw11705732637139687511:Unit:=()
def PySem.W.Fast.tw13615518370159359738:Unit:=()
def PySem.W.Fast.tw16853414329061797526:Unit:=()
def PySem.W.Fast.tw5245178359457866503:Unit:=()
def PySem.W.Fast.tw8978070231277746584:Unit:=()
def PySem.W.Fast.tw10146710778019188696:Unit:=()
def PySem.W.Fast.tw7374463684275052384:Unit:=()
def PySem.W.Fast.tw16098125676512533586:Unit:=()
def PySem.W.Fast.tw7109309994042409764:Unit:=()
def PySem.W.Fast.tw5287062311932044784:Unit:=()
def PySem.W.Fast.tw8236667429869098345:Unit:=()
def PySem.W.Fast.tw12905686636944064010:Unit:=()
def PySem.W.Fast.tw3731158092746274614:Unit:=()
def PySem.W.Fast.tw14490237438898531708:Unit:=()
def PySem.W.Fast.tw10263604805063248281:Unit:=()
def PySem.W.Fast.tw18394569472570022451:Unit:=()
def PySem.W.Fast.tw9439726619366024098:Unit:=()
def PySem.W.Fast.tw14894527037538645958:Unit:=()
def PySem.W.Fast.tw16582356015360659670:Unit:=()
def PySem.W.Fast.tw1235521145451821722:Unit:=()
def PySem.W.Fast.tw10226284443565211735:Unit:=()
def PySem.W.Fast.tw13516219676966498412:Unit:=()
def PySem.W.Fast.tw237494311242153702:Unit:=()
def PySem.W.Fast.tw18348442642185576505:Unit:=()
def PySem.W.Fast.tw1995204448778986727:Unit:=()
def PySem.W.Fast.tw17477091455001430779:Unit:=()
def PySem.W.Fast.tw12110556849952748558:Unit:=()
def PySem.W.Fast.tw10762582708819212436:Unit:=()
def PySem.W.Fast.tw12278369422903795915:Unit:=()
def PySem.W.Fast.tw13219588088074447339:Unit:=()
def PySem.W.Fast.tw8916466394206004124:Unit:=()
def PySem.W.Fast.tw4992250262141643606:Unit:=()
def PySem.W.Fast.tw4318400105132424063:Unit:=()
def PySem.W.Fast.tw17493026258507702813:Unit:=()
def PySem.W.Fast.tw6645321085128695211:Unit:=()
def PySem.W.Fast.tw16228787200131775886:Unit:=()
def PySem.W.Fast.tw10643658035514419911:PySem.Program:=PySem.Challenge.pw_chalkcave_k28_what_is_no_cave
theorem PySem.W.Fast.te10643658035514419911:PySem.Challenge.pw_chalkcave_k28_what_is_no_cave=PySem.W.Fast.tw10643658035514419911:=rfl
open PySem PySem.W PyProof.Rows
set_option maxRecDepth 100000 in
set_option maxHeartbeats 0 in
theorem PySem.Challenge.cw_chalkcave_k28_what_is_no_cave_holds : PySem.Challenge.rw_chalkcave_k28_what_is_no_cave.Holds := by
 w_on;o_law;k_head;(case hw=>w_witness2)
 k_fill
 refine My.walk (l:=PySem.Challenge.rw_chalkcave_k28_what_is_no_cave) rfl rfl (fun w h Y=>PySem.W.kIn_of Y) ?F
 case F=>
  intro w mg fa h KX G hmg
  refine' My.all_mk KX G hmg ?_ ?_ ?_ ?_ ?_ ?_ ?_ ?_ ?_ ?_ ?_ ?_ ?_ ?_ ?_ ?_ ?_ ?_ ?_ ?_ ?_ ?_ ?_ ?_ ?_ ?_ ?_ ?_ ?_ ?_ ?_ ?_ ?_ ?_ ?aChart ?_ ?_ ?_ ?_ ?_ ?_ ?_ ?_ ?_ ?aCave ?_ ?_ ?_ ?_ ?_ ?_ ?_ ?_ ?_ ?_ ?_ ?_ ?_ ?_ ?_ ?_ ?_ ?_ ?_ ?_ ?_ ?_ ?_ ?_ ?aNoKind ?aNoWay ?aNoMark ?aNoEntry ?aNoHold ?aNoChamber ?aNoChart ?aNoCave ?aNoHome ?aBarred ?aFull ?aCaveError ?_ ?_ ?_ ?_ ?kNoCave_NoKind ?kNoCave_NoWay ?kNoCave_NoMark ?kNoCave_NoEntry ?kNoCave_NoHold ?kNoCave_NoChamber ?kNoCave_NoChart ?kNoCave_NoHome ?kNoCave_Barred ?kNoCave_Full ?kvNoCave ?exmNoCave ?_ ?_ ?_ ?_ ?_ ?_ ?_ ?_ ?_ ?_ ?_ ?_ ?_ ?_
  (case aChart=>k_is)
  (case aCave=>k_is)
  (case aNoKind=>k_is)
  (case aNoWay=>k_is)
  (case aNoMark=>k_is)
  (case aNoEntry=>k_is)
  (case aNoHold=>k_is)
  (case aNoChamber=>k_is)
  (case aNoChart=>k_is)
  (case aNoCave=>k_is)
  (case aNoHome=>k_is)
  (case aBarred=>k_is)
  (case aFull=>k_is)
  (case aCaveError=>k_is)
  (case kNoCave_NoKind=>kit_is)
  (case kNoCave_NoWay=>kit_is)
  (case kNoCave_NoMark=>kit_is)
  (case kNoCave_NoEntry=>kit_is)
  (case kNoCave_NoHold=>kit_is)
  (case kNoCave_NoChamber=>kit_is)
  (case kNoCave_NoChart=>kit_is)
  (case kNoCave_NoHome=>kit_is)
  (case kNoCave_Barred=>kit_is)
  (case kNoCave_Full=>kit_is)
  (case kvNoCave=>kit_is)
  (case exmNoCave=>kts_exm)
  all_goals first | (apply L2.fun_mk;k_is;k_is;k_is) | k_is | rfl | skip
