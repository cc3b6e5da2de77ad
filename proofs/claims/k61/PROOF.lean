import PyProof.Rows.All
import Wide.All
import OpenK.AllK
import Wide.FinOn
import Lean
import PyProof.EqAt
import PyProof.EqKinds
import PyProof.TupleCall
import KE.KSortTup
import PyProof.NeKinds
import KE.KIntText
import KE.KRevIter
import PyProof.Rows.Range3
import PyProof.StrLawsTight
import PyProof.DictRoadsH
import PyProof.ZipIter
import KE.LcSums
import KE.KListMore
import KE.KDictList
import KE.KDictLaws
import PyProof.WalksEnum
import PyProof.EnumMake
import PyProof.Rows.EnumRows
import PyProof.DictCompW
import PyProof.Rows.SortKeyStr
import PyProof.Rows.SortWalk
import KE.KMinKey
import PyProof.ListRange
import PyProof.SetKind
import PyProof.Rows.SetFrom
import PyProof.SetRoads
import PyProof.DictWalks
import PyProof.CollectWalk
import PyProof.Rows.SortShell
import PyProof.ReprRoads
import PyProof.SeqI3
import PySem.Challenge.RW_smallword_k61_reasons
set_option Elab.async false
set_option linter.all false
set_option maxRecDepth 100000
set_option maxHeartbeats 8000000
namespace Zz
def wI:=@List.getElem?_eq_getElem
def wJ:=@List.mem_of_getElem?
def wK:=@List.getElem?_eq_some_iff
def wL:=@List.length_map
def wM:=@List.length_append
def wN:=@List.getElem?_map
def wO:=@Nat.le_refl
def wP:=@List.mem_cons_self
def wQ:=@List.mem_cons_of_mem
def wR:=@List.mem_append_right
def wS:=@List.mem_singleton
def wT:=@Option.some.inj
def wU:=@List.size_toArray
def wV:=@List.length_cons
def wW:=@Nat.ne_of_lt
def wX:=@Array.length_toList
def wY:=@List.mem_cons
def wZ:=@List.map_cons
def x3:=@List.length_range
def x4:=@List.mem_append
def x5:=@Option.map_eq_some_iff
def x6:=@List.mem_append_left
def x8:=@List.length_singleton
def x9:=@Bool.false_ne_true
def xa:=@List.getElem?_eq_none
def xb:=@Nat.lt_of_lt_of_le
def xc:=@List.not_mem_nil
def xf:=@List.getElem_of_mem
def xg:=@Array.getElem?_toList
def xh:=@List.length_take
def xi:=@List.map_append
def xj:=@List.mem_range
def xk:=@Nat.lt_or_ge
def xm:=@List.take_add_one
def xo:=@Nat.zero_le
def xp:=@List.getElem?_append_left
def xq:=@List.mem_map
def xr:=@Array.getElem?_eq_getElem
def xt:=@List.take_length
def xu:=@List.getElem?_append_right
def xw:=@Int.ofNat.inj
def xx:=@List.getD_eq_getElem?_getD
def xy:=@Bool.false_eq_true
def xz:=@List.getElem_mem
def xA:=@Int.toNat_natCast
def xB:=@List.mem_flatMap
def xC:=@List.lookup_cons
def xD:=@Bool.and_eq_true
def xE:=@List.length_eq_zero_iff
def xF:=@Option.map_some
def xG:=@Nat.not_lt_zero
def xH:=@List.cons.injEq
def xI:=@Nat.le_trans
def xJ:=@List.mem_iff_getElem?
def xK:=@List.take_of_length_le
def xL:=@List.ext_getElem?
def xM:=@List.find?_cons
def xN:=@List.length_filter_le
def xO:=@List.nodup_nil
def xP:=@Nat.lt_succ_of_lt
def xQ:=@List.nodup_append
def xR:=@List.nodup_cons
def xS:=@List.length_nil
def xT:=@List.all_eq_true
def xU:=@List.pairwise_iff_getElem
def xV:=@List.length_reverse
def xW:=@List.cons_append
def xX:=@Nat.le_of_lt
def xY:=@List.zip_cons_cons
def xZ:=@Array.getD_eq_getD_getElem?
def y9:=@List.append_nil
def ya:=@List.sum_cons
end Zz
open Zz
namespace L2
open PySem PySem.Spec PyProof.Rows
abbrev Key:=Sum Int Str
noncomputable def eS:Key→Value→Bool
 | .inl k,v=>Value.isInt k v
 | .inr x,v=>Value.isStrOf x v
noncomputable def keyH (w:World):Key→Int
 | .inl k=>hashInt k
 | .inr x=>hashStr w x
theorem ay:∀ {k:Key} {v:Value},eS k v=true→(∃i t,k=Sum.inl i∧v=Value.int i t)∨(∃x t,k=Sum.inr x∧v=Value.str x t)
 | .inl i,v,h=>by
  obtain ⟨t,e⟩:=Value.isInt_shape (k:=i) (v:=v) h
  exact .inl ⟨i,t,rfl,e⟩
 | .inr x,v,h=>by
  obtain ⟨t,e⟩:=Value.isStrOf_shape (x:=x) (v:=v) h
  exact .inr ⟨x,t,rfl,e⟩
theorem hV (i:Int) (t:Tok):eS (.inl i) (.int i t)=true:=by simp [eS,Value.isInt]
theorem hJ (x:Str) (t:Tok):eS (.inr x) (.str x t)=true:=by simp [eS,Value.isStrOf]
theorem vm (a b:Int):decide ((Sum.inl a:Key)=Sum.inl b)=(a==b):=by
 by_cases e:a=b
 · subst e;simp
 · have h:¬(Sum.inl a:Key)=Sum.inl b:=fun q=>e (Sum.inl.inj q)
   rw [decide_eq_false h]
   exact (beq_eq_false_iff_ne.mpr e).symm
theorem vg (a b:Str):decide ((Sum.inr a:Key)=Sum.inr b)=decide (a=b):=by
 by_cases e:a=b
 · subst e;simp
 · have h:¬(Sum.inr a:Key)=Sum.inr b:=fun q=>e (Sum.inr.inj q)
   rw [decide_eq_false h,decide_eq_false e]
theorem vk (a:Int) (b:Str):decide ((Sum.inl a:Key)=Sum.inr b)=false:=decide_eq_false (fun q=>nomatch q)
theorem vh (a:Str) (b:Int):decide ((Sum.inr a:Key)=Sum.inl b)=false:=decide_eq_false (fun q=>nomatch q)
noncomputable def aE (prog:Program) (w:World):PySem.KeyKind prog w Key where
 is:=eS
 hash:=keyH w
 inj:=fun v a b ha hb=>by
  rcases ay ha with ⟨i,t,rfl,rfl⟩|⟨x,t,rfl,rfl⟩
  · rcases ay hb with ⟨j,u,rfl,e⟩|⟨y,u,rfl,e⟩
    · injection e with e1 _;rw [e1]
    · exact nomatch e
  · rcases ay hb with ⟨j,u,rfl,e⟩|⟨y,u,rfl,e⟩
    · exact nomatch e
    · injection e with e1 _;rw [e1]
 byValue:=fun k v h=>by
  rcases ay h with ⟨i,t,rfl,rfl⟩|⟨x,t,rfl,rfl⟩<;>rfl
 pyHash:=fun hv h=>by
  rcases ay hv with ⟨i,t,rfl,rfl⟩|⟨x,t,rfl,rfl⟩
  · exact wpAny_pyHash_int h
  · exact wpAny_pyHash_str h
 eqBool:=fun hu hv h=>by
  rcases ay hu with ⟨i,t,rfl,rfl⟩|⟨x,t,rfl,rfl⟩
  · rcases ay hv with ⟨j,u,rfl,rfl⟩|⟨y,u,rfl,rfl⟩
    · rw [vm] at h;exact wpAny_eqBool_int h
    · rw [vk] at h;exact SeqAt.EqAt.int_str i t y u _ _ _ _ h
  · rcases ay hv with ⟨j,u,rfl,rfl⟩|⟨y,u,rfl,rfl⟩
    · rw [vh] at h;exact SeqAt.EqAt.str_int x t j u _ _ _ _ h
    · rw [vg] at h;exact wpAny_eqBool_str h
 «strs»:=fun k x t v h=>by
  rcases ay h with ⟨i,u,rfl,e⟩|⟨y,u,rfl,e⟩
  · exact nomatch e
  · injection e with e1 _
    subst e1
    cases v<;>rfl
theorem jk (prog:Program) (w:World) (i:Int) (t:Tok):(aE prog w).is (.inl i) (.int i t)=true:=hV i t
theorem ji (prog:Program) (w:World) (x:Str) (t:Tok):(aE prog w).is (.inr x) (.str x t)=true:=hJ x t
open PySem PySem.Spec PyProof.Rows
inductive V where
 |non|bl (b:Bool)|int (i:Int)|str (x:Str)|byt (b:Array UInt8)|flt (b:UInt64)|ref (a:Addr)|ty (n:String)
 deriving DecidableEq
def RelV:V→Value→Prop
 | .non,u=>u=Value.none
 | .bl b,u=>u=Value.bool b
 | .int i,u=>∃t,u=Value.int i t
 | .str x,u=>∃t,u=Value.str x t
 | .byt b,u=>∃t,u=Value.bytes b t
 | .flt b,u=>∃t,u=Value.float b t
 | .ref a,u=>u=Value.ref a
 | .ty n,u=>u=Value.type n
abbrev Vals:List V→List Value→Prop:=Paired RelV
theorem Vals.length {xs:List V} {us:List Value} (r:Vals xs us):xs.length=us.length:=Paired.length r
theorem Vals.get:∀ {xs:List V} {us:List Value} {i:Nat} {x:V},Vals xs us→xs[i]?=some x→∃u,us[i]?=some u∧RelV x u
 |_,_,_,_, .nil,e=>by simp at e
 |_,_,0,_, .cons r _,e=>by simp at e;subst e;exact ⟨_,rfl,r⟩
 |_,_,i+1,x, .cons _ t,e=>by
  obtain ⟨u,h1,h2⟩:=Vals.get (i:=i) (x:=x) t (by simpa using e)
  exact ⟨u,by simpa using h1,h2⟩
theorem Vals.set {x:V} {u:Value} (r:RelV x u):∀ {xs:List V} {us:List Value} (i:Nat),Vals xs us→Vals (xs.set i x) (us.set i u)
 |_,_,_, .nil=> .nil
 |_,_,0, .cons _ t=> .cons r t
 |_,_,i+1, .cons q t=> .cons q (Vals.set r i t)
theorem Vals.append:∀ {xs ys:List V} {us ws:List Value},Vals xs us→Vals ys ws→Vals (xs++ys) (us++ws)
 |_,_,_,_, .nil,s=>s
 |_,_,_,_, .cons r t,s=> .cons r (Vals.append t s)
theorem Vals.take:∀ {xs:List V} {us:List Value} (n:Nat),Vals xs us→Vals (xs.take n) (us.take n)
 |_,_,0,_=> .nil
 |_,_,_+1, .nil=> .nil
 |_,_,n+1, .cons r t=> .cons r (Vals.take n t)
theorem Vals.drop:∀ {xs:List V} {us:List Value} (n:Nat),Vals xs us→Vals (xs.drop n) (us.drop n)
 |_,_,0,r=>r
 |_,_,_+1, .nil=> .nil
 |_,_,n+1, .cons _ t=>Vals.drop n t
def RelO:Option V→Option Value→Prop
 |some v,some u=>RelV v u
 |none,none=>True
 |_,_=>False
def KV {κ:Type}:List (κ×V)→List (κ×Value)→Prop:=Paired fun (p:κ×V) (q:κ×Value)=>p.1=q.1∧RelV p.2 q.2
def kV:Key→V
 | .inl i=> .int i
 | .inr x=> .str x
inductive HO where
 |lst (xs:List V)
 |tup (xs:List V)
 |dK (kvs:List (Key×V))|dT (kvs:List (List Key×V))
 |set (S:Int→Bool) (n:Nat)
 |ins (C dx:Addr) (fs:List (Str×V))
 |own (x:Addr)
 |xd (fs:List (Str×V))
 |met (f x:Addr)
 |rng (lo hi:Int)
 |frz (o:Obj) (u:HO)
 |tbl (ps:Array Value)
 |ext (φ:Heap→Prop)
abbrev Hp:=Addr→Option HO
noncomputable def upd (H:Hp) (a:Addr) (o:HO):Hp:=fun b=>if b=a then some o else H b
theorem a9 {H:Hp} {a:Addr} {o:HO}:upd H a o a=some o:=by unfold upd;rw [if_pos rfl]
theorem af {H:Hp} {a b:Addr} {o:HO} (h:b≠a):upd H a o b=H b:=by unfold upd;rw [if_neg h]
theorem tH {H:Hp} {a b:Addr} {o u:HO} (h:H a=some o) (h':H b=some u) (d:o≠u):a≠b:=by
 intro e;subst e;rw [h] at h';exact d (wT h')
theorem ar {H:Hp} {a b:Addr} {o:HO} (h:H a=some o) (h':H b=none):a≠b:=by
 intro e;subst e;rw [h] at h';cases h'
section
variable (P:Program) (w:World)
def ObjOk (H:Hp) (h:Heap) (a:Addr):HO→Prop
 | .lst xs=>xs.length≤sizeLine∧∃(its:List Value) (n:Nat),Vals xs its∧h.get? a=some {cls:= .type "list",data:= .seq its.toArray n}
 | .tup xs=>xs.length≤sizeLine∧∃its:List Value,Vals xs its∧IsTup h a its.toArray
 | .dK kvs=>kvs.length≤sizeLine∧(a==sysModules)=false∧∃vs,KV kvs vs∧h.DictOf (aE P w) a vs
 | .dT kvs=>kvs.length≤sizeLine∧(a==sysModules)=false∧∃xs:List (List Key×Addr×Value),
  Paired (fun (p:List Key×V) (q:List Key×Addr×Value)=>p.1=q.1∧H q.2.1=some (.tup (p.1.map kV))∧RelV p.2 q.2.2) kvs xs∧
  ∃o es ep,h.get? a=some o∧o.ExactDict∧o.data= .dict es ep∧es.toList=xs.map (entryOfKey (tupleKind (aE P w)))∧(xs.map (·.1)).Nodup
 | .set S n=>h.SetOf (intKind P w) a S n
 | .ins C dx fs=>H dx=some (.own a)∧fs.length≤1000∧dx≠a∧h.get? a=some (PySem.W.instObj C dx)∧
  ∃mA,h.Ns1 dx mA∧(∀f,RelO (fs.lookup f) (mA f))∧PySem.Within mA (fs.map (·.1))
 | .own _=>∃o,h.get? a=some o
 | .xd fs=>∃mA,h.Ns1 a mA∧∀f,RelO (fs.lookup f) (mA f)
 | .rng lo hi=>∃t u v,h.get? a=some {cls:= .type "range",data:= .fields #[.int lo t, .int hi u, .int 1 v]}
 | .frz o u=>h.get? a=some o∧ObjOk H h a u
 | .tbl ps=>h.get? a=some {cls:= .none,data:= .fields ps}
 | .met f x=>h.get? a=some (PySem.W.methodObj (.ref f) (.ref x))
 | .ext φ=>φ h∧(∃o,h.get? a=some o)∧∀h1 h2:Heap,φ h1→(∀o,h1.get? a=some o→h2.get? a=some o)→φ h2
def HOk (H:Hp) (h:Heap):Prop:=∀a o,H a=some o→ObjOk P w H h a o
end
section
variable {P:Program} {w:World} {H H':Hp} {h h':Heap} {a:Addr} {o:HO}
theorem ObjOk.lt (x:ObjOk P w H h a o):a < h.objs.size:=by
 cases o with
 |lst xs=>obtain ⟨_,_,_,_,e⟩:=x;exact Heap.lt_size e
 |tup xs=>obtain ⟨_,_,_,p⟩:=x;exact p.lt
 |dK kvs=>obtain ⟨_,_,_,_,o,_,_,e,_⟩:=x;exact Heap.lt_size e
 |dT kvs=>obtain ⟨_,_,_,_,o,_,_,e,_⟩:=x;exact Heap.lt_size e
 |set S n=>obtain ⟨o,_,_,_,e,_⟩:=x;exact Heap.lt_size e
 |ins C dx fs=>obtain ⟨_,_,_,e,_⟩:=x;exact Heap.lt_size e
 |own y=>obtain ⟨_,e⟩:=x;exact Heap.lt_size e
 |xd fs=>obtain ⟨_,⟨_,_,_,e,_⟩,_⟩:=x;exact Heap.lt_size e
 |rng lo hi=>obtain ⟨_,_,_,e⟩:=x;exact Heap.lt_size e
 |frz ob u=>obtain ⟨e,_⟩:=x;exact Heap.lt_size e
 |tbl ps=>exact Heap.lt_size (show h.get? a=some _ from x)
 |met f y=>exact Heap.lt_size (show h.get? a=some _ from x)
 |ext φ=>obtain ⟨_,⟨_,e⟩,_⟩:=x;exact Heap.lt_size e
theorem Paired.mapP {α β:Type} {F G:α→β→Prop}:∀ {l₁:List α} {l₂:List β},Paired F l₁ l₂→(∀a b,F a b→G a b)→Paired G l₁ l₂
 |_,_, .nil,_=> .nil
 |_,_, .cons r t,f=> .cons (f _ _ r) (Paired.mapP t f)
theorem Paired.imp' {α β:Type} {F G:α→β→Prop} (f:∀a b,F a b→G a b) {l₁:List α} {l₂:List β} (r:Paired F l₁ l₂):Paired G l₁ l₂:=Paired.mapP r f
theorem ObjOk.stay (x:ObjOk P w H h a o) (k:∀b u,(b=a∨H b=some (.own a))→h.get? b=some u→h'.get? b=some u)
 (ho:∀b,H b=some (.own a)→H' b=some (.own a)) (ht:∀b xs,H b=some (.tup xs)→H' b=some (.tup xs)):ObjOk P w H' h' a o:=by
 induction o with
 |lst xs=>obtain ⟨z,its,n,r,e⟩:=x;exact ⟨z,its,n,r,k _ _ (.inl rfl) e⟩
 |tup xs=>obtain ⟨z,its,r,ob,e,c⟩:=x;exact ⟨z,its,r,ob,k _ _ (.inl rfl) e,c⟩
 |dK kvs=>obtain ⟨z,y,vs,r,ob,es,ep,e,c⟩:=x;exact ⟨z,y,vs,r,ob,es,ep,k _ _ (.inl rfl) e,c⟩
 |dT kvs=>
  obtain ⟨z,y,xs,r,ob,es,ep,e,c⟩:=x
  exact ⟨z,y,xs,Paired.mapP r fun p q z=>⟨z.1,ht _ _ z.2.1,z.2.2⟩,ob,es,ep,k _ _ (.inl rfl) e,c⟩
 |set S n=>obtain ⟨ob,es,ep,t,e,c⟩:=x;exact ⟨ob,es,ep,t,k _ _ (.inl rfl) e,c⟩
 |ins C dx fs=>
  obtain ⟨d,z,ne,e,mA,⟨od,es,ep,e2,c⟩,r⟩:=x
  exact ⟨ho _ d,z,ne,k _ _ (.inl rfl) e,mA,⟨od,es,ep,k _ _ (.inr d) e2,c⟩,r⟩
 |own y=>obtain ⟨ob,e⟩:=x;exact ⟨ob,k _ _ (.inl rfl) e⟩
 |xd fs=>obtain ⟨mA,⟨od,es,ep,e,c⟩,r⟩:=x;exact ⟨mA,⟨od,es,ep,k _ _ (.inl rfl) e,c⟩,r⟩
 |rng lo hi=>obtain ⟨t,u,v,e⟩:=x;exact ⟨t,u,v,k _ _ (.inl rfl) e⟩
 |frz ob u ih=>obtain ⟨e,q⟩:=x;exact ⟨k _ _ (.inl rfl) e,ih q⟩
 |tbl ps=>
  have e:h.get? a=some {cls:= .none,data:= .fields ps}:=x
  show h'.get? a=some {cls:= .none,data:= .fields ps}
  exact k a _ (.inl rfl) e
 |met f y=>
  have e:h.get? a=some (PySem.W.methodObj (.ref f) (.ref y)):=x
  show h'.get? a=some (PySem.W.methodObj (.ref f) (.ref y))
  exact k a _ (.inl rfl) e
 |ext φ=>obtain ⟨p,⟨o,e⟩,st⟩:=x;exact ⟨st _ _ p fun o q=>k _ _ (.inl rfl) q,⟨o,k _ _ (.inl rfl) e⟩,st⟩
theorem HOk.lt (x:HOk P w H h) (e:H a=some o):a < h.objs.size:=(x a o e).lt
theorem HOk.fresh (x:HOk P w H h) (e:h.objs.size≤a):H a=none:=by
 cases q:H a with
 |none=>rfl
 |some u=>exact absurd (xb (x.lt q) e) (Nat.lt_irrefl _)
theorem HOk.kept (x:HOk P w H h) (k:∀b u,h.get? b=some u→h'.get? b=some u):HOk P w H h':=fun a o e=>
 (x a o e).stay (fun b u _ q=>k b u q) (fun _ q=>q) fun _ _ q=>q
theorem HOk.laid (x:HOk P w H h) (k:∀b u,h.get? b=some u→h'.get? b=some u) (hp:h.objs.size≤a) (new:ObjOk P w (upd H a o) h' a o):HOk P w (upd H a o) h':=fun b u e=>by
 have hn:=x.fresh hp
 by_cases hb:b=a
 · subst hb;rw [a9] at e;cases e;exact new
 · rw [af hb] at e
   exact (x b u e).stay (fun c v _ q=>k c v q) (fun c q=>by rw [af (ar q hn)];exact q) fun c xs q=>by rw [af (ar q hn)];exact q
end
def Rd (H:Hp) (a:Addr) (u:HO):Prop:=H a=some u∨∃o,H a=some (.frz o u)
theorem Rd.ok {P:Program} {w:World} {H:Hp} {h:Heap} {a:Addr} {u:HO} (r:Rd H a u) (x:HOk P w H h):ObjOk P w H h a u:=by
 rcases r with r|⟨o,r⟩
 · exact x a u r
 · obtain ⟨_,q⟩:=x a _ r
   exact q
def Mut:Option HO→Prop
 |some (.lst _)=>True
 |some (.dK _)=>True
 |some (.dT _)=>True
 |some (.set _ _)=>True
 |some (.ins _ _ _)=>True
 |some (.ext _)=>True
 |_=>False
section
variable {P:Program} {w:World} {H:Hp} {h h':Heap} {x e:Addr} {o':HO}
theorem HOk.write (ok:HOk P w H h) (mu:Mut (H x)) (he:e=x∨H e=some (.own x)) (k:∀b u,b≠e→h.get? b=some u→h'.get? b=some u) (heo:∃u,h'.get? e=some u)
 (new:ObjOk P w (upd H x o') h' x o'):HOk P w (upd H x o') h':=fun b u q=>by
 have nown:∀c y,H c=some (.own y)→c≠x:=fun c y r z=>by subst z;rw [r] at mu;exact mu
 have ntup:∀c xs,H c=some (.tup xs)→c≠x:=fun c xs r z=>by subst z;rw [r] at mu;exact mu
 by_cases hb:b=x
 · subst hb;rw [a9] at q;cases q;exact new
 · rw [af hb] at q
   by_cases hbe:b=e
   · have q':H b=some (.own x):=by
      rcases he with z|z
      · exact absurd (hbe.trans z) hb
      · rw [hbe];exact z
     rw [q] at q';cases q'
     obtain ⟨v,hv⟩:=heo
     exact ⟨v,by rw [hbe];exact hv⟩
   · refine (ok b u q).stay (fun c v hc r=>k c v ?_ r) (fun c r=>by rw [af (nown c b r)];exact r) fun c xs r=>by rw [af (ntup c xs r)];exact r
     rcases hc with rfl|hc
     · exact hbe
     · rintro rfl
       rcases he with z|z
       · exact nown c b hc z
       · rw [hc] at z;cases z;exact hb rfl
end
structure Un (fs ex:List Addr) (H H':Hp) (h h':Heap):Prop where
 keep:∀b o,h.get? b=some o→H b=none→b∉fs→b∉ex→h'.get? b=some o
 slot:∀b o,h.get? b=some o→H b=none→b∈fs→b∉ex→∃sl,h'.get? b=some {o with slots:=sl}
 free:∀b o,h.get? b=some o→H b=none→b∉ex→H' b=none
 there:∀b o,h.get? b=some o→b∉ex→∃o',h'.get? b=some o'
 tups:∀b xs,H b=some (.tup xs)→H' b=some (.tup xs)
 frzs:∀b o u,H b=some (.frz o u)→H' b=some (.frz o u)
 tbls:∀b ps,H b=some (.tbl ps)→∃more,H' b=some (.tbl (ps++more))
section
variable {fs fs' ex ex':List Addr} {H H1 H2:Hp} {h h1 h2 h':Heap} {a x e:Addr} {o:HO}
theorem Un.any (u:Un fs ex H H1 h h1) {b:Addr} {ob:Obj} (q:h.get? b=some ob) (n:H b=none) (hx:b∉ex):∃sl,h1.get? b=some {ob with slots:=sl}:=by
 by_cases hb:b∈fs
 · exact u.slot b ob q n hb hx
 · exact ⟨ob.slots,u.keep b ob q n hb hx⟩
theorem Un.kept (k:∀b u,h.get? b=some u→h'.get? b=some u):Un fs ex H H h h':=
 ⟨fun b ob q _ _ _=>k b ob q,fun b ob q _ _ _=>⟨ob.slots,k b ob q⟩,fun _ _ _ n _=>n,fun b ob q _=>⟨ob,k b ob q⟩,fun _ _ q=>q,fun _ _ _ q=>q,fun _ ps q=>⟨#[],by rw [q];simp⟩⟩
theorem Un.refl:Un fs ex H H h h:=Un.kept fun _ _ q=>q
theorem Un.laid (k:∀b u,h.get? b=some u→h'.get? b=some u) (hp:h.objs.size≤a) (hn:H a=none):Un fs ex H (upd H a o) h h' where
 keep:=fun b u q _ _ _=>k b u q
 slot:=fun b u q _ _ _=>⟨u.slots,k b u q⟩
 free:=fun b u q n _=>by rw [af (wW (xb (Heap.lt_size q) hp))];exact n
 there:=fun b u q _=>⟨u,k b u q⟩
 tups:=fun b xs q=>by rw [af (ar q hn)];exact q
 frzs:=fun b u xs q=>by rw [af (ar q hn)];exact q
 tbls:=fun b ps q=>⟨#[],by rw [af (ar q hn),q];simp⟩
theorem Un.write (mu:Mut (H x)) (he:e=x∨H e=some (.own x)) (k:∀b u,b≠e→h.get? b=some u→h'.get? b=some u) (heo:∃u,h'.get? e=some u):Un fs ex H (upd H x o) h h':=by
 have hx:∀b,H b=none→b≠x:=fun b n z=>by subst z;rw [n] at mu;exact mu
 have hb:∀b,H b=none→b≠e:=fun b n z=>by
  subst z
  rcases he with r|r
  · exact hx b n r
  · rw [n] at r;cases r
 have hm:∀b u,H b=some u→¬Mut (some u)→b≠x:=fun b u q nm z=>by subst z;rw [q] at mu;exact nm mu
 refine ⟨fun b u q n _ _=>k b u (hb b n) q,fun b u q n _ _=>⟨u.slots,k b u (hb b n) q⟩,fun b u q n _=>by rw [af (hx b n)];exact n,fun b u q _=> ?_,
  fun b xs q=>by rw [af (hm b _ q fun z=>z)];exact q,fun b u xs q=>by rw [af (hm b _ q fun z=>z)];exact q,fun b ps q=>⟨#[],by rw [af (hm b _ q fun z=>z),q];simp⟩⟩
 by_cases hbe:b=e
 · subst hbe;exact heo
 · exact ⟨u,k b u hbe q⟩
end
noncomputable def trk (h:Heap) (H:Hp):List Addr:=(List.range h.objs.size).filter fun a=>(H a).isSome
noncomputable def hidT (h:Heap) (H:Hp):Heap:=PySem.W.hideAll h (trk h H)
theorem nI (h:Heap) (H:Hp):(hidT h H).objs.size=h.objs.size:=PySem.W.hideAll_size _ _
theorem pZ {h:Heap} {H:Hp} {b:Addr} {o:Obj} (e:h.get? b=some o) (n:H b=none):(hidT h H).get? b=some o:=
 PySem.W.hideAll_get _ e fun hm=>by
  have q:(H b).isSome=true:=(List.mem_filter.mp hm).2
  rw [n] at q;simp at q
theorem rM {h:Heap} {H:Hp} {b:Addr} {o:Obj} (e:(hidT h H).get? b=some o):h.get? b=some o∧H b=none:=by
 have e':h.get? b=some o:=PySem.W.of_hideAll (trk h H) e
 refine ⟨e',?_⟩
 cases q:H b with
 |none=>rfl
 |some x=>
  have hm:b∈trk h H:=List.mem_filter.mpr ⟨xj.mpr (Heap.lt_size e'),by simp [q]⟩
  have z:(hidT h H).get? b=none:=PySem.W.hideAll_none (trk h H) hm
  rw [z] at e;cases e
noncomputable def sW (g h:Heap) (L:Addr):List (Addr×Obj):=(List.range h.objs.size).filterMap fun a=>if a=L∨(g.get? a).isSome=true then none else (h.get? a).map fun o=>(a,o)
noncomputable def rest (g h:Heap) (L d:Addr):List (Addr×Obj):=(sW g h L).filter fun p=>decide (p.1≠d)
open PySem PySem.Spec PyProof.Rows
structure Mod (K:PySem.W.Frag) (mg:Str→Option Value) (base:Heap):Prop where
 kin:K.In base
 glob:base.Ns mainGlobals mg
 blt:∃mb,base.Ns builtinsNs mb∧∀x:Str,x≠"__name__"→mb x=bootBuiltins x
 nolimit:base.NoLimit
structure Cx where
 prog:Program
 w:World
 K:PySem.W.Frag
 mg:Str→Option Value
 base:Heap
 A:Around
 N:List Str
 s₀:Shared
 H₀:Hp
 env:Env
 outer:List Env
 stack:List Env
 ex:List Addr
 fn:Str→Bool
 calm:Bool
 pn:List (Addr×Obj)
 xe:Value→Shared→Prop
def frs (l:List Env):List Addr:=l.filterMap (·.frame)
abbrev Cx.fs (X:Cx):List Addr:=frs X.outer
def Vis (sc:Scope) (x:Str):Prop:=sc.names.lookup x=some .local∨sc.names.lookup x=some .cell∨sc.names.lookup x=some .free
def Loc (sc:Scope) (x:Str):Prop:=sc.names.lookup x=some .local∨sc.names.lookup x=some .cell
def Look (env:Env) (h:Heap) (m:Str→Option Value) (x:Str) (u:Value):Prop:=
 (env.kindOf x=some .local∧m x=some u)∨((env.kindOf x=some .cell∨env.kindOf x=some .free)∧∃c,env.cells.lookup x=some c∧h.IsCell c (some u))
structure Cx.Ok (X:Cx):Prop where
 mod:Mod X.K X.mg X.base
 kind:X.env.scope.kind= .function
 glob:X.env.globals=mainGlobals
 blt:X.env.builtins=builtinsNs
 above:X.s₀.heap.objs.size≤X.env.locals
 inj:∀x y c,X.env.cells.lookup x=some c→X.env.cells.lookup y=some c→x=y
 has:∀x,(X.env.kindOf x=some .cell∨X.env.kindOf x=some .free)→∃c,X.env.cells.lookup x=some c
 cab:∀x c,X.fn x=true→X.env.cells.lookup x=some c→X.s₀.heap.objs.size≤c
 hd:X.calm=true→X.A.handled=none
 frames:X.A.frames=some X.stack
 stk:X.stack=X.outer∨(X.stack=X.env::X.outer∧X.env.frame=some X.env.locals)
 exf:∀b∈X.ex,b≠X.env.locals∧∀x c,X.env.cells.lookup x=some c→c≠b
 bs:∀b o,X.base.get? b=some o→X.s₀.heap.get? b=some o∧X.H₀ b=none
 bsz:X.base.objs.size≤X.s₀.heap.objs.size
 noex:∀b o,X.base.get? b=some o→b∉X.ex
 exfs:∀b∈X.ex,b∉X.fs
 funs:X.s₀.heap.FunFrames X.base X.outer
 frf:∀b∈X.fs,X.H₀ b=none
structure Inv (X:Cx) (pins:List (Addr×Obj)) (σ:List (Option V)) (H:Hp) (s:Shared):Prop where
 ok:X.Ok
 os:s.os=X.s₀.os
 bare:AllBare s.gens
 base:Un X.fs X.ex X.H₀ H X.s₀.heap s.heap
 loc:∃m,s.heap.Ns X.env.locals m∧∀(i:Nat) (x:Str) (v:V),X.N[i]?=some x→σ[i]?=some (some v)→Vis X.env.scope x→∃u,RelV v u∧Look X.env s.heap m x u
 cell:∀x c,X.env.cells.lookup x=some c→∃v,s.heap.IsCell c v
 free:H X.env.locals=none
 freeC:∀x c,X.env.cells.lookup x=some c→H c=none
 pin:∀p∈X.pn++pins,s.heap.get? p.1=some p.2∧H p.1=none∧p.1≠X.env.locals∧p.1∉X.fs∧∀v,p.2.data≠ .cell v
 hok:HOk X.prog X.w H s.heap
 len:σ.length=X.N.length
section
variable {X:Cx} {pins:List (Addr×Obj)} {σ:List (Option V)} {H H':Hp} {s:Shared} {h':Heap}
theorem Cx.Ok.nofr (ok:X.Ok) {b:Addr} {o:Obj} (e:X.base.get? b=some o):b∉X.fs:=fun hb=>by
 have:=(ok.funs.mem hb).1
 rw [e] at this;cases this
theorem Inv.bs (I:Inv X pins σ H s):∀b o,X.base.get? b=some o→s.heap.get? b=some o∧H b=none:=fun b o e=>
 ⟨I.base.keep b o (I.ok.bs b o e).1 (I.ok.bs b o e).2 (I.ok.nofr e) (I.ok.noex b o e),I.base.free b o (I.ok.bs b o e).1 (I.ok.bs b o e).2 (I.ok.noex b o e)⟩
theorem Inv.bk (I:Inv X pins σ H s):∀b o,X.base.get? b=some o→s.heap.get? b=some o:=fun b o e=>(I.bs b o e).1
theorem Inv.mod (I:Inv X pins σ H s):Mod X.K X.mg X.base:=I.ok.mod
theorem Inv.kIn (I:Inv X pins σ H s):X.K.In s.heap:=I.ok.mod.kin.keeps I.bk
theorem Inv.fr (I:Inv X pins σ H s):∃m,Fr X.base X.env.locals s.heap m:=
 let ⟨m,hn,_⟩:=I.loc
 ⟨m,hn,I.bk,xI I.ok.bsz I.ok.above⟩
theorem Inv.lt (I:Inv X pins σ H s):X.env.locals < s.heap.objs.size:=let ⟨_,hn,_⟩:=I.loc;hn.lt
theorem Inv.sz (I:Inv X pins σ H s):X.s₀.heap.objs.size≤s.heap.objs.size:=xI I.ok.above (xX I.lt)
theorem Inv.nofs (I:Inv X pins σ H s) {a:Addr} (h:s.heap.objs.size≤a):a∉X.fs:=fun hb=>by
 obtain ⟨_,o,ho,_⟩:=I.ok.funs.mem hb
 exact absurd (xb (Heap.lt_size ho) (xI I.sz h)) (Nat.lt_irrefl _)
theorem Inv.cne (I:Inv X pins σ H s):∀x c,X.env.cells.lookup x=some c→c≠X.env.locals:=fun x c e z=>by
 obtain ⟨v,o,ho,hd⟩:=I.cell x c e
 obtain ⟨m,⟨o',es,ep,ho',hd',_⟩,_⟩:=I.loc
 rw [z,ho'] at ho;cases ho;rw [hd'] at hd;cases hd
theorem Inv.funs (I:Inv X pins σ H s):s.heap.FunFrames X.base X.outer:=by
 have all:∀(l:List Env),(∀b∈frs l,b∈X.fs)→X.s₀.heap.FunFrames X.base l→s.heap.FunFrames X.base l:=by
  intro l
  induction l with
  |nil=>intro _ _;trivial
  |cons env r ih=>
   intro hs hl
   obtain ⟨hk,⟨L,o,hf,hn,ho,hd⟩,hr⟩:=hl
   have hL:L∈X.fs:=hs L (by unfold frs;rw [List.filterMap_cons,hf];exact wP)
   obtain ⟨sl,e⟩:=I.base.slot L o ho (I.ok.frf L hL) hL fun z=>I.ok.exfs L z hL
   exact ⟨hk,⟨L,_,hf,hn,e,hd⟩,ih (fun b hb=>hs b (by unfold frs;rw [List.filterMap_cons,hf];exact wQ _ hb)) hr⟩
 exact all X.outer (fun _ hb=>hb) I.ok.funs
theorem Inv.stack (I:Inv X pins σ H s):s.heap.FunFrames X.base X.stack:=by
 rcases I.ok.stk with e|⟨e,hf⟩
 · rw [e];exact I.funs
 · rw [e]
   obtain ⟨m,hn,_⟩:=I.loc
   refine .cons (by rw [I.ok.kind];decide) hf hn ?_ I.funs
   exact Heap.get?_none_of_le (xI I.ok.bsz I.ok.above)
theorem Inv.stkSub (I:Inv X pins σ H s):∀b∈frs X.stack,b∈X.env.locals::X.fs:=fun b hb=>by
 rcases I.ok.stk with e|⟨e,hf⟩
 · rw [e] at hb;exact wQ _ hb
 · rw [e] at hb
   unfold frs at hb
   rw [List.filterMap_cons,hf] at hb
   exact hb
theorem Inv.stkFree (I:Inv X pins σ H s):∀b∈frs X.stack,H b=none:=fun b hb=>by
 rcases wY.mp (I.stkSub b hb) with e|hb
 · rw [e];exact I.free
 · obtain ⟨_,o,ho,_⟩:=I.ok.funs.mem hb
   exact I.base.free b o ho (I.ok.frf b hb) fun z=>I.ok.exfs b z hb
theorem Inv.step {g':Array GenState} {t':Nat} {d':Drawn} {ch:List Addr} (I:Inv X pins σ H s)
 (hch:∀b∈ch,(b∈X.ex∨X.s₀.heap.objs.size≤b)∧b≠X.env.locals∧(∀x c,X.env.cells.lookup x=some c→c≠b)∧∀p∈X.pn++pins,p.1≠b)
 (keep:∀b o,b≠X.env.locals→b∉X.fs→b∉ch→s.heap.get? b=some o→H b=none→h'.get? b=some o)
 (slot:∀b o,b≠X.env.locals→b∈X.fs→b∉ch→s.heap.get? b=some o→H b=none→∃sl,h'.get? b=some {o with slots:=sl}) (free:∀b o,b∉ch→s.heap.get? b=some o→H b=none→H' b=none)
 (there:∀b o,b∉ch→s.heap.get? b=some o→∃o',h'.get? b=some o')
 (tups:∀b xs,H b=some (.tup xs)→H' b=some (.tup xs)) (frzs:∀b o u,H b=some (.frz o u)→H' b=some (.frz o u)) (tbls:∀b ps,H b=some (.tbl ps)→∃more,H' b=some (.tbl (ps++more)))
 (ns:∀m,s.heap.Ns X.env.locals m→h'.Ns X.env.locals m) (hok:HOk X.prog X.w H' h') (hg:AllBare g'):
 Inv X pins σ H' {s with heap:=h',gens:=g',drawn:=d',toks:=t'}:=by
 have neL:∀b o,X.s₀.heap.get? b=some o→b≠X.env.locals:=fun b o e=>wW (xb (Heap.lt_size e) I.ok.above)
 have neC:∀b o,X.s₀.heap.get? b=some o→b∉X.ex→b∉ch:=fun b o e hx hb=>by
  rcases (hch b hb).1 with z|z
  · exact hx z
  · exact absurd (xb (Heap.lt_size e) z) (Nat.lt_irrefl _)
 have cellK:∀x c,X.env.cells.lookup x=some c→∀v,s.heap.IsCell c v→h'.IsCell c v:=fun x c e v ⟨o,ho,hd⟩=>by
  have nch:c∉ch:=fun z=>(hch c z).2.2.1 x c e rfl
  by_cases hc:c∈X.fs
  · obtain ⟨sl,q⟩:=slot c o (I.cne x c e) hc nch ho (I.freeC x c e)
    exact ⟨_,q,hd⟩
  · exact ⟨o,keep c o (I.cne x c e) hc nch ho (I.freeC x c e),hd⟩
 refine ⟨I.ok,I.os,hg,⟨fun b o e n hb hx=> ?_,fun b o e n hb hx=> ?_,fun b o e n hx=> ?_,fun b o e hx=> ?_,fun b xs e=>tups b xs (I.base.tups b xs e),fun b o xs e=>frzs b o xs (I.base.frzs b o xs e),fun b ps e=> ?_⟩,?_,fun x c e=> ?_,?_,fun x c e=> ?_,fun p hp=> ?_,hok,I.len⟩
 · exact keep b o (neL b o e) hb (neC b o e hx) (I.base.keep b o e n hb hx) (I.base.free b o e n hx)
 · obtain ⟨sl,e1⟩:=I.base.slot b o e n hb hx
   obtain ⟨sl',e2⟩:=slot b _ (neL b o e) hb (neC b o e hx) e1 (I.base.free b o e n hx)
   exact ⟨sl',e2⟩
 · obtain ⟨o',e1⟩:=I.base.there b o e hx
   exact free b o' (neC b o e hx) e1 (I.base.free b o e n hx)
 · obtain ⟨o',e1⟩:=I.base.there b o e hx
   exact there b o' (neC b o e hx) e1
 · obtain ⟨m1,e1⟩:=I.base.tbls b ps e
   obtain ⟨m2,e2⟩:=tbls b _ e1
   exact ⟨m1++m2,by rw [e2,Array.append_assoc]⟩
 · obtain ⟨m,hn,hl⟩:=I.loc
   refine ⟨m,ns m hn,fun i x v e1 e2 e3=> ?_⟩
   obtain ⟨u,r,l⟩:=hl i x v e1 e2 e3
   refine ⟨u,r,?_⟩
   rcases l with l|⟨k,c,e,z⟩
   · exact .inl l
   · exact .inr ⟨k,c,e,cellK x c e _ z⟩
 · obtain ⟨v,z⟩:=I.cell x c e
   exact ⟨v,cellK x c e v z⟩
 · obtain ⟨m,⟨o,_,_,ho,_⟩,_⟩:=I.loc
   exact free _ o (fun z=>(hch _ z).2.1 rfl) ho I.free
 · obtain ⟨v,o,ho,hd⟩:=I.cell x c e
   exact free c o (fun z=>(hch c z).2.2.1 x c e rfl) ho (I.freeC x c e)
 · obtain ⟨e,n,ne,nf,d⟩:=I.pin p hp
   have nch:p.1∉ch:=fun z=>(hch p.1 z).2.2.2 p hp rfl
   exact ⟨keep p.1 p.2 ne nf nch e n,free p.1 p.2 nch e n,ne,nf,d⟩
theorem Inv.un {t':Nat} (I:Inv X pins σ H s) (u:Un X.fs [] H H' s.heap h') (hok:HOk X.prog X.w H' h'):Inv X pins σ H' {s with heap:=h',toks:=t'}:=by
 obtain ⟨m,⟨o,es,ep,ho,r⟩,_⟩:=id I.loc
 obtain ⟨sl,hL⟩:=u.any ho I.free (by simp)
 exact I.step (g':=s.gens) (d':=s.drawn) (ch:= []) (fun _ z=>nomatch z) (fun b o _ hb _ e n=>u.keep b o e n hb (by simp)) (fun b o _ hb _ e n=>u.slot b o e n hb (by simp)) (fun b o _ e n=>u.free b o e n (by simp)) (fun b o _ e=>u.there b o e (by simp)) u.tups u.frzs u.tbls (fun m' hm=>by
  obtain ⟨o',es',ep',ho',r'⟩:=hm
  rw [ho] at ho';cases ho'
  exact ⟨_,es',ep',hL,r'⟩) hok I.bare
theorem Inv.call {g':Array GenState} {t':Nat} {d':Drawn} {ch:List Addr} (I:Inv X pins σ H s) (u:Un (frs X.stack) ch H H' s.heap h') (hok:HOk X.prog X.w H' h') (hg:AllBare g')
 (hch:∀b∈ch,(b∈X.ex∨X.s₀.heap.objs.size≤b)∧b≠X.env.locals∧(∀x c,X.env.cells.lookup x=some c→c≠b)∧∀p∈X.pn++pins,p.1≠b):
 Inv X pins σ H' {s with heap:=h',gens:=g',drawn:=d',toks:=t'}:=by
 obtain ⟨m,⟨o,es,ep,ho,r⟩,_⟩:=id I.loc
 obtain ⟨sl,hL⟩:=u.any ho I.free fun z=>(hch _ z).2.1 rfl
 exact I.step (ch:=ch) hch (fun b o hL hb hc e n=>u.keep b o e n (fun z=>(wY.mp (I.stkSub b z)).elim hL hb) hc) (fun b o _ _ hc e n=>u.any e n hc) (fun b o hc e n=>u.free b o e n hc) (fun b o hc e=>u.there b o e hc) u.tups u.frzs u.tbls (fun m' hm=>by
  obtain ⟨o',es',ep',ho',r'⟩:=hm
  rw [ho] at ho';cases ho'
  exact ⟨_,es',ep',hL,r'⟩) hok hg
theorem Inv.turned {t':Nat} {it:Addr} (I:Inv X pins σ H s) (k:∀b o,b≠it→s.heap.get? b=some o→h'.get? b=some o) (hn:H it=none) (hL:it≠X.env.locals)
 (h1:it∈X.ex∨X.s₀.heap.objs.size≤it) (h2:∀x c,X.env.cells.lookup x=some c→c≠it) (h3:∀p∈X.pn++pins,p.1≠it):Inv X pins σ H {s with heap:=h',toks:=t'}:=by
 have nit:∀b u,H b=some u→b≠it:=fun b u e z=>by rw [z,hn] at e;cases e
 refine I.step (g':=s.gens) (d':=s.drawn) (ch:= [it]) (fun b hb=> ?_) (fun b o _ _ hc e _=>k b o (fun z=>hc (by simp [z])) e) (fun b o _ _ hc e _=>⟨o.slots,k b o (fun z=>hc (by simp [z])) e⟩) (fun _ _ _ _ n=>n)
  (fun b o hc e=>⟨o,k b o (fun z=>hc (by simp [z])) e⟩) (fun _ _ e=>e) (fun _ _ _ e=>e) (fun b ps e=>⟨#[],by rw [e];simp⟩) (fun m hm=> ?_) (fun b u e=> ?_) I.bare
 · have e:b=it:=by simpa using hb
   subst e
   exact ⟨h1,hL,h2,h3⟩
 · obtain ⟨o,es,ep,ho,r⟩:=hm
   exact ⟨o,es,ep,k _ o (Ne.symm hL) ho,r⟩
 · refine (I.hok b u e).stay (fun c v hc q=>k c v ?_ q) (fun _ q=>q) fun _ _ q=>q
   rcases hc with z|z
   · rw [z];exact nit b u e
   · exact nit c _ z
theorem Inv.tok (I:Inv X pins σ H s) (t:Nat):Inv X pins σ H {s with toks:=t}:=I.un (h':=s.heap) (t':=t) Un.refl I.hok
theorem Inv.kept {t':Nat} (I:Inv X pins σ H s) (k:∀b u,s.heap.get? b=some u→h'.get? b=some u):Inv X pins σ H {s with heap:=h',toks:=t'}:=I.un (Un.kept k) (I.hok.kept k)
theorem Inv.laid {a:Addr} {o:HO} {t':Nat} (I:Inv X pins σ H s) (k:∀b u,s.heap.get? b=some u→h'.get? b=some u) (hp:s.heap.objs.size≤a) (new:ObjOk X.prog X.w (upd H a o) h' a o):
 Inv X pins σ (upd H a o) {s with heap:=h',toks:=t'}:=I.un (Un.laid k hp (I.hok.fresh hp)) (I.hok.laid k hp new)
theorem Inv.write {x e:Addr} {o:HO} {t':Nat} (I:Inv X pins σ H s) (mu:Mut (H x)) (he:e=x∨H e=some (.own x)) (k:∀b u,b≠e→s.heap.get? b=some u→h'.get? b=some u) (heo:∃u,h'.get? e=some u)
 (new:ObjOk X.prog X.w (upd H x o) h' x o):Inv X pins σ (upd H x o) {s with heap:=h',toks:=t'}:=I.un (Un.write mu he k heo) (I.hok.write mu he k heo new)
theorem Inv.weak {σ':List (Option V)} (I:Inv X pins σ H s) (hl:σ'.length=σ.length) (w:∀(i:Nat) v,σ'[i]?=some (some v)→σ[i]?=some (some v)):Inv X pins σ' H s:=
 ⟨I.ok,I.os,I.bare,I.base,let ⟨m,hn,hl'⟩:=I.loc;⟨m,hn,fun i x v e1 e2 e3=>hl' i x v e1 (w i v e2) e3⟩,I.cell,I.free,I.freeC,I.pin,I.hok,hl.trans I.len⟩
theorem Inv.pins_of {pins':List (Addr×Obj)} (I:Inv X pins σ H s) (h:∀p∈pins',s.heap.get? p.1=some p.2∧H p.1=none∧p.1≠X.env.locals∧p.1∉X.fs∧∀v,p.2.data≠ .cell v):Inv X pins' σ H s:=
 ⟨I.ok,I.os,I.bare,I.base,I.loc,I.cell,I.free,I.freeC,fun p hp=>(x4.mp hp).elim (fun z=>I.pin p (x6 _ z)) (h p),I.hok,I.len⟩
theorem jf {N:List Str} (hN:N.Nodup) {i j:Nat} {x:Str} (a:N[i]?=some x) (b:N[j]?=some x):i=j:=by
 obtain ⟨h1,e1⟩:=wK.mp a
 obtain ⟨h2,e2⟩:=wK.mp b
 exact (List.getElem_inj hN).mp (e1.trans e2.symm)
theorem gU {M:Model} {A:Around} {E:Value→Shared→Prop} {i:Nat} {x:Str} {v:V} {u:Value} {Q:Unit→Shared→Prop} (I:Inv X pins σ H s) (hN:X.N.Nodup) (hi:X.N[i]?=some x) (hx:Loc X.env.scope x) (r:RelV v u)
 (h:∀s',Inv X pins (σ.set i (some v)) H s'→(∃a,Heap.SameBut a s.heap s'.heap∧(a=X.env.locals∨X.env.cells.lookup x=some a))→Q () s') (hf:X.fn x=true∨X.env.scope.names.lookup x=some .local:=by first|exact .inl rfl|exact .inr rfl|assumption):wpAny M A (storeName X.env x u) Q E s:=by
 obtain ⟨m,hn,hl⟩:=id I.loc
 have hcls:(X.env.scope.kind== .class ||(X.env.scope.kind== .module&&X.env.locals !=X.env.globals))=false:=by rw [I.ok.kind];rfl
 have hiσ:i < σ.length:=by rw [I.len];exact (wK.mp hi).1
 have cne:=I.cne
 have tracked:∀ {a:Addr} {h':Heap},(∃o,s.heap.get? a=some o∧H a=none)→Heap.SameBut a s.heap h'→HOk X.prog X.w H h':=fun {a h'} ha hs b ob e=>by
  obtain ⟨_,_,hfree⟩:=ha
  refine (I.hok b ob e).stay (fun c w' hc q=>(hs.2 c ?_).trans q) (fun _ q=>q) fun _ _ q=>q
  rintro rfl
  rcases hc with rfl|hc
  · rw [hfree] at e;cases e
  · rw [hfree] at hc;cases hc
 rcases hx with hk|hk
 · refine wpAny_storeName_local hk hn (fun h' hn' hs=> ?_) hcls
   obtain ⟨oL,_,_,hoL,_⟩:=id hn
   refine h _ ⟨I.ok,I.os,I.bare,⟨fun b o e n hb hx=> ?_,fun b o e n hb hx=> ?_,I.base.free,fun b o e hx=> ?_,I.base.tups,I.base.frzs,I.base.tbls⟩,⟨_,hn',fun j y v' e1 e2 e3=> ?_⟩,fun y c e=> ?_,I.free,I.freeC,fun p hp=> ?_,tracked ⟨oL,hoL,I.free⟩ hs,by simpa using I.len⟩ ⟨_,hs, .inl rfl⟩
   · exact (hs.2 b (wW (xb (Heap.lt_size e) I.ok.above))).trans (I.base.keep b o e n hb hx)
   · obtain ⟨sl,e1⟩:=I.base.slot b o e n hb hx
     exact ⟨sl,(hs.2 b (wW (xb (Heap.lt_size e) I.ok.above))).trans e1⟩
   · obtain ⟨o',e1⟩:=I.base.there b o e hx
     exact ⟨o',(hs.2 b (wW (xb (Heap.lt_size e) I.ok.above))).trans e1⟩
   · by_cases hj:j=i
     · subst hj
       rw [hi] at e1;cases e1
       rw [List.getElem?_set_self hiσ] at e2
       cases e2
       exact ⟨u,r, .inl ⟨hk,by simp⟩⟩
     · rw [List.getElem?_set_ne (Ne.symm hj)] at e2
       obtain ⟨u',r',q⟩:=hl j y v' e1 e2 e3
       refine ⟨u',r',?_⟩
       rcases q with ⟨k,e⟩|⟨k,c,e,z⟩
       · refine .inl ⟨k,?_⟩
         have:y≠x:=fun e=>hj (jf hN e1 (e▸hi))
         simp [this,e]
       · exact .inr ⟨k,c,e,z.sameBut hs (cne y c e)⟩
   · obtain ⟨w',z⟩:=I.cell y c e
     exact ⟨w',z.sameBut hs (cne y c e)⟩
   · obtain ⟨e,n,ne,nf,d⟩:=I.pin p hp
     exact ⟨(hs.2 p.1 ne).trans e,n,ne,nf,d⟩
 · have hfn:X.fn x=true:=by
    rcases hf with z|z
    · exact z
    · rw [z] at hk;cases hk
   obtain ⟨c,hc⟩:=I.ok.has x (.inl hk)
   obtain ⟨w',z⟩:=I.cell x c hc
   refine wpAny_storeName_cell I.ok.kind hk hc z (fun h' hc' hs=> ?_)
   obtain ⟨oc,hoc,hocd⟩:=id z
   refine h {s with heap:=h'} ⟨I.ok,I.os,I.bare,⟨fun b o e n hb hx=> ?_,fun b o e n hb hx=> ?_,I.base.free,fun b o e hx=> ?_,I.base.tups,I.base.frzs,I.base.tbls⟩,⟨m,hn.sameBut hs (Ne.symm (cne x c hc)),fun j y v' e1 e2 e3=> ?_⟩,fun y c' e=> ?_,I.free,I.freeC,fun p hp=> ?_,tracked ⟨oc,hoc,I.freeC x c hc⟩ hs,by simpa using I.len⟩ ⟨c,hs, .inr hc⟩
   · exact (hs.2 b (wW (xb (Heap.lt_size e) (I.ok.cab x c hfn hc)))).trans (I.base.keep b o e n hb hx)
   · obtain ⟨sl,e1⟩:=I.base.slot b o e n hb hx
     exact ⟨sl,(hs.2 b (wW (xb (Heap.lt_size e) (I.ok.cab x c hfn hc)))).trans e1⟩
   · obtain ⟨o',e1⟩:=I.base.there b o e hx
     exact ⟨o',(hs.2 b (wW (xb (Heap.lt_size e) (I.ok.cab x c hfn hc)))).trans e1⟩
   · by_cases hj:j=i
     · subst hj
       rw [hi] at e1;cases e1
       rw [List.getElem?_set_self hiσ] at e2
       cases e2
       exact ⟨u,r, .inr ⟨.inl hk,c,hc,hc'⟩⟩
     · rw [List.getElem?_set_ne (Ne.symm hj)] at e2
       obtain ⟨u',r',q⟩:=hl j y v' e1 e2 e3
       refine ⟨u',r',?_⟩
       rcases q with q|⟨k,c',e,z'⟩
       · exact .inl q
       · refine .inr ⟨k,c',e,z'.sameBut hs ?_⟩
         rintro rfl
         exact hj (jf hN e1 (I.ok.inj _ _ _ e hc▸hi))
   · by_cases hcc:c'=c
     · subst hcc;exact ⟨_,hc'⟩
     · obtain ⟨w2,z2⟩:=I.cell y c' e
       exact ⟨w2,z2.sameBut hs hcc⟩
   · obtain ⟨e,n,ne,nf,d⟩:=I.pin p hp
     refine ⟨(hs.2 p.1 ?_).trans e,n,ne,nf,d⟩
     intro q
     rw [q,hoc] at e
     have q':oc=p.2:=wT e
     exact d w' (by rw [←q'];exact hocd)
theorem dM {M:Model} {A:Around} {E:Value→Shared→Prop} {i:Nat} {x:Str} {v:V} {u:Value} {Q:Unit→Shared→Prop} (I:Inv X pins σ H s) (hN:X.N.Nodup) (hi:X.N[i]?=some x) (hx:Loc X.env.scope x) (r:RelV v u)
 (h:∀s',Inv X pins (σ.set i (some v)) H s'→Q () s') (hf:X.fn x=true∨X.env.scope.names.lookup x=some .local:=by first|exact .inl rfl|exact .inr rfl|assumption):wpAny M A (storeName X.env x u) Q E s:=
 gU I hN hi hx r (fun s' I' _=>h s' I') hf
theorem Inv.call' {s':Shared} {ch:List Addr} (I:Inv X pins σ H s) (ho:s'.os=s.os) (u:Un (frs X.stack) ch H H' s.heap s'.heap) (hok:HOk X.prog X.w H' s'.heap) (hg:AllBare s'.gens)
 (hch:∀b∈ch,(b∈X.ex∨X.s₀.heap.objs.size≤b)∧b≠X.env.locals∧(∀x c,X.env.cells.lookup x=some c→c≠b)∧∀p∈X.pn++pins,p.1≠b):Inv X pins σ H' s':=by
 obtain ⟨h',g',d',t',o'⟩:=s'
 have e:o'=s.os:=ho
 subst e
 exact I.call (g':=g') (t':=t') (d':=d') u hok hg hch
end
abbrev XK:=Value→Option Addr→Hp→Prop
abbrev St:=List (Option V)
abbrev VK:=V→Hp→Prop
abbrev TE:=St→Hp→VK→Prop
abbrev TT:=St→Hp→(Bool→Hp→Prop)→Prop
abbrev TA:=St→Hp→(List V→Hp→Prop)→Prop
structure Ends where
 nx:St→Hp→Prop
 rt:VK
 bk:St→Hp→Prop:=fun _ _=>False
 ct:St→Hp→Prop:=fun _ _=>False
abbrev TS:=Ends→St→Hp→Prop
def EP (X:Cx) (pins:List (Addr×Obj)) (σ:St) (Q:VK) (u:Value) (s':Shared):Prop:=∃v H',Inv X pins σ H' s'∧RelV v u∧Q v H'
def TP (X:Cx) (pins:List (Addr×Obj)) (σ:St) (Q:Bool→Hp→Prop) (b:Bool) (s':Shared):Prop:=∃H',Inv X pins σ H' s'∧Q b H'
def AP (X:Cx) (pins:List (Addr×Obj)) (σ:St) (Q:List V→Hp→Prop) (us:List Value) (s':Shared):Prop:=∃vs H',Inv X pins σ H' s'∧Vals vs us∧Q vs H'
def SP (X:Cx) (pins:List (Addr×Obj)) (D:Ends) (f:Flow) (s':Shared):Prop:=
 match f with
 | .next=>∃σ' H',Inv X pins σ' H' s'∧D.nx σ' H'
 | .brk=>∃σ' H',Inv X pins σ' H' s'∧D.bk σ' H'
 | .cont=>∃σ' H',Inv X pins σ' H' s'∧D.ct σ' H'
 | .ret u=>∃v σ' H',Inv X pins σ' H' s'∧RelV v u∧D.rt v H'
def PE (X:Cx) (e:Expr) (t:TE):Prop:=
 ∀(pins:List (Addr×Obj)) (s:Shared) (σ:St) (H:Hp) (Q:VK),Inv X pins σ H s→t σ H Q→wpAny (model X.prog X.w) X.A (eval e X.env) (EP X pins σ Q) X.xe s
def PT (X:Cx) (e:Expr) (t:TT):Prop:=
 ∀(pins:List (Addr×Obj)) (s:Shared) (σ:St) (H:Hp) (Q:Bool→Hp→Prop),Inv X pins σ H s→t σ H Q→wpAny (model X.prog X.w) X.A (isTrue e X.env (eval e X.env)) (TP X pins σ Q) X.xe s
def PW (X:Cx) (e:Expr) (t:TT):Prop:=
 ∀(whole:Sem Value) (pins:List (Addr×Obj)) (s:Shared) (σ:St) (H:Hp) (Q:Bool→Hp→Prop),Inv X pins σ H s→t σ H Q→wpAny (model X.prog X.w) X.A (isTrue e X.env whole) (TP X pins σ Q) X.xe s
theorem PW.pt {X:Cx} {e:Expr} {t:TT} (h:PW X e t):PT X e t:=h _
def PA (X:Cx) (es:List Expr) (t:TA):Prop:=
 ∀(pos:Pos) (pins:List (Addr×Obj)) (s:Shared) (σ:St) (H:Hp) (Q:List V→Hp→Prop),Inv X pins σ H s→t σ H Q→wpAny (model X.prog X.w) X.A (spliced (backTo pos (starEach es X.env))) (AP X pins σ Q) X.xe s
def PS (X:Cx) (st:Stmt) (t:TS):Prop:=
 ∀(pins:List (Addr×Obj)) (s:Shared) (σ:St) (H:Hp) (D:Ends),Inv X pins σ H s→t D σ H→wpAny (model X.prog X.w) X.A (exec st X.env) (SP X pins D) X.xe s
def PSs (X:Cx) (st:List Stmt) (t:TS):Prop:=
 ∀(pins:List (Addr×Obj)) (s:Shared) (σ:St) (H:Hp) (D:Ends),Inv X pins σ H s→t D σ H→wpAny (model X.prog X.w) X.A (execs st X.env) (SP X pins D) X.xe s
theorem thn {α:Type} {t:Sem α} {Q Q':α→Shared→Prop} {M:Model} {A:Around} {E:Value→Shared→Prop} {s:Shared} (h:wpAny M A t Q E s) (hQ:∀a s,Q a s→Q' a s):wpAny M A t Q' E s:=wpAny_mono h hQ fun _ _ x=>x
open PySem PySem.Spec PyProof.Rows
section
variable {X:Cx}
def tVar (i:Nat):TE:=fun σ H Q=>∃v,σ[i]?=some (some v)∧Q v H
def tC (v:V):TE:=fun _ H Q=>Q v H
theorem uy {i:Nat} {x:Str} {pos:Pos} (hN:X.N[i]?=some x) (hv:Vis X.env.scope x) (hd:(x==("__debug__":Str))=false:=by decide) (hcd:(x==("__classdict__":Str))=false:=by decide):PE X (.Name x pos) (tVar i):=by
 intro pins s σ H Q I h
 obtain ⟨v,e,h⟩:=h
 obtain ⟨m,hn,hl⟩:=I.loc
 obtain ⟨u,r,l⟩:=hl i x v hN e hv
 have fin:EP X pins σ Q u s:=⟨v,H,I,r,h⟩
 rcases l with ⟨hk,hm⟩|⟨hk,c,hc,hcell⟩
 · exact wpAny_Name (wpAny_loadName_local I.ok.kind hk hn hm fin) hd
 · rcases hk with hk|hk
   · exact wpAny_Name (wpAny_loadName_cell I.ok.kind hk hc hcell fin) hd
   · exact wpAny_Name (wpAny_loadName_free I.ok.kind hk hc hcell fin hcd) hd
theorem ai {i j pos}:PE X (.Constant (.int i) j pos) (tC (.int i)):=fun _ _ _ H _ I h=>wpAny_Constant_int ⟨.int i,H,I.tok _,⟨_,rfl⟩,h⟩
theorem cn {b j pos}:PE X (.Constant (.bool b) j pos) (tC (.bl b)):=fun _ _ _ H _ I h=>Constant_bool ⟨.bl b,H,I,rfl,h⟩
theorem kg {j pos}:PE X (.Constant .none j pos) (tC .non):=fun _ _ _ H _ I h=>Constant_none ⟨.non,H,I,rfl,h⟩
theorem cF {x j pos}:PE X (.Constant (.str x) j pos) (tC (.str x)):=fun _ _ _ H _ I h=>Calls.Constant_str ⟨.str x,H,I.tok _,⟨_,rfl⟩,h⟩
def Gl (X:Cx) (x:Str):Prop:=X.env.kindOf x=some .globalImplicit
theorem lR {E:Value→Shared→Prop} {pins:List (Addr×Obj)} {s:Shared} {σ:St} {H:Hp} {x:Str} {u:Value} {pos:Pos} {Q:Value→Shared→Prop} (I:Inv X pins σ H s) (hg:Gl X x) (hm:X.mg x=some u) (h:Q u s)
 (hd:(x==("__debug__":Str))=false:=by decide):wpAny (model X.prog X.w) X.A (eval (.Name x pos) X.env) Q E s:=
 Calls.Name_function_global I.ok.kind hg (Calls.loadGlobal_global (by rw [I.ok.glob];exact I.mod.glob.keeps I.bk) hm h) hd
theorem eG {E:Value→Shared→Prop} {pins:List (Addr×Obj)} {s:Shared} {σ:St} {H:Hp} {x:Str} {u:Value} {pos:Pos} {Q:Value→Shared→Prop} (I:Inv X pins σ H s) (hg:Gl X x) (hm:X.mg x=none) (hv:bootBuiltins x=some u) (h:Q u s)
 (hn:x≠"__name__":=by decide) (hd:(x==("__debug__":Str))=false:=by decide):wpAny (model X.prog X.w) X.A (eval (.Name x pos) X.env) Q E s:=by
 obtain ⟨mb,h1,h2⟩:=I.mod.blt
 exact Calls.Name_function_global I.ok.kind hg (Calls.loadGlobal_builtin (by rw [I.ok.glob];exact I.mod.glob.keeps I.bk) hm (by rw [I.ok.blt];exact h1.keeps I.bk) ((h2 x hn).trans hv) h) hd
theorem iH {x:Str} {v:V} {u:Value} {pos:Pos} (hg:Gl X x) (hm:X.mg x=none) (hv:bootBuiltins x=some u) (r:RelV v u) (hn:x≠"__name__":=by decide) (hd:(x==("__debug__":Str))=false:=by decide):PE X (.Name x pos) (tC v):=
 fun _ _ _ H _ I h=>eG I hg hm hv ⟨v,H,I,r,h⟩ hn hd
variable {a b:Expr} {ta tb:TE} {pos:Pos}
def PC (X:Cx) (op:CmpOp) (a b:Expr) (t:TE):Prop:=
 ∀(pins:List (Addr×Obj)) (s:Shared) (σ:St) (H:Hp) (Q:VK),Inv X pins σ H s→t σ H Q→
  wpAny (model X.prog X.w) X.A (eval a X.env) (fun v s₁=>wpAny (model X.prog X.w) X.A (eval b X.env) (fun u s₂=>wpAny (model X.prog X.w) X.A (compareOp op v u) (EP X pins σ Q) X.xe s₂) X.xe s₁) X.xe s
theorem jg (b:Expr) {op:CmpOp} (h:op≠ .In) (h2:op≠ .NotIn):behindInMarks op b=false:=by
 have e1:(op==CmpOp.In)=false:=by cases op<;>first|rfl|exact absurd rfl h
 have e2:(op==CmpOp.NotIn)=false:=by cases op<;>first|rfl|exact absurd rfl h2
 cases b<;>simp [behindInMarks,e1,e2]
def tIsN (ta:TE):TE:=fun σ H Q=>ta σ H fun x H1=>Q (.bl (decide (x= .non))) H1
def vC (ta:TE):TE:=fun σ H Q=>ta σ H fun x H1=>Q (.bl (!decide (x= .non))) H1
theorem RelV.none_iff {x:V} {v:Value} (r:RelV x v):(v==Value.none)=decide (x= .non):=by
 cases x with
 |non=>cases r;rfl
 |bl _=>cases r;rfl
 |int _=>obtain ⟨t,rfl⟩:=r;rfl
 |str _=>obtain ⟨t,rfl⟩:=r;rfl
 |byt _=>obtain ⟨t,rfl⟩:=r;rfl
 |flt _=>obtain ⟨t,rfl⟩:=r;rfl
 |ref _=>cases r;rfl
 |ty _=>cases r;rfl
theorem uA {j pos'} (ha:PE X a ta):PC X .Is a (.Constant .none j pos') (tIsN ta):=by
 intro pins s σ H Q I h
 refine thn (ha pins s σ H _ I h) fun v s1 ⟨x,H1,I1,r1,q1⟩=> ?_
 exact Constant_none (is_none_gen ⟨.bl _,H1,I1,by rw [r1.none_iff];rfl,q1⟩)
theorem iJ {j pos'} (ha:PE X a ta):PC X .IsNot a (.Constant .none j pos') (vC ta):=by
 intro pins s σ H Q I h
 refine thn (ha pins s σ H _ I h) fun v s1 ⟨x,H1,I1,r1,q1⟩=> ?_
 exact Constant_none (isnot_none_gen ⟨.bl _,H1,I1,by rw [r1.none_iff];rfl,q1⟩)
def tB (t:TE):TT:=fun σ H Q=>t σ H fun x H1=>∃c,x= .bl c∧Q c H1
theorem uz {op:CmpOp} {t:TE} (h:PC X op a b t) (h1:behindInMarks op b=false:=by first|exact jg _ (by decide) (by decide)|rfl):PE X (.Compare a [op] [b] pos) t:=fun pins s σ H Q I hw=>wpAny_Compare1 (h pins s σ H Q I hw) h1
theorem eC {op:CmpOp} {t:TE} (h:PC X op a b t) (h1:behindInMarks op b=false:=by first|exact jg _ (by decide) (by decide)|rfl):PT X (.Compare a [op] [b] pos) (tB t):=by
 intro pins s σ H Q I hw
 refine wpAny_isTrue_Compare1 (thn (h pins s σ H _ I hw) fun v s1 h1=>thn h1 fun u s2 h2=>thn h2 fun c s3 ⟨x,H1,I1,r1,q1⟩=> ?_) h1
 obtain ⟨d,rfl,q⟩:=q1
 cases r1
 exact wpAny_truthy_bool ⟨H1,I1,q⟩
theorem cM {e:Expr} {t:TE} (h:PE X e t) (he:∀whole,isTrue e X.env whole=(do let v←whole;standAt e.pos;holding [v] (truthy v)):=by intro _;rfl):PT X e (tB t):=by
 intro pins s σ H Q I hw
 refine isTrue_plain (thn (h pins s σ H _ I hw) fun v s1 ⟨x,H1,I1,r1,q1⟩=> ?_) (he _)
 obtain ⟨d,rfl,q⟩:=q1
 cases r1
 exact wpAny_truthy_bool ⟨H1,I1,q⟩
variable {tA tB':TT} {rest:List Expr}
def tAnd (t u:TT):TT:=fun σ H Q=>t σ H fun c H1=>if c=true then u σ H1 Q else Q false H1
def tOr (t u:TT):TT:=fun σ H Q=>t σ H fun c H1=>if c=true then Q true H1 else u σ H1 Q
def tNot (t:TT):TT:=fun σ H Q=>t σ H fun c H1=>Q (!c) H1
theorem iC (ha:PT X a tA):PW X (.BoolOp .And [a] pos) tA:=by
 intro wh pins s σ H Q I h
 refine isTrue_and (thn (ha pins s σ H Q I h) fun c s1 e=> ?_)
 cases c with
 |true=>exact isTrue_and_nil e
 |false=>exact e
theorem jZ (ha:PT X a tA):PW X (.BoolOp .Or [a] pos) tA:=by
 intro wh pins s σ H Q I h
 refine isTrue_or (thn (ha pins s σ H Q I h) fun c s1 e=> ?_)
 cases c with
 |false=>exact isTrue_or_nil e
 |true=>exact e
theorem iD (ha:PT X a tA) (hb:PW X (.BoolOp .And (b::rest) pos) tB'):PW X (.BoolOp .And (a::b::rest) pos) (tAnd tA tB'):=by
 intro wh pins s σ H Q I h
 refine isTrue_and (thn (ha pins s σ H _ I h) fun c s1 ⟨H1,I1,q1⟩=> ?_)
 cases c with
 |true=>exact hb wh pins s1 σ H1 Q I1 q1
 |false=>exact ⟨H1,I1,q1⟩
theorem lG (ha:PT X a tA) (hb:PW X (.BoolOp .Or (b::rest) pos) tB'):PW X (.BoolOp .Or (a::b::rest) pos) (tOr tA tB'):=by
 intro wh pins s σ H Q I h
 refine isTrue_or (thn (ha pins s σ H _ I h) fun c s1 ⟨H1,I1,q1⟩=> ?_)
 cases c with
 |true=>exact ⟨H1,I1,q1⟩
 |false=>exact hb wh pins s1 σ H1 Q I1 q1
theorem dD (ha:PT X a tA):PT X (.UnaryOp .Not a pos) (tNot tA):=by
 intro pins s σ H Q I h
 exact isTrue_not (ha pins s σ H (fun c H1=>Q (!c) H1) I h)
def tOrV (ta tb:TE):TE:=fun σ H Q=>ta σ H fun x H1=>∃c,x= .bl c∧if c=true then Q (.bl true) H1 else tb σ H1 Q
theorem p7 {op} {t:TE} (h:PE X a t):PE X (.BoolOp op [a] pos) t:=fun pins s σ H Q I hw=>BoolOp_one (h pins s σ H Q I hw)
theorem tw (ha:PE X a ta) (hb:PE X (.BoolOp .Or (b::rest) pos) tb):PE X (.BoolOp .Or (a::b::rest) pos) (tOrV ta tb):=by
 intro pins s σ H Q I h
 refine BoolOp_or (thn (ha pins s σ H _ I h) fun v s1 ⟨x,H1,I1,r1,q1⟩=> ?_)
 obtain ⟨c,rfl,q1⟩:=q1
 cases r1
 refine wpAny_truthy_bool ?_
 cases c with
 |false=>exact hb pins s1 σ H1 Q I1 q1
 |true=>exact ⟨.bl true,H1,I1,rfl,q1⟩
def tIf (t:TT) (ta tb:TE):TE:=fun σ H Q=>t σ H fun c H1=>if c=true then ta σ H1 Q else tb σ H1 Q
theorem fV {c:Expr} (hc:PT X c tA) (ha:PE X a ta) (hb:PE X b tb):PE X (.IfExp c a b pos) (tIf tA ta tb):=by
 intro pins s σ H Q I h
 refine wpAny_IfExp (thn (hc pins s σ H _ I h) fun d s1 ⟨H1,I1,q1⟩=> ?_)
 cases d with
 |true=>exact ha pins s1 σ H1 Q I1 q1
 |false=>exact hb pins s1 σ H1 Q I1 q1
end
open PySem PySem.Spec PyProof.Rows
def SqL (K:PySem.W.Frag) (H:Hp) (a:Addr) (xs:List V):Prop:=
 Rd H a (.lst xs)∨
  ∃(o:Obj) (its:Array Value) (n:Nat),K.lookup a=some o∧o.cls= .type "list"∧o.dict=none∧o.data= .seq its n∧its.size≤sizeLine∧Vals xs its.toList
def SqT (K:PySem.W.Frag) (H:Hp) (a:Addr) (xs:List V):Prop:=
 Rd H a (.tup xs)∨
  ∃(o:Obj) (its:Array Value) (n:Nat),K.lookup a=some o∧o.cls= .type "tuple"∧o.data= .seq its n∧its.size≤sizeLine∧Vals xs its.toList
noncomputable def absV:Value→Option V
 | .none=>some .non
 | .bool b=>some (.bl b)
 | .int i _=>some (.int i)
 | .str x _=>some (.str x)
 | .bytes b _=>some (.byt b)
 | .float b _=>some (.flt b)
 | .ref a=>some (.ref a)
 | .type n=>some (.ty n)
 |_=>none
theorem RelV.abs {x:V} {u:Value} (r:RelV x u):absV u=some x:=by
 cases x with
 |non=>cases r;rfl
 |bl _=>cases r;rfl
 |int _=>obtain ⟨t,rfl⟩:=r;rfl
 |str _=>obtain ⟨t,rfl⟩:=r;rfl
 |byt _=>obtain ⟨t,rfl⟩:=r;rfl
 |flt _=>obtain ⟨t,rfl⟩:=r;rfl
 |ref _=>cases r;rfl
 |ty _=>cases r;rfl
theorem RelV.inj {x y:V} {u:Value} (r:RelV x u) (q:RelV y u):x=y:=wT (r.abs.symm.trans q.abs)
theorem Vals.inj:∀ {xs ys:List V} {us:List Value},Vals xs us→Vals ys us→xs=ys
 |_,_,_, .nil, .nil=>rfl
 |_,_,_, .cons r t, .cons r' t'=>by rw [r.inj r',Vals.inj t t']
section
variable {X:Cx} {pins:List (Addr×Obj)} {σ:St} {H:Hp} {s:Shared} {a:Addr} {xs ys:List V}
theorem SqL.of {K:PySem.W.Frag} (h:H a=some (.lst xs)):SqL K H a xs:= .inl (.inl h)
theorem SqT.of {K:PySem.W.Frag} (h:H a=some (.tup xs)):SqT K H a xs:= .inl (.inl h)
theorem Inv.list (I:Inv X pins σ H s) (h:SqL X.K H a xs):∃its:List Value,Vals xs its∧PlainL s.heap a its.toArray∧xs.length≤sizeLine:=by
 rcases h with h|⟨o,its,n,hk,hc,hd,hs,hz,r⟩
 · obtain ⟨z,its,n,r,e⟩:=h.ok I.hok
   exact ⟨its,r,⟨_,n,e,rfl,rfl,rfl⟩,z⟩
 · refine ⟨its.toList,r,⟨o,n,I.kIn a o hk,hc,hd,by simpa using hs⟩,?_⟩
   have e:=r.length
   simp only [wX] at e
   omega
theorem Inv.tuple (I:Inv X pins σ H s) (h:SqT X.K H a xs):∃its:List Value,Vals xs its∧IsTup s.heap a its.toArray∧xs.length≤sizeLine:=by
 rcases h with h|⟨o,its,n,hk,hc,hs,hz,r⟩
 · obtain ⟨z,its,r,p⟩:=h.ok I.hok
   exact ⟨its,r,p,z⟩
 · refine ⟨its.toList,r,⟨o,I.kIn a o hk,hc,n,by simpa using hs⟩,?_⟩
   have e:=r.length
   simp only [wX] at e
   omega
theorem Inv.list_inj (I:Inv X pins σ H s) (h:SqL X.K H a xs) (h':SqL X.K H a ys):xs=ys:=by
 obtain ⟨its,r,⟨o,n,e,_,_,d⟩,_⟩:=I.list h
 obtain ⟨its',r',⟨o',n',e',_,_,d'⟩,_⟩:=I.list h'
 rw [e] at e';cases e'
 rw [d] at d'
 injection d' with d1 _
 have:its=its':=by simpa using congrArg Array.toList d1
 subst this
 exact r.inj r'
theorem Inv.tuple_inj (I:Inv X pins σ H s) (h:SqT X.K H a xs) (h':SqT X.K H a ys):xs=ys:=by
 obtain ⟨its,r,⟨o,e,_,n,d⟩,_⟩:=I.tuple h
 obtain ⟨its',r',⟨o',e',_,n',d'⟩,_⟩:=I.tuple h'
 rw [e] at e';cases e'
 rw [d] at d'
 injection d' with d1 _
 have:its=its':=by simpa using congrArg Array.toList d1
 subst this
 exact r.inj r'
end
abbrev Cx.wish (X:Cx) (E:Value→Shared→Prop):Cx:= {X with xe:=E}
abbrev Cx.nox (X:Cx):Cx:=X.wish fun _ _=>False
theorem Cx.Ok.wish {X:Cx} (ok:X.Ok) (E:Value→Shared→Prop):(X.wish E).Ok:=
 ⟨ok.mod,ok.kind,ok.glob,ok.blt,ok.above,ok.inj,ok.has,ok.cab,ok.hd,ok.frames,ok.stk,ok.exf,ok.bs,ok.bsz,ok.noex,ok.exfs,ok.funs,ok.frf⟩
theorem Cx.Ok.unwish {X:Cx} {E:Value→Shared→Prop} (ok:(X.wish E).Ok):X.Ok:=
 ⟨ok.mod,ok.kind,ok.glob,ok.blt,ok.above,ok.inj,ok.has,ok.cab,ok.hd,ok.frames,ok.stk,ok.exf,ok.bs,ok.bsz,ok.noex,ok.exfs,ok.funs,ok.frf⟩
section
variable {X:Cx} {pins:List (Addr×Obj)} {σ:St} {H:Hp} {s:Shared} {E:Value→Shared→Prop}
theorem Inv.wish (I:Inv X pins σ H s) (E:Value→Shared→Prop):Inv (X.wish E) pins σ H s:=⟨I.ok.wish E,I.os,I.bare,I.base,I.loc,I.cell,I.free,I.freeC,I.pin,I.hok,I.len⟩
theorem Inv.unwish (I:Inv (X.wish E) pins σ H s):Inv X pins σ H s:=⟨I.ok.unwish,I.os,I.bare,I.base,I.loc,I.cell,I.free,I.freeC,I.pin,I.hok,I.len⟩
theorem SP.unwish {D:Ends} {f:Flow} {s':Shared} (h:SP (X.wish E) pins D f s'):SP X pins D f s':=by
 cases f with
 |next=>obtain ⟨σ',H',I,q⟩:=h;exact ⟨σ',H',I.unwish,q⟩
 |brk=>obtain ⟨σ',H',I,q⟩:=h;exact ⟨σ',H',I.unwish,q⟩
 |cont=>obtain ⟨σ',H',I,q⟩:=h;exact ⟨σ',H',I.unwish,q⟩
 |ret u=>obtain ⟨v,σ',H',I,r,q⟩:=h;exact ⟨v,σ',H',I.unwish,r,q⟩
theorem PSs.nox {st:List Stmt} {t:TS} (h:PSs X.nox st t):PSs X st t:=fun pins s σ H D I hw=>
 wpAny_mono (h pins s σ H D (I.wish _) hw) (fun _ _ q=>q.unwish) fun _ _ z=>False.elim z
end
section
variable {X:Cx} {st:Stmt} {rest:List Stmt} {t u:TS} {e:Expr} {te:TE} {pos:Pos}
def t8:TS:=fun D σ H=>D.nx σ H
def tSeq (t u:TS):TS:=fun D σ H=>t {D with nx:=u D} σ H
theorem aL:PSs X [] t8:=fun _ _ σ H _ I h=>wpAny_execs_nil ⟨σ,H,I,h⟩
theorem ad (h1:PS X st t) (h2:PSs X rest u):PSs X (st::rest) (tSeq t u):=by
 intro pins s σ H D I h
 refine wpAny_execs_cons (thn (h1 pins s σ H {D with nx:=u D} I h) fun f s1 q=> ?_)
 cases f with
 |next=>
  obtain ⟨σ',H',I',q⟩:=q
  exact h2 pins s1 σ' H' D I' q
 |ret v=>exact q
 |brk=>exact q
 |cont=>exact q
theorem ah (h1:PS X st t):PSs X [st] t:=by
 intro pins s σ H D I h
 refine wpAny_execs_cons (thn (h1 pins s σ H D I h) fun f s1 q=> ?_)
 cases f with
 |next=>exact wpAny_execs_nil q
 |ret v=>exact q
 |brk=>exact q
 |cont=>exact q
def vH:TS:=fun D σ H=>D.ct σ H
theorem ja:PS X (.Continue pos) vH:=fun _ _ σ H _ I h=>wpAny_Continue ⟨σ,H,I,h⟩
theorem Inv.quiet {pins:List (Addr×Obj)} {σ:St} {H:Hp} {s:Shared} (I:Inv X pins σ H s):interactive X.env=false:=by simp [interactive,I.ok.kind]
def vE (te:TE):TS:=fun D σ H=>te σ H fun _ H1=>D.nx σ H1
theorem bf (he:PE X e te) (hs:swapsWith e none pos.line X.env=pure false:=by rfl):PS X (.Expr e pos) (vE te):=by
 intro pins s σ H D I h
 exact wpAny_Expr_any (thn (he pins s σ H _ I h) fun v s1 ⟨x,H1,I1,r1,q1⟩=>⟨σ,H1,I1,q1⟩) I.quiet hs
def tRet (te:TE):TS:=fun D σ H=>te σ H D.rt
theorem aJ (he:PE X e te):PS X (.Return (some e) pos) (tRet te):=by
 intro pins s σ H D I h
 exact wpAny_Return_some (thn (he pins s σ H _ I h) fun v s1 ⟨x,H1,I1,r1,q1⟩=>⟨x,σ,H1,I1,r1,q1⟩)
def tIfS (c:TT) (t u:TS):TS:=fun D σ H=>c σ H fun b H1=>if b=true then t D σ H1 else u D σ H1
theorem ba {c:Expr} {a b:List Stmt} {tc:TT} (hc:PT X c tc) (ha:PSs X a t) (hb:PSs X b u):PS X (.If c a b pos) (tIfS tc t u):=by
 intro pins s σ H D I h
 refine wpAny_If (thn (hc pins s σ H _ I h) fun d s1 ⟨H1,I1,q1⟩=> ?_)
 cases d with
 |true=>exact ha pins s1 σ H1 D I1 q1
 |false=>exact hb pins s1 σ H1 D I1 q1
end
abbrev TG:=V→St→Hp→(St→Hp→Prop)→Prop
abbrev TGs:=List V→St→Hp→(St→Hp→Prop)→Prop
def PG (X:Cx) (target:Expr) (t:TG):Prop:=
 ∀(pins:List (Addr×Obj)) (s:Shared) (σ:St) (H:Hp) (v:V) (u:Value) (Q:St→Hp→Prop),Inv X pins σ H s→RelV v u→t v σ H Q→
  wpAny (model X.prog X.w) X.A (assign target X.env u) (fun _ s'=>∃σ' H',Inv X pins σ' H' s'∧Q σ' H') X.xe s
def PGs (X:Cx) (ts:List Expr) (t:TGs):Prop:=
 ∀(pins:List (Addr×Obj)) (s:Shared) (σ:St) (H:Hp) (vs:List V) (us:List Value) (Q:St→Hp→Prop),Inv X pins σ H s→Vals vs us→t vs σ H Q→
  wpAny (model X.prog X.w) X.A (assignInOrder ((assignEach ts X.env).map (·.2)) us) (fun _ s'=>∃σ' H',Inv X pins σ' H' s'∧Q σ' H') X.xe s
abbrev TSet:=V→V→V→Hp→(Hp→Prop)→Prop
def PSet (X:Cx) (t:TSet):Prop:=
 ∀(pins:List (Addr×Obj)) (s:Shared) (σ:St) (H:Hp) (o i v:V) (ov iv u:Value) (Q:Hp→Prop),Inv X pins σ H s→RelV o ov→RelV i iv→RelV v u→t o i v H Q→
  wpAny (model X.prog X.w) X.A (setItem ov iv u) (fun _ s'=>∃H',Inv X pins σ H' s'∧Q H') X.xe s
section
variable {X:Cx} {pos:Pos}
def cw (i:Nat):TG:=fun v σ H Q=>Q (σ.set i (some v)) H
theorem aj {i:Nat} {x:Str} (hN:X.N.Nodup) (hi:X.N[i]?=some x) (hx:Loc X.env.scope x) (hf:X.fn x=true∨X.env.scope.names.lookup x=some .local:=by first|exact .inl rfl|exact .inr rfl|assumption):PG X (.Name x pos) (cw i):=by
 intro pins s σ H v u Q I r h
 exact wpAny_assign_Name (dM I hN hi hx r (fun s' I'=>⟨_,H,I',h⟩) hf)
def gNil:TGs:=fun vs σ H Q=>vs= []∧Q σ H
def gn (t:TG) (u:TGs):TGs:=fun vs σ H Q=>∃v r,vs=v::r∧t v σ H fun σ' H'=>u r σ' H' Q
theorem c6:PGs X [] gNil:=by
 intro pins s σ H vs us Q I r h
 obtain ⟨e,h⟩:=h
 subst e
 cases r
 exact assignInOrder_nil ⟨σ,H,I,h⟩
theorem aG {e:Expr} {es:List Expr} {t:TG} {u:TGs} (h1:PG X e t) (h2:PGs X es u)
 (hs:(assignEach (e::es) X.env).map (·.2)=assign e X.env::(assignEach es X.env).map (·.2):=by rfl):PGs X (e::es) (gn t u):=by
 intro pins s σ H vs us Q I r h
 obtain ⟨v,vr,e1,h⟩:=h
 subst e1
 cases r with
 |cons r rr=>
  rw [hs]
  refine assignInOrder_cons (thn (h1 pins s σ H _ _ _ I r h) fun _ s1 ⟨σ1,H1,I1,q1⟩=> ?_)
  exact h2 pins s1 σ1 H1 _ _ Q I1 rr q1
def gTup (K:PySem.W.Frag) (n:Nat) (t:TGs):TG:=fun v σ H Q=>∃a xs,v= .ref a∧SqT K H a xs∧xs.length=n∧t xs σ H Q
theorem cE {es:List Expr} {k:Nat} {t:TGs} {n:Nat} (hc:X.calm=true) (h:PGs X es t)
 (hn:(assignEach es X.env).length=n:=by rfl) (hst:(assignEach es X.env).findIdx? (·.1)=none:=by rfl):PG X (.Tuple es k pos) (gTup X.K n t):=by
 intro pins s σ H v u Q I r hw
 obtain ⟨a,xs,e1,hq,hl,hw⟩:=hw
 subst e1
 cases r
 obtain ⟨its,rv,ht,hz⟩:=I.tuple hq
 refine assign_Tuple_tuple (I.ok.hd hc) ht (by simp [hn,←hl,rv.length]) hst fun h' hx=> ?_
 have I1:Inv X pins σ H {s with heap:=h'}:=I.kept (t':=s.toks) fun b o e=>hx b o (wW (Heap.lt_size e)) e
 exact h pins _ σ H xs _ Q I1 (by simpa using rv) hw
def tAsg (te:TE) (g:TG):TS:=fun D σ H=>te σ H fun x H1=>g x σ H1 D.nx
theorem iE {tg e:Expr} {te:TE} {g:TG} (he:PE X e te) (hg:PG X tg g) (hs:swapsWithSole [tg] e pos.line X.env=pure false:=by rfl) (hw:swappedStores [tg] e X.env=pure none:=by rfl)
 (h1:(assignEach [tg] X.env).map (·.2)= [assign tg X.env]:=by rfl):PS X (.Assign [tg] e pos) (tAsg te g):=by
 intro pins s σ H D I h
 refine wpAny_Assign_stores (thn (he pins s σ H _ I h) fun v s1 ⟨x,H1,I1,r1,q1⟩=> ?_) hs hw
 rw [h1]
 exact thn (hg pins s1 σ H1 x v _ I1 r1 q1) fun _ s2 q=>q
theorem ao {i:Nat} {x:Str} {e:Expr} {te:TE} {pos':Pos} (hN:X.N.Nodup) (hi:X.N[i]?=some x) (hx:Loc X.env.scope x) (he:PE X e te) (hs:swapsWith e (some (.Name x pos')) pos.line X.env=pure false:=by rfl) (hf:X.fn x=true∨X.env.scope.names.lookup x=some .local:=by first|exact .inl rfl|exact .inr rfl|assumption):
 PS X (.Assign [.Name x pos'] e pos) (tAsg te (cw i)):=by
 intro pins s σ H D I h
 refine wpAny_Assign_Name (thn (he pins s σ H _ I h) fun v s1 ⟨y,H1,I1,r1,q1⟩=> ?_) hs
 exact dM I1 hN hi hx r1 (fun s2 I2=>⟨_,H1,I2,q1⟩) hf
def tPar (i j:Nat) (ta:TA):TS:=fun D σ H=>ta σ H fun vs H1=>∃v w,vs= [v,w]∧D.nx ((σ.set i (some v)).set j (some w)) H1
theorem ux {i j:Nat} {x y:Str} {a b:Expr} {ta:TA} {px py pt:Pos} {kt k2 pt2} (hc:X.calm=true) (hN:X.N.Nodup) (hi:X.N[i]?=some x) (hj:X.N[j]?=some y) (hij:i≠j)
 (hx:X.env.scope.names.lookup x=some .local) (hy:X.env.scope.names.lookup y=some .local) (ha:PA X [a,b] ta)
 (hw:swappedStores [.Tuple [.Name x px, .Name y py] kt pt] (.Tuple [a,b] k2 pt2) X.env=pure (some [x,y]))
 (hs:swapsWithSole [.Tuple [.Name x px, .Name y py] kt pt] (.Tuple [a,b] k2 pt2) pos.line X.env=pure false:=by rfl):
 PS X (.Assign [.Tuple [.Name x px, .Name y py] kt pt] (.Tuple [a,b] k2 pt2) pos) (tPar i j ta):=by
 intro pins s σ H D I h
 rw [exec_Assign_arm]
 refine wpAny_bind (wpAny_standAt ?_)
 rw [hs]
 refine wpAny_bind (wpAny_pure ?_)
 rw [if_neg (by decide)]
 refine wpAny_bind (Tuple_ (thn (ha _ pins s σ H _ I h) fun us s1 ⟨vs,H1,I1,r1,q1⟩=> ?_))
 obtain ⟨v,w,e1,q1⟩:=q1
 subst e1
 obtain ⟨u1,u2,rfl,rv,rw'⟩:∃u1 u2,us= [u1,u2]∧RelV v u1∧RelV w u2:=by
  cases r1 with
  |cons p q=>
   cases q with
   |cons p' q'=>
    cases q'
    exact ⟨_,_,rfl,p,p'⟩
 refine wpAny_newObj_type ?_ (by show 2≤sizeLine;decide)
 have I2:Inv X pins σ H1 {s1 with heap:=s1.heap.push {cls:= .type "tuple",data:= .seq [u1,u2].toArray}}:=I1.kept (t':=s1.toks) fun b o e=>Heap.get?_push_of_some _ e
 rw [hw]
 refine wpAny_bind (wpAny_pure ?_)
 show wpAny (model X.prog X.w) X.A (do rule "assign.swapped-stores";let items←unpackItems (.ref s1.heap.objs.size) 2 none;assignInOrder [fun v=>bindName X.env y v,fun v=>bindName X.env x v] items.reverse;pure Flow.next) _ _ _
 refine wpAny_bind (wpAny_rule (wpAny_bind (unpackItems_tuple (items:= #[u1,u2]) (I.ok.hd hc) (IsTup.new s1.heap _) fun h' hx'=> ?_)))
 have I3:=I2.kept (h':=h') (t':=s1.toks) fun b o e=>hx' b o (wW (Heap.lt_size e)) e
 show wpAny _ _ (assignInOrder [fun v=>bindName X.env y v,fun v=>bindName X.env x v] [u2,u1] >>=fun _=>pure Flow.next) _ _ _
 refine wpAny_bind (assignInOrder_cons (wpAny_bindName (dM I3 hN hj (.inl hy) rw' (fun s2 I4=> ?_) (.inr hy))))
 refine assignInOrder_cons (wpAny_bindName (dM I4 hN hi (.inl hx) rv (fun s3 I5=>assignInOrder_nil (wpAny_pure ?_)) (.inr hx)))
 rw [List.set_comm _ _ (Ne.symm hij)] at I5
 exact ⟨_,H1,I5,q1⟩
end
section
variable {X:Cx} {pos:Pos}
def u9 (c:TT) (tb:TS):TS:=fun D σ H=>∃W:Nat→St→Hp→Prop,(∃m,W m σ H)∧∀m σ H,W m σ H→
 c σ H fun b H1=>if b=true then∃N:St→Hp→Prop,(∀σ' H',N σ' H'→∃m',m' < m∧W m' σ' H')∧tb {D with nx:=N,ct:=N,bk:=D.nx} σ H1 else D.nx σ H1
theorem df {c:Expr} {body:List Stmt} {tc:TT} {tb:TS} (hp:PassesOwn (model X.prog X.w) X.A X.env X.xe) (hc:PT X c tc) (hb:PSs X body tb):PS X (.While c body [] pos) (u9 tc tb):=by
 intro pins s σ H D I h
 obtain ⟨W,⟨m0,w0⟩,turn⟩:=h
 refine wpAny_While (codeAny_whileLoop (fun n s'=>∃σ' H',Inv X pins σ' H' s'∧W n σ' H') ?_ m0 ⟨σ,H,I,w0⟩)
 rintro n s1 ⟨σ1,H1,I1,w1⟩
 refine wpAny_passesOwn hp (thn (hc pins s1 σ1 H1 _ I1 (turn n σ1 H1 w1)) fun b s2 ⟨H2,I2,q2⟩=> ?_)
 cases b with
 |true=>
  obtain ⟨N,hN,q2⟩:=q2
  rw [if_pos rfl]
  refine wpAny_passesOwn hp (thn (hb pins s2 σ1 H2 _ I2 q2) fun f s3 q3=> ?_)
  cases f with
  |next=>
   obtain ⟨σ3,H3,I3,n3⟩:=q3
   obtain ⟨m',hm,w3⟩:=hN σ3 H3 n3
   exact ⟨m',hm,σ3,H3,I3,w3⟩
  |cont=>
   obtain ⟨σ3,H3,I3,n3⟩:=q3
   obtain ⟨m',hm,w3⟩:=hN σ3 H3 n3
   exact ⟨m',hm,σ3,H3,I3,w3⟩
  |brk=>exact q3
  |ret v=>exact q3
 |false=>
  rw [if_neg x9]
  exact wpAny_execs_nil ⟨σ1,H2,I2,q2⟩
end
structure It where
 go:Nat→Hp→Prop
 yld:Nat→Hp→V→Hp→Prop
 stop:Nat→Hp→Prop
def FpOk (X:Cx) (pins:List (Addr×Obj)) (H:Hp) (b:Addr):Prop:=
 H b=none∧b≠X.env.locals∧b∉X.fs∧(b∈X.ex∨X.s₀.heap.objs.size≤b)∧(∀x c,X.env.cells.lookup x=some c→c≠b)∧∀p∈X.pn++pins,p.1≠b
theorem Inv.fpOk {X:Cx} {pins:List (Addr×Obj)} {σ:St} {H H':Hp} {s:Shared} {b:Addr} (I:Inv X pins σ H s) (hb:s.heap.objs.size≤b) (hn:H' b=none):FpOk X pins H' b:=by
 refine ⟨hn,Nat.ne_of_gt (xb I.lt hb),I.nofs hb, .inr (xI I.sz hb),fun x c e z=> ?_,fun p hp z=> ?_⟩
 · obtain ⟨v,q⟩:=I.cell x c e
   exact absurd (xb q.lt (by rw [z];exact hb)) (Nat.lt_irrefl _)
 · exact absurd (xb (Heap.lt_size (I.pin p hp).1) (by rw [z];exact hb)) (Nat.lt_irrefl _)
structure Turn (P:Program) (w:World) (K:PySem.W.Frag) (tg:Expr) (J:It) (fp:List Addr) (it:Addr) (tn:Nat→Heap→Prop):Prop where
 mem:it∈fp
 obj:∀i h,tn i h→∀b∈fp,∃o,h.get? b=some o∧∀v,o.data≠ .cell v
 keep:∀i h h',tn i h→(∀b∈fp,∀o,h.get? b=some o→h'.get? b=some o)→tn i h'
 item:∀(X:Cx),X.prog=P→X.w=w→X.K=K→X.calm=true→∀(i:Nat) (pins:List (Addr×Obj)) (s:Shared) (σ:St) (H:Hp) (E:Value→Shared→Prop),Inv X pins σ H s→(∀b∈fp,FpOk X pins H b)→tn i s.heap→J.go i H→
  wpAny (model P w) X.A (pyNext (.ref it)) (fun r s1=>∃u,r=some u∧
   wpAny (model P w) X.A (letOwnedTupleGo tg (.ref it) u) (fun _ s2=>∃x H',Inv X pins σ H' s2∧RelV x u∧J.yld i H x H'∧tn (i+1) s2.heap∧∀b∈fp,H' b=none) E s1) E s
 done:∀(X:Cx),X.prog=P→X.w=w→X.K=K→X.calm=true→∀(i:Nat) (pins:List (Addr×Obj)) (s:Shared) (σ:St) (H:Hp) (E:Value→Shared→Prop),Inv X pins σ H s→(∀b∈fp,FpOk X pins H b)→tn i s.heap→J.stop i H→
  wpAny (model P w) X.A (pyNext (.ref it)) (fun r s1=>r=none∧Inv X pins σ H s1) E s
 self:∀(A:Around) (i:Nat) (s:Shared) (Q:Value→Shared→Prop) (E:Value→Shared→Prop),tn i s.heap→Q (.ref it) s→wpAny (model P w) A (pyIter (.ref it)) Q E s
abbrev TI:=St→Hp→(It→Hp→Prop)→Prop
def PIE (X:Cx) (pins:List (Addr×Obj)) (σ:St) (tg:Expr) (R:It→Hp→Prop) (itv:Value) (s2:Shared):Prop:=
 ∃(it:Addr) (fp:List Addr) (tn:Nat→Heap→Prop) (J:It) (H':Hp),itv= .ref it∧Inv X pins σ H' s2∧Turn X.prog X.w X.K tg J fp it tn∧tn 0 s2.heap∧(∀b∈fp,FpOk X pins H' b)∧R J H'
def PI (X:Cx) (tg iter:Expr) (wi:TI):Prop:=
 ∀(pins:List (Addr×Obj)) (s:Shared) (σ:St) (H:Hp) (R:It→Hp→Prop),Inv X pins σ H s→wi σ H R→
  wpAny (model X.prog X.w) X.A (eval iter X.env) (fun v s1=>wpAny (model X.prog X.w) X.A (pyIter v) (PIE X pins σ tg R) X.xe s1) X.xe s
theorem qe {M:Model} {A:Around} {E:Value→Shared→Prop} {s:Shared} {tg:Expr} {it:Addr} {u:Value} {o:Obj} {n:String} {vs:Array Value} {Q:Unit→Shared→Prop} (ho:s.heap.get? it=some o) (hc:o.cls= .type n) (hd:o.data= .fields vs)
 (hn: ["enumerate","zip","dict_itemiterator","dict_reverseitemiterator","odict_iterator","itertools.zip_longest","itertools.pairwise"].contains n=false) (hQ:Q () s):wpAny M A (letOwnedTupleGo tg (.ref it) u) Q E s:=by
 unfold letOwnedTupleGo
 cases tg<;>first
  |exact wpAny_pure hQ
  |(cases u<;>first
     |exact wpAny_pure hQ
     |(refine wpAny_bind (wpAny_load ho ?_)
       rw [hc,hd]
       show wpAny M A (if (["enumerate","zip","dict_itemiterator","dict_reverseitemiterator","odict_iterator","itertools.zip_longest","itertools.pairwise"].contains n&&vs[0]?==some (rawInt _))=true then _ else _) Q E s
       rw [if_neg (by intro h;rw [hn,Bool.false_and] at h;cases h)]
       exact wpAny_pure hQ))
def Itl (K:PySem.W.Frag) (a:Addr):It:=
 ⟨fun i H=>∃xs x,SqL K H a xs∧xs[i]?=some x,fun i H x H'=>H'=H∧∀xs,SqL K H a xs→xs[i]?=some x,fun i H=>∃xs,SqL K H a xs∧xs.length≤i⟩
def Itt (K:PySem.W.Frag) (a:Addr):It:=
 ⟨fun i H=>∃xs x,SqT K H a xs∧xs[i]?=some x,fun i H x H'=>H'=H∧∀xs,SqT K H a xs→xs[i]?=some x,fun i H=>∃xs,SqT K H a xs∧xs.length≤i⟩
def Itr (lo:Int) (n:Nat):It:=⟨fun i _=>i < n,fun i H x H'=>H'=H∧x= .int (lo+i),fun i _=>n≤i⟩
theorem n9 {P:Program} {w:World} {K:PySem.W.Frag} {tg:Expr} (a it:Addr):Turn P w K tg (Itl K a) [it] it (fun i h=>h.IsListIter it a i) where
 mem:=by simp
 obj:=fun i h st b hb=>by
  have e:b=it:=by simpa using hb
  subst e
  obtain ⟨o,e,c,d⟩:=st
  exact ⟨o,e,fun v z=>by rw [d] at z;cases z⟩
 keep:=fun i h h' st k=>st.at fun o e=>k it (by simp) o e
 item:=by
  intro X hP hw hK hc i pins s σ H E I hf st hg
  subst hP hw hK
  obtain ⟨xs,x,hq,hx⟩:=hg
  obtain ⟨its,rv,p,hz⟩:=I.list hq
  obtain ⟨u,hu,ru⟩:=rv.get hx
  obtain ⟨f0,f1,f2,f3,f4,f5⟩:=hf it (by simp)
  refine wpAny_pyNext_list_item st p.isList (x:=u) (by simpa using hu) fun h' st' sb=> ?_
  have I1:Inv X pins σ H {s with heap:=h'}:=I.turned (t':=s.toks) (fun b o hb e=>(sb.2 b hb).trans e) f0 f1 f3 f4 f5
  obtain ⟨o,e,c,d⟩:=id st'
  exact ⟨u,rfl,qe (s:= {s with heap:=h'}) e c d (by decide) ⟨x,H,I1,ru,⟨rfl,fun ys hy=>by rw [I.list_inj hy hq];exact hx⟩,st',fun b hb=>(hf b hb).1⟩⟩
 done:=by
  intro X hP hw hK hc i pins s σ H E I hf st hg
  subst hP hw hK
  obtain ⟨xs,hq,hx⟩:=hg
  obtain ⟨its,rv,p,hz⟩:=I.list hq
  obtain ⟨f0,f1,f2,f3,f4,f5⟩:=hf it (by simp)
  have hl:=rv.length
  exact wpAny_pyNext_list_end (I.ok.hd hc) st p.isList (by simp;omega) fun h' eb=>⟨rfl,I.turned (t':=s.toks) (fun b o hb e=>eb b o hb e) f0 f1 f3 f4 f5⟩
 self:=fun _ _ _ _ _ st h=>wpAny_pyIter_listiter st h
theorem jN {P:Program} {w:World} {K:PySem.W.Frag} {tg:Expr} (a it:Addr):Turn P w K tg (Itt K a) [it] it (fun i h=>h.IsTupleIter it a i) where
 mem:=by simp
 obj:=fun i h st b hb=>by
  have e:b=it:=by simpa using hb
  subst e
  obtain ⟨o,e,c,d⟩:=st
  exact ⟨o,e,fun v z=>by rw [d] at z;cases z⟩
 keep:=fun i h h' st k=>st.at fun o e=>k it (by simp) o e
 item:=by
  intro X hP hw hK hc i pins s σ H E I hf st hg
  subst hP hw hK
  obtain ⟨xs,x,hq,hx⟩:=hg
  obtain ⟨its,rv,p,hz⟩:=I.tuple hq
  obtain ⟨u,hu,ru⟩:=rv.get hx
  obtain ⟨f0,f1,f2,f3,f4,f5⟩:=hf it (by simp)
  refine wpAny_pyNext_tuple_item st (show s.heap.IsTuple a its.toArray from p) (x:=u) (by simpa using hu) fun h' st' sb=> ?_
  have I1:Inv X pins σ H {s with heap:=h'}:=I.turned (t':=s.toks) (fun b o hb e=>(sb.2 b hb).trans e) f0 f1 f3 f4 f5
  obtain ⟨o,e,c,d⟩:=id st'
  exact ⟨u,rfl,qe (s:= {s with heap:=h'}) e c d (by decide) ⟨x,H,I1,ru,⟨rfl,fun ys hy=>by rw [I.tuple_inj hy hq];exact hx⟩,st',fun b hb=>(hf b hb).1⟩⟩
 done:=by
  intro X hP hw hK hc i pins s σ H E I hf st hg
  subst hP hw hK
  obtain ⟨xs,hq,hx⟩:=hg
  obtain ⟨its,rv,p,hz⟩:=I.tuple hq
  obtain ⟨f0,f1,f2,f3,f4,f5⟩:=hf it (by simp)
  have hl:=rv.length
  exact wpAny_pyNext_tuple_end (I.ok.hd hc) st (show s.heap.IsTuple a its.toArray from p) (by simp;omega) fun h' eb=>⟨rfl,I.turned (t':=s.toks) (fun b o hb e=>eb b o hb e) f0 f1 f3 f4 f5⟩
 self:=fun _ _ _ _ _ st h=>wpAny_pyIter_tupleiter st h
theorem jO {P:Program} {w:World} {K:PySem.W.Frag} {tg:Expr} (it:Addr) (lo:Int) (n:Nat):Turn P w K tg (Itr lo n) [it] it (fun i h=>IsRangeIter h it (lo+(i:Nat)*1) ((n:Int) - (i:Nat)) 1) where
 mem:=by simp
 obj:=fun i h st b hb=>by
  have e:b=it:=by simpa using hb
  subst e
  exact ⟨_,st,fun v z=>by
   have z':Data.fields _=Data.cell v:=z
   cases z'⟩
 keep:=fun i h h' st k=>k it (by simp) _ st
 item:=by
  intro X hP hw hK hc i pins s σ H E I hf st hg
  subst hP hw hK
  obtain ⟨f0,f1,f2,f3,f4,f5⟩:=hf it (by simp)
  have W:=Walks.range (prog:=X.prog) (w:=X.w) (I.ok.hd hc) it lo 1 n
  refine W.item i s _ _ hg st fun v h' tk hv st' kk=> ?_
  obtain ⟨t,rfl⟩:=hv
  have I1:Inv X pins σ H {s with heap:=h',toks:=tk}:=I.turned (fun b o hb e=>kk b o (by simpa using hb) e) f0 f1 f3 f4 f5
  refine ⟨_,rfl,qe (s:= {s with heap:=h',toks:=tk}) (n:="range_iterator") st' rfl rfl (by decide) ⟨.int (lo+i),H,I1,⟨t,?_⟩,⟨rfl,rfl⟩,st',fun b hb=>(hf b hb).1⟩⟩
  rw [Int.mul_one]
 done:=by
  intro X hP hw hK hc i pins s σ H E I hf st hg
  subst hP hw hK
  obtain ⟨f0,f1,f2,f3,f4,f5⟩:=hf it (by simp)
  exact wpAny_pyNext_range_end (I.ok.hd hc) st (by have:n≤i:=hg;omega) fun h' eb=>⟨rfl,I.turned (t':=s.toks) (fun b o hb e=>eb b o hb e) f0 f1 f3 f4 f5⟩
 self:=fun _ _ _ _ _ st h=>wpAny_pyIter_rangeiter st h
open PySem PySem.Spec PyProof.Rows
section
variable {X:Cx} {tg:Expr}
def tK (K:PySem.W.Frag) (tl:TE):TI:=fun σ H R=>tl σ H fun x H1=>∃a,x= .ref a∧(∃xs,SqL K H1 a xs)∧R (Itl K a) H1
def iTup (K:PySem.W.Frag) (tl:TE):TI:=fun σ H R=>tl σ H fun x H1=>∃a,x= .ref a∧(∃xs,SqT K H1 a xs)∧R (Itt K a) H1
theorem aP {l:Expr} {tl:TE} (hl:PE X l tl):PI X tg l (tK X.K tl):=by
 intro pins s σ H R I h
 refine thn (hl pins s σ H _ I h) fun v s1 ⟨x,H1,I1,r1,q1⟩=> ?_
 obtain ⟨a,e,⟨xs,hq⟩,q⟩:=q1
 subst e
 cases r1
 obtain ⟨its,rv,p,hz⟩:=I1.list hq
 refine wpAny_pyIter_list p.isList ?_
 refine ⟨s1.heap.objs.size,[s1.heap.objs.size],_,_,H1,rfl,I1.kept (t':=s1.toks) fun b o e=>Heap.get?_push_of_some _ e,n9 a _,⟨_,Heap.get?_push_size _ rfl,rfl,rfl⟩,fun b hb=> ?_,q⟩
 have e:b=s1.heap.objs.size:=by simpa using hb
 subst e
 exact I1.fpOk (wO _) (I1.hok.fresh (wO _))
theorem fU {l:Expr} {tl:TE} (hl:PE X l tl):PI X tg l (iTup X.K tl):=by
 intro pins s σ H R I h
 refine thn (hl pins s σ H _ I h) fun v s1 ⟨x,H1,I1,r1,q1⟩=> ?_
 obtain ⟨a,e,⟨xs,hq⟩,q⟩:=q1
 subst e
 cases r1
 obtain ⟨its,rv,p,hz⟩:=I1.tuple hq
 refine wpAny_pyIter_tuple (show s1.heap.IsTuple a its.toArray from p) ?_
 refine ⟨s1.heap.objs.size,[s1.heap.objs.size],_,_,H1,rfl,I1.kept (t':=s1.toks) fun b o e=>Heap.get?_push_of_some _ e,jN a _,⟨_,Heap.get?_push_size _ rfl,rfl,rfl⟩,fun b hb=> ?_,q⟩
 have e:b=s1.heap.objs.size:=by simpa using hb
 subst e
 exact I1.fpOk (wO _) (I1.hok.fresh (wO _))
theorem oU {pins:List (Addr×Obj)} {σ:St} {H:Hp} {s:Shared} {R:It→Hp→Prop} {E:Value→Shared→Prop} {lo hi:Int} {t u v:Tok} {tk:Nat} (I:Inv X pins σ H s) (h1:-(2^62)≤lo) (h2:lo < 2^62) (h3:-(2^62)≤hi) (h4:hi < 2^62)
 (q:R (Itr lo (hi - lo).toNat) H):wpAny (model X.prog X.w) X.A (pyIter (.ref s.heap.objs.size)) (PIE X pins σ tg R) E {s with heap:=s.heap.push {cls:= .type "range",data:= .fields #[.int lo t, .int hi u, .int 1 v]},toks:=tk}:=by
 refine wpAny_pyIter_range (IsRange.new ..) (small_one h1 h2 h3 h4) ?_
 have I1:Inv X pins σ H {s with heap:=s.heap.push {cls:= .type "range",data:= .fields #[.int lo t, .int hi u, .int 1 v]},toks:=tk}:=I.kept fun b o e=>Heap.get?_push_of_some _ e
 refine ⟨(s.heap.push {cls:= .type "range",data:= .fields #[.int lo t, .int hi u, .int 1 v]}).objs.size,[(s.heap.push {cls:= .type "range",data:= .fields #[.int lo t, .int hi u, .int 1 v]}).objs.size],_,_,H,rfl,
  I1.kept (t':=tk) fun b o e=>Heap.get?_push_of_some _ e,jO _ lo (hi - lo).toNat,?_,fun b hb=> ?_,q⟩
 · have e1:lo+((0:Nat):Int)*1=lo:=by simp
   have e2:(((hi - lo).toNat:Nat):Int) - ((0:Nat):Int)=Builtin.Range.rangeSize lo hi 1:=by rw [rangeSize_one];split<;>omega
   show IsRangeIter _ _ (lo+((0:Nat):Int)*1) ((((hi - lo).toNat:Nat):Int) - ((0:Nat):Int)) 1
   rw [e1,e2]
   exact Heap.get?_push_size _ rfl
 · have e:b=(s.heap.push {cls:= .type "range",data:= .fields #[.int lo t, .int hi u, .int 1 v]}).objs.size:=by simpa using hb
   subst e
   exact I1.fpOk (wO _) (I1.hok.fresh (wO _))
def wq (ta:TA):TI:=fun σ H R=>ta σ H fun vs H1=>∃j:Int,vs= [.int j]∧ -(2^62)≤j∧j < 2^62∧R (Itr 0 j.toNat) H1
theorem bX {a:Expr} {ta:TA} {p pos:Pos} (hg:Gl X "range") (hm:X.mg "range"=none) (ha:PA X [a] ta) (hs:starEach [a] X.env= [(false,eval a X.env)]:=by rfl):PI X tg (.Call (.Name "range" p) [a] [] pos) (wq ta):=by
 intro pins s σ H R I h
 refine Call_ (eG I hg hm boot_range (PyProof.Rows.callWith_type1 (thn (ha pos pins s σ H _ I h) fun us s1 ⟨vs,H1,I1,r1,q1⟩=> ?_) hs rfl))
 obtain ⟨j,e,q1,q2,q⟩:=q1
 subst e
 cases r1 with
 |cons r rr=>
  cases rr
  obtain ⟨t,rfl⟩:=r
  exact call_range_1 (oU I1 (by omega) (by omega) q1 q2 (by simpa using q))
def tFor (wi:TI) (g:TG) (tb:TS):TS:=fun D σ H=>wi σ H fun J H1=>∃W:Nat→Nat→St→Hp→Prop,(∃m,W 0 m σ H1)∧∀i m σ H,W i m σ H→
 (J.stop i H∧D.nx σ H)∨(J.go i H∧∃N:St→Hp→Prop,(∀σ' H',N σ' H'→∃m',m' < m∧W (i+1) m' σ' H')∧∀x H',J.yld i H x H'→g x σ H' fun σ2 H2=>tb {D with nx:=N,ct:=N,bk:=D.nx} σ2 H2)
noncomputable def cD (fp:List Addr) (h:Heap):List (Addr×Obj):=fp.filterMap fun b=>(h.get? b).map fun o=>(b,o)
theorem aV {fp:List Addr} {h:Heap} {b:Addr} {o:Obj} (hb:b∈fp) (e:h.get? b=some o):(b,o)∈cD fp h:=List.mem_filterMap.mpr ⟨b,hb,by rw [e];rfl⟩
theorem nB {fp:List Addr} {h:Heap} {p:Addr×Obj} (hp:p∈cD fp h):p.1∈fp∧h.get? p.1=some p.2:=by
 obtain ⟨b,hb,e⟩:=List.mem_filterMap.mp hp
 cases q:h.get? b with
 |none=>rw [q] at e;cases e
 |some o=>
  rw [q] at e
  have e':(b,o)=p:=wT e
  subst e'
  exact ⟨hb,q⟩
theorem Inv.pinned {pins:List (Addr×Obj)} {σ:St} {H:Hp} {s:Shared} {fp:List Addr} (I:Inv X pins σ H s) (hf:∀b∈fp,FpOk X pins H b) (ho:∀b∈fp,∃o,s.heap.get? b=some o∧∀v,o.data≠ .cell v):Inv X (pins++cD fp s.heap) σ H s:=
 I.pins_of fun p hp=>(x4.mp hp).elim (fun z=>I.pin p (wR _ z)) fun z=>by
  obtain ⟨hb,e⟩:=nB z
  obtain ⟨f0,f1,f2,_⟩:=hf p.1 hb
  obtain ⟨o,e',d⟩:=ho p.1 hb
  rw [e] at e';cases e'
  exact ⟨e,f0,f1,f2,d⟩
theorem Inv.unpinned {pins pl:List (Addr×Obj)} {σ:St} {H:Hp} {s:Shared} (I:Inv X (pins++pl) σ H s):Inv X pins σ H s:=I.pins_of fun p hp=>I.pin p (wR _ (x6 _ hp))
theorem aZ {iter:Expr} {body:List Stmt} {wi:TI} {g:TG} {tb:TS} {pos:Pos} (hp:PassesOwn (model X.prog X.w) X.A X.env X.xe) (hc:X.calm=true) (hi:PI X tg iter wi) (hg:PG X tg g) (hb:PSs X body tb)
 (hs:∀x,foldedSetIterable iter X.env x=pure x:=by intro _;rfl):PS X (.For tg iter body [] pos) (tFor wi g tb):=by
 intro pins s σ H D I h
 refine wpAny_For (thn (hi pins s σ H _ I h) fun v s1 h1=>thn h1 fun itv s2 h2=> ?_) hs
 obtain ⟨it,fp,tn,J,H2,e,I2,T,st2,f2,W,⟨m0,w0⟩,turn⟩:=h2
 subst e
 have stat:∀ {H':Hp},(∀b∈fp,H' b=none)→∀b∈fp,FpOk X pins H' b:=fun hn b hb=>⟨hn b hb,(f2 b hb).2⟩
 refine codeAny_forLoop_any (fun n s'=>∃i σ' H',Inv X pins σ' H' s'∧tn i s'.heap∧(∀b∈fp,H' b=none)∧W i n σ' H') ?_ m0 ⟨0,σ,H2,I2,st2,fun b hb=>(f2 b hb).1,w0⟩
 rintro n s3 ⟨i,σ3,H3,I3,st3,fr3,w3⟩
 rcases turn i n σ3 H3 w3 with ⟨stop,qn⟩|⟨go,N,hN,step⟩
 · refine wpAny_passesOwn hp (thn (T.done X rfl rfl rfl hc i pins s3 σ3 H3 X.xe I3 (stat fr3) st3 stop) fun r s4 ⟨hr,I4⟩=> ?_)
   subst hr
   exact wpAny_execs_nil ⟨σ3,H3,I4,qn⟩
 · refine wpAny_passesOwn hp (thn (T.item X rfl rfl rfl hc i pins s3 σ3 H3 X.xe I3 (stat fr3) st3 go) fun r s4 ⟨u,hr,h4⟩=> ?_)
   subst hr
   refine wpAny_passesOwn hp (thn h4 fun _ s5 ⟨x,H5,I5,r5,y5,st5,fr5⟩=> ?_)
   have I5':=I5.pinned (stat fr5) (T.obj _ _ st5)
   refine wpAny_passesOwn hp (thn (hg _ s5 σ3 H5 x u _ I5' r5 (step x H5 y5)) fun _ s6 ⟨σ6,H6,I6,q6⟩=> ?_)
   refine wpAny_passesOwn hp (thn (hb _ s6 σ6 H6 _ I6 q6) fun f s7 q7=> ?_)
   have again:∀ {σ7:St} {H7:Hp},Inv X (pins++cD fp s5.heap) σ7 H7 s7→N σ7 H7→∃m,m < n∧∃i σ' H',Inv X pins σ' H' s7∧tn i s7.heap∧(∀b∈fp,H' b=none)∧W i m σ' H':=fun {σ7 H7} I7 n7=>by
    obtain ⟨m',hm,w7⟩:=hN σ7 H7 n7
    refine ⟨m',hm,i+1,σ7,H7,I7.unpinned,T.keep _ _ _ st5 fun b hb o e=>(I7.pin (b,o) (wR _ (wR _ (aV hb e)))).1,fun b hb=> ?_,w7⟩
    obtain ⟨o,e,d⟩:=T.obj _ _ st5 b hb
    exact (I7.pin (b,o) (wR _ (wR _ (aV hb e)))).2.1
   cases f with
   |next=>obtain ⟨σ7,H7,I7,n7⟩:=q7;exact again I7 n7
   |cont=>obtain ⟨σ7,H7,I7,n7⟩:=q7;exact again I7 n7
   |brk=>obtain ⟨σ7,H7,I7,q7⟩:=q7;exact ⟨σ7,H7,I7.unpinned,q7⟩
   |ret v=>obtain ⟨x7,σ7,H7,I7,r7,q7⟩:=q7;exact ⟨x7,σ7,H7,I7.unpinned,r7,q7⟩
end
theorem bc {K:PySem.W.Frag} {a:Addr} {xs:List V} {g:TG} {tb:TS} {D:Ends} {σ:St} {H:Hp} (Pv:Nat→St→Hp→Prop) (h0:Pv 0 σ H) (hl:∀i σ H,i≤xs.length→Pv i σ H→SqL K H a xs)
 (hs:∀i x σ H,xs[i]?=some x→Pv i σ H→g x σ H fun σ2 H2=>tb {D with nx:=Pv (i+1),ct:=Pv (i+1),bk:=D.nx} σ2 H2) (hd:∀σ H,Pv xs.length σ H→D.nx σ H):
 ∃W:Nat→Nat→St→Hp→Prop,(∃m,W 0 m σ H)∧∀i m σ H,W i m σ H→
  ((Itl K a).stop i H∧D.nx σ H)∨((Itl K a).go i H∧∃N:St→Hp→Prop,(∀σ' H',N σ' H'→∃m',m' < m∧W (i+1) m' σ' H')∧∀x H',(Itl K a).yld i H x H'→g x σ H' fun σ2 H2=>tb {D with nx:=N,ct:=N,bk:=D.nx} σ2 H2):=by
 refine ⟨fun i m σ H=>m=xs.length - i∧i≤xs.length∧Pv i σ H,⟨xs.length,by simp,xo _,h0⟩,?_⟩
 rintro i m σ H ⟨rfl,hi,p⟩
 have q:=hl i σ H hi p
 by_cases hlt:i < xs.length
 · refine .inr ⟨⟨xs,xs[i],q,by simp [hlt]⟩,Pv (i+1),fun σ' H' p'=>⟨xs.length - (i+1),by omega,rfl,hlt,p'⟩,fun x H' y=> ?_⟩
   obtain ⟨e,y⟩:=y
   subst e
   exact hs i x σ _ (y xs q) p
 · have e:i=xs.length:=by omega
   subst e
   exact .inl ⟨⟨xs,q,wO _⟩,hd σ H p⟩
theorem cb {lo:Int} {n:Nat} {g:TG} {tb:TS} {D:Ends} {σ:St} {H:Hp} (Pv:Nat→St→Hp→Prop) (h0:Pv 0 σ H)
 (hs:∀i σ H,i < n→Pv i σ H→g (.int (lo+i)) σ H fun σ2 H2=>tb {D with nx:=Pv (i+1),ct:=Pv (i+1),bk:=D.nx} σ2 H2) (hd:∀σ H,Pv n σ H→D.nx σ H):
 ∃W:Nat→Nat→St→Hp→Prop,(∃m,W 0 m σ H)∧∀i m σ H,W i m σ H→
  ((Itr lo n).stop i H∧D.nx σ H)∨((Itr lo n).go i H∧∃N:St→Hp→Prop,(∀σ' H',N σ' H'→∃m',m' < m∧W (i+1) m' σ' H')∧∀x H',(Itr lo n).yld i H x H'→g x σ H' fun σ2 H2=>tb {D with nx:=N,ct:=N,bk:=D.nx} σ2 H2):=by
 refine ⟨fun i m σ H=>m=n - i∧i≤n∧Pv i σ H,⟨n,by simp,xo _,h0⟩,?_⟩
 rintro i m σ H ⟨rfl,hi,p⟩
 by_cases hlt:i < n
 · refine .inr ⟨hlt,Pv (i+1),fun σ' H' p'=>⟨n - (i+1),by omega,rfl,hlt,p'⟩,fun x H' y=> ?_⟩
   obtain ⟨e,y⟩:=y
   subst e y
   exact hs i σ _ hlt p
 · have e:i=n:=by omega
   subst e
   exact .inl ⟨wO _,hd σ H p⟩
open PySem PySem.Spec PyProof.Rows
abbrev R2:=V→V→Hp→VK→Prop
def OpR (X:Cx) (f:Value→Value→Sem Value) (r:R2):Prop:=
 ∀(pins:List (Addr×Obj)) (s:Shared) (σ:St) (H:Hp) (x y:V) (v u:Value) (Q:VK),Inv X pins σ H s→RelV x v→RelV y u→r x y H Q→
  wpAny (model X.prog X.w) X.A (f v u) (EP X pins σ Q) X.xe s
def UnR (X:Cx) (f:Value→Sem Value) (r:V→Hp→VK→Prop):Prop:=
 ∀(pins:List (Addr×Obj)) (s:Shared) (σ:St) (H:Hp) (x:V) (v:Value) (Q:VK),Inv X pins σ H s→RelV x v→r x H Q→
  wpAny (model X.prog X.w) X.A (f v) (EP X pins σ Q) X.xe s
def cy (X:Cx) (f:Value) (r:List V→Hp→VK→Prop):Prop:=
 ∀(pins:List (Addr×Obj)) (s:Shared) (σ:St) (H:Hp) (xs:List V) (us:List Value) (Q:VK),Inv X pins σ H s→Vals xs us→r xs H Q→
  wpAny (model X.prog X.w) X.A (call f us) (EP X pins σ Q) X.xe s
def TruR (X:Cx) (r:V→Hp→(Bool→Hp→Prop)→Prop):Prop:=
 ∀(pins:List (Addr×Obj)) (s:Shared) (σ:St) (H:Hp) (x:V) (v:Value) (Q:Bool→Hp→Prop),Inv X pins σ H s→RelV x v→r x H Q→
  wpAny (model X.prog X.w) X.A (truthy v) (TP X pins σ Q) X.xe s
def tOp (r:R2) (ta tb:TE):TE:=fun σ H Q=>ta σ H fun x H1=>tb σ H1 fun y H2=>r x y H2 Q
def tUn (r:V→Hp→VK→Prop) (ta:TE):TE:=fun σ H Q=>ta σ H fun x H1=>r x H1 Q
def rI (C:Int→Int→Prop) (g:Int→Int→V):R2:=fun x y H Q=>∃i j,x= .int i∧y= .int j∧C i j∧Q (g i j) H
def rI0 (g:Int→Int→V):R2:=fun x y H Q=>∃i j,x= .int i∧y= .int j∧Q (g i j) H
def rU (g:Int→V):V→Hp→VK→Prop:=fun x H Q=>∃i,x= .int i∧Q (g i) H
section
variable {X:Cx} {a b c:Expr} {ta tb tc:TE} {pos:Pos}
theorem binT (ha:PE X a ta) (hb:PE X b tb) {pins:List (Addr×Obj)} {s:Shared} {σ:St} {H:Hp} {R:V→V→Hp→Prop} (I:Inv X pins σ H s)
 (h:ta σ H fun x H1=>tb σ H1 fun y H2=>R x y H2) {Q:Value→Shared→Prop} {f:Value→Value→Sem Value}
 (hf:∀v u s2 x y H2,Inv X pins σ H2 s2→RelV x v→RelV y u→R x y H2→wpAny (model X.prog X.w) X.A (f v u) Q X.xe s2):
 wpAny (model X.prog X.w) X.A (eval a X.env) (fun v s₁=>wpAny (model X.prog X.w) X.A (eval b X.env) (fun u s₂=>wpAny (model X.prog X.w) X.A (f v u) Q X.xe s₂) X.xe s₁) X.xe s:=by
 refine thn (ha pins s σ H _ I h) fun v s1 ⟨x,H1,I1,r1,q1⟩=> ?_
 refine thn (hb pins s1 σ H1 _ I1 q1) fun u s2 ⟨y,H2,I2,r2,q2⟩=> ?_
 exact hf v u s2 x y H2 I2 r1 r2 q2
theorem aA {op:Operator} {r:R2} (ho:OpR X (binaryOp op) r) (ha:PE X a ta) (hb:PE X b tb):PE X (.BinOp a op b pos) (tOp r ta tb):=by
 intro pins s σ H Q I h
 exact wpAny_BinOp (binT ha hb I h fun v u s2 x y H2 I2 rx ry q=>ho pins s2 σ H2 x y v u Q I2 rx ry q)
theorem lL {op:UnaryOp} {r:V→Hp→VK→Prop} (ho:UnR X (unaryOp op) r) (ha:PE X a ta):PE X (.UnaryOp op a pos) (tUn r ta):=by
 intro pins s σ H Q I h
 exact UnaryOp_ (thn (ha pins s σ H _ I h) fun v s1 ⟨x,H1,I1,r1,q1⟩=>ho pins s1 σ H1 x v Q I1 r1 q1)
theorem opI {f:Value→Value→Sem Value} {C:Int→Int→Prop} {g:Int→Int→Int}
 (rule:∀(i j:Int) (t u:Tok) (s:Shared) (Q:Value→Shared→Prop) (E:Value→Shared→Prop),C i j→Q (.int (g i j) s.toks) {s with toks:=s.toks+1}→wpAny (model X.prog X.w) X.A (f (.int i t) (.int j u)) Q E s):
 OpR X f (rI C fun i j=> .int (g i j)):=by
 intro pins s σ H x y v u Q I rx ry h
 obtain ⟨i,j,rfl,rfl,hc,q⟩:=h
 obtain ⟨t,rfl⟩:=rx
 obtain ⟨t',rfl⟩:=ry
 exact rule i j t t' s _ _ hc ⟨.int (g i j),H,I.tok _,⟨_,rfl⟩,q⟩
theorem opI0 {f:Value→Value→Sem Value} {g:Int→Int→Int}
 (rule:∀(i j:Int) (t u:Tok) (s:Shared) (Q:Value→Shared→Prop) (E:Value→Shared→Prop),Q (.int (g i j) s.toks) {s with toks:=s.toks+1}→wpAny (model X.prog X.w) X.A (f (.int i t) (.int j u)) Q E s):
 OpR X f (rI0 fun i j=> .int (g i j)):=by
 intro pins s σ H x y v u Q I rx ry h
 obtain ⟨i,j,rfl,rfl,q⟩:=h
 obtain ⟨t,rfl⟩:=rx
 obtain ⟨t',rfl⟩:=ry
 exact rule i j t t' s _ _ ⟨.int (g i j),H,I.tok _,⟨_,rfl⟩,q⟩
theorem opB0 {f:Value→Value→Sem Value} {g:Int→Int→Bool}
 (rule:∀(i j:Int) (t u:Tok) (s:Shared) (Q:Value→Shared→Prop) (E:Value→Shared→Prop),Q (.bool (g i j)) s→wpAny (model X.prog X.w) X.A (f (.int i t) (.int j u)) Q E s):
 OpR X f (rI0 fun i j=> .bl (g i j)):=by
 intro pins s σ H x y v u Q I rx ry h
 obtain ⟨i,j,rfl,rfl,q⟩:=h
 obtain ⟨t,rfl⟩:=rx
 obtain ⟨t',rfl⟩:=ry
 exact rule i j t t' s _ _ ⟨.bl (g i j),H,I,rfl,q⟩
def CDiv (i j:Int):Prop:=0 < j∧j < 1073741824
def CMul (i j:Int):Prop:=(-(2^64) < i∧i < 2^64)∨(-(2^64) < j∧j < 2^64)
theorem CMul.ok {i j:Int} (h:CMul i j):IntMulOk i j:=by
 rcases h with ⟨h1,h2⟩|⟨h1,h2⟩
 · exact .of_left (intBits_le_64 h1 h2)
 · exact .of_right (intBits_le_64 h1 h2)
theorem aY:OpR X (binaryOp .Add) (rI0 fun i j=> .int (i+j)):=opI0 fun _ _ _ _ _ _ _ q=>add_int q
theorem c9:OpR X (binaryOp .Mult) (rI CMul fun i j=> .int (i*j)):=opI fun _ _ _ _ _ _ _ hc q=>mul_int q hc.ok
theorem fi:OpR X (binaryOp .FloorDiv) (rI CDiv fun i j=> .int (i / j)):=opI fun i j _ _ _ _ _ hc q=>by
 have h1:(0:Int) < j:=hc.1
 have h2:j < 1073741824:=hc.2
 exact floordiv_int (by omega) (by rw [Int.fdiv_eq_ediv_of_nonneg i (by omega)];exact q) (.inl (PyProof.noPylong_small (by omega)))
theorem cV:OpR X (binaryOp .Mod) (rI (fun _ j=>0 < j) fun i j=> .int (i%j)):=opI fun i j _ _ _ _ _ hc q=>by
 have h1:(0:Int) < j:=hc
 exact mod_int' (by omega) (by rw [Int.fmod_eq_emod_of_nonneg i (by omega)];exact q)
theorem unI {f:Value→Sem Value} {g:Int→Int}
 (rule:∀(i:Int) (t:Tok) (s:Shared) (Q:Value→Shared→Prop) (E:Value→Shared→Prop),Q (.int (g i) s.toks) {s with toks:=s.toks+1}→wpAny (model X.prog X.w) X.A (f (.int i t)) Q E s):
 UnR X f (rU fun i=> .int (g i)):=by
 intro pins s σ H x v Q I rx h
 obtain ⟨i,rfl,q⟩:=h
 obtain ⟨t,rfl⟩:=rx
 exact rule i t s _ _ ⟨.int (g i),H,I.tok _,⟨_,rfl⟩,q⟩
theorem ij:UnR X (unaryOp .USub) (rU fun i=> .int (-i)):=unI fun _ _ _ _ _ q=>neg_int q
end
noncomputable def scal:V→V→Bool
 | .non, .non=>true| .non, .int _=>true| .int _, .non=>true| .non, .bl _=>true| .bl _, .non=>true| .non, .str _=>true| .str _, .non=>true
 | .int _, .int _=>true| .bl _, .bl _=>true| .str _, .str _=>true| .byt _, .byt _=>true
 | .int _, .str _=>true| .str _, .int _=>true| .bl _, .str _=>true| .str _, .bl _=>true
 |_,_=>false
def rEq:R2:=fun x y H Q=>scal x y=true∧Q (.bl (decide (x=y))) H
def rNe:R2:=fun x y H Q=>scal x y=true∧Q (.bl (!decide (x=y))) H
theorem mE {i j:Int}:decide (V.int i=V.int j)=(i==j):=by
 rw [Bool.eq_iff_iff]
 simp
theorem qp {i j:Bool}:decide (V.bl i=V.bl j)=(i==j):=by
 rw [Bool.eq_iff_iff]
 simp
theorem mw {i j:Str}:decide (V.str i=V.str j)=(i==j):=by
 rw [Bool.eq_iff_iff]
 simp
theorem mH {i j:Array UInt8}:decide (V.byt i=V.byt j)=(i.toList==j.toList):=by
 rw [Bool.eq_iff_iff]
 cases i
 cases j
 simp
section
variable {X:Cx} {a b c:Expr} {ta tb tc:TE} {pos:Pos}
theorem aQ {pins:List (Addr×Obj)} {σ:St} {H:Hp} {s:Shared} {Q:VK} {k k':Bool} (I:Inv X pins σ H s) (q:Q (.bl k) H) (e:k=k'):EP X pins σ Q (.bool k') s:=by
 subst e
 exact ⟨.bl k,H,I,rfl,q⟩
theorem cS:OpR X (compareOp .Eq) rEq:=by
 intro pins s σ H x y v u Q I rx ry h
 obtain ⟨hs,q⟩:=h
 cases x with
 |non=>
  cases rx
  cases y with
  |non=>cases ry;exact PySem.EqNone.eq_none_none (aQ I q (by simp))
  |bl j=>cases ry;exact PySem.EqNone.eq_none_bool (aQ I q (by simp))
  |int j=>obtain ⟨t',rfl⟩:=ry;exact PySem.EqNone.eq_none_int (aQ I q (by simp))
  |str j=>obtain ⟨t',rfl⟩:=ry;exact PySem.EqNone.eq_none_str (aQ I q (by simp))
  |_=>exact absurd (show false=true from hs) x9
 |bl i=>
  cases rx
  cases y with
  |non=>cases ry;exact PySem.EqNone.eq_bool_none (aQ I q (by simp))
  |bl j=>cases ry;exact eq_bool (aQ I q qp)
  |str j=>obtain ⟨t',rfl⟩:=ry;exact PySem.EqMixed.eq_bool_str (aQ I q (by simp))
  |_=>exact absurd (show false=true from hs) x9
 |int i=>
  obtain ⟨t,rfl⟩:=rx
  cases y with
  |non=>cases ry;exact PySem.EqNone.eq_int_none (aQ I q (by simp))
  |int j=>obtain ⟨t',rfl⟩:=ry;exact eq_int (aQ I q mE)
  |str j=>obtain ⟨t',rfl⟩:=ry;exact PySem.EqMixed.eq_int_str (aQ I q (by simp))
  |_=>exact absurd (show false=true from hs) x9
 |str i=>
  obtain ⟨t,rfl⟩:=rx
  cases y with
  |non=>cases ry;exact PySem.EqNone.eq_str_none (aQ I q (by simp))
  |bl j=>cases ry;exact PySem.EqMixed.eq_str_bool (aQ I q (by simp))
  |int j=>obtain ⟨t',rfl⟩:=ry;exact PySem.EqMixed.eq_str_int (aQ I q (by simp))
  |str j=>obtain ⟨t',rfl⟩:=ry;exact eq_str (aQ I q mw)
  |_=>exact absurd (show false=true from hs) x9
 |byt i=>
  obtain ⟨t,rfl⟩:=rx
  cases y with
  |byt j=>obtain ⟨t',rfl⟩:=ry;exact PySem.W.eq_bytes (aQ I q mH)
  |_=>exact absurd (show false=true from hs) x9
 |_=>cases y<;>exact absurd (show false=true from hs) x9
theorem eO:OpR X (compareOp .NotEq) rNe:=by
 intro pins s σ H x y v u Q I rx ry h
 obtain ⟨hs,q⟩:=h
 cases x with
 |non=>
  cases rx
  cases y with
  |non=>cases ry;exact PySem.EqNone.ne_none_none (aQ I q (by simp))
  |bl j=>cases ry;exact PySem.EqNone.ne_none_bool (aQ I q (by simp))
  |int j=>obtain ⟨t',rfl⟩:=ry;exact PySem.EqNone.ne_none_int (aQ I q (by simp))
  |str j=>obtain ⟨t',rfl⟩:=ry;exact PySem.EqNone.ne_none_str (aQ I q (by simp))
  |_=>exact absurd (show false=true from hs) x9
 |bl i=>
  cases rx
  cases y with
  |non=>cases ry;exact PySem.EqNone.ne_bool_none (aQ I q (by simp))
  |bl j=>cases ry;exact ne_bool (aQ I q (congrArg not qp))
  |str j=>obtain ⟨t',rfl⟩:=ry;exact PySem.EqMixed.ne_bool_str (aQ I q (by simp))
  |_=>exact absurd (show false=true from hs) x9
 |int i=>
  obtain ⟨t,rfl⟩:=rx
  cases y with
  |non=>cases ry;exact PySem.EqNone.ne_int_none (aQ I q (by simp))
  |int j=>obtain ⟨t',rfl⟩:=ry;exact ne_int (aQ I q (congrArg not mE))
  |str j=>obtain ⟨t',rfl⟩:=ry;exact PySem.EqMixed.ne_int_str (aQ I q (by simp))
  |_=>exact absurd (show false=true from hs) x9
 |str i=>
  obtain ⟨t,rfl⟩:=rx
  cases y with
  |non=>cases ry;exact PySem.EqNone.ne_str_none (aQ I q (by simp))
  |bl j=>cases ry;exact PySem.EqMixed.ne_str_bool (aQ I q (by simp))
  |int j=>obtain ⟨t',rfl⟩:=ry;exact PySem.EqMixed.ne_str_int (aQ I q (by simp))
  |str j=>obtain ⟨t',rfl⟩:=ry;exact ne_str (aQ I q (congrArg not mw))
  |_=>exact absurd (show false=true from hs) x9
 |byt i=>
  obtain ⟨t,rfl⟩:=rx
  cases y with
  |byt j=>obtain ⟨t',rfl⟩:=ry;exact PySem.W.ne_bytes (aQ I q (congrArg not mH))
  |_=>exact absurd (show false=true from hs) x9
 |_=>cases y<;>exact absurd (show false=true from hs) x9
theorem tE:OpR X (compareOp .Lt) (rI0 fun i j=> .bl (decide (i < j))):=opB0 fun _ _ _ _ _ _ _ q=>lt_int q
theorem tF:OpR X (compareOp .LtE) (rI0 fun i j=> .bl (decide (i≤j))):=opB0 fun _ _ _ _ _ _ _ q=>le_int q
theorem tG:OpR X (compareOp .Gt) (rI0 fun i j=> .bl (decide (j < i))):=opB0 fun _ _ _ _ _ _ _ q=>gt_int q
theorem aR (b:Expr) {op:CmpOp} (h:op≠ .In:=by decide) (h2:op≠ .NotIn:=by decide):behindInMarks op b=false:=by
 have e1:(op==CmpOp.In)=false:=by cases op<;>first|rfl|exact absurd rfl h
 have e2:(op==CmpOp.NotIn)=false:=by cases op<;>first|rfl|exact absurd rfl h2
 cases b<;>simp [behindInMarks,e1,e2]
theorem rE {op:CmpOp} {r:R2} (ho:OpR X (compareOp op) r) (ha:PE X a ta) (hb:PE X b tb) (hm:behindInMarks op b=false):PE X (.Compare a [op] [b] pos) (tOp r ta tb):=by
 intro pins s σ H Q I h
 exact wpAny_Compare1 (binT ha hb I h fun v u s2 x y H2 I2 rx ry q=>ho pins s2 σ H2 x y v u Q I2 rx ry q) hm
def t7 (t:TE):TT:=fun σ H Q=>t σ H fun x H'=>∃k,x= .bl k∧Q k H'
theorem aN {op:CmpOp} {r:R2} (ho:OpR X (compareOp op) r) (ha:PE X a ta) (hb:PE X b tb) (hm:behindInMarks op b=false):PT X (.Compare a [op] [b] pos) (t7 (tOp r ta tb)):=by
 intro pins s σ H Q I h
 refine wpAny_isTrue_Compare1 (thn (ha pins s σ H _ I h) fun v s1 ⟨x,H1,I1,r1,q1⟩=>thn (hb pins s1 σ H1 _ I1 q1) fun u s2 ⟨y,H2,I2,r2,q2⟩=>
  thn (ho pins s2 σ H2 x y v u _ I2 r1 r2 q2) fun c s3 ⟨z,H3,I3,r3,k,e,q3⟩=> ?_) hm
 subst e
 cases r3
 exact wpAny_truthy_bool ⟨H3,I3,q3⟩
def uo (r r':R2) (ta tb tc:TE):TE:=fun σ H Q=>ta σ H fun x H1=>tb σ H1 fun y H2=>r x y H2 fun z H3=>∃k,z= .bl k∧
 (if k=true then tc σ H3 fun w' H4=>r' y w' H4 Q else Q (.bl false) H3)
theorem p5 {op op':CmpOp} {r r':R2} (ho:OpR X (compareOp op) r) (ho':OpR X (compareOp op') r') (ha:PE X a ta) (hb:PE X b tb) (hc:PE X c tc)
 (hm:lastMarks [op,op'] [b,c]=false:=by with_unfolding_all rfl):PT X (.Compare a [op,op'] [b,c] pos) (t7 (uo r r' ta tb tc)):=by
 intro pins s σ H Q I h
 refine isTrue_chain (thn (ha pins s σ H _ I h) fun v s1 ⟨x,H1,I1,r1,q1⟩=>test_link (thn (hb pins s1 σ H1 _ I1 q1) fun u s2 ⟨y,H2,I2,r2,q2⟩=>
  thn (ho pins s2 σ H2 x y v u _ I2 r1 r2 q2) fun d s3 ⟨z,H3,I3,r3,k,e,q3⟩=> ?_)) hm
 subst e
 cases r3
 refine wpAny_truthy_bool ?_
 cases k with
 |false=>
  obtain ⟨k',e',q'⟩:=q3
  cases e'
  exact ite_ff ⟨H3,I3,q'⟩
 |true=>
  refine ite_tt (test_last (thn (hc pins s3 σ H3 _ I3 q3) fun w' s4 ⟨z',H4,I4,r4,q4⟩=>thn (ho' pins s4 σ H4 y z' u w' _ I4 r2 r4 q4) fun d' s5 ⟨z2,H5,I5,r5,k2,e2,q5⟩=> ?_))
  subst e2
  cases r5
  exact wpAny_truthy_bool ⟨H5,I5,q5⟩
def TruV (K:PySem.W.Frag) (x:V) (H:Hp) (k:Bool):Prop:=
 match x with
 | .non=>k=false
 | .bl b=>k=b
 | .int i=>k=(i !=0)
 | .str y=>y.length≤sizeLine∧k=((y.length:Int) !=0)
 | .byt y=>y.size≤sizeLine∧k=((y.size:Int) !=0)
 | .ref p=>(∃xs,SqL K H p xs∧k= !xs.isEmpty)∨(∃xs,SqT K H p xs∧k= !xs.isEmpty)∨∃kvs,H p=some (.dK kvs)∧k= !kvs.isEmpty
 |_=>False
theorem kE {κ:Type} {kvs:List (κ×V)} {vs:List (κ×Value)} (r:KV kvs vs):(!vs.isEmpty)= !kvs.isEmpty:=by
 cases r<;>rfl
theorem gi {xs:List V} {its:List Value} (r:Vals xs its):(!its.toArray.isEmpty)= !xs.isEmpty:=by
 cases r<;>simp
theorem ge:(sizeLine:Nat) < 2^63:=by rw [sizeLine_eq];decide
theorem tW:TruR X (fun x H Q=>∃k,TruV X.K x H k∧Q k H):=by
 intro pins s σ H x v Q I rx h
 obtain ⟨k,e,q⟩:=h
 have hl:=ge
 have hs:sizeLine=16777216:=sizeLine_eq
 cases x with
 |non=>
  cases rx
  have e':k=false:=e
  subst e'
  exact truthy_none ⟨H,I,q⟩
 |bl b=>
  cases rx
  have e':k=b:=e
  subst e'
  exact wpAny_truthy_bool ⟨H,I,q⟩
 |int i=>
  obtain ⟨t,rfl⟩:=rx
  have e':k=(i !=0):=e
  subst e'
  exact PySem.P.truthy_int ⟨H,I,q⟩
 |str y=>
  obtain ⟨t,rfl⟩:=rx
  obtain ⟨hy,e'⟩:y.length≤sizeLine∧k=((y.length:Int) !=0):=e
  subst e'
  exact PySem.P.truthy_str (by omega) ⟨H,I.tok _,q⟩
 |byt y=>
  obtain ⟨t,rfl⟩:=rx
  obtain ⟨hy,e'⟩:y.size≤sizeLine∧k=((y.size:Int) !=0):=e
  subst e'
  exact PySem.W.truthy_bytes (by omega) ⟨H,I.tok _,q⟩
 |ref p=>
  cases rx
  have e':(∃xs,SqL X.K H p xs∧k= !xs.isEmpty)∨(∃xs,SqT X.K H p xs∧k= !xs.isEmpty)∨∃kvs,H p=some (.dK kvs)∧k= !kvs.isEmpty:=e
  rcases e' with ⟨xs,hx,e'⟩|⟨xs,hx,e'⟩|⟨kvs,hx,e'⟩
  · subst e'
    obtain ⟨its,r,pl,hz⟩:=I.list hx
    have hlen:=r.length
    exact wpAny_truthy_list pl.isList (by simp only [wU];omega) ⟨H,I.tok _,by rw [gi r];exact q⟩
  · subst e'
    obtain ⟨its,r,pl,hz⟩:=I.tuple hx
    have hlen:=r.length
    exact truthy_tuple pl (by simp only [wU];omega) ⟨H,I.tok _,by rw [gi r];exact q⟩
  · subst e'
    obtain ⟨hz,hS,vs,r,m⟩:kvs.length≤sizeLine∧(p==sysModules)=false∧∃vs,KV kvs vs∧s.heap.DictOf (aE X.prog X.w) p vs:=I.hok p _ hx
    have hlen:kvs.length=vs.length:=Paired.length r
    exact wpAny_truthy_dict hS m (by omega) ⟨H,I.tok _,by rw [kE r];exact q⟩
 |_=>exact (show False from e).elim
theorem dQ (ha:PE X a ta) (he:∀whole,isTrue a X.env whole=(do let v←whole;standAt a.pos;holding [v] (truthy v))):
 PT X a (fun σ H Q=>ta σ H fun x H'=>∃k,TruV X.K x H' k∧Q k H'):=by
 intro pins s σ H Q I h
 exact isTrue_plain (thn (ha pins s σ H _ I h) fun v s1 ⟨x,H1,I1,r1,q1⟩=>tW pins s1 σ H1 x v Q I1 r1 q1) (he _)
theorem fX:OpR X (binaryOp .Add) (fun x y H Q=>∃i j,x= .str i∧y= .str j∧i.length+j.length≤sizeLine∧Q (.str (i++j)) H):=by
 intro pins s σ H x y v u Q I rx ry h
 obtain ⟨i,j,rfl,rfl,hz,q⟩:=h
 obtain ⟨t,rfl⟩:=rx
 obtain ⟨t',rfl⟩:=ry
 exact add_str (fun t' tk=>⟨.str (i++j),H,I.tok _,⟨_,rfl⟩,q⟩) hz
theorem dw {x:V} {us:List Value} (r:Vals [x] us):∃u,us= [u]∧RelV x u:=by
 cases r with
 |cons r1 r2=>cases r2;exact ⟨_,rfl,r1⟩
end
open PySem PySem.Spec PyProof.Rows
structure ObjM (h:Heap) (x dx C:Addr) (mA:Str→Option Value):Prop where
 obj:h.get? x=some (PySem.W.instObj C dx)
 ns:h.Ns1 dx mA
 ne:dx≠x
theorem nG {h:Heap} {dx:Addr} {mA:Str→Option Value} (n:h.Ns1 dx mA):∃od,h.get? dx=some od∧∀name,PySem.W.lookIn name od=some (mA name):=by
 obtain ⟨o,es,ep,ho,hd,hk,_,hm⟩:=n
 refine ⟨o,ho,fun name=> ?_⟩
 have e:=hm name
 unfold nsFind findBy at e
 rw [←Array.find?_toList] at e
 unfold PySem.W.lookIn
 rw [hd]
 dsimp only
 split
 · rename_i y q
   rw [q] at e
   exact congrArg some e
 · rename_i q
   rw [q] at e
   have a:es.toList.any (·.refKey)=false:=by
    rw [List.any_eq_false]
    intro y hy
    obtain ⟨z,t,hkey⟩:=hk y (Array.mem_toList_iff.mp hy)
    simp [DictEntry.refKey,hkey]
   have a':¬es.toList.any (·.refKey)=true:=by rw [a];exact x9
   rw [if_neg a']
   exact congrArg some e
theorem ObjM.look {h:Heap} {x dx C:Addr} {mA:Str→Option Value} (I:ObjM h x dx C mA):∃od,PySem.W.InstAt h x (PySem.W.instObj C dx) C (some od)∧∀name,PySem.W.lookIn name od=some (mA name):=
 let ⟨od,ho,hl⟩:=nG I.ns
 ⟨od,⟨I.obj,rfl,rfl,ho⟩,hl⟩
section
variable {prog:Program} {w:World} {A:Around} {E:Value→Shared→Prop} {s:Shared} {K:PySem.W.Frag} {x dx C f:Addr} {mA:Str→Option Value} {name:Str} {v:Value}
theorem sj {expr:Bool} {Q:Value→Shared→Prop} (X:K.In s.heap) (I:ObjM s.heap x dx C mA) (hg:PySem.W.plainGet K C name=true) (hh:PySem.W.hasDictIn K C=true)
 (ha:PySem.W.findIn K (.ref C) name=some none) (hv:mA name=some v) (hv':PySem.W.handedIn v=true) (h:Q v {s with toks:=s.toks+1}):
 wpAny (model prog w) A (getAttr (.ref x) name expr) Q E s:=by
 obtain ⟨od,J,hl⟩:=I.look
 exact PySem.W.get_value X J (PySem.W.plainGet_of hg).1 (PySem.W.findObj_own hh ha rfl (by rw [hl,hv])) hv' h
theorem qY {ns:List Str} {Q:Unit→Shared→Prop} (X:K.In s.heap) (I:ObjM s.heap x dx C mA)
 (hs:PySem.W.findIn K (.ref C) "__setattr__"=some (some (.builtin "object.__setattr__"))) (hp:PySem.W.plainOver K C=true) (ht:PySem.W.takerIn K C name=some none) (hh:PySem.W.hasDictIn K C=true)
 (hw:PySem.Within mA ns) (hsz:ns.length≤sizeLine)
 (h:∀h',ObjM h' x dx C (fun y=>if y=name then some v else mA y)→Heap.SameBut dx s.heap h'→Q () {s with heap:=h',toks:=s.toks+2}):
 wpAny (model prog w) A (setAttr (.ref x) name v) Q E s:=by
 obtain ⟨od,J,hl⟩:=I.look
 refine PySem.W.set_plain X J hs (PySem.W.osa_open (s:= {s with toks:=s.toks+1}) (r:=none) X J hp ht fun b=> ?_)
 obtain ⟨cd,hc,hd'⟩:=PySem.W.any_some hh
 have hx:s.heap.get? x=some ⟨.ref C,some dx, .plain, #[]⟩:=I.obj
 refine wpAny_bind (wpAny_pure (wpAny_bind (wpAny_bind (wpAny_loadPart hx (wpAny_bind (PySem.W.Looks.here (s:= {s with toks:=s.toks+1}) (PySem.W.looks_clsIn X hc) ?_))))))
 rw [hd']
 refine wpAny_pure (a:=some dx) (wpAny_bind (wpAny_pure (wpAny_bind ?_)))
 refine wpAny_nsSet1 (s:= {s with toks:=s.toks+1}) I.ns fun h' hn2 hs2=> ?_
 obtain ⟨oD,esD,epD,hoD,hdD,hcD⟩:=hn2.count (PySem.Within.cons name v hw)
 refine wpAny_bind (wpAny_lookBehind hoD (by rw [hdD];exact pastItsLine_dict (xI hcD (by rw [wV];omega))) ?_)
 exact wpAny_pure (h _ ⟨(hs2.2 _ (Ne.symm I.ne)).trans I.obj,hn2,I.ne⟩ hs2)
theorem pD {R:Result→Shared→Prop} {vs:List Value} {kw:List (Str×Value)} (X:K.In s.heap) (hm:PySem.W.makesIn K C=true)
 (hi:PySem.W.findIn K (.ref C) "__init__"=some (some (.ref f))) (hf:PySem.W.typeIn K (.ref f)=some (.type "function"))
 (h:codeAny (model prog w) (A.under (.builtin "type.__call__" ⟨.ref C::vs,kw⟩)) (.call (.ref f) ⟨.ref (s.heap.objs.size+1)::vs,kw⟩) (PySem.W.InitBack (s.heap.objs.size+1) R)
  {s with heap:=(s.heap.push PySem.W.emptyDict).push (PySem.W.instObj C s.heap.objs.size)}):
 codeAny (model prog w) A (.call (.ref C) ⟨vs,kw⟩) R s:=by
 obtain ⟨hh,g,d,t,os⟩:=s
 exact PySem.W.make_core (PySem.W.makes_of X hm) (PySem.W.looks_findIn X hi) (fun self=>PySem.W.bind_fn X self hf) (.inl rfl) h
end
noncomputable def putF (f:Str) (v:V):List (Str×V)→List (Str×V)
 | []=> [(f,v)]
 |(g,x)::r=>if g=f then (g,v)::r else (g,x)::putF f v r
theorem eP (f g:Str) (v:V):∀fs:List (Str×V),(putF f v fs).lookup g=if g=f then some v else fs.lookup g
 | []=>by
  show List.lookup g [(f,v)]=_
  by_cases h:g=f
  · have hb:(g==f)=true:=beq_iff_eq.mpr h
    simp only [List.lookup,hb,if_pos h]
  · have hb:(g==f)=false:=beq_eq_false_iff_ne.mpr h
    simp only [List.lookup,hb,if_neg h]
 |(k,x)::r=>by
  have ih:=eP f g v r
  rw [show putF f v ((k,x)::r)=(if k=f then (k,v)::r else (k,x)::putF f v r) from rfl]
  by_cases hk:k=f
  · rw [if_pos hk]
    by_cases h:g=k
    · have hb:(g==k)=true:=beq_iff_eq.mpr h
      simp only [List.lookup,hb,if_pos (h.trans hk)]
    · have hb:(g==k)=false:=beq_eq_false_iff_ne.mpr h
      simp only [List.lookup,hb,if_neg (fun e:g=f=>h (e.trans hk.symm))]
  · rw [if_neg hk]
    by_cases h:g=k
    · have hb:(g==k)=true:=beq_iff_eq.mpr h
      simp only [List.lookup,hb,if_neg (fun e:g=f=>hk (h.symm.trans e))]
    · have hb:(g==k)=false:=beq_eq_false_iff_ne.mpr h
      simp only [List.lookup,hb]
      exact ih
theorem eI (f:Str) (v:V):∀fs:List (Str×V),f∈(putF f v fs).map (·.1)∧∀g,g∈fs.map (·.1)→g∈(putF f v fs).map (·.1)
 | []=>⟨by simp [putF],fun g h=>by simp at h⟩
 |(k,x)::r=>by
  obtain ⟨i1,i2⟩:=eI f v r
  rw [show putF f v ((k,x)::r)=(if k=f then (k,v)::r else (k,x)::putF f v r) from rfl]
  by_cases hk:k=f
  · rw [if_pos hk]
    subst hk
    exact ⟨by simp,fun g h=>by simpa using h⟩
  · rw [if_neg hk]
    refine ⟨?_,fun g h=> ?_⟩
    · rw [wZ]
      exact wQ _ i1
    · rw [wZ] at h ⊢
      rcases wY.mp h with e|e
      · exact wY.mpr (.inl e)
      · exact wQ _ (i2 g e)
theorem eR (f:Str) (v:V):∀fs:List (Str×V),(putF f v fs).length≤fs.length+1
 | []=>by simp [putF]
 |(k,x)::r=>by
  have ih:=eR f v r
  rw [show putF f v ((k,x)::r)=(if k=f then (k,v)::r else (k,x)::putF f v r) from rfl]
  by_cases hk:k=f
  · rw [if_pos hk,wV,wV];omega
  · rw [if_neg hk,wV,wV];omega
theorem RelO.some_of {v:V} {o:Option Value} (r:RelO (some v) o):∃u,o=some u∧RelV v u:=by
 cases o with
 |none=>exact (show False from r).elim
 |some u=>exact ⟨u,rfl,r⟩
theorem nJ {v:V} {u:Value} (r:RelV v u):PySem.W.handedIn u=true:=by
 cases v with
 |non=>cases (show u=Value.none from r);rfl
 |bl b=>cases (show u=Value.bool b from r);rfl
 |int i=>obtain ⟨t,e⟩:=(show∃t,u=Value.int i t from r);cases e;rfl
 |str x=>obtain ⟨t,e⟩:=(show∃t,u=Value.str x t from r);cases e;rfl
 |byt b=>obtain ⟨t,e⟩:=(show∃t,u=Value.bytes b t from r);cases e;rfl
 |flt b=>obtain ⟨t,e⟩:=(show∃t,u=Value.float b t from r);cases e;rfl
 |ref a=>cases (show u=Value.ref a from r);rfl
 |ty n=>cases (show u=Value.type n from r);rfl
section
variable {P:Program} {w:World} {H H':Hp} {h h':Heap} {a C dx:Addr} {fs fs':List (Str×V)}
theorem iP (hok:HOk P w H h) (e:H a=some (.ins C dx fs)):∃mA,ObjM h a dx C mA∧(∀f,RelO (fs.lookup f) (mA f))∧PySem.Within mA (fs.map (·.1))∧fs.length≤1000∧H dx=some (.own a):=by
 obtain ⟨d,z,ne,ob,mA,n,r,q⟩:=(show ObjOk P w H h a (.ins C dx fs) from hok a _ e)
 exact ⟨mA,⟨ob,n,ne⟩,r,q,z,d⟩
end
structure Cls (K:PySem.W.Frag) (C:Addr):Prop where
 pg:PySem.W.plainGet K C Str.empty=true
 hd:PySem.W.hasDictIn K C=true
 po:PySem.W.plainOver K C=true
 sa:PySem.W.findIn K (.ref C) "__setattr__"=some (some (.builtin "object.__setattr__"))
theorem Cls.get {K:PySem.W.Frag} {C:Addr} (c:Cls K C) (f:Str):PySem.W.plainGet K C f=true:=c.pg
def NoAttr (K:PySem.W.Frag) (C:Addr) (f:Str):Prop:=PySem.W.findIn K (.ref C) f=some none
theorem NoAttr.taker {K:PySem.W.Frag} {C:Addr} {f:Str} (n:NoAttr K C f):PySem.W.takerIn K C f=some none:=by
 unfold PySem.W.takerIn
 rw [show PySem.W.findIn K (.ref C) f=some none from n]
 rfl
structure Con (K:PySem.W.Frag) (C:Addr) (f:Str) (v:V) (u:Value):Prop where
 at_:PySem.W.findIn K (.ref C) f=some (some u)
 rel:RelV v u
 get:PySem.W.specialIn K u "__get__"=some none
 cp:PySem.W.copiedNames.contains f=false
section
variable {X:Cx} {pins:List (Addr×Obj)} {σ:St} {H:Hp} {s:Shared} {a C dx:Addr} {fs:List (Str×V)} {f:Str} {v:V} {A:Around} {E:Value→Shared→Prop}
theorem kH {b:Bool} {Q:Value→Shared→Prop} (I:Inv X pins σ H s) (e:H a=some (.ins C dx fs)) (c:Cls X.K C) (n:NoAttr X.K C f) (l:fs.lookup f=some v)
 (h:∀u s',Inv X pins σ H s'→RelV v u→Q u s'):wpAny (model X.prog X.w) A (getAttr (.ref a) f b) Q E s:=by
 obtain ⟨mA,O,r,_,_,_⟩:=iP I.hok e
 obtain ⟨u,hu,ru⟩:=RelO.some_of (v:=v) (o:=mA f) (by rw [←l];exact r f)
 exact sj I.kIn O (c.get f) c.hd n hu (nJ ru) (h u _ (I.tok _) ru)
theorem jX {y:V} {u:Value} {Q:Unit→Shared→Prop} (I:Inv X pins σ H s) (e:H a=some (.ins C dx fs)) (c:Cls X.K C) (n:NoAttr X.K C f) (hl:fs.length < 1000) (ry:RelV y u)
 (h:∀s',Inv X pins σ (upd H a (.ins C dx (putF f y fs))) s'→Q () s'):wpAny (model X.prog X.w) A (setAttr (.ref a) f u) Q E s:=by
 obtain ⟨mA,O,r,wi,_,ho⟩:=iP I.hok e
 have hz:(fs.map (·.1)).length≤sizeLine:=by rw [wL,sizeLine_eq];omega
 refine qY I.kIn O c.sa c.po n.taker c.hd wi hz fun h' O' sb=>h _ ?_
 have hd:∃o,h'.get? dx=some o:=let ⟨o,_,_,e',_⟩:=O'.ns;⟨o,e'⟩
 refine I.write (x:=a) (e:=dx) (by rw [e];exact True.intro) (.inr ho) (fun b q hb z=>(sb.2 b hb).trans z) hd ?_
 refine ⟨by rw [af O.ne];exact ho,?_,O.ne,O'.obj,_,O'.ns,fun g=> ?_,fun g hg=> ?_⟩
 · have:=eR f y fs;omega
 · show RelO ((putF f y fs).lookup g) (if g=f then some u else mA g)
   rw [eP]
   by_cases q:g=f
   · rw [if_pos q,if_pos q];exact ry
   · rw [if_neg q,if_neg q];exact r g
 · by_cases q:g=f
   · rw [q];exact (eI f y fs).1
   · refine (eI f y fs).2 g (wi g fun z=>hg ?_)
     show (if g=f then some u else mA g)=none
     rw [if_neg q];exact z
theorem Inv.made (I:Inv X pins σ H s):Inv X pins σ (upd (upd H s.heap.objs.size (.own (s.heap.objs.size+1))) (s.heap.objs.size+1) (.ins C s.heap.objs.size []))
 {s with heap:=(s.heap.push PySem.W.emptyDict).push (PySem.W.instObj C s.heap.objs.size)}:=by
 have e1:(s.heap.push PySem.W.emptyDict).get? s.heap.objs.size=some PySem.W.emptyDict:=Heap.get?_push_size s.heap rfl
 have e2:((s.heap.push PySem.W.emptyDict).push (PySem.W.instObj C s.heap.objs.size)).get? (s.heap.objs.size+1)=some (PySem.W.instObj C s.heap.objs.size):=by
  have:=Heap.get?_push_size (s.heap.push PySem.W.emptyDict) (o:=PySem.W.instObj C s.heap.objs.size) rfl
  rwa [Heap.size_push] at this
 have e3:(s.heap.push PySem.W.emptyDict).Ns s.heap.objs.size (fun _=>none):=⟨PySem.W.emptyDict, #[],_,e1,rfl,(fun e he=>absurd he (by simp)),fun _=>rfl⟩
 have I1:=I.laid (a:=s.heap.objs.size) (o:= .own (s.heap.objs.size+1)) (h':=s.heap.push PySem.W.emptyDict) (t':=s.toks) (fun b u q=>Heap.get?_push_of_some _ q) (wO _) ⟨_,e1⟩
 refine I1.laid (a:=s.heap.objs.size+1) (o:= .ins C s.heap.objs.size []) (t':=s.toks) (fun b u q=>Heap.get?_push_of_some _ q) (Nat.le_of_eq (Heap.size_push _ _)) ?_
 have ne:s.heap.objs.size≠s.heap.objs.size+1:=wW (Nat.lt_succ_self _)
 refine ⟨by rw [af ne,a9],xo _,ne,e2,fun _=>none,(Heap.Ns1.of_empty e3).at fun o q=>Heap.get?_push_of_some _ q,fun _=>True.intro,fun y hy=>absurd rfl hy⟩
theorem sK {prog:Program} {w:World} {env:Env} {e:Expr} {f:Str} {pos:Pos} {s:Shared} {Q:Value→Shared→Prop} (hb:attributeBase e f env (eval e env)=eval e env)
 (h:wpAny (model prog w) A (eval e env) (fun o s₁=>wpAny (model prog w) A (getAttr o f true) Q E s₁) E s):wpAny (model prog w) A (eval (.Attribute e f pos) env) Q E s:=
 Attribute_any_ h (by rw [arm_eval_Attribute,hb])
end
def tFld (K:PySem.W.Frag) (ta:TE) (f:Str):TE:=fun σ H Q=>ta σ H fun x H1=>∃a C dx fs v,x= .ref a∧H1 a=some (.ins C dx fs)∧Cls K C∧NoAttr K C f∧fs.lookup f=some v∧Q v H1
def sFld (K:PySem.W.Frag) (ta tv:TE) (f:Str):TS:=fun D σ H=>tv σ H fun y H1=>ta σ H1 fun x H2=>∃a C dx fs,x= .ref a∧H2 a=some (.ins C dx fs)∧Cls K C∧NoAttr K C f∧fs.length < 1000∧
 D.nx σ (upd H2 a (.ins C dx (putF f y fs)))
section
variable {X:Cx} {o e value:Expr} {f:Str} {pos pos' tpos:Pos} {ta tv:TE}
theorem dg (he:PE X e ta) (hb:attributeBase e f X.env (eval e X.env)=eval e X.env):PE X (.Attribute e f pos) (tFld X.K ta f):=by
 intro pins s σ H Q I h
 refine sK hb (thn (he pins s σ H _ I h) fun u s1 ⟨x,H1,I1,rx,a,C,dx,fs,v,ex,ea,c,n,l,q⟩=> ?_)
 subst ex
 obtain rfl:u=Value.ref a:=rx
 exact kH I1 ea c n l fun u' s2 I2 ru=>⟨v,H1,I2,ru,q⟩
theorem ka (ha:PE X o ta) (hv:PE X value tv) (hs:swapsWith value (some (.Attribute o f pos')) pos.line X.env=pure false):PS X (.Assign [.Attribute o f pos'] value pos) (sFld X.K ta tv f):=by
 intro pins s σ H D I h
 refine plainObj_wpAny_Assign_Attribute (thn (hv pins s σ H _ I h) fun u s1 ⟨y,H1,I1,ry,q⟩=>thn (ha pins s1 σ H1 _ I1 q) fun ov s2 ⟨x,H2,I2,rx,a,C,dx,fs,ex,ea,c,n,l,q2⟩=> ?_) hs
 subst ex
 obtain rfl:ov=Value.ref a:=rx
 exact jX I2 ea c n l ry fun s3 I3=>⟨σ,_,I3,q2⟩
end
section
variable {X:Cx} {pins:List (Addr×Obj)} {σ:St} {H:Hp} {s:Shared} {A:Around} {E:Value→Shared→Prop} {Q:Value→Shared→Prop} {c:Value} {b:Bool}
inductive TyOf (K:PySem.W.Frag) (H:Hp):V→Value→Prop where
 |non:TyOf K H .non (.type "NoneType")
 |bl (x:Bool):TyOf K H (.bl x) (.type "bool")
 |int (i:Int):TyOf K H (.int i) (.type "int")
 |str (x:Str):TyOf K H (.str x) (.type "str")
 |flt (x:UInt64):TyOf K H (.flt x) (.type "float")
 |lst {a:Addr} {xs:List V} (e:H a=some (.lst xs)):TyOf K H (.ref a) (.type "list")
 |frz {a:Addr} {o:Obj} {xs:List V} (e:H a=some (.frz o (.lst xs))):TyOf K H (.ref a) (.type "list")
 |tup {a:Addr} {xs:List V} (e:H a=some (.tup xs)):TyOf K H (.ref a) (.type "tuple")
 |dK {a:Addr} {kvs:List (Key×V)} (e:H a=some (.dK kvs)):TyOf K H (.ref a) (.type "dict")
 |dT {a:Addr} {kvs:List (List Key×V)} (e:H a=some (.dT kvs)):TyOf K H (.ref a) (.type "dict")
 |ins {a C dx:Addr} {fs:List (Str×V)} (e:H a=some (.ins C dx fs)) (cl:Cls K C) (ha:PySem.W.findIn K (.ref C) "__class__"=some (some (.builtin "object.__class__")))
  (hn:PySem.W.specialIn K (.builtin "object.__class__") "__get__"=some (some (.builtin "getset_descriptor.__get__"))) (htk:PySem.W.takesIn K (.builtin "object.__class__")=some true)
  (hm:PySem.W.mroIn K C (.type "object")=some true):TyOf K H (.ref a) (.ref C)
end
open PySem PySem.Spec PyProof.Rows
structure Room (k:Nat) (A:Around):Prop where
 hd:A.handled=none
 dp:A.depth+3*k+5 < recursionLimit
 un:A.units+16*k+200 < cLine
 gd:A.guards=some []
theorem Room.mono {j k:Nat} {A:Around} (r:Room k A) (h:j≤k):Room j A:=⟨r.hd,by have:=r.dp;omega,by have:=r.un;omega,r.gd⟩
theorem Room.deeper {k:Nat} {A:Around} (r:Room (k+1) A) (env:Env):Room k (A.deeper env):=
 ⟨r.hd,by have:=r.dp;show A.depth+1+3*k+5 < _;omega,by have:=r.un;show A.units+3+16*k+200 < _;omega,by first|exact r.gd|(have:=r.gd;simpa [Around.deeper,Around.under] using this)⟩
theorem Room.in1 {k:Nat} {A:Around} (r:Room (k+1) A):Room k A.in1:=
 ⟨r.hd,by have:=r.dp;show A.depth+3*k+5 < _;omega,by have:=r.un;show A.units+1+16*k+200 < _;omega,r.gd⟩
theorem kq {A:Around} {C:Addr} {us:List Value} {kw:List (Str×Value)}:(A.under (.builtin "type.__call__" ⟨.ref C::us,kw⟩)).depth=A.depth+1:=by
 first|rfl|simp [Around.under,Code.weight,Code.isCreation,Code.isGuard,Code.isCaller,Code.frames,Code.isFrame,guardIds]
theorem km {A:Around} {C:Addr} {us:List Value} {kw:List (Str×Value)}:(A.under (.builtin "type.__call__" ⟨.ref C::us,kw⟩)).units=A.units+1:=by
 first|rfl|simp [Around.under,Code.cUnits,Code.frames,Code.isFrame]
theorem Room.make {k:Nat} {A:Around} (r:Room (k+1) A) (C:Addr) (us:List Value) (kw:List (Str×Value)):Room k (A.under (.builtin "type.__call__" ⟨.ref C::us,kw⟩)):=
 ⟨r.hd,by have:=r.dp;rw [kq];omega,by have:=r.un;rw [km];omega,by have:=r.gd;simp [Around.under,Code.guards,Code.isGuard,guardIds,pushGuards,this]⟩
theorem Room.depth {k:Nat} {A:Around} (r:Room k A):A.depth < recursionLimit:=by have:=r.dp;omega
theorem Room.units {k:Nat} {A:Around} (r:Room k A):A.units+64 < cLine:=by have:=r.un;omega
def tNil:TA:=fun _ H Q=>Q [] H
def j4 (ta:TE) (tr:TA):TA:=fun σ H Q=>ta σ H fun x H1=>tr σ H1 fun xs H2=>Q (x::xs) H2
section
variable {X:Cx} {e:Expr} {es:List Expr} {te:TE} {t:TA} {pos:Pos}
theorem aa:PA X [] tNil:=fun _ _ _ _ H Q I h=>Calls.spliced_nil ⟨[],H,I, .nil,h⟩
theorem a8 (ha:PE X e te) (hr:PA X es t) (hs:starEach (e::es) X.env=(false,eval e X.env)::starEach es X.env:=by rfl):PA X (e::es) (j4 te t):=by
 intro pos pins s σ H Q I h
 rw [hs]
 show wpAny _ _ (spliced ((false,eval e X.env)::backTo pos (starEach es X.env))) _ _ s
 refine Calls.spliced_cons (thn (ha pins s σ H _ I h) fun u s1 ⟨x,H1,I1,r1,q1⟩=> ?_)
 exact thn (hr pos pins s1 σ H1 _ I1 q1) fun us s2 ⟨xs,H2,I2,r2,q2⟩=>⟨x::xs,H2,I2, .cons r1 r2,q2⟩
def tTup (t:TA):TE:=fun σ H Q=>t σ H fun xs H1=>xs.length≤sizeLine∧∀p,H1 p=none→Q (.ref p) (upd H1 p (.tup xs))
def tLst (t:TA):TE:=fun σ H Q=>t σ H fun xs H1=>xs.length≤sizeLine∧∀p,H1 p=none→Q (.ref p) (upd H1 p (.lst xs))
theorem bn {x1} (h:PA X es t):PE X (.Tuple es x1 pos) (tTup t):=by
 intro pins s σ H Q I hq
 refine wpAny_Tuple_spliced (thn (h pos pins s σ H _ I hq) fun us s1 ⟨xs,H1,I1,r,z,q⟩=>⟨by rw [←r.length];exact z,?_⟩)
 have hf:H1 s1.heap.objs.size=none:=I1.hok.fresh (wO _)
 refine ⟨.ref s1.heap.objs.size,upd H1 s1.heap.objs.size (.tup xs),I1.laid (t':=s1.toks) (fun b u e=>Heap.get?_push_of_some _ e) (wO _) ?_,rfl,q _ hf⟩
 exact ⟨z,us,r,⟨_,Heap.get?_push_size _ rfl,rfl,_,rfl⟩⟩
theorem bE (h:PA X es t):PE X (.List es pos) (tLst t):=by
 intro pins s σ H Q I hq
 refine wpAny_List_spliced (thn (h pos pins s σ H _ I hq) fun us s1 ⟨xs,H1,I1,r,z,q⟩=>⟨by rw [←r.length];exact z,?_⟩)
 have hf:H1 s1.heap.objs.size=none:=I1.hok.fresh (wO _)
 refine ⟨.ref s1.heap.objs.size,upd H1 s1.heap.objs.size (.lst xs),I1.laid (t':=s1.toks) (fun b u e=>Heap.get?_push_of_some _ e) (wO _) ?_,rfl,q _ hf⟩
 exact ⟨z,us,0,r,Heap.get?_push_size _ rfl⟩
end
abbrev Sp:=List V→Hp→VK→XK→Prop
abbrev CXT:=List Env→Hp→Shared→XK→Value→Shared→Prop
structure Env0 (P:Program) (w:World) (K:PySem.W.Frag) (mg:Str→Option Value) (base:Heap) (A:Around) (outer:List Env) (s:Shared) (H:Hp):Prop where
 frames:A.frames=some outer
 mod:Mod K mg base
 bs:∀b o,base.get? b=some o→s.heap.get? b=some o∧H b=none
 bsz:base.objs.size≤s.heap.objs.size
 funs:s.heap.FunFrames base outer
 frf:∀b∈frs outer,H b=none
 hok:HOk P w H s.heap
 bare:AllBare s.gens
def CE (outer:List Env) (P:Program) (w:World) (H:Hp) (s:Shared) (Q:VK) (u:Value) (s':Shared):Prop:=
 ∃v H',s'.os=s.os∧AllBare s'.gens∧Un (frs outer) [] H H' s.heap s'.heap∧HOk P w H' s'.heap∧RelV v u∧Q v H'
def CR (CX:CXT) (outer:List Env) (P:Program) (w:World) (H:Hp) (s:Shared) (Q:VK) (E:XK) (r:Result) (s':Shared):Prop:=
 match r with
 | .ok (.ret u)=>CE outer P w H s Q u s'
 | .ok _=>False
 | .error e=>CX outer H s E e s'
structure FnOk (P:Program) (w:World) (K:PySem.W.Frag) (mg:Str→Option Value) (base:Heap) (CX:CXT) (k:Nat) (f:Addr) (fd:FuncData) (ps:List Str) (sp:Sp):Prop where
 len:∀vs H Q E,sp vs H Q E→vs.length=ps.length
 run:∀(A:Around) (outer:List Env) (s:Shared) (H:Hp) (args:Args) (us:List Value) (vs:List V) (Q:VK) (E:XK),Room k A→Env0 P w K mg base A outer s H→BindsTo s fd args (ps.zip us)→Vals vs us→sp vs H Q E→
  codeAny (model P w) A (.call (.ref f) args) (CR CX outer P w H s Q E) s
theorem Env0.make {P:Program} {w:World} {K:PySem.W.Frag} {mg:Str→Option Value} {base:Heap} {A:Around} {outer:List Env} {s:Shared} {H:Hp} (e:Env0 P w K mg base A outer s H) (C:Addr) (us:List Value) (kw:List (Str×Value)):
 Env0 P w K mg base (A.under (.builtin "type.__call__" ⟨.ref C::us,kw⟩)) outer s H:=⟨by first|exact e.frames|(simpa [Around.under,Code.envs,Code.isFrame,pushEnvs] using e.frames),e.mod,e.bs,e.bsz,e.funs,e.frf,e.hok,e.bare⟩
theorem Env0.in1 {P:Program} {w:World} {K:PySem.W.Frag} {mg:Str→Option Value} {base:Heap} {A:Around} {outer:List Env} {s:Shared} {H:Hp} (e:Env0 P w K mg base A outer s H):
 Env0 P w K mg base A.in1 outer s H:=⟨e.frames,e.mod,e.bs,e.bsz,e.funs,e.frf,e.hok,e.bare⟩
section
variable {X:Cx} {pins:List (Addr×Obj)} {σ:St} {H:Hp} {s s':Shared}
theorem Inv.env0 (I:Inv X pins σ H s):Env0 X.prog X.w X.K X.mg X.base X.A X.stack s H:=
 ⟨I.ok.frames,I.ok.mod,I.bs,xI I.ok.bsz I.sz,I.stack,I.stkFree,I.hok,I.bare⟩
theorem Inv.after {Q:VK} {u:Value} (I:Inv X pins σ H s) (h:CE X.stack X.prog X.w H s Q u s'):EP X pins σ Q u s':=by
 obtain ⟨v,H',os,bare,un,hok,r,q⟩:=h
 obtain ⟨hh,g,d,t,os'⟩:=s'
 obtain rfl:os'=s.os:=os
 exact ⟨v,H',I.call (h':=hh) (g':=g) (d':=d) (t':=t) (ch:= []) un hok bare (fun b z=>absurd z (by simp)),r,q⟩
end
def vI (sp:Sp) (dvs:List V) (E:XK) (t:TA):TE:=fun σ H Q=>t σ H fun vs H1=>sp (vs++dvs) H1 Q E
def t9 (C:Addr) (sp:Sp) (dvs:List V) (E:XK) (t:TA):TE:=fun σ H Q=>t σ H fun vs H1=>∀x dx,H1 x=none→H1 dx=none→dx≠x→
 sp (.ref x::(vs++dvs)) (upd (upd H1 dx (.own x)) x (.ins C dx [])) (fun v H2=>v= .non∧Q (.ref x) H2) E
def Binds (K:PySem.W.Frag) (fd:FuncData) (ps:List Str) (ds:List Value):Prop:=
 ∀(s:Shared) (us:List Value),K.In s.heap→(us++ds).length=ps.length→BindsTo s fd ⟨us,[]⟩ (ps.zip (us++ds))
theorem Binds.all {K:PySem.W.Frag} {fd:FuncData} {ps:List Str} (h:∀us:List Value,us.length=ps.length→bindArgs fd ⟨us,[]⟩=pure (ps.zip us)):Binds K fd ps []:=fun s us _ hl=>by
 rw [y9] at hl ⊢
 exact .of_eq (h us hl)
def gJ (CX:CXT) (X:Cx) (E:XK):Prop:=∀(pins:List (Addr×Obj)) (σ:St) (H:Hp) (s:Shared) (e:Value) (s':Shared),Inv X pins σ H s→CX X.stack H s E e s'→X.xe e s'
section
variable {X:Cx} {CX:CXT} {k:Nat} {f C:Addr} {fd:FuncData} {ps:List Str} {sp:Sp} {dvs:List V} {ds:List Value} {E:XK} {x m:Str} {p pos apos:Pos} {e o:Expr} {es:List Expr} {ta:TE} {t:TA}
theorem ur {pins:List (Addr×Obj)} {σ:St} {H:Hp} {s:Shared} {Q:VK} {us:List Value} {vs:List V} (F:FnOk X.prog X.w X.K X.mg X.base CX k f fd ps sp) (hr:Room k X.A) (hb:Binds X.K fd ps ds) (hd:Vals dvs ds) (hx:gJ CX X E)
 (I:Inv X pins σ H s) (r:Vals vs us) (h:sp (vs++dvs) H Q E):wpAny (model X.prog X.w) X.A (call (.ref f) us) (EP X pins σ Q) X.xe s:=by
 have r2:Vals (vs++dvs) (us++ds):=r.append hd
 have hl:(us++ds).length=ps.length:=by rw [←r2.length];exact F.len _ _ _ _ h
 refine wpAny_call (codeAny_mono (F.run X.A X.stack s H ⟨us,[]⟩ (us++ds) (vs++dvs) Q E hr I.env0 (hb s us I.kIn hl) r2 h) fun r s' hq=> ?_)
 cases r with
 |error e=>exact hx pins σ H s e s' I hq
 |ok fl=>
  cases fl with
  |ret u=>exact I.after hq
  |next=>exact False.elim hq
  |brk=>exact False.elim hq
  |cont=>exact False.elim hq
theorem ak (F:FnOk X.prog X.w X.K X.mg X.base CX k f fd ps sp) (hr:Room k X.A) (hg:Gl X x) (hm:X.mg x=some (.ref f)) (hk:PySem.W.keepIn X.K (.ref f)=true) (hb:Binds X.K fd ps ds) (hd:Vals dvs ds) (hx:gJ CX X E)
 (ha:PA X (e::es) t) (hdb:(x==("__debug__":Str))=false:=by decide) (he:starEach (e::es) X.env=(false,eval e X.env)::starEach es X.env:=by rfl) (hpl:(backTo pos (starEach es X.env)).any (·.1)=false:=by rfl):
 PE X (.Call (.Name x p) (e::es) [] pos) (vI sp dvs E t):=by
 intro pins s σ H Q I h
 refine wpAny_Call_Name_kw (lR I hg hm ?_ hdb)
 refine PySem.W.callWith_K (h₀:=X.base) I.ok.mod.kin hk (thn (ha pos pins s σ H _ I h) fun us s1 ⟨vs,H1,I1,r,q⟩=>⟨I1.kIn,?_⟩) he hpl
 exact ur F hr hb hd hx I1 r q
structure Mk (K:PySem.W.Frag) (C f:Addr):Prop where
 makes:PySem.W.makesIn K C=true
 init:PySem.W.findIn K (.ref C) "__init__"=some (some (.ref f))
 fn:PySem.W.isFn K (.ref f)=true
 kp:PySem.W.keepIn K (.ref C)=true
theorem oN {pins:List (Addr×Obj)} {σ:St} {H:Hp} {s:Shared} {Q:VK} {us:List Value} {vs:List V} (M:Mk X.K C f) (F:FnOk X.prog X.w X.K X.mg X.base CX k f fd ps sp) (hr:Room (k+1) X.A) (hb:Binds X.K fd ps ds) (hd:Vals dvs ds)
 (hx:gJ CX X E) (I:Inv X pins σ H s) (r:Vals vs us)
 (h:∀x dx,H x=none→H dx=none→dx≠x→sp (.ref x::(vs++dvs)) (upd (upd H dx (.own x)) x (.ins C dx [])) (fun v H2=>v= .non∧Q (.ref x) H2) E):
 wpAny (model X.prog X.w) X.A (call (.ref C) us) (EP X pins σ Q) X.xe s:=by
 have hq:=h (s.heap.objs.size+1) s.heap.objs.size (I.hok.fresh (Nat.le_succ _)) (I.hok.fresh (wO _)) (wW (Nat.lt_succ_self _))
 have I2:=Inv.made (C:=C) I
 have r2:Vals (V.ref (s.heap.objs.size+1)::(vs++dvs)) (Value.ref (s.heap.objs.size+1)::(us++ds)):= .cons rfl (r.append hd)
 have hl:(Value.ref (s.heap.objs.size+1)::us++ds).length=ps.length:=by
  have e:=r2.length
  rw [F.len _ _ _ _ hq] at e
  exact e.symm
 refine wpAny_call (pD (f:=f) I.kIn M.makes M.init (beq_iff_eq.mp M.fn) (codeAny_mono (F.run _ X.stack _ _ ⟨Value.ref (s.heap.objs.size+1)::us,[]⟩ (Value.ref (s.heap.objs.size+1)::(us++ds)) _ _ E (hr.make C us [])
  (I2.env0.make C us []) (hb _ (Value.ref (s.heap.objs.size+1)::us) I2.kIn hl) r2 hq) fun r s' hq'=> ?_))
 cases r with
 |error e=>exact hx pins σ _ _ e s' I2 hq'
 |ok fl=>
  cases fl with
  |ret u=>
   obtain ⟨v,H',I3,rv,ev,q3⟩:=I2.after hq'
   subst ev
   exact ⟨rv,⟨V.ref (s.heap.objs.size+1),H',I3,rfl,q3⟩⟩
  |next=>exact False.elim hq'
  |brk=>exact False.elim hq'
  |cont=>exact False.elim hq'
theorem rA (M:Mk X.K C f) (F:FnOk X.prog X.w X.K X.mg X.base CX k f fd ps sp) (hr:Room (k+1) X.A) (hg:Gl X x) (hm:X.mg x=some (.ref C)) (hb:Binds X.K fd ps ds) (hd:Vals dvs ds) (hx:gJ CX X E)
 (ha:PA X (e::es) t) (hdb:(x==("__debug__":Str))=false:=by decide) (he:starEach (e::es) X.env=(false,eval e X.env)::starEach es X.env:=by rfl) (hpl:(backTo pos (starEach es X.env)).any (·.1)=false:=by rfl):
 PE X (.Call (.Name x p) (e::es) [] pos) (t9 C sp dvs E t):=by
 intro pins s σ H Q I h
 refine wpAny_Call_Name_kw (lR I hg hm ?_ hdb)
 refine PySem.W.callWith_K (h₀:=X.base) I.ok.mod.kin M.kp (thn (ha pos pins s σ H _ I h) fun us s1 ⟨vs,H1,I1,r,q⟩=>⟨I1.kIn,?_⟩) he hpl
 exact oN M F hr hb hd hx I1 r q
end
section
variable {X:Cx} {CX:CXT} {k:Nat} {f C:Addr} {fd:FuncData} {ps ks:List Str} {sp:Sp} {E:XK} {x m:Str} {p pos apos kpos:Pos} {e o:Expr} {es:List Expr} {kws:List Keyword} {te ta:TE} {t tk:TA} {nm:Option Str}
variable {g:List Value→List Value→List Value} {gV:List V→List V→List V}
end
structure aM (N P:List Str) (sc:Scope):Prop where
 kind:sc.kind= .function
 co:sc.isCoroutine=false
 gen:sc.isGenerator=false
 nd:N.Nodup
 pre:N.take P.length=P
 par:∀x∈P,sc.names.lookup x=some .local∨sc.names.lookup x=some .cell
 nofree:∀y∈sc.names,y.2≠ .free
theorem ia {kindOf:Str→Option NameKind} {x:Str}:∀ {binds:List (Str×Value)} {m:Str→Option Value},(∀v,(x,v)∉binds)→bindL kindOf binds m x=m x
 | [],_,_=>rfl
 |(n,v)::r,m,h=>by
  unfold bindL
  rw [ia fun w hw=>h w (wQ _ hw)]
  split
  · have:x≠n:=by rintro rfl;exact h v wP
    simp [this]
  · rfl
theorem ic {kindOf:Str→Option NameKind} {x:Str}:∀ {binds:List (Str×Value)} {m:Str→Option Value},(∀v,(x,v)∉binds)→bindC kindOf binds m x=m x
 | [],_,_=>rfl
 |(n,v)::r,m,h=>by
  unfold bindC
  rw [ic fun w hw=>h w (wQ _ hw)]
  split
  · rfl
  · have:x≠n:=by rintro rfl;exact h v wP
    simp [this]
theorem ib {kindOf:Str→Option NameKind} {x:Str} {v:Value}:∀ {P:List Str} {vs:List Value} {i:Nat} {m:Str→Option Value},P.Nodup→P[i]?=some x→vs[i]?=some v→kindOf x=some .local→
 bindL kindOf (P.zip vs) m x=some v
 | [],_,_,_,_,h,_,_=>by simp at h
 |_::_,[],_,_,_,_,h,_=>by simp at h
 |p::P,w::vs,0,m,nd,h1,h2,hk=>by
  simp at h1 h2;subst h1;subst h2
  show bindL kindOf ((p,w)::P.zip vs) m p=_
  unfold bindL
  rw [ia fun v hv=>(xR.mp nd).1 (List.of_mem_zip hv).1,if_pos hk]
  simp
 |p::P,w::vs,i+1,m,nd,h1,h2,hk=>by
  show bindL kindOf ((p,w)::P.zip vs) m x=_
  unfold bindL
  exact ib (i:=i) (xR.mp nd).2 (by simpa using h1) (by simpa using h2) hk
theorem ie {kindOf:Str→Option NameKind} {x:Str} {v:Value}:∀ {P:List Str} {vs:List Value} {i:Nat} {m:Str→Option Value},P.Nodup→P[i]?=some x→vs[i]?=some v→kindOf x≠some .local→
 bindC kindOf (P.zip vs) m x=some v
 | [],_,_,_,_,h,_,_=>by simp at h
 |_::_,[],_,_,_,_,h,_=>by simp at h
 |p::P,w::vs,0,m,nd,h1,h2,hk=>by
  simp at h1 h2;subst h1;subst h2
  show bindC kindOf ((p,w)::P.zip vs) m p=_
  unfold bindC
  rw [ic fun v hv=>(xR.mp nd).1 (List.of_mem_zip hv).1,if_neg hk]
  simp
 |p::P,w::vs,i+1,m,nd,h1,h2,hk=>by
  show bindC kindOf ((p,w)::P.zip vs) m x=_
  unfold bindC
  exact ie (i:=i) (xR.mp nd).2 (by simpa using h1) (by simpa using h2) hk
noncomputable def eL (N:List Str) (vs:List V):St:=vs.map some++List.replicate (N.length - vs.length) none
noncomputable def cxOf (CX:CXT) (P:Program) (w:World) (K:PySem.W.Frag) (mg:Str→Option Value) (base:Heap) (N:List Str) (qual:Str) (scope:Scope) (f:Addr) (cd:Value) (A:Around) (outer:List Env) (s:Shared) (H:Hp) (E:XK):Cx where
 prog:=P
 w:=w
 K:=K
 mg:=mg
 base:=base
 A:=A.deeper (envOfC qual scope s.heap.objs.size f cd)
 N:=N
 s₀:=s
 H₀:=H
 env:=envOfC qual scope s.heap.objs.size f cd
 outer:=outer
 stack:=envOfC qual scope s.heap.objs.size f cd::outer
 ex:= []
 calm:=true
 fn:=fun _=>true
 pn:= []
 xe:=fun e s'=>wpAny (model P w) (A.deeper (envOfC qual scope s.heap.objs.size f cd)) (leaving (envOfC qual scope s.heap.objs.size f cd) e) (fun _ s''=>CX outer H s E e s'') (fun e' s''=>CX outer H s E e' s'') s'
theorem jJ {sc:Scope} {n:Nat} {x:Str} (h:sc.names.lookup x=some .cell):∃c,(cellsFrom n sc.names []).lookup x=some c:=by
 have q:=PySem.W.cellsFrom_some sc.names n [] (.inl h)
 exact Option.isSome_iff_exists.mp q
theorem nH {CX:CXT} {P:Program} {w:World} {K:PySem.W.Frag} {mg:Str→Option Value} {base:Heap} {N ps:List Str} {qual:Str} {scope:Scope} {f:Addr} {cd:Value} {A:Around} {outer:List Env} {s s1:Shared} {H:Hp} {E:XK} {us:List Value} {vs:List V}
 (S:aM N ps scope) (hd:A.handled=none) (e0:Env0 P w K mg base A outer s H) (hl:vs.length=ps.length) (r:Vals vs us)
 (x:InCallC s s.heap.objs.size (bindL (envOfC qual scope s.heap.objs.size f cd).kindOf (ps.zip us) fun _=>none) (cellsFrom (s.heap.objs.size+1) scope.names []) (bindC (envOfC qual scope s.heap.objs.size f cd).kindOf (ps.zip us) fun _=>none) s1):
 Inv (cxOf CX P w K mg base N qual scope f cd A outer s H E) [] (eL N vs) H s1:=by
 have hpl:ps.length≤N.length:=by have:=congrArg List.length S.pre;rw [xh] at this;omega
 obtain ⟨h1,tk,rfl,hk⟩:=x.done
 have noA:∀b:Addr,b∉(cxOf CX P w K mg base N qual scope f cd A outer s H E).ex:=fun b z=>absurd (show b∈([]:List Addr) from z) (by simp)
 refine ⟨⟨e0.mod,S.kind,rfl,rfl,wO _,fun y z c h1 h2=> ?_,fun y hy=> ?_,fun y c _ h=> ?_,fun _=>hd,Around.frames_deeper e0.frames, .inr ⟨rfl,rfl⟩,fun b z=>absurd z (noA b),e0.bs,e0.bsz,fun b _ _=>noA b,fun b z=>absurd z (noA b),e0.funs,e0.frf⟩,
  rfl,e0.bare,Un.kept hk,⟨_,x.toInCall.ns,fun i y v h1 h2 h3=> ?_⟩,fun y c h=>⟨_,x.cell y c h⟩,e0.hok.fresh (wO _),fun y c h=> ?_,fun p hp=>absurd (show p∈([]:List (Addr×Obj)) from hp) (by simp),e0.hok.kept hk,?_⟩
 · exact name_of_addr x.apart (PySem.mem_of_lookup h1) (PySem.mem_of_lookup h2)
 · have hy:scope.names.lookup y=some .cell∨scope.names.lookup y=some .free:=hy
   rcases hy with hy|hy
   · exact jJ hy
   · exact absurd rfl (S.nofree _ (PySem.mem_of_lookup hy))
 · exact xX (x.above y c (PySem.mem_of_lookup h))
 · have hi:i < vs.length:=by
    unfold eL at h2
    by_cases hi:i < vs.length
    · exact hi
    · rw [xu (by simpa using hi)] at h2
      rw [List.getElem?_replicate] at h2
      split at h2<;>cases h2
   have ha:vs[i]?=some v:=by
    unfold eL at h2
    rw [xp (by simpa using hi),wN] at h2
    cases e:vs[i]? with
    |none=>rw [e] at h2;cases h2
    |some a=>rw [e] at h2;cases h2;rfl
   obtain ⟨u,hu,rv⟩:=r.get ha
   have hp:ps[i]?=some y:=by
    rw [←S.pre,List.getElem?_take_of_lt (by omega)];exact h1
   have ndP:ps.Nodup:=by rw [←S.pre];exact S.nd.sublist (List.take_sublist _ _)
   refine ⟨u,rv,?_⟩
   rcases S.par y (wJ hp) with k|k
   · exact .inl ⟨k,ib ndP hp hu k⟩
   · obtain ⟨c,e⟩:=jJ (n:=s.heap.objs.size+1) k
     refine .inr ⟨.inl k,c,e,?_⟩
     have q:=x.cell y c e
     rw [ie ndP hp hu (by show scope.names.lookup y≠_;rw [k];decide)] at q
     exact q
 · exact e0.hok.fresh (xX (x.above y c (PySem.mem_of_lookup h)))
 · unfold eL
   show _=N.length
   rw [wM,wL,List.length_replicate]
   omega
theorem ww {CX:CXT} {P:Program} {w:World} {K:PySem.W.Frag} {mg:Str→Option Value} {base:Heap} {k:Nat} {f:Addr} {name qual:Str} {params:Arguments} {body:List Stmt} {scope:Scope} {dV kV doc pm cdv ct oc:Value} {an od:Option Addr}
 {osl:Array (Option Value)} {N ps:List Str} {sp:Sp} (lk:K.lookup f=some ⟨oc,od, .func (PySem.W.fnOf name qual params body scope dV kV doc pm an cdv ct),osl⟩) (hcd:PySem.W.codeIn K cdv qual=true) (S:aM N ps scope)
 (len:∀vs H Q E,sp vs H Q E→vs.length=ps.length)
 (hbody:∀(A:Around) (outer:List Env) (s:Shared) (H:Hp) (vs:List V) (Q:VK) (E:XK),Room k (A.deeper (envOfC qual scope s.heap.objs.size f cdv))→sp vs H Q E→
  ∃t,PSs (cxOf CX P w K mg base N qual scope f cdv A outer s H E) body t∧t {nx:=fun _ H'=>Q .non H',rt:=Q} (eL N vs) H):
 FnOk P w K mg base CX (k+1) f (PySem.W.fnOf name qual params body scope dV kV doc pm an cdv ct) ps sp:=by
 refine ⟨len,fun A outer s H args us vs Q E hr e0 hb r hsp=> ?_⟩
 have hl:=len _ _ _ _ hsp
 have KX:K.In s.heap:=e0.mod.kin.keeps fun b o e=>(e0.bs b o e).1
 have lim:s.heap.NoLimit:=e0.mod.nolimit.keeps fun b o e=>(e0.bs b o e).1
 have hkind:∀y∈ps.zip us,scope.names.lookup y.1=some .local∨(scope.names.lookup y.1=some .cell∧((cellsFrom (s.heap.objs.size+1) scope.names []).lookup y.1).isSome=true):=fun ⟨n,v⟩ hy=>by
  rcases S.par n (List.of_mem_zip hy).1 with q|q
  · exact .inl q
  · exact .inr ⟨q,PySem.W.cellsFrom_some _ _ _ (.inl q)⟩
 refine codeAny_call_function hr.depth (KX _ _ lk) rfl S.co S.gen rfl (PySem.W.codeRec_of KX hcd) (hb _ _ _ _ ?_)
 refine wpAny_newFunctionEnv_cells S.kind hkind fun env he s1 x=> ?_
 subst he
 refine ⟨lim.keeps x.toInCall.keep,codeAny_func ?_⟩
 obtain ⟨t,ht,hq⟩:=hbody A outer s H vs Q E (hr.deeper _) hsp
 have I:Inv (cxOf CX P w K mg base N qual scope f cdv A outer s H E) [] (eL N vs) H s1:=nH S hr.hd e0 hl r x
 refine wpAny_mono (ht [] s1 (eL N vs) H _ I hq) (fun fl s' hs=> ?_) fun e s' hs=>hs
 have fin:∀ {σ':St} {H':Hp} {v:V} {u:Value},Inv (cxOf CX P w K mg base N qual scope f cdv A outer s H E) [] σ' H' s'→RelV v u→Q v H'→CE outer P w H s Q u s':=
  fun {σ' H' v u} J rv q=>⟨v,H',J.os,J.bare,J.base,J.hok,rv,q⟩
 cases fl with
 |ret u=>
  obtain ⟨v,σ',H',J,rv,q⟩:=hs
  exact fin J rv q
 |next=>
  obtain ⟨σ',H',J,q⟩:=hs
  exact fin (v:=V.non) (u:=Value.none) J rfl q
 |brk=>
  obtain ⟨_,_,_,q⟩:=hs
  exact False.elim q
 |cont=>
  obtain ⟨_,_,_,q⟩:=hs
  exact False.elim q
open PySem PySem.Spec PyProof.Rows
section
variable {X:Cx} {x:Str} {p pos:Pos} {e:Expr} {es:List Expr} {t:TA} {id T:String} {r:List V→Hp→VK→Prop}
def tCB (r:List V→Hp→VK→Prop) (t:TA):TE:=fun σ H Q=>t σ H fun vs H1=>r vs H1 Q
theorem am (hc:cy X (.builtin id) r) (hg:Gl X x) (hm:X.mg x=none) (hv:bootBuiltins x=some (.builtin id)) (ha:PA X (e::es) t) (hn:x≠"__name__":=by decide) (hdb:(x==("__debug__":Str))=false:=by decide)
 (he:starEach (e::es) X.env=(false,eval e X.env)::starEach es X.env:=by rfl) (hpl:(backTo pos (starEach es X.env)).any (·.1)=false:=by rfl):PE X (.Call (.Name x p) (e::es) [] pos) (tCB r t):=by
 intro pins s σ H Q I h
 refine wpAny_Call_Name_kw (eG I hg hm hv ?_ hn hdb)
 exact PyProof.Rows.callWith_builtin1 (thn (ha pos pins s σ H _ I h) fun us s1 ⟨vs,H1,I1,r1,q1⟩=>hc pins s1 σ H1 vs us Q I1 r1 q1) he hpl
theorem aU (hc:cy X (.type T) r) (hg:Gl X x) (hm:X.mg x=none) (hv:bootBuiltins x=some (.type T)) (ha:PA X (e::es) t) (hn:x≠"__name__":=by decide) (hdb:(x==("__debug__":Str))=false:=by decide)
 (he:starEach (e::es) X.env=(false,eval e X.env)::starEach es X.env:=by rfl) (hpl:(backTo pos (starEach es X.env)).any (·.1)=false:=by rfl):PE X (.Call (.Name x p) (e::es) [] pos) (tCB r t):=by
 intro pins s σ H Q I h
 refine wpAny_Call_Name_kw (eG I hg hm hv ?_ hn hdb)
 exact PyProof.Rows.callWith_type1 (thn (ha pos pins s σ H _ I h) fun us s1 ⟨vs,H1,I1,r1,q1⟩=>hc pins s1 σ H1 vs us Q I1 r1 q1) he hpl
end
end L2
namespace HT
open PySem PyProof.Rows
section
open PySem.SeqAt
open PySem.AutoSeq1 (wpAny_loadPart')
open PySem.MeetsSeq PySem.MeetsSeq2 PySem.MeetsSeq3
end
section
variable {prog:Program} {w:World} {A:Around} {E:Value→Shared→Prop} {s:Shared}
noncomputable def sIx (n d:Nat):Option Int→Nat
 |none=>d
 |some v=>if v < 0 then (v+(n:Int)).toNat else min v.toNat n
theorem sIx_none (n d:Nat):sIx n d none=d:=rfl
theorem sIx_nat (n d k:Nat):sIx n d (some (k:Int))=min k n:=by
 show (if (k:Int) < 0 then ((k:Int)+(n:Int)).toNat else min (k:Int).toNat n)=min k n
 rw [if_neg (by omega),xA]
end
end HT
namespace L2
open PySem PySem.Spec PyProof.Rows
abbrev TO:=St→Hp→(Option Int→Hp→Prop)→Prop
def PO (X:Cx) (e:Option Expr) (t:TO):Prop:=
 ∀(pins:List (Addr×Obj)) (s:Shared) (σ:St) (H:Hp) (Q:Option Int→Hp→Prop),Inv X pins σ H s→t σ H Q→
  wpAny (model X.prog X.w) X.A (evalPart e X.env) (fun u s'=>∃o H',Inv X pins σ H' s'∧IsPart u o∧Q o H') X.xe s
def qU:TO:=fun _ H Q=>Q none H
def vB (t:TE):TO:=fun σ H Q=>t σ H fun x H1=>∃i,x= .int i∧Q (some i) H1
theorem gj {ns:List Int}:∀ {us:List Value},Vals (ns.map V.int) us→IntsAre us ns:=by
 induction ns with
 |nil=>intro us r;rw [List.map_nil] at r;cases r;exact .nil
 |cons n ns ih=>
  intro us r
  rw [wZ] at r
  cases r with
  |cons r1 r2=>
   obtain ⟨t,e⟩:=r1
   subst e
   exact .cons n t (ih r2)
section
variable {X:Cx} {e:Expr} {te:TE} {lo hi:Option Expr} {tl th:TO} {pos p2:Pos}
theorem lK:PO X none qU:=by
 intro pins s σ H Q I h
 rw [evalPart_none]
 exact wpAny_pure ⟨none,H,I, .none,h⟩
theorem lJ (h:PE X e te):PO X (some e) (vB te):=by
 intro pins s σ H Q I hw
 rw [evalPart_some]
 refine thn (h pins s σ H _ I hw) fun u s1 ⟨x,H1,I1,r1,q1⟩=> ?_
 obtain ⟨i,rfl,q⟩:=q1
 obtain ⟨t,rfl⟩:=r1
 exact ⟨some i,H1,I1, .int i t,q⟩
def SlR (X:Cx) (r:V→Option Int→Option Int→Hp→VK→Prop):Prop:=
 ∀(pins:List (Addr×Obj)) (s:Shared) (σ:St) (H:Hp) (x:V) (v vl vu:Value) (lo hi:Option Int) (sl:Addr) (Q:VK),Inv X pins σ H s→RelV x v→s.heap.IsSliceOf sl vl vu .none→IsPart vl lo→IsPart vu hi→r x lo hi H Q→
  ∃T id,typeLookup (.type T) "__getitem__"=pure (some (.builtin id))∧s.TypeIs v T∧wpAny (model X.prog X.w) X.A (getItem v (.ref sl)) (EP X pins σ Q) X.xe s
def tSl (r:V→Option Int→Option Int→Hp→VK→Prop) (te:TE) (tl th:TO):TE:=fun σ H Q=>te σ H fun x H1=>tl σ H1 fun l H2=>th σ H2 fun u H3=>r x l u H3 Q
theorem jc {r:V→Option Int→Option Int→Hp→VK→Prop} (hr:SlR X r) (he:PE X e te) (hl:PO X lo tl) (hu:PO X hi th):PE X (.Subscript e (.Slice lo hi none p2) pos) (tSl r te tl th):=by
 intro pins s σ H Q I h
 refine Subscript_ (thn (he pins s σ H _ I h) fun v s1 ⟨x,H1,I1,r1,q1⟩=> ?_)
 refine wpAny_Slice (thn (hl pins s1 σ H1 _ I1 q1) fun vl s2 ⟨l,H2,I2,pl,q2⟩=>thn (hu pins s2 σ H2 _ I2 q2) fun vu s3 ⟨u,H3,I3,pu,q3⟩=> ?_)
 rw [evalPart_none]
 refine wpAny_pure ?_
 have I4:Inv X pins σ H3 {s3 with heap:=s3.heap.push {cls:= .type "slice",data:= .fields #[vl,vu, .none]}}:=I3.kept (t':=s3.toks) fun b ob q=>Heap.get?_push_of_some _ q
 obtain ⟨T,id,hT,ht,hg⟩:=hr pins {s3 with heap:=s3.heap.push {cls:= .type "slice",data:= .fields #[vl,vu, .none]}} σ H3 x v vl vu l u s3.heap.objs.size Q I4 r1 (Heap.IsSliceOf.new ..) pl pu q3
 show wpAny (model X.prog X.w) X.A (subscriptTail e (.Slice lo hi none p2) v (.ref s3.heap.objs.size)) (EP X pins σ Q) X.xe {s3 with heap:=s3.heap.push {cls:= .type "slice",data:= .fields #[vl,vu, .none]}}
 exact tail_any (ops:= [.ref s3.heap.objs.size,v]) ht hT hg (by with_unfolding_all rfl)
noncomputable def cutV (xs:List V) (lo hi:Option Int):List V:=(xs.drop (HT.sIx xs.length 0 lo)).take (HT.sIx xs.length xs.length hi - HT.sIx xs.length 0 lo)
theorem jA (xs:List V) (lo hi:Option Int):(cutV xs lo hi).length≤xs.length:=by
 unfold cutV
 rw [xh,List.length_drop]
 omega
end
open PySem PySem.Spec PyProof.Rows
noncomputable def ixN (n:Nat) (i:Int):Option Nat:=if 0≤i then (if i < n then some i.toNat else none) else if -(n:Int)≤i then some (i+n).toNat else none
noncomputable def atI {α:Type} (xs:List α) (i:Int):Option α:=(ixN xs.length i).bind fun j=>xs[j]?
theorem m3 {n:Nat} {i:Int} {j:Nat} (h:ixN n i=some j):seqIndex? i n=some j∧j < n∧ -(n:Int)≤i∧i < n:=by
 unfold ixN at h
 by_cases h0:0≤i
 · rw [if_pos h0] at h
   by_cases h1:i < n
   · rw [if_pos h1] at h
     have e:i.toNat=j:=wT h
     exact ⟨by rw [seqIndex_of h0 h1,e],by omega,by omega,h1⟩
   · rw [if_neg h1] at h;cases h
 · rw [if_neg h0] at h
   by_cases h1:-(n:Int)≤i
   · rw [if_pos h1] at h
     have e:(i+n).toNat=j:=wT h
     exact ⟨by rw [seqIndex_neg (by omega) h1,e],by omega,h1,by omega⟩
   · rw [if_neg h1] at h;cases h
theorem mX {α:Type} {xs:List α} {i:Int} {v:α} (h:atI xs i=some v):∃j,seqIndex? i xs.length=some j∧xs[j]?=some v∧j < xs.length∧ -(xs.length:Int)≤i∧i < xs.length:=by
 unfold atI at h
 cases e:ixN xs.length i with
 |none=>rw [e] at h;cases h
 |some j=>
  rw [e] at h
  obtain ⟨h1,h2,h3,h4⟩:=m3 e
  exact ⟨j,h1,h,h2,h3,h4⟩
theorem aS {α:Type} {xs:List α} {j:Nat} {v:α} (h:xs[j]?=some v):atI xs (j:Int)=some v:=by
 have hj:j < xs.length:=(wK.mp h).1
 have e:ixN xs.length (j:Int)=some j:=by
  unfold ixN
  rw [if_pos (by omega),if_pos (by omega)];simp
 unfold atI;rw [e];exact h
def sX (b:Expr):Prop:=∀o i,subscripted b false o i=operate [o,i] (getItem o i)
def IxR (X:Cx) (r:R2):Prop:=
 ∀(value slice:Expr) (pins:List (Addr×Obj)) (s:Shared) (σ:St) (H:Hp) (x y:V) (v u:Value) (Q:VK),Inv X pins σ H s→RelV x v→RelV y u→r x y H Q→
  subscripted slice false v u=operate [v,u] (getItem v u)→wpAny (model X.prog X.w) X.A (subscriptTail value slice v u) (EP X pins σ Q) X.xe s
def MtR (X:Cx) (id:String) (r:V→List V→Hp→VK→Prop):Prop:=
 ∀(pins:List (Addr×Obj)) (s:Shared) (σ:St) (H:Hp) (x:V) (xs:List V) (v:Value) (us:List Value) (Q:VK),Inv X pins σ H s→RelV x v→Vals xs us→r x xs H Q→
  wpAny (model X.prog X.w) X.A (call (.builtin id) (v::us)) (EP X pins σ Q) X.xe s
section
variable {X:Cx} {a b:Expr} {ta tb:TE} {pos:Pos}
theorem aB {r:R2} (hr:IxR X r) (ha:PE X a ta) (hb:PE X b tb) (hs:sX b):PE X (.Subscript a b pos) (tOp r ta tb):=by
 intro pins s σ H Q I h
 exact Subscript_ (binT ha hb I h fun v u s2 x y H2 I2 rx ry q=>hr a b pins s2 σ H2 x y v u Q I2 rx ry q (hs _ _))
def rIxL (K:PySem.W.Frag):R2:=fun x y H Q=>∃p xs i v,x= .ref p∧y= .int i∧SqL K H p xs∧atI xs i=some v∧Q v H
def rIxT (K:PySem.W.Frag):R2:=fun x y H Q=>∃p xs i v,x= .ref p∧y= .int i∧SqT K H p xs∧atI xs i=some v∧Q v H
theorem aH:IxR X (rIxL X.K):=by
 intro value slice pins s σ H x y v u Q I rx ry h hs
 obtain ⟨p,xs,i,z,rfl,rfl,hq,he,q⟩:=h
 cases rx
 obtain ⟨t,rfl⟩:=ry
 obtain ⟨its,r,pl,hz⟩:=I.list hq
 obtain ⟨j,h1,h2,h3,h4,h5⟩:=mX he
 obtain ⟨w,ew,rw'⟩:=r.get h2
 have hl:=r.length
 have hn:=ge
 have fin:EP X pins σ Q w s:=⟨z,H,I,rw',q⟩
 by_cases h0:0≤i
 · have hj:i.toNat=j:=by
    rw [seqIndex_of h0 h5] at h1
    exact wT h1
   exact item_listR pl.isList h0 (by omega) (by rw [hj];simpa using ew) fin hs
 · have hj:(i+(its.toArray.size:Int)).toNat=j:=by
    rw [seqIndex_neg (by omega) h4] at h1
    rw [wU,←hl]
    exact wT h1
   exact subscriptTail_builtinR (x:=w) pl.isList.typeIs slot_list_getitem.lookup
    (wpAny_getItem_list_neg (Q:=fun r s'=>r=w∧EP X pins σ Q r s') pl.isList (by omega) (by rw [wU]<;>omega) (by omega) (by rw [hj];simpa using ew) ⟨rfl,fin⟩) hs
theorem aW:IxR X (rIxT X.K):=by
 intro value slice pins s σ H x y v u Q I rx ry h hs
 obtain ⟨p,xs,i,z,rfl,rfl,hq,he,q⟩:=h
 cases rx
 obtain ⟨t,rfl⟩:=ry
 obtain ⟨its,r,pl,hz⟩:=I.tuple hq
 obtain ⟨j,h1,h2,h3,h4,h5⟩:=mX he
 obtain ⟨w,ew,rw'⟩:=r.get h2
 have hl:=r.length
 have hn:=ge
 have fin:EP X pins σ Q w s:=⟨z,H,I,rw',q⟩
 exact subscriptTail_builtinR (x:=w) pl.typeIs slot_tuple_getitem.lookup
  (getItem_tuple (j:=j) (Q:=fun r s'=>r=w∧EP X pins σ Q r s') pl (by omega) (by omega) (by rw [wU,←hl];exact h1) (by simpa using ew) ⟨rfl,fin⟩) hs
theorem kj (its:List Value) (n j:Nat) (u:Value):Obj.mapSeq (·.setIfInBounds j u) {cls:= .type "list",data:= .seq its.toArray n} = {cls:= .type "list",data:= .seq (its.set j u).toArray n}:=by
 simp [Obj.mapSeq]
theorem Inv.lst {pins:List (Addr×Obj)} {σ:St} {H:Hp} {s:Shared} {p:Addr} {xs:List V} (I:Inv X pins σ H s) (h:H p=some (.lst xs)):
 ∃(its:List Value) (n:Nat),Vals xs its∧s.heap.get? p=some {cls:= .type "list",data:= .seq its.toArray n}∧xs.length≤sizeLine:=by
 obtain ⟨z,its,n,r,e⟩:=I.hok p _ h
 exact ⟨its,n,r,e,z⟩
theorem Inv.lstUpd {pins:List (Addr×Obj)} {σ:St} {H:Hp} {s:Shared} {p:Addr} {xs ys:List V} {its its':List Value} {n n':Nat} {f:Obj→Obj} (I:Inv X pins σ H s) (h:H p=some (.lst xs))
 (ho:s.heap.get? p=some {cls:= .type "list",data:= .seq its.toArray n}) (hf:f {cls:= .type "list",data:= .seq its.toArray n} = {cls:= .type "list",data:= .seq its'.toArray n'}) (r:Vals ys its') (hz:ys.length≤sizeLine) (t:Nat):
 Inv X pins σ (upd H p (.lst ys)) {s with heap:=s.heap.update p f,toks:=t}:=by
 have e:(s.heap.update p f).get? p=some {cls:= .type "list",data:= .seq its'.toArray n'}:=by
  rw [Heap.get?_update_self f ho (by rw [hf]<;>rfl),hf]
 refine I.write (x:=p) (e:=p) (by rw [h];trivial) (.inl rfl) (fun b u hb q=>(Heap.get?_update_other _ _ (Ne.symm hb)).trans q) ⟨_,e⟩ ?_
 exact ⟨hz,its',n',r,e⟩
def vY:V→V→V→Hp→(Hp→Prop)→Prop:=fun o i v H Q=>∃p xs k j,o= .ref p∧i= .int k∧H p=some (.lst xs)∧ixN xs.length k=some j∧Q (upd H p (.lst (xs.set j v)))
theorem set_list:PSet X vY:=by
 intro pins s σ H o i v ov iv u Q I ro ri rv h
 obtain ⟨p,xs,k,j,rfl,rfl,hp,hj,q⟩:=h
 cases ro
 obtain ⟨t,rfl⟩:=ri
 obtain ⟨its,n,r,ho,hz⟩:=I.lst hp
 obtain ⟨h1,h2,h3,h4⟩:=m3 hj
 have hl:=r.length
 have hn:=ge
 have I':Inv X pins σ (upd H p (.lst (xs.set j v))) {s with heap:=s.heap.update p (Obj.mapSeq (·.setIfInBounds j u))}:=
  I.lstUpd hp ho (kj its n j u) (r.set rv j) (by rw [List.length_set];exact hz) s.toks
 by_cases h0:0≤k
 · have hk:k.toNat=j:=by
    rw [seqIndex_of h0 h4] at h1
    exact wT h1
   exact PySem.W.ki_setAt ho h0 (by omega) (by rw [wU,←hl];exact h4) (by rw [hk];exact ⟨_,I',q⟩)
 · have hk:(k+(its.toArray.size:Int)).toNat=j:=by
    rw [seqIndex_neg (by omega) h3] at h1
    rw [wU,←hl]
    exact wT h1
   exact PySem.W.ki_setBack ho (by omega) (by rw [wU,←hl];exact h3) (by omega) (by rw [hk];exact ⟨_,I',q⟩)
theorem iy (lo hi:Option Int) (n:Nat):(sliceBounds lo hi none n).1=((HT.sIx n 0 lo:Nat):Int)∧(sliceBounds lo hi none n).2.1=((HT.sIx n n hi:Nat):Int)∧(sliceBounds lo hi none n).2.2=1:=by
 refine ⟨?_,?_,rfl⟩
 · cases lo with
   |none=>simp [sliceBounds,HT.sIx]
   |some i=>
    simp only [sliceBounds,HT.sIx,Option.getD_none,show (1:Int) > 0 by decide,if_true]
    by_cases h:i < 0
    · simp only [h,if_true]<;>omega
    · simp only [h,if_false]<;>omega
 · cases hi with
   |none=>simp [sliceBounds,HT.sIx]
   |some i=>
    simp only [sliceBounds,HT.sIx,Option.getD_none,show (1:Int) > 0 by decide,if_true]
    by_cases h:i < 0
    · simp only [h,if_true]<;>omega
    · simp only [h,if_false]<;>omega
theorem gL (its:List Value) (lo hi:Option Int):slicePick its.toArray lo hi none=((its.drop (HT.sIx its.length 0 lo)).take (HT.sIx its.length its.length hi - HT.sIx its.length 0 lo)).toArray:=by
 obtain ⟨h1,h2,h3⟩:=iy lo hi its.toArray.size
 unfold slicePick
 rw [h1,h2,h3]
 simp only [sliceRange_one,pick_run,wU]<;>rfl
def rSlL (K:PySem.W.Frag):V→Option Int→Option Int→Hp→VK→Prop:=fun x lo hi H Q=>∃a xs,x= .ref a∧SqL K H a xs∧∀p,H p=none→Q (.ref p) (upd H p (.lst (cutV xs lo hi)))
theorem lx:SlR X (rSlL X.K):=by
 intro pins s σ H x v vl vu lo hi sl Q I rx hs pl pu h
 obtain ⟨a,xs,rfl,hx,q⟩:=h
 cases rx
 obtain ⟨its,r,ht,hz⟩:=I.list hx
 have hlen:=r.length
 refine ⟨"list",_,slot_list_getitem.lookup,ht.isList.typeIs,?_⟩
 refine wpAny_getItem_list_slice ht.isList hs pl pu .none (by simp) ?_ (by rw [wU]<;>omega)
 rw [gL,←hlen]
 refine ⟨.ref s.heap.objs.size,_,I.laid (t':=s.toks) (o:= .lst (cutV xs lo hi)) (fun b ob q=>Heap.get?_push_of_some _ q) (wO _) ?_,rfl,q _ (I.hok.fresh (wO _))⟩
 exact ⟨xI (jA xs lo hi) hz,_,0,(r.drop (HT.sIx xs.length 0 lo)).take (HT.sIx xs.length xs.length hi - HT.sIx xs.length 0 lo),Heap.get?_push_size _ rfl⟩
noncomputable def tM:V→Bool
 | .non=>true
 | .bl _=>true
 | .int _=>true
 | .str _=>true
 |_=>false
noncomputable def eqV:V→V→Bool
 | .non, .non=>true
 | .bl a, .bl b=>a==b
 | .bl a, .int b=>(if a then 1 else 0)==b
 | .int a, .bl b=>a==(if b then 1 else 0)
 | .int a, .int b=>a==b
 | .str a, .str b=>a==b
 |_,_=>false
noncomputable def inV (x:V) (xs:List V):Bool:=xs.any fun y=>eqV y x
def rIn (K:PySem.W.Frag) (neg:Bool):R2:=fun x y H Q=>∃p xs,y= .ref p∧(SqL K H p xs∨SqT K H p xs)∧tM x=true∧xs.all tM=true∧Q (.bl (if neg then !inV x xs else inV x xs)) H
theorem av:cy X (.builtin "len") (fun xs H Q=>∃p ys,xs= [.ref p]∧(SqL X.K H p ys∨SqT X.K H p ys)∧Q (.int ys.length) H):=by
 intro pins s σ H xs us Q I r h
 obtain ⟨p,ys,rfl,hq,q⟩:=h
 obtain ⟨u,rfl,rx⟩:=dw r
 cases rx
 have hn:=ge
 rcases hq with hq|hq
 · obtain ⟨its,r',pl,hz⟩:=I.list hq
   have hlen:=r'.length
   exact Calls.call_len_list pl.isList (by simp only [wU]<;>omega) ⟨.int ys.length,H,I.tok _,⟨s.toks+1,by rw [wU,hlen]⟩,q⟩
 · obtain ⟨its,r',pl,hz⟩:=I.tuple hq
   have hlen:=r'.length
   exact len_tuple pl (by simp only [wU]<;>omega) ⟨.int ys.length,H,I.tok _,⟨s.toks+1,by rw [wU,hlen]⟩,q⟩
theorem c8:cy X (.type "list") (fun xs H Q=>∃p ys,xs= [.ref p]∧(SqL X.K H p ys∨SqT X.K H p ys)∧∀l,H l=none→Q (.ref l) (upd H l (.lst ys))):=by
 intro pins s σ H xs us Q I r h
 obtain ⟨p,ys,rfl,hq,q⟩:=h
 obtain ⟨u,rfl,rx⟩:=dw r
 cases rx
 have fin:∀(its:List Value),Vals ys its→ys.length≤sizeLine→∀(h':Heap) (c':Nat),(∀b o',s.heap.get? b=some o'→h'.get? b=some o')→
  h'.get? s.heap.objs.size=some {cls:= .type "list",dict:=none,data:= .seq its.toArray c',slots:= #[]}→EP X pins σ Q (.ref s.heap.objs.size) {s with heap:=h'}:=fun its r' hz h' c' kp e=>
  ⟨.ref s.heap.objs.size,_,I.laid (t':=s.toks) kp (wO _) (show ObjOk X.prog X.w _ h' _ (.lst ys) from ⟨hz,its,c',r',e⟩),rfl,q _ (I.hok.fresh (wO _))⟩
 rcases hq with hq|hq
 · obtain ⟨its,r',pl,hz⟩:=I.list hq
   have hlen:=r'.length
   obtain ⟨o,ho,hc,n,hd⟩:=pl.isList
   exact call_list_seq p (.inl rfl) ho hc hd (fun h' c' kp e=>fin its r' hz h' c' kp e) (by simp only [wU]<;>omega)
 · obtain ⟨its,r',pl,hz⟩:=I.tuple hq
   have hlen:=r'.length
   obtain ⟨o,ho,hc,n,hd⟩:=pl
   exact call_list_seq p (.inr rfl) ho hc hd (fun h' c' kp e=>fin its r' hz h' c' kp e) (by simp only [wU]<;>omega)
theorem cN:cy X (.type "tuple") (fun xs H Q=>∃p ys,xs= [.ref p]∧((SqL X.K H p ys∧∀l,H l=none→Q (.ref l) (upd H l (.tup ys)))∨(SqT X.K H p ys∧Q (.ref p) H))):=by
 intro pins s σ H xs us Q I r h
 obtain ⟨p,ys,rfl,h⟩:=h
 obtain ⟨u,rfl,rx⟩:=dw r
 cases rx
 rcases h with ⟨hq,q⟩|⟨hq,q⟩
 · obtain ⟨its,r',pl,hz⟩:=I.list hq
   have hlen:=r'.length
   refine call_tuple_list pl.isList (fun h' kp=> ?_) (by simp only [wU]<;>omega)
   have I1:Inv X pins σ H {s with heap:=h'}:=I.kept (t':=s.toks) kp
   have I2:Inv X pins σ (upd H h'.objs.size (.tup ys)) {s with heap:=h'.push {cls:= .type "tuple",data:= .seq its.toArray}}:=
    I1.laid (t':=s.toks) (fun b o e=>Heap.get?_push_of_some _ e) (wO _) (show ObjOk X.prog X.w _ _ _ (.tup ys) from ⟨hz,its,r',IsTup.new _ _⟩)
   exact ⟨.ref h'.objs.size,_,I2,rfl,q _ (I1.hok.fresh (wO _))⟩
 · obtain ⟨its,r',pl,hz⟩:=I.tuple hq
   exact call_tuple_same pl ⟨.ref p,H,I,rfl,q⟩
def tyV (K:PySem.W.Frag) (T:String) (x:V) (H:Hp):Prop:=match x with
 | .str _=>T= "str"
 | .int _=>T= "int"
 | .ref p=>(T= "list"∧∃xs,SqL K H p xs)∨(T= "tuple"∧∃o,K.lookup p=some o∧o.cls= .type "tuple"∧o.dict=none)∨
  (T= "dict"∧((∃kvs,H p=some (.dK kvs))∨∃kvs,H p=some (.dT kvs)))∨(T= "set"∧∃S n,H p=some (.set S n))
 |_=>False
theorem o7 {pins:List (Addr×Obj)} {σ:St} {H:Hp} {s:Shared} {T:String} {x:V} {v:Value} (I:Inv X pins σ H s) (r:RelV x v) (ty:tyV X.K T x H):
 s.TypeIs v T∧∀a,v= .ref a→∃ob,s.heap.get? a=some ob∧ob.dict=none:=by
 cases x with
 |str z=>
  obtain ⟨t,rfl⟩:=r
  cases (show T= "str" from ty)
  exact ⟨typeIs_str s z t,fun _ e=>nomatch e⟩
 |int i=>
  obtain ⟨t,rfl⟩:=r
  cases (show T= "int" from ty)
  exact ⟨typeIs_int s i t,fun _ e=>nomatch e⟩
 |ref p=>
  cases r
  rcases ty with ⟨rfl,xs,hq⟩|⟨rfl,o,hk,hc,hd⟩|⟨rfl,hk⟩|⟨rfl,S,n,hk⟩
  · obtain ⟨its,_,pl,_⟩:=I.list hq
    refine ⟨pl.isList.typeIs,fun a e=> ?_⟩
    cases e
    obtain ⟨o,n,e,c,hd,_⟩:=pl
    exact ⟨o,e,hd⟩
  · refine ⟨⟨o,I.kIn p o hk,hc⟩,fun a e=> ?_⟩
    cases e
    exact ⟨o,I.kIn _ o hk,hd⟩
  · have z:∃o,s.heap.get? p=some o∧o.ExactDict:=by
     rcases hk with ⟨kvs,hk⟩|⟨kvs,hk⟩
     · obtain ⟨_,_,_,_,o,_,_,e,ex,_⟩:=I.hok p _ hk
       exact ⟨o,e,ex⟩
     · obtain ⟨_,_,_,_,o,_,_,e,ex,_⟩:=I.hok p _ hk
       exact ⟨o,e,ex⟩
    obtain ⟨o,e,ex⟩:=z
    refine ⟨⟨o,e,ex.1⟩,fun a e2=> ?_⟩
    cases e2
    exact ⟨o,e,ex.2.1⟩
  · obtain ⟨o,_,_,_,e,ex,_⟩:=I.hok p _ hk
    refine ⟨⟨o,e,ex.1⟩,fun a e2=> ?_⟩
    cases e2
    exact ⟨o,e,ex.2.1⟩
 |_=>exact False.elim ty
def tBM0 (K:PySem.W.Frag) (T:String) (r:V→List V→Hp→VK→Prop) (to:TE):TE:=fun σ H Q=>to σ H fun x H1=>tyV K T x H1∧r x [] H1 Q
def tBM (K:PySem.W.Frag) (T:String) (r:V→List V→Hp→VK→Prop) (to:TE) (t:TA):TE:=fun σ H Q=>to σ H fun x H1=>tyV K T x H1∧t σ H1 fun xs H2=>r x xs H2 Q
variable {o e:Expr} {es:List Expr} {to:TE} {t:TA} {name:Str} {apos cpos:Pos} {T id:String} {r:V→List V→Hp→VK→Prop}
theorem iG (pa:PlainAttrs T) (slot:Slot T name id) (hty:typeOf (.builtin id)=pure (.type "method_descriptor")) (hm:MtR X id r) (ho:PE X o to)
 (hbase:attributeBase o name X.env (eval o X.env)=eval o X.env:=by rfl) (hline:(apos.endLine==cpos.line)=true:=by rfl):PE X (.Call (.Attribute o name apos) [] [] cpos) (tBM0 X.K T r to):=by
 intro pins s σ H Q I h
 refine wpAny_Call_method0_late hbase hline (thn (ho pins s σ H _ I h) fun v s1 ⟨x,H1,I1,r1,ty,q1⟩=> ?_)
 obtain ⟨h1,h2⟩:=o7 I1 r1 ty
 exact ⟨T,id,pa,slot,hty,h1,h2,Calls.callWith_builtin rfl (PySem.evalArgs_none (hm pins s1 σ H1 x [] v [] Q I1 r1 .nil q1))⟩
theorem cG (pa:PlainAttrs T) (slot:Slot T name id) (hty:typeOf (.builtin id)=pure (.type "method_descriptor")) (hm:MtR X id r) (ho:PE X o to) (ha:PA X (e::es) t)
 (hbase:attributeBase o name X.env (eval o X.env)=eval o X.env:=by rfl)
 (hfew:((backTo cpos (starEach (e::es) X.env)).all (fun x=> !x.1)&& (backToKw cpos (keywordEach [] X.env)).all (fun x=>x.1.isSome)
  &&decide ((e::es).length+([]:List Keyword).length+(if ([]:List Keyword).isEmpty then 0 else 1) < 30))=true:=by rfl)
 (hline:(apos.endLine==cpos.line)=true:=by rfl) (hs:starEach (e::es) X.env=(false,eval e X.env)::starEach es X.env:=by rfl) (hplain:(backTo cpos (starEach es X.env)).any (·.1)=false:=by rfl):
 PE X (.Call (.Attribute o name apos) (e::es) [] cpos) (tBM X.K T r to t):=by
 intro pins s σ H Q I h
 refine wpAny_Call_method_late hbase hfew hline rfl (thn (ho pins s σ H _ I h) fun v s1 ⟨x,H1,I1,r1,ty,q1⟩=> ?_)
 obtain ⟨h1,h2⟩:=o7 I1 r1 ty
 refine ⟨T,id,pa,slot,hty,h1,h2,?_⟩
 have hA:=ha cpos pins s1 σ H1 _ I1 q1
 rw [hs] at hA ⊢
 refine Calls.callWith_builtin (by show (false ||(backTo cpos (starEach es X.env)).any (·.1))=false;rw [hplain]<;>rfl) (Calls.evalArgs_plain ?_)
 exact thn hA fun us s2 ⟨vs,H2,I2,r2,q2⟩=>hm pins s2 σ H2 x vs v us Q I2 r1 r2 q2
end
open PySem PySem.Spec PyProof.Rows
def MtM (X:Cx) (id:String) (r:V→List V→Hp→VK→Prop):Prop:=
 ∀(pins:List (Addr×Obj)) (s:Shared) (σ:St) (H:Hp) (x:V) (xs:List V) (v:Value) (us:List Value) (Q:VK),Inv X pins σ H s→RelV x v→Vals xs us→r x xs H Q→
  wpAny (model X.prog X.w) X.A (call (.builtin id) (v::us)) (EP X pins σ Q) X.xe s
theorem Vals.one:∀ {x:V} {us:List Value},Vals [x] us→∃u,us= [u]∧RelV x u
 |_,_, .cons r .nil=>⟨_,rfl,r⟩
theorem Vals.two {x y:V} {us:List Value} (h:Vals [x,y] us):∃u v,us= [u,v]∧RelV x u∧RelV y v:=by
 cases h with
 |cons r t=>cases t with
  |cons q t'=>cases t';exact ⟨_,_,rfl,r,q⟩
theorem Vals.zero:∀ {us:List Value},Vals [] us→us= []
 |_, .nil=>rfl
theorem Vals.dropLast {xs:List V} {us:List Value} (h:Vals xs us):Vals xs.dropLast us.dropLast:=by
 induction h with
 |nil=>exact .nil
 |cons r t ih=>
  cases t with
  |nil=>exact .nil
  |cons q t'=>exact .cons r ih
theorem Vals.eraseIdx:∀ {xs:List V} {us:List Value} (i:Nat),Vals xs us→Vals (xs.eraseIdx i) (us.eraseIdx i)
 |_,_,_, .nil=> .nil
 |_,_,0, .cons _ t=>t
 |_,_,i+1, .cons r t=> .cons r (Vals.eraseIdx i t)
theorem Vals.reverse {xs:List V} {us:List Value} (h:Vals xs us):Vals xs.reverse us.reverse:=by
 induction h with
 |nil=>exact .nil
 |cons r t ih=>rw [List.reverse_cons,List.reverse_cons];exact Vals.append ih (.cons r .nil)
theorem kK {α:Type} (l:List α):l.eraseIdx (l.length - 1)=l.dropLast:=by
 induction l with
 |nil=>rfl
 |cons a r ih=>
  cases r with
  |nil=>rfl
  |cons b r=>
   have e:(a::b::r).length - 1=((b::r).length - 1)+1:=by
    have h1:(a::b::r).length=r.length+2:=rfl
    have h2:(b::r).length=r.length+1:=rfl
    omega
   rw [e,List.eraseIdx_cons_succ,ih]
   all_goals rfl
section
variable {X:Cx} {pins:List (Addr×Obj)} {σ:St} {H:Hp} {s:Shared} {l b:Addr} {xs ys zs:List V}
theorem Inv.lset {its its':List Value} {n:Nat} {f:Array Value→Array Value} {t':Nat} (I:Inv X pins σ H s) (hH:H l=some (.lst xs))
 (e:s.heap.get? l=some {cls:= .type "list",data:= .seq its.toArray n}) (hf:f its.toArray=its'.toArray) (hv:Vals ys its') (hz:ys.length≤sizeLine):
 Inv X pins σ (upd H l (.lst ys)) {s with heap:=s.heap.update l (Obj.mapSeq f),toks:=t'}:=by
 have q:=PySem.IsL.update e f
 rw [hf] at q
 refine I.write (x:=l) (e:=l) (by rw [hH];exact trivial) (.inl rfl) (fun b' u hb hu=>(Heap.get?_update_other s.heap (Obj.mapSeq f) (Ne.symm hb)).trans hu) ⟨_,q⟩ ?_
 exact ⟨hz,its',_,hv,q⟩
theorem Inv.lnew {its:List Value} {t':Nat} (I:Inv X pins σ H s) (hv:Vals ys its) (hz:ys.length≤sizeLine):
 Inv X pins σ (upd H s.heap.objs.size (.lst ys)) {s with heap:=s.heap.push {cls:= .type "list",data:= .seq its.toArray},toks:=t'}:=
 I.laid (fun _ _ q=>Heap.get?_push_of_some _ q) (wO _) ⟨hz,its,0,hv,Heap.get?_push_size _ rfl⟩
theorem Inv.fresh (I:Inv X pins σ H s):H s.heap.objs.size=none:=I.hok.fresh (wO _)
theorem Inv.lstM (I:Inv X pins σ H s) (hH:H l=some (.lst xs)):xs.length≤sizeLine∧∃(its:List Value) (n:Nat),Vals xs its∧xs.length=its.length∧s.heap.get? l=some {cls:= .type "list",data:= .seq its.toArray n}:=by
 obtain ⟨z,its,n,r,e⟩:=I.hok l _ hH
 exact ⟨z,its,n,r,r.length,e⟩
end
section
variable {X:Cx}
def rh:V→List V→Hp→VK→Prop:=fun x vs H Q=>∃l xs y,x= .ref l∧vs= [y]∧H l=some (.lst xs)∧xs.length < sizeLine∧Q .non (upd H l (.lst (xs++ [y])))
theorem aT:MtM X "list.append" rh:=by
 intro pins s σ H x vs v us Q I rx rv h
 obtain ⟨l,xs,y,rfl,rfl,hH,hz,q⟩:=h
 cases rx
 obtain ⟨u,rfl,ru⟩:=rv.one
 obtain ⟨z,its,n,r,hl,e⟩:=I.lstM hH
 refine call_meets F.slot_list_append ⟨_,e,rfl⟩ F.entry_list_append (F.args_list_append_2 _ _) (PySem.list_append l its.toArray n u (by rw [wU];omega)) ⟨e,?_⟩
 refine ⟨.non,_,I.lset (its':=its++ [u]) hH e (by simp) (r.append (.cons ru .nil)) ?_,rfl,q⟩
 rw [wM,x8]
 omega
def rPop:V→List V→Hp→VK→Prop:=fun x vs H Q=>∃l xs y,x= .ref l∧vs= []∧H l=some (.lst xs)∧xs[xs.length - 1]?=some y∧Q y (upd H l (.lst xs.dropLast))
theorem pA:MtM X "list.pop" rPop:=by
 intro pins s σ H x vs v us Q I rx rv h
 obtain ⟨l,xs,y,rfl,rfl,hH,hy,q⟩:=h
 cases rx
 have hus:=rv.zero
 subst hus
 obtain ⟨z,its,n,r,hl,e⟩:=I.lstM hH
 obtain ⟨u,hu,ru⟩:=r.get hy
 have hy':its.toArray[its.toArray.size - 1]?=some u:=by
  show its.toArray[its.length - 1]?=some u
  rw [←xg,←hl]
  exact hu
 refine call_meets F.slot_list_pop ⟨_,e,rfl⟩ F.entry_list_pop (F.args_list_pop_1 _) (MeetsSeq.list_pop_last l its.toArray n u hy' (by rw [wU];omega)) ⟨e,?_⟩
 refine ⟨y,_,I.lset (its':=its.dropLast) hH e ?_ r.dropLast ?_,ru,q⟩
 · show its.toArray.eraseIdxIfInBounds (its.toArray.size - 1)=its.dropLast.toArray
   rw [wU,List.eraseIdxIfInBounds_toArray,kK]
 · rw [List.length_dropLast]
   omega
def uv:V→List V→Hp→VK→Prop:=fun x vs H Q=>∃l xs,x= .ref l∧vs= []∧H l=some (.lst xs)∧Q .non (upd H l (.lst []))
theorem pB:MtM X "list.clear" uv:=by
 intro pins s σ H x vs v us Q I rx rv h
 obtain ⟨l,xs,rfl,rfl,hH,q⟩:=h
 cases rx
 have hus:=rv.zero
 subst hus
 obtain ⟨z,its,n,r,hl,e⟩:=I.lstM hH
 refine call_meets F.slot_list_clear ⟨_,e,rfl⟩ F.entry_list_clear (F.args_list_clear_1 _) (AutoSeq1.list_clear_list_0 l its.toArray n (by rw [wU];omega)) ⟨e,?_⟩
 exact ⟨.non,_,I.lset (its':= []) (ys:= []) hH e rfl .nil (xo _),rfl,q⟩
def rCat:R2:=fun x y H Q=>∃l b xs zs,x= .ref l∧y= .ref b∧H l=some (.lst xs)∧H b=some (.lst zs)∧xs.length+zs.length≤sizeLine∧∀p,H p=none→Q (.ref p) (upd H p (.lst (xs++zs)))
theorem pf:OpR X (binaryOp .Add) rCat:=by
 intro pins s σ H x y v u Q I rx ry h
 obtain ⟨l,b,xs,zs,rfl,rfl,hH,hB,hz,q⟩:=h
 cases rx
 cases ry
 obtain ⟨z,its,n,r,hl,e⟩:=I.lstM hH
 obtain ⟨z2,its2,n2,r2,hl2,e2⟩:=I.lstM hB
 refine PySem.P.add_list e e2 ?_ (by rw [wU,wU];omega)
 have ea:its.toArray++its2.toArray=(its++its2).toArray:=by simp
 rw [ea]
 exact ⟨.ref _,_,I.lnew (t':=s.toks) (r.append r2) (by rw [wM];omega),rfl,q _ I.fresh⟩
end
section
variable {prog:Program} {w:World} {A:Around} {E:Value→Shared→Prop} {s:Shared}
end
section
variable {X:Cx}
end
end L2
namespace Att
open PySem PySem.W PySem.Calls PyProof.Rows
theorem eW {P:Params} {h:Heap}:∀(ns:List Int) (vs:List Value),WellAll P h vs (ns.map WData.int)→IntsAre vs ns:=by
 intro ns
 induction ns with
 |nil=>
  intro vs w
  rw [List.map_nil] at w
  cases w
  exact .nil
 |cons n ns ih=>
  intro vs w
  rw [wZ] at w
  cases w with
  |cons a b=>
   cases a
   exact .cons _ _ (ih _ b)
theorem nu {l:OpenLaw} {n:Nat} (hn:l.most=some n) {P:Params} {h:Heap} {args:List WData} {vals:List Value}
 (hpre:l.row.toRowW.claim.pre args=true) (hwl:WellAll P h vals args):
 ∃a vs ns,vals= [Value.ref a]∧args= [WData.list (ns.map WData.int)]∧h.get? a=some {cls:= .type "list",data:= .seq vs.toArray}∧IntsAre vs ns∧ns.length≤n:=by
 have hsh:WShape.hasAll [] args [.list .int]=true:=(pre_splitW hpre).1
 have hc:l.pre.holds [] {args:=args} =true:=(pre_splitW hpre).2
 obtain ⟨d,r,rfl,h1,h2⟩:=hasAllW_cons hsh
 obtain rfl:=hasAllW_nil h2
 obtain ⟨xs,rfl,h3⟩:=hasW_list h1
 obtain ⟨ns,rfl⟩:=items_int h3
 have hlen:ns.length≤n:=by
  unfold OpenLaw.pre at hc
  have h4:(WTm.not (.lt (.lit (.int (n:Int))) (.len (.arg 0)))).holds [] {args:= [.list (ns.map .int)]} =true:=by
   have h4:=(holds_andW hc).1
   rw [hn] at h4
   exact h4
  have h5:=condW_of h4 (w_not (w_lt w_lit (w_len_list (w_arg rfl))))
  rw [wL] at h5
  refine Nat.le_of_not_lt fun q=> ?_
  have q':(n:Int) < ((ns.length:Nat):Int):=by omega
  first
   |(rw [decide_eq_true q'] at h5;exact absurd h5 (by decide))
   |(simp at h5;omega)
 cases hwl with
 |cons w1 w2=>
  cases w2
  cases w1 with
  |list ho hall=>exact ⟨_,_,ns,rfl,rfl,ho,eW ns _ hall,hlen⟩
theorem nw (l:OpenLaw) (args:List WData):l.row.toRowW.claim.post args (.bool true) args=true:=
 postW_of (r:=l.row.toRowW) (X:=(true==true))
  (show WShape.has [] (.bool true) .bool=true by first|rfl|decide|simp [WShape.has,WShape.arms,WShape.armsAll])
  (show (WTm.eq .res (.lit (.bool true))).value [] {args:=args,res:=some (.bool true),after:=args} =some (.bool (true==true)) from w_eq_bool (w_res rfl) w_lit) rfl
theorem attach_call {l:OpenLaw} {n:Nat} {q:Program} {loose:List Str} {XP:(Str→Option Value)→Heap→Prop} {YP:World→Heap→Prop} {d:DefRec}
 (hn:l.most=some n) (hdf:d.params.defaults= [])
 (call:∀(w:World) (s₀ s₁:Shared) (mg mb:Str→Option Value) (fa:Addr) (o:Obj) (pm cd doc:Value) (a:Addr) (vs:List Value) (ns:List Int),
  Ground q loose [] XP w s₀ mg mb s₁.heap→YP w s₁.heap→
  s₁.heap.get? fa=some o→o.data= .func (docDef d.name d.params d.body d.scope pm cd doc)→s₁.heap.CodeRec cd d.name→mg d.name=some (.ref fa)→
  s₁.heap.get? a=some {cls:= .type "list",data:= .seq vs.toArray}→IntsAre vs ns→ns.length≤n→s₁.gens= #[]→
  codeAny (model l.prog w) callerA (.call (.ref fa) ⟨[.ref a],[]⟩) (fun r s'=>r= .ok (.ret (.bool true))∧OldK s₁.heap s'.heap∧s'.os=s₁.os∧AllBare s'.gens) s₁):
 WalkO q loose XP YP l.row.toRowW d [] (fun f vs=>PySem.call f vs):=by
 intro w s₀ s₁ mg mb G Y fa o pm cd doc dV kV ho hd hcd hD hmg hg args vals as hpre hlay hrd hwl hlo
 obtain rfl:dV= .none:=Dflts.none hD hdf
 obtain rfl:kV= .none:=Dflts.noKw hD
 obtain ⟨a,vs,ns,rfl,rfl,hobj,hints,hlen⟩:=nu hn hpre hwl
 refine enter_call (codeAny_mono (call w s₀ s₁ mg mb fa o pm cd doc a vs ns G Y ho (fd_plain hd) hcd hmg hobj hints hlen hg) fun r s' hq=> ?_)
 obtain ⟨rfl,h2,h3,h4⟩:=hq
 exact ⟨.inl ⟨.bool true, .bool true,[],rfl,fun _=>rfl, .bool true,nw l _,fun _=>⟨List.Pairwise.nil,fun _ hm=>(nomatch hm)⟩⟩,h2,h3,h4⟩
section
variable {prog:Program} {w:World} {A:Around} {E:Value→Shared→Prop} {s:Shared} {K:Frag}
end
end Att
namespace L2
open PySem PySem.Spec PyProof.Rows
theorem gQ:∀ {vs:List Value} {ns:List Int},IntsAre vs ns→Vals (ns.map V.int) vs
 |_,_, .nil=> .nil
 |_,_, .cons n t h=> .cons ⟨t,rfl⟩ (gQ h)
def Only (H:Hp):Prop:=∀b,H b=none∨∃o xs,H b=some (.frz o (.lst xs))
theorem pI {P:Program} {w:World} {K:PySem.W.Frag} {mg mb:Str→Option Value} {CX:CXT} {k:Nat} {fa a:Addr} {fd:FuncData} {x:Str} {sp:Sp} {s₁:Shared} {vs:List Value} {ns:List Int}
 (KX:K.In s₁.heap) (hns:s₁.heap.Ns mainGlobals mg) (hb:s₁.heap.Ns builtinsNs mb) (hbb:∀x:Str,x≠"__name__"→mb x=bootBuiltins x) (hlim:s₁.heap.NoLimit) (hg:s₁.gens= #[])
 (ha:s₁.heap.get? a=some {cls:= .type "list",data:= .seq vs.toArray}) (hi:IntsAre vs ns) (hl:ns.length≤sizeLine) (hr:Room k callerA)
 (F:∀base:Heap,K.In base→base.Ns mainGlobals mg→FnOk P w K mg base CX k fa fd [x] sp) (hbind:∀(s:Shared) (u:Value),BindsTo s fd ⟨[u],[]⟩ [(x,u)])
 (hsp:∀H:Hp,Only H→SqL K H a (ns.map V.int)→sp [.ref a] H (fun v _=>v= .bl true) fun _ _ _=>False)
 (hCX:∀H e s',CX [] H s₁ (fun _ _ _=>False) e s'→False):
 codeAny (model P w) callerA (.call (.ref fa) ⟨[.ref a],[]⟩) (fun r s'=>r= .ok (.ret (.bool true))∧OldK s₁.heap s'.heap∧s'.os=s₁.os∧AllBare s'.gens) s₁:=by
 have rv:=gQ hi
 have lenV:=hi.length
 have core:∀H:Hp,Only H→SqL K H a (ns.map V.int)→HOk P w H s₁.heap→(∀b,H b≠none→b=a)→(H a≠none→K.lookup a=none)→
  codeAny (model P w) callerA (.call (.ref fa) ⟨[.ref a],[]⟩) (fun r s'=>r= .ok (.ret (.bool true))∧OldK s₁.heap s'.heap∧s'.os=s₁.os∧AllBare s'.gens) s₁:=by
  intro H hO hS hok hA hK
  have base_of:∀ {b:Addr} {o:Obj},s₁.heap.get? b=some o→H b=none→(hidT s₁.heap H).get? b=some o:=fun e n=>pZ e n
  have noA:∀ {b:Addr} {o:Obj} {es:Array DictEntry} {ep:Nat},s₁.heap.get? b=some o→o.data= .dict es ep→H b=none:=fun {b o es ep} e d=>by
   cases q:H b with
   |none=>rfl
   |some u=>
    have e':b=a:=hA b (by rw [q];simp)
    subst e'
    rw [ha] at e;cases e
    have d':Data.seq vs.toArray _=Data.dict es ep:=d
    cases d'
  have nsK:∀ {b:Addr} {m:Str→Option Value},s₁.heap.Ns b m→(hidT s₁.heap H).Ns b m:=fun {b m} ⟨o,es,ep,e,d,r⟩=>⟨o,es,ep,base_of e (noA e d),d,r⟩
  have hKb:K.In (hidT s₁.heap H):=fun b o e=>base_of (KX b o e) (by
   cases q:H b with
   |none=>rfl
   |some u=>
    have e':b=a:=hA b (by rw [q];simp)
    subst e'
    rw [hK (by rw [q];simp)] at e;cases e)
  have hM:Mod K mg (hidT s₁.heap H):=⟨hKb,nsK hns,⟨mb,nsK hb,hbb⟩,let ⟨mc,h1,h2⟩:=hlim;⟨mc,nsK h1,h2⟩⟩
  have e0:Env0 P w K mg (hidT s₁.heap H) callerA [] s₁ H:=⟨rfl,hM,fun b o e=>rM e,Nat.le_of_eq (nI _ _),trivial,fun b hb=>absurd (show b∈([]:List Addr) from hb) (by simp),hok, .of_eq hg⟩
  refine codeAny_mono ((F _ hKb (nsK hns)).run callerA [] s₁ H ⟨[.ref a],[]⟩ [.ref a] [.ref a] _ _ hr e0 (hbind s₁ (.ref a)) (.cons rfl .nil) (hsp H hO hS)) fun r s' h=> ?_
  cases r with
  |error e=>exact (hCX H e s' h).elim
  |ok fl=>
   cases fl with
   |next=>exact False.elim h
   |brk=>exact False.elim h
   |cont=>exact False.elim h
   |ret u=>
    obtain ⟨v,H',os,bare,un,hok',r',q⟩:=h
    have q':v= .bl true:=q
    subst q'
    obtain rfl:u=Value.bool true:=r'
    refine ⟨rfl,OldK.of_keep fun b o e=> ?_,os,bare⟩
    cases q:H b with
    |none=>exact un.keep b o e q (by intro z;exact absurd (show b∈([]:List Addr) from z) (by simp)) (by simp)
    |some u=>
     rcases hO b with z|⟨ob,xs,z⟩
     · rw [q] at z;cases z
     · have z2:=un.frzs b ob _ z
       obtain ⟨e1,_⟩:=hok b _ z
       obtain ⟨e2,_⟩:=hok' b _ z2
       rw [e] at e1;cases e1
       exact e2
 cases hk:K.lookup a with
 |some o=>
  have e:=KX a o hk
  rw [ha] at e
  cases e
  refine core (fun _=>none) (fun _=> .inl rfl) (.inr ⟨_,vs.toArray,_,hk,rfl,rfl,rfl,by rw [wU,lenV];exact hl,by simpa using rv⟩) (fun b u z=>by have z':(none:Option HO)=some u:=z;cases z') (fun b z=>absurd rfl z) fun z=>absurd rfl z
 |none=>
  refine core (fun b=>if b=a then some (.frz {cls:= .type "list",data:= .seq vs.toArray} (.lst (ns.map V.int))) else none) (fun b=> ?_) (.inl (.inr ⟨{cls:= .type "list",data:= .seq vs.toArray},if_pos rfl⟩)) (fun b u z=> ?_) (fun b z=> ?_) fun _=>hk
  · by_cases hb:b=a
    · exact .inr ⟨_,_,if_pos hb⟩
    · exact .inl (if_neg hb)
  · by_cases hb:b=a
    · have z':=(if_pos hb).symm.trans z
      cases z'
      subst hb
      exact ⟨ha,by rw [wL];exact hl,vs,_,rv,ha⟩
    · have z':=(if_neg hb).symm.trans z
      cases z'
  · by_cases hb:b=a
    · exact hb
    · exact absurd (if_neg hb) z
open PySem PySem.Spec PyProof.Rows
theorem walk_of {l:PySem.W.OpenLaw} {n k:Nat} {q:Program} {loose:List Str} {XP:(Str→Option Value)→Heap→Prop} {YP:World→Heap→Prop} {d:DefRec} {K:Params→PySem.W.Frag} {CX:World→CXT} {sp:World→Sp} {x:Str}
 (hn:l.most=some n) (hn2:n≤sizeLine) (hdf:d.params.defaults= []) (hr:Room k callerA)
 (hY:∀(w:World) (h:Heap),YP w h→(K w.params).In h)
 (F:∀(w:World) (mg:Str→Option Value) (fa:Addr) (h:Heap),(K w.params).In h→h.Ns mainGlobals mg→mg d.name=some (.ref fa)→
  ∃fd:FuncData,(∀(s:Shared) (u:Value),BindsTo s fd ⟨[u],[]⟩ [(x,u)])∧
   ∀base:Heap,(K w.params).In base→base.Ns mainGlobals mg→FnOk l.prog w (K w.params) mg base (CX w) k fa fd [x] (sp w))
 (hsp:∀(w:World) (H:Hp) (a:Addr) (ns:List Int),ns.length≤n→Only H→SqL (K w.params) H a (ns.map V.int)→sp w [.ref a] H (fun v _=>v= .bl true) fun _ _ _=>False)
 (hCX:∀(w:World) (H:Hp) (s:Shared) (e:Value) (s':Shared),CX w [] H s (fun _ _ _=>False) e s'→False):
 PySem.W.WalkO q loose XP YP l.row.toRowW d [] (fun f vs=>PySem.call f vs):=by
 refine Att.attach_call hn hdf fun w s₀ s₁ mg mb fa o pm cd doc a vs ns G Y ho hd hcd hmg hobj hints hlen hg=> ?_
 have KX:=hY w _ Y
 obtain ⟨fd,hb,hF⟩:=F w mg fa _ KX G.T.g hmg
 exact pI KX G.T.g G.T.b G.T.builtins G.T.nolimit hg hobj hints (xI hlen hn2) hr hF hb (fun H hO hS=>hsp w H a ns hlen hO hS) fun H e s'=>hCX w H s₁ e s'
open PySem PySem.Spec PyProof.Rows
noncomputable def rY (s:Stmt) (j:Nat):Stmt:=match s with
 | .ClassDef _ _ _ body _ _ _ _ _ _ _=>body.getD j (.Pass ⟨0,0,0,0⟩)
 |_=> .Pass ⟨0,0,0,0⟩
noncomputable def aI (s:Stmt):Arguments:=match s with
 | .FunctionDef _ a _ _ _ _ _ _ _ _=>a
 |_=> {posonlyargs:= [],args:= [],vararg:=none,kwonlyargs:= [],kw_defaults:= [],kwarg:=none,defaults:= []}
noncomputable def az (s:Stmt):List Stmt:=match s with
 | .FunctionDef _ _ b _ _ _ _ _ _ _=>b
 |_=> []
noncomputable def ag (s:Stmt):Scope:=match s with
 | .FunctionDef _ _ _ _ _ _ sc _ _ _=>sc
 |_=> {kind:= .function,names:= [],isGenerator:=false,isCoroutine:=false}
abbrev CX0:CXT:=fun _ _ _ _ _ _=>False
abbrev E0:XK:=fun _ _ _=>False
theorem aF {X:Cx}:gJ CX0 X E0:=fun _ _ _ _ _ _ _ h=>h.elim
structure Fun (K:PySem.W.Frag) (x qual:Str) (st:Stmt) (f:Addr) (fd:FuncData):Prop where
 ex:∃(oc:Value) (od:Option Addr) (kV doc pm:Value) (an:Option Addr) (cdv ct:Value) (osl:Array (Option Value)),
  fd=PySem.W.fnOf x qual (aI st) (az st) (ag st) .none kV doc pm an cdv ct∧K.lookup f=some ⟨oc,od, .func fd,osl⟩∧PySem.W.codeIn K cdv qual=true
 kp:PySem.W.keepIn K (.ref f)=true
section
variable {P:Program} {w:World} {K:PySem.W.Frag} {mg:Str→Option Value} {base:Heap}
theorem Fun.ok {x qual:Str} {st:Stmt} {f:Addr} {fd:FuncData} {N ps:List Str} {k:Nat} {sp:Sp} (F:Fun K x qual st f fd) (S:aM N ps (ag st)) (len:∀vs H Q E,sp vs H Q E→vs.length=ps.length)
 (hbody:∀(cdv:Value) (A:Around) (outer:List Env) (s:Shared) (H:Hp) (vs:List V) (Q:VK) (E:XK),Room k (A.deeper (envOfC qual (ag st) s.heap.objs.size f cdv))→sp vs H Q E→
  ∃t,PSs (cxOf CX0 P w K mg base N qual (ag st) f cdv A outer s H E).nox (az st) t∧t {nx:=fun _ H'=>Q .non H',rt:=Q} (eL N vs) H):FnOk P w K mg base CX0 (k+1) f fd ps sp:=by
 obtain ⟨oc,od,kV,doc,pm,an,cdv,ct,osl,rfl,lk,hcd⟩:=F.ex
 refine ww lk hcd S len fun A outer s H vs Q E hr hsp=> ?_
 obtain ⟨t,h,q⟩:=hbody cdv A outer s H vs Q E hr hsp
 exact ⟨t,h.nox,q⟩
theorem Fun.binds {x qual:Str} {st:Stmt} {f:Addr} {fd:FuncData} {ps:List Str} (F:Fun K x qual st f fd)
 (h:∀(kV doc pm:Value) (an:Option Addr) (cdv ct:Value) (us:List Value),us.length=ps.length→bindArgs (PySem.W.fnOf x qual (aI st) (az st) (ag st) .none kV doc pm an cdv ct) ⟨us,[]⟩=pure (ps.zip us)):Binds K fd ps []:=by
 obtain ⟨oc,od,kV,doc,pm,an,cdv,ct,osl,rfl,lk,hcd⟩:=F.ex
 exact .all (h kV doc pm an cdv ct)
theorem aX {x qual:Str} {st:Stmt} {f:Addr} {oc:Value} {od an:Option Addr} {osl:Array (Option Value)} {kV doc pm cdv ct:Value} (l:K.lookup f=some ⟨oc,od, .func (PySem.W.fnOf x qual (aI st) (az st) (ag st) .none kV doc pm an cdv ct),osl⟩)
 (c:PySem.W.codeIn K cdv qual=true) (k:PySem.W.keepIn K (.ref f)=true):Fun K x qual st f (PySem.W.fnOf x qual (aI st) (az st) (ag st) .none kV doc pm an cdv ct):=⟨⟨oc,od,kV,doc,pm,an,cdv,ct,osl,rfl,l,c⟩,k⟩
end
theorem eU {A:Around} {k:Nat} (hr:Room k A):A.units+1 < cLine:=Nat.lt_of_le_of_lt (Nat.add_le_add_left (by decide:1≤64) _) hr.units
section
variable {X:Cx}
theorem pv (i:Nat) {x:Str} {pos:Pos} (hN:X.N[i]?=some x:=by rfl) (hv:Vis X.env.scope x:=by first|exact Or.inl rfl|exact Or.inr (Or.inl rfl)|exact Or.inr (Or.inr rfl)) (hd:(x==("__debug__":Str))=false:=by decide)
 (hcd:(x==("__classdict__":Str))=false:=by decide):PE X (.Name x pos) (tVar i):=uy hN hv hd hcd
end
theorem iteF {A B:Prop} (h:B):if false=true then A else B:=by
 rw [if_neg x9]
 exact h
theorem iteT {A B:Prop} (h:A):if true=true then A else B:=by
 rw [if_pos rfl]
 exact h
theorem ite2 {c A B:Prop} [Decidable c] (h1:c→A) (h2:¬c→B):if c then A else B:=by
 by_cases h:c
 · rw [if_pos h]
   exact h1 h
 · rw [if_neg h]
   exact h2 h
def Same (H H':Hp):Prop:=∀b o,H b=some o→H' b=some o
theorem Same.refl (H:Hp):Same H H:=fun _ _ h=>h
theorem Same.trans {H H1 H2:Hp} (a:Same H H1) (b:Same H1 H2):Same H H2:=fun c o h=>b c o (a c o h)
theorem Same.free {H H':Hp} (e:Same H H') {l:Addr} (h:H' l=Option.none):H l=Option.none:=by
 cases q:H l with
 |none=>rfl
 |some o=>
  rw [e l o q] at h
  cases h
theorem Same.seq {K:PySem.W.Frag} {H H':Hp} {a:Addr} {xs:List V} (e:Same H H') (h:SqL K H a xs):SqL K H' a xs:=by
 rcases h with (h|⟨o,h⟩)|h
 · exact .inl (.inl (e _ _ h))
 · exact .inl (.inr ⟨o,e _ _ h⟩)
 · exact .inr h
theorem f8 {t u:TS} {Z:Ends} {σ:St} {H:Hp} (h:∀u',u'=u→tSeq t u' Z σ H):tSeq t u Z σ H:=h u rfl
theorem bg {t u:TS} {Z:Ends} {σ:St} {H:Hp} (h:∀u' Z',u'=u→Z'=Z→tSeq t u' Z' σ H):tSeq t u Z σ H:=h u Z rfl rfl
theorem hide {p:Prop} (h:∀q:Prop,q=p→q):p:=h p rfl
end L2
namespace Srt
open PySem PySem.W PyProof.Rows
structure Ord (lt:Nat→Nat→Bool):Prop where
 asym:∀a b,lt a b=true→lt b a=false
 tr:∀a b c,lt b a=false→lt c b=false→lt c a=false
theorem Ord.refl {lt:Nat→Nat→Bool} (O:Ord lt) (a:Nat):lt a a=false:=by
 cases e:lt a a with
 |false=>rfl
 |true=>exact (O.asym a a e).symm.trans e |>.symm
theorem Ord.up {lt:Nat→Nat→Bool} (O:Ord lt) {a b c:Nat} (h:lt a b=true) (h2:lt c b=false):lt a c=true:=by
 cases e:lt a c with
 |true=>rfl
 |false=>
  have:=O.tr b c a h2 e
  rw [h] at this
  cases this
def Tri {α:Type} (lt:Nat→Nat→Bool) (N:Nat) (Post:α→Prop):KasT α→Prop
 | .ret a=>Post a
 | .ask i j k=>i < N∧j < N∧Tri lt N Post (k (lt i j))
variable {lt:Nat→Nat→Bool} {N:Nat}
theorem cO {α β:Type} {Post:β→Prop} {f:α→KasT β}:∀ {t:KasT α},Tri lt N (fun a=>Tri lt N Post (f a)) t→Tri lt N Post (t.bind f)
 | .ret a,h=>h
 | .ask i j k,h=>⟨h.1,h.2.1,cO h.2.2⟩
theorem bu {α:Type} {P Q:α→Prop} (hPQ:∀a,P a→Q a):∀ {t:KasT α},Tri lt N P t→Tri lt N Q t
 | .ret a,h=>hPQ a h
 | .ask i j k,h=>⟨h.1,h.2.1,bu hPQ h.2.2⟩
theorem o8 {α:Type} {cmp:Nat→Nat→(Bool→Shared→Prop)→Shared→Prop} {G:Shared→Prop} {Post:α→Prop} {Q:α→Shared→Prop}
 (hc:∀i j (R:Bool→Shared→Prop) s,i < N→j < N→G s→(∀s',G s'→R (lt i j) s')→cmp i j R s) (hQ:∀a s,Post a→G s→Q a s):∀ {t:KasT α} {s:Shared},Tri lt N Post t→G s→t.kasWp cmp Q s
 | .ret a,s,h,g=>hQ a s h g
 | .ask i j k,s,h,g=>hc i j _ s h.1 h.2.1 g fun s' g'=>o8 hc hQ h.2.2 g'
def g (p:Array Nat) (k:Nat):Nat:=p.getD k 0
def Pm (N:Nat) (p:Array Nat):Prop:=p.toList.Perm (List.range N)
theorem Pm.size {p:Array Nat} (h:Pm N p):p.size=N:=by
 have:=h.length_eq
 rw [wX,x3] at this
 exact this
theorem dl {p:Array Nat} (k:Nat):g p k=(p[k]?).getD 0:=by
 unfold g
 rw [xZ]
theorem Pm.bd {p:Array Nat} (h:Pm N p) {k:Nat} (hk:k < N):g p k < N:=by
 have hs:=h.size
 have:p[k]?=some (p[k]'(by omega)):=xr _
 rw [dl,this]
 have m:p[k]'(by omega)∈p.toList:=Array.mem_toList_iff.mpr (Array.getElem_mem _)
 exact xj.mp (h.mem_iff.mp m)
theorem Pm.of {p q:Array Nat} (h:Pm N p) (e:q.Perm p):Pm N q:=(Array.perm_iff_toList_perm.mp e).trans h
theorem Pm.rev {p:Array Nat} (h:Pm N p) (i j:Nat):Pm N (kas_rev p i j):=h.of (mirror_perm _ _ _ _)
theorem dA {p:Array Nat} {i j:Nat} (hj:j≤p.size) (k:Nat):g (kas_rev p i j) k=if i≤k∧k < j then g p (i+j - 1 - k) else g p k:=by
 rw [dl]
 unfold kas_rev
 rw [getElem?_mirror_all hj]
 split<;>rw [dl]
theorem wu {p:Array Nat} {src d:Nat} (hs:src < p.size) (hd:d≤src) (k:Nat):g (bubble p src d) k=if k=src - d then g p src else if src - d < k∧k≤src then g p (k - 1) else g p k:=by
 rw [dl,getElem?_bubble hs d hd]
 split
 · rw [dl]
 · split<;>rw [dl]
def Up (lt:Nat→Nat→Bool) (p:Array Nat) (n:Nat):Prop:=∀i j,i≤j→j < n→lt (g p j) (g p i)=false
def Dn (lt:Nat→Nat→Bool) (p:Array Nat) (n:Nat):Prop:=∀i j,i≤j→j < n→lt (g p i) (g p j)=false
theorem qL (O:Ord lt) {p:Array Nat} {n:Nat} (h0:1≤n) (h:Up lt p n) (e:lt (g p n) (g p (n - 1))=false):Up lt p (n+1):=by
 intro i j hij hj
 by_cases q:j < n
 · exact h i j hij q
 · have ej:j=n:=by omega
   subst ej
   by_cases qi:i=j
   · subst qi
     exact O.refl _
   · exact O.tr _ _ _ (h i (j - 1) (by omega) (by omega)) e
theorem dY (O:Ord lt) {p:Array Nat} {n:Nat} (h0:1≤n) (h:Dn lt p n) (e:lt (g p (n - 1)) (g p n)=false):Dn lt p (n+1):=by
 intro i j hij hj
 by_cases q:j < n
 · exact h i j hij q
 · have ej:j=n:=by omega
   subst ej
   by_cases qi:i=j
   · subst qi
     exact O.refl _
   · exact O.tr _ _ _ e (h i (j - 1) (by omega) (by omega))
theorem tV {p:Array Nat} {n:Nat} (hn:n≤p.size) (h:Dn lt p n):Up lt (kas_rev p 0 n) n:=by
 intro i j hij hj
 rw [dA hn,dA hn,if_pos ⟨xo _,hj⟩,if_pos ⟨xo _,by omega⟩]
 exact h _ _ (by omega) (by omega)
theorem oj (O:Ord lt) {p:Array Nat} (hp:Pm N p):∀(f n:Nat),1≤n→n+f≤N→Up lt p n→Tri lt N (fun m=>n≤m∧m≤n+f∧Up lt p m∧(m < n+f→lt (g p m) (g p (m - 1))=true)) (kas_asc p f n)
 |0,n,h1,h2,h=>⟨wO _,wO _,h,fun q=>absurd q (by omega)⟩
 |f+1,n,h1,h2,h=>by
  refine ⟨Pm.bd hp (by omega),Pm.bd hp (by omega),?_⟩
  show Tri lt N _ (if lt (g p n) (g p (n - 1))=true then .ret n else kas_asc p f (n+1))
  by_cases e:lt (g p n) (g p (n - 1))=true
  · rw [if_pos e]
    exact ⟨wO _,by omega,h,fun _=>e⟩
  · rw [if_neg e]
    refine bu (fun m hm=> ?_) (oj O hp f (n+1) (by omega) (by omega) (qL O h1 h (by simpa using e)))
    exact ⟨by omega,by omega,hm.2.2.1,fun q=>hm.2.2.2 (by omega)⟩
def Eqv (lt:Nat→Nat→Bool) (p:Array Nat) (n q:Nat):Prop:=∀k,n - 1 - q≤k→k < n→lt (g p k) (g p (n - 1))=false∧lt (g p (n - 1)) (g p k)=false
theorem jx (O:Ord lt) {p:Array Nat} {n q:Nat} (hn:n≤p.size) (hq:q+1≤n) (h:Dn lt p n) (he:Eqv lt p n q):Dn lt (kas_rev p (n - (q+1)) n) n:=by
 intro i j hij hj
 rw [dA hn,dA hn]
 by_cases bi:n - (q+1)≤i
 · rw [if_pos ⟨bi,by omega⟩,if_pos ⟨by omega,hj⟩]
   obtain ⟨a1,a2⟩:=he (n - (q+1)+n - 1 - i) (by omega) (by omega)
   obtain ⟨b1,b2⟩:=he (n - (q+1)+n - 1 - j) (by omega) (by omega)
   exact O.tr _ _ _ b2 a1
 · rw [if_neg (by omega)]
   by_cases bj:n - (q+1)≤j
   · rw [if_pos ⟨bj,hj⟩]
     exact h _ _ (by omega) (by omega)
   · rw [if_neg (by omega)]
     exact h _ _ hij hj
theorem ip (O:Ord lt):∀(f:Nat) (p:Array Nat) (n q:Nat),Pm N p→1≤n→n+f≤N→q+1≤n→Dn lt p n→Eqv lt p n q→
 Tri lt N (fun r=>Pm N r.1∧n≤r.2.1∧r.2.1≤n+f∧r.2.2+1≤r.2.1∧Dn lt r.1 r.2.1∧Eqv lt r.1 r.2.1 r.2.2) (kas_desc f p n q)
 |0,p,n,q,hp,h1,h2,hq,h,he=>⟨hp,wO _,wO _,hq,h,he⟩
 |f+1,p,n,q,hp,h1,h2,hq,h,he=>by
  have hs:=hp.size
  refine ⟨Pm.bd hp (by omega),Pm.bd hp (by omega),?_⟩
  show Tri lt N _ (if lt (g p n) (g p (n - 1))=true then (if q > 0 then kas_desc f (kas_rev p (n - (q+1)) n) (n+1) 0 else kas_desc f p (n+1) 0) else .ask (g p (n - 1)) (g p n) fun d=>if d=true then .ret (p,n,q) else kas_desc f p (n+1) (q+1))
  have one:∀p':Array Nat,Eqv lt p' (n+1) 0:=fun p' k k1 k2=>by
   have:k=n:=by omega
   subst this
   exact ⟨O.refl _,O.refl _⟩
  by_cases e:lt (g p n) (g p (n - 1))=true
  · rw [if_pos e]
    have e':=O.asym _ _ e
    by_cases q0:q > 0
    · rw [if_pos q0]
      have d1:=jx O (by omega) hq h he
      have d2:Dn lt (kas_rev p (n - (q+1)) n) (n+1):=by
       refine dY O h1 d1 ?_
       rw [dA (by omega),dA (by omega),if_pos ⟨by omega,by omega⟩,if_neg (by omega)]
       obtain ⟨a1,a2⟩:=he (n - (q+1)+n - 1 - (n - 1)) (by omega) (by omega)
       exact O.tr _ _ _ e' a1
      refine bu (fun r hr=> ?_) (ip O f _ (n+1) 0 (hp.rev _ _) (by omega) (by omega) (by omega) d2 (one _))
      exact ⟨hr.1,by omega,by omega,hr.2.2.2⟩
    · rw [if_neg q0]
      refine bu (fun r hr=> ?_) (ip O f p (n+1) 0 hp (by omega) (by omega) (by omega) (dY O h1 h e') (one _))
      exact ⟨hr.1,by omega,by omega,hr.2.2.2⟩
  · rw [if_neg e]
    have e1:lt (g p n) (g p (n - 1))=false:=by simpa using e
    refine ⟨Pm.bd hp (by omega),Pm.bd hp (by omega),?_⟩
    show Tri lt N _ (if lt (g p (n - 1)) (g p n)=true then .ret (p,n,q) else kas_desc f p (n+1) (q+1))
    by_cases e2:lt (g p (n - 1)) (g p n)=true
    · rw [if_pos e2]
      exact ⟨hp,wO _,(by show n≤n+(f+1);omega),hq,h,he⟩
    · rw [if_neg e2]
      have e3:lt (g p (n - 1)) (g p n)=false:=by simpa using e2
      refine bu (fun r hr=> ?_) (ip O f p (n+1) (q+1) hp (by omega) (by omega) (by omega) (dY O h1 h e3) fun k k1 k2=> ?_)
      · exact ⟨hr.1,by omega,by omega,hr.2.2.2⟩
      · show lt (g p k) (g p n)=false∧lt (g p n) (g p k)=false
        by_cases kn:k=n
        · subst kn
          exact ⟨O.refl _,O.refl _⟩
        · obtain ⟨a1,a2⟩:=he k (by omega) (by omega)
          exact ⟨O.tr _ _ _ e3 a1,O.tr _ _ _ a2 e1⟩
theorem oi (O:Ord lt) {p:Array Nat} {n:Nat} (hp:Pm N p) (h1:1≤n) (hn:n≤N) (h:Dn lt p n):Tri lt N (fun r=>Pm N r.2∧1≤r.1∧r.1≤N∧Up lt r.2 r.1) (kas_tail3 n N p):=by
 unfold kas_tail3
 refine cO (bu (fun m hm=> ?_) (oj O (hp.rev 0 n) (N - n) n h1 (by omega) (tV (by rw [hp.size];exact hn) h)))
 exact ⟨hp.rev 0 n,by omega,by omega,hm.2.2.1⟩
theorem fz (O:Ord lt) {p:Array Nat} {n:Nat} (hp:Pm N p) (hn:n+1≤N) (h:Dn lt p (n+1)):Tri lt N (fun r=>Pm N r.2∧1≤r.1∧r.1≤N∧Up lt r.2 r.1) (kas_descPart n N p):=by
 unfold kas_descPart
 refine cO (bu (fun r hr=> ?_) (ip O (N - (n+1)) p (n+1) 0 hp (by omega) (by omega) (by omega) h fun k k1 k2=> ?_))
 · obtain ⟨a1,a2,a3,a4,a5,a6⟩:=hr
   split
   · exact oi O (a1.rev _ _) (by omega) (by omega) (jx O (by rw [a1.size];omega) a4 a5 a6)
   · exact oi O a1 (by omega) (by omega) a5
 · have:k=n:=by omega
   subst this
   exact ⟨O.refl _,O.refl _⟩
theorem qT (O:Ord lt) {p:Array Nat} (hp:Pm N p) (hN:1≤N):Tri lt N (fun r=>Pm N r.2∧1≤r.1∧r.1≤N∧Up lt r.2 r.1) (kas_count N p):=by
 unfold kas_count
 have u1:Up lt p 1:=fun i j hij hj=>by
  have:i=0:=by omega
  have:j=0:=by omega
  subst_vars
  exact O.refl _
 refine cO (bu (fun n hn=> ?_) (oj O hp (N - 1) 1 (wO _) (by omega) u1))
 obtain ⟨b1,b2,b3,b4⟩:=hn
 by_cases e:(n==N)=true
 · rw [if_pos e]
   exact ⟨hp,b1,by omega,b3⟩
 · rw [if_neg e]
   have e':n≠N:=by simpa using e
   have l1:=b4 (by omega)
   by_cases n1:n > 1
   · rw [if_pos n1]
     refine ⟨Pm.bd hp (by omega),Pm.bd hp (by omega),?_⟩
     show Tri lt N _ (if lt (g p 0) (g p (n - 1))=true then .ret (n,p) else kas_descPart n N (kas_rev p 0 n))
     by_cases e2:lt (g p 0) (g p (n - 1))=true
     · rw [if_pos e2]
       exact ⟨hp,b1,by omega,b3⟩
     · rw [if_neg e2]
       have e3:lt (g p 0) (g p (n - 1))=false:=by simpa using e2
       have alike:∀i j,i < n→j < n→lt (g p i) (g p j)=false:=fun i j hi hj=>
        O.tr (g p j) (g p 0) (g p i) (O.tr _ _ _ (b3 j (n - 1) (by omega) (by omega)) e3) (b3 0 i (xo _) hi)
       have hs:=hp.size
       refine fz O (hp.rev 0 n) (by omega) (dY O (by omega) (fun i j hij hj=> ?_) ?_)
       · rw [dA (by omega),dA (by omega),if_pos ⟨xo _,by omega⟩,if_pos ⟨xo _,hj⟩]
         exact alike _ _ (by omega) (by omega)
       · rw [dA (by omega),dA (by omega),if_pos ⟨xo _,by omega⟩,if_neg (by omega)]
         exact O.tr _ _ _ (O.asym _ _ l1) (alike _ _ (by omega) (by omega))
   · rw [if_neg n1]
     have en:n=1:=by omega
     subst en
     refine fz O hp (by omega) (dY O (wO _) (fun i j hij hj=> ?_) (O.asym _ _ l1))
     have:i=0:=by omega
     have:j=0:=by omega
     subst_vars
     exact O.refl _
theorem io (O:Ord lt) {p:Array Nat} {k:Nat} (hp:Pm N p) (hk:k < N) (h:Up lt p k):∀(f l r:Nat),l≤r→r≤k→r - l≤f→(∀i,i < l→lt (g p k) (g p i)=false)→(∀i,r≤i→i < k→lt (g p k) (g p i)=true)→
 Tri lt N (fun m=>m≤k∧(∀i,i < m→lt (g p k) (g p i)=false)∧∀i,m≤i→i < k→lt (g p k) (g p i)=true) (kas_place p k f l r)
 |0,l,r,h1,h2,h3,a,b=>by
  have:l=r:=by omega
  subst this
  exact ⟨h2,a,b⟩
 |f+1,l,r,h1,h2,h3,a,b=>by
  show Tri lt N _ (if l≥r then .ret l else .ask (p.getD k 0) (p.getD ((l+r) / 2) 0) fun c=>if c=true then kas_place p k f l ((l+r) / 2) else kas_place p k f ((l+r) / 2+1) r)
  by_cases e:l≥r
  · rw [if_pos e]
    have:l=r:=by omega
    subst this
    exact ⟨h2,a,b⟩
  · rw [if_neg e]
    refine ⟨Pm.bd hp hk,Pm.bd hp (by omega),?_⟩
    show Tri lt N _ (if lt (g p k) (g p ((l+r) / 2))=true then kas_place p k f l ((l+r) / 2) else kas_place p k f ((l+r) / 2+1) r)
    by_cases c:lt (g p k) (g p ((l+r) / 2))=true
    · rw [if_pos c]
      refine io O hp hk h f l ((l+r) / 2) (by omega) (by omega) (by omega) a fun i i1 i2=> ?_
      by_cases q:r≤i
      · exact b i q i2
      · exact O.up c (h _ _ i1 i2)
    · rw [if_neg c]
      have c':lt (g p k) (g p ((l+r) / 2))=false:=by simpa using c
      refine io O hp hk h f ((l+r) / 2+1) r (by omega) h2 (by omega) (fun i i1=> ?_) b
      exact O.tr _ _ _ (h i ((l+r) / 2) (by omega) (by omega)) c'
theorem t6 (O:Ord lt):∀(f:Nat) (p:Array Nat) (k:Nat),Pm N p→k+f≤N→Up lt p k→Tri lt N (fun q=>Pm N q∧Up lt q (k+f)) (kas_bin f p k)
 |0,p,k,hp,_,h=>⟨hp,h⟩
 |f+1,p,k,hp,hk,h=>by
  have hs:=hp.size
  show Tri lt N _ ((kas_place p k k 0 k).bind fun l=>kas_bin f (bubble p k (k - l)) (k+1))
  refine cO (bu (fun l hl=> ?_) (io O hp (by omega) h k 0 k (xo _) (wO _) (by omega) (fun i hi=>absurd hi (by omega)) fun i h1 h2=>absurd h1 (by omega)))
  obtain ⟨l1,l2,l3⟩:=hl
  have el:k - (k - l)=l:=by omega
  have hb:∀i,g (bubble p k (k - l)) i=if i=l then g p k else if l < i∧i≤k then g p (i - 1) else g p i:=fun i=>by
   rw [wu (by omega) (by omega),el]
  have u:Up lt (bubble p k (k - l)) (k+1):=by
   intro i j hij hj
   rw [hb,hb]
   by_cases jl:j=l
   · rw [if_pos jl]
     by_cases il:i=l
     · rw [if_pos il]
       exact O.refl _
     · rw [if_neg il,if_neg (by omega)]
       exact l2 i (by omega)
   · rw [if_neg jl]
     by_cases j2:l < j∧j≤k
     · rw [if_pos j2]
       by_cases il:i=l
       · rw [if_pos il]
         exact O.asym _ _ (l3 (j - 1) (by omega) (by omega))
       · rw [if_neg il]
         by_cases i2:l < i∧i≤k
         · rw [if_pos i2]
           exact h _ _ (by omega) (by omega)
         · rw [if_neg i2]
           exact h _ _ (by omega) (by omega)
     · rw [if_neg j2,if_neg (by omega),if_neg (by omega)]
       exact h _ _ hij (by omega)
  refine bu (fun q hq=> ?_) (t6 O f _ (k+1) (hp.of (bubble_perm _ _ _)) (by omega) u)
  rw [show k+(f+1)=k+1+f by omega]
  exact hq
theorem u8 (O:Ord lt) (hN:1≤N):Tri lt N (fun p=>Pm N p∧Up lt p N) (kas_sort N):=by
 unfold kas_sort
 have h0:Pm N (List.toArray (List.range N)):=by
  unfold Pm
  simp
 refine cO (bu (fun r hr=> ?_) (qT O h0 hN))
 obtain ⟨a1,a2,a3,a4⟩:=hr
 by_cases e:r.1 < N
 · rw [if_pos e]
   have em:max r.1 1=r.1:=by omega
   rw [em]
   have:=t6 O (N - r.1) r.2 r.1 a1 (by omega) a4
   rw [show r.1+(N - r.1)=N by omega] at this
   exact this
 · rw [if_neg e]
   have:r.1=N:=by omega
   rw [this] at a4
   exact ⟨a1,a4⟩
end Srt
namespace L2
open PySem
section
variable {M:Model} {prog:Program} {w:World} {A:Around} {E:Value→Shared→Prop} {h:Heap} {g:Array GenState} {d:Drawn} {t:Nat} {os:OsState}
variable {nm q:Str} {C N:Addr} {bs bm bmB:List Value} {hdct:Bool} {sn:List Str} {sub:List Value} {ab:Bool} {col:Option Bool} {dd:Option Addr} {k0 k1 k2 k3 k5:Option Value} {B newId initId:String}
structure Line (B:String) (bm:List Value):Prop where
 own:bm.contains (.type B)=true
 top:bm.contains (.type "BaseException")=true
 attr:bm.contains (.type "AttributeError")=false
 name:bm.contains (.type "NameError")=false
end
section
open PySem
variable {prog:Program} {w:World} {A:Around} {E:Value→Shared→Prop} {h:Heap} {g:Array GenState} {d:Drawn} {t:Nat} {os:OsState}
variable {nm q:Str} {C N:Addr} {bs bm bmB:List Value} {hdct:Bool} {sn:List Str} {sub:List Value} {ab:Bool} {col:Option Bool} {dd:Option Addr} {k0 k1 k2 k3 k5:Option Value} {B newId nid initId:String}
end
open PySem PySem.Spec PyProof.Rows
section
variable {X:Cx} {CX:CXT} {k:Nat} {f C:Addr} {fd:FuncData} {ps:List Str} {sp:Sp} {E:XK} {x:Str} {p pos apos:Pos} {e:Expr} {es:List Expr} {t:TA}
end
open PySem PySem.Spec PyProof.Rows
section
variable {X:Cx} {C fI:Addr} {E:XK} {pos:Pos} {ce:Expr} {te:TE}
end
section
open PySem PySem.W Builtin Builtin.ObjectAttr Builtin.Getset_descriptor
variable {prog:Program} {w:World} {A:Around} {E:Value→Shared→Prop} {h:Heap} {g:Array GenState} {d:Drawn} {t:Nat} {os:OsState} {a C:Addr} {o:Obj} {K:Frag}
structure XIs (K:Frag) (C:Addr):Prop where
 cls:(clsIn K C).isSome=true
 ga:findIn K (.ref C) "__getattribute__"=some (some (.builtin "BaseException.__getattribute__"))
 hook:findIn K (.ref C) "__getattr__"=some none
 cl:findIn K (.ref C) "__class__"=some (some (.builtin "object.__class__"))
 mo:mroIn K C (.type "object")=some true
 mb:mroIn K C (.type "BaseException")=some true
theorem eF {M:Model} {n:Str} {r:Option Value} {Q:Option Value→Shared→Prop} (X:K.In h) (e:findIn K (.ref C) n=some r) (z:Q r ⟨h,g,d,t,os⟩):wpAny M A (typeLookup (.ref C) n) Q E ⟨h,g,d,t,os⟩:=
 (looks_findIn (M:=M) X e).at z
theorem pG {M:Model} {b:Value} {r:Bool} {Q:Bool→Shared→Prop} (X:K.In h) (e:mroIn K C b=some r) (z:Q r ⟨h,g,d,t,os⟩):wpAny M A (isSubtype (.ref C) b) Q E ⟨h,g,d,t,os⟩:=
 (looks_mroIn (M:=M) X e).at z
theorem gN {R:Result→Shared→Prop} {tp:Value} (Z:XIs K C) (X:K.In h) (hx:h.get? a=some o) (hc:o.cls= .ref C) (z:R (.ok (.ret (.ref C))) ⟨h,g,d,t,os⟩):
 codeAny (model prog w) A (.call (.builtin "getset_descriptor.__get__") ⟨[.builtin "object.__class__", .ref a,tp],[]⟩) R ⟨h,g,d,t,os⟩:=by
 have L0:Looks (model prog w) h (typeOf (.ref a)) (.ref C):=by
  have:=((Looks.ld (M:=model prog w) (part:=some headPart) hx).andThen (f:=fun o=>pure o.cls) .now)
  rw [hc] at this
  exact this
 have L1:=looks_mroIn (M:=model prog w) X Z.mo
 refine codeAny_call_builtin KF.slot_gs.plain KF.entry_gs (KF.slot_gs.check _ _ _ _ _ _ _ _ KF.type_class (KF.args_gs _ _ _) ?_)
 unfold Builtin.«getset_descriptor.__get__» descrGet
 rw [dga_obj]
 refine wpAny_bind (wpAny_pure ?_)
 unfold descrGetter descrCheckInstance descrNameAndClass isInstance
 simp only [KF.owner_class]
 repeat lk
 refine ⟨Code.quiet_builtin _ (by decide +kernel),codeAny_builtin KF.entry_class ?_⟩
 unfold Builtin.«object.__class__» shownTypeOf
 repeat lk
 exact z
theorem uT {M:Model} {nv:Value} {Q:Unit→Shared→Prop} (Z:XIs K C) (X:K.In h) (hx:h.get? a=some o) (hc:o.cls= .ref C) (z:Q () ⟨h,g,d,t,os⟩):
 wpAny M A (checkBuiltinCall "BaseException.__getattribute__" ⟨[.ref a,nv],[]⟩) Q E ⟨h,g,d,t,os⟩:=by
 have hk:builtinKind "BaseException.__getattribute__"=some .slot:=by decide +kernel
 have hs:splitId "BaseException.__getattribute__"=some ("BaseException","__getattribute__"):=by decide +kernel
 have ha:=PySem.F.args_bexc_ga (.ref a) nv
 simp only [checkBuiltinCall,hk,hs]
 refine wpAny_bind ?_
 unfold isInstance
 repeat
  first
  |(with_reducible refine wpAny_loadPart_at hx ?_;rw [hc])
  |with_reducible refine pG X Z.mb ?_
  |wp_step
 exact z
theorem nM {Q:Option Value→Shared→Prop} (Z:XIs K C) (X:K.In h) (hx:h.get? a=some o) (hc:o.cls= .ref C) (z:Q (some (.ref C)) ⟨h,g,d,t+1,os⟩):
 wpAny (model prog w) A (getAttr? (.ref a) "__class__") Q E ⟨h,g,d,t,os⟩:=by
 have f3:=PySem.F.excAttr_ValueError.ga.bind (.ref a)
 have b2:(Value.builtin "BaseException.__getattribute__"==Value.builtin "object.__getattribute__")=false:=by decide +kernel
 have b1:(onTheHeap (Value.ref C)&&Value.builtin "BaseException.__getattribute__"==Value.builtin "object.__getattribute__")=false:=by rw [b2];rfl
 have f5:=PySem.F.typeOf_object_class
 have f6:=PySem.F.slot_gs_get.lookup
 have f7:=PySem.F.slot_gs_set.lookup
 have hT5:(⟨h,g,d,t+1,os⟩:Shared).TypeIs (.builtin "object.__class__") "getset_descriptor":=PySem.F.typeOf_object_class
 unfold getAttr? getAttrBy?
 refine wpAny_bind (wpAny_mkText (wpAny_bind (wpAny_attempt ?_)))
 unfold getAttrBy
 repeat
  any_goals
   first
   |assumption
   |(with_reducible refine wpAny_loadPart_at hx ?_;rw [hc])
   |with_reducible refine eF X Z.ga ?_
   |with_reducible refine eF X Z.hook ?_
   |wp_step
 refine codeAny_call_builtin PySem.F.excAttr_ValueError.ga.plain PySem.F.entry_bexc_ga (uT Z X hx hc ?_)
 repeat
  any_goals
   first
   |assumption
   |(with_reducible refine wpAny_loadPart_at hx ?_;rw [hc])
   |with_reducible refine eF X Z.cl ?_
   |wp_step
 refine gN Z X hx hc ?_
 repeat
  any_goals
   first
   |assumption
   |wp_step
end
open PySem PySem.Spec PyProof.Rows
noncomputable def Cau (C a:Addr):HO:= .ext fun h=>∃o,h.get? a=some o∧o.cls= .ref C
theorem pM {K:PySem.W.Frag} {C a:Addr} (Z:XIs K C):PySem.W.KitX K (.ref a) (.ref C) (fun h=>∃o,h.get? a=some o∧o.cls= .ref C) where
 ty:=fun M h _ ⟨o,e,c⟩=>by
  have:=((PySem.W.Looks.ld (M:=M) (part:=some headPart) e).andThen (f:=fun o=>pure o.cls) .now)
  rw [c] at this
  exact this
 it:=fun M h X _=>by
  have hc:=Z.cls
  unfold PySem.W.clsIn at hc
  split at hc
  · rename_i ho
    intro A' Q' E' s' k q
    unfold isType loadHead
    exact wpAny_bind (wpAny_loadPart (k _ _ (X _ _ ho)) (wpAny_pure q))
  · cases hc
 ne:=fun h tp dd its n sl X htp=>by
  have hc:=Z.cls
  refine Bool.eq_false_iff.mpr fun q=> ?_
  have e:C=tp:=Value.ref.inj (beq_iff_eq.mp q)
  subst e
  unfold PySem.W.clsIn at hc
  split at hc
  · rename_i ho
    cases (X _ _ ho).symm.trans htp
  · cases hc
 ca:=fun {prog w A E Q s} X ⟨o,e,c⟩ k=>by
  obtain ⟨h,g,d,t,os⟩:=s
  exact nM Z X e c k
noncomputable def clsV:V→Value
 | .ty n=> .type n
 | .ref a=> .ref a
 |_=> .none
def m9:V→Bool
 | .ty _=>true
 | .ref _=>true
 |_=>false
theorem mM {x:V} {u:Value} (r:RelV x u) (h:m9 x=true):u=clsV x:=by
 cases x with
 |ty n=>exact r
 |ref a=>exact r
 |_=>cases h
theorem jG:∀ {xs:List V} {us:List Value},Vals xs us→xs.all m9=true→us=xs.map clsV
 |_,_, .nil,_=>rfl
 |_,_, .cons r t,h=>by
  rw [List.all_cons,xD] at h
  rw [mM r h.1,jG t h.2,wZ]
inductive TyX (K:PySem.W.Frag) (H:Hp):V→Value→Prop where
 |of {x:V} {t:Value} (h:TyOf K H x t):TyX K H x t
 |exc {a C:Addr} (e:H a=some (Cau C a)) (Z:XIs K C):TyX K H (.ref a) (.ref C)
section
variable {X:Cx}
theorem TyX.kit {pins:List (Addr×Obj)} {σ:St} {H:Hp} {s:Shared} {x:V} {u t:Value} (I:Inv X pins σ H s) (rx:RelV x u) (ty:TyX X.K H x t):∃Hh,PySem.W.KitX X.K u t Hh∧Hh s.heap∧u≠ .builtin "__main__.__loader__#opaque":=by
 cases ty with
 |of ty=>
  cases ty with
  |non=>cases (show u=Value.none from rx);exact ⟨_,PySem.W.kitx_none,True.intro,fun z=>nomatch z⟩
  |bl y=>cases (show u=Value.bool y from rx);exact ⟨_,PySem.W.kitx_bool,True.intro,fun z=>nomatch z⟩
  |int i=>obtain ⟨t,q⟩:=(show∃t,u=Value.int i t from rx);cases q;exact ⟨_,PySem.W.kitx_int,True.intro,fun z=>nomatch z⟩
  |str y=>obtain ⟨t,q⟩:=(show∃t,u=Value.str y t from rx);cases q;exact ⟨_,PySem.W.kitx_str,True.intro,fun z=>nomatch z⟩
  |flt y=>obtain ⟨t,q⟩:=(show∃t,u=Value.float y t from rx);cases q;exact ⟨_,PySem.W.kitx_float,True.intro,fun z=>nomatch z⟩
  | @lst a xs ea=>
   cases (show u=Value.ref a from rx)
   obtain ⟨_,_,n,_,h1⟩:=(show ObjOk X.prog X.w H s.heap a (.lst xs) from I.hok a _ ea)
   exact ⟨_,PySem.W.kitx_list,⟨_,h1,rfl⟩,fun z=>nomatch z⟩
  | @frz a ob xs ea=>
   cases (show u=Value.ref a from rx)
   obtain ⟨_,_,_,n,_,h1⟩:=(show ObjOk X.prog X.w H s.heap a (.frz ob (.lst xs)) from I.hok a _ ea)
   exact ⟨_,PySem.W.kitx_list,⟨_,h1,rfl⟩,fun z=>nomatch z⟩
  | @tup a xs ea=>
   cases (show u=Value.ref a from rx)
   obtain ⟨_,_,_,o,h1,h2,_⟩:=(show ObjOk X.prog X.w H s.heap a (.tup xs) from I.hok a _ ea)
   exact ⟨_,PySem.W.kitx_tuple,⟨o,h1,h2⟩,fun z=>nomatch z⟩
  | @dK a kvs ea=>
   cases (show u=Value.ref a from rx)
   obtain ⟨_,_,vs,_,o,es,ep,h1,h2,_⟩:=(show ObjOk X.prog X.w H s.heap a (.dK kvs) from I.hok a _ ea)
   exact ⟨_,PySem.W.kitx_dict,⟨o,h1,h2.1⟩,fun z=>nomatch z⟩
  | @dT a kvs ea=>
   cases (show u=Value.ref a from rx)
   obtain ⟨_,_,xs,_,o,es,ep,h1,h2,_⟩:=(show ObjOk X.prog X.w H s.heap a (.dT kvs) from I.hok a _ ea)
   exact ⟨_,PySem.W.kitx_dict,⟨o,h1,h2.1⟩,fun z=>nomatch z⟩
  | @ins a C dx fs ea cl ha hn htk hm=>
   cases (show u=Value.ref a from rx)
   obtain ⟨mA,O,_⟩:=iP I.hok ea
   obtain ⟨od,J,_⟩:=O.look
   exact ⟨_,PySem.W.kitx_own (cl.get _) cl.hd ha hn htk hm,J,fun z=>nomatch z⟩
 | @exc a C e Z=>
  cases (show u=Value.ref a from rx)
  obtain ⟨h1,_⟩:=(show ObjOk X.prog X.w H s.heap a (Cau C a) from I.hok a _ e)
  exact ⟨_,pM Z,h1,fun z=>nomatch z⟩
def rIsi (K:PySem.W.Frag):List V→Hp→VK→Prop:=fun xs H Q=>∃x c t b,xs= [x,c]∧TyX K H x t∧
 ((m9 c=true∧PySem.W.kitOne K t (clsV c)=some b)∨(∃p ys,c= .ref p∧H p=some (.tup ys)∧ys.all m9=true∧PySem.W.kitAny K t (ys.map clsV)=some b))∧Q (.bl b) H
theorem gE:cy X (.builtin "isinstance") (rIsi X.K):=by
 intro pins s σ H xs us Q I r h
 obtain ⟨x,c,t,b,e,ty,h,q⟩:=h
 subst e
 cases r with
 | @cons _ u _ _ rx r=>
  cases r with
  | @cons _ v _ _ rc r=>
   cases r
   obtain ⟨Hh,Z,hp,hne⟩:=ty.kit I rx
   rcases h with ⟨hc,hk⟩|⟨p,ys,e,hH,hall,hk⟩
   · cases mM rc hc
     exact PySem.W.kia_one Z I.kIn hp hk hne fun tk=>⟨.bl b,H,I.tok tk,rfl,q⟩
   · subst e
     cases (show v=Value.ref p from rc)
     obtain ⟨_,its,rv,⟨oc,od,oda,osl⟩,h1,h2,n,h3⟩:=(show ObjOk X.prog X.w H s.heap p (.tup ys) from I.hok p _ hH)
     dsimp only at h2 h3
     subst h2 h3
     cases jG rv hall
     exact PySem.W.kia_tup Z I.kIn hp h1 hk hne fun tk=>⟨.bl b,H,I.tok tk,rfl,q⟩
end
open PySem PySem.Spec PyProof.Rows
abbrev TSX:=Ends→XK→St→Hp→Prop
section
variable {X:Cx} {CX:CXT} {k:Nat} {f:Addr} {fd:FuncData} {ps:List Str} {sp:Sp} {x:Str} {p pos epos:Pos} {e:Expr} {es:List Expr} {t:TA}
end
section
variable {X:Cx} {pins:List (Addr×Obj)} {σ:St} {H:Hp} {s:Shared} {a:Addr}
end
section
variable {X:Cx} {body suite:List Stmt} {b0:Stmt} {tb:TSX} {ts:TS} {i:Nat} {n cx:Str} {np hpos pos:Pos} {W:Addr}
end
open PySem PySem.Spec PyProof.Rows
section
variable {X:Cx}
def Big (i:Int):Prop:=i.natAbs < 2^8000
theorem rH:OpR X (binaryOp .Mult) (rI (fun i j=>Big i∧Big j) fun i j=> .int (i*j)):=opI fun _ _ _ _ _ _ _ hc q=>
 PyProof.Rows.mul_int q (IntMulOk.of_le (m:=8000) (n:=8000) (intBits_le_iff.mpr hc.1) (intBits_le_iff.mpr hc.2) (by decide))
theorem nS (hc:X.calm=true):cy X (.builtin "sum") (fun xs H Q=>∃(p:Addr) (ns:List Int),xs= [.ref p]∧SqL X.K H p (ns.map V.int)∧Q (.int ns.sum) H):=by
 intro pins s σ H xs us Q I r h
 obtain ⟨p,ns,e,hp,q⟩:=h
 subst e
 cases r with
 | @cons _ u _ _ r rr=>
  cases rr
  cases (show u=Value.ref p from r)
  obtain ⟨its,rv,pl,_⟩:=I.list hp
  have hi:=gj rv
  obtain ⟨zs,ez⟩:=hi.allInts.items
  have hl:=pl.isList
  rw [ez] at hl
  refine sum_intListG (I.ok.hd hc) hl fun h' tk t' hk=> ?_
  have e2:preSum (numAt zs) zs.size=ns.sum:=by
   have e3:numsOf (intItems zs).toList=ns:=by
    rw [←ez]
    exact hi.numsOf
   rw [preSum_eq,xK (by simp),←nums_intItems,e3]
  rw [e2]
  exact ⟨.int ns.sum,H,I.kept hk,⟨_,rfl⟩,q⟩
end
theorem cA:bootBuiltins "isinstance"=some (.builtin "isinstance"):=by decide +kernel
theorem qy:bootBuiltins "sum"=some (.builtin "sum"):=by decide +kernel
open PySem PySem.Spec PyProof.Rows
section
variable {X:Cx}
end
section
variable {X:Cx} {CX:CXT} {k:Nat} {f:Addr} {fd:FuncData} {ps:List Str} {sp:Sp} {x:Str} {p pos rpos:Pos} {e:Expr} {es:List Expr} {t:TA}
end
section
variable {X:Cx} {body suite:List Stmt} {b0:Stmt} {tb:TSX} {ts:TS} {cx:Str} {np hpos pos:Pos} {W:Addr}
end
end L2
namespace Tre
open PySem PySem.Spec PyProof.Rows L2
inductive Tr where
 |non
 |bl (b:Bool)
 |int (i:Int)
 |str (x:Str)
 |tup (ts:List Tr)
 |ls
mutual
noncomputable def Tr.depth:Tr→Nat
 | .tup ts=>Trs.depth ts+1
 |_=>0
noncomputable def Trs.depth:List Tr→Nat
 | []=>0
 |t::ts=>max (Tr.depth t) (Trs.depth ts)
end
mutual
def Tr.pure:Tr→Prop
 | .tup ts=>Trs.pure ts
 | .ls=>False
 |_=>True
def Trs.pure:List Tr→Prop
 | []=>True
 |t::ts=>Tr.pure t∧Trs.pure ts
end
mutual
def TrAt (H:Hp):V→Tr→Prop
 |v, .non=>v= .non
 |v, .bl b=>v= .bl b
 |v, .int i=>v= .int i
 |v, .str x=>v= .str x
 |v, .tup ts=>∃r vs,v= .ref r∧H r=some (.tup vs)∧TrsAt H vs ts
 |v, .ls=>∃r xs,v= .ref r∧H r=some (.lst xs)
def TrsAt (H:Hp):List V→List Tr→Prop
 |vs,[]=>vs= []
 |vs,t::ts=>∃v r,vs=v::r∧TrAt H v t∧TrsAt H r ts
end
structure Kd (H H':Hp):Prop where
 tup:∀a xs,H a=some (.tup xs)→H' a=some (.tup xs)
 lst:∀a xs,H a=some (.lst xs)→∃ys,H' a=some (.lst ys)
theorem Kd.trans {H H1 H2:Hp} (a:Kd H H1) (b:Kd H1 H2):Kd H H2:=⟨fun x o e=>b.tup x o (a.tup x o e),fun x o e=>by
 obtain ⟨ys,e1⟩:=a.lst x o e
 exact b.lst x ys e1⟩
theorem Kd.of_same {H H':Hp} (s:Same H H'):Kd H H':=⟨fun a xs e=>s a _ e,fun a xs e=>⟨xs,s a _ e⟩⟩
mutual
theorem TrAt.mono {H H':Hp} (k:Kd H H'):∀ {v:V} {t:Tr},TrAt H v t→TrAt H' v t
 |v, .non,h=>by unfold TrAt at h ⊢;exact h
 |v, .bl b,h=>by unfold TrAt at h ⊢;exact h
 |v, .int i,h=>by unfold TrAt at h ⊢;exact h
 |v, .str x,h=>by unfold TrAt at h ⊢;exact h
 |v, .ls,h=>by
  unfold TrAt at h ⊢
  obtain ⟨r,xs,e,h⟩:=h
  obtain ⟨ys,h'⟩:=k.lst r xs h
  exact ⟨r,ys,e,h'⟩
 |v, .tup ts,h=>by
  unfold TrAt at h ⊢
  obtain ⟨r,vs,e,h1,h2⟩:=h
  exact ⟨r,vs,e,k.tup _ _ h1,TrsAt.mono k h2⟩
theorem TrsAt.mono {H H':Hp} (k:Kd H H'):∀ {vs:List V} {ts:List Tr},TrsAt H vs ts→TrsAt H' vs ts
 |vs,[],h=>by unfold TrsAt at h ⊢;exact h
 |vs,t::ts,h=>by
  unfold TrsAt at h ⊢
  obtain ⟨v,r,e,h1,h2⟩:=h
  exact ⟨v,r,e,TrAt.mono k h1,TrsAt.mono k h2⟩
end
theorem TrsAt.nil {H:Hp}:TrsAt H [] []:=by unfold TrsAt;rfl
theorem TrsAt.cons {H:Hp} {v:V} {t:Tr} {vs:List V} {ts:List Tr} (h:TrAt H v t) (r:TrsAt H vs ts):TrsAt H (v::vs) (t::ts):=by
 unfold TrsAt
 exact ⟨v,vs,rfl,h,r⟩
theorem TrsAt.inv {H:Hp} {t:Tr} {vs:List V} {ts:List Tr} (h:TrsAt H vs (t::ts)):∃v r,vs=v::r∧TrAt H v t∧TrsAt H r ts:=by
 unfold TrsAt at h
 exact h
theorem TrsAt.len {H:Hp}:∀ {vs:List V} {ts:List Tr},TrsAt H vs ts→vs.length=ts.length
 |vs,[],h=>by
  unfold TrsAt at h
  rw [h]
  rfl
 |vs,t::ts,h=>by
  obtain ⟨v,r,e,_,h2⟩:=h.inv
  rw [e,wV,wV,h2.len]
theorem TrsAt.app {H:Hp} {ws:List V} {us:List Tr} (b:TrsAt H ws us):∀ {vs:List V} {ts:List Tr},TrsAt H vs ts→TrsAt H (vs++ws) (ts++us)
 |vs,[],h=>by
  unfold TrsAt at h
  subst h
  exact b
 |vs,t::ts,h=>by
  obtain ⟨v,r,e,h1,h2⟩:=h.inv
  subst e
  exact .cons h1 (TrsAt.app b h2)
theorem TrsAt.get {H:Hp}:∀ {vs:List V} {ts:List Tr} {i:Nat} {t:Tr},TrsAt H vs ts→ts[i]?=some t→∃v,vs[i]?=some v∧TrAt H v t
 |vs,[],i,t,_,e=>by simp at e
 |vs,a::ts,0,t,h,e=>by
  obtain ⟨v,r,rfl,h1,h2⟩:=h.inv
  simp at e
  subst e
  exact ⟨v,rfl,h1⟩
 |vs,a::ts,i+1,t,h,e=>by
  obtain ⟨v,r,rfl,h1,h2⟩:=h.inv
  obtain ⟨u,e1,e2⟩:=h2.get (i:=i) (by simpa using e)
  exact ⟨u,by simpa using e1,e2⟩
theorem TrsAt.get' {H:Hp} {vs:List V} {ts:List Tr} {i:Nat} {v:V} (h:TrsAt H vs ts) (e:vs[i]?=some v):∃t,ts[i]?=some t∧TrAt H v t:=by
 have hl:=h.len
 have hi:i < vs.length:=(wK.mp e).1
 obtain ⟨u,e1,e2⟩:=h.get (i:=i) (t:=ts[i]'(by omega)) (wI _)
 rw [e] at e1
 cases e1
 exact ⟨_,wI _,e2⟩
mutual
theorem TrAt.det {H:Hp}:∀ {v:V} {t u:Tr},TrAt H v t→TrAt H v u→t=u
 |v, .non,u,h1,h2=>by
  unfold TrAt at h1
  subst h1
  cases u<;>unfold TrAt at h2<;>first|rfl|(cases h2;done)|(obtain ⟨_,_,e,_⟩:=h2;cases e)
 |v, .bl b,u,h1,h2=>by
  unfold TrAt at h1
  subst h1
  cases u<;>unfold TrAt at h2<;>first|(cases h2;rfl)|(cases h2;done)|(obtain ⟨_,_,e,_⟩:=h2;cases e)
 |v, .int b,u,h1,h2=>by
  unfold TrAt at h1
  subst h1
  cases u<;>unfold TrAt at h2<;>first|(cases h2;rfl)|(cases h2;done)|(obtain ⟨_,_,e,_⟩:=h2;cases e)
 |v, .str b,u,h1,h2=>by
  unfold TrAt at h1
  subst h1
  cases u<;>unfold TrAt at h2<;>first|(cases h2;rfl)|(cases h2;done)|(obtain ⟨_,_,e,_⟩:=h2;cases e)
 |v, .ls,u,h1,h2=>by
  unfold TrAt at h1
  obtain ⟨r,xs,rfl,h1⟩:=h1
  cases u<;>unfold TrAt at h2<;>first|rfl|(cases h2;done)|(obtain ⟨_,_,e,h2,_⟩:=h2;cases e;rw [h1] at h2;cases h2)
 |v, .tup ts, .tup us,h1,h2=>by
  unfold TrAt at h1 h2
  obtain ⟨r,vs,rfl,h1,h3⟩:=h1
  obtain ⟨r',vs',e,h2,h4⟩:=h2
  cases e
  rw [h1] at h2
  cases h2
  rw [TrsAt.det h3 h4]
 |v, .tup ts, .non,h1,h2=>by unfold TrAt at h1 h2;obtain ⟨_,_,e,_⟩:=h1;rw [h2] at e;cases e
 |v, .tup ts, .bl _,h1,h2=>by unfold TrAt at h1 h2;obtain ⟨_,_,e,_⟩:=h1;rw [h2] at e;cases e
 |v, .tup ts, .int _,h1,h2=>by unfold TrAt at h1 h2;obtain ⟨_,_,e,_⟩:=h1;rw [h2] at e;cases e
 |v, .tup ts, .str _,h1,h2=>by unfold TrAt at h1 h2;obtain ⟨_,_,e,_⟩:=h1;rw [h2] at e;cases e
 |v, .tup ts, .ls,h1,h2=>by
  unfold TrAt at h1 h2
  obtain ⟨r,vs,rfl,h1,_⟩:=h1
  obtain ⟨r',xs,e,h2⟩:=h2
  cases e
  rw [h1] at h2
  cases h2
theorem TrsAt.det {H:Hp}:∀ {vs:List V} {ts us:List Tr},TrsAt H vs ts→TrsAt H vs us→ts=us
 |vs,[],[],_,_=>rfl
 |vs,[],u::us,h1,h2=>by
  have a:=h1.len
  have b:=h2.len
  rw [a] at b
  simp at b
 |vs,t::ts,[],h1,h2=>by
  have a:=h1.len
  have b:=h2.len
  rw [a] at b
  simp at b
 |vs,t::ts,u::us,h1,h2=>by
  obtain ⟨v,r,rfl,h3,h4⟩:=h1.inv
  obtain ⟨v',r',e,h5,h6⟩:=h2.inv
  cases e
  rw [TrAt.det h3 h5,TrsAt.det h4 h6]
end
mutual
noncomputable def eqT:Tr→Tr→Bool
 | .non, .non=>true
 | .bl a, .bl b=>a==b
 | .bl a, .int i=>(if a then 1 else 0)==i
 | .int i, .bl b=>i==(if b then 1 else 0)
 | .int i, .int j=>i==j
 | .str x, .str y=>x==y
 | .tup ts, .tup us=>eqTs ts us
 | .ls, .ls=>true
 |_,_=>false
noncomputable def eqTs:List Tr→List Tr→Bool
 | [],[]=>true
 |t::ts,u::us=>eqT t u&&eqTs ts us
 |_,_=>false
end
mutual
theorem gp:∀t:Tr,eqT t t=true
 | .non=>by simp [eqT]
 | .bl _=>by simp [eqT]
 | .int _=>by simp [eqT]
 | .str _=>by simp [eqT]
 | .ls=>by simp [eqT]
 | .tup ts=>by simp only [eqT];exact eJ ts
theorem eJ:∀ts:List Tr,eqTs ts ts=true
 | []=>by simp [eqTs]
 |t::ts=>by simp [eqTs,gp t,eJ ts]
end
noncomputable def eqJ (ts us:List Tr) (j:Nat):Bool:=match ts[j]?,us[j]? with
 |some t,some u=>eqT t u
 |_,_=>true
theorem qj {ts us:List Tr} {j:Nat} {t u:Tr} (h1:ts[j]?=some t) (h2:us[j]?=some u):eqJ ts us j=eqT t u:=by
 unfold eqJ
 rw [h1,h2]
theorem dX:∀(ts us:List Tr),eqTs ts us=((List.range (min ts.length us.length)).all (eqJ ts us)&&ts.length==us.length)
 | [],[]=>by simp [eqTs]
 | [],u::us=>by simp [eqTs]
 |t::ts,[]=>by simp [eqTs]
 |t::ts,u::us=>by
  simp only [eqTs,wV]
  rw [dX ts us,show min (ts.length+1) (us.length+1)=min ts.length us.length+1 by omega,List.range_succ_eq_map,List.all_cons,List.all_map]
  have e:(eqJ (t::ts) (u::us)) ∘ Nat.succ=eqJ ts us:=by
   funext j
   simp [eqJ]
  rw [e]
  simp [eqJ,Bool.and_assoc]
open PySem PySem.Spec PyProof.Rows L2
section
variable {X:Cx} {pins:List (Addr×Obj)} {σ:L2.St} {H:Hp} {s:Shared} {A:Around}
theorem nh {a b:Addr} {xs ys:List V} (I:Inv X pins σ H s) (ha:H a=some (.tup xs)) (hb:H b=some (.tup ys)) (hu:A.units < cLine) (e:Nat→Bool) (hne:a≠b)
 (he:∀j x y u v,xs[j]?=some x→ys[j]?=some y→RelV x u→RelV y v→SeqAt.EqAt A.in1 s u v (e j)):
 SeqAt.EqAt A s (.ref a) (.ref b) ((List.range (min xs.length ys.length)).all e&&xs.length==ys.length):=by
 obtain ⟨us,r1,p1,_⟩:=I.tuple (SqT.of ha)
 obtain ⟨ws,r2,p2,_⟩:=I.tuple (SqT.of hb)
 have l1:=r1.length
 have l2:=r2.length
 have:=SeqAt.RcAt.tuples (A:=A) (e:=e) (show s.heap.IsTuple a us.toArray from p1) (show s.heap.IsTuple b ws.toArray from p2) hu fun j h1 h2=>by
  have h1':j < us.length:=by simpa using h1
  have h2':j < ws.length:=by simpa using h2
  obtain ⟨u,e1,q1⟩:=r1.get (i:=j) (x:=xs[j]'(by omega)) (wI _)
  obtain ⟨v,e2,q2⟩:=r2.get (i:=j) (x:=ys[j]'(by omega)) (wI _)
  have z1:us.toArray[j]=u:=by rw [List.getElem_toArray];rw [wI h1'] at e1;exact wT e1
  have z2:ws.toArray[j]=v:=by rw [List.getElem_toArray];rw [wI h2'] at e2;exact wT e2
  rw [z1,z2]
  exact he j _ _ u v (wI _) (wI _) q1 q2
 rw [wU,wU,←l1,←l2] at this
 exact SeqAt.EqAt.of_refs hne this
theorem bx:∀ {ts:List Tr} {t:Tr},t∈ts→t.depth≤Trs.depth ts
 |a::ts,t,h=>by
  unfold Trs.depth
  rcases wY.mp h with rfl|h
  · omega
  · have:=bx h
    omega
theorem dc:∀ {ts:List Tr} {t:Tr},Trs.pure ts→t∈ts→t.pure
 |a::ts,t,p,h=>by
  unfold Trs.pure at p
  rcases wY.mp h with rfl|h
  · exact p.1
  · exact dc p.2 h
theorem cP {r:Addr} {vs:List V} (I:Inv X pins σ H s) (h:H r=some (.tup vs)):∃its:Array Value,s.heap.IsTuple r its:=by
 obtain ⟨us,_,p,_⟩:=I.tuple (SqT.of h)
 exact ⟨_,p⟩
theorem cQ {r:Addr} {vs:List V} (I:Inv X pins σ H s) (h:H r=some (.lst vs)):∃its:Array Value,s.heap.IsList r its:=by
 obtain ⟨us,_,p,_⟩:=I.list (SqL.of h)
 exact ⟨_,p.isList⟩
theorem lD (I:Inv X pins σ H s) {A:Around} {t u:Tr} {v w:V} {a b:Value} (hd:∀ts,t≠ .tup ts) (hp:t.pure∨u.pure) (h1:TrAt H v t) (h2:TrAt H w u) (r1:RelV v a) (r2:RelV w b) (hu0:A.units < cLine):SeqAt.EqAt A s a b (eqT t u):=by
 cases t with
 |tup ts=>exact (hd ts rfl).elim
 |non=>
  unfold TrAt at h1
  subst h1
  cases (show a=Value.none from r1)
  cases u with
  |non=>unfold TrAt at h2;subst h2;cases (show b=Value.none from r2);simp only [eqT];exact SeqAt.EqAt.same _
  |bl c=>unfold TrAt at h2;subst h2;cases (show b=Value.bool c from r2);simp only [eqT];exact SeqAt.EqAt.none_bool c
  |int c=>unfold TrAt at h2;subst h2;obtain ⟨t',rfl⟩:=r2;simp only [eqT];exact SeqAt.EqAt.none_int c t'
  |str c=>unfold TrAt at h2;subst h2;obtain ⟨t',rfl⟩:=r2;simp only [eqT];exact SeqAt.EqAt.none_str c t'
  |tup us=>unfold TrAt at h2;obtain ⟨r,vs,rfl,g1,_⟩:=h2;cases r2;obtain ⟨its,p⟩:=cP I g1;simp only [eqT];exact SeqAt.EqAt.none_tuple p hu0
  |ls=>unfold TrAt at h2;obtain ⟨r,vs,rfl,g1⟩:=h2;cases r2;obtain ⟨its,p⟩:=cQ I g1;simp only [eqT];exact SeqAt.EqAt.none_list p hu0
 |bl d=>
  unfold TrAt at h1
  subst h1
  cases (show a=Value.bool d from r1)
  cases u with
  |non=>unfold TrAt at h2;subst h2;cases (show b=Value.none from r2);simp only [eqT];exact SeqAt.EqAt.bool_none d
  |bl c=>unfold TrAt at h2;subst h2;cases (show b=Value.bool c from r2);simp only [eqT];exact SeqAt.EqAt.bool_bool d c
  |int c=>unfold TrAt at h2;subst h2;obtain ⟨t',rfl⟩:=r2;simp only [eqT];exact SeqAt.EqAt.bool_int d c t'
  |str c=>unfold TrAt at h2;subst h2;obtain ⟨t',rfl⟩:=r2;simp only [eqT];exact SeqAt.EqAt.bool_str d c t'
  |tup us=>unfold TrAt at h2;obtain ⟨r,vs,rfl,g1,_⟩:=h2;cases r2;obtain ⟨its,p⟩:=cP I g1;simp only [eqT];exact SeqAt.EqAt.bool_tuple d p hu0
  |ls=>unfold TrAt at h2;obtain ⟨r,vs,rfl,g1⟩:=h2;cases r2;obtain ⟨its,p⟩:=cQ I g1;simp only [eqT];exact SeqAt.EqAt.bool_list d p hu0
 |int d=>
  unfold TrAt at h1
  subst h1
  obtain ⟨t0,rfl⟩:=r1
  cases u with
  |non=>unfold TrAt at h2;subst h2;cases (show b=Value.none from r2);simp only [eqT];exact SeqAt.EqAt.int_none d t0
  |bl c=>unfold TrAt at h2;subst h2;cases (show b=Value.bool c from r2);simp only [eqT];exact SeqAt.EqAt.int_bool d t0 c
  |int c=>unfold TrAt at h2;subst h2;obtain ⟨t',rfl⟩:=r2;simp only [eqT];exact SeqAt.EqAt.int_int d t0 c t'
  |str c=>unfold TrAt at h2;subst h2;obtain ⟨t',rfl⟩:=r2;simp only [eqT];exact SeqAt.EqAt.int_str d t0 c t'
  |tup us=>unfold TrAt at h2;obtain ⟨r,vs,rfl,g1,_⟩:=h2;cases r2;obtain ⟨its,p⟩:=cP I g1;simp only [eqT];exact SeqAt.EqAt.int_tuple d t0 p hu0
  |ls=>unfold TrAt at h2;obtain ⟨r,vs,rfl,g1⟩:=h2;cases r2;obtain ⟨its,p⟩:=cQ I g1;simp only [eqT];exact SeqAt.EqAt.int_list d t0 p hu0
 |str d=>
  unfold TrAt at h1
  subst h1
  obtain ⟨t0,rfl⟩:=r1
  cases u with
  |non=>unfold TrAt at h2;subst h2;cases (show b=Value.none from r2);simp only [eqT];exact SeqAt.EqAt.str_none d t0
  |bl c=>unfold TrAt at h2;subst h2;cases (show b=Value.bool c from r2);simp only [eqT];exact SeqAt.EqAt.str_bool d t0 c
  |int c=>unfold TrAt at h2;subst h2;obtain ⟨t',rfl⟩:=r2;simp only [eqT];exact SeqAt.EqAt.str_int d t0 c t'
  |str c=>unfold TrAt at h2;subst h2;obtain ⟨t',rfl⟩:=r2;simp only [eqT];exact SeqAt.EqAt.str_str d t0 c t'
  |tup us=>unfold TrAt at h2;obtain ⟨r,vs,rfl,g1,_⟩:=h2;cases r2;obtain ⟨its,p⟩:=cP I g1;simp only [eqT];exact SeqAt.EqAt.str_tuple d t0 p hu0
  |ls=>unfold TrAt at h2;obtain ⟨r,vs,rfl,g1⟩:=h2;cases r2;obtain ⟨its,p⟩:=cQ I g1;simp only [eqT];exact SeqAt.EqAt.str_list d t0 p hu0
 |ls=>
  unfold TrAt at h1
  obtain ⟨r0,vs0,rfl,g0⟩:=h1
  cases r1
  obtain ⟨its0,p0⟩:=cQ I g0
  cases u with
  |non=>unfold TrAt at h2;subst h2;cases (show b=Value.none from r2);simp only [eqT];exact SeqAt.EqAt.list_none p0 hu0
  |bl c=>unfold TrAt at h2;subst h2;cases (show b=Value.bool c from r2);simp only [eqT];exact SeqAt.EqAt.list_bool c p0 hu0
  |int c=>unfold TrAt at h2;subst h2;obtain ⟨t',rfl⟩:=r2;simp only [eqT];exact SeqAt.EqAt.list_int c t' p0 hu0
  |str c=>unfold TrAt at h2;subst h2;obtain ⟨t',rfl⟩:=r2;simp only [eqT];exact SeqAt.EqAt.list_str c t' p0 hu0
  |tup us=>unfold TrAt at h2;obtain ⟨r,vs,rfl,g1,_⟩:=h2;cases r2;obtain ⟨its,p⟩:=cP I g1;simp only [eqT];exact SeqAt.EqAt.list_tuple p0 p hu0
  |ls=>rcases hp with hp|hp<;>simp [Tr.pure] at hp
theorem im (I:Inv X pins σ H s):∀(n:Nat) {A:Around} {t u:Tr} {v w:V} {a b:Value},t.depth≤n→(t.pure∨u.pure)→TrAt H v t→TrAt H w u→RelV v a→RelV w b→A.units+n+1 < cLine→SeqAt.EqAt A s a b (eqT t u):=by
 intro n
 induction n with
 |zero=>
  intro A t u v w a b hd hp h1 h2 r1 r2 hu
  refine lD I (fun ts e=> ?_) hp h1 h2 r1 r2 (by omega)
  subst e
  simp [Tr.depth] at hd
 |succ n ih=>
  intro A t u v w a b hd hp h1 h2 r1 r2 hu
  have hu0:A.units < cLine:=by omega
  cases t with
  |tup ts=>
   have h1':=h1
   have h2':=h2
   unfold TrAt at h1
   obtain ⟨r0,vs0,rfl,g0,k0⟩:=h1
   cases r1
   obtain ⟨its0,p0⟩:=cP I g0
   unfold Tr.depth at hd
   cases u with
   |non=>unfold TrAt at h2;subst h2;cases (show b=Value.none from r2);simp only [eqT];exact SeqAt.EqAt.tuple_none p0 hu0
   |bl c=>unfold TrAt at h2;subst h2;cases (show b=Value.bool c from r2);simp only [eqT];exact SeqAt.EqAt.tuple_bool c p0 hu0
   |int c=>unfold TrAt at h2;subst h2;obtain ⟨t',rfl⟩:=r2;simp only [eqT];exact SeqAt.EqAt.tuple_int c t' p0 hu0
   |str c=>unfold TrAt at h2;subst h2;obtain ⟨t',rfl⟩:=r2;simp only [eqT];exact SeqAt.EqAt.tuple_str c t' p0 hu0
   |ls=>unfold TrAt at h2;obtain ⟨r,vs,rfl,g1⟩:=h2;cases r2;obtain ⟨its,p⟩:=cQ I g1;simp only [eqT];exact SeqAt.EqAt.tuple_list p0 p hu0
   |tup us=>
    unfold TrAt at h2
    obtain ⟨r,vs,rfl,g1,k1⟩:=h2
    cases r2
    by_cases z:r0=r
    · subst z
      rw [←TrAt.det h1' h2',gp]
      exact SeqAt.EqAt.same _
    · have:=nh I g0 g1 hu0 (eqJ ts us) z fun j x y u' v' m1 m2 q1 q2=>by
       obtain ⟨t1,n1,a1⟩:=k0.get' m1
       obtain ⟨t2,n2,a2⟩:=k1.get' m2
       rw [qj n1 n2]
       refine ih (A:=A.in1) (by have:=bx (wJ n1);omega) ?_ a1 a2 q1 q2 (by show A.units+1+n+1 < cLine;omega)
       rcases hp with hp|hp
       · unfold Tr.pure at hp
         exact .inl (dc hp (wJ n1))
       · unfold Tr.pure at hp
         exact .inr (dc hp (wJ n2))
      rw [k0.len,k1.len,←dX] at this
      simp only [eqT]
      exact this
  |_=>exact lD I (fun ts e=>by cases e) hp h1 h2 r1 r2 hu0
end
open PySem PySem.Spec PyProof.Rows L2
open PySem.AutoSeq1 (wpAny_loadPart')
def LtAt (A:Around) (s:Shared) (y x:Value) (b:Bool):Prop:=
 ∀(prog:Program) (w:World) (E:Value→Shared→Prop) (Q:Value→Shared→Prop),Q (.bool b) s→wpAny (model prog w) A (richCompare .Lt y x) Q E s
def cL (A:Around) (s:Shared):List Value→List Value→List (Bool×Bool)→Prop
 |v::vs,w::ws,(e,l)::q=>SeqAt.EqAt A s v w e∧(e=false→LtAt A s v w l)∧(e=true→cL A s vs ws q)
 | [],_,q=>q= []
 |_,[],q=>q= []
 |_,_,_=>False
noncomputable def lexV (fin:Bool):List (Bool×Bool)→Bool
 | []=>fin
 |(e,l)::q=>if e=true then lexV fin q else l
theorem ik (l b:Addr) (items items2:Array Value) (n n2:Nat) (dd dd2:Option Addr) (sl sl2:Array (Option Value)) (q:List (Bool×Bool)):
 Meets (Builtin.«tuple.__lt__» ⟨[.ref l, .ref b],[]⟩)
  (fun A R s=>s.heap.get? l=some {cls:= .type "tuple",dict:=dd,data:= .seq items n,slots:=sl}∧s.heap.get? b=some {cls:= .type "tuple",dict:=dd2,data:= .seq items2 n2,slots:=sl2}∧
   cL A.in1 s items.toList items2.toList q∧R (.ok (.ret (.bool (lexV (decide (items.size < items2.size)) q)))) s):=
 .of_wp fun prog w A R s h=>by
  obtain ⟨hp,g,d,tk,os⟩:=s;obtain ⟨hl,hb,hx,h⟩:=h
  have f2:=AutoSeq1.sub_tuple_tuple
  wp_walk using wpAny_loadPart' hl,wpAny_loadPart' hb,wpAny_forIn_list _ (fun rest b s'=>b.1=none∧s'=⟨hp,g,d,tk,os⟩∧∃(vs ws:List Value) (q':List (Bool×Bool)),rest=vs.zip ws∧
   cL A.in1 ⟨hp,g,d,tk,os⟩ vs ws q'∧R (.ok (.ret (.bool (lexV (decide (items.size < items2.size)) q')))) ⟨hp,g,d,tk,os⟩) _
  case turn=>
   rintro ⟨y,x⟩ rest b s' ⟨hb',rfl,vs,ws,q',hz,hlx,hR⟩
   match vs,ws,q',hz,hlx,hR with
   | [],_,_,hz,_,_=>rw [List.zip_nil_left] at hz;cases hz
   |_::_,[],_,hz,_,_=>rw [List.zip_nil_right] at hz;cases hz
   |v::vs,w'::ws,[],_,hlx,_=>exact hlx.elim
   |v::vs,w'::ws,(e,lo)::q',hz,hlx,hR=>
    rw [xY] at hz
    injection hz with hyx hrest
    injection hyx with hy hx'
    subst hy hx'
    obtain ⟨he,hlt,hlx⟩:=hlx
    refine wpAny_bind (he prog w _ _ ?_)
    cases e with
    |true=>
     wp_walk
     exact ⟨rfl,rfl,_,_,_,hrest,hlx rfl,hR⟩
    |false=>
     have hri:=hlt rfl prog w
     wp_walk using hri
     exact ⟨_,rfl,hR⟩
  case fin=>
   rintro ⟨b1,b2⟩ s' ⟨hb',rfl,vs,ws,q',hz,hlx,hR⟩
   simp only at hb'
   subst hb'
   have hq:q'= []:=by
    match vs,ws,q',hz,hlx with
    | [],_,_,_,hlx=>unfold cL at hlx;exact hlx
    |_::_,[],_,_,hlx=>unfold cL at hlx;exact hlx
    |_::_,_::_,_,hz,_=>rw [xY] at hz;cases hz
   subst hq
   wp_walk
   exact ⟨_,rfl,by simpa [Builtin.Tuple.tupleCompareSizes,lexV] using hR⟩
  case h=>
   exact ⟨rfl,rfl,items.toList,items2.toList,q,rfl,hx,h⟩
theorem jP {A:Around} {s:Shared} {l b:Addr} {items items2:Array Value} {q:List (Bool×Bool)} (hl:s.heap.IsTuple l items) (hb:s.heap.IsTuple b items2) (hu:A.units < cLine)
 (hx:cL A.in1 s items.toList items2.toList q):LtAt A s (.ref l) (.ref b) (lexV (decide (items.size < items2.size)) q):=by
 intro prog w E Q h
 obtain ⟨⟨cls,dd,data,sl⟩,ho,hc,n,hd⟩:=id hl
 obtain ⟨⟨cls2,dd2,data2,sl2⟩,ho2,hc2,n2,hd2⟩:=id hb
 simp only at hc hd hc2 hd2
 subst hc hd hc2 hd2
 exact richCompare_meets_room (op:= .Lt) ⟨_,ho,rfl⟩ ⟨_,ho2,rfl⟩ PySem.F.slot_tuple_lt PySem.F.entry_tuple_lt (PySem.F.args_tuple_lt_2 _ _) (ik l b items items2 n n2 dd dd2 sl sl2 q)
  ⟨ho,ho2,hx,show Value.bool (lexV (decide (items.size < items2.size)) q)≠Value.notImplemented∧Q (.bool (lexV (decide (items.size < items2.size)) q)) s from ⟨(fun x=>nomatch x),h⟩⟩ hu
open PySem L2
inductive Co where
 |non
 |num (i:Int)
 |str (l:List Nat)
 |tup (cs:List Co)
 |ls
noncomputable def Co.kind:Co→Nat
 | .non=>0
 | .num _=>1
 | .str _=>2
 | .tup _=>3
 | .ls=>4
mutual
noncomputable def code:Tr→Co
 | .non=> .non
 | .bl b=> .num (if b then 1 else 0)
 | .int i=> .num i
 | .str x=> .str x.cps.toList
 | .tup ts=> .tup (codes ts)
 | .ls=> .ls
noncomputable def codes:List Tr→List Co
 | []=> []
 |t::ts=>code t::codes ts
end
theorem ir (x y:Str):((x==y)=true)↔x.cps.toList=y.cps.toList:=by
 rw [beq_iff_eq]
 constructor
 · rintro rfl
   rfl
 · intro h
   cases x
   cases y
   simp only [Str.mk.injEq]
   exact Array.toList_inj.mp h
mutual
theorem gq:∀(t u:Tr),(eqT t u=true)↔code t=code u
 | .non,u=>by cases u<;>simp [eqT,code]
 | .bl a,u=>by cases u<;>simp [eqT,code];cases a<;>rename_i b<;>cases b<;>simp
 | .int i,u=>by cases u<;>simp [eqT,code]
 | .str x, .str y=>by simp only [eqT,code,Co.str.injEq];exact ir x y
 | .str x, .non=>by simp [eqT,code]
 | .str x, .bl _=>by simp [eqT,code]
 | .str x, .int _=>by simp [eqT,code]
 | .str x, .tup _=>by simp [eqT,code]
 | .str x, .ls=>by simp [eqT,code]
 | .ls,u=>by cases u<;>simp [eqT,code]
 | .tup ts, .tup us=>by simp only [eqT,code,Co.tup.injEq];exact i0 ts us
 | .tup ts, .non=>by simp [eqT,code]
 | .tup ts, .bl _=>by simp [eqT,code]
 | .tup ts, .int _=>by simp [eqT,code]
 | .tup ts, .str _=>by simp [eqT,code]
 | .tup ts, .ls=>by simp [eqT,code]
theorem i0:∀(ts us:List Tr),(eqTs ts us=true)↔codes ts=codes us
 | [],[]=>by simp [eqTs,codes]
 | [],u::us=>by simp [eqTs,codes]
 |t::ts,[]=>by simp [eqTs,codes]
 |t::ts,u::us=>by
  simp only [eqTs,codes,xD,xH]
  rw [gq t u,i0 ts us]
end
mutual
def LtC:Co→Co→Prop
 | .num i, .num j=>i < j
 | .str l, .str m=>l < m
 | .tup cs, .tup ds=>LtCs cs ds
 |c,d=>c.kind < d.kind
def LtCs:List Co→List Co→Prop
 | [],[]=>False
 | [],_::_=>True
 |_::_,[]=>False
 |c::cs,d::ds=>LtC c d∨(c=d∧LtCs cs ds)
end
theorem jp {c d:Co} (h:LtC c d):c.kind≤d.kind:=by
 cases c<;>cases d<;>simp [LtC,Co.kind] at h ⊢
theorem jo {c d:Co} (h:c.kind < d.kind):LtC c d:=by
 cases c<;>cases d<;>simp [LtC,Co.kind] at h ⊢
mutual
theorem iM:∀c:Co,¬LtC c c
 | .non=>by simp [LtC,Co.kind]
 | .num _=>by simp [LtC]
 | .str l=>by simp only [LtC];exact List.lt_irrefl l
 | .tup cs=>by simp only [LtC];exact jn cs
 | .ls=>by simp [LtC,Co.kind]
theorem jn:∀cs:List Co,¬LtCs cs cs
 | []=>by simp [LtCs]
 |c::cs=>by
  simp only [LtCs,not_or]
  exact ⟨iM c,fun h=>jn cs h.2⟩
end
mutual
theorem lO:∀c d:Co,LtC c d∨c=d∨LtC d c
 | .num i, .num j=>by simp only [LtC,Co.num.injEq];omega
 | .str l, .str m=>by
  simp only [LtC,Co.str.injEq]
  by_cases h1:l < m
  · exact .inl h1
  · by_cases h2:m < l
    · exact .inr (.inr h2)
    · exact .inr (.inl (List.le_antisymm (List.not_lt.mp h2) (List.not_lt.mp h1)))
 | .tup cs, .tup ds=>by simp only [LtC,Co.tup.injEq];exact jm cs ds
 | .non,d=>by cases d<;>simp [LtC,Co.kind]
 | .ls,d=>by cases d<;>simp [LtC,Co.kind]
 | .num i, .non=>by simp [LtC,Co.kind]
 | .num i, .str _=>by simp [LtC,Co.kind]
 | .num i, .tup _=>by simp [LtC,Co.kind]
 | .num i, .ls=>by simp [LtC,Co.kind]
 | .str i, .non=>by simp [LtC,Co.kind]
 | .str i, .num _=>by simp [LtC,Co.kind]
 | .str i, .tup _=>by simp [LtC,Co.kind]
 | .str i, .ls=>by simp [LtC,Co.kind]
 | .tup i, .non=>by simp [LtC,Co.kind]
 | .tup i, .num _=>by simp [LtC,Co.kind]
 | .tup i, .str _=>by simp [LtC,Co.kind]
 | .tup i, .ls=>by simp [LtC,Co.kind]
theorem jm:∀cs ds:List Co,LtCs cs ds∨cs=ds∨LtCs ds cs
 | [],[]=>by simp
 | [],d::ds=>by simp [LtCs]
 |c::cs,[]=>by simp [LtCs]
 |c::cs,d::ds=>by
  simp only [LtCs,xH]
  rcases lO c d with h|h|h
  · exact .inl (.inl h)
  · rcases jm cs ds with g|g|g
    · exact .inl (.inr ⟨h,g⟩)
    · exact .inr (.inl ⟨h,g⟩)
    · exact .inr (.inr (.inr ⟨h.symm,g⟩))
  · exact .inr (.inr (.inl h))
end
theorem aw {a b c:Co} (h1:LtC a b) (h2:LtC b c) (hk:a.kind < b.kind∨b.kind < c.kind):LtC a c:=by
 have k1:=jp h1
 have k2:=jp h2
 exact jo (by omega)
mutual
theorem eE:∀ {a b c:Co},LtC a b→LtC b c→LtC a c
 | .num i, .num j, .num k,h1,h2=>by simp only [LtC] at *;omega
 | .str i, .str j, .str k,h1,h2=>by simp only [LtC] at *;exact List.lt_trans h1 h2
 | .tup i, .tup j, .tup k,h1,h2=>by simp only [LtC] at *;exact g6 h1 h2
 | .num _, .num _, .str _,h1,h2=>aw h1 h2 (by simp [LtC,Co.kind] at h1 h2 ⊢)
 | .num _, .num _, .tup _,h1,h2=>aw h1 h2 (by simp [LtC,Co.kind] at h1 h2 ⊢)
 | .num _, .num _, .non,h1,h2=>aw h1 h2 (by simp [LtC,Co.kind] at h1 h2 ⊢)
 | .num _, .num _, .ls,h1,h2=>aw h1 h2 (by simp [LtC,Co.kind] at h1 h2 ⊢)
 | .num _, .str _,_,h1,h2=>aw h1 h2 (by simp [LtC,Co.kind] at h1 h2 ⊢)
 | .num _, .tup _,_,h1,h2=>aw h1 h2 (by simp [LtC,Co.kind] at h1 h2 ⊢)
 | .num _, .non,_,h1,h2=>aw h1 h2 (by simp [LtC,Co.kind] at h1 h2 ⊢)
 | .num _, .ls,_,h1,h2=>aw h1 h2 (by simp [LtC,Co.kind] at h1 h2 ⊢)
 | .str _, .str _, .num _,h1,h2=>aw h1 h2 (by simp [LtC,Co.kind] at h1 h2 ⊢)
 | .str _, .str _, .tup _,h1,h2=>aw h1 h2 (by simp [LtC,Co.kind] at h1 h2 ⊢)
 | .str _, .str _, .non,h1,h2=>aw h1 h2 (by simp [LtC,Co.kind] at h1 h2 ⊢)
 | .str _, .str _, .ls,h1,h2=>aw h1 h2 (by simp [LtC,Co.kind] at h1 h2 ⊢)
 | .str _, .num _,_,h1,h2=>aw h1 h2 (by simp [LtC,Co.kind] at h1 h2 ⊢)
 | .str _, .tup _,_,h1,h2=>aw h1 h2 (by simp [LtC,Co.kind] at h1 h2 ⊢)
 | .str _, .non,_,h1,h2=>aw h1 h2 (by simp [LtC,Co.kind] at h1 h2 ⊢)
 | .str _, .ls,_,h1,h2=>aw h1 h2 (by simp [LtC,Co.kind] at h1 h2 ⊢)
 | .tup _, .tup _, .num _,h1,h2=>aw h1 h2 (by simp [LtC,Co.kind] at h1 h2 ⊢)
 | .tup _, .tup _, .str _,h1,h2=>aw h1 h2 (by simp [LtC,Co.kind] at h1 h2 ⊢)
 | .tup _, .tup _, .non,h1,h2=>aw h1 h2 (by simp [LtC,Co.kind] at h1 h2 ⊢)
 | .tup _, .tup _, .ls,h1,h2=>aw h1 h2 (by simp [LtC,Co.kind] at h1 h2 ⊢)
 | .tup _, .num _,_,h1,h2=>aw h1 h2 (by simp [LtC,Co.kind] at h1 h2 ⊢)
 | .tup _, .str _,_,h1,h2=>aw h1 h2 (by simp [LtC,Co.kind] at h1 h2 ⊢)
 | .tup _, .non,_,h1,h2=>aw h1 h2 (by simp [LtC,Co.kind] at h1 h2 ⊢)
 | .tup _, .ls,_,h1,h2=>aw h1 h2 (by simp [LtC,Co.kind] at h1 h2 ⊢)
 | .non,b,_,h1,h2=>aw h1 h2 (by cases b<;>simp [LtC,Co.kind] at h1 h2 ⊢)
 | .ls,b,_,h1,h2=>aw h1 h2 (by cases b<;>simp [LtC,Co.kind] at h1 h2 ⊢)
theorem g6:∀ {a b c:List Co},LtCs a b→LtCs b c→LtCs a c
 | [],[],_,h1,_=>by simp [LtCs] at h1
 | [],_::_,[],_,h2=>by simp [LtCs] at h2
 | [],_::_,_::_,_,_=>by simp [LtCs]
 |_::_,[],_,h1,_=>by simp [LtCs] at h1
 |_::_,_::_,[],_,h2=>by simp [LtCs] at h2
 |x::a,y::b,z::c,h1,h2=>by
  simp only [LtCs] at*
  rcases h1 with h1|⟨e1,h1⟩
  · rcases h2 with h2|⟨e2,h2⟩
    · exact .inl (eE h1 h2)
    · exact .inl (e2▸h1)
  · rcases h2 with h2|⟨e2,h2⟩
    · exact .inl (e1▸h2)
    · exact .inr ⟨e1.trans e2,g6 h1 h2⟩
end
open Classical in
noncomputable def ltT (t u:Tr):Bool:=decide (LtC (code t) (code u))
open Classical in
theorem ltT_iff {t u:Tr}:(ltT t u=true)↔LtC (code t) (code u):=by
 unfold ltT
 exact decide_eq_true_iff
theorem pF {t u:Tr} (h:ltT t u=true):ltT u t=false:=by
 cases e:ltT u t with
 |false=>rfl
 |true=>exact absurd (eE (ltT_iff.mp h) (ltT_iff.mp e)) (iM _)
theorem uU {a b c:Tr} (h1:ltT b a=false) (h2:ltT c b=false):ltT c a=false:=by
 cases e:ltT c a with
 |false=>rfl
 |true=>
  have n1:¬LtC (code b) (code a):=fun z=>by rw [ltT_iff.mpr z] at h1;cases h1
  have n2:¬LtC (code c) (code b):=fun z=>by rw [ltT_iff.mpr z] at h2;cases h2
  have l:=ltT_iff.mp e
  rcases lO (code a) (code b) with q|q|q
  · exact absurd (eE l q) n2
  · rw [q] at l
    exact absurd l n2
  · exact absurd q n1
open PySem PySem.Spec PyProof.Rows L2
mutual
def Cm:Tr→Tr→Prop
 | .bl _, .bl _=>True
 | .int _, .int _=>True
 | .str _, .str _=>True
 | .tup ts, .tup us=>Cms ts us
 |_,_=>False
def Cms:List Tr→List Tr→Prop
 |t::ts,u::us=>(eqT t u=true∧Cms ts us)∨(eqT t u=false∧Cm t u)
 | [],_=>True
 |_::_,[]=>True
end
noncomputable def qs:List Tr→List Tr→List (Bool×Bool)
 |t::ts,u::us=>(eqT t u,ltT t u)::qs ts us
 | [],_=> []
 |_::_,[]=> []
theorem iN:∀(ts us:List Tr),(lexV (decide (ts.length < us.length)) (qs ts us)=true)↔LtCs (codes ts) (codes us)
 | [],[]=>by simp [qs,lexV,codes,LtCs]
 | [],u::us=>by simp [qs,lexV,codes,LtCs]
 |t::ts,[]=>by simp [qs,lexV,codes,LtCs]
 |t::ts,u::us=>by
  have ih:=iN ts us
  have e:decide ((t::ts).length < (u::us).length)=decide (ts.length < us.length):=by simp
  rw [e]
  simp only [qs,lexV,codes,LtCs]
  by_cases h:eqT t u=true
  · rw [if_pos h,ih]
    have hc:=(gq t u).mp h
    rw [hc]
    constructor
    · intro z
      exact .inr ⟨rfl,z⟩
    · rintro (z|⟨_,z⟩)
      · exact absurd z (iM _)
      · exact z
  · rw [if_neg h]
    have hc:¬code t=code u:=fun z=>h ((gq t u).mpr z)
    constructor
    · intro z
      exact .inl (ltT_iff.mp z)
    · rintro (z|⟨z,_⟩)
      · exact ltT_iff.mpr z
      · exact absurd z hc
theorem bY {a b:Bool} (h:(a=true)↔(b=true)):a=b:=Bool.eq_iff_iff.mpr h
section
variable {X:Cx} {pins:List (Addr×Obj)} {σ:L2.St} {H:Hp} {s:Shared}
theorem ku (I:Inv X pins σ H s) {n:Nat} {A:Around} (hu:A.units+n+1 < cLine)
 (ih:∀ {t u:Tr} {v w:V} {a b:Value},t.depth≤n→(t.pure∨u.pure)→Cm t u→TrAt H v t→TrAt H w u→RelV v a→RelV w b→LtAt A s a b (ltT t u)):
 ∀ {ts us:List Tr} {vs ws:List V} {as bs:List Value},Trs.depth ts≤n→(Trs.pure ts∨Trs.pure us)→Cms ts us→TrsAt H vs ts→TrsAt H ws us→Vals vs as→Vals ws bs→cL A s as bs (qs ts us)
 | [],us,vs,ws,as,bs,hd,hp,hc,h1,h2,r1,r2=>by
  unfold TrsAt at h1
  subst h1
  cases r1
  cases us<;>simp [cL,qs]
 |t::ts,[],vs,ws,as,bs,hd,hp,hc,h1,h2,r1,r2=>by
  unfold TrsAt at h2
  subst h2
  cases r2
  obtain ⟨v,r,rfl,_,_⟩:=h1.inv
  cases r1
  simp [cL,qs]
 |t::ts,u::us,vs,ws,as,bs,hd,hp,hc,h1,h2,r1,r2=>by
  obtain ⟨v,r,rfl,g1,g2⟩:=h1.inv
  obtain ⟨v',r',rfl,g3,g4⟩:=h2.inv
  unfold Trs.depth at hd
  have hp1:t.pure∨u.pure:=by
   rcases hp with hp|hp<;>unfold Trs.pure at hp
   · exact .inl hp.1
   · exact .inr hp.1
  have hp2:Trs.pure ts∨Trs.pure us:=by
   rcases hp with hp|hp<;>unfold Trs.pure at hp
   · exact .inl hp.2
   · exact .inr hp.2
  cases r1 with
  |cons q1 q2=>
   cases r2 with
   |cons q3 q4=>
    simp only [cL,qs]
    refine ⟨im I n (by omega) hp1 g1 g3 q1 q3 hu,fun e=> ?_,fun e=> ?_⟩
    · unfold Cms at hc
      rcases hc with ⟨e',_⟩|⟨_,hc⟩
      · rw [e] at e'
        cases e'
      · exact ih (by omega) hp1 hc g1 g3 q1 q3
    · unfold Cms at hc
      rcases hc with ⟨_,hc⟩|⟨e',_⟩
      · exact ku I hu ih (by omega) hp2 hc g2 g4 q2 q4
      · rw [e] at e'
        cases e'
theorem lB {A:Around} {t u:Tr} {v w:V} {a b:Value} (hd:∀ts,t≠ .tup ts) (hc:Cm t u) (h1:TrAt H v t) (h2:TrAt H w u) (r1:RelV v a) (r2:RelV w b):LtAt A s a b (ltT t u):=by
 cases t<;>cases u<;>unfold Cm at hc<;>first|exact hc.elim|skip
 · rename_i x y
   unfold TrAt at h1 h2
   subst h1 h2
   cases (show a=Value.bool x from r1)
   cases (show b=Value.bool y from r2)
   intro prog w' E Q h
   refine lt_bool ?_
   have e:decide (b2i x < b2i y)=ltT (.bl x) (.bl y):=by
    refine bY ?_
    rw [ltT_iff,decide_eq_true_iff]
    cases x<;>cases y<;>simp [code,LtC,b2i]
   rw [e]
   exact h
 · rename_i x y
   unfold TrAt at h1 h2
   subst h1 h2
   obtain ⟨t1,rfl⟩:=r1
   obtain ⟨t2,rfl⟩:=r2
   intro prog w' E Q h
   refine lt_int ?_
   have e:decide (x < y)=ltT (.int x) (.int y):=by
    refine bY ?_
    rw [ltT_iff,decide_eq_true_iff]
    simp [code,LtC]
   rw [e]
   exact h
 · rename_i x y
   unfold TrAt at h1 h2
   subst h1 h2
   obtain ⟨t1,rfl⟩:=r1
   obtain ⟨t2,rfl⟩:=r2
   intro prog w' E Q h
   refine lt_str ?_
   have e:decide (x.cps.toList < y.cps.toList)=ltT (.str x) (.str y):=by
    refine bY ?_
    rw [ltT_iff,decide_eq_true_iff]
    simp [code,LtC]
   rw [e]
   exact h
 · exact (hd _ rfl).elim
theorem qR (I:Inv X pins σ H s):∀(n:Nat) {A:Around} {t u:Tr} {v w:V} {a b:Value},t.depth≤n→(t.pure∨u.pure)→Cm t u→TrAt H v t→TrAt H w u→RelV v a→RelV w b→A.units+n+1 < cLine→LtAt A s a b (ltT t u):=by
 intro n
 induction n with
 |zero=>
  intro A t u v w a b hd hp hc h1 h2 r1 r2 hu
  refine lB (fun ts e=> ?_) hc h1 h2 r1 r2
  subst e
  simp [Tr.depth] at hd
 |succ n ih=>
  intro A t u v w a b hd hp hc h1 h2 r1 r2 hu
  cases t with
  |tup ts=>
   cases u<;>first|(unfold Cm at hc;exact hc.elim)|skip
   rename_i us
   unfold Cm at hc
   unfold TrAt at h1 h2
   obtain ⟨r0,vs0,rfl,g0,k0⟩:=h1
   obtain ⟨r,vs,rfl,g1,k1⟩:=h2
   cases r1
   cases r2
   obtain ⟨as,q0,p0,_⟩:=I.tuple (SqT.of g0)
   obtain ⟨bs,q1,p1,_⟩:=I.tuple (SqT.of g1)
   unfold Tr.depth at hd
   have hp':Trs.pure ts∨Trs.pure us:=by
    rcases hp with hp|hp<;>unfold Tr.pure at hp
    · exact .inl hp
    · exact .inr hp
   have hu1:A.in1.units+n+1 < cLine:=by show A.units+1+n+1 < cLine;omega
   have hx:=ku (A:=A.in1) I hu1 (fun d pp cc a1 a2 b1 b2=>ih d pp cc a1 a2 b1 b2 hu1) (by omega) hp' hc k0 k1 q0 q1
   have:=jP (A:=A) (show s.heap.IsTuple r0 as.toArray from p0) (show s.heap.IsTuple r bs.toArray from p1) (by omega) (by simpa using hx)
   have e:lexV (decide (as.toArray.size < bs.toArray.size)) (qs ts us)=ltT (.tup ts) (.tup us):=by
    have l0:=k0.len
    have l1:=k1.len
    have l2:=q0.length
    have l3:=q1.length
    have e2:decide (as.toArray.size < bs.toArray.size)=decide (ts.length < us.length):=by
     rw [wU,wU,←l2,←l3,l0,l1]
    rw [e2]
    refine bY ?_
    rw [iN,ltT_iff]
    simp [code,LtC]
   rw [←e]
   exact this
  |_=>exact lB (fun ts e=>by cases e) hc h1 h2 r1 r2
end
end Tre
namespace Srt
open PySem PySem.W PySem.Calls PyProof.Rows
theorem eB {α:Type} (d:α):∀(vs:List α),(List.range vs.length).map (fun i=>vs.getD i d)=vs
 | []=>rfl
 |v::vs=>by
  rw [wV,List.range_succ_eq_map,wZ,List.map_map]
  have:=eB d vs
  simp only [Function.comp_def]
  show v::List.map (fun i=>vs.getD i d) (List.range vs.length)=v::vs
  rw [this]
theorem kZ {α:Type}:∀(vs:List α),List.map (fun x=>x.snd) (vs.zip vs)=vs
 | []=>rfl
 |v::vs=>by
  rw [xY,wZ,kZ vs]
section
variable {prog:Program} {w:World} {A:Around} {E:Value→Shared→Prop} {s:Shared} {lt:Nat→Nat→Bool} {κ:SortKind}
def Stay (s:Shared) (a:Addr) (h':Heap):Prop:=∀b o,b≠a→s.heap.get? b=some o→h'.get? b=some o
theorem gM {a:Addr} {vs:List Value} {n:Nat} {P:PySem.Fin→Shared→Prop} (O:Ord lt) (ho:s.heap.get? a=some (seqObj "list" vs.toArray n)) (h64:vs.length < 64)
 (hkind:2≤vs.length→∀h',Stay s a h'→∀R:SortKind→Shared→Prop,R κ {s with heap:=h'}→wpAny (model prog w) A (keyKind' vs.toArray) R E {s with heap:=h'})
 (hask:∀h',Stay s a h'→∀i j (R:Bool→Shared→Prop),i < vs.length→j < vs.length→R (lt i j) {s with heap:=h'}→kas_ask prog w A κ vs i j R {s with heap:=h'})
 (h:∀p:Array Nat,Pm vs.length p→Up lt p vs.length→P (.done (.ret .none)) {s with heap:=sortedHeap s.heap a vs (List.toArray (p.toList.map fun i=>vs.getD i Value.none))}):
 wpAny (model prog w) A (Builtin.«list.sort» ⟨[.ref a],[]⟩) P E s:=by
 have ha:a < s.heap.objs.size:=Heap.lt_size ho
 rw [list_sort_plain]
 refine wpAny_bind (listItems_at ho rfl ?_)
 refine wpAny_bind (listUpdate_at ho rfl ?_ (by rw [wU,sizeLine_eq];omega) (xo _))
 obtain ⟨e1,ho1⟩:∃e1,(s.heap.update a (Obj.mapSeq fun _=>(#[]:Array Value))).get? a=some (seqObj "list" #[] e1):=⟨_,get?_update_seq ho fun _=> #[]⟩
 refine wpAny_bind (seqEpoch_at ho1 rfl ?_)
 refine wpAny_bind (wpAny_newTuple ?_ (by show vs.length≤_;rw [sizeLine_eq];omega))
 refine wpAny_bind (wpAny_newList ?_ (xo _))
 refine wpAny_holding ?_
 have s1:=Heap.SameBut.update s.heap a (Obj.mapSeq fun _=>(#[]:Array Value))
 have st:Stay s a (((s.heap.update a (Obj.mapSeq fun _=>(#[]:Array Value))).push (seqObj "tuple" vs.toArray 0)).push (seqObj "list" #[] 0)):=fun b o hb e=>
  Heap.get?_push_of_some _ (Heap.get?_push_of_some _ ((s1.2 b hb).trans e))
 have ho6:(((s.heap.update a (Obj.mapSeq fun _=>(#[]:Array Value))).push (seqObj "tuple" vs.toArray 0)).push (seqObj "list" #[] 0)).get? a=some (seqObj "list" #[] e1):=Heap.get?_push_of_some _ (Heap.get?_push_of_some _ ho1)
 show wpAny (model prog w) A _ P E {s with heap:=((s.heap.update a (Obj.mapSeq fun _=>(#[]:Array Value))).push (seqObj "tuple" vs.toArray 0)).push (seqObj "list" #[] 0)}
 dsimp only
 have out:∀p:Array Nat,Pm vs.length p→(List.toArray (p.toList.map fun i=>vs.getD i Value.none)).size≤sizeLine:=fun p hp=>by
  rw [wU,wL,wX,hp.size,sizeLine_eq]
  omega
 by_cases h2:vs.toArray.size < 2
 · rw [if_pos h2,if_pos h2]
   refine wpAny_bind (wpAny_pure ?_)
   rw [StateT.run_pure]
   refine wpAny_bind (wpAny_pure ?_)
   dsimp only
   refine wpAny_bind (seqEpoch_at ho6 rfl ?_)
   have h0:Pm vs.length (List.toArray (List.range vs.length)):=by
    unfold Pm
    simp
   have eo:(arrOf (SortSt.mk' general' (vs.toArray.zip vs.toArray) #[] 7 none)).map (·.2)=List.toArray ((List.toArray (List.range vs.length)).toList.map fun i=>vs.getD i Value.none):=by
    rw [List.toList_toArray,eB]
    show (vs.toArray.zip vs.toArray).map (·.2)=vs.toArray
    apply Array.toList_inj.mp
    simp
    exact kZ vs
   rw [eo]
   refine wpAny_bind (listUpdate_at ho6 rfl ?_ (xo _) (Nat.le_succ_of_le (out _ h0)))
   simp only [bne_self_eq_false,xy,if_false]
   refine wpAny_pure (h _ h0 fun i j hij hj=> ?_)
   have hv:vs.length < 2:=by simpa using h2
   have:i=j:=by omega
   subst this
   exact O.refl _
 · rw [if_neg h2,if_neg h2]
   have h2':2≤vs.length:=by
    rw [wU] at h2
    omega
   refine wpAny_bind (hkind h2' _ st _ ?_)
   have run:(kas_sort vs.length).kasWp (kas_ask prog w A κ vs) (fun p s'=>(Pm vs.length p∧Up lt p vs.length)∧s'= {s with heap:=((s.heap.update a (Obj.mapSeq fun _=>(#[]:Array Value))).push (seqObj "tuple" vs.toArray 0)).push (seqObj "list" #[] 0)})
    {s with heap:=((s.heap.update a (Obj.mapSeq fun _=>(#[]:Array Value))).push (seqObj "tuple" vs.toArray 0)).push (seqObj "list" #[] 0)}:=
    o8 (lt:=lt) (N:=vs.length) (G:=fun s'=>s'= {s with heap:=((s.heap.update a (Obj.mapSeq fun _=>(#[]:Array Value))).push (seqObj "tuple" vs.toArray 0)).push (seqObj "list" #[] 0)})
     (fun i j R s' hi hj hg hR=>by subst hg;exact hask _ st i j R hi hj (hR _ rfl)) (fun p s' hp hg=>⟨hp,hg⟩) (u8 O (by omega)) rfl
   refine wpAny_bind (wpAny_mono (kat_run (ks:=vs) (Q:=fun st' s'=>∃p:Array Nat,(Pm vs.length p∧Up lt p vs.length)∧arrOf st'=p.map (kas_item (vs.toArray.zip vs.toArray))∧failedOf st'=none∧s'= {s with heap:=((s.heap.update a (Obj.mapSeq fun _=>(#[]:Array Value))).push (seqObj "tuple" vs.toArray 0)).push (seqObj "list" #[] 0)})
    rfl h2' h64 (fun p st' s' a1 a2 a3 a4=>⟨p,a4.1,a2,a3,a4.2⟩) run) ?_ fun _ _ e=>e)
   rintro ⟨⟨⟩,st'⟩ s' ⟨p,hp,har,hf,rfl⟩
   dsimp only
   refine wpAny_bind (seqEpoch_at ho6 rfl ?_)
   rw [kat_snds rfl har]
   refine wpAny_bind (listUpdate_at ho6 rfl ?_ (xo _) (Nat.le_succ_of_le (out p hp.1)))
   rw [hf]
   simp only [bne_self_eq_false,xy,if_false]
   exact wpAny_pure (h p hp.1 hp.2)
end
end Srt
namespace Tre
open PySem PySem.Spec PyProof.Rows L2 Srt
theorem TrsAt.map {H:Hp} {vs:List V} {ts:List Tr} (h:TrsAt H vs ts):∀ {is:List Nat},(∀i∈is,i < ts.length)→TrsAt H (is.map fun i=>vs.getD i .non) (is.map fun i=>ts.getD i .non)
 | [],_=> .nil
 |i::is,hi=>by
  have h0:i < ts.length:=hi i wP
  have hl:=h.len
  obtain ⟨v,e1,e2⟩:=h.get (i:=i) (t:=ts[i]) (wI h0)
  have ev:vs.getD i .non=v:=by rw [xx,e1];rfl
  have et:ts.getD i .non=ts[i]:=by rw [xx,wI h0];rfl
  rw [wZ,wZ,ev,et]
  exact .cons e2 (TrsAt.map h fun j m=>hi j (wQ _ m))
theorem Vals.map {vs:List V} {as:List Value} (h:Vals vs as):∀ {is:List Nat},(∀i∈is,i < vs.length)→Vals (is.map fun i=>vs.getD i .non) (is.map fun i=>as.getD i Value.none)
 | [],_=> .nil
 |i::is,hi=>by
  have h0:i < vs.length:=hi i wP
  obtain ⟨u,e1,e2⟩:=h.get (i:=i) (x:=vs[i]) (wI h0)
  have ev:vs.getD i .non=vs[i]:=by rw [xx,wI h0];rfl
  have et:as.getD i Value.none=u:=by rw [xx,e1];rfl
  rw [wZ,wZ,ev,et]
  exact .cons e2 (Vals.map h fun j m=>hi j (wQ _ m))
section
variable {X:Cx} {pins:List (Addr×Obj)} {σ:L2.St} {H:Hp} {s:Shared}
theorem eY (I:Inv X pins σ H s) {r:Addr} {vs:List V} (h:H r=some (.tup vs)):∃(as:List Value) (o:Obj) (n:Nat),Vals vs as∧s.heap.get? r=some o∧o.cls= .type "tuple"∧o.data= .seq as.toArray n:=by
 obtain ⟨as,q,p,_⟩:=I.tuple (SqT.of h)
 obtain ⟨o,ho,hc,n,hd⟩:=(show s.heap.IsTuple r as.toArray from p)
 exact ⟨as,o,n,q,ho,hc,hd⟩
end
open PySem L2
inductive So where
 |tm|fr|pr|ws|lt
abbrev s_ (x:String):Tr:= .str (Str.ofString x)
inductive Ty:So→Tr→Prop
 |nm (x:Str):Ty .tm (.tup [s_ "name", .str x])
 |ap (x:Str) (ts:List Tr):ts.length≤3→(∀t∈ts,Ty .tm t)→Ty .tm (.tup [s_ "call", .str x, .tup ts])
 |fr (a b:Int):Ty .fr (.tup [.int a, .int b])
 |pr (t f:Tr):Ty .tm t→Ty .fr f→Ty .pr (.tup [t,f])
 |fl (x:Str):Ty .ws (.tup [s_ "flag", .str x])
 |mo (ps:List Tr) (f:Tr):(∀p∈ps,Ty .pr p)→Ty .fr f→Ty .ws (.tup [s_ "most", .tup ps,f])
 |li (t u:Tr):Ty .tm t→Ty .tm u→Ty .ws (.tup [s_ "like",t,u])
 |no (w:Tr):Ty .ws w→Ty .ws (.tup [s_ "not",w])
 |bo (l:List Tr):(∀w∈l,Ty .ws w)→Ty .ws (.tup [s_ "both", .tup l])
 |ei (l:List Tr):(∀w∈l,Ty .ws w)→Ty .ws (.tup [s_ "either", .tup l])
 |lt (w:Tr) (b:Bool):Ty .ws w→Ty .lt (.tup [w, .bl b])
theorem aD {t u:Tr} {ts us:List Tr} (h1:eqT t u=false→Cm t u) (h2:Cms ts us):Cms (t::ts) (u::us):=by
 unfold Cms
 cases e:eqT t u with
 |true=>exact .inl ⟨rfl,h2⟩
 |false=>exact .inr ⟨rfl,h1 e⟩
theorem vw {t u:Tr} {ts us:List Tr} (h0:eqT t u=false) (h1:Cm t u):Cms (t::ts) (u::us):=by
 unfold Cms
 exact .inr ⟨h0,h1⟩
theorem bV {us:List Tr}:Cms [] us:=by
 cases us<;>simp [Cms]
theorem cz (x y:Str):Cm (.str x) (.str y):=by simp [Cm]
theorem qr (x y:Int):Cm (.int x) (.int y):=by simp [Cm]
theorem wE (x y:Bool):Cm (.bl x) (.bl y):=by simp [Cm]
theorem gz {ts us:List Tr} (h:Cms ts us):Cm (.tup ts) (.tup us):=by
 unfold Cm
 exact h
theorem fm {ts us:List Tr} (h:∀t∈ts,∀u∈us,Cm t u):Cms ts us:=by
 induction ts generalizing us with
 |nil=>exact bV
 |cons t ts ih=>
  cases us with
  |nil=>simp [Cms]
  |cons u us=>exact aD (fun _=>h t wP u wP) (ih fun a ma b mb=>h a (wQ _ ma) b (wQ _ mb))
theorem vA:∀(n:Nat) {k:So} {t u:Tr},t.depth≤n→Ty k t→Ty k u→Cm t u:=by
 intro n
 induction n with
 |zero=>
  intro k t u hd h1 h2
  cases h1<;>simp [Tr.depth] at hd
 |succ n ih=>
  intro k t u hd h1 h2
  have sub:∀ {ts:List Tr} {t:Tr},(Tr.tup ts).depth≤n+1→t∈ts→t.depth≤n:=fun h m=>by
   unfold Tr.depth at h
   have:=bx m
   omega
  have sub2:∀ {ts l:List Tr} {t:Tr},(Tr.tup ts).depth≤n+1→Tr.tup l∈ts→t∈l→t.depth≤n:=fun h m m2=>by
   have h3:=sub h m
   unfold Tr.depth at h3
   have:=bx m2
   omega
  cases h1<;>cases h2<;>refine gz ?_
  all_goals first
   |exact vw (by decide +kernel) (cz _ _)
   |skip
  · exact aD (fun _=>cz _ _) (aD (fun _=>cz _ _) bV)
  · rename_i x ts _ h1 y us _ h2
    exact aD (fun _=>cz _ _) (aD (fun _=>cz _ _) (aD (fun _=>gz (fm fun a ma b mb=>ih (sub2 hd (by simp) ma) (h1 a ma) (h2 b mb))) bV))
  · exact aD (fun _=>qr _ _) (aD (fun _=>qr _ _) bV)
  · rename_i t1 f1 a1 b1 t2 f2 a2 b2
    exact aD (fun _=>ih (sub hd (by simp)) a1 a2) (aD (fun _=>ih (sub hd (by simp)) b1 b2) bV)
  · exact aD (fun _=>cz _ _) (aD (fun _=>cz _ _) bV)
  · rename_i p1 f1 a1 b1 p2 f2 a2 b2
    exact aD (fun _=>cz _ _) (aD (fun _=>gz (fm fun a ma b mb=>ih (sub2 hd (by simp) ma) (a1 a ma) (a2 b mb))) (aD (fun _=>ih (sub hd (by simp)) b1 b2) bV))
  · rename_i t1 u1 a1 b1 t2 u2 a2 b2
    exact aD (fun _=>cz _ _) (aD (fun _=>ih (sub hd (by simp)) a1 a2) (aD (fun _=>ih (sub hd (by simp)) b1 b2) bV))
  · rename_i w1 a1 w2 a2
    exact aD (fun _=>cz _ _) (aD (fun _=>ih (sub hd (by simp)) a1 a2) bV)
  · rename_i l1 a1 l2 a2
    exact aD (fun _=>cz _ _) (aD (fun _=>gz (fm fun a ma b mb=>ih (sub2 hd (by simp) ma) (a1 a ma) (a2 b mb))) bV)
  · rename_i l1 a1 l2 a2
    exact aD (fun _=>cz _ _) (aD (fun _=>gz (fm fun a ma b mb=>ih (sub2 hd (by simp) ma) (a1 a ma) (a2 b mb))) bV)
  · rename_i w1 b1 a1 w2 b2 a2
    exact aD (fun _=>ih (sub hd (by simp)) a1 a2) (aD (fun _=>wE _ _) bV)
theorem de {ts:List Tr} (h:∀t∈ts,t.pure):Trs.pure ts:=by
 induction ts with
 |nil=>unfold Trs.pure;trivial
 |cons t ts ih=>
  unfold Trs.pure
  exact ⟨h t wP,ih fun u m=>h u (wQ _ m)⟩
theorem eX {k:So} {t:Tr} (h:Ty k t):t.pure:=by
 induction h with
 |nm x=>simp [Tr.pure,Trs.pure]
 |ap x ts _ _ ih=>simp only [Tr.pure,Trs.pure];exact ⟨trivial,trivial,de ih,trivial⟩
 |fr a b=>simp [Tr.pure,Trs.pure]
 |pr t f _ _ h1 h2=>simp only [Tr.pure,Trs.pure];exact ⟨h1,h2,trivial⟩
 |fl x=>simp [Tr.pure,Trs.pure]
 |mo ps f _ _ h1 h2=>simp only [Tr.pure,Trs.pure];exact ⟨trivial,de h1,h2,trivial⟩
 |li t u _ _ h1 h2=>simp only [Tr.pure,Trs.pure];exact ⟨trivial,h1,h2,trivial⟩
 |no w _ h1=>simp only [Tr.pure,Trs.pure];exact ⟨trivial,h1,trivial⟩
 |bo l _ h1=>simp only [Tr.pure,Trs.pure];exact ⟨trivial,de h1,trivial⟩
 |ei l _ h1=>simp only [Tr.pure,Trs.pure];exact ⟨trivial,de h1,trivial⟩
 |lt w b _ h1=>simp only [Tr.pure,Trs.pure];exact ⟨h1,trivial,trivial⟩
end Tre
namespace L2
open PySem PySem.Spec PyProof.Rows
section
variable {X:Cx}
end
open PySem PySem.Spec PyProof.Rows
section
variable {X:Cx} {tg:Expr}
end
section
variable {X:Cx} {tg:Expr}
end
open PySem PySem.Spec PyProof.Rows
section
variable {prog:Program} {w:World} {A:Around} {E:Value→Shared→Prop} {s:Shared}
end
section
variable {X:Cx}
end
end L2
namespace Dec
open PySem PySem.NumText
def cl (x:Str):List Nat:=x.cps.toList
theorem bp (x y:Str):cl (x++y)=cl x++cl y:=by
 show (x.cps++y.cps).toList=_
 simp [cl]
theorem cl_inj {x y:Str} (h:cl x=cl y):x=y:=by
 cases x
 cases y
 simp only [Str.mk.injEq]
 exact Array.toList_inj.mp h
theorem bK (x:Str):(cl x).length=x.length:=by simp [cl,Str.length]
def ds (n:Nat):List Nat:=(Nat.toDigits 10 n).map Char.toNat
end Dec
namespace Mth
noncomputable def dv (t b:Int):Int:=if b < 0 then -(Int.gcd t b:Int) else (Int.gcd t b:Int)
noncomputable def fx (t b:Int):Int:=t.fdiv (dv t b)
noncomputable def fy (t b:Int):Int:=b.fdiv (dv t b)
def tS (x y:Int):Prop:=0 < y∧Int.gcd x y=1
noncomputable def pT (a b c d:Int):Int:=a*(d / (Int.gcd b d:Int))+c*(b / (Int.gcd b d:Int))
noncomputable def pE (a b c d:Int):Int:=(Int.gcd (pT a b c d) (Int.gcd b d:Int):Int)
noncomputable def pX (a b c d:Int):Int:=pT a b c d / pE a b c d
noncomputable def pY (a b c d:Int):Int:=b / (Int.gcd b d:Int)*(d / pE a b c d)
noncomputable def tX (a b c d:Int):Int:=a / (Int.gcd a d:Int)*(c / (Int.gcd c b:Int))
noncomputable def tY (a b c d:Int):Int:=b / (Int.gcd c b:Int)*(d / (Int.gcd a d:Int))
end Mth
namespace Dec
open PySem PySem.NumText L2 Mth
def sl:Str:=Str.ofString "/"
open PySem PySem.NumText L2 Mth
def sg (x:Int):List Nat:=if x < 0 then [45] else []
noncomputable def low (x y:Int):List Nat:=ds x.natAbs++(if y=1 then [] else 47::ds y.natAbs)
noncomputable def txt (x y:Int):List Nat:=sg x++low x y
def mn:Str:=Str.ofString "-"
end Dec
namespace Tk
open PySem PySem.Spec PyProof.Rows L2
inductive KT where
 |lf (k:Key)
 |tp (ts:List KT)
noncomputable instance:DecidableEq KT:=Classical.typeDecidableEq KT
mutual
noncomputable def KT.depth:KT→Nat
 | .lf _=>0
 | .tp ts=>KTs.depth ts+1
noncomputable def KTs.depth:List KT→Nat
 | []=>0
 |t::ts=>max (KT.depth t) (KTs.depth ts)
end
theorem dE:∀ {ts:List KT} {t:KT},t∈ts→t.depth≤KTs.depth ts
 |a::ts,t,h=>by
  unfold KTs.depth
  rcases wY.mp h with rfl|h
  · omega
  · have:=dE h
    omega
mutual
def KAt (h:Heap):Value→KT→Prop
 |v, .lf k=>eS k v=true
 |v, .tp ts=>∃a o items n,v= .ref a∧h.get? a=some o∧o.cls= .type "tuple"∧o.data= .seq items n∧KsAt h items.toList ts
def KsAt (h:Heap):List Value→List KT→Prop
 |vs,[]=>vs= []
 |vs,t::ts=>∃v r,vs=v::r∧KAt h v t∧KsAt h r ts
end
mutual
theorem KAt.keep {h h':Heap} (k:∀a o items n,h.get? a=some o→o.data= .seq items n→h'.get? a=some o):∀ {v:Value} {t:KT},KAt h v t→KAt h' v t
 |v, .lf k,x=>by unfold KAt at x ⊢;exact x
 |v, .tp ts,x=>by
  unfold KAt at x ⊢
  obtain ⟨a,o,items,n,e,g,c,d,r⟩:=x
  exact ⟨a,o,items,n,e,k a o items n g d,c,d,KsAt.keep k r⟩
theorem KsAt.keep {h h':Heap} (k:∀a o items n,h.get? a=some o→o.data= .seq items n→h'.get? a=some o):∀ {vs:List Value} {ts:List KT},KsAt h vs ts→KsAt h' vs ts
 |vs,[],x=>by unfold KsAt at x ⊢;exact x
 |vs,t::ts,x=>by
  unfold KsAt at x ⊢
  obtain ⟨v,r,e,x1,x2⟩:=x
  exact ⟨v,r,e,KAt.keep k x1,KsAt.keep k x2⟩
end
mutual
theorem KAt.det {h:Heap}:∀ {v:Value} {t u:KT},KAt h v t→KAt h v u→t=u
 |v, .lf k, .lf j,x,y=>by
  unfold KAt at x y
  rcases ay x with ⟨i,t,rfl,rfl⟩|⟨x',t,rfl,rfl⟩
  · rcases ay y with ⟨i',t',rfl,e⟩|⟨y',t',rfl,e⟩
    · injection e with e1 _
      rw [e1]
    · cases e
  · rcases ay y with ⟨i',t',rfl,e⟩|⟨y',t',rfl,e⟩
    · cases e
    · injection e with e1 _
      rw [e1]
 |v, .lf k, .tp us,x,y=>by
  unfold KAt at x y
  obtain ⟨a,o,items,n,rfl,_⟩:=y
  rcases ay x with ⟨i,t,rfl,e⟩|⟨x',t,rfl,e⟩<;>cases e
 |v, .tp ts, .lf k,x,y=>by
  unfold KAt at x y
  obtain ⟨a,o,items,n,rfl,_⟩:=x
  rcases ay y with ⟨i,t,rfl,e⟩|⟨x',t,rfl,e⟩<;>cases e
 |v, .tp ts, .tp us,x,y=>by
  unfold KAt at x y
  obtain ⟨a,o,items,n,rfl,g,c,d,r⟩:=x
  obtain ⟨a',o',items',n',e,g',c',d',r'⟩:=y
  injection e with e
  subst e
  rw [g] at g'
  cases g'
  rw [d] at d'
  injection d' with d1 _
  subst d1
  rw [KsAt.det r r']
theorem KsAt.det {h:Heap}:∀ {vs:List Value} {ts us:List KT},KsAt h vs ts→KsAt h vs us→ts=us
 |vs,[],[],_,_=>rfl
 |vs,[],u::us,x,y=>by
  unfold KsAt at x y
  obtain ⟨v,r,e,_⟩:=y
  rw [x] at e
  cases e
 |vs,t::ts,[],x,y=>by
  unfold KsAt at x y
  obtain ⟨v,r,e,_⟩:=x
  rw [y] at e
  cases e
 |vs,t::ts,u::us,x,y=>by
  unfold KsAt at x y
  obtain ⟨v,r,rfl,x1,x2⟩:=x
  obtain ⟨v',r',e,y1,y2⟩:=y
  cases e
  rw [KAt.det x1 y1,KsAt.det x2 y2]
end
theorem KsAt.len {h:Heap}:∀ {vs:List Value} {ts:List KT},KsAt h vs ts→vs.length=ts.length
 |vs,[],x=>by unfold KsAt at x;rw [x];rfl
 |vs,t::ts,x=>by
  unfold KsAt at x
  obtain ⟨v,r,rfl,_,x2⟩:=x
  rw [wV,wV,KsAt.len x2]
theorem KsAt.get {h:Heap}:∀ {vs:List Value} {ts:List KT} {j:Nat} {v:Value},KsAt h vs ts→vs[j]?=some v→∃t,ts[j]?=some t∧KAt h v t
 |vs,[],j,v,x,e=>by
  unfold KsAt at x
  rw [x] at e
  cases e
 |vs,t::ts,0,v,x,e=>by
  unfold KsAt at x
  obtain ⟨v',r,rfl,x1,_⟩:=x
  cases e
  exact ⟨t,rfl,x1⟩
 |vs,t::ts,j+1,v,x,e=>by
  unfold KsAt at x
  obtain ⟨v',r,rfl,_,x2⟩:=x
  exact KsAt.get (j:=j) x2 e
section
variable (prog:Program) (w:World)
mutual
noncomputable def KT.hash:KT→Int
 | .lf k=>(aE prog w).hash k
 | .tp ts=>reduceHash (Builtin.Tuple.tupleHashOf (KTs.hash ts))
noncomputable def KTs.hash:List KT→List Int
 | []=> []
 |t::ts=>KT.hash t::KTs.hash ts
end
end
mutual
noncomputable def KT.draws:KT→Nat
 | .lf _=>1
 | .tp ts=>KTs.draws ts+1
noncomputable def KTs.draws:List KT→Nat
 | []=>0
 |t::ts=>KT.draws t+KTs.draws ts
end
theorem js (prog:Program) (w:World):∀(a b:List KT),KTs.hash prog w (a++b)=KTs.hash prog w a++KTs.hash prog w b
 | [],b=>by simp [KTs.hash]
 |t::a,b=>by simp [KTs.hash,js prog w a b]
theorem i5:∀(a b:List KT),KTs.draws (a++b)=KTs.draws a+KTs.draws b
 | [],b=>by simp [KTs.draws]
 |t::a,b=>by simp [KTs.draws,i5 a b,Nat.add_assoc]
section
variable {prog:Program} {w:World}
theorem rZ:∀(n:Nat) {A:Around} {E:Value→Shared→Prop} {s:Shared} {t:KT} {v:Value} {Q:Int→Shared→Prop},t.depth≤n→A.units+n < cLine→KAt s.heap v t→Q (t.hash prog w) {s with toks:=s.toks+t.draws}→wpAny (model prog w) A (pyHash v) Q E s:=by
 intro n
 induction n with
 |zero=>
  intro A E s t v Q hd hu hk h
  cases t with
  |tp ts=>simp [KT.depth] at hd
  |lf k=>
   unfold KAt at hk
   simp only [KT.hash,KT.draws] at h
   exact (aE prog w).pyHash hk h
 |succ n ih=>
  intro A E s t v Q hd hu hk h
  cases t with
  |lf k=>
   unfold KAt at hk
   simp only [KT.hash,KT.draws] at h
   exact (aE prog w).pyHash hk h
  |tp ts=>
   unfold KAt at hk
   obtain ⟨a,o,items,m,rfl,g,c,d,r⟩:=hk
   have ty:s.TypeIs (.ref a) "tuple":=⟨o,g,c⟩
   have hd':KTs.depth ts≤n:=by
    unfold KT.depth at hd
    omega
   simp only [KT.hash,KT.draws] at h
   unfold pyHash
   unfold pyHashByItsType
   refine wpAny_bind (wpAny_cRoomFor_or (.inr (by omega)) (wpAny_bind (wpAny_specialOf ty F.slot_tuple_hash.lookup ?_)))
   show wpAny _ _ (if (some (Value.builtin "tuple.__hash__")==some Value.none)=true then _ else _) _ _ _
   rw [if_neg (fun z=>by rw [beq_builtin_none] at z;cases z)]
   refine wpAny_bind (wpAny_specialOf ty F.slot_tuple_hash.lookup ?_)
   show wpAny _ _ (do let y←callSpecialIfBoundUnlessNone? (.ref a) "__hash__" _;_) _ _ _
   refine wpAny_bind (wpAny_callSpecialIfBoundUnlessNone?_slot ty F.slot_tuple_hash (wpAny_call_entry F.slot_tuple_hash ty F.entry_tuple_hash ?_ (F.args_tuple_hash_1 _)))
   show wpAny _ _ (do let y←Builtin.Tuple.tupleItemsOf (.ref a);_) _ _ _
   refine wpAny_bind (wpAny_tupleItemsOf g d (wpAny_bind ?_))
   rw [←Array.forIn_toList]
   refine wpAny_forIn_list _ (fun rest (b:Array Int) s'=>∃done left,ts=done++left∧KsAt s.heap rest left∧b.toList=KTs.hash prog w done∧s'= {s with toks:=s.toks+KTs.draws done}) _ ?_ ?_ _ _ ⟨[],ts,rfl,r,rfl,by simp [KTs.draws]⟩
   · rintro x rest b s' ⟨done,left,rfl,hl,hb,rfl⟩
     cases left with
     |nil=>
      unfold KsAt at hl
      cases hl
     |cons t left=>
      unfold KsAt at hl
      obtain ⟨v,rr,e,h1,h2⟩:=hl
      cases e
      have dt:t.depth≤n:=by
       have:=dE (show t∈done++t::left by simp)
       omega
      refine wpAny_bind (ih (s:= {s with toks:=s.toks+KTs.draws done}) dt (by first|(show A.units+1+n < cLine;omega)|(show A.units+n < cLine;omega)) h1 ?_)
      have fin:∃done' left',done++t::left=done'++left'∧KsAt s.heap rest left'∧(b.push (KT.hash prog w t)).toList=KTs.hash prog w done'∧({s with toks:=s.toks+KTs.draws done+t.draws}:Shared)= {s with toks:=s.toks+KTs.draws done'}:=by
       refine ⟨done++ [t],left,by simp,h2,by rw [js,Array.toList_push,hb];simp [KTs.hash],?_⟩
       rw [i5]
       simp [KTs.draws,Nat.add_assoc]
      first
       |exact wpAny_pure fin
       |exact wpAny_bind (wpAny_pure (wpAny_pure fin))
   · rintro b s' ⟨done,left,rfl,hl,hb,rfl⟩
     cases left with
     |cons t left=>
      unfold KsAt at hl
      obtain ⟨v,rr,e,_⟩:=hl
      cases e
     |nil=>
      rw [y9] at h
      show wpAny _ _ (retInt (Builtin.Tuple.tupleHashOf b.toList)) _ _ _
      rw [hb]
      refine wpAny_ret_mkInt ?_
      show wpAny _ _ (if (decide (-(2:Int)^63≤Builtin.Tuple.tupleHashOf (KTs.hash prog w done))&&decide (Builtin.Tuple.tupleHashOf (KTs.hash prog w done) < 2^63))=true then _ else _) _ _ _
      unfold reduceHash at h
      by_cases hr:(decide (-(2:Int)^63≤Builtin.Tuple.tupleHashOf (KTs.hash prog w done))&&decide (Builtin.Tuple.tupleHashOf (KTs.hash prog w done) < 2^63))=true
      · rw [if_pos hr] at h ⊢
        exact wpAny_pure (by simpa [Nat.add_assoc] using h)
      · rw [if_neg hr] at h ⊢
        exact wpAny_bind (wpAny_rule (wpAny_pure (by simpa [Nat.add_assoc] using h)))
end
open PySem PySem.Spec PyProof.Rows L2
theorem sS {ts us:List KT}:((List.range (min ts.length us.length)).all (fun j=>decide (ts[j]?=us[j]?))&&ts.length==us.length)=decide (ts=us):=by
 by_cases h:ts=us
 · subst h
   simp
 · rw [decide_eq_false h]
   by_cases hl:ts.length=us.length
   · have:∃j,j < ts.length∧ts[j]?≠us[j]?:=by
      refine Classical.byContradiction fun n=>h (xL fun j=> ?_)
      by_cases hj:j < ts.length
      · exact Classical.byContradiction fun z=>n ⟨j,hj,z⟩
      · rw [xa (by omega),xa (by omega)]
     obtain ⟨j,hj,ne⟩:=this
     rw [Bool.and_eq_false_iff]
     left
     refine List.all_eq_false.mpr ⟨j,xj.mpr (by omega),?_⟩
     simp [ne]
   · rw [Bool.and_eq_false_iff]
     right
     simp [hl]
theorem wA:∀(n:Nat) {A:Around} {s:Shared} {t u:KT} {a b:Value},t.depth≤n→A.units+n+1 < cLine→KAt s.heap a t→KAt s.heap b u→SeqAt.EqAt A s a b (decide (t=u)):=by
 intro n
 induction n with
 |zero=>
  intro A s t u a b hd hu h1 h2
  cases t with
  |tp ts=>simp [KT.depth] at hd
  |lf k=>
   unfold KAt at h1
   cases u with
   |lf j=>
    unfold KAt at h2
    intro prog w E Q q
    refine (aE prog w).eqBool h1 h2 ?_
    have e:decide (k=j)=decide (KT.lf k=KT.lf j):=by simp
    rw [e]
    exact q
   |tp us=>
    unfold KAt at h2
    obtain ⟨r,o,items,m,rfl,g,c,d,_⟩:=h2
    rw [decide_eq_false (by intro z;cases z)]
    rcases ay h1 with ⟨i,t,rfl,rfl⟩|⟨x,t,rfl,rfl⟩
    · exact SeqAt.EqAt.int_tuple i t (items:=items) ⟨o,g,c,m,d⟩ (by omega)
    · exact SeqAt.EqAt.str_tuple x t (items:=items) ⟨o,g,c,m,d⟩ (by omega)
 |succ n ih=>
  intro A s t u a b hd hu h1 h2
  cases t with
  |lf k=>
   unfold KAt at h1
   cases u with
   |lf j=>
    unfold KAt at h2
    intro prog w E Q q
    refine (aE prog w).eqBool h1 h2 ?_
    have e:decide (k=j)=decide (KT.lf k=KT.lf j):=by simp
    rw [e]
    exact q
   |tp us=>
    unfold KAt at h2
    obtain ⟨r,o,items,m,rfl,g,c,d,_⟩:=h2
    rw [decide_eq_false (by intro z;cases z)]
    rcases ay h1 with ⟨i,t,rfl,rfl⟩|⟨x,t,rfl,rfl⟩
    · exact SeqAt.EqAt.int_tuple i t (items:=items) ⟨o,g,c,m,d⟩ (by omega)
    · exact SeqAt.EqAt.str_tuple x t (items:=items) ⟨o,g,c,m,d⟩ (by omega)
  |tp ts=>
   have h1':=h1
   have h2':=h2
   unfold KAt at h1
   obtain ⟨r,o,items,m,rfl,g,c,d,k1⟩:=h1
   cases u with
   |lf j=>
    unfold KAt at h2
    rw [decide_eq_false (by intro z;cases z)]
    rcases ay h2 with ⟨i,t,rfl,rfl⟩|⟨x,t,rfl,rfl⟩
    · exact SeqAt.EqAt.tuple_int i t (items:=items) ⟨o,g,c,m,d⟩ (by omega)
    · exact SeqAt.EqAt.tuple_str x t (items:=items) ⟨o,g,c,m,d⟩ (by omega)
   |tp us=>
    unfold KAt at h2
    obtain ⟨r',o',items',m',rfl,g',c',d',k2⟩:=h2
    by_cases z:r=r'
    · subst z
      rw [decide_eq_true (KAt.det h1' h2')]
      exact SeqAt.EqAt.same _
    · have hd':KTs.depth ts≤n:=by
       unfold KT.depth at hd
       omega
      have l1:=k1.len
      have l2:=k2.len
      have:=SeqAt.RcAt.tuples (A:=A) (e:=fun j=>decide (ts[j]?=us[j]?)) (show s.heap.IsTuple r items from ⟨o,g,c,m,d⟩) (show s.heap.IsTuple r' items' from ⟨o',g',c',m',d'⟩) (by omega) fun j g1 g2=>by
       obtain ⟨t1,e1,a1⟩:=k1.get (j:=j) (v:=items[j]) (by rw [xg];simp [g1])
       obtain ⟨t2,e2,a2⟩:=k2.get (j:=j) (v:=items'[j]) (by rw [xg];simp [g2])
       have e:decide (ts[j]?=us[j]?)=decide (t1=t2):=by rw [e1,e2];simp
       rw [e]
       refine ih (A:=A.in1) ?_ (by show A.units+1+n+1 < cLine;omega) a1 a2
       have:=dE (wJ e1)
       omega
      have hs1:items.size=ts.length:=by rw [←l1,wX]
      have hs2:items'.size=us.length:=by rw [←l2,wX]
      rw [hs1,hs2,sS] at this
      have e:decide (KT.tp ts=KT.tp us)=decide (ts=us):=by simp
      rw [e]
      exact SeqAt.EqAt.of_refs z this
theorem oY:∀(n:Nat) {prog:Program} {w:World} {A:Around} {E:Value→Shared→Prop} {s:Shared} {t:KT} {v:Value} {Q:Bool→Shared→Prop},KAt s.heap v t→t.depth≤n→Q true s→wpAny (model prog w) A (eqIsQuiet n v) Q E s:=by
 have leaf:∀(n:Nat) {prog:Program} {w:World} {A:Around} {E:Value→Shared→Prop} {s:Shared} {k:Key} {v:Value} {Q:Bool→Shared→Prop},eS k v=true→Q true s→wpAny (model prog w) A (eqIsQuiet n v) Q E s:=by
  intro n prog w A E s k v Q h q
  rw [eqIsQuiet_byValue _ ((aE prog w).byValue k v h)]
  exact wpAny_pure q
 intro n
 induction n with
 |zero=>
  intro prog w A E s t v Q h hd q
  cases t with
  |tp ts=>simp [KT.depth] at hd
  |lf k=>
   unfold KAt at h
   exact leaf 0 h q
 |succ n ih=>
  intro prog w A E s t v Q h hd q
  cases t with
  |lf k=>
   unfold KAt at h
   exact leaf _ h q
  |tp ts=>
   unfold KAt at h
   obtain ⟨a,o,items,m,rfl,g,c,d,r⟩:=h
   have ty:s.TypeIs (.ref a) "tuple":=⟨o,g,c⟩
   have hd':KTs.depth ts≤n:=by
    unfold KT.depth at hd
    omega
   unfold eqIsQuiet
   refine wpAny_bind (wpAny_specialOf ty F.slot_tuple_eq.lookup ?_)
   show wpAny _ _ (do let y←isInstance (.ref a) (.type "tuple");_) _ _ _
   refine wpAny_bind (wpAny_isInstance ty isSubtype_tuple_tuple ?_)
   simp only [Bool.not_true,if_false,xy]
   refine wpAny_bind (wpAny_seqItems g d (wpAny_bind ?_))
   show wpAny _ _ (forIn items _ _) _ _ _
   rw [←Array.forIn_toList]
   refine wpAny_forIn_list _ (fun rest b s'=>b.1=none∧s'=s∧∃left,KsAt s.heap rest left∧KTs.depth left≤n) _ ?_ ?_ _ _ ⟨rfl,rfl,ts,r,hd'⟩
   · rintro x rest b s' ⟨hb,rfl,left,hl,hd2⟩
     cases left with
     |nil=>
      unfold KsAt at hl
      cases hl
     |cons t left=>
      unfold KsAt at hl
      obtain ⟨v,rr,e,h1,h2⟩:=hl
      cases e
      unfold KTs.depth at hd2
      refine wpAny_bind (ih h1 (by omega) ?_)
      simp only [Bool.not_true,if_false,xy]
      exact wpAny_pure ⟨rfl,rfl,left,h2,by omega⟩
   · rintro ⟨b1,b2⟩ s' ⟨hb,rfl,_⟩
     simp only at hb
     subst hb
     exact wpAny_pure q
noncomputable def treeKind (prog:Program) (w:World):HeapKind prog w (List KT) where
 is:=fun h ts a=>KAt h (.ref a) (.tp ts)∧(KT.tp ts).depth≤8
 hash:=fun ts=>(KT.tp ts).hash prog w
 draws:=fun ts=>(KT.tp ts).draws
 room:=fun A=>A.units+20 < cLine
 inj:=fun x y=>by
  have:=KAt.det x.1 y.1
  injection this
 keeps:=fun {h h' k a d o es ep} x g hd sb=>⟨x.1.keep fun b ob items n e dt=>by
  have ne:b≠d:=fun z=>by
   subst z
   rw [g] at e
   cases e
   rw [hd] at dt
   cases dt
  exact (sb.2 b ne).trans e,x.2⟩
 pyHash:=fun hu x q=>rZ 8 x.2 (by omega) x.1 q
 eqBool:=fun {A E s x y a b Q} hu hx hy q=>by
  refine wA 8 (t:= .tp x) (u:= .tp y) hx.2 (by omega) hx.1 hy.1 prog w E Q ?_
  have e:decide (KT.tp x=KT.tp y)=decide (x=y):=by simp
  rw [e]
  exact q
 quiet:=fun x q=>oY 8 x.1 x.2 q
end Tk
namespace L2
section
open PySem
variable {prog:Program} {w:World} {A:Around} {R:Result→Shared→Prop} {s:Shared}
theorem gy {elt target iter:Expr} {ifs:List Expr} {scope:Scope} {pos:Pos} {it acc:Value} {env:Env} (I:Nat→Shared→Prop)
 (turn:∀n s,I n s→wpAny (model prog w) A (pyNext it) (fun r s₁=>match r with
  |none=>R (.ok .next) s₁
  |some v=>wpAny (model prog w) A (letOwnedTupleGo target it v) (fun _ s₁'=>wpAny (model prog w) A (assign target env v) (fun _ s₂=>
   wpAny (model prog w) A (forIn ifs true fun c r=>if r=true then do let ok←isTrue c env (eval c env);pure (ForInStep.yield ok) else pure (ForInStep.yield r)) (fun ok s₃=>
    if ok=true then wpAny (model prog w) A (eval elt env) (fun x s₄=>
     wpAny (model prog w) A (call (.builtin "list.append") [acc,x]) (fun _ s₅=>∃m,m < n∧I m s₅) (fun _ _=>False) s₄) (fun _ _=>False) s₃
    else∃m,m < n∧I m s₃) (fun _ _=>False) s₂) (fun _ _=>False) s₁') (fun _ _=>False) s₁) (fun _ _=>False) s)
 (n:Nat) (h:I n s):codeAny (model prog w) A (.compLoop (.ListComp elt [⟨target,iter,ifs,0⟩] scope pos) 0 it acc env) R s:=by
 refine codeAny_loop rfl I (fun n s hI=> ?_) n h
 show wpAny _ A ((compTurn (.ListComp elt [⟨target,iter,ifs,0⟩] scope pos) 0 it acc env).onRaise (fun x=>do noteFrame x env;theTreesLotGoes x)) _ _ s
 refine wpAny_noted ?_
 rw [compTurn_list]
 refine wpAny_bind (wpAny_standAt (wpAny_bind (wpAny_mono (turn n s hI) (fun r s₁ h₁=> ?_) fun _ _ z=>z.elim)))
 cases r with
 |none=>exact wpAny_pure h₁
 |some v=>
  refine wpAny_bind (wpAny_mono h₁ (fun _ s₁' h₁'=> ?_) fun _ _ z=>z.elim)
  refine wpAny_bind (wpAny_mono h₁' (fun _ s₂ h₂=>wpAny_bind (wpAny_mono h₂ (fun ok s₃ h₃=> ?_) fun _ _ z=>z.elim)) fun _ _ z=>z.elim)
  cases ok with
  |false=>exact wpAny_pure ⟨rfl,h₃⟩
  |true=>
   exact wpAny_bind (wpAny_bind (wpAny_mono h₃ (fun x s₄ h₄=>wpAny_bind (wpAny_mono h₄ (fun _ s₅ h₅=>wpAny_pure (wpAny_pure ⟨rfl,h₅⟩)) fun _ _ z=>z.elim)) fun _ _ z=>z.elim))
noncomputable def c7 (names:List (Str×NameKind)) (cells:List (Str×Addr)):List (Str×Addr)→List (Str×Addr):=match names with
 | []=>fun cs=>cs
 |(n,k)::r=>fun cs=>c7 r cells (if (k== .free)=true then (n,(cells.lookup n).getD 0)::cs else cs)
noncomputable def bQ (names:List (Str×NameKind)) (cells:List (Str×Addr)):Bool:=names.all fun y=> !(y.2== .free) ||(cells.lookup y.1).isSome
theorem iT (env:Env):∀(names:List (Str×NameKind)) (cs:List (Str×Addr)),bQ names env.cells=true→
 (forIn names cs fun (x:Str×NameKind) (r:List (Str×Addr))=>match x with
  |(name,kind)=>if (kind==NameKind.free)=true then do let __do_lift←cellOf env name;pure (ForInStep.yield ((name,__do_lift)::r)) else pure (ForInStep.yield r):Sem (List (Str×Addr)))=pure (c7 names env.cells cs)
 | [],cs,_=>rfl
 |(n,k)::r,cs,h=>by
  unfold bQ at h
  rw [List.all_cons,xD] at h
  rw [List.forIn_cons]
  unfold c7
  by_cases hk:(k==NameKind.free)=true
  · rw [if_pos hk]
    dsimp only
    rw [if_pos hk]
    have h1:(env.cells.lookup n).isSome=true:=by
     have:=h.1
     rw [hk] at this
     simpa using this
    obtain ⟨c,hc⟩:=Option.isSome_iff_exists.mp h1
    have e:cellOf env n=pure c:=by unfold cellOf;rw [hc]
    rw [e,hc]
    exact iT env r _ h.2
  · rw [if_neg hk]
    dsimp only
    rw [if_neg hk]
    exact iT env r _ h.2
theorem fq {scope:Scope} {env:Env} (h:bQ scope.names env.cells=true):closureFor scope env=pure (c7 scope.names env.cells []):=by
 unfold closureFor
 have:=iT env scope.names [] h
 simp only [bind_pure]
 exact this
theorem jH {cells:List (Str×Addr)}:∀(names:List (Str×NameKind)) (cs:List (Str×Addr)),bQ names cells=true→(∀y c,cs.lookup y=some c→cells.lookup y=some c)→∀y c,(c7 names cells cs).lookup y=some c→cells.lookup y=some c
 | [],cs,_,hc,y,c,e=>hc y c e
 |(n,k)::r,cs,h,hc,y,c,e=>by
  unfold bQ at h
  rw [List.all_cons,xD] at h
  refine jH r _ h.2 (fun z d q=> ?_) y c e
  by_cases hk:(k==NameKind.free)=true
  · rw [if_pos hk,xC] at q
    cases zn:(z==n) with
    |true=>
     rw [zn] at q
     have h1:(cells.lookup n).isSome=true:=by
      have:=h.1
      rw [hk] at this
      simpa using this
     obtain ⟨c',hc'⟩:=Option.isSome_iff_exists.mp h1
     have zn':z=n:=by simpa using zn
     rw [zn',hc']
     have q':some ((cells.lookup n).getD 0)=some d:=q
     rw [hc'] at q'
     exact q'
    |false=>
     rw [zn] at q
     exact hc z d q
  · rw [if_neg hk] at q
    exact hc z d q
theorem i9 {cells:List (Str×Addr)}:∀(names:List (Str×NameKind)) (cs:List (Str×Addr)) (y:Str),(∃c,cs.lookup y=some c)→∃c,(c7 names cells cs).lookup y=some c
 | [],cs,y,h=>h
 |(n,k)::r,cs,y,h=>by
  refine i9 r _ y ?_
  by_cases hk:(k==NameKind.free)=true
  · rw [if_pos hk,xC]
    cases zn:(y==n) with
    |true=>exact ⟨_,rfl⟩
    |false=>exact h
  · rw [if_neg hk]
    exact h
theorem gA {cells:List (Str×Addr)}:∀(names:List (Str×NameKind)) (cs:List (Str×Addr)) (y:Str),(y,NameKind.free)∈names→∃c,(c7 names cells cs).lookup y=some c
 | [],_,y,h=>by cases h
 |(n,k)::r,cs,y,h=>by
  rcases wY.mp h with e|h
  · obtain ⟨e1,e2⟩:=Prod.mk.inj e
    subst e1
    subst e2
    unfold c7
    refine i9 r _ y ?_
    rw [if_pos (show (NameKind.free==NameKind.free)=true from rfl),xC]
    have:(y==y)=true:=by simp
    rw [this]
    exact ⟨_,rfl⟩
  · exact gA r _ y h
end
open PySem PySem.Spec PyProof.Rows
noncomputable abbrev XC (X:Cx) (scope:Scope) (NC:List Str) (C:Addr) (s:Shared) (H:Hp) (fp:List Addr) (pn:List (Addr×Obj)):Cx:=
 {X with N:=NC,s₀:=s,H₀:=H,env:=compEnvC scope (c7 scope.names X.env.cells []) C X.env,outer:=X.stack,stack:=X.stack,ex:=fp,fn:=fun _=>false,pn:=pn,xe:=fun _ _=>False}
noncomputable def subS (mp:List (Option Nat)) (σ:St):St:=mp.map fun o=>match o with
 |some i=>(σ[i]?).getD none
 |none=>none
noncomputable def fY (N NC:List Str) (mp:List (Option Nat)) (names outer:List (Str×NameKind)):Bool:=(List.range mp.length).all fun j=>match mp[j]? with
 |some (some i)=>(match NC[j]?,N[i]? with
  |some y,some z=>y==z&&names.lookup y==some NameKind.free&& (outer.lookup y==some NameKind.cell ||outer.lookup y==some NameKind.free)
  |_,_=>false)
 |_=>true
theorem pi {N NC:List Str} {mp:List (Option Nat)} {names outer:List (Str×NameKind)} (h:fY N NC mp names outer=true) {j i:Nat} (e:mp[j]?=some (some i)):∃y,NC[j]?=some y∧N[i]?=some y∧names.lookup y=some .free∧(outer.lookup y=some .cell∨outer.lookup y=some .free):=by
 unfold fY at h
 rw [xT] at h
 have hj:j < mp.length:=(wK.mp e).1
 have:=h j (xj.mpr hj)
 rw [e] at this
 dsimp only at this
 split at this
 · rename_i y z e1 e2
   simp only [xD,Bool.or_eq_true,beq_iff_eq] at this
   obtain ⟨⟨rfl,h2⟩,h3⟩:=this
   exact ⟨y,e1,e2,h2,h3⟩
 · cases this
def PTs (X:Cx) (ifs:List Expr) (t:TT):Prop:=
 ∀(pins:List (Addr×Obj)) (s:Shared) (σ:St) (H:Hp) (Q:Bool→Hp→Prop),Inv X pins σ H s→t σ H Q→
  wpAny (model X.prog X.w) X.A (forIn ifs true fun c r=>if r=true then do let ok←isTrue c X.env (eval c X.env);pure (ForInStep.yield ok) else pure (ForInStep.yield r)) (TP X pins σ Q) X.xe s
def dr:TT:=fun _ H Q=>Q true H
theorem bz {X:Cx}:PTs X [] dr:=fun _ _ σ H Q I h=>wpAny_tests_nil ⟨H,I,h⟩
theorem f9 {X:Cx} {c:Expr} {t:TT} (hc:PT X c t):PTs X [c] t:=fun pins s σ H Q I h=>wpAny_tests_one (hc pins s σ H Q I h)
def Ext (σ σ':St):Prop:=∀(j:Nat) (v:V),σ[j]?=some (some v)→σ'[j]?=some (some v)
theorem ext1 {o:Option V} {r:St}:Ext (none::r) (o::r)
 |0,v,e=>by cases (wT (show some (none:Option V)=some (some v) from e))
 |j+1,v,e=>e
theorem ext2 {o p:Option V} {r:St}:Ext (none::none::r) (o::p::r)
 |0,v,e=>by cases (wT (show some (none:Option V)=some (some v) from e))
 |1,v,e=>by cases (wT (show some (none:Option V)=some (some v) from e))
 |j+2,v,e=>e
def dL (mp:List (Option Nat)) (wi:TI) (g:TG) (tc:TT) (te:TE):TE:=fun σ H Q=>wi σ H fun J H1=>∀D,H1 D=none→
 ∃W:Nat→Nat→List V→Hp→Prop,(∃m,W 0 m [] (upd H1 D (.lst [])))∧∀i m acc H2,W i m acc H2→
  (J.stop i H2∧Q (.ref D) H2)∨
  (J.go i H2∧∀x H3,J.yld i H2 x H3→g x (subS mp σ) H3 fun σ4 H4=>Ext (subS mp σ) σ4∧tc σ4 H4 fun b H5=>if b=true then te σ4 H5 fun v H6=>H6 D=some (.lst acc)∧acc.length < sizeLine∧∃m',m' < m∧W (i+1) m' (acc++ [v]) (upd H6 D (.lst (acc++ [v])))
   else∃m',m' < m∧W (i+1) m' acc H5)
open PySem PySem.Spec PyProof.Rows
theorem cB {env:Env}:∀ {names:List (Str×NameKind)} {x:Str},names.lookup x=some .free→
 (names.map fun (n,k)=>if (k==NameKind.free&&env.scope.kind== .function&&env.kindOf n==some .cell) then (n,NameKind.cell) else (n,k)).lookup x=some .cell∨
 (names.map fun (n,k)=>if (k==NameKind.free&&env.scope.kind== .function&&env.kindOf n==some .cell) then (n,NameKind.cell) else (n,k)).lookup x=some .free
 | [],_,h=>by simp at h
 |(n,k)::r,x,h=>by
  have ih:= @cB env r x
  show List.lookup x ((if (k==NameKind.free&&env.scope.kind== .function&&env.kindOf n==some .cell)=true then (n,NameKind.cell) else (n,k))::_)=_∨List.lookup x ((if (k==NameKind.free&&env.scope.kind== .function&&env.kindOf n==some .cell)=true then (n,NameKind.cell) else (n,k))::_)=_
  cases hx:x==n with
  |true=>
   simp only [xC,hx] at h
   cases h
   by_cases hc:(NameKind.free==NameKind.free&&env.scope.kind== .function&&env.kindOf n==some .cell)=true
   · rw [if_pos hc]
     left
     simp only [xC,hx]
   · rw [if_neg hc]
     right
     simp only [xC,hx]
  |false=>
   simp only [xC,hx] at h
   by_cases hc:(k==NameKind.free&&env.scope.kind== .function&&env.kindOf n==some .cell)=true
   · rw [if_pos hc]
     simp only [xC,hx]
     exact ih h
   · rw [if_neg hc]
     simp only [xC,hx]
     exact ih h
theorem eN {env:Env}:∀ {names:List (Str×NameKind)} {x:Str},(∀y∈names,y.2≠ .cell)→
 ((names.map fun (n,k)=>if (k==NameKind.free&&env.scope.kind== .function&&env.kindOf n==some .cell) then (n,NameKind.cell) else (n,k)).lookup x=some .cell∨
 (names.map fun (n,k)=>if (k==NameKind.free&&env.scope.kind== .function&&env.kindOf n==some .cell) then (n,NameKind.cell) else (n,k)).lookup x=some .free)→(x,NameKind.free)∈names
 | [],_,_,h=>by simp at h
 |(n,k)::r,x,hn,h=>by
  have ih:= @eN env r x (fun y hy=>hn y (wQ _ hy))
  have nk:k≠ .cell:=hn (n,k) wP
  rw [wZ] at h
  dsimp only at h
  cases hx:x==n with
  |true=>
   have xn:x=n:=by simpa using hx
   subst xn
   by_cases hc:(k==NameKind.free&&env.scope.kind== .function&&env.kindOf x==some .cell)=true
   · have:k= .free:=by
      have:=hc
      rw [xD,xD] at this
      simpa using this.1.1
     rw [this]
     exact wP
   · rw [if_neg hc,xC,hx] at h
     rcases h with h|h
     · exact absurd (wT h) nk
     · cases (wT h)
       exact wP
  |false=>
   refine wQ _ (ih ?_)
   by_cases hc:(k==NameKind.free&&env.scope.kind== .function&&env.kindOf n==some .cell)=true
   · rw [if_pos hc,xC,hx] at h
     exact h
   · rw [if_neg hc,xC,hx] at h
     exact h
section
variable {X:Cx} {pins:List (Addr×Obj)} {σ:St} {H:Hp} {s:Shared}
theorem Inv.block {scope:Scope} {NC:List Str} {mp:List (Option Nat)} {fp:List Addr} {h1:Heap} {tk:Nat} {m:Str→Option Value} (I:Inv X pins σ H s) (hf:∀b∈fp,FpOk X pins H b) (hlt:∀b∈fp,b < s.heap.objs.size) (hk:scope.kind= .function) (hnc:∀y∈scope.names,y.2≠ .cell)
 (hc:bQ scope.names X.env.cells=true) (hl:mp.length=NC.length) (hm:fY X.N NC mp scope.names X.env.scope.names=true) (kp:∀b o,s.heap.get? b=some o→h1.get? b=some o) (hn:h1.Ns s.heap.objs.size m):
 Inv (XC X scope NC s.heap.objs.size s H fp (X.pn++pins)) [] (subS mp σ) H {s with heap:=h1,toks:=tk}:=by
 have sub:=jH (cells:=X.env.cells) scope.names [] hc (fun y c e=>by cases e)
 have lt:∀b o,s.heap.get? b=some o→b≠s.heap.objs.size:=fun b o e=>wW (Heap.lt_size e)
 have nst:∀b,b≠X.env.locals→b∉X.fs→b∉frs X.stack:=fun b h1 h2 z=>by
  rcases wY.mp (I.stkSub b z) with e|e
  · exact h1 e
  · exact h2 e
 refine ⟨⟨I.ok.mod,hk,I.ok.glob,I.ok.blt,wO _,fun x y c e1 e2=>I.ok.inj x y c (sub x c e1) (sub y c e2),fun x hx=> ?_,(fun _ _ z=>by cases z),I.ok.hd,I.ok.frames, .inl rfl,fun b hb=> ?_,fun b o e=> ?_,xI I.ok.bsz I.sz,fun b o e hb=> ?_,fun b hb=> ?_,I.stack,I.stkFree⟩,
  rfl,I.bare,Un.kept kp,⟨m,hn,fun j y v e1 e2 e3=> ?_⟩,fun y c e=> ?_,I.hok.fresh (wO _),fun y c e=>I.freeC y c (sub y c e),fun p hp=> ?_,I.hok.kept kp,?_⟩
 · exact gA scope.names [] x (eN hnc hx)
 · obtain ⟨f0,f1,f2,f3,f4,f5⟩:=hf b hb
   exact ⟨wW (hlt b hb),fun x c e=>f4 x c (sub x c e)⟩
 · obtain ⟨h1,h2⟩:=I.bs b o e
   exact ⟨h1,h2⟩
 · obtain ⟨f0,f1,f2,f3,f4,f5⟩:=hf b hb
   rcases f3 with z|z
   · exact I.ok.noex b o e z
   · exact absurd (xb (Heap.lt_size e) (xI I.ok.bsz z)) (Nat.lt_irrefl _)
 · obtain ⟨f0,f1,f2,f3,f4,f5⟩:=hf b hb
   exact nst b f1 f2
 ·
  unfold subS at e2
  rw [wN] at e2
  cases q:mp[j]? with
  |none=>rw [q] at e2;cases e2
  |some o=>
   rw [q] at e2
   cases o with
   |none=>cases e2
   |some i=>
    have e2':some ((σ[i]?).getD none)=some (some v):=e2
    obtain ⟨z,y1,y2,y3,y4⟩:=pi hm q
    have yz:y=z:=wT ((show NC[j]?=some y from e1).symm.trans y1)
    subst yz
    have e4:σ[i]?=some (some v):=by
     cases w:σ[i]? with
     |none=>rw [w] at e2';cases e2'
     |some t=>rw [w] at e2';exact e2'
    obtain ⟨m0,hn0,hl0⟩:=I.loc
    obtain ⟨c,hcl⟩:=gA (cells:=X.env.cells) scope.names [] y (PySem.mem_of_lookup y3)
    have hcx:=sub y c hcl
    have vis:Vis X.env.scope y:= .inr y4
    obtain ⟨u,ru,lk⟩:=hl0 i y v y2 e4 vis
    refine ⟨u,ru, .inr ⟨cB y3,c,hcl,?_⟩⟩
    rcases lk with ⟨k1,_⟩|⟨_,c',k2,k3⟩
    · have k1':X.env.scope.names.lookup y=some .local:=k1
      rcases y4 with y4|y4<;>(rw [y4] at k1';cases k1')
    · rw [hcx] at k2
      cases k2
      obtain ⟨oc,q1,q2⟩:=k3
      exact ⟨oc,kp _ _ q1,q2⟩
 · obtain ⟨v,oc,q1,q2⟩:=I.cell y c (sub y c e)
   exact ⟨v,oc,kp _ _ q1,q2⟩
 · have hp':p∈X.pn++pins:=by simpa using hp
   obtain ⟨q1,q2,q3,q4,q5⟩:=I.pin p hp'
   exact ⟨kp _ _ q1,q2,lt _ _ q1,nst _ q3 q4,q5⟩
 · show (subS mp σ).length=NC.length
   unfold subS
   rw [wL,hl]
variable {elt target iter:Expr} {ifs:List Expr} {scope:Scope} {NC:List Str} {mp:List (Option Nat)} {pos:Pos} {wi:TI} {g:TG} {tc:TT} {te:TE}
theorem bU (hcalm:X.calm=true) (hi:PI X target iter wi) (hg:∀C s H fp pn,PG (XC X scope NC C s H fp pn) target g) (ht:∀C s H fp pn,PTs (XC X scope NC C s H fp pn) ifs tc) (he:∀C s H fp pn,PE (XC X scope NC C s H fp pn) elt te)
 (hl:mp.length=NC.length:=by rfl) (hm:fY X.N NC mp scope.names X.env.scope.names=true:=by rfl) (hc:bQ scope.names X.env.cells=true:=by rfl) (hk:scope.kind= .function:=by rfl)
 (hnc:∀y∈scope.names,y.2≠ .cell:=by decide +kernel) (hnm:∀y∈scope.names,y.2= .local→scope.names.lookup y.1=some .local:=by decide +kernel) (hs:∀x,foldedSetIterable iter X.env x=pure x:=by intro _;rfl):
 PE X (.ListComp elt [⟨target,iter,ifs,0⟩] scope pos) (dL mp wi g tc te):=by
 intro pins s σ H Q I h
 rw [eval_ListComp]
 refine wpAny_comprehension_free (use:=none) rfl hs (fq hc) hk hnm (thn (hi pins s σ H _ I h) fun v s1 h1=>thn h1 fun itv s2 h2=> ?_)
 obtain ⟨it,fp,tn,J,H2,e,I2,T,st2,f2,W⟩:=h2
 subst e
 refine wpAny_newObj_type ?_ (by show 0≤sizeLine;decide)
 have nD:H2 s2.heap.objs.size=none:=I2.hok.fresh (wO _)
 have I3:Inv X pins σ (upd H2 s2.heap.objs.size (.lst [])) {s2 with heap:=s2.heap.push {cls:= .type "list",data:= .seq ([]:List Value).toArray}}:=
  I2.laid (t':=s2.toks) (fun b u e=>Heap.get?_push_of_some _ e) (wO _) ⟨by show 0≤sizeLine;decide,[],0, .nil,Heap.get?_push_size _ rfl⟩
 obtain ⟨W,⟨m0,w0⟩,turn⟩:=W _ nD
 have lt2:∀b∈fp,b < s2.heap.objs.size:=fun b hb=>by
  obtain ⟨o,e,_⟩:=T.obj 0 _ st2 b hb
  exact Heap.lt_size e
 have nDf:∀b∈fp,b≠s2.heap.objs.size:=fun b hb=>wW (lt2 b hb)
 have f3:∀b∈fp,FpOk X pins (upd H2 s2.heap.objs.size (.lst [])) b:=fun b hb=>by
  obtain ⟨g0,g1⟩:=f2 b hb
  exact ⟨by rw [af (nDf b hb)];exact g0,g1⟩
 have st3:tn 0 (s2.heap.push {cls:= .type "list",data:= .seq ([]:List Value).toArray}):=T.keep 0 _ _ st2 fun b _ o e=>Heap.get?_push_of_some _ e
 have lt3:∀b∈fp,b < (s2.heap.push {cls:= .type "list",data:= .seq ([]:List Value).toArray}).objs.size:=fun b hb=>by
  rw [Heap.size_push]
  exact xP (lt2 b hb)
 generalize hD:s2.heap.objs.size=D at*
 generalize hs3:({s2 with heap:=s2.heap.push {cls:= .type "list",data:= .seq ([]:List Value).toArray}}:Shared)=s3 at*
 have hh3:s3.heap=s2.heap.push {cls:= .type "list",data:= .seq ([]:List Value).toArray}:=by rw [←hs3]
 rw [←hh3] at st3 lt3
 generalize hH3:upd H2 D (.lst [])=H3 at*
 refine wpAny_newFunctionEnv (around:=some X.env) hnc (by intro y hy;cases hy) (fun h4 hn4 hsb4=> ?_) hk
 have kp4:∀b o,s3.heap.get? b=some o→h4.get? b=some o:=fun b o e=>hsb4.extBut b o (wW (Heap.lt_size e)) (Heap.get?_push_of_some _ e)
 have I4:=I3.block (tk:=s3.toks+([]:List (Str×Value)).length) f3 lt3 hk hnc hc hl hm kp4 hn4
 have st4:tn 0 h4:=T.keep 0 _ _ st3 fun b _ o e=>kp4 b o e
 have fin:∀(s5:Shared) (σ5:St) (H5:Hp),Inv (XC X scope NC s3.heap.objs.size s3 H3 fp (X.pn++pins)) [] σ5 H5 s5→Q (.ref D) H5→compPost (model X.prog X.w) X.A X.xe none (EP X pins σ Q) (.ref D) s3.heap.objs.size (.ok .next) s5:=by
  intro s5 σ5 H5 I5 q5
  obtain ⟨m5,hn5,_⟩:=id I5.loc
  refine ⟨m5,hn5,fun h6 sb6=>⟨.ref D,H5,?_,rfl,q5⟩⟩
  have kp6:∀b o,b≠s3.heap.objs.size→s5.heap.get? b=some o→h6.get? b=some o:=fun b o hb e=>sb6.extBut b o hb e
  have nC:∀b o,s3.heap.get? b=some o→b≠s3.heap.objs.size:=fun b o e=>wW (Heap.lt_size e)
  have un:Un (frs X.stack) fp H3 H5 s3.heap s5.heap:=I5.base
  have hfree:H5 s3.heap.objs.size=none:=I5.free
  refine I3.call' (s':= {s5 with heap:=h6}) (ch:=fp) I5.os ⟨fun b o e n hb hx=>kp6 b o (nC b o e) (un.keep b o e n hb hx),fun b o e n hb hx=> ?_,un.free,fun b o e hx=> ?_,un.tups,un.frzs,un.tbls⟩ ?_ I5.bare (fun b hb=> ?_)
  · obtain ⟨sl,e1⟩:=un.slot b o e n hb hx
    exact ⟨sl,kp6 b _ (nC b o e) e1⟩
  · obtain ⟨o',e1⟩:=un.there b o e hx
    exact ⟨o',kp6 b o' (nC b o e) e1⟩
  · intro b o e
    have nb:b≠s3.heap.objs.size:=fun z=>by rw [z,hfree] at e;cases e
    refine (I5.hok b o e).stay (fun c v hc' r=>kp6 c v ?_ r) (fun _ r=>r) fun _ _ r=>r
    rcases hc' with z|z
    · rw [z];exact nb
    · intro y
      rw [y,hfree] at z
      cases z
  · obtain ⟨g0,g1,g2,g3,g4,g5⟩:=f3 b hb
    exact ⟨g3,g1,g4,g5⟩
 have loop:codeAny (model X.prog X.w) X.A (.compLoop (.ListComp elt [⟨target,iter,ifs,0⟩] scope pos) 0 (.ref it) (.ref D) (compEnvC scope (c7 scope.names X.env.cells []) s3.heap.objs.size X.env)) (compPost (model X.prog X.w) X.A X.xe none (EP X pins σ Q) (.ref D) s3.heap.objs.size)
  {s3 with heap:=h4,toks:=s3.toks+([]:List (Str×Value)).length}:=by
  refine gy (fun n s'=>∃i acc σ' H',Inv (XC X scope NC s3.heap.objs.size s3 H3 fp (X.pn++pins)) [] σ' H' s'∧Ext (subS mp σ) σ'∧tn i s'.heap∧(∀b∈fp,H' b=none)∧W i n acc H') ?_ m0
   ⟨0,[],subS mp σ,H3,I4,fun _ _ e=>e,st4,fun b hb=>(f3 b hb).1,w0⟩
  rintro n s5 ⟨i,acc,σ5,H5,I5,hσ,st5,fr5,w5⟩
  have I5':Inv (XC X scope NC s3.heap.objs.size s3 H3 fp (X.pn++pins)) [] (subS mp σ) H5 s5:=I5.weak (by rw [I5.len];unfold subS;rw [wL];exact hl) hσ
  have fpk:∀ {H':Hp},(∀b∈fp,H' b=none)→∀b∈fp,FpOk (XC X scope NC s3.heap.objs.size s3 H3 fp (X.pn++pins)) [] H' b:=fun hn b hb=>by
   obtain ⟨g0,g1,g2,g3,g4,g5⟩:=f3 b hb
   refine ⟨hn b hb,wW (lt3 b hb),?_, .inl hb,(I4.ok.exf b hb).2,fun p hp=>g5 p (by simpa using hp)⟩
   exact I4.ok.exfs b hb
  rcases turn i n acc H5 w5 with ⟨stop,q⟩|⟨go,step⟩
  · refine thn (T.done (XC X scope NC s3.heap.objs.size s3 H3 fp (X.pn++pins)) rfl rfl rfl hcalm i [] s5 _ H5 (fun _ _=>False) I5' (fpk fr5) st5 stop) fun r s6 ⟨hr,I6⟩=> ?_
    subst hr
    exact fin s6 _ H5 I6 q
  · refine thn (T.item (XC X scope NC s3.heap.objs.size s3 H3 fp (X.pn++pins)) rfl rfl rfl hcalm i [] s5 _ H5 (fun _ _=>False) I5' (fpk fr5) st5 go) fun r s6 ⟨u,hr,h6⟩=> ?_
    subst hr
    refine thn h6 fun _ s7 ⟨x,H7,I7,r7,y7,st7,fr7⟩=> ?_
    have I7':=I7.pinned (fpk fr7) (T.obj _ _ st7)
    refine thn (hg _ _ _ _ _ _ s7 _ H7 x u _ I7' r7 (step x H7 y7)) fun _ s8 ⟨σ8,H8,I8,ext8,q8⟩=> ?_
    refine thn (ht _ _ _ _ _ _ s8 σ8 H8 _ I8 q8) fun ok s9 ⟨H9,I9,q9⟩=> ?_
    have again:∀ {σ':St} {H':Hp} {s':Shared} {acc':List V} {m':Nat},Inv (XC X scope NC s3.heap.objs.size s3 H3 fp (X.pn++pins)) ([]++cD fp s7.heap) σ' H' s'→Ext (subS mp σ) σ'→m' < n→W (i+1) m' acc' H'→
     ∃m,m < n∧∃i acc σ' H',Inv (XC X scope NC s3.heap.objs.size s3 H3 fp (X.pn++pins)) [] σ' H' s'∧Ext (subS mp σ) σ'∧tn i s'.heap∧(∀b∈fp,H' b=none)∧W i m acc H':=by
     intro σ' H' s' acc' m' I' hσ' hm' w'
     refine ⟨m',hm',i+1,acc',σ',H',I'.unpinned,hσ',T.keep _ _ _ st7 fun b hb o e=>(I'.pin (b,o) (wR _ (wR _ (aV hb e)))).1,fun b hb=> ?_,w'⟩
     obtain ⟨o,e,d⟩:=T.obj _ _ st7 b hb
     exact (I'.pin (b,o) (wR _ (wR _ (aV hb e)))).2.1
    cases ok with
    |false=>
     rw [if_neg x9] at q9
     rw [if_neg x9]
     obtain ⟨m',hm',w'⟩:=q9
     exact again I9 ext8 hm' w'
    |true=>
     rw [if_pos rfl] at q9
     rw [if_pos rfl]
     refine thn (he _ _ _ _ _ _ s9 σ8 H9 _ I9 q9) fun v s10 ⟨y,H10,I10,r10,hD10,hz,m',hm',w'⟩=> ?_
     refine thn (aT (X:=XC X scope NC s3.heap.objs.size s3 H3 fp (X.pn++pins)) _ s10 σ8 H10 (.ref D) [y] (.ref D) [v] (fun _ H'=>H'=upd H10 D (.lst (acc++ [y]))) I10 rfl (.cons r10 .nil) ⟨D,acc,y,rfl,rfl,hD10,hz,rfl⟩) fun _ s11 ⟨_,H11,I11,_,e11⟩=> ?_
     subst e11
     exact again I11 ext8 hm' w'
 exact codeAny_compStart_list loop (T.self _ 0 _ _ _ st4 loop)
end
open PySem PySem.Spec PyProof.Rows
section
variable {X:Cx} {pins:List (Addr×Obj)} {σ:St} {H:Hp} {s:Shared}
theorem mY {h h':Heap} {a b:Addr} {m:Str→Option Value} (hn:h.Ns a m) (sb:Heap.SameBut b h h') (ne:a≠b):h'.Ns a m:=by
 obtain ⟨o,es,ep,ho,r⟩:=hn
 exact ⟨o,es,ep,(sb.2 a ne).trans ho,r⟩
variable {elt target iter:Expr} {ifs:List Expr} {scope:Scope} {NC:List Str} {mp:List (Option Nat)} {pos spos:Pos} {wi:TI} {g:TG} {tc:TT} {te:TE} {i:Nat} {x:Str} {px:Pos}
theorem fh (hcalm:X.calm=true) (hN:X.N.Nodup) (hix:X.N[i]?=some x) (hx:X.env.scope.names.lookup x=some .local) (hsw:swapsWith (.ListComp elt [⟨target,iter,ifs,0⟩] scope pos) (some (.Name x px)) spos.line X.env=pure true)
 (hi:PI X target iter wi) (hg:∀C s H fp pn,PG (XC X scope NC C s H fp pn) target g) (ht:∀C s H fp pn,PTs (XC X scope NC C s H fp pn) ifs tc) (he:∀C s H fp pn,PE (XC X scope NC C s H fp pn) elt te)
 (hl:mp.length=NC.length:=by rfl) (hm:fY X.N NC mp scope.names X.env.scope.names=true:=by rfl) (hc:bQ scope.names X.env.cells=true:=by rfl) (hk:scope.kind= .function:=by rfl)
 (hnc:∀y∈scope.names,y.2≠ .cell:=by decide +kernel) (hnm:∀y∈scope.names,y.2= .local→scope.names.lookup y.1=some .local:=by decide +kernel) (hs:∀x,foldedSetIterable iter X.env x=pure x:=by intro _;rfl):
 PS X (.Assign [.Name x px] (.ListComp elt [⟨target,iter,ifs,0⟩] scope pos) spos) (tAsg (dL mp wi g tc te) (cw i)):=by
 intro pins s σ H Z I h
 rw [exec_Assign_Name_used _ _ _ _ hsw]
 refine wpAny_bind (wpAny_standAt (wpAny_bind ?_))
 show wpAny _ _ (do let _←comprehension (.ListComp elt [⟨target,iter,ifs,0⟩] scope pos) scope X.env _ (newList []) false (eval iter X.env) (some (assign (.Name x px) X.env))) _ _ s
 refine wpAny_bind (wpAny_mono (wpAny_comprehension_free (use:=some (assign (.Name x px) X.env)) (Q:=fun _ s'=>SP X pins Z .next s') (E:=X.xe) rfl hs (fq hc) hk hnm
  (thn (hi pins s σ H _ I h) fun v s1 h1=>thn h1 fun itv s2 h2=> ?_)) (fun _ s' q=>wpAny_pure (wpAny_pure q)) fun _ _ e=>e)
 obtain ⟨it,fp,tn,J,H2,e,I2,T,st2,f2,W⟩:=h2
 subst e
 refine wpAny_newObj_type ?_ (by show 0≤sizeLine;decide)
 have nD:H2 s2.heap.objs.size=none:=I2.hok.fresh (wO _)
 have I3:Inv X pins σ (upd H2 s2.heap.objs.size (.lst [])) {s2 with heap:=s2.heap.push {cls:= .type "list",data:= .seq ([]:List Value).toArray}}:=
  I2.laid (t':=s2.toks) (fun b u e=>Heap.get?_push_of_some _ e) (wO _) ⟨by show 0≤sizeLine;decide,[],0, .nil,Heap.get?_push_size _ rfl⟩
 obtain ⟨W,⟨m0,w0⟩,turn⟩:=W _ nD
 have lt2:∀b∈fp,b < s2.heap.objs.size:=fun b hb=>by
  obtain ⟨o,e,_⟩:=T.obj 0 _ st2 b hb
  exact Heap.lt_size e
 have nDf:∀b∈fp,b≠s2.heap.objs.size:=fun b hb=>wW (lt2 b hb)
 have f3:∀b∈fp,FpOk X pins (upd H2 s2.heap.objs.size (.lst [])) b:=fun b hb=>by
  obtain ⟨g0,g1⟩:=f2 b hb
  exact ⟨by rw [af (nDf b hb)];exact g0,g1⟩
 have st3:tn 0 (s2.heap.push {cls:= .type "list",data:= .seq ([]:List Value).toArray}):=T.keep 0 _ _ st2 fun b _ o e=>Heap.get?_push_of_some _ e
 have lt3:∀b∈fp,b < (s2.heap.push {cls:= .type "list",data:= .seq ([]:List Value).toArray}).objs.size:=fun b hb=>by
  rw [Heap.size_push]
  exact xP (lt2 b hb)
 generalize hD:s2.heap.objs.size=D at*
 generalize hs3:({s2 with heap:=s2.heap.push {cls:= .type "list",data:= .seq ([]:List Value).toArray}}:Shared)=s3 at*
 have hh3:s3.heap=s2.heap.push {cls:= .type "list",data:= .seq ([]:List Value).toArray}:=by rw [←hs3]
 rw [←hh3] at st3 lt3
 generalize hH3:upd H2 D (.lst [])=H3 at*
 refine wpAny_newFunctionEnv (around:=some X.env) hnc (by intro y hy;cases hy) (fun h4 hn4 hsb4=> ?_) hk
 have kp4:∀b o,s3.heap.get? b=some o→h4.get? b=some o:=fun b o e=>hsb4.extBut b o (wW (Heap.lt_size e)) (Heap.get?_push_of_some _ e)
 have I4:=I3.block (tk:=s3.toks+([]:List (Str×Value)).length) f3 lt3 hk hnc hc hl hm kp4 hn4
 have st4:tn 0 h4:=T.keep 0 _ _ st3 fun b _ o e=>kp4 b o e
 have nC:∀b o,s3.heap.get? b=some o→b≠s3.heap.objs.size:=fun b o e=>wW (Heap.lt_size e)
 have out:∀(s5:Shared) (σ5:St) (H5:Hp) (h6:Heap),Inv (XC X scope NC s3.heap.objs.size s3 H3 fp (X.pn++pins)) [] σ5 H5 s5→Heap.SameBut s3.heap.objs.size s5.heap h6→Inv X pins σ H5 {s5 with heap:=h6}:=by
  intro s5 σ5 H5 h6 I5 sb6
  have kp6:∀b o,b≠s3.heap.objs.size→s5.heap.get? b=some o→h6.get? b=some o:=fun b o hb e=>sb6.extBut b o hb e
  have un:Un (frs X.stack) fp H3 H5 s3.heap s5.heap:=I5.base
  have hfree:H5 s3.heap.objs.size=none:=I5.free
  refine I3.call' (s':= {s5 with heap:=h6}) (ch:=fp) I5.os ⟨fun b o e n hb hx=>kp6 b o (nC b o e) (un.keep b o e n hb hx),fun b o e n hb hx=> ?_,un.free,fun b o e hx=> ?_,un.tups,un.frzs,un.tbls⟩ ?_ I5.bare (fun b hb=> ?_)
  · obtain ⟨sl,e1⟩:=un.slot b o e n hb hx
    exact ⟨sl,kp6 b _ (nC b o e) e1⟩
  · obtain ⟨o',e1⟩:=un.there b o e hx
    exact ⟨o',kp6 b o' (nC b o e) e1⟩
  · intro b o e
    have nb:b≠s3.heap.objs.size:=fun z=>by rw [z,hfree] at e;cases e
    refine (I5.hok b o e).stay (fun c v hc' r=>kp6 c v ?_ r) (fun _ r=>r) fun _ _ r=>r
    rcases hc' with z|z
    · rw [z];exact nb
    · intro y
      rw [y,hfree] at z
      cases z
  · obtain ⟨g0,g1,g2,g3,g4,g5⟩:=f3 b hb
    exact ⟨g3,g1,g4,g5⟩
 have fin:∀(s5:Shared) (σ5:St) (H5:Hp),Inv (XC X scope NC s3.heap.objs.size s3 H3 fp (X.pn++pins)) [] σ5 H5 s5→Z.nx (σ.set i (some (.ref D))) H5→compPost (model X.prog X.w) X.A X.xe (some (assign (.Name x px) X.env)) (fun _ s'=>SP X pins Z .next s') (.ref D) s3.heap.objs.size (.ok .next) s5:=by
  intro s5 σ5 H5 I5 q5
  obtain ⟨m5,hn5,_⟩:=id I5.loc
  have I6:=out s5 σ5 H5 s5.heap I5 (.refl ..)
  have lC:X.env.locals≠s3.heap.objs.size:=wW I3.lt
  show wpAny _ _ (assign (.Name x px) X.env (.ref D)) _ _ _
  refine wpAny_assign_Name (gU (X:=X) (v:= .ref D) I6 hN hix (.inl hx) rfl (fun s7 I7 hch=> ?_) (.inr hx))
  obtain ⟨a,sb7,ha⟩:=hch
  have aC:s3.heap.objs.size≠a:=by
   rcases ha with z|z
   · rw [z];exact Ne.symm lC
   · obtain ⟨v,oc,q1,_⟩:=I3.cell x a z
     exact Ne.symm (nC a oc q1)
  refine ⟨m5,mY hn5 sb7 aC,fun h8 sb8=>⟨σ.set i (some (.ref D)),H5,?_,q5⟩⟩
  have hfree:H5 s3.heap.objs.size=none:=I5.free
  have kp8:∀b o,b≠s3.heap.objs.size→s7.heap.get? b=some o→h8.get? b=some o:=fun b o hb e=>sb8.extBut b o hb e
  have s0lt:∀b o,X.s₀.heap.get? b=some o→b≠s3.heap.objs.size:=fun b o e=>wW (xb (Heap.lt_size e) I3.sz)
  refine ⟨I7.ok,I7.os,I7.bare,⟨fun b o e n hb hx=>kp8 b o (s0lt b o e) (I7.base.keep b o e n hb hx),fun b o e n hb hx=> ?_,I7.base.free,fun b o e hx=> ?_,I7.base.tups,I7.base.frzs,I7.base.tbls⟩,?_,fun y c e=> ?_,I7.free,I7.freeC,fun p hp=> ?_,?_,I7.len⟩
  · obtain ⟨sl,e1⟩:=I7.base.slot b o e n hb hx
    exact ⟨sl,kp8 b _ (s0lt b o e) e1⟩
  · obtain ⟨o',e1⟩:=I7.base.there b o e hx
    exact ⟨o',kp8 b o' (s0lt b o e) e1⟩
  · obtain ⟨m7,hn7,hl7⟩:=I7.loc
    have cellN:∀y c,X.env.cells.lookup y=some c→c≠s3.heap.objs.size:=fun y c e=>by
     obtain ⟨v,oc,q1,_⟩:=I3.cell y c e
     exact nC c oc q1
    refine ⟨m7,mY hn7 sb8 lC,fun j y v e1 e2 e3=> ?_⟩
    obtain ⟨u,ru,lk⟩:=hl7 j y v e1 e2 e3
    refine ⟨u,ru,?_⟩
    rcases lk with lk|⟨k1,c,k2,k3⟩
    · exact .inl lk
    · exact .inr ⟨k1,c,k2,k3.sameBut sb8 (cellN y c k2)⟩
  · obtain ⟨w',z⟩:=I7.cell y c e
    obtain ⟨v,oc,q1,_⟩:=I3.cell y c e
    exact ⟨w',z.sameBut sb8 (nC c oc q1)⟩
  · obtain ⟨e,n1,n2,n3,n4⟩:=I7.pin p hp
    obtain ⟨e3,_⟩:=I3.pin p hp
    exact ⟨kp8 _ _ (nC _ _ e3) e,n1,n2,n3,n4⟩
  · intro b o e
    have nb:b≠s3.heap.objs.size:=fun z=>by rw [z,hfree] at e;cases e
    refine (I7.hok b o e).stay (fun c v hc' r=>kp8 c v ?_ r) (fun _ r=>r) fun _ _ r=>r
    rcases hc' with z|z
    · rw [z];exact nb
    · intro y
      rw [y,hfree] at z
      cases z
 have loop:codeAny (model X.prog X.w) X.A (.compLoop (.ListComp elt [⟨target,iter,ifs,0⟩] scope pos) 0 (.ref it) (.ref D) (compEnvC scope (c7 scope.names X.env.cells []) s3.heap.objs.size X.env)) (compPost (model X.prog X.w) X.A X.xe (some (assign (.Name x px) X.env)) (fun _ s'=>SP X pins Z .next s') (.ref D) s3.heap.objs.size)
  {s3 with heap:=h4,toks:=s3.toks+([]:List (Str×Value)).length}:=by
  refine gy (fun n s'=>∃i acc σ' H',Inv (XC X scope NC s3.heap.objs.size s3 H3 fp (X.pn++pins)) [] σ' H' s'∧Ext (subS mp σ) σ'∧tn i s'.heap∧(∀b∈fp,H' b=none)∧W i n acc H') ?_ m0
   ⟨0,[],subS mp σ,H3,I4,fun _ _ e=>e,st4,fun b hb=>(f3 b hb).1,w0⟩
  rintro n s5 ⟨i,acc,σ5,H5,I5,hσ,st5,fr5,w5⟩
  have I5':Inv (XC X scope NC s3.heap.objs.size s3 H3 fp (X.pn++pins)) [] (subS mp σ) H5 s5:=I5.weak (by rw [I5.len];unfold subS;rw [wL];exact hl) hσ
  have fpk:∀ {H':Hp},(∀b∈fp,H' b=none)→∀b∈fp,FpOk (XC X scope NC s3.heap.objs.size s3 H3 fp (X.pn++pins)) [] H' b:=fun hn b hb=>by
   obtain ⟨g0,g1,g2,g3,g4,g5⟩:=f3 b hb
   refine ⟨hn b hb,wW (lt3 b hb),?_, .inl hb,(I4.ok.exf b hb).2,fun p hp=>g5 p (by simpa using hp)⟩
   exact I4.ok.exfs b hb
  rcases turn i n acc H5 w5 with ⟨stop,q⟩|⟨go,step⟩
  · refine thn (T.done (XC X scope NC s3.heap.objs.size s3 H3 fp (X.pn++pins)) rfl rfl rfl hcalm i [] s5 _ H5 (fun _ _=>False) I5' (fpk fr5) st5 stop) fun r s6 ⟨hr,I6⟩=> ?_
    subst hr
    exact fin s6 _ H5 I6 q
  · refine thn (T.item (XC X scope NC s3.heap.objs.size s3 H3 fp (X.pn++pins)) rfl rfl rfl hcalm i [] s5 _ H5 (fun _ _=>False) I5' (fpk fr5) st5 go) fun r s6 ⟨u,hr,h6⟩=> ?_
    subst hr
    refine thn h6 fun _ s7 ⟨x,H7,I7,r7,y7,st7,fr7⟩=> ?_
    have I7':=I7.pinned (fpk fr7) (T.obj _ _ st7)
    refine thn (hg _ _ _ _ _ _ s7 _ H7 x u _ I7' r7 (step x H7 y7)) fun _ s8 ⟨σ8,H8,I8,ext8,q8⟩=> ?_
    refine thn (ht _ _ _ _ _ _ s8 σ8 H8 _ I8 q8) fun ok s9 ⟨H9,I9,q9⟩=> ?_
    have again:∀ {σ':St} {H':Hp} {s':Shared} {acc':List V} {m':Nat},Inv (XC X scope NC s3.heap.objs.size s3 H3 fp (X.pn++pins)) ([]++cD fp s7.heap) σ' H' s'→Ext (subS mp σ) σ'→m' < n→W (i+1) m' acc' H'→
     ∃m,m < n∧∃i acc σ' H',Inv (XC X scope NC s3.heap.objs.size s3 H3 fp (X.pn++pins)) [] σ' H' s'∧Ext (subS mp σ) σ'∧tn i s'.heap∧(∀b∈fp,H' b=none)∧W i m acc H':=by
     intro σ' H' s' acc' m' I' hσ' hm' w'
     refine ⟨m',hm',i+1,acc',σ',H',I'.unpinned,hσ',T.keep _ _ _ st7 fun b hb o e=>(I'.pin (b,o) (wR _ (wR _ (aV hb e)))).1,fun b hb=> ?_,w'⟩
     obtain ⟨o,e,d⟩:=T.obj _ _ st7 b hb
     exact (I'.pin (b,o) (wR _ (wR _ (aV hb e)))).2.1
    cases ok with
    |false=>
     rw [if_neg x9] at q9
     rw [if_neg x9]
     obtain ⟨m',hm',w'⟩:=q9
     exact again I9 ext8 hm' w'
    |true=>
     rw [if_pos rfl] at q9
     rw [if_pos rfl]
     refine thn (he _ _ _ _ _ _ s9 σ8 H9 _ I9 q9) fun v s10 ⟨y,H10,I10,r10,hD10,hz,m',hm',w'⟩=> ?_
     refine thn (aT (X:=XC X scope NC s3.heap.objs.size s3 H3 fp (X.pn++pins)) _ s10 σ8 H10 (.ref D) [y] (.ref D) [v] (fun _ H'=>H'=upd H10 D (.lst (acc++ [y]))) I10 rfl (.cons r10 .nil) ⟨D,acc,y,rfl,rfl,hD10,hz,rfl⟩) fun _ s11 ⟨_,H11,I11,_,e11⟩=> ?_
     subst e11
     exact again I11 ext8 hm' w'
 exact codeAny_compStart_list loop (T.self _ 0 _ _ _ st4 loop)
end
open PySem PySem.Spec PyProof.Rows
section
variable {κ:Type} [DecidableEq κ]
noncomputable def valV (kvs:List (κ×V)) (k:κ):Option V:=(kvs.find? fun kv=>decide (kv.1=k)).map (·.2)
noncomputable def putK (kvs:List (κ×V)) (k:κ) (v:V):List (κ×V):=
 if (kvs.any fun kv=>decide (kv.1=k))=true then kvs.map (fun kv=>if kv.1=k then (kv.1,v) else kv) else kvs++ [(k,v)]
noncomputable def wH (kvs:List (κ×V)) (k:κ):List (κ×V):=kvs.filter fun kv=>decide (kv.1≠k)
theorem br {p:κ×V} {r:List (κ×V)} {k:κ} (e:p.1=k):valV (p::r) k=some p.2:=by simp [valV,xM,e]
theorem bt {p:κ×V} {r:List (κ×V)} {k:κ} (e:¬p.1=k):valV (p::r) k=valV r k:=by simp [valV,xM,e]
theorem cf (k:κ):∀kvs:List (κ×V),(kvs.any fun kv=>decide (kv.1=k))=(valV kvs k).isSome
 | []=>rfl
 |p::r=>by
  rw [List.any_cons]
  by_cases e:p.1=k
  · simp only [br e,decide_eq_true e,Bool.true_or,Option.isSome_some]
  · rw [bt e,decide_eq_false e,Bool.false_or];exact cf k r
theorem iX (k j:κ) (y:V):∀kvs:List (κ×V),valV (kvs.map fun kv=>if kv.1=k then (kv.1,y) else kv) j=(valV kvs j).map fun x=>if j=k then y else x
 | []=>rfl
 |p::r=>by
  have ih:=iX k j y r
  rw [wZ]
  by_cases h:p.1=k
  · rw [if_pos h]
    by_cases e:p.1=j
    · rw [br (p:=(p.1,y)) e,br e,xF,if_pos (e.symm.trans h)]
    · rw [bt (p:=(p.1,y)) e,bt e,ih]
  · rw [if_neg h]
    by_cases e:p.1=j
    · rw [br (p:=p) e,br e,xF,if_neg (fun z=>h (e.trans z))]
    · rw [bt (p:=p) e,bt e,ih]
theorem gR (k j:κ) (y:V):∀kvs:List (κ×V),valV kvs k=none→valV (kvs++ [(k,y)]) j=if j=k then some y else valV kvs j
 | [],_=>by
  by_cases e:k=j
  · rw [if_pos e.symm];exact br (p:=(k,y)) e
  · rw [if_neg (fun z=>e z.symm)];exact bt (p:=(k,y)) e
 |p::r,hn=>by
  rw [xW]
  have hk:¬p.1=k:=fun z=>by rw [br z] at hn;cases hn
  rw [bt hk] at hn
  have ih:=gR k j y r hn
  by_cases e:p.1=j
  · rw [br e,br e,if_neg (fun z=>hk (e.trans z))]
  · rw [bt e,bt e,ih]
theorem dG (kvs:List (κ×V)) (k j:κ) (y:V):valV (putK kvs k y) j=if j=k then some y else valV kvs j:=by
 unfold putK
 by_cases a:(kvs.any fun kv=>decide (kv.1=k))=true
 · rw [if_pos a,iX]
   rw [cf] at a
   by_cases e:j=k
   · obtain ⟨x,hx⟩:=Option.isSome_iff_exists.mp a
     rw [if_pos e,e,hx,xF,if_pos rfl]
   · rw [if_neg e]
     cases valV kvs j with
     |none=>rfl
     |some x=>rw [xF,if_neg e]
 · rw [if_neg a]
   refine gR k j y kvs ?_
   rw [cf] at a
   cases q:valV kvs k with
   |none=>rfl
   |some x=>rw [q] at a;exact (a rfl).elim
theorem be (kvs:List (κ×V)) (k:κ) (v:V):(putK kvs k v).length≤kvs.length+1:=by
 unfold putK
 split
 · rw [wL];omega
 · rw [wM,wV,xS];omega
theorem cR {kvs:List (κ×V)} {k:κ} (v:V) (h:valV kvs k=none):putK kvs k v=kvs++ [(k,v)]:=by
 unfold putK
 rw [cf,h]
 exact if_neg (by decide)
theorem RelO.isSome_eq {o:Option V} {u:Option Value} (r:RelO o u):o.isSome=u.isSome:=by
 cases o with
 |none=>cases u with
  |none=>rfl
  |some _=>exact (show False from r).elim
 |some _=>cases u with
  |none=>exact (show False from r).elim
  |some _=>rfl
theorem RelO.getD {o:Option V} {u:Option Value} {d:V} {d':Value} (r:RelO o u) (rd:RelV d d'):RelV (o.getD d) (u.getD d'):=by
 cases o with
 |none=>cases u with
  |none=>exact rd
  |some _=>exact (show False from r).elim
 |some _=>cases u with
  |none=>exact (show False from r).elim
  |some _=>exact r
theorem KV.val {kvs:List (κ×V)} {vs:List (κ×Value)} (r:KV kvs vs) (k:κ):RelO (valV kvs k) (valueAt vs k):=by
 unfold KV at r
 induction r with
 |nil=>exact True.intro
 | @cons p q ps qs h t ih=>
  obtain ⟨h1,h2⟩:=h
  by_cases e:p.1=k
  · have e':q.1=k:=h1.symm.trans e
    have b:valueAt (q::qs) k=some q.2:=by simp [valueAt,xM,e']
    rw [br e,b];exact h2
  · have e':¬q.1=k:=fun z=>e (h1.trans z)
    have b:valueAt (q::qs) k=valueAt qs k:=by simp [valueAt,xM,e']
    rw [bt e,b];exact ih
theorem KV.any {kvs:List (κ×V)} {vs:List (κ×Value)} (r:KV kvs vs) (k:κ):(kvs.any fun kv=>decide (kv.1=k))=vs.any fun kv=>decide (kv.1=k):=by
 unfold KV at r
 induction r with
 |nil=>rfl
 |cons h t ih=>rw [List.any_cons,List.any_cons,ih,h.1]
theorem KV.repl {kvs:List (κ×V)} {vs:List (κ×Value)} (r:KV kvs vs) (k:κ) {y:V} {u:Value} (ry:RelV y u):
 KV (kvs.map fun kv=>if kv.1=k then (kv.1,y) else kv) (vs.map fun kv=>if kv.1=k then (kv.1,u) else kv):=by
 unfold KV at r ⊢
 induction r with
 |nil=>exact .nil
 | @cons p q ps qs h t ih=>
  rw [wZ,wZ]
  refine .cons ?_ ih
  obtain ⟨h1,h2⟩:=h
  by_cases e:p.1=k
  · rw [if_pos e,if_pos (h1.symm.trans e)];exact ⟨h1,ry⟩
  · rw [if_neg e,if_neg (fun z=>e (h1.trans z))];exact ⟨h1,h2⟩
theorem KV.put {kvs:List (κ×V)} {vs:List (κ×Value)} (r:KV kvs vs) (k:κ) {y:V} {u:Value} (ry:RelV y u):KV (putK kvs k y) (stored vs k u):=by
 unfold putK stored
 rw [r.any k]
 by_cases e:(vs.any fun kv=>decide (kv.1=k))=true
 · rw [if_pos e,if_pos e];exact r.repl k ry
 · rw [if_neg e,if_neg e];exact Paired.snoc r ⟨rfl,ry⟩
theorem KV.length {kvs:List (κ×V)} {vs:List (κ×Value)} (r:KV kvs vs):kvs.length=vs.length:=Paired.length r
end
theorem eT {P:Program} {w:World} {k:Key} {u:Value} (r:RelV (kV k) u):(aE P w).is k u=true:=by
 cases k with
 |inl i=>obtain ⟨t,e⟩:=(show∃t,u=Value.int i t from r);subst e;exact jk P w i t
 |inr x=>obtain ⟨t,e⟩:=(show∃t,u=Value.str x t from r);subst e;exact ji P w x t
theorem hW {P:Program} {w:World}:∀ {ks:List Key} {us:List Value},Vals (ks.map kV) us→ItemsAre (aE P w) ks us
 | [],_,r=>by rw [List.map_nil] at r;cases r;exact .nil
 |k::ks,_,r=>by
  rw [wZ] at r
  cases r with
  |cons h t=>exact .cons (eT h) (hW t)
abbrev KT (H:Hp):List (List Key×V)→List (List Key×Addr×Value)→Prop:=Paired fun p q=>p.1=q.1∧H q.2.1=some (.tup (p.1.map kV))∧RelV p.2 q.2.2
theorem KT.val {H:Hp} {kvs:List (List Key×V)} {xs:List (List Key×Addr×Value)} (r:KT H kvs xs) (k:List Key):RelO (valV kvs k) ((atKey xs k).map (·.2)):=by
 induction r with
 |nil=>exact True.intro
 | @cons p q ps qs h t ih=>
  obtain ⟨h1,_,h2⟩:=h
  by_cases e:p.1=k
  · have e':q.1=k:=h1.symm.trans e
    have b:atKey (q::qs) k=some q.2:=by simp [atKey,xM,e']
    rw [br e,b];exact h2
  · have e':¬q.1=k:=fun z=>e (h1.trans z)
    have b:atKey (q::qs) k=atKey qs k:=by simp [atKey,xM,e']
    rw [bt e,b];exact ih
theorem KT.repl {H:Hp} {kvs:List (List Key×V)} {xs:List (List Key×Addr×Value)} (r:KT H kvs xs) (k:List Key) {y:V} {u:Value} (ry:RelV y u):
 KT H (kvs.map fun kv=>if kv.1=k then (kv.1,y) else kv) (xs.map (putAt k u)):=by
 induction r with
 |nil=>exact .nil
 | @cons p q ps qs h t ih=>
  rw [wZ,wZ]
  refine .cons ?_ ih
  obtain ⟨h1,h2,h3⟩:=h
  unfold putAt
  by_cases e:p.1=k
  · rw [if_pos e,if_pos (h1.symm.trans e)];exact ⟨h1,h2,ry⟩
  · rw [if_neg e,if_neg (fun z=>e (h1.trans z))];exact ⟨h1,h2,h3⟩
theorem KT.put {H:Hp} {kvs:List (List Key×V)} {xs:List (List Key×Addr×Value)} (r:KT H kvs xs) (k:List Key) {b:Addr} {y:V} {u:Value} (hb:H b=some (.tup (k.map kV))) (ry:RelV y u):
 KT H (putK kvs k y) (storedH xs k b u):=by
 have e:(kvs.any fun kv=>decide (kv.1=k))=(atKey xs k).isSome:=by
  rw [cf,(r.val k).isSome_eq,Option.isSome_map]
 unfold putK storedH
 rw [e]
 by_cases q:(atKey xs k).isSome=true
 · rw [if_pos q,if_pos q];exact r.repl k ry
 · rw [if_neg q,if_neg q];exact Paired.snoc r ⟨rfl,hb,ry⟩
theorem KT.keeps {H H':Hp} {kvs:List (List Key×V)} {xs:List (List Key×Addr×Value)} (r:KT H kvs xs) (ht:∀b ys,H b=some (.tup ys)→H' b=some (.tup ys)):KT H' kvs xs:=
 Paired.mapP r fun _ _ z=>⟨z.1,ht _ _ z.2.1,z.2.2⟩
section
variable {P:Program} {w:World} {H:Hp} {h:Heap} {a:Addr}
theorem ti {u:HO} (ok:HOk P w H h) (e:Rd H a u):ObjOk P w H h a u:=e.ok ok
theorem i6 {kvs:List (Key×V)} (ok:HOk P w H h) (e:Rd H a (.dK kvs)):kvs.length≤sizeLine∧(a==sysModules)=false∧∃vs,KV kvs vs∧h.DictOf (aE P w) a vs:=
 show ObjOk P w H h a (.dK kvs) from ti ok e
theorem gw {kvs:List (Key×V)} (ok:HOk P w H h) (e:H a=some (.dK kvs)):kvs.length≤sizeLine∧(a==sysModules)=false∧∃vs,KV kvs vs∧h.DictOf (aE P w) a vs:=i6 ok (.inl e)
theorem dk {ks:List Key} (ok:HOk P w H h) (e:H a=some (.tup (ks.map kV))):(tupleKind (aE P w)).is h ks a:=by
 obtain ⟨_,its,r,o,h1,h2,n,h3⟩:=(show ObjOk P w H h a (.tup (ks.map kV)) from ok a _ e)
 exact ⟨o,its.toArray,n,h1,h2,h3,by simpa using hW r⟩
theorem i4 {kvs:List (List Key×V)} (ok:HOk P w H h) (e:Rd H a (.dT kvs)):kvs.length≤sizeLine∧(a==sysModules)=false∧
 ∃xs,KT H kvs xs∧h.DictOfH (tupleKind (aE P w)) a xs:=by
 obtain ⟨z,y,xs,r,o,es,ep,h1,h2,h3,h4,h5⟩:=(show ObjOk P w H h a (.dT kvs) from ti ok e)
 refine ⟨z,y,xs,r,o,es,ep,h1,h2,h3,h4,fun x hx=> ?_,h5⟩
 have all:∀ {l:List (List Key×V)} {m:List (List Key×Addr×Value)},KT H l m→∀x∈m,(tupleKind (aE P w)).is h x.1 x.2.1:=by
  intro l m q
  induction q with
  |nil=>intro x hx;exact nomatch hx
  | @cons p q ps qs hq t ih=>
   intro x hx
   rcases wY.mp hx with e|hx
   · subst e
     exact dk ok (by rw [←hq.1];exact hq.2.1)
   · exact ih x hx
 exact all r x hx
theorem tN {kvs:List (List Key×V)} (ok:HOk P w H h) (e:H a=some (.dT kvs)):kvs.length≤sizeLine∧(a==sysModules)=false∧
 ∃xs,KT H kvs xs∧h.DictOfH (tupleKind (aE P w)) a xs:=i4 ok (.inl e)
end
def DGet (H:Hp) (a:Addr) (y:V) (r:Option V):Prop:=
 (∃kvs k,Rd H a (.dK kvs)∧y=kV k∧r=valV kvs k)∨∃kvs k b,Rd H a (.dT kvs)∧y= .ref b∧H b=some (.tup (k.map kV))∧r=valV kvs k
def DPut (H:Hp) (a:Addr) (y v:V) (H':Hp):Prop:=
 (∃kvs k,H a=some (.dK kvs)∧y=kV k∧kvs.length < sizeLine∧H'=upd H a (.dK (putK kvs k v)))∨
 ∃kvs k b,H a=some (.dT kvs)∧y= .ref b∧H b=some (.tup (k.map kV))∧kvs.length < sizeLine∧H'=upd H a (.dT (putK kvs k v))
theorem DGet.k {H:Hp} {a:Addr} {kvs:List (Key×V)} {k:Key} (e:H a=some (.dK kvs)):DGet H a (kV k) (valV kvs k):= .inl ⟨kvs,k, .inl e,rfl,rfl⟩
theorem DGet.t {H:Hp} {a b:Addr} {kvs:List (List Key×V)} {k:List Key} (e:H a=some (.dT kvs)) (eb:H b=some (.tup (k.map kV))):DGet H a (.ref b) (valV kvs k):= .inr ⟨kvs,k,b, .inl e,rfl,eb,rfl⟩
theorem DPut.k {H:Hp} {a:Addr} {kvs:List (Key×V)} {k:Key} {v:V} (e:H a=some (.dK kvs)) (hl:kvs.length < sizeLine):DPut H a (kV k) v (upd H a (.dK (putK kvs k v))):= .inl ⟨kvs,k,e,rfl,hl,rfl⟩
theorem DPut.t {H:Hp} {a b:Addr} {kvs:List (List Key×V)} {k:List Key} {v:V} (e:H a=some (.dT kvs)) (eb:H b=some (.tup (k.map kV))) (hl:kvs.length < sizeLine):
 DPut H a (.ref b) v (upd H a (.dT (putK kvs k v))):= .inr ⟨kvs,k,b,e,rfl,eb,hl,rfl⟩
section
variable {X:Cx} {pins:List (Addr×Obj)} {σ:St} {H:Hp} {s:Shared} {a:Addr} {y v:V} {u r:Value} {o:Option V} {A:Around} {E:Value→Shared→Prop}
theorem Inv.big (I:Inv X pins σ H s):sysModules < s.heap.objs.size:=by
 have h:mainGlobals < s.heap.objs.size:=(I.mod.glob.keeps I.bk).lt
 exact Nat.lt_trans (by decide) h
theorem nO {Q:Value→Shared→Prop} (hu:A.units+1 < cLine) (I:Inv X pins σ H s) (g:DGet H a y (some v)) (ry:RelV y u) (h:∀w' s',Inv X pins σ H s'→RelV v w'→Q w' s'):
 wpAny (model X.prog X.w) A (getItem (.ref a) u) Q E s:=by
 rcases g with ⟨kvs,k,e,ey,l⟩|⟨kvs,k,b,e,ey,eb,l⟩
 · subst ey
   obtain ⟨z,hd,vs,rel,dd⟩:=i6 I.hok e
   obtain ⟨w',hw,rw'⟩:=RelO.some_of (v:=v) (o:=valueAt vs k) (by rw [l];exact rel.val k)
   exact wpAny_getItem_of (eT ry) dd.mapOf hw (h w' _ (I.tok _) rw')
 · subst ey
   cases (show u=Value.ref b from ry)
   obtain ⟨z,hd,xs,rel,dd⟩:=i4 I.hok e
   obtain ⟨w',hw,rw'⟩:=RelO.some_of (v:=v) (o:=(atKey xs k).map (·.2)) (by rw [l];exact rel.val k)
   obtain ⟨p,hp,hp2⟩:=x5.mp hw
   refine wpAny_getItem_heap (tupleKind_room_in1 hu) (dk I.hok eb) dd hp ?_
   rw [hp2]
   exact h w' _ (I.tok _) rw'
theorem sG {Q:Value→Shared→Prop} (hu:A.units+1 < cLine) (I:Inv X pins σ H s) (g:DGet H a y o) (ry:RelV y u) (h:∀s',Inv X pins σ H s'→Q (.bool (!o.isSome)) s'):
 wpAny (model X.prog X.w) A (compareOp .NotIn u (.ref a)) Q E s:=by
 rcases g with ⟨kvs,k,e,ey,l⟩|⟨kvs,k,b,e,ey,eb,l⟩
 · subst ey
   obtain ⟨z,hd,vs,rel,dd⟩:=i6 I.hok e
   refine wpAny_notIn_of (eT ry) hd dd.mapOf ?_
   rw [←(rel.val k).isSome_eq,←l]
   exact h _ (I.tok _)
 · subst ey
   cases (show u=Value.ref b from ry)
   obtain ⟨z,hd,xs,rel,dd⟩:=i4 I.hok e
   refine wpAny_notIn_heap (tupleKind_room_in1 hu) (dk I.hok eb) hd dd ?_
   have q:=(rel.val k).isSome_eq
   rw [Option.isSome_map] at q
   rw [←q,←l]
   exact h _ (I.tok _)
theorem cW {h':Heap} {t':Nat} {ob:HO} (I:Inv X pins σ H s) (mu:Mut (H a)) (hs:Heap.SameBut a s.heap h') (he:∃q,h'.get? a=some q) (new:ObjOk X.prog X.w (upd H a ob) h' a ob):
 Inv X pins σ (upd H a ob) {s with heap:=h',toks:=t'}:=
 I.write (x:=a) (e:=a) mu (.inl rfl) (fun b q hb z=>(hs.2 b hb).trans z) he new
theorem iR {P:Program} {w:World} {H':Hp} {h':Heap} {kvs:List (Key×V)} {vs:List (Key×Value)} (z:kvs.length≤sizeLine) (hd:(a==sysModules)=false) (rel:KV kvs vs) (dd:h'.DictOf (aE P w) a vs):
 ObjOk P w H' h' a (.dK kvs):=⟨z,hd,vs,rel,dd⟩
theorem nN {H':Hp} {Q:Unit→Shared→Prop} (hu:A.units+1 < cLine) (I:Inv X pins σ H s) (g:DPut H a y v H') (ry:RelV y u) (rv:RelV v r) (h:∀s',Inv X pins σ H' s'→Q () s'):
 wpAny (model X.prog X.w) A (setItem (.ref a) u r) Q E s:=by
 rcases g with ⟨kvs,k,e,ey,l,eH⟩|⟨kvs,k,b,e,ey,eb,l,eH⟩
 · subst ey eH
   obtain ⟨z,hd,vs,rel,dd⟩:=gw I.hok e
   have hz:vs.length≤sizeLine:=by rw [←rel.length];exact z
   have hl:(putK kvs k v).length≤sizeLine:=by have:=be kvs k v;omega
   refine wpAny_setItem_pairs (hsz:=hz) (eT ry) dd fun h' dd' hs=>h _ ?_
   have he:∃q,h'.get? a=some q:=let ⟨q,_,_,hq,_⟩:=dd';⟨q,hq⟩
   exact cW I (by rw [e];exact True.intro) hs he (iR hl hd (rel.put k rv) dd')
 · subst ey eH
   cases (show u=Value.ref b from ry)
   obtain ⟨z,hd,xs,rel,dd⟩:=tN I.hok e
   have hz:xs.length≤sizeLine:=by rw [←Paired.length rel];exact z
   have hl:(putK kvs k v).length≤sizeLine:=by have:=be kvs k v;omega
   refine wpAny_setItem_heap (hsz:=hz) (tupleKind_room_in1 hu) (dk I.hok eb) dd fun h' dd' hs=>h _ ?_
   obtain ⟨q,es,ep,hq,h2,h3,h4,_,h5⟩:=dd'
   refine cW I (by rw [e];exact True.intro) hs ⟨q,hq⟩ ⟨hl,hd,_,(rel.put k eb rv).keeps fun c ys ec=> ?_,q,es,ep,hq,h2,h3,h4,h5⟩
   rw [af (tH ec e (fun z=>nomatch z))]
   exact ec
end
section
variable {X:Cx} {pins:List (Addr×Obj)} {σ:St} {H:Hp} {s:Shared} {a:Addr} {kvs:List (Key×V)} {k:Key} {u:Value} {A:Around} {E:Value→Shared→Prop}
end
def NoSl (i:Expr):Prop:=∀ov iv,subscripted i false ov iv=operate [ov,iv] (getItem ov iv)
theorem qW {prog:Program} {w:World} {A:Around} {E:Value→Shared→Prop} {s:Shared} {env:Env} {value slice:Expr} {pos:Pos} {T id:String} {Q:Value→Shared→Prop}
 (hl:typeLookup (.type T) "__getitem__"=pure (some (.builtin id))) (hs:NoSl slice)
 (h:wpAny (model prog w) A (eval value env) (fun o s₁=>wpAny (model prog w) A (eval slice env) (fun i s₂=>s₂.TypeIs o T∧wpAny (model prog w) A (getItem o i) Q E s₂) E s₁) E s):
 wpAny (model prog w) A (eval (.Subscript value slice pos) env) Q E s:=by
 refine Subscript_ (wpAny_mono h (fun o s₁ h₁=>wpAny_mono h₁ (fun i s₂ h₂=> ?_) fun _ _ x=>x) fun _ _ x=>x)
 obtain ⟨hT,h₂⟩:=h₂
 unfold subscriptTail
 refine wpAny_bind ?_
 rw [getitemInPython_of_ne hT.not_modules]
 refine wpAny_bind (wpAny_specialOf hT hl ?_)
 have fin:wpAny (model prog w) A (subscripted slice false o i) (fun r s₃=>wpAny (model prog w) A (letTemporaryGo value o r >>=fun _=>pure r) Q E s₃) E s₂:=by
  rw [hs o i]
  exact wpAny_operating (wpAny_mono h₂ (fun r s₃ h₃=>wpAny_bind (wpAny_letTemporaryGo (wpAny_pure h₃))) fun _ _ x=>x)
 first
  |exact wpAny_pure (wpAny_bind fin)
  |exact wpAny_bind (wpAny_pure (wpAny_bind fin))
  |exact wpAny_bind fin
theorem jy {X:Cx} {pins:List (Addr×Obj)} {σ:St} {H:Hp} {s:Shared} {a:Addr} {y:V} {o:Option V} (I:Inv X pins σ H s) (g:DGet H a y o):s.TypeIs (.ref a) "dict":=by
 rcases g with ⟨kvs,k,e,_,_⟩|⟨kvs,k,b,e,_,_,_⟩
 · obtain ⟨_,_,vs,_,dd⟩:=i6 I.hok e
   exact dd.typeIs
 · obtain ⟨_,_,xs,_,dd⟩:=i4 I.hok e
   exact dd.typeIs
def vG (td ty:TE):TE:=fun σ H Q=>td σ H fun x H1=>ty σ H1 fun y H2=>∃a v,x= .ref a∧DGet H2 a y (some v)∧Q v H2
def qV (ty td:TE):TE:=fun σ H Q=>ty σ H fun y H1=>td σ H1 fun x H2=>∃a o,x= .ref a∧DGet H2 a y o∧Q (.bl (!o.isSome)) H2
def vR (td ty tv:TE):TS:=fun D σ H=>tv σ H fun v H1=>td σ H1 fun x H2=>ty σ H2 fun y H3=>∃a H4,x= .ref a∧DPut H3 a y v H4∧D.nx σ H4
section
variable {X:Cx} {o i e value:Expr} {pos pos' tpos:Pos} {td ty tv:TE}
theorem b8 (hu:X.A.units+1 < cLine) (ho:PE X o td) (hi:PE X i ty) (hs:NoSl i):PE X (.Subscript o i pos) (vG td ty):=by
 intro pins s σ H Q I h
 refine qW PySem.F.slot_dict_getitem.lookup hs (thn (ho pins s σ H _ I h) fun u s1 ⟨x,H1,I1,rx,q1⟩=>thn (hi pins s1 σ H1 _ I1 q1) fun iv s2 ⟨y,H2,I2,ry,a,v,ex,g,q2⟩=> ?_)
 subst ex
 obtain rfl:u=Value.ref a:=rx
 exact ⟨jy I2 g,nO hu I2 g ry fun w' s3 I3 rw'=>⟨v,H2,I3,rw',q2⟩⟩
theorem eD (hu:X.A.units+1 < cLine) (hi:PE X i ty) (ho:PE X o td):PC X .NotIn i o (qV ty td):=by
 intro pins s σ H Q I h
 refine thn (hi pins s σ H _ I h) fun iv s1 ⟨y,H1,I1,ry,q1⟩=>thn (ho pins s1 σ H1 _ I1 q1) fun u s2 ⟨x,H2,I2,rx,a,ov,ex,g,q2⟩=> ?_
 subst ex
 obtain rfl:u=Value.ref a:=rx
 exact sG hu I2 g ry fun s3 I3=>⟨.bl (!ov.isSome),H2,I3,rfl,q2⟩
theorem cU (hu:X.A.units+1 < cLine) (ho:PE X o td) (hi:PE X i ty) (hv:PE X value tv) (hs:swapsWith value (some (.Subscript o i pos')) pos.line X.env=pure false):
 PS X (.Assign [.Subscript o i pos'] value pos) (vR td ty tv):=by
 intro pins s σ H D I h
 refine wpAny_Assign_Subscript (thn (hv pins s σ H _ I h) fun r s1 ⟨v,H1,I1,rv,q1⟩=>thn (ho pins s1 σ H1 _ I1 q1) fun u s2 ⟨x,H2,I2,rx,q2⟩=>thn (hi pins s2 σ H2 _ I2 q2) fun iv s3 ⟨y,H3,I3,ry,a,H4,ex,g,q3⟩=> ?_) hs
 subst ex
 obtain rfl:u=Value.ref a:=rx
 exact nN hu I3 g ry rv fun s4 I4=>⟨σ,H4,I4,q3⟩
end
theorem gx {P:Program} {w:World} {H:Hp} (h:Heap) (hb:sysModules < h.objs.size):ObjOk P w H (h.push {cls:= .type "dict",data:= .dict #[]}) h.objs.size (.dK []):=
 ⟨xo _,beq_eq_false_iff_ne.mpr (Ne.symm (wW hb)),[], .nil,Heap.DictOf.new h⟩
theorem qk {P:Program} {w:World} {H:Hp} (h:Heap) (hb:sysModules < h.objs.size):ObjOk P w H (h.push {cls:= .type "dict",data:= .dict #[]}) h.objs.size (.dT []):=
 ⟨xo _,beq_eq_false_iff_ne.mpr (Ne.symm (wW hb)),[], .nil,_, #[],0,Heap.get?_push_size _ rfl,⟨rfl,rfl,rfl⟩,rfl,rfl,xO⟩
def ul:TE:=fun _ H Q=>∀p,H p=none→Q (.ref p) (upd H p (.dK []))
section
variable {X:Cx} {pos:Pos}
theorem dR:PE X (.Dict [] [] pos) ul:=fun pins s σ H Q I h=>
 wpAny_Dict_empty ⟨.ref s.heap.objs.size,_,I.laid (a:=s.heap.objs.size) (o:= .dK []) (t':=s.toks) (fun _ _ q=>Heap.get?_push_of_some _ q) (wO _) (gx s.heap I.big),rfl,h _ (I.hok.fresh (wO _))⟩
end
def jR:List (TE×TE)→St→Hp→(List (V×V)→Hp→Prop)→Prop
 | [],_,H,Q=>Q [] H
 |(tk,tv)::r,σ,H,Q=>tk σ H fun x H1=>tv σ H1 fun y H2=>jR r σ H2 fun ps H3=>Q ((x,y)::ps) H3
abbrev VV:List (V×V)→List (Value×Value)→Prop:=Paired fun p q=>RelV p.1 q.1∧RelV p.2 q.2
def PPs (X:Cx) (pos:Pos) (keys:List (Option Expr)) (values:List Expr) (trs:List (TE×TE)):Prop:=
 ∀(pins:List (Addr×Obj)) (s:Shared) (σ:St) (H:Hp) (Q:List (V×V)→Hp→Prop),Inv X pins σ H s→jR trs σ H Q→
  wpAny (model X.prog X.w) X.A (evalPairs (pairTrees keys values X.env pos)) (fun vs s'=>∃ps H',Inv X pins σ H' s'∧VV ps vs∧Q ps H') X.xe s
theorem lH {X:Cx} {pos:Pos}:PPs X pos [] [] []:=fun pins s σ H Q I h=>pairTrees_nil_walk ⟨[],H,I, .nil,h⟩
theorem jb {X:Cx} {pos:Pos} {k v:Expr} {ks:List (Option Expr)} {vs:List Expr} {tk tv:TE} {trs:List (TE×TE)} (hk:PE X k tk) (hv:PE X v tv) (hr:PPs X pos ks vs trs):
 PPs X pos (some k::ks) (v::vs) ((tk,tv)::trs):=fun pins s σ H Q I h=>
 pairTrees_cons_walk (thn (hk pins s σ H _ I h) fun u s1 ⟨x,H1,I1,rx,q1⟩=>thn (hv pins s1 σ H1 _ I1 q1) fun w2 s2 ⟨y,H2,I2,ry,q2⟩=>
  thn (hr pins s2 σ H2 _ I2 q2) fun ws s3 ⟨ps,H3,I3,rel,q3⟩=>⟨(x,y)::ps,H3,I3, .cons ⟨rx,ry⟩ rel,q3⟩)
noncomputable def dh (kvs more:List (Key×V)):List (Key×V):=more.foldl (fun acc kv=>putK acc kv.1 kv.2) kvs
theorem KV.merge:∀ {more:List (Key×V)} {rs:List (Key×Value)} {kvs:List (Key×V)} {vs:List (Key×Value)},KV more rs→KV kvs vs→KV (dh kvs more) (merged vs rs):=by
 intro more rs kvs vs r
 unfold KV at r
 induction r generalizing kvs vs with
 |nil=>intro q;exact q
 | @cons p q ps qs h t ih=>
  intro r0
  have e:KV (putK kvs p.1 p.2) (stored vs q.1 q.2):=by
   have:=r0.put p.1 h.2
   rw [←h.1];exact this
  exact ih e
theorem dz:∀(more kvs:List (Key×V)),(dh kvs more).length≤kvs.length+more.length
 | [],kvs=>by show kvs.length≤kvs.length+0;omega
 |p::r,kvs=>by
  have h1:=dz r (putK kvs p.1 p.2)
  have h2:=be kvs p.1 p.2
  show (dh (putK kvs p.1 p.2) r).length≤_
  rw [wV];omega
theorem gC {P:Program} {w:World}:∀ {kvs:List (Key×V)} {ws:List (Value×Value)},VV (kvs.map fun kv=>(kV kv.1,kv.2)) ws→∃rs,Carries (aE P w) ws rs∧KV kvs rs
 | [],_,r=>by rw [List.map_nil] at r;cases r;exact ⟨[],True.intro, .nil⟩
 |p::kvs,_,r=>by
  rw [wZ] at r
  cases r with
  | @cons a b as bs h t=>
   obtain ⟨rs,c,q⟩:=gC (P:=P) (w:=w) t
   obtain ⟨b1,b2⟩:=b
   exact ⟨(p.1,b2)::rs,⟨eT h.1,rfl,c⟩, .cons ⟨rfl,h.2⟩ q⟩
def vF (trs:List (TE×TE)):TE:=fun σ H Q=>∀p,H p=none→jR trs σ (upd H p (.dK [])) fun ps H2=>H2 p=some (.dK [])∧∃kvs:List (Key×V),ps=kvs.map (fun kv=>(kV kv.1,kv.2))∧kvs.length≤15∧Q (.ref p) (upd H2 p (.dK (dh [] kvs)))
theorem rD {X:Cx} {pos:Pos} {keys:List (Option Expr)} {values:List Expr} {trs:List (TE×TE)} (h:PPs X pos keys values trs) (hall:keys.all (·.isSome)=true) (hl:keys.length=values.length) (h0:keys≠ [])
 (h15:keys.length≤15):PE X (.Dict keys values pos) (vF trs):=by
 intro pins s σ H Q I q
 have hn:=I.hok.fresh (wO s.heap.objs.size)
 have I1:=I.laid (a:=s.heap.objs.size) (o:= .dK []) (h':=s.heap.push {cls:= .type "dict",data:= .dict #[]}) (t':=s.toks) (fun _ _ q=>Heap.get?_push_of_some _ q) (wO _) (gx s.heap I.big)
 refine wpAny_Dict_walk (knd:=aE X.prog X.w) hall hl h0 h15 (thn (h pins _ σ _ _ I1 (q _ hn)) fun ws s2 ⟨ps,H2,I2,rel,e,kvs,ep,lk,q2⟩=> ?_)
 subst ep
 obtain ⟨rs,c,rk⟩:=gC (P:=X.prog) (w:=X.w) rel
 obtain ⟨z,hd,vs0,r0,dd⟩:=gw I2.hok e
 cases r0
 refine ⟨rs,c,dd,fun h' dd' hs=>⟨.ref s.heap.objs.size,_,?_,rfl,q2⟩⟩
 have hz:(dh [] kvs).length≤sizeLine:=by
  have h1:=dz kvs []
  rw [xS] at h1
  rw [sizeLine_eq];omega
 have he:∃q,h'.get? s.heap.objs.size=some q:=let ⟨q,_,_,hq,_⟩:=dd';⟨q,hq⟩
 exact cW I2 (by rw [e];exact True.intro) hs he (iR hz hd (rk.merge .nil) dd')
structure M2 (X:Cx) (o:Expr) (m:Str) (apos:Pos) (e f:Expr) (cpos:Pos):Prop where
 base:attributeBase o m X.env (eval o X.env)=eval o X.env
 few:((backTo cpos (starEach [e,f] X.env)).all (fun x=> !x.1)&& (backToKw cpos (keywordEach [] X.env)).all (fun x=>x.1.isSome)
  &&decide (([e,f]:List Expr).length+([]:List Keyword).length+(if ([]:List Keyword).isEmpty then 0 else 1) < 30))=true
 line:(apos.endLine==cpos.line)=true
 trees:backTo cpos (starEach [e,f] X.env)= [(false,eval e X.env),(false,eval f X.env)]
def IsD (H:Hp) (a:Addr):Prop:=(∃kvs,Rd H a (.dK kvs))∨∃kvs,Rd H a (.dT kvs)
theorem vp {X:Cx} {pins:List (Addr×Obj)} {σ:St} {H:Hp} {s:Shared} {a:Addr} (I:Inv X pins σ H s) (d:IsD H a):
 s.TypeIs (.ref a) "dict"∧(∀b,Value.ref a= .ref b→∃ob,s.heap.get? b=some ob∧ob.dict=none)∧(a==sysModules)=false:=by
 rcases d with ⟨kvs,e⟩|⟨kvs,e⟩
 · obtain ⟨_,hd,vs,_,dd⟩:=i6 I.hok e
   refine ⟨dd.typeIs,fun b q=> ?_,hd⟩
   cases q
   obtain ⟨ob,_,_,h1,h2,_⟩:=dd
   exact ⟨ob,h1,h2.2.1⟩
 · obtain ⟨_,hd,xs,_,dd⟩:=i4 I.hok e
   refine ⟨dd.typeIs,fun b q=> ?_,hd⟩
   cases q
   obtain ⟨ob,_,_,h1,h2,_⟩:=dd
   exact ⟨ob,h1,h2.2.1⟩
section
variable {X:Cx} {pins:List (Addr×Obj)} {σ:St} {H:Hp} {s:Shared} {a:Addr} {y d:V} {u r:Value} {o:Option V} {A:Around} {E:Value→Shared→Prop}
theorem vt {Q:Value→Shared→Prop} (hu:A.units+1 < cLine) (I:Inv X pins σ H s) (g:DGet H a y o) (ry:RelV y u) (rd:RelV d r) (h:∀w' s',Inv X pins σ H s'→RelV (o.getD d) w'→Q w' s'):
 wpAny (model X.prog X.w) A (call (.builtin "dict.get") [.ref a,u,r]) Q E s:=by
 rcases g with ⟨kvs,k,e,ey,l⟩|⟨kvs,k,b,e,ey,eb,l⟩
 · subst ey
   obtain ⟨z,hd,vs,rel,dd⟩:=i6 I.hok e
   refine call_meetsIn PySem.F.slot_dict_get dd.typeIs PySem.F.entry_dict_get (PySem.F.args_dict_get_3 _ _ _) (meets_dict_get_default (aE X.prog X.w) a (eT ry) hd r) ⟨_,dd.mapOf,h _ _ (I.tok _) ?_⟩
   rw [l]
   exact (rel.val k).getD rd
 · subst ey
   cases (show u=Value.ref b from ry)
   obtain ⟨z,hd,xs,rel,dd⟩:=i4 I.hok e
   refine call_meetsIn PySem.F.slot_dict_get dd.typeIs PySem.F.entry_dict_get (PySem.F.args_dict_get_3 _ _ _) (meetsH_dict_get_default (tupleKind (aE X.prog X.w)) a b hd r) ⟨tupleKind_room_in1 hu,k,xs,dk I.hok eb,dd,h _ _ (I.tok _) ?_⟩
   rw [l]
   exact (rel.val k).getD rd
end
def um (td ty tx:TE):TE:=fun σ H Q=>td σ H fun x H1=>∃a,x= .ref a∧IsD H1 a∧ty σ H1 fun y H2=>tx σ H2 fun z H3=>∃o,DGet H3 a y o∧Q (o.getD z) H3
section
variable {X:Cx} {o e f:Expr} {apos cpos:Pos} {td ty tx:TE}
theorem pb (hu:X.A.units+1 < cLine) (ho:PE X o td) (he:PE X e ty) (hf:PE X f tx) (m:M2 X o "get" apos e f cpos):PE X (.Call (.Attribute o "get" apos) [e,f] [] cpos) (um td ty tx):=by
 intro pins s σ H Q I h
 refine wpAny_Call_method m.base m.few m.line PySem.F.plainAttrs_dict PySem.F.slot_dict_get PySem.F.type_dict_get (thn (ho pins s σ H _ I h) fun u s1 ⟨x,H1,I1,rx,a,ex,d,q1⟩=> ?_)
 subst ex
 obtain rfl:u=Value.ref a:=rx
 obtain ⟨t1,t2,_⟩:=vp I1 d
 refine ⟨t1,t2,?_⟩
 rw [m.trees]
 refine Calls.callWith_builtin rfl (Calls.evalArgs_plain (Calls.spliced_cons (thn (he pins s1 σ H1 _ I1 q1) fun iv s2 ⟨y,H2,I2,ry,q2⟩=>
  Calls.spliced_cons (thn (hf pins s2 σ H2 _ I2 q2) fun fv s3 ⟨z,H3,I3,rz,ov,g,q3⟩=>Calls.spliced_nil ?_))))
 exact vt hu I3 g ry rz fun w' s4 I4 rw'=>⟨_,H3,I4,rw',q3⟩
end
section
variable {X:Cx} {pins:List (Addr×Obj)} {σ:St} {H:Hp} {s:Shared} {a:Addr} {kvs:List (Key×V)} {A:Around} {E:Value→Shared→Prop}
end
section
variable {X:Cx} {pins:List (Addr×Obj)} {σ:St} {H:Hp} {s:Shared} {a:Addr} {y:V} {u:Value} {A:Around} {E:Value→Shared→Prop}
end
open PySem PySem.Spec PyProof.Rows
def ii (J:It) (D:Addr) (te:TE) (rest:L2.St) (Q:VK) (H1:Hp):Prop:=
 ∃W:Nat→Nat→List V→Hp→Prop,(∃m,W 0 m [] (upd H1 D (.lst [])))∧∀i m acc H2,W i m acc H2→
  (J.stop i H2∧Q (.ref D) H2)∨
  (J.go i H2∧∀x H3,J.yld i H2 x H3→cw 0 x (none::rest) H3 fun σ4 H4=>Ext (none::rest) σ4∧dr σ4 H4 fun b H5=>if b=true then te σ4 H5 fun v H6=>H6 D=some (.lst acc)∧acc.length < sizeLine∧∃m',m' < m∧W (i+1) m' (acc++ [v]) (upd H6 D (.lst (acc++ [v])))
   else∃m',m' < m∧W (i+1) m' acc H5)
theorem bw {mp:List (Option Nat)} {wi:TI} {te:TE} {σ rest:L2.St} {H:Hp} {Q:VK} (e:subS mp σ=none::rest) (h:wi σ H fun J H1=>∀D,H1 D=none→ii J D te rest Q H1):dL mp wi (cw 0) dr te σ H Q:=by
 unfold dL
 rw [e]
 exact h
theorem qQ {mp:List (Option Nat)} {wi:TI} {te:TE} {u:TS} {Z:Ends} {i:Nat} {σ rest:L2.St} {H:Hp} (e:subS mp σ=none::rest) (h:wi σ H fun J H1=>∀D,H1 D=none→ii J D te rest (fun x H2=>cw i x σ H2 (u Z)) H1):
 tSeq (tAsg (dL mp wi (cw 0) dr te) (cw i)) u Z σ H:=bw e h
def CompN (n i:Nat) (D:Addr) (acc:List V) (Pv:Nat→List V→Hp→Prop):VK:=fun v H6=>H6 D=some (.lst acc)∧acc.length < sizeLine∧∃m',m' < n - i∧(m'=n - (i+1)∧i+1≤n∧Pv (i+1) (acc++ [v]) (upd H6 D (.lst (acc++ [v]))))
theorem CompN.mk {n i:Nat} {D:Addr} {acc:List V} {Pv:Nat→List V→Hp→Prop} {v:V} {H6:Hp} (hi:i < n) (hl:acc.length < sizeLine) (h1:H6 D=some (.lst acc)) (h2:Pv (i+1) (acc++ [v]) (upd H6 D (.lst (acc++ [v])))):CompN n i D acc Pv v H6:=
 ⟨h1,hl,n - (i+1),by omega,rfl,hi,h2⟩
theorem iS {J:It} {D:Addr} {te:TE} {rest:L2.St} {Q:VK} {H1:Hp} (n:Nat) (Pv:Nat→List V→Hp→Prop) (h0:Pv 0 [] (upd H1 D (.lst [])))
 (hgo:∀i acc H,i < n→Pv i acc H→J.go i H)
 (hs:∀i x acc H H',i < n→Pv i acc H→J.yld i H x H'→te (some x::rest) H' (CompN n i D acc Pv))
 (hd:∀acc H,Pv n acc H→J.stop n H∧Q (.ref D) H):ii J D te rest Q H1:=by
 refine ⟨fun i m acc H=>m=n - i∧i≤n∧Pv i acc H,⟨n,by simp,xo _,h0⟩,?_⟩
 rintro i m acc H ⟨rfl,hi,p⟩
 by_cases hlt:i < n
 · refine .inr ⟨hgo i acc H hlt p,fun x H' y=> ?_⟩
   refine ⟨ext1,?_⟩
   show (if true=true then te (some x::rest) H' (CompN n i D acc Pv) else∃m',m' < n - i∧(m'=n - (i+1)∧i+1≤n∧Pv (i+1) acc H'))
   exact iteT (hs i x acc H H' hlt p y)
 · have e:i=n:=by omega
   subst e
   exact .inl (hd acc H p)
theorem dZ {K:PySem.W.Frag} {a D:Addr} {xs:List V} {te:TE} {rest:L2.St} {Q:VK} {H1:Hp} (Pv:Nat→List V→Hp→Prop) (h0:Pv 0 [] (upd H1 D (.lst [])))
 (hl:∀i acc H,Pv i acc H→SqT K H a xs)
 (hs:∀i x acc H,i < xs.length→xs[i]?=some x→Pv i acc H→te (some x::rest) H (CompN xs.length i D acc Pv))
 (hd:∀acc H,Pv xs.length acc H→Q (.ref D) H):ii (Itt K a) D te rest Q H1:=by
 refine iS xs.length Pv h0 (fun i acc H hi p=>⟨xs,xs[i],hl i acc H p,by simp [hi]⟩) (fun i x acc H H' hi p y=> ?_) fun acc H p=>⟨⟨xs,hl _ acc H p,wO _⟩,hd acc H p⟩
 obtain ⟨e,y⟩:=y
 subst e
 exact hs i x acc _ hi (y xs (hl i acc _ p)) p
theorem cC {K:PySem.W.Frag} {a D:Addr} {xs:List V} {te:TE} {rest:L2.St} {Q:VK} {H1:Hp} (Pv:Nat→List V→Hp→Prop) (h0:Pv 0 [] (upd H1 D (.lst [])))
 (hl:∀i acc H,Pv i acc H→SqL K H a xs)
 (hs:∀i x acc H,i < xs.length→xs[i]?=some x→Pv i acc H→te (some x::rest) H (CompN xs.length i D acc Pv))
 (hd:∀acc H,Pv xs.length acc H→Q (.ref D) H):ii (Itl K a) D te rest Q H1:=by
 refine iS xs.length Pv h0 (fun i acc H hi p=>⟨xs,xs[i],hl i acc H p,by simp [hi]⟩) (fun i x acc H H' hi p y=> ?_) fun acc H p=>⟨⟨xs,hl _ acc H p,wO _⟩,hd acc H p⟩
 obtain ⟨e,y⟩:=y
 subst e
 exact hs i x acc _ hi (y xs (hl i acc _ p)) p
theorem kM {n:Nat} {D:Addr} {te:TE} {rest:L2.St} {Q:VK} {H1:Hp} (Pv:Nat→List V→Hp→Prop) (h0:Pv 0 [] (upd H1 D (.lst [])))
 (hs:∀(i:Nat) acc H,i < n→Pv i acc H→te (some (.int (0+(i:Int)))::rest) H (CompN n i D acc Pv))
 (hd:∀acc H,Pv n acc H→Q (.ref D) H):ii (Itr 0 n) D te rest Q H1:=by
 refine iS n Pv h0 (fun i acc H hi p=>hi) (fun i x acc H H' hi p y=> ?_) fun acc H p=>⟨wO _,hd acc H p⟩
 obtain ⟨e,y⟩:=y
 subst e y
 exact hs i acc _ hi p
end L2
namespace Dj
open PySem PySem.Spec PyProof.Rows L2 Tre
def SqX (K:PySem.W.Frag) (H:Hp) (a:Addr) (xs:List V):Prop:=
 H a=some (.tup xs)∨∃(o:Obj) (its:Array Value) (n:Nat),K.lookup a=some o∧o.cls= .type "tuple"∧o.data= .seq its n∧its.size≤sizeLine∧Vals xs its.toList
theorem SqX.mono {K:PySem.W.Frag} {H H':Hp} {a:Addr} {xs:List V} (d:Kd H H') (h:SqX K H a xs):SqX K H' a xs:=h.elim (fun e=> .inl (d.tup _ _ e)) .inr
mutual
def KVt (K:PySem.W.Frag) (H:Hp):V→Tk.KT→Prop
 |v, .lf (.inl i)=>v= .int i
 |v, .lf (.inr x)=>v= .str x
 |v, .tp ts=>∃r vs,v= .ref r∧SqX K H r vs∧KVts K H vs ts
def KVts (K:PySem.W.Frag) (H:Hp):List V→List Tk.KT→Prop
 |vs,[]=>vs= []
 |vs,t::ts=>∃v r,vs=v::r∧KVt K H v t∧KVts K H r ts
end
section
variable {P:Program} {w:World} {K:PySem.W.Frag} {H H':Hp} {h:Heap}
mutual
theorem KVt.mono (d:Kd H H'):∀ {v:V} {t:Tk.KT},KVt K H v t→KVt K H' v t
 |v, .lf (.inl i),a=>by unfold KVt at a ⊢;exact a
 |v, .lf (.inr x),a=>by unfold KVt at a ⊢;exact a
 |v, .tp ts,a=>by
  unfold KVt at a ⊢
  obtain ⟨r,vs,e,s,q⟩:=a
  exact ⟨r,vs,e,s.mono d,KVts.mono d q⟩
theorem KVts.mono (d:Kd H H'):∀ {vs:List V} {ts:List Tk.KT},KVts K H vs ts→KVts K H' vs ts
 |vs,[],a=>by unfold KVts at a ⊢;exact a
 |vs,t::ts,a=>by
  unfold KVts at a ⊢
  obtain ⟨v,r,e,a1,a2⟩:=a
  exact ⟨v,r,e,KVt.mono d a1,KVts.mono d a2⟩
end
theorem uq (ok:HOk P w H h) (kin:K.In h) {q:Addr} {vs:List V} (e:SqX K H q vs):∃its:List Value,Vals vs its∧∃o n,h.get? q=some o∧o.cls= .type "tuple"∧o.data= .seq its.toArray n:=by
 rcases e with e|⟨o,its,n,hk,hc,hs,hz,r⟩
 · obtain ⟨_,its,rv,o,h1,h2,n,h3⟩:=(show ObjOk P w H h q (.tup vs) from ok q _ e)
   exact ⟨its,rv,o,n,h1,h2,h3⟩
 · exact ⟨its.toList,r,o,n,kin q o hk,hc,by simpa using hs⟩
mutual
theorem pQ (ok:HOk P w H h) (kin:K.In h):∀ {v:V} {t:Tk.KT} {u:Value},KVt K H v t→RelV v u→Tk.KAt h u t
 |v, .lf (.inl i),u,a,r=>by
  unfold KVt at a
  subst a
  obtain ⟨t,rfl⟩:=r
  simp only [Tk.KAt]
  exact hV i t
 |v, .lf (.inr x),u,a,r=>by
  unfold KVt at a
  subst a
  obtain ⟨t,rfl⟩:=r
  simp only [Tk.KAt]
  exact hJ x t
 |v, .tp ts,u,a,r=>by
  unfold KVt at a
  obtain ⟨q,vs,rfl,e,as⟩:=a
  obtain rfl:u=Value.ref q:=r
  obtain ⟨its,rv,o,n,h1,h2,h3⟩:=uq ok kin e
  simp only [Tk.KAt]
  exact ⟨q,o,its.toArray,n,rfl,h1,h2,h3,by simpa using lX ok kin as rv⟩
theorem lX (ok:HOk P w H h) (kin:K.In h):∀ {vs:List V} {ts:List Tk.KT} {us:List Value},KVts K H vs ts→Vals vs us→Tk.KsAt h us ts
 |vs,[],us,a,r=>by
  unfold KVts at a
  subst a
  cases r
  simp [Tk.KsAt]
 |vs,t::ts,us,a,r=>by
  unfold KVts at a
  obtain ⟨v,q,rfl,a1,a2⟩:=a
  cases r with
  |cons r1 r2=>
   simp only [Tk.KsAt]
   exact ⟨_,_,rfl,pQ ok kin a1 r1,lX ok kin a2 r2⟩
end
end
def KeyAt (K:PySem.W.Frag) (H:Hp) (k:List Tk.KT) (b:Addr):Prop:=∃vs,SqX K H b vs∧KVts K H vs k∧(Tk.KT.tp k).depth≤8
theorem KeyAt.mono {K:PySem.W.Frag} {H H':Hp} {k:List Tk.KT} {b:Addr} (d:Kd H H') (h:KeyAt K H k b):KeyAt K H' k b:=by
 obtain ⟨ts,h1,h2,h3⟩:=h
 exact ⟨ts,h1.mono d,h2.mono d,h3⟩
theorem KeyAt.is {P:Program} {w:World} {K:PySem.W.Frag} {H:Hp} {h:Heap} {k:List Tk.KT} {b:Addr} (ok:HOk P w H h) (kin:K.In h) (x:KeyAt K H k b):(Tk.treeKind P w).is h k b:=by
 obtain ⟨vs,h1,h2,h4⟩:=x
 have:=pQ ok kin (v:= .ref b) (t:= .tp k) (u:= .ref b) (by unfold KVt;exact ⟨b,vs,rfl,h1,h2⟩) rfl
 exact ⟨this,h4⟩
abbrev Ent:=List Tk.KT×Addr×V
abbrev RE:List Ent→List (List Tk.KT×Addr×Value)→Prop:=Paired fun p q=>p.1=q.1∧p.2.1=q.2.1∧RelV p.2.2 q.2.2
noncomputable def dJ (P:Program) (w:World) (a:Addr) (kvs:List Ent):HO:= .ext fun h=>kvs.length≤sizeLine∧(a==sysModules)=false∧
 ∃xs:List (List Tk.KT×Addr×Value),RE kvs xs∧∃o es ep,h.get? a=some o∧o.ExactDict∧o.data= .dict es ep∧es.toList=xs.map (entryOfKey (Tk.treeKind P w))∧(xs.map (·.1)).Nodup
structure DJ (P:Program) (w:World) (K:PySem.W.Frag) (H:Hp) (a:Addr) (kvs:List Ent):Prop where
 at_:H a=some (dJ P w a kvs)
 keys:∀p∈kvs,KeyAt K H p.1 p.2.1
noncomputable def valJ (kvs:List Ent) (k:List Tk.KT):Option V:=(kvs.find? fun p=>decide (p.1=k)).map (·.2.2)
noncomputable def putJ (kvs:List Ent) (k:List Tk.KT) (b:Addr) (v:V):List Ent:=
 if (valJ kvs k).isSome then kvs.map (fun p=>if p.1=k then (p.1,p.2.1,v) else p) else kvs++ [(k,b,v)]
theorem valJ_nil {k:List Tk.KT}:valJ [] k=none:=rfl
theorem bZ {p:Ent} {r:List Ent} {k:List Tk.KT} (e:p.1=k):valJ (p::r) k=some p.2.2:=by simp [valJ,xM,e]
theorem c5 {p:Ent} {r:List Ent} {k:List Tk.KT} (e:¬p.1=k):valJ (p::r) k=valJ r k:=by simp [valJ,xM,e]
theorem iY (k j:List Tk.KT) (y:V):∀kvs:List Ent,valJ (kvs.map fun p=>if p.1=k then (p.1,p.2.1,y) else p) j=(valJ kvs j).map fun x=>if j=k then y else x
 | []=>rfl
 |p::r=>by
  have ih:=iY k j y r
  rw [wZ]
  by_cases h:p.1=k
  · rw [if_pos h]
    by_cases e:p.1=j
    · rw [bZ (p:=(p.1,p.2.1,y)) e,bZ e,xF,if_pos (e.symm.trans h)]
    · rw [c5 (p:=(p.1,p.2.1,y)) e,c5 e,ih]
  · rw [if_neg h]
    by_cases e:p.1=j
    · rw [bZ (p:=p) e,bZ e,xF,if_neg (fun z=>h (e.trans z))]
    · rw [c5 (p:=p) e,c5 e,ih]
theorem gS (k j:List Tk.KT) (b:Addr) (y:V):∀kvs:List Ent,valJ kvs k=none→valJ (kvs++ [(k,b,y)]) j=if j=k then some y else valJ kvs j
 | [],_=>by
  by_cases e:k=j
  · rw [if_pos e.symm];exact bZ (p:=(k,b,y)) e
  · rw [if_neg (fun z=>e z.symm)];exact c5 (p:=(k,b,y)) e
 |p::r,hn=>by
  rw [xW]
  have hk:¬p.1=k:=fun z=>by rw [bZ z] at hn;cases hn
  rw [c5 hk] at hn
  have ih:=gS k j b y r hn
  by_cases e:p.1=j
  · rw [bZ e,bZ e,if_neg (fun z=>hk (e.trans z))]
  · rw [c5 e,c5 e,ih]
theorem valJ_put (kvs:List Ent) (k j:List Tk.KT) (b:Addr) (y:V):valJ (putJ kvs k b y) j=if j=k then some y else valJ kvs j:=by
 unfold putJ
 cases q:valJ kvs k with
 |none=>rw [if_neg (by simp)];exact gS k j b y kvs q
 |some x=>
  rw [if_pos (by rfl),iY]
  by_cases e:j=k
  · rw [if_pos e,e,q,xF,if_pos rfl]
  · rw [if_neg e]
    cases valJ kvs j with
    |none=>rfl
    |some z=>rw [xF,if_neg e]
theorem length_putJ (kvs:List Ent) (k:List Tk.KT) (b:Addr) (v:V):(putJ kvs k b v).length≤kvs.length+1:=by
 unfold putJ
 split
 · rw [wL];omega
 · rw [wM,wV,xS];omega
theorem RE.val {kvs:List Ent} {xs:List (List Tk.KT×Addr×Value)} (r:RE kvs xs) (k:List Tk.KT):RelO (valJ kvs k) ((atKey xs k).map (·.2)):=by
 induction r with
 |nil=>exact True.intro
 | @cons p q ps qs h t ih=>
  obtain ⟨h1,_,h2⟩:=h
  by_cases e:p.1=k
  · have e':q.1=k:=h1.symm.trans e
    have b:atKey (q::qs) k=some q.2:=by simp [atKey,xM,e']
    rw [bZ e,b];exact h2
  · have e':¬q.1=k:=fun z=>e (h1.trans z)
    have b:atKey (q::qs) k=atKey qs k:=by simp [atKey,xM,e']
    rw [c5 e,b];exact ih
theorem RE.repl {kvs:List Ent} {xs:List (List Tk.KT×Addr×Value)} (r:RE kvs xs) (k:List Tk.KT) {y:V} {u:Value} (ry:RelV y u):
 RE (kvs.map fun p=>if p.1=k then (p.1,p.2.1,y) else p) (xs.map (putAt k u)):=by
 induction r with
 |nil=>exact .nil
 | @cons p q ps qs h t ih=>
  rw [wZ,wZ]
  refine .cons ?_ ih
  obtain ⟨h1,h2,h3⟩:=h
  unfold putAt
  by_cases e:p.1=k
  · rw [if_pos e,if_pos (h1.symm.trans e)];exact ⟨h1,h2,ry⟩
  · rw [if_neg e,if_neg (fun z=>e (h1.trans z))];exact ⟨h1,h2,h3⟩
theorem RE.put {kvs:List Ent} {xs:List (List Tk.KT×Addr×Value)} (r:RE kvs xs) (k:List Tk.KT) {b:Addr} {y:V} {u:Value} (ry:RelV y u):RE (putJ kvs k b y) (storedH xs k b u):=by
 have e:(valJ kvs k).isSome=(atKey xs k).isSome:=by
  rw [(r.val k).isSome_eq,Option.isSome_map]
 unfold putJ storedH
 rw [e]
 by_cases q:(atKey xs k).isSome=true
 · rw [if_pos q,if_pos q];exact r.repl k ry
 · rw [if_neg q,if_neg q];exact Paired.snoc r ⟨rfl,rfl,ry⟩
theorem p4 {kvs:List Ent} {k:List Tk.KT} {b:Addr} {v:V} {p:Ent} (h:p∈putJ kvs k b v):(∃q∈kvs,p.1=q.1∧p.2.1=q.2.1)∨(p.1=k∧p.2.1=b):=by
 unfold putJ at h
 split at h
 · obtain ⟨q,m,e⟩:=xq.mp h
   split at e
   · subst e;exact .inl ⟨q,m,rfl,rfl⟩
   · subst e;exact .inl ⟨q,m,rfl,rfl⟩
 · rcases x4.mp h with m|m
   · exact .inl ⟨p,m,rfl,rfl⟩
   · rw [wS.mp m];exact .inr ⟨rfl,rfl⟩
theorem Kd.updJ {P:Program} {w:World} {H:Hp} {a:Addr} {kvs:List Ent} {o:HO} (h:H a=some (dJ P w a kvs)):Kd H (upd H a o):=by
 refine ⟨fun b zs e=> ?_,fun b zs e=>⟨zs,?_⟩⟩
 · rw [af (fun z=>by rw [z,h] at e;cases e)];exact e
 · rw [af (fun z=>by rw [z,h] at e;cases e)];exact e
theorem Kd.updK {H:Hp} {a:Addr} {kvs:List (Key×V)} {o:HO} (h:H a=some (.dK kvs)):Kd H (upd H a o):=by
 refine ⟨fun b zs e=> ?_,fun b zs e=>⟨zs,?_⟩⟩
 · rw [af (fun z=>by rw [z,h] at e;cases e)];exact e
 · rw [af (fun z=>by rw [z,h] at e;cases e)];exact e
theorem DJ.put {P:Program} {w:World} {K:PySem.W.Frag} {H:Hp} {a b:Addr} {kvs:List Ent} {k:List Tk.KT} {v:V} (d:DJ P w K H a kvs) (hk:KeyAt K H k b):DJ P w K (upd H a (dJ P w a (putJ kvs k b v))) a (putJ kvs k b v):=by
 refine ⟨a9,fun p m=> ?_⟩
 refine KeyAt.mono (Kd.updJ d.at_) ?_
 rcases p4 m with ⟨q,mq,e1,e2⟩|⟨e1,e2⟩
 · rw [e1,e2];exact d.keys q mq
 · rw [e1,e2];exact hk
theorem DJ.kd {P:Program} {w:World} {K:PySem.W.Frag} {H H':Hp} {a:Addr} {kvs:List Ent} (d:DJ P w K H a kvs) (k:Kd H H') (e:H' a=some (dJ P w a kvs)):DJ P w K H' a kvs:=⟨e,fun p m=>(d.keys p m).mono k⟩
section
variable {P:Program} {w:World} {H:Hp} {h:Heap} {a:Addr}
theorem tO {K:PySem.W.Frag} {kvs:List Ent} (ok:HOk P w H h) (kin:K.In h) (d:DJ P w K H a kvs):kvs.length≤sizeLine∧(a==sysModules)=false∧∃xs,RE kvs xs∧h.DictOfH (Tk.treeKind P w) a xs:=by
 obtain ⟨⟨z,y,xs,r,o,es,ep,h1,h2,h3,h4,h5⟩,_⟩:=(show ObjOk P w H h a (dJ P w a kvs) from ok a _ d.at_)
 refine ⟨z,y,xs,r,o,es,ep,h1,h2,h3,h4,?_,h5⟩
 have all:∀ {l:List Ent} {m:List (List Tk.KT×Addr×Value)},RE l m→(∀p∈l,KeyAt K H p.1 p.2.1)→∀x∈m,(Tk.treeKind P w).is h x.1 x.2.1:=by
  intro l m q
  induction q with
  |nil=>intro _ x hx;exact nomatch hx
  | @cons p q ps qs hq t ih=>
   intro kp x hx
   rcases wY.mp hx with e|hx
   · subst e
     rw [←hq.1,←hq.2.1]
     exact (kp p wP).is ok kin
   · exact ih (fun p m=>kp p (wQ _ m)) x hx
 exact all r d.keys
theorem qm {kvs:List Ent} {xs:List (List Tk.KT×Addr×Value)} {H':Hp} {h':Heap} (z:kvs.length≤sizeLine) (y:(a==sysModules)=false) (r:RE kvs xs)
 (d:∃o es ep,h'.get? a=some o∧o.ExactDict∧o.data= .dict es ep∧es.toList=xs.map (entryOfKey (Tk.treeKind P w))∧(xs.map (·.1)).Nodup):ObjOk P w H' h' a (dJ P w a kvs):=by
 obtain ⟨o,es,ep,h1,h2⟩:=d
 refine ⟨⟨z,y,xs,r,o,es,ep,h1,h2⟩,⟨o,h1⟩,?_⟩
 rintro g1 g2 ⟨z,y,xs,r,o,es,ep,h1,h2⟩ st
 exact ⟨z,y,xs,r,o,es,ep,st _ h1,h2⟩
end
noncomputable def om (P:Program) (w:World):TE:=fun _ H Q=>∀p,H p=none→Q (.ref p) (upd H p (dJ P w p []))
section
variable {X:Cx} {pos pos' apos cpos:Pos} {o i e f value:Expr} {td ty tv tx:TE}
theorem qo {P:Program} {w:World} {H:Hp} (h:Heap) (hb:sysModules < h.objs.size):ObjOk P w H (h.push {cls:= .type "dict",data:= .dict #[]}) h.objs.size (dJ P w h.objs.size []):=
 qm (xo _) (beq_eq_false_iff_ne.mpr (Ne.symm (wW hb))) .nil ⟨_, #[],0,Heap.get?_push_size _ rfl,⟨rfl,rfl,rfl⟩,rfl,rfl,xO⟩
theorem p9:PE X (.Dict [] [] pos) (om X.prog X.w):=fun pins s σ H Q I h=>
 wpAny_Dict_empty ⟨.ref s.heap.objs.size,_,I.laid (a:=s.heap.objs.size) (o:=dJ X.prog X.w s.heap.objs.size []) (t':=s.toks) (fun _ _ q=>Heap.get?_push_of_some _ q) (wO _) (qo s.heap I.big),rfl,h _ (I.hok.fresh (wO _))⟩
variable {P:Program} {w:World} {K:PySem.W.Frag}
theorem pe_newJ (hP:X.prog=P) (hw:X.w=w):PE X (.Dict [] [] pos) (om P w):=by
 subst hP hw
 exact p9
end
end Dj
namespace Tre
open PySem L2
theorem nl {x y:String} (h:(Str.ofString x).cps.toList≠(Str.ofString y).cps.toList) {r s:List Co}:Co.tup (.str (Str.ofString x).cps.toList::r)=Co.tup (.str (Str.ofString y).cps.toList::s)→False:=fun e=>by
 simp only [Co.tup.injEq,xH,Co.str.injEq] at e
 exact h e.1
def Rise (us:List Tr):Prop:=∀(i j:Nat) (t u:Tr),i≤j→us[i]?=some t→us[j]?=some u→ltT u t=false
theorem Rise.tail {a:Tr} {us:List Tr} (h:Rise (a::us)):Rise us:=fun i j t u hij e1 e2=>h (i+1) (j+1) t u (by omega) (by simpa using e1) (by simpa using e2)
theorem Rise.head {a b:Tr} {us:List Tr} (h:Rise (a::us)) (m:b∈us):ltT b a=false:=by
 obtain ⟨j,hj,e⟩:=xf m
 exact h 0 (j+1) a b (by omega) rfl (by simp [hj,e])
end Tre
namespace Wd
open PySem L2 Tre Mth Dj
def Lt2 (e:Nat) (x:Int):Prop:=x.natAbs < 2^e
abbrev Fr:=Int×Int
def frT (p:Fr):Tr:= .tup [.int p.1, .int p.2]
def frK (p:Fr):Tk.KT:= .tp [.lf (.inl p.1), .lf (.inl p.2)]
structure Gf (e:Nat) (p:Fr):Prop where
 pos:0 < p.2
 top:Lt2 e p.1
 bot:Lt2 e p.2
def zero:Fr:=(0,1)
def Gv (p:Fr):Prop:=Gf 200 p∧tS p.1 p.2
noncomputable def wf (p q:Fr):Fr:=(pX p.1 p.2 q.1 q.2,pY p.1 p.2 q.1 q.2)
noncomputable def u7 (p q:Fr):Fr:=(tX p.1 p.2 q.1 q.2,tY p.1 p.2 q.1 q.2)
structure Wld where
 fl:Str→Bool
 va:Str→Fr
 ca:List Tk.KT→Fr
structure Wld.Ok (W:Wld):Prop where
 va:∀x,Gv (W.va x)
 ca:∀k,Gv (W.ca k)
mutual
noncomputable def valT (W:Wld):Tr→Fr
 | .tup (_:: .str x::r)=>match r with
  | []=>W.va x
  |t::_=>W.ca [.lf (.inr x), .tp (keyT W t)]
 |_=>zero
noncomputable def keyT (W:Wld):Tr→List Tk.KT
 | .tup ts=>sZ W ts
 |_=> []
noncomputable def sZ (W:Wld):List Tr→List Tk.KT
 | []=> []
 |t::ts=>frK (valT W t)::sZ W ts
end
def iz:Tr→Fr
 | .tup [.int a, .int b]=>(a,b)
 |_=>zero
noncomputable def sum1 (W:Wld) (acc:Fr):Tr→Fr
 | .tup [t,f]=>wf acc (u7 (iz f) (valT W t))
 |_=>acc
noncomputable def sumT (W:Wld) (ps:List Tr):Fr:=ps.foldl (sum1 W) zero
def Gp (p:Tr):Prop:=∃tm f,p= .tup [tm,frT f]∧Ty .tm tm∧tm.depth≤5∧Gf 603 f
inductive Gw:Tr→Prop
 |fl (x:Str):Gw (.tup [s_ "flag", .str x])
 |mo (ps:List Tr) (f:Fr):ps.length≤3→(∀p∈ps,Gp p)→Gf 900 f→Gw (.tup [s_ "most", .tup ps,frT f])
 |li (t u:Tr):Ty .tm t→Ty .tm u→t.depth≤7→u.depth≤7→Gw (.tup [s_ "like",t,u])
 |no (w:Tr):Gw w→Gw (.tup [s_ "not",w])
 |bo (l:List Tr):l.length≤3→(∀w∈l,Gw w)→Gw (.tup [s_ "both", .tup l])
 |ei (l:List Tr):l.length≤3→(∀w∈l,Gw w)→Gw (.tup [s_ "either", .tup l])
inductive Gl:Tr→Prop
 |mk (t:Tr) (b:Bool):Gw t→Gl (.tup [t, .bl b])
def vq (W:Wld):Tr→Bool
 | .str x=>W.fl x
 |_=>false
def psOf:Tr→List Tr
 | .tup ps=>ps
 |_=> []
mutual
noncomputable def hold (W:Wld):Tr→Bool
 | .tup (.str k::t::r)=>match r with
  | []=>if k=Str.ofString "flag" then vq W t else if k=Str.ofString "not" then !hold W t else if k=Str.ofString "both" then allT W t else anyT W t
  |u::_=>if k=Str.ofString "like" then decide (valT W t=valT W u) else decide ((sumT W (psOf t)).1*(iz u).2≤(iz u).1*(sumT W (psOf t)).2)
 |_=>false
noncomputable def allT (W:Wld):Tr→Bool
 | .tup ts=>tR W ts
 |_=>true
noncomputable def anyT (W:Wld):Tr→Bool
 | .tup ts=>tQ W ts
 |_=>false
noncomputable def tR (W:Wld):List Tr→Bool
 | []=>true
 |t::ts=>hold W t&&tR W ts
noncomputable def tQ (W:Wld):List Tr→Bool
 | []=>false
 |t::ts=>hold W t ||tQ W ts
end
end Wd
namespace Su
open PySem L2 Tre Mth Wd
def rv (p:Fr):Rat:=(p.1:Rat) / (p.2:Rat)
abbrev Sh (p:Fr):Prop:=tS p.1 p.2
noncomputable def low (t b:Int):Fr:=(t / (Int.gcd t b:Int),b / (Int.gcd t b:Int))
abbrev Pq:=Tr×Fr
def prT (p:Pq):Tr:= .tup [p.1,frT p.2]
open Classical in
noncomputable def tot (t:Tr):List Pq→Rat
 | []=>0
 |p::r=>(if p.1=t then rv p.2 else 0)+tot t r
abbrev Asc (us:List Pq):Prop:=us.Pairwise fun a b=>ltT a.1 b.1=true
structure Can (ps us:List Pq):Prop where
 asc:Asc us
 sh:∀p∈us,Sh p.2∧p.2≠zero
 eq:∀t,tot t us=tot t ps
structure Run (ds us:List Pq):Prop where
 asc:Asc us
 sh:∀p∈us,Sh p.2
 eq:∀t,tot t us=tot t ds
 key:∀p∈us,∃d∈ds,d.1=p.1
end Su
namespace L2
open PySem PySem.Spec PyProof.Rows
def qC (J:It) (D:Addr) (tc:TT) (te:TE) (rest:L2.St) (Q:VK) (H1:Hp):Prop:=
 ∃W:Nat→Nat→List V→Hp→Prop,(∃m,W 0 m [] (upd H1 D (.lst [])))∧∀i m acc H2,W i m acc H2→
  (J.stop i H2∧Q (.ref D) H2)∨
  (J.go i H2∧∀x H3,J.yld i H2 x H3→cw 0 x (none::rest) H3 fun σ4 H4=>Ext (none::rest) σ4∧tc σ4 H4 fun b H5=>if b=true then te σ4 H5 fun v H6=>H6 D=some (.lst acc)∧acc.length < sizeLine∧∃m',m' < m∧W (i+1) m' (acc++ [v]) (upd H6 D (.lst (acc++ [v])))
   else∃m',m' < m∧W (i+1) m' acc H5)
theorem dq {mp:List (Option Nat)} {wi:TI} {tc:TT} {te:TE} {σ rest:L2.St} {H:Hp} {Q:VK} (e:subS mp σ=none::rest) (h:wi σ H fun J H1=>∀D,H1 D=none→qC J D tc te rest Q H1):dL mp wi (cw 0) tc te σ H Q:=by
 unfold dL
 rw [e]
 exact h
def CompS (n i:Nat) (acc:List V) (Pv:Nat→List V→Hp→Prop):Hp→Prop:=fun H5=>∃m',m' < n - i∧(m'=n - (i+1)∧i+1≤n∧Pv (i+1) acc H5)
theorem CompS.mk {n i:Nat} {acc:List V} {Pv:Nat→List V→Hp→Prop} {H5:Hp} (hi:i < n) (h:Pv (i+1) acc H5):CompS n i acc Pv H5:=⟨n - (i+1),by omega,rfl,hi,h⟩
theorem cX {K:PySem.W.Frag} {a D:Addr} {xs:List V} {tc:TT} {te:TE} {rest:L2.St} {Q:VK} {H1:Hp} (Pv:Nat→List V→Hp→Prop) (h0:Pv 0 [] (upd H1 D (.lst [])))
 (hl:∀i acc H,Pv i acc H→SqL K H a xs)
 (hs:∀i x acc H,i < xs.length→xs[i]?=some x→Pv i acc H→tc (some x::rest) H fun b H5=>if b=true then te (some x::rest) H5 (CompN xs.length i D acc Pv) else CompS xs.length i acc Pv H5)
 (hd:∀acc H,Pv xs.length acc H→Q (.ref D) H):qC (Itl K a) D tc te rest Q H1:=by
 refine ⟨fun i m acc H=>m=xs.length - i∧i≤xs.length∧Pv i acc H,⟨xs.length,by simp,xo _,h0⟩,?_⟩
 rintro i m acc H ⟨rfl,hi,p⟩
 by_cases hlt:i < xs.length
 · refine .inr ⟨⟨xs,xs[i],hl i acc H p,by simp [hlt]⟩,fun x H' y=>⟨ext1,?_⟩⟩
   obtain ⟨e,y⟩:=y
   subst e
   exact hs i x acc _ hlt (y xs (hl i acc _ p)) p
 · have e:i=xs.length:=by omega
   subst e
   exact .inl ⟨⟨xs,hl _ acc H p,wO _⟩,hd acc H p⟩
end L2
namespace Zp
open PySem
inductive Src where
 |lst|tup
def Src.It (k:Src) (h:Heap) (it l:Addr) (i:Nat):Prop:=match k with
 | .lst=>h.IsListIter it l i
 | .tup=>h.IsTupleIter it l i
def Src.Sq (k:Src) (h:Heap) (l:Addr) (xs:Array Value):Prop:=match k with
 | .lst=>h.IsList l xs
 | .tup=>h.IsTuple l xs
theorem cH {k:Src} {h h':Heap} {a l:Addr} {i:Nat} (x:k.It h a l i) (e:∀o,h.get? a=some o→h'.get? a=some o):k.It h' a l i:=by
 cases k
 · exact Heap.IsListIter.at x e
 · exact Heap.IsTupleIter.at x e
theorem fH {k:Src} {h h':Heap} {l:Addr} {xs:Array Value} (x:k.Sq h l xs) (e:∀o,h.get? l=some o→h'.get? l=some o):k.Sq h' l xs:=by
 cases k
 · exact Heap.IsList.at x e
 · exact Heap.IsTuple.at x e
theorem iO {k:Src} {h:Heap} {a l:Addr} {i:Nat} (x:k.It h a l i):∃o,h.get? a=some o∧∀v,o.data≠ .cell v:=by
 cases k
 all_goals
  obtain ⟨o,e,_,d⟩:=x
  exact ⟨o,e,fun v z=>by rw [d] at z;cases z⟩
section
variable {prog:Program} {w:World} {A:Around} {E:Value→Shared→Prop} {s:Shared} {k:Src} {it l:Addr} {i:Nat} {xs:Array Value} {x:Value} {Q:Value→Shared→Prop}
theorem fj (st:k.It s.heap it l i) (sq:k.Sq s.heap l xs) (hx:xs[i]?=some x) (q:∀h',k.It h' it l (i+1)→Heap.SameBut it s.heap h'→Q x {s with heap:=h'}):
 wpAny (model prog w) A (Builtin.SmallTypes.nextOf (.ref it)) Q E s:=by
 cases k
 · exact wpAny_nextOf_list_item st sq hx q
 · obtain ⟨o,e1,e2,e3⟩:=id st
   obtain ⟨p,f1,_,n,f3⟩:=sq
   have ty:=Heap.IsTupleIter.typeIs st
   rw [Builtin.SmallTypes.nextOf]
   refine wpAny_bind (wpAny_callSpecial?_slot (name:=Str.ofString "__next__") ty F.slot_tuple_iterator_next (wpAny_call_entry F.slot_tuple_iterator_next ty F.entry_tuple_iterator_next ?_ (F.args_tuple_iterator_next_1 _)))
   show wpAny _ _ (do let y←field (.ref it) 0;_) _ _ s
   refine wpAny_bind (wpAny_field e1 e3 (x:= .ref l) rfl ?_)
   show wpAny _ _ (if (Value.ref l==Value.none)=true then _ else _) _ _ _
   refine (if_neg (show¬((Value.ref l==Value.none)=true) from x9))▸ ?_
   show wpAny _ _ (do let y←field (.ref it) 1;_) _ _ s
   refine wpAny_bind (wpAny_field e1 e3 (x:= .int i 0) rfl ?_)
   show wpAny _ _ (do let y←seqItems? (.ref l);_) _ _ s
   refine wpAny_bind (wpAny_seqItems f1 f3 ?_)
   simp only [hx,xA]
   refine wpAny_bind (wpAny_setField e1 e3 (by simp) (wpAny_pure ⟨x,rfl,wpAny_pure (q _ ?_ (Heap.SameBut.update ..))⟩))
   refine ⟨_,Heap.get?_update_self _ e1 (Obj.isFreed_of_fields (Obj.data_mapFields e3 _)),(Obj.cls_mapFields ..).trans e2,?_⟩
   rw [Obj.data_mapFields e3]
   simp [rawInt]
theorem pk (hh:A.handled=none) (st:k.It s.heap it l i) (sq:k.Sq s.heap l xs) (hx:xs[i]?=none) (q:∀h' e,Heap.ExtBut it s.heap h'→(∃o,h'.get? e=some o∧o.cls= .type "StopIteration")→E (.ref e) {s with heap:=h'}):
 wpAny (model prog w) A (Builtin.SmallTypes.nextOf (.ref it)) Q E s:=by
 cases k
 · exact wpAny_nextOf_list_end hh st sq hx q
 · obtain ⟨o,e1,e2,e3⟩:=id st
   obtain ⟨p,f1,_,n,f3⟩:=sq
   have ty:=Heap.IsTupleIter.typeIs st
   rw [Builtin.SmallTypes.nextOf]
   refine wpAny_bind (wpAny_callSpecial?_slot (name:=Str.ofString "__next__") ty F.slot_tuple_iterator_next (wpAny_call_entry F.slot_tuple_iterator_next ty F.entry_tuple_iterator_next ?_ (F.args_tuple_iterator_next_1 _)))
   show wpAny _ _ (do let y←field (.ref it) 0;_) _ _ s
   refine wpAny_bind (wpAny_field e1 e3 (x:= .ref l) rfl ?_)
   show wpAny _ _ (if (Value.ref l==Value.none)=true then _ else _) _ _ _
   refine (if_neg (show¬((Value.ref l==Value.none)=true) from x9))▸ ?_
   show wpAny _ _ (do let y←field (.ref it) 1;_) _ _ s
   refine wpAny_bind (wpAny_field e1 e3 (x:= .int i 0) rfl ?_)
   show wpAny _ _ (do let y←seqItems? (.ref l);_) _ _ s
   refine wpAny_bind (wpAny_seqItems f1 f3 ?_)
   simp only [hx,xA]
   refine wpAny_bind (wpAny_rule (wpAny_bind (wpAny_setField e1 e3 (by simp) ?_)))
   show wpAny _ _ (do let y←newExc (.type "StopIteration") [];_) _ _ _
   refine wpAny_bind ?_
   simp only [newTuple,newExc]
   refine wpAny_bind (wpAny_newObj_type (wpAny_bind (m:=firstArgMember _ _) (wpAny_of_eq (a:=Value.none) (by first|rfl|(simp only [firstArgMember];rfl)) (wpAny_newObj_type ?_ (by size_fits)))) (by size_fits))
   simp only [raiseNew]
   refine wpAny_bind (wpAny_handled ?_)
   first|rw [show A.in1.handled=none from hh]|rw [hh]
   exact wpAny_bind (wpAny_pure (wpAny_throw (q _ _ (((Heap.SameBut.update ..).extBut.push _).push _) ⟨_,Heap.get?_push_size _ rfl,rfl⟩)))
end
open PySem
section
variable {prog:Program} {w:World} {A:Around} {E:Value→Shared→Prop} {s:Shared} {k:Src} {z TI TO i1 i2 l1 l2:Addr} {j:Nat} {xs ys:Array Value} {x y a b:Value}
end
open PySem
abbrev zA (h:Heap) (l:Addr):Heap:=h.push {cls:= .type "tuple_iterator",data:= .fields #[.ref l, .int 0 0]}
abbrev zB (h:Heap) (l m:Addr):Heap:=zA (zA h l) m
abbrev zC (h:Heap) (l m:Addr):Heap:=(zB h l m).push {cls:= .type "tuple",data:= .seq #[.ref h.objs.size, .ref (zA h l).objs.size]}
abbrev zD (h:Heap) (l m:Addr):Heap:=(zC h l m).push {cls:= .type "tuple",data:= .seq #[.none, .none]}
abbrev zE (h:Heap) (l m:Addr):Heap:=(zD h l m).push {cls:= .type "zip",data:= .fields #[.none, .bool false, .bool false, .ref (zB h l m).objs.size, .ref (zC h l m).objs.size]}
theorem rP (l m:Addr) (xs ys:Array Value):Meets (Builtin.«zip.__new__» ⟨[.type "zip", .ref l, .ref m],[]⟩) (fun _ R s=>s.heap.IsTuple l xs∧s.heap.IsTuple m ys∧
 R (.ok (.ret (.ref (zD s.heap l m).objs.size))) {s with heap:=zE s.heap l m}):=
 .of_wp fun prog w A R s h=>by
  obtain ⟨hp,g,d,tk,os⟩:=s
  obtain ⟨p1,p2,h⟩:=h
  have hsub:=sub_zip
  have p1:Heap.IsTuple (Shared.heap ⟨hp,g,d,tk,os⟩) l xs:=p1
  have p2:Heap.IsTuple (Shared.heap ⟨zA hp l,g,d,tk,os⟩) m ys:=Heap.IsTuple.at p2 fun o e=>Heap.get?_push_of_some _ e
  wp_walk using wpAny_pyIter_tuple p1,wpAny_pyIter_tuple p2
  exact ⟨_,rfl,h⟩
section
variable {prog:Program} {w:World} {A:Around} {E:Value→Shared→Prop} {s:Shared}
theorem qx {k:Src} {l m:Addr} {xs ys:Array Value} {Q:Value→Shared→Prop} (p1:k.Sq s.heap l xs) (p2:k.Sq s.heap m ys)
 (q:∀h',IsZip h' (s.heap.objs.size+4) (s.heap.objs.size+2) (s.heap.objs.size+3) .none→IsPair h' (s.heap.objs.size+2) (.ref s.heap.objs.size) (.ref (s.heap.objs.size+1))→
  IsPair h' (s.heap.objs.size+3) .none .none→k.It h' s.heap.objs.size l 0→k.It h' (s.heap.objs.size+1) m 0→h'.objs.size=s.heap.objs.size+5→
  (∀c o,s.heap.get? c=some o→h'.get? c=some o)→Q (.ref (s.heap.objs.size+4)) {s with heap:=h'}):
 wpAny (model prog w) A (call (.type "zip") [.ref l, .ref m]) Q E s:=by
 cases k
 · exact call_zip_2 p1 p2 q
 · refine callType_new F.called_zip (by decide) (F.typeCall_zip_2 _ _) (F.newCall_zip_2 _ _) (fun obj=>F.args_object_init_3 obj _ _) F.entry_zip_new (rP l m xs ys) ⟨p1,p2,?_⟩
   have a1:(zA s.heap l).objs.size=s.heap.objs.size+1:=Heap.size_push ..
   have a2:(zB s.heap l m).objs.size=s.heap.objs.size+2:=by rw [Heap.size_push,a1]
   have a3:(zC s.heap l m).objs.size=s.heap.objs.size+3:=by rw [Heap.size_push,a2]
   have a4:(zD s.heap l m).objs.size=s.heap.objs.size+4:=by rw [Heap.size_push,a3]
   have a5:(zE s.heap l m).objs.size=s.heap.objs.size+5:=by rw [Heap.size_push,a4]
   have b5:(zE s.heap l m).get? (zD s.heap l m).objs.size=some _:=Heap.get?_push_size _ rfl
   have b4:(zE s.heap l m).get? (zC s.heap l m).objs.size=some _:=Heap.get?_push_of_some _ (Heap.get?_push_size _ rfl)
   have b3:(zE s.heap l m).get? (zB s.heap l m).objs.size=some _:=Heap.get?_push_of_some _ (Heap.get?_push_of_some _ (Heap.get?_push_size _ rfl))
   have b2:(zE s.heap l m).get? (zA s.heap l).objs.size=some _:=Heap.get?_push_of_some _ (Heap.get?_push_of_some _ (Heap.get?_push_of_some _ (Heap.get?_push_size _ rfl)))
   have b1:(zE s.heap l m).get? s.heap.objs.size=some _:=Heap.get?_push_of_some _ (Heap.get?_push_of_some _ (Heap.get?_push_of_some _ (Heap.get?_push_of_some _ (Heap.get?_push_size _ rfl))))
   show _∧_
   rw [a2,a3,a4] at b5
   rw [a1,a2] at b3
   rw [a3] at b4
   rw [a1] at b2
   rw [a4]
   exact ⟨⟨_,b5,rfl⟩,q _ b5 b3 b4 ⟨_,b1,rfl,rfl⟩ ⟨_,b2,rfl,rfl⟩ a5 fun c o e=>Heap.get?_push_of_some _ (Heap.get?_push_of_some _ (Heap.get?_push_of_some _ (Heap.get?_push_of_some _ (Heap.get?_push_of_some _ e))))⟩
end
end Zp
namespace L2
open PySem PySem.Spec PyProof.Rows Zp
def Sqk (k:Src) (K:PySem.W.Frag) (H:Hp) (a:Addr) (xs:List V):Prop:=match k with
 | .lst=>SqL K H a xs
 | .tup=>SqT K H a xs
theorem Inv.sqk {X:Cx} {pins:List (Addr×Obj)} {σ:St} {H:Hp} {s:Shared} {k:Src} {a:Addr} {xs:List V} (I:Inv X pins σ H s) (h:Sqk k X.K H a xs):∃its:List Value,Vals xs its∧k.Sq s.heap a its.toArray∧xs.length≤sizeLine:=by
 cases k
 · obtain ⟨its,r,p,z⟩:=I.list h
   exact ⟨its,r,p.isList,z⟩
 · obtain ⟨its,r,p,z⟩:=I.tuple h
   exact ⟨its,r,p,z⟩
theorem Inv.sqk_inj {X:Cx} {pins:List (Addr×Obj)} {σ:St} {H:Hp} {s:Shared} {k:Src} {a:Addr} {xs ys:List V} (I:Inv X pins σ H s) (h:Sqk k X.K H a xs) (h':Sqk k X.K H a ys):xs=ys:=by
 cases k
 · exact I.list_inj h h'
 · exact I.tuple_inj h h'
def Itz (k:Src) (K:PySem.W.Frag) (a b:Addr):It:=
 ⟨fun i H=>∃xs ys x y,Sqk k K H a xs∧Sqk k K H b ys∧xs[i]?=some x∧ys[i]?=some y,
  fun i H v H'=>∃T x y,v= .ref T∧H T=none∧H'=upd H T (.tup [x,y])∧(∀xs,Sqk k K H a xs→xs[i]?=some x)∧(∀ys,Sqk k K H b ys→ys[i]?=some y)∧i < sizeLine,
  fun i H=>∃xs ys,Sqk k K H a xs∧Sqk k K H b ys∧xs.length≤i⟩
section
variable {X:Cx} {pins:List (Addr×Obj)} {σ:St} {H:Hp} {s:Shared}
theorem Inv.turneds {h':Heap} {t':Nat} {fp:List Addr} (I:Inv X pins σ H s) (k:∀b o,b∉fp→s.heap.get? b=some o→h'.get? b=some o) (hf:∀b∈fp,FpOk X pins H b):Inv X pins σ H {s with heap:=h',toks:=t'}:=by
 refine I.call' (s':= {s with heap:=h',toks:=t'}) (ch:=fp) rfl ⟨fun b o e _ _ hx=>k b o hx e,fun b o e _ _ hx=>⟨o.slots,k b o hx e⟩,fun _ _ _ n _=>n,fun b o e hx=>⟨o,k b o hx e⟩,fun _ _ e=>e,fun _ _ _ e=>e,fun b ps e=>⟨#[],by rw [e];simp⟩⟩ ?_ I.bare fun b hb=> ?_
 · intro b o e
   have nb:∀c u,H c=some u→c∉fp:=fun c u e z=>by rw [(hf c z).1] at e;cases e
   refine (I.hok b o e).stay (fun c v hc q=>k c v ?_ q) (fun _ q=>q) fun _ _ q=>q
   rcases hc with z|z
   · rw [z];exact nb b o e
   · exact nb c _ z
 · obtain ⟨g0,g1,g2,g3,g4,g5⟩:=hf b hb
   exact ⟨g3,g1,g4,g5⟩
end
section
variable {X:Cx}
def iZip (k:Src) (K:PySem.W.Frag) (ta:TA):TI:=fun σ H R=>ta σ H fun vs H1=>∃a b xs ys,vs= [.ref a, .ref b]∧Sqk k K H1 a xs∧Sqk k K H1 b ys∧R (Itz k K a b) H1
end
open PySem PySem.Spec PyProof.Rows Zp
section
variable {X:Cx}
end
section
variable {X:Cx}
end
end L2
namespace Tre
open PySem L2 Zp
def Sm (H:Hp):Nat→V→V→Prop
 |0,_,_=>False
 |n+1,v,w=>(∃x,v= .str x∧w= .str x)∨(∃i,v= .int i∧w= .int i)∨(∃b,v= .bl b∧w= .bl b)∨(v= .non∧w= .non)∨
  ∃a b xs ys,v= .ref a∧w= .ref b∧((H a=some (.lst xs)∧H b=some (.lst ys))∨(H a=some (.tup xs)∧H b=some (.tup ys)))∧ys.length=xs.length∧∀(j:Nat) x y,xs[j]?=some x→ys[j]?=some y→Sm H n x y
open PySem PySem.Spec PyProof.Rows L2
section
variable {X:Cx}
theorem qB {H:Hp} {t:Tr} {e:Value→Bool}:∀ {xs:List V} {us:List Value} {ts:List Tr},Vals xs us→TrsAt H xs ts→(∀v u s,RelV v u→TrAt H v s→e u=eqT s t)→us.any e=ts.any fun s=>eqT s t
 |_,_,[],r,h,_=>by
  unfold TrsAt at h
  subst h
  cases r
  rfl
 |_,_,s::ts,r,h,he=>by
  unfold TrsAt at h
  obtain ⟨v,q,rfl,h1,h2⟩:=h
  cases r with
  |cons r1 r2=>rw [List.any_cons,List.any_cons,qB r2 h2 he,he _ _ _ r1 h1]
end
open PySem PySem.Spec PyProof.Rows L2
section
variable {X:Cx}
def SqE (H:Hp) (p:Addr) (xs:List V):Prop:=H p=some (.lst xs)∨H p=some (.tup xs)
def rIn (b:Bool):R2:=fun x y H Q=>∃p xs ts t,y= .ref p∧SqE H p xs∧TrsAt H xs ts∧TrAt H x t∧(∀u∈ts,u.depth≤40)∧t.pure∧Q (.bl ((ts.any fun u=>eqT u t)==b)) H
theorem jr {pins:List (Addr×Obj)} {s:Shared} {σ:L2.St} {H:Hp} {xs:List V} {ts:List Tr} {t:Tr} {x:V} {v:Value} {its:List Value} (hu:X.A.units+50 < cLine) (I:Inv X pins σ H s) (rx:RelV x v) (r:Vals xs its) (hT:TrsAt H xs ts) (ht:TrAt H x t) (hd:∀u∈ts,u.depth≤40) (hpu:t.pure):
 ∃e:Value→Bool,(∀w,w∈its.toArray→SeqAt.EqAt X.A.in1 s w v (e w))∧its.toArray.any e=ts.any fun s=>eqT s t:=by
 classical
 have he:∀v' u' s',RelV v' u'→TrAt H v' s'→decide (∃v s,RelV v u'∧TrAt H v s∧eqT s t=true)=eqT s' t:=fun v' u' s' r' h'=>by
  cases e:eqT s' t with
  |true=>exact decide_eq_true ⟨v',s',r',h',e⟩
  |false=>
   refine decide_eq_false ?_
   rintro ⟨v2,s2,r2,h2,e2⟩
   cases r2.inj r'
   rw [TrAt.det h2 h',e] at e2
   cases e2
 refine ⟨fun u'=>decide (∃v s,RelV v u'∧TrAt H v s∧eqT s t=true),fun w hw=> ?_,?_⟩
 · have hw':w∈its:=by simpa using hw
   obtain ⟨j,hj,ej⟩:=xf hw'
   have l1:=r.length
   have l2:=hT.len
   have t1:ts[j]?=some (ts[j]'(by omega)):=wI _
   obtain ⟨v',e1,a1⟩:=hT.get t1
   obtain ⟨u',e2,q2⟩:=r.get e1
   rw [wI hj,ej] at e2
   cases e2
   dsimp only
   rw [he _ _ _ q2 a1]
   exact im I 40 (hd _ (wJ t1)) (.inr hpu) a1 ht q2 rx (by show X.A.units+1+40+1 < cLine;omega)
 · rw [List.any_toArray]
   exact qB r hT he
theorem mU (b:Bool):(b==false)= !b:=by cases b<;>rfl
theorem rG (hu:X.A.units+50 < cLine):OpR X (compareOp .NotIn) (rIn false):=by
 intro pins s σ H x y v u Q I rx ry h
 obtain ⟨p,xs,ts,t,rfl,hp,hT,ht,hd,hpu,q⟩:=h
 cases ry
 rcases hp with hp|hp
 · obtain ⟨its,r,pl,hz⟩:=I.list (SqL.of hp)
   obtain ⟨e,h1,h2⟩:=jr hu I rx r hT ht hd hpu
   refine SeqAt.notIn_listAt e pl.isList h1 ⟨.bl _,H,I,rfl,?_⟩
   rw [h2,←mU (ts.any fun s=>eqT s t)]
   exact q
 · obtain ⟨its,r,pl,hz⟩:=I.tuple (SqT.of hp)
   obtain ⟨e,h1,h2⟩:=jr hu I rx r hT ht hd hpu
   refine SeqAt.notIn_tupleAt e (show s.heap.IsTuple p its.toArray from pl) h1 ⟨.bl _,H,I,rfl,?_⟩
   rw [h2,←mU (ts.any fun s=>eqT s t)]
   exact q
end
end Tre
namespace L2
open PySem PySem.Spec PyProof.Rows
section
variable {X:Cx}
end
end L2
namespace Wd
open PySem L2 Tre Mth Dj
def FlG (kF:List (Key×V)):Prop:=∀x v,valV kF (.inr x)=some v→∃b,v=V.bl b
def VaG (H:Hp) (kV:List (Key×V)):Prop:=∀x v,valV kV (.inr x)=some v→∃p,TrAt H v (frT p)∧Gv p
def CaG (H:Hp) (kC:List Ent):Prop:=∀k v,valJ kC k=some v→∃p,TrAt H v (frT p)∧Gv p
structure WS (P:Program) (w:World) (K:PySem.W.Frag) (H:Hp) (F D C:Addr) (n:Nat):Prop where
 ne:F≠D
 fl:∃kF,H F=some (.dK kF)∧FlG kF∧kF.length≤n
 va:∃kV,H D=some (.dK kV)∧VaG H kV∧kV.length≤n
 ca:∃kC,DJ P w K H C kC∧CaG H kC∧kC.length≤n
section
variable {P:Program} {w:World} {K:PySem.W.Frag} {H H':Hp} {F D C:Addr} {n:Nat}
end
def WAt (P:Program) (w:World) (K:PySem.W.Frag) (H:Hp) (v:V) (W:Wld):Prop:=∃r F D C kF kV kC,v= .ref r∧H r=some (.tup [.ref F, .ref D, .ref C])∧
 (H F=some (.dK kF)∧∀x,(valV kF (.inr x)).getD (.bl false)= .bl (W.fl x))∧
 (H D=some (.dK kV)∧∀x,(∃u,valV kV (.inr x)=some u∧TrAt H u (frT (W.va x)))∨(valV kV (.inr x)=none∧W.va x=zero))∧
 (DJ P w K H C kC∧∀k,(∃u,valJ kC k=some u∧TrAt H u (frT (W.ca k)))∨(valJ kC k=none∧W.ca k=zero))
section
variable {P:Program} {w:World} {K:PySem.W.Frag} {H H':Hp} {F D C r:Addr} {n:Nat} {v:V} {W:Wld}
end
theorem tJ:∀ps:List Fr,Tk.KTs.depth (ps.map frK)≤1
 | []=>by simp [Tk.KTs.depth]
 |p::ps=>by
  have:=tJ ps
  simp only [wZ,Tk.KTs.depth,frK,Tk.KT.depth]
  omega
def FrAt (K:PySem.W.Frag) (H:Hp) (v:V) (p:Fr):Prop:=∃r,v= .ref r∧SqX K H r [.int p.1, .int p.2]
def n5 (K:PySem.W.Frag) (H:Hp):List V→List Fr→Prop
 |vs,[]=>vs= []
 |vs,p::ps=>∃v r,vs=v::r∧FrAt K H v p∧n5 K H r ps
theorem sv {K:PySem.W.Frag} {H:Hp} {v:V} {p:Fr} (h:TrAt H v (frT p)):FrAt K H v p:=by
 unfold frT TrAt at h
 obtain ⟨r,vs,e,h1,h2⟩:=h
 obtain ⟨x,r1,rfl,h3,h4⟩:=h2.inv
 obtain ⟨y,r2,rfl,h5,h6⟩:=h4.inv
 unfold TrAt at h3 h5
 unfold TrsAt at h6
 subst h3 h5 h6
 exact ⟨r,e, .inl h1⟩
theorem jt {K:PySem.W.Frag} {H:Hp}:∀ {vs:List V} {ps:List Fr},TrsAt H vs (ps.map frT)→n5 K H vs ps
 |vs,[],h=>by
  unfold List.map TrsAt at h
  exact h
 |vs,p::ps,h=>by
  rw [wZ] at h
  obtain ⟨v,r,e,h1,h2⟩:=h.inv
  exact ⟨v,r,e,sv h1,jt h2⟩
theorem lT {K:PySem.W.Frag} {H:Hp}:∀ {vs:List V} {ps:List Fr},n5 K H vs ps→KVts K H vs (ps.map frK)
 |vs,[],h=>by
  rw [List.map_nil,KVts]
  exact h
 |vs,p::ps,h=>by
  obtain ⟨v,r,e,⟨q,e1,s⟩,h2⟩:=h
  rw [wZ,KVts]
  refine ⟨v,r,e,?_,lT h2⟩
  rw [frK,KVt]
  refine ⟨q,_,e1,s,?_⟩
  rw [KVts]
  refine ⟨_,_,rfl,by rw [KVt],?_⟩
  rw [KVts]
  refine ⟨_,_,rfl,by rw [KVt],?_⟩
  rw [KVts]
theorem dk {K:PySem.W.Frag} {H:Hp} {q r:Addr} {x:Str} {vs:List V} {ps:List Fr} (h:H q=some (.tup [.str x, .ref r])) (h2:H r=some (.tup vs)) (h3:n5 K H vs ps):KeyAt K H [.lf (.inr x), .tp (ps.map frK)] q:=by
 refine ⟨_, .inl h,?_,?_⟩
 · rw [KVts]
   refine ⟨_,_,rfl,by rw [KVt],?_⟩
   rw [KVts]
   refine ⟨_,_,rfl,?_,by rw [KVts]⟩
   rw [KVt]
   exact ⟨r,vs,rfl, .inl h2,lT h3⟩
 · have:=tJ ps
   simp only [Tk.KT.depth,Tk.KTs.depth]
   omega
theorem key_at {K:PySem.W.Frag} {H:Hp} {q:Addr} {x:Str} {ps:List Fr} (h:TrAt H (.ref q) (.tup [.str x, .tup (ps.map frT)])):KeyAt K H [.lf (.inr x), .tp (ps.map frK)] q:=by
 unfold TrAt at h
 obtain ⟨r,vs,e,h1,h2⟩:=h
 cases e
 obtain ⟨y,r1,rfl,h3,h4⟩:=h2.inv
 obtain ⟨z,r2,rfl,h5,h6⟩:=h4.inv
 unfold TrAt at h3 h5
 unfold TrsAt at h6
 subst h3 h6
 obtain ⟨b,zs,rfl,g1,g2⟩:=h5
 exact dk h1 g1 (jt g2)
end Wd
namespace L2
open PySem Tre Wd
theorem lA {t rest:TS} {Z:Ends} {σ:L2.St} {H:Hp} (R:L2.St→Hp→Prop) (hR:∀σ' H',R σ' H'→rest Z σ' H') (h:∀nx:L2.St→Hp→Prop,(∀σ' H',R σ' H'→nx σ' H')→t {Z with nx:=nx} σ H):tSeq t rest Z σ H:=h _ hR
theorem au {i:Nat} {v:V} {σ:L2.St} {H:Hp} {k:L2.St→Hp→Prop} (h:k (σ.set i (some v)) H):cw i v σ H k:=h
theorem tZ {Z:Ends} {σ:L2.St} {H:Hp} (h:Z.nx σ H):t8 Z σ H:=h
theorem jv {H:Hp} {v:V} {x:Str} {r:List Tr} (h:TrAt H v (.tup (.str x::r))):∃a vs,v= .ref a∧H a=some (.tup (.str x::vs))∧TrsAt H vs r:=by
 unfold TrAt at h
 obtain ⟨a,vs,e,h1,h2⟩:=h
 obtain ⟨y,r1,rfl,h3,h4⟩:=h2.inv
 unfold TrAt at h3
 subst h3
 exact ⟨a,r1,e,h1,h4⟩
theorem at2 {H:Hp} {v:V} {k:Str} {t:Tr} (h:TrAt H v (.tup [.str k,t])):∃a y,v= .ref a∧H a=some (.tup [.str k,y])∧TrAt H y t:=by
 obtain ⟨a,vs,e,h1,h2⟩:=jv h
 obtain ⟨y,r,rfl,h3,h4⟩:=h2.inv
 unfold TrsAt at h4
 subst h4
 exact ⟨a,y,e,h1,h3⟩
theorem at3 {H:Hp} {v:V} {k:Str} {t u:Tr} (h:TrAt H v (.tup [.str k,t,u])):∃a y z,v= .ref a∧H a=some (.tup [.str k,y,z])∧TrAt H y t∧TrAt H z u:=by
 obtain ⟨a,vs,e,h1,h2⟩:=jv h
 obtain ⟨y,r,rfl,h3,h4⟩:=h2.inv
 obtain ⟨z,r2,rfl,h5,h6⟩:=h4.inv
 unfold TrsAt at h6
 subst h6
 exact ⟨a,y,z,e,h1,h3,h5⟩
theorem at_s {H:Hp} {v:V} {x:Str} (h:TrAt H v (.str x)):v= .str x:=by
 unfold TrAt at h
 exact h
theorem at_t {H:Hp} {v:V} {ts:List Tr} (h:TrAt H v (.tup ts)):∃a vs,v= .ref a∧H a=some (.tup vs)∧TrsAt H vs ts:=by
 unfold TrAt at h
 exact h
theorem dF {H:Hp} {x:Str}:TrAt H (.str x) (.str x):=by unfold TrAt;rfl
theorem eK {H:Hp} {r:Addr} {vs:List V} {ts:List Tr} (h:H r=some (.tup vs)) (h1:TrsAt H vs ts):TrAt H (.ref r) (.tup ts):=by
 unfold TrAt
 exact ⟨r,vs,rfl,h,h1⟩
theorem iK {H:Hp} {v:V} {a b:Tr} (h:TrAt H v (.tup [a,b])):∃r x y,v= .ref r∧H r=some (.tup [x,y])∧TrAt H x a∧TrAt H y b:=by
 unfold TrAt at h
 obtain ⟨r,vs,e,h1,h2⟩:=h
 obtain ⟨x,r1,rfl,h3,h4⟩:=h2.inv
 obtain ⟨y,r2,rfl,h5,h6⟩:=h4.inv
 unfold TrsAt at h6
 subst h6
 exact ⟨r,x,y,e,h1,h3,h5⟩
theorem mV {H:Hp} {r:Addr} {x y:V} {a b:Tr} (h:H r=some (.tup [x,y])) (h1:TrAt H x a) (h2:TrAt H y b):TrAt H (.ref r) (.tup [a,b]):=by
 unfold TrAt
 exact ⟨r,_,rfl,h, .cons h1 (.cons h2 .nil)⟩
theorem i7 {n:Nat}:∀ {ts:List Tr},(∀t∈ts,t.depth≤n)→Trs.depth ts≤n
 | [],_=>by unfold Trs.depth;omega
 |t::ts,h=>by
  unfold Trs.depth
  have h1:=h t wP
  have h2:=i7 fun u m=>h u (wQ t m)
  omega
open PySem PySem.Spec PyProof.Rows
section
variable {X:Cx}
end
end L2
namespace Tre
open PySem L2
end Tre
namespace Su
open PySem L2 Tre Mth Wd
structure Gq (e:Nat) (p:Pq):Prop where
 ty:Ty .tm p.1
 dep:p.1.depth≤7
 gf:Gf e p.2
 sh:Sh p.2
open PySem L2 Tre Mth Wd
def negF (f:Fr):Fr:=(-f.1,f.2)
def neg (p:Pq):Pq:=(p.1,negF p.2)
def m1:Fr:=(-1,1)
def p1:Fr:=(1,1)
end Su
namespace L2
theorem if_f {c:Bool} {p q:Prop} (h:c=false) (hq:q):if c=true then p else q:=by
 rw [h,if_neg (by decide)]
 exact hq
theorem if_t {c:Bool} {p q:Prop} (h:c=true) (hp:p):if c=true then p else q:=by
 rw [h,if_pos rfl]
 exact hp
open PySem PySem.Spec PyProof.Rows
section
variable {X:Cx}
theorem fE:∀ {ys:List Str} {us:List Value},Vals (ys.map V.str) us→StrsAre us ys
 | [],_,r=>by cases r;exact .nil
 |y::ys,_,r=>by
  rw [wZ] at r
  cases r with
  |cons r1 r2=>
   obtain ⟨t,rfl⟩:=r1
   exact .cons y t (fE r2)
def wa (K:PySem.W.Frag):V→List V→Hp→VK→Prop:=fun x vs H Q=>∃(sep:Str) (l:Addr) (ys:List Str),x= .str sep∧vs= [.ref l]∧SqL K H l (ys.map V.str)∧(ys.map (·.length)).sum+ys.length*sep.length≤16777216∧Q (.str (Txt.join sep ys)) H
theorem rQ:MtM X "str.join" (wa X.K):=by
 intro pins s σ H x vs v us Q I rx rv h
 obtain ⟨sep,l,ys,rfl,rfl,hl,hz,q⟩:=h
 obtain ⟨t,rfl⟩:=rx
 obtain ⟨u,rfl,ru⟩:=rv.one
 cases ru
 obtain ⟨its,r,p,_⟩:=I.list hl
 exact PyProof.Rows.join_list p.isList (by simpa using fE r) hz fun t' k=>⟨.str _,H,I.tok k,⟨_,rfl⟩,q⟩
end
section
variable {X:Cx}
end
end L2
namespace Dec
open PySem PySem.NumText L2 Mth
theorem iU:∀(ys:List Str),cl (Txt.join (Str.ofString "") ys)=(ys.map cl).flatten:=by
 intro ys
 have e:Txt.join (Str.ofString "") ys=Str.join (Str.ofString "") ys:=StrLaws.glued_eq_join _ _
 have e0:cl (Str.ofString "")= []:=by decide +kernel
 rw [e]
 induction ys with
 |nil=>rfl
 |cons y ys ih=>
  cases ys with
  |nil=>
   show cl y= [cl y].flatten
   simp
  |cons z ys=>
   have e2:Str.join (Str.ofString "") (y::z::ys)=y++Str.ofString ""++Str.join (Str.ofString "") (z::ys):=rfl
   rw [e2,bp,bp,e0,ih (StrLaws.glued_eq_join _ _)]
   simp
theorem len_app (x y:Str):(x++y).length=x.length+y.length:=by rw [←bK,bp,wM,bK,bK]
end Dec
namespace Tw
open PySem L2 Tre Wd Mth Dec Su
mutual
noncomputable def tmC:Tr→List Nat
 | .tup (_:: .str x::r)=>match r with
  | []=>cl x
  |t::_=>40::cl x++tmK t++ [41]
 |_=> []
noncomputable def tmK:Tr→List Nat
 | .tup ts=>tmsC ts
 |_=> []
noncomputable def tmsC:List Tr→List Nat
 | []=> []
 |t::ts=>32::tmC t++tmsC ts
end
theorem dn (k x:Str):tmC (.tup [.str k, .str x])=cl x:=by rw [tmC]
theorem cT (k x:Str) (ts:List Tr):tmC (.tup [.str k, .str x, .tup ts])=40::cl x++tmsC ts++ [41]:=by rw [tmC,tmK]
noncomputable def spC (cs:List (List Nat)):List Nat:=(cs.map (32:: ·)).flatten
theorem dH:∀ts,tmsC ts=spC (ts.map tmC)
 | []=>by rw [tmsC];rfl
 |t::ts=>by
  rw [tmsC,dH ts]
  rfl
theorem qX (a b:List (List Nat)):spC (a++b)=spC a++spC b:=by
 unfold spC
 rw [xi,List.flatten_append]
theorem lv {B:Nat}:∀ {cs:List (List Nat)},(∀c∈cs,c.length≤B)→(spC cs).length≤cs.length*(B+1)
 | [],_=>xo _
 |c::cs,h=>by
  have h1:=h c wP
  have h2:=lv fun d m=>h d (wQ c m)
  have e:spC (c::cs)=(32::c)++spC cs:=rfl
  rw [e,wM,wV,wV,Nat.succ_mul]
  omega
theorem vK:cl (Str.ofString " ")= [32]:=by decide +kernel
theorem wo:cl (Str.ofString "(")= [40]:=by decide +kernel
theorem vU:cl (Str.ofString ")")= [41]:=by decide +kernel
theorem jI (y:Str) (ys:List Str):cl (Txt.join (Str.ofString " ") (y::ys))=cl y++spC (ys.map cl):=by
 have e:Txt.join (Str.ofString " ") (y::ys)=Str.join (Str.ofString " ") (y::ys):=StrLaws.glued_eq_join _ _
 rw [e]
 clear e
 induction ys generalizing y with
 |nil=>
  show cl y=cl y++spC []
  simp [spC]
 |cons z ys ih=>
  have e2:Str.join (Str.ofString " ") (y::z::ys)=y++Str.ofString " "++Str.join (Str.ofString " ") (z::ys):=rfl
  rw [e2,bp,bp,vK,ih z]
  simp [spC]
theorem oq {B:Nat}:∀ {ys:List Str},(∀y∈ys,y.length≤B)→(ys.map (·.length)).sum≤ys.length*B
 | [],_=>xo _
 |y::ys,h=>by
  have h1:=h y wP
  have h2:=oq fun z m=>h z (wQ y m)
  simp only [wZ,ya,wV]
  rw [Nat.succ_mul]
  omega
noncomputable def frC (p:Fr):List Nat:=txt p.1 p.2
structure Tb (t:Tr):Prop where
 ty:Ty .tm t
 dep:t.depth≤7
 len:(tmC t).length≤1000
structure Pb (p:Pq):Prop where
 tb:Tb p.1
 gf:Gf 200 p.2
noncomputable def prC (p:Pq):List (List Nat):= [frC p.2,tmC p.1]
def hd (k:Str):List Nat:=40::cl k
inductive Wx:Nat→Tr→List Nat→Prop
 |fl (n:Nat) (x:Str):x.length≤8→Wx n (.tup [s_ "flag", .str x]) (cl x)
 |mo (n:Nat) (ps:List Pq) (f:Fr):ps.length≤3→(∀p∈ps,Pb p)→Gf 200 f→Wx n (.tup [s_ "most", .tup (ps.map prT),frT f]) (hd "most"++spC (ps.flatMap prC++ [frC f])++ [41])
 |li (n:Nat) (t u:Tr):Tb t→Tb u→Wx n (.tup [s_ "like",t,u]) (hd "like"++spC [tmC t,tmC u]++ [41])
 |no (n:Nat) (t:Tr) (c:List Nat):Wx n t c→Wx (n+1) (.tup [s_ "not",t]) (hd "not"++spC [c]++ [41])
 |bo (n:Nat) (l:List (Tr×List Nat)):l.length≤3→(∀p∈l,Wx n p.1 p.2)→Wx (n+1) (.tup [s_ "both", .tup (l.map (·.1))]) (hd "all"++spC (l.map (·.2))++ [41])
 |ei (n:Nat) (l:List (Tr×List Nat)):l.length≤3→(∀p∈l,Wx n p.1 p.2)→Wx (n+1) (.tup [s_ "either", .tup (l.map (·.1))]) (hd "any"++spC (l.map (·.2))++ [41])
open PySem PyProof.Rows L2 Tre Wd Mth Dec Su
inductive Wi:Nat→Str→Tr→List (List Nat)→Prop
 |mo (n:Nat) (ps:List Pq) (f:Fr):ps.length≤3→(∀p∈ps,Pb p)→Gf 200 f→Wi n "most" (.tup [s_ "most", .tup (ps.map prT),frT f]) (ps.flatMap prC++ [frC f])
 |li (n:Nat) (t u:Tr):Tb t→Tb u→Wi n "like" (.tup [s_ "like",t,u]) [tmC t,tmC u]
 |no (n:Nat) (t:Tr) (c:List Nat):Wx n t c→Wi (n+1) "not" (.tup [s_ "not",t]) [c]
 |bo (n:Nat) (l:List (Tr×List Nat)):l.length≤3→(∀p∈l,Wx n p.1 p.2)→Wi (n+1) "both" (.tup [s_ "both", .tup (l.map (·.1))]) (l.map (·.2))
 |ei (n:Nat) (l:List (Tr×List Nat)):l.length≤3→(∀p∈l,Wx n p.1 p.2)→Wi (n+1) "either" (.tup [s_ "either", .tup (l.map (·.1))]) (l.map (·.2))
def FwP (k k':Str):Prop:=(k= "not"∧k'= "not")∨(k= "both"∧k'= "all")∨(k= "either"∧k'= "any")∨(k= "like"∧k'= "like")∨(k= "most"∧k'= "most")
theorem Wi.head {n:Nat} {k:Str} {t:Tr} {cs:List (List Nat)} (h:Wi n k t cs):(∃r,t= .tup (.str k::r))∧k≠"flag":=by
 cases h with
 |mo _ ps f h1 h2 h3=>exact ⟨⟨_,rfl⟩,by decide +kernel⟩
 |li _ t u h1 h2=>exact ⟨⟨_,rfl⟩,by decide +kernel⟩
 |no m t c h=>exact ⟨⟨_,rfl⟩,by decide +kernel⟩
 |bo m l h1 h2=>exact ⟨⟨_,rfl⟩,by decide +kernel⟩
 |ei m l h1 h2=>exact ⟨⟨_,rfl⟩,by decide +kernel⟩
section
variable {X:Cx} {D:Addr}
end
end Tw
namespace Trm
open PySem
inductive Tm where
 |nm (x:Str)
 |ap (f:Str) (ts:List Tm)
def Ltr (c:Nat):Prop:=97≤c∧c≤122
structure Nm (x:Str):Prop where
 pos:0 < x.length
 le:x.length≤8
 ltr:∀c∈x.cps.toList,Ltr c
mutual
noncomputable def Tm.depth:Tm→Nat
 | .nm _=>0
 | .ap _ ts=>Tms.depth ts+1
noncomputable def Tms.depth:List Tm→Nat
 | []=>0
 |t::ts=>max (Tm.depth t) (Tms.depth ts)
end
mutual
def Tm.Wf:Tm→Prop
 | .nm x=>Nm x
 | .ap f ts=>Nm f∧0 < ts.length∧ts.length≤3∧Tms.Wf ts
def Tms.Wf:List Tm→Prop
 | []=>True
 |t::ts=>Tm.Wf t∧Tms.Wf ts
end
mutual
noncomputable def Tm.all:Tm→List Tm
 | .nm x=> [.nm x]
 | .ap f ts=>Tms.all ts++ [.ap f ts]
noncomputable def Tms.all:List Tm→List Tm
 | []=> []
 |t::ts=>Tm.all t++Tms.all ts
end
mutual
noncomputable def Tm.shown:Tm→Str
 | .nm x=>x
 | .ap f ts=>Str.ofString "("++Txt.join (Str.ofString " ") (f::Tms.shown ts)++Str.ofString ")"
noncomputable def Tms.shown:List Tm→List Str
 | []=> []
 |t::ts=>Tm.shown t::Tms.shown ts
end
open PySem
def cl (x:Str):List Nat:=x.cps.toList
theorem bp (x y:Str):cl (x++y)=cl x++cl y:=by
 show (x.cps++y.cps).toList=_
 simp [cl]
theorem cl_inj {x y:Str} (h:cl x=cl y):x=y:=by
 cases x
 cases y
 simp only [Str.mk.injEq]
 exact Array.toList_inj.mp h
theorem bK (x:Str):(cl x).length=x.length:=by simp [cl,Str.length]
mutual
noncomputable def Tm.code:Tm→List Nat
 | .nm x=>cl x
 | .ap f ts=>40::(cl f++(Tms.code ts++ [41]))
noncomputable def Tms.code:List Tm→List Nat
 | []=> []
 |t::ts=>32::(Tm.code t++Tms.code ts)
end
theorem iU (f:Str):∀ys:List Str,cl (Str.join (Str.ofString " ") (f::ys))=cl f++ys.flatMap fun y=>32::cl y
 | []=>by
  show cl f=_
  simp
 |y::ys=>by
  show cl (f++Str.ofString " "++Str.join (Str.ofString " ") (y::ys))=_
  rw [bp,bp,iU y ys]
  have e:cl (Str.ofString " ")= [32]:=by decide +kernel
  rw [e]
  simp
mutual
theorem fM:∀t:Tm,cl t.shown=t.code
 | .nm x=>by simp [Tm.shown,Tm.code]
 | .ap f ts=>by
  have e1:cl (Str.ofString "(")= [40]:=by decide +kernel
  have e2:cl (Str.ofString ")")= [41]:=by decide +kernel
  have e3:Txt.join (Str.ofString " ") (f::Tms.shown ts)=Str.join (Str.ofString " ") (f::Tms.shown ts):=StrLaws.glued_eq_join _ _
  simp only [Tm.shown,Tm.code]
  rw [bp,bp,e1,e2,e3,iU,eM ts]
  simp
theorem eM:∀ts:List Tm,((Tms.shown ts).flatMap fun y=>32::cl y)=Tms.code ts
 | []=>by simp [Tms.shown,Tms.code]
 |t::ts=>by
  simp only [Tms.shown,Tms.code,List.flatMap_cons]
  rw [fM t,eM ts]
  simp
end
theorem nm_cl {x:Str} (h:Nm x):∃c l,cl x=c::l∧Ltr c:=by
 cases e:cl x with
 |nil=>
  have:=bK x
  rw [e] at this
  have:=h.pos
  simp at*
  omega
 |cons c l=>exact ⟨c,l,rfl,h.ltr c (by show c∈cl x;rw [e];exact wP)⟩
mutual
theorem jF:∀ {t:Tm} {n:Nat},t.Wf→t.depth≤n→t.code.length≤20*4^n
 | .nm x,n,w,_=>by
  unfold Tm.Wf at w
  have:1≤4^n:=Nat.one_le_pow _ _ (by decide)
  have h8:=w.le
  simp only [Tm.code,bK]
  omega
 | .ap f ts,n,w,h=>by
  unfold Tm.Wf at w
  unfold Tm.depth at h
  obtain ⟨m,rfl⟩:∃m,n=m+1:=⟨n - 1,by omega⟩
  have ih:=i8 (n:=m) w.2.2.2 (by omega)
  have:1≤4^m:=Nat.one_le_pow _ _ (by decide)
  have e:4^(m+1)=4*4^m:=by rw [Nat.pow_succ];omega
  have h8:=w.1.le
  have h3:ts.length*(20*4^m+1)≤3*(20*4^m+1):=Nat.mul_le_mul_right _ w.2.2.1
  simp only [Tm.code,wV,wM,xS,bK]
  rw [e]
  omega
theorem i8:∀ {ts:List Tm} {n:Nat},Tms.Wf ts→Tms.depth ts≤n→(Tms.code ts).length≤ts.length*(20*4^n+1)
 | [],n,_,_=>by simp [Tms.code]
 |t::ts,n,w,h=>by
  unfold Tms.Wf at w
  unfold Tms.depth at h
  have h1:=jF (n:=n) w.1 (by omega)
  have h2:=i8 (n:=n) w.2 (by omega)
  simp only [Tms.code,wM,wV]
  have e:(ts.length+1)*(20*4^n+1)=ts.length*(20*4^n+1)+(20*4^n+1):=Nat.succ_mul _ _
  rw [e]
  omega
end
theorem e8 {t:Tm} {n:Nat} (w:t.Wf) (h:t.depth≤n):t.shown.length≤20*4^n:=by
 rw [←bK,fM]
 exact jF w h
open Classical in
noncomputable def add (acc:List Tm) (t:Tm):List Tm:=if t∈acc then acc else acc++ [t]
noncomputable def firsts (acc ts:List Tm):List Tm:=ts.foldl add acc
end Trm
namespace Tw
open PySem L2 Tre Wd Mth Dec Su
abbrev Nm:=Trm.Nm
abbrev Ltr:=Trm.Ltr
inductive Lt:Tr→Prop
 |nm (x:Str):Nm x→Lt (.tup [s_ "name", .str x])
 |ap (f:Str) (ts:List Tr):Nm f→0 < ts.length→(∀t∈ts,Lt t)→Lt (.tup [s_ "call", .str f, .tup ts])
inductive Lw:Tr→Prop
 |fl (x:Str):Nm x→Lw (.tup [s_ "flag", .str x])
 |mo (ps:List Pq) (f:Fr):(∀p∈ps,Lt p.1)→Lw (.tup [s_ "most", .tup (ps.map prT),frT f])
 |li (t u:Tr):Lt t→Lt u→Lw (.tup [s_ "like",t,u])
 |no (t:Tr):Lw t→Lw (.tup [s_ "not",t])
 |bo (l:List Tr):(∀t∈l,Lw t)→Lw (.tup [s_ "both", .tup l])
 |ei (l:List Tr):(∀t∈l,Lw t)→Lw (.tup [s_ "either", .tup l])
def St (Q:Nat→Prop) (r:List Nat):Prop:=∀c l,r=c::l→¬Q c
theorem fQ {Q:Nat→Prop}:∀ {x y r s:List Nat},(∀c∈x,Q c)→(∀c∈y,Q c)→St Q r→St Q s→x++r=y++s→x=y∧r=s
 | [],[],_,_,_,_,_,_,e=>⟨rfl,e⟩
 | [],b::y,r,s,_,hy,hr,_,e=>absurd (hy b wP) (hr b _ e)
 |a::x,[],r,s,hx,_,_,hs,e=>absurd (hx a wP) (hs a _ e.symm)
 |a::x,b::y,r,s,hx,hy,hr,hs,e=>by
  rw [xW,xW] at e
  obtain ⟨e1,e2⟩:=List.cons.inj e
  obtain ⟨q1,q2⟩:=fQ (fun c m=>hx c (wQ _ m)) (fun c m=>hy c (wQ _ m)) hr hs e2
  exact ⟨by rw [e1,q1],q2⟩
theorem eZ {Q:Nat→Prop} {c:Nat} {l:List Nat} (h:¬Q c):St Q (c::l):=fun d m e=>by
 cases e
 exact h
def En (r:List Nat):Prop:=∀c l,r=c::l→c=32∨c=41
theorem En.st {Q:Nat→Prop} {r:List Nat} (h:En r) (h1:¬Q 32) (h2:¬Q 41):St Q r:=fun c l e=>by
 rcases h c l e with rfl|rfl
 · exact h1
 · exact h2
theorem En.nil:En []:=fun c l e=>by cases e
theorem En.b (l:List Nat):En (32::l):=fun c m e=>by cases e;exact .inl rfl
theorem En.k (l:List Nat):En (41::l):=fun c m e=>by cases e;exact .inr rfl
theorem iu (cs:List (List Nat)) (r:List Nat):En (spC cs++41::r):=by
 cases cs with
 |nil=>exact En.k r
 |cons c cs=>exact En.b _
theorem nl32:¬Ltr 32:=by unfold Ltr Trm.Ltr;omega
theorem nl41:¬Ltr 41:=by unfold Ltr Trm.Ltr;omega
theorem ou {α:Type} (c:α→List Nat) {Q:α→Prop}:∀ {ts us:List α} {r s:List Nat},(∀t∈ts,∀u,Q u→∀r s,En r→En s→c t++r=c u++s→t=u∧r=s)→(∀u∈us,Q u)→
 spC (ts.map c)++41::r=spC (us.map c)++41::s→ts=us∧r=s
 | [],[],r,s,_,_,e=>by
  simp only [spC,List.map_nil,List.flatten_nil,List.nil_append] at e
  exact ⟨rfl,(List.cons.inj e).2⟩
 | [],u::us,r,s,_,_,e=>by
  have e':41::r=32::(c u++spC (us.map c)++41::s):=by simpa [spC] using e
  cases e'
 |t::ts,[],r,s,_,_,e=>by
  have e':32::(c t++spC (ts.map c)++41::r)=41::s:=by simpa [spC] using e
  cases e'
 |t::ts,u::us,r,s,ht,hu,e=>by
  have e':32::(c t++(spC (ts.map c)++41::r))=32::(c u++(spC (us.map c)++41::s)):=by simpa [spC] using e
  obtain ⟨e1,e2⟩:=ht t wP u (hu u wP) _ _ (iu _ _) (iu _ _) (List.cons.inj e').2
  obtain ⟨e3,e4⟩:=ou c (fun t m=>ht t (wQ _ m)) (fun u m=>hu u (wQ _ m)) e2
  exact ⟨by rw [e1,e3],e4⟩
theorem nm_cl {x:Str} (h:Nm x):∃c l,cl x=c::l∧Ltr c:=Trm.nm_cl h
theorem iL {x:Str} (h:Nm x):∀c∈cl x,Ltr c:=h.ltr
theorem u6 {t:Tr} (h:Lt t):∀(u:Tr),Lt u→∀(r s:List Nat),En r→En s→tmC t++r=tmC u++s→t=u∧r=s:=by
 induction h with
 |nm x hx=>
  intro u hu r s hr hs e
  cases hu with
  |nm y hy=>
   unfold s_ at e ⊢
   rw [dn,dn] at e
   obtain ⟨e1,e2⟩:=fQ (iL hx) (iL hy) (hr.st nl32 nl41) (hs.st nl32 nl41) e
   exact ⟨by rw [cl_inj e1],e2⟩
  |ap g us hg h0 hu=>
   unfold s_ at e
   rw [dn,cT] at e
   obtain ⟨c,l,q,hc⟩:=nm_cl hx
   rw [q,xW] at e
   have:c=40:=(List.cons.inj e).1
   subst this
   unfold Ltr Trm.Ltr at hc
   omega
 |ap f ts hf h0 ht ih=>
  intro u hu r s hr hs e
  cases hu with
  |nm y hy=>
   unfold s_ at e
   rw [dn,cT] at e
   obtain ⟨c,l,q,hc⟩:=nm_cl hy
   rw [q,xW] at e
   have:40=c:=(List.cons.inj e).1
   subst this
   unfold Ltr Trm.Ltr at hc
   omega
  |ap g us hg h0' hu=>
   unfold s_ at e ⊢
   rw [cT,cT,dH,dH] at e
   have e':cl f++(spC (ts.map tmC)++41::r)=cl g++(spC (us.map tmC)++41::s):=by simpa using e
   obtain ⟨e1,e2⟩:=fQ (iL hf) (iL hg) ((iu _ _).st nl32 nl41) ((iu _ _).st nl32 nl41) e'
   obtain ⟨e3,e4⟩:=ou tmC ih hu e2
   exact ⟨by rw [cl_inj e1,e3],e4⟩
def Dg (c:Nat):Prop:=48≤c∧c≤57
structure Wy (n:Nat) (t:Tr) (c:List Nat):Prop where
 wx:Wx n t c
 lw:Lw t
end Tw
namespace Fs
section
variable {α:Type}
open Classical in
noncomputable def add (acc:List α) (t:α):List α:=if t∈acc then acc else acc++ [t]
noncomputable def firsts (acc ts:List α):List α:=ts.foldl add acc
end
end Fs
namespace Tw
open PySem L2 Tre Wd Mth Dec Su
noncomputable def tI:Tr→List Tr
 | .tup [.str k,u]=>if k= "not" then [u] else if k= "both"∨k= "either" then (match u with| .tup l=>l|_=> []) else []
 |_=> []
noncomputable def allN:Nat→Tr→List Tr
 |0,t=> [t]
 |n+1,t=>(tI t).flatMap (allN n)++ [t]
def Clo (acc:List Tr):Prop:=∀u∈acc,∀x∈tI u,x∈acc
end Tw
namespace Fm
open PySem L2 Tre Wd Mth Dec Su Tw
inductive Gt:Tr→Prop
 |nm (x:Str):Nm x→Gt (.tup [s_ "name", .str x])
 |ap (f:Str) (ts:List Tr):Nm f→0 < ts.length→ts.length≤3→(∀t∈ts,Gt t)→Gt (.tup [s_ "call", .str f, .tup ts])
theorem Gt.lt {t:Tr} (h:Gt t):Lt t:=by
 induction h with
 |nm x hx=>exact .nm x hx
 |ap f ts hf h0 h3 _ ih=>exact .ap f ts hf h0 ih
theorem Gt.ty {t:Tr} (h:Gt t):Ty .tm t:=by
 induction h with
 |nm x hx=>exact .nm x
 |ap f ts hf h0 h3 _ ih=>exact .ap f ts h3 ih
theorem Gt.inj {t u:Tr} (h:Gt t) (h':Gt u) (e:tmC t=tmC u):t=u:=(u6 h.lt u h'.lt [] [] En.nil En.nil (by rw [e])).1
def tk:Tr→List Tr
 | .tup [_,_, .tup ts]=>ts
 |_=> []
theorem t5 (x:Str):tk (.tup [s_ "name", .str x])= []:=rfl
theorem j0 (f:Str) (ts:List Tr):tk (.tup [s_ "call", .str f, .tup ts])=ts:=rfl
inductive Sb:Tr→Tr→Prop
 |refl (t:Tr):Sb t t
 |step {x u t:Tr}:u∈tk t→Sb x u→Sb x t
theorem Gt.tk {t u:Tr} (h:Gt t) (m:u∈tk t):Gt u∧u.depth < t.depth:=by
 cases h with
 |nm x hx=>rw [t5] at m;cases m
 |ap f ts hf h0 h3 hh=>
  rw [j0] at m
  refine ⟨hh u m,?_⟩
  have:=bx m
  simp only [Tr.depth,Trs.depth]
  omega
theorem Sb.iff {x t:Tr}:Sb x t↔x=t∨∃u∈tk t,Sb x u:=by
 constructor
 · intro h
   cases h with
   |refl=>exact .inl rfl
   |step m h=>exact .inr ⟨_,m,h⟩
 · rintro (rfl|⟨u,m,h⟩)
   · exact .refl _
   · exact .step m h
theorem Sb.depth {x t:Tr} (h:Sb x t):Gt t→Gt x∧x.depth≤t.depth:=by
 induction h with
 |refl=>exact fun g=>⟨g,wO _⟩
 |step m _ ih=>
  intro g
  obtain ⟨g1,g2⟩:=g.tk m
  obtain ⟨g3,g4⟩:=ih g1
  exact ⟨g3,by omega⟩
def Clt (acc:List Tr):Prop:=∀x∈acc,∀y∈tk x,y∈acc
theorem Clt.sb {acc:List Tr} (c:Clt acc) {x t:Tr} (h:Sb x t):t∈acc→x∈acc:=by
 induction h with
 |refl=>exact fun m=>m
 |step m _ ih=>exact fun ha=>ih (c _ ha _ m)
theorem sub_len {α:Type}:∀ {l U:List α},l.Nodup→(∀x∈l,x∈U)→l.length≤U.length
 | [],U,_,_=>xo _
 |x::l,U,h,hs=>by
  obtain ⟨h1,h2⟩:=xR.mp h
  obtain ⟨a,b,rfl⟩:=List.append_of_mem (hs x wP)
  have:l.length≤(a++b).length:=sub_len h2 fun y my=>by
   have:=hs y (wQ _ my)
   simp only [x4,wY] at this ⊢
   rcases this with h|rfl|h
   · exact .inl h
   · exact absurd my h1
   · exact .inr h
  simp only [wM,wV] at this ⊢
  omega
open Classical in
noncomputable def ix (us:List Tr) (t:Tr):Nat:=us.findIdx fun x=>decide (x=t)
open Classical in
theorem bh {us:List Tr} {t:Tr} (m:t∈us):us[ix us t]?=some t:=by
 unfold ix
 have h:us.findIdx (fun x=>decide (x=t)) < us.length:=List.findIdx_lt_length_of_exists ⟨t,m,by simp⟩
 have:=List.findIdx_getElem (w:=h)
 rw [wI h]
 exact congrArg some (of_decide_eq_true this)
theorem cq {us:List Tr} {t:Tr} (m:t∈us):ix us t < us.length:=(wK.mp (bh m)).1
theorem dS {α:Type} {l:List α} (h:l.Nodup) {i j:Nat} {x:α} (h1:l[i]?=some x) (h2:l[j]?=some x):i=j:=by
 obtain ⟨hi,e1⟩:=wK.mp h1
 obtain ⟨hj,e2⟩:=wK.mp h2
 have n:=List.nodup_iff_pairwise_ne.mp h
 rw [xU] at n
 rcases Nat.lt_trichotomy i j with q|q|q
 · exact absurd (e1.trans e2.symm) (n i j hi hj q)
 · exact q
 · exact absurd (e2.trans e1.symm) (n j i hj hi q)
theorem pR {us:List Tr} (nd:us.Nodup) {i:Nat} {t:Tr} (e:us[i]?=some t):ix us t=i:=dS nd (bh (wJ e)) e
abbrev cal (f:Str) (ts:List Tr):Tr:= .tup [s_ "call", .str f, .tup ts]
inductive Cg (S:List Tr) (L:List (Tr×Tr)):Tr→Tr→Prop
 |refl (t:Tr):Cg S L t t
 |symm {t u:Tr}:Cg S L t u→Cg S L u t
 |trans {t u v:Tr}:Cg S L t u→Cg S L u v→Cg S L t v
 |ax {p:Tr×Tr}:p∈L→Cg S L p.1 p.2
 |cong (f:Str) (as bs:List Tr):cal f as∈S→cal f bs∈S→as.length=bs.length→(∀(i:Nat) (a b:Tr),as[i]?=some a→bs[i]?=some b→Cg S L a b)→Cg S L (cal f as) (cal f bs)
def RS (us:List Tr) (L:List (Tr×Tr)) (rs:List Nat):Prop:=∀(i j:Nat) (t u:Tr),us[i]?=some t→us[j]?=some u→rs[i]?=rs[j]?→Cg us L t u
noncomputable def mrg (a b:Nat) (rs:List Nat):List Nat:=rs.map fun r=>if r=a then b else r
theorem dU (a b:Nat) (rs:List Nat):(mrg a b rs).length=rs.length:=wL _
theorem kh {a b:Nat} {rs:List Nat} {i j:Nat} (e:rs[i]?=rs[j]?):(mrg a b rs)[i]?=(mrg a b rs)[j]?:=by
 unfold mrg
 rw [wN,wN,e]
theorem pC {a b:Nat} {rs:List Nat} {i j:Nat} (e1:rs[i]?=some a) (e2:rs[j]?=some b):(mrg a b rs)[i]?=(mrg a b rs)[j]?:=by
 unfold mrg
 rw [wN,wN,e1,e2]
 by_cases z:b=a
 · simp [z]
 · simp [z]
theorem RS.mrg {us:List Tr} {L:List (Tr×Tr)} {rs:List Nat} (h:RS us L rs) (hl:rs.length=us.length) {p q a b:Nat} {t u:Tr} (hp:us[p]?=some t) (hq:us[q]?=some u) (c:Cg us L t u) (ea:rs[p]?=some a) (eb:rs[q]?=some b):RS us L (mrg a b rs):=by
 intro i j x y hi hj e
 have li:i < rs.length:=by rw [hl];exact (wK.mp hi).1
 have lj:j < rs.length:=by rw [hl];exact (wK.mp hj).1
 unfold Fm.mrg at e
 rw [wN,wN,wI li,wI lj] at e
 have e':(if rs[i]=a then b else rs[i])=(if rs[j]=a then b else rs[j]):=wT e
 have ga:∀ {k:Nat} {z:Tr} (lk:k < rs.length),us[k]?=some z→rs[k]=a→Cg us L z t:=fun lk hz e=>h _ p _ t hz hp (by rw [ea,wI lk,e])
 have gb:∀ {k:Nat} {z:Tr} (lk:k < rs.length),us[k]?=some z→rs[k]=b→Cg us L z u:=fun lk hz e=>h _ q _ u hz hq (by rw [eb,wI lk,e])
 by_cases zi:rs[i]=a
 · by_cases zj:rs[j]=a
   · exact (ga li hi zi).trans (ga lj hj zj).symm
   · rw [if_pos zi,if_neg zj] at e'
     exact ((ga li hi zi).trans c).trans (gb lj hj e'.symm).symm
 · by_cases zj:rs[j]=a
   · rw [if_neg zi,if_pos zj] at e'
     exact ((gb li hi e').trans c.symm).trans (ga lj hj zj).symm
   · rw [if_neg zi,if_neg zj] at e'
     exact h i j x y hi hj (by rw [wI li,wI lj,e'])
noncomputable def cnt (n:Nat) (rs:List Nat):Nat:=((List.range n).filter fun r=>decide (r∈rs)).length
theorem kQ (n:Nat) (rs:List Nat):cnt n rs≤n:=by
 have:=xN (fun r=>decide (r∈rs)) (List.range n)
 rw [x3] at this
 exact this
theorem mK {n a b:Nat} {rs:List Nat} (ha:a∈rs) (hb:b∈rs) (ne:a≠b) (hn:∀r∈rs,r < n):cnt n (mrg a b rs) < cnt n rs:=by
 unfold cnt
 have key:∀l:List Nat,(l.filter fun r=>decide (r∈mrg a b rs)).length+(if a∈l then 1 else 0)≤(l.filter fun r=>decide (r∈rs)).length:=by
  intro l
  have mem:∀r,r∈mrg a b rs→r∈rs∧r≠a:=fun r m=>by
   unfold mrg at m
   obtain ⟨x,mx,e⟩:=xq.mp m
   by_cases z:x=a
   · rw [if_pos z] at e
     subst e
     exact ⟨hb,ne.symm⟩
   · rw [if_neg z] at e
     subst e
     exact ⟨mx,z⟩
  induction l with
  |nil=>simp
  |cons x l ih=>
   rw [List.filter_cons,List.filter_cons]
   by_cases z:x=a
   · subst z
     have n1:decide (x∈mrg x b rs)=false:=decide_eq_false fun m=>(mem x m).2 rfl
     rw [n1,if_neg (by simp),decide_eq_true ha,if_pos rfl,if_pos wP,wV]
     have h2:(if x∈l then 1 else 0)≥0:=xo _
     omega
   · have e:(if a∈x::l then 1 else 0)=(if a∈l then 1 else 0):=by
      by_cases m:a∈l
      · rw [if_pos (wQ _ m),if_pos m]
      · rw [if_neg m,if_neg]
        simp only [wY,not_or]
        exact ⟨fun q=>z q.symm,m⟩
     rw [e]
     by_cases m:x∈mrg a b rs
     · rw [decide_eq_true m,if_pos rfl,decide_eq_true (mem x m).1,if_pos rfl,wV,wV]
       omega
     · rw [decide_eq_false m]
       rw [if_neg x9]
       by_cases m2:x∈rs
       · rw [decide_eq_true m2,if_pos rfl,wV]
         omega
       · rw [decide_eq_false m2]
         exact ih
 have:=key (List.range n)
 rw [if_pos (xj.mpr (hn a ha))] at this
 omega
def Cs (us:List Tr) (rs:List Nat):Prop:=∀(i j:Nat) (f:Str) (as bs:List Tr),us[i]?=some (cal f as)→us[j]?=some (cal f bs)→as.map (fun a=>rs[ix us a]?)=bs.map (fun b=>rs[ix us b]?)→rs[i]?=rs[j]?
def Ls (us:List Tr) (L:List (Tr×Tr)) (rs:List Nat):Prop:=∀p∈L,rs[ix us p.1]?=rs[ix us p.2]?
theorem sF {us:List Tr} {L:List (Tr×Tr)} {rs:List Nat} (nd:us.Nodup) (cs:Cs us rs) (ls:Ls us L rs) {t u:Tr} (h:Cg us L t u):rs[ix us t]?=rs[ix us u]?:=by
 induction h with
 |refl=>rfl
 |symm _ ih=>exact ih.symm
 |trans _ _ ih1 ih2=>exact ih1.trans ih2
 |ax m=>exact ls _ m
 |cong f as bs h1 h2 hl _ ih=>
  refine cs _ _ f as bs (bh h1) (bh h2) (xL fun i=> ?_)
  rw [wN,wN]
  by_cases hi:i < as.length
  · rw [wI hi,wI (show i < bs.length by omega)]
    exact congrArg some (ih i _ _ (wI hi) (wI (by omega)))
  · rw [xa (by omega),xa (by omega)]
theorem gr {us:List Tr} {L:List (Tr×Tr)} {rs:List Nat} (nd:us.Nodup) (hs:RS us L rs) (cs:Cs us rs) (ls:Ls us L rs) {t u:Tr} (ht:t∈us) (hu:u∈us):rs[ix us t]?=rs[ix us u]?↔Cg us L t u:=
 ⟨fun e=>hs _ _ _ _ (bh ht) (bh hu) e,sF nd cs ls⟩
end Fm
namespace L2
open PySem PySem.Spec PyProof.Rows Zp
def Ite (K:PySem.W.Frag) (a:Addr):It:=
 ⟨fun i H=>∃xs x,SqL K H a xs∧xs[i]?=some x,
  fun i H v H'=>∃T x,v= .ref T∧H T=none∧H'=upd H T (.tup [.int i,x])∧(∀xs,SqL K H a xs→xs[i]?=some x)∧i < sizeLine,
  fun i H=>∃xs,SqL K H a xs∧xs.length≤i⟩
theorem ng {P:Program} {w:World} {K:PySem.W.Frag} {es:List Expr} {kk:Nat} {pos:Pos} (a e it:Addr) (hd:e≠it):
 Turn P w K (.Tuple es kk pos) (Ite K a) [e,it] e (fun i h=>(∃old,IsEnum h e it i old)∧h.IsListIter it a i∧a∉ [e,it]) where
 mem:=by simp
 obj:=fun i h ⟨⟨u,h1⟩,h2,_⟩ c hc=>by
  simp only [wY,xc,or_false] at hc
  rcases hc with rfl|rfl
  · exact ⟨_,h1,fun v e=>by cases (show Data.fields _=Data.cell v from e)⟩
  · obtain ⟨o,e1,_,e3⟩:=h2
    exact ⟨o,e1,fun v e=>by rw [e3] at e;cases e⟩
 keep:=fun i h h' ⟨⟨u,h1⟩,h2,h3⟩ kp=>⟨⟨u,kp e (by simp) _ h1⟩,h2.at fun o x=>kp it (by simp) o x,h3⟩
 item:=by
  intro X hP hw hK hc i pins s σ H E I hf ⟨⟨u0,h1⟩,h2,h6⟩ hg
  subst hP hw hK
  obtain ⟨xs,x,g1,g3⟩:=hg
  obtain ⟨as,r1,p1,z1⟩:=I.list g1
  obtain ⟨u,e1,q1⟩:=r1.get g3
  have p1:=p1.isList
  simp only [wY,xc,or_false,not_or] at h6
  refine wpAny_pyNext_enum_item h1 h2 p1 (x:=u) (by simpa using e1) hd fun h' a1 a3 a5 a6 up=>⟨_,rfl,?_⟩
  refine wpAny_letOwnedTupleGo_enum (s:= {s with heap:=h',toks:=s.toks+1}) a1 fun h'' b1 sb=> ?_
  have fr:H s.heap.objs.size=none:=I.hok.fresh (wO _)
  have lt:∀ {c:Addr} {o:Obj},s.heap.get? c=some o→c≠s.heap.objs.size:=fun e=>wW (Heap.lt_size e)
  have all:∀c o,c∉ [e,it]→s.heap.get? c=some o→h''.get? c=some o:=fun c o n ee=>by
   simp only [wY,xc,or_false,not_or] at n
   exact sb.extBut c o n.1 (up c o n.1 n.2 ee)
  have nz:s.heap.objs.size≠e:=(lt h1).symm
  have pT:h''.get? s.heap.objs.size=some {cls:= .type "tuple",data:= .seq #[.int i s.toks,u]}:=sb.extBut _ _ nz a5
  have fp:∀b∈ [e,it],upd H s.heap.objs.size (.tup [.int i,x]) b=none:=fun c hc=>by
   have nc:c≠s.heap.objs.size:=by
    simp only [wY,xc,or_false] at hc
    rcases hc with rfl|rfl
    · exact lt h1
    · obtain ⟨o,ee,_⟩:=h2
      exact lt ee
   rw [af nc]
   exact (hf c hc).1
  refine ⟨.ref s.heap.objs.size,upd H s.heap.objs.size (.tup [.int i,x]),?_,rfl,⟨_,x,rfl,fr,rfl,fun zs hz=> ?_,xb (wK.mp g3).1 z1⟩,⟨⟨u,by simpa using b1⟩,?_,?_⟩,fp⟩
  ·
   refine I.call' (s':= {s with heap:=h'',toks:=s.toks+1}) (ch:= [e,it]) rfl ⟨fun b o e _ _ hx=>all b o hx e,fun b o e _ _ hx=>⟨o.slots,all b o hx e⟩,fun c o e n _=>by rw [af (lt e)];exact n,fun b o e hx=>⟨o,all b o hx e⟩,fun c zs e=>by rw [af (ar e fr)];exact e,fun c o zs e=>by rw [af (ar e fr)];exact e,fun c ps e=>⟨#[],by rw [af (ar e fr),e];simp⟩⟩ ?_ I.bare fun b hb=> ?_
   · intro c o ee
     by_cases hcT:c=s.heap.objs.size
     · subst hcT
       rw [a9] at ee
       cases ee
       exact ⟨by show 2≤sizeLine;decide,[.int i s.toks,u], .cons ⟨_,rfl⟩ (.cons q1 .nil),⟨_,pT,rfl,_,rfl⟩⟩
     · rw [af hcT] at ee
       have nb:∀c u,H c=some u→c∉ [e,it]:=fun c u e hz=>by rw [(hf c hz).1] at e;cases e
       refine (I.hok c o ee).stay (fun d v hc q=>all d v ?_ q) (fun d q=> ?_) fun d m q=> ?_
       · rcases hc with hz|hz
         · rw [hz];exact nb c o ee
         · exact nb d _ hz
       · rw [af (ar q fr)];exact q
       · rw [af (ar q fr)];exact q
   · obtain ⟨g0,g1,g2,g3,g4,g5⟩:=hf b hb
     exact ⟨g3,g1,g4,g5⟩
  · rw [I.list_inj hz g1];exact g3
  · exact a3.extBut sb.extBut hd.symm
  · simpa using h6
 done:=by
  intro X hP hw hK hc i pins s σ H E I hf ⟨⟨u0,h1⟩,h2,h6⟩ hg
  subst hP hw hK
  obtain ⟨xs,g1,g3⟩:=hg
  obtain ⟨as,r1,p1,z1⟩:=I.list g1
  have hl:=r1.length
  refine wpAny_pyNext_enum_end (I.ok.hd hc) h1 h2 p1.isList (by simp;omega) fun h' up=>⟨rfl,I.turneds (t':=s.toks) (fun c o n ee=> ?_) hf⟩
  simp only [wY,xc,or_false,not_or] at n
  exact up c o n.2 ee
 self:=fun _ _ _ _ _ st h=>by
  obtain ⟨⟨u,h1⟩,_⟩:=st
  exact wpAny_pyIter_enum h1 h
section
variable {X:Cx}
def pW (K:PySem.W.Frag) (ta:TA):TI:=fun σ H R=>ta σ H fun vs H1=>∃a xs,vs= [.ref a]∧SqL K H1 a xs∧R (Ite K a) H1
theorem iF {es:List Expr} {kk:Nat} {pt:Pos} {x:Expr} {ta:TA} {p pos:Pos} (hg:Gl X "enumerate") (hm:X.mg "enumerate"=none) (ha:PA X [x] ta) (hs:starEach [x] X.env= [(false,eval x X.env)]:=by rfl):
 PI X (.Tuple es kk pt) (.Call (.Name "enumerate" p) [x] [] pos) (pW X.K ta):=by
 intro pins s σ H R I h
 refine Call_ (eG I hg hm PyProof.Rows.boot_enumerate (PyProof.Rows.callWith_type1 (thn (ha pos pins s σ H _ I h) fun us s1 ⟨vs,H1,I1,r1,q1⟩=> ?_) (by rw [hs];rfl) rfl))
 obtain ⟨a,xs,e,k1,q⟩:=q1
 subst e
 cases r1 with
 |cons r rr=>
  cases rr
  cases r
  obtain ⟨as,_,p1,_⟩:=I1.list k1
  have p1:=p1.isList
  have lta:a < s1.heap.objs.size:=by
   obtain ⟨o,e,_⟩:=p1
   exact Heap.lt_size e
  refine call_enumerate_list p1 fun h' h1 h2 sz up=> ?_
  refine wpAny_pyIter_enum (s:= {s1 with heap:=h'}) h1 ?_
  have na:∀j,a≠s1.heap.objs.size+j:=fun j=>wW (xb lta (Nat.le_add_right ..))
  have le:∀c∈ [s1.heap.objs.size+1,s1.heap.objs.size+0],s1.heap.objs.size≤c:=fun c hc=>by
   simp only [wY,xc,or_false] at hc
   rcases hc with rfl|rfl<;>exact Nat.le_add_right ..
  refine ⟨s1.heap.objs.size+1,[s1.heap.objs.size+1,s1.heap.objs.size+0],_,_,H1,rfl,I1.kept (t':=s1.toks) up,ng a _ _ (by simp),⟨⟨_,h1⟩,h2,?_⟩,fun c hc=>I1.fpOk (le c hc) (I1.hok.fresh (le c hc)),q⟩
  simp only [wY,xc,or_false,not_or]
  exact ⟨na 1,na 0⟩
end
theorem nQ {K:PySem.W.Frag} {a:Addr} {mp:List (Option Nat)} {ta:TA} {g:TG} {te:TE} {Q:VK} {σ:L2.St} {H1:Hp} {xs:List V}
 (ha:∀Q:List V→Hp→Prop,Q [.ref a] H1→ta σ H1 Q) (h1:SqL K H1 a xs)
 (h:∀D,H1 D=none→∃Pv:Nat→List V→Hp→Prop,Pv 0 [] (upd H1 D (.lst []))∧(∀i acc H,Pv i acc H→SqL K H a xs)∧
  (∀i T x acc H,i < xs.length→i < sizeLine→Pv i acc H→xs[i]?=some x→H T=none→g (.ref T) (subS mp σ) (upd H T (.tup [.int i,x])) fun σ4 H4=>Ext (subS mp σ) σ4∧te σ4 H4 (CompN xs.length i D acc Pv))∧∀acc H,Pv xs.length acc H→Q (.ref D) H):
 dL mp (pW K ta) g dr te σ H1 Q:=by
 unfold dL
 refine ha _ ⟨a,xs,rfl,h1,fun D nD=> ?_⟩
 obtain ⟨Pv,p0,pq,ps,pd⟩:=h D nD
 refine ⟨fun i m acc H=>m=xs.length - i∧i≤xs.length∧Pv i acc H,⟨xs.length,by simp,xo _,p0⟩,?_⟩
 rintro i m acc H ⟨rfl,hi,p⟩
 have q1:=pq i acc H p
 by_cases hlt:i < xs.length
 · refine .inr ⟨⟨xs,xs[i],q1,by simp [hlt]⟩,?_⟩
   rintro v H' ⟨T,x,rfl,nT,rfl,y1,z⟩
   exact ps i T x acc H hlt z p (y1 xs q1) nT
 · have ei:i=xs.length:=by omega
   subst ei
   exact .inl ⟨⟨xs,q1,wO _⟩,pd acc H p⟩
section
open PySem
variable {prog:Program} {w:World} {A:Around} {R:Result→Shared→Prop} {s:Shared}
theorem jC {kx vx target iter:Expr} {ifs:List Expr} {scope:Scope} {pos:Pos} {it:Value} {D:Addr} {env:Env} (I:Nat→Shared→Prop)
 (turn:∀n s,I n s→wpAny (model prog w) A (pyNext it) (fun r s₁=>match r with
  |none=>R (.ok .next) s₁
  |some v=>wpAny (model prog w) A (letOwnedTupleGo target it v) (fun _ s₁'=>wpAny (model prog w) A (assign target env v) (fun _ s₂=>
   wpAny (model prog w) A (forIn ifs true fun c r=>if r=true then do let ok←isTrue c env (eval c env);pure (ForInStep.yield ok) else pure (ForInStep.yield r)) (fun ok s₃=>
    if ok=true then wpAny (model prog w) A (eval kx env) (fun kv s₄=>wpAny (model prog w) A (eval vx env) (fun vv s₅=>
     wpAny (model prog w) A (dictSet D kv vv) (fun _ s₆=>∃m,m < n∧I m s₆) (fun _ _=>False) s₅) (fun _ _=>False) s₄) (fun _ _=>False) s₃
    else∃m,m < n∧I m s₃) (fun _ _=>False) s₂) (fun _ _=>False) s₁') (fun _ _=>False) s₁) (fun _ _=>False) s)
 (n:Nat) (h:I n s):codeAny (model prog w) A (.compLoop (.DictComp kx vx [⟨target,iter,ifs,0⟩] scope pos) 0 it (.ref D) env) R s:=by
 refine codeAny_loop rfl I (fun n s hI=> ?_) n h
 show wpAny _ A ((compTurn (.DictComp kx vx [⟨target,iter,ifs,0⟩] scope pos) 0 it (.ref D) env).onRaise (fun x=>do noteFrame x env;theTreesLotGoes x)) _ _ s
 refine wpAny_noted ?_
 rw [compTurn_dict]
 refine wpAny_bind (wpAny_standAt (wpAny_bind (wpAny_mono (turn n s hI) (fun r s₁ h₁=> ?_) fun _ _ z=>z.elim)))
 cases r with
 |none=>exact wpAny_pure h₁
 |some v=>
  refine wpAny_bind (wpAny_mono h₁ (fun _ s₁' h₁'=> ?_) fun _ _ z=>z.elim)
  refine wpAny_bind (wpAny_mono h₁' (fun _ s₂ h₂=>wpAny_bind (wpAny_mono h₂ (fun ok s₃ h₃=> ?_) fun _ _ z=>z.elim)) fun _ _ z=>z.elim)
  cases ok with
  |false=>exact wpAny_pure ⟨rfl,h₃⟩
  |true=>
   exact wpAny_bind (wpAny_bind (wpAny_mono h₃ (fun kv s₄ h₄=>wpAny_bind (wpAny_holding (wpAny_mono h₄ (fun vv s₅ h₅=>wpAny_bind (wpAny_standAt (wpAny_holding (wpAny_mono h₅ (fun _ s₆ h₆=>wpAny_pure ⟨rfl,h₆⟩) fun _ _ z=>z.elim)))) fun _ _ z=>z.elim))) fun _ _ z=>z.elim))
end
open PySem PySem.Spec PyProof.Rows
def jS (mp:List (Option Nat)) (wi:TI) (g:TG) (tc:TT) (tk te:TE):TE:=fun σ H Q=>wi σ H fun J H1=>∀D,H1 D=none→
 ∃W:Nat→Nat→List (Key×V)→Hp→Prop,(∃m,W 0 m [] (upd H1 D (.dK [])))∧∀i m acc H2,W i m acc H2→
  (J.stop i H2∧Q (.ref D) H2)∨
  (J.go i H2∧∀x H3,J.yld i H2 x H3→g x (subS mp σ) H3 fun σ4 H4=>Ext (subS mp σ) σ4∧tc σ4 H4 fun b H5=>if b=true then tk σ4 H5 fun y H6=>∃k,y=kV k∧te σ4 H6 fun v H7=>H7 D=some (.dK acc)∧acc.length < sizeLine∧∃m',m' < m∧W (i+1) m' (putK acc k v) (upd H7 D (.dK (putK acc k v)))
   else∃m',m' < m∧W (i+1) m' acc H5)
section
variable {X:Cx} {pins:List (Addr×Obj)} {σ:St} {H:Hp} {s:Shared}
variable {kx vx target iter:Expr} {ifs:List Expr} {scope:Scope} {NC:List Str} {mp:List (Option Nat)} {pos:Pos} {wi:TI} {g:TG} {tc:TT} {tk te:TE}
theorem pc (hcalm:X.calm=true) (hi:PI X target iter wi) (hg:∀C s H fp pn,PG (XC X scope NC C s H fp pn) target g) (ht:∀C s H fp pn,PTs (XC X scope NC C s H fp pn) ifs tc) (hkx:∀C s H fp pn,PE (XC X scope NC C s H fp pn) kx tk) (he:∀C s H fp pn,PE (XC X scope NC C s H fp pn) vx te)
 (hl:mp.length=NC.length:=by rfl) (hm:fY X.N NC mp scope.names X.env.scope.names=true:=by rfl) (hc:bQ scope.names X.env.cells=true:=by rfl) (hk:scope.kind= .function:=by rfl)
 (hnc:∀y∈scope.names,y.2≠ .cell:=by decide +kernel) (hnm:∀y∈scope.names,y.2= .local→scope.names.lookup y.1=some .local:=by decide +kernel) (hs:∀x,foldedSetIterable iter X.env x=pure x:=by intro _;rfl):
 PE X (.DictComp kx vx [⟨target,iter,ifs,0⟩] scope pos) (jS mp wi g tc tk te):=by
 intro pins s σ H Q I h
 rw [arm_eval_DictComp]
 refine wpAny_comprehension_free (use:=none) rfl hs (fq hc) hk hnm (thn (hi pins s σ H _ I h) fun v s1 h1=>thn h1 fun itv s2 h2=> ?_)
 obtain ⟨it,fp,tn,J,H2,e,I2,T,st2,f2,W⟩:=h2
 subst e
 refine wpAny_newObj_type ?_
 have nD:H2 s2.heap.objs.size=none:=I2.hok.fresh (wO _)
 have I3:Inv X pins σ (upd H2 s2.heap.objs.size (.dK [])) {s2 with heap:=s2.heap.push {cls:= .type "dict",data:= .dict #[]}}:=
  I2.laid (t':=s2.toks) (fun b u e=>Heap.get?_push_of_some _ e) (wO _) (gx s2.heap I2.big)
 obtain ⟨W,⟨m0,w0⟩,turn⟩:=W _ nD
 have lt2:∀b∈fp,b < s2.heap.objs.size:=fun b hb=>by
  obtain ⟨o,e,_⟩:=T.obj 0 _ st2 b hb
  exact Heap.lt_size e
 have nDf:∀b∈fp,b≠s2.heap.objs.size:=fun b hb=>wW (lt2 b hb)
 have f3:∀b∈fp,FpOk X pins (upd H2 s2.heap.objs.size (.dK [])) b:=fun b hb=>by
  obtain ⟨g0,g1⟩:=f2 b hb
  exact ⟨by rw [af (nDf b hb)];exact g0,g1⟩
 have st3:tn 0 (s2.heap.push {cls:= .type "dict",data:= .dict #[]}):=T.keep 0 _ _ st2 fun b _ o e=>Heap.get?_push_of_some _ e
 have lt3:∀b∈fp,b < (s2.heap.push {cls:= .type "dict",data:= .dict #[]}).objs.size:=fun b hb=>by
  rw [Heap.size_push]
  exact xP (lt2 b hb)
 generalize hD:s2.heap.objs.size=D at*
 generalize hs3:({s2 with heap:=s2.heap.push {cls:= .type "dict",data:= .dict #[]}}:Shared)=s3 at*
 have hh3:s3.heap=s2.heap.push {cls:= .type "dict",data:= .dict #[]}:=by rw [←hs3]
 rw [←hh3] at st3 lt3
 generalize hH3:upd H2 D (.dK [])=H3 at*
 refine wpAny_newFunctionEnv (around:=some X.env) hnc (by intro y hy;cases hy) (fun h4 hn4 hsb4=> ?_) hk
 have kp4:∀b o,s3.heap.get? b=some o→h4.get? b=some o:=fun b o e=>hsb4.extBut b o (wW (Heap.lt_size e)) (Heap.get?_push_of_some _ e)
 have I4:=I3.block (tk:=s3.toks+([]:List (Str×Value)).length) f3 lt3 hk hnc hc hl hm kp4 hn4
 have st4:tn 0 h4:=T.keep 0 _ _ st3 fun b _ o e=>kp4 b o e
 have fin:∀(s5:Shared) (σ5:St) (H5:Hp),Inv (XC X scope NC s3.heap.objs.size s3 H3 fp (X.pn++pins)) [] σ5 H5 s5→Q (.ref D) H5→compPost (model X.prog X.w) X.A X.xe none (EP X pins σ Q) (.ref D) s3.heap.objs.size (.ok .next) s5:=by
  intro s5 σ5 H5 I5 q5
  obtain ⟨m5,hn5,_⟩:=id I5.loc
  refine ⟨m5,hn5,fun h6 sb6=>⟨.ref D,H5,?_,rfl,q5⟩⟩
  have kp6:∀b o,b≠s3.heap.objs.size→s5.heap.get? b=some o→h6.get? b=some o:=fun b o hb e=>sb6.extBut b o hb e
  have nC:∀b o,s3.heap.get? b=some o→b≠s3.heap.objs.size:=fun b o e=>wW (Heap.lt_size e)
  have un:Un (frs X.stack) fp H3 H5 s3.heap s5.heap:=I5.base
  have hfree:H5 s3.heap.objs.size=none:=I5.free
  refine I3.call' (s':= {s5 with heap:=h6}) (ch:=fp) I5.os ⟨fun b o e n hb hx=>kp6 b o (nC b o e) (un.keep b o e n hb hx),fun b o e n hb hx=> ?_,un.free,fun b o e hx=> ?_,un.tups,un.frzs,un.tbls⟩ ?_ I5.bare (fun b hb=> ?_)
  · obtain ⟨sl,e1⟩:=un.slot b o e n hb hx
    exact ⟨sl,kp6 b _ (nC b o e) e1⟩
  · obtain ⟨o',e1⟩:=un.there b o e hx
    exact ⟨o',kp6 b o' (nC b o e) e1⟩
  · intro b o e
    have nb:b≠s3.heap.objs.size:=fun z=>by rw [z,hfree] at e;cases e
    refine (I5.hok b o e).stay (fun c v hc' r=>kp6 c v ?_ r) (fun _ r=>r) fun _ _ r=>r
    rcases hc' with z|z
    · rw [z];exact nb
    · intro y
      rw [y,hfree] at z
      cases z
  · obtain ⟨g0,g1,g2,g3,g4,g5⟩:=f3 b hb
    exact ⟨g3,g1,g4,g5⟩
 have loop:codeAny (model X.prog X.w) X.A (.compLoop (.DictComp kx vx [⟨target,iter,ifs,0⟩] scope pos) 0 (.ref it) (.ref D) (compEnvC scope (c7 scope.names X.env.cells []) s3.heap.objs.size X.env)) (compPost (model X.prog X.w) X.A X.xe none (EP X pins σ Q) (.ref D) s3.heap.objs.size)
  {s3 with heap:=h4,toks:=s3.toks+([]:List (Str×Value)).length}:=by
  refine jC (fun n s'=>∃i acc σ' H',Inv (XC X scope NC s3.heap.objs.size s3 H3 fp (X.pn++pins)) [] σ' H' s'∧Ext (subS mp σ) σ'∧tn i s'.heap∧(∀b∈fp,H' b=none)∧W i n acc H') ?_ m0
   ⟨0,[],subS mp σ,H3,I4,fun _ _ e=>e,st4,fun b hb=>(f3 b hb).1,w0⟩
  rintro n s5 ⟨i,acc,σ5,H5,I5,hσ,st5,fr5,w5⟩
  have I5':Inv (XC X scope NC s3.heap.objs.size s3 H3 fp (X.pn++pins)) [] (subS mp σ) H5 s5:=I5.weak (by rw [I5.len];unfold subS;rw [wL];exact hl) hσ
  have fpk:∀ {H':Hp},(∀b∈fp,H' b=none)→∀b∈fp,FpOk (XC X scope NC s3.heap.objs.size s3 H3 fp (X.pn++pins)) [] H' b:=fun hn b hb=>by
   obtain ⟨g0,g1,g2,g3,g4,g5⟩:=f3 b hb
   refine ⟨hn b hb,wW (lt3 b hb),?_, .inl hb,(I4.ok.exf b hb).2,fun p hp=>g5 p (by simpa using hp)⟩
   exact I4.ok.exfs b hb
  rcases turn i n acc H5 w5 with ⟨stop,q⟩|⟨go,step⟩
  · refine thn (T.done (XC X scope NC s3.heap.objs.size s3 H3 fp (X.pn++pins)) rfl rfl rfl hcalm i [] s5 _ H5 (fun _ _=>False) I5' (fpk fr5) st5 stop) fun r s6 ⟨hr,I6⟩=> ?_
    subst hr
    exact fin s6 _ H5 I6 q
  · refine thn (T.item (XC X scope NC s3.heap.objs.size s3 H3 fp (X.pn++pins)) rfl rfl rfl hcalm i [] s5 _ H5 (fun _ _=>False) I5' (fpk fr5) st5 go) fun r s6 ⟨u,hr,h6⟩=> ?_
    subst hr
    refine thn h6 fun _ s7 ⟨x,H7,I7,r7,y7,st7,fr7⟩=> ?_
    have I7':=I7.pinned (fpk fr7) (T.obj _ _ st7)
    refine thn (hg _ _ _ _ _ _ s7 _ H7 x u _ I7' r7 (step x H7 y7)) fun _ s8 ⟨σ8,H8,I8,ext8,q8⟩=> ?_
    refine thn (ht _ _ _ _ _ _ s8 σ8 H8 _ I8 q8) fun ok s9 ⟨H9,I9,q9⟩=> ?_
    have again:∀ {σ':St} {H':Hp} {s':Shared} {acc':List (Key×V)} {m':Nat},Inv (XC X scope NC s3.heap.objs.size s3 H3 fp (X.pn++pins)) ([]++cD fp s7.heap) σ' H' s'→Ext (subS mp σ) σ'→m' < n→W (i+1) m' acc' H'→
     ∃m,m < n∧∃i acc σ' H',Inv (XC X scope NC s3.heap.objs.size s3 H3 fp (X.pn++pins)) [] σ' H' s'∧Ext (subS mp σ) σ'∧tn i s'.heap∧(∀b∈fp,H' b=none)∧W i m acc H':=by
     intro σ' H' s' acc' m' I' hσ' hm' w'
     refine ⟨m',hm',i+1,acc',σ',H',I'.unpinned,hσ',T.keep _ _ _ st7 fun b hb o e=>(I'.pin (b,o) (wR _ (wR _ (aV hb e)))).1,fun b hb=> ?_,w'⟩
     obtain ⟨o,e,d⟩:=T.obj _ _ st7 b hb
     exact (I'.pin (b,o) (wR _ (wR _ (aV hb e)))).2.1
    cases ok with
    |false=>
     rw [if_neg x9] at q9
     rw [if_neg x9]
     obtain ⟨m',hm',w'⟩:=q9
     exact again I9 ext8 hm' w'
    |true=>
     rw [if_pos rfl] at q9
     rw [if_pos rfl]
     refine thn (hkx _ _ _ _ _ _ s9 σ8 H9 _ I9 q9) fun kv s10 ⟨y,H10,I10,r10,k,ek,qv⟩=> ?_
     subst ek
     refine thn (he _ _ _ _ _ _ s10 σ8 H10 _ I10 qv) fun v s11 ⟨z,H11,I11,r11,hD11,hz,m',hm',w'⟩=> ?_
     obtain ⟨z1,hd1,vs1,rel1,dd1⟩:=gw I11.hok hD11
     have hz1:vs1.length≤sizeLine:=by rw [←rel1.length];exact z1
     have hl1:(putK acc k z).length≤sizeLine:=by have:=be acc k z;omega
     refine wpAny_dictSet_pairs (hsz:=hz1) (eT r10) dd1 fun h' dd' hs=> ?_
     have he':∃q,h'.get? D=some q:=let ⟨q,_,_,hq,_⟩:=dd';⟨q,hq⟩
     exact again (cW I11 (by rw [hD11];exact True.intro) hs he' (iR hl1 hd1 (rel1.put k r11) dd')) ext8 hm' w'
 exact codeAny_compStart_dict loop (T.self _ 0 _ _ _ st4 loop)
end
section
open PySem
variable {prog:Program} {w:World} {A:Around} {R:Result→Shared→Prop} {s:Shared}
theorem gP (elt t1 i1 t2 i2:Expr) (scope:Scope) (pos:Pos) (it acc:Value) (env:Env):
 compTurn (.ListComp elt [⟨t1,i1,[],0⟩,⟨t2,i2,[],0⟩] scope pos) 0 it acc env=(do
  standAt i1.pos
  match←pyNext it with
  |none=>pure (.done .next)
  |some v=>
   letOwnedTupleGo t1 it v
   assign t1 env v
   let x←eval i2 env
   standAt i2.pos
   let x←foldedSetIterable i2 env x
   let _←runOwn (.compStart (.ListComp elt [⟨t1,i1,[],0⟩,⟨t2,i2,[],0⟩] scope pos) 1 (←holding [x] (pyIter x)) acc env) env
   again (.compLoop (.ListComp elt [⟨t1,i1,[],0⟩,⟨t2,i2,[],0⟩] scope pos) 0 it acc env)):=by rfl
theorem gO (elt t1 i1 t2 i2:Expr) (scope:Scope) (pos:Pos) (it acc:Value) (env:Env):
 compTurn (.ListComp elt [⟨t1,i1,[],0⟩,⟨t2,i2,[],0⟩] scope pos) 1 it acc env=(do
  standAt i2.pos
  match←pyNext it with
  |none=>pure (.done .next)
  |some v=>
   letOwnedTupleGo t2 it v
   assign t2 env v
   (do let _←call (.builtin "list.append") [acc,←eval elt env])
   again (.compLoop (.ListComp elt [⟨t1,i1,[],0⟩,⟨t2,i2,[],0⟩] scope pos) 1 it acc env)):=by rfl
theorem jT {elt t1 i1 t2 i2:Expr} {scope:Scope} {pos:Pos} {it acc:Value} {env:Env}
 (h0:codeAny (model prog w) A (.compLoop (.ListComp elt [⟨t1,i1,[],0⟩,⟨t2,i2,[],0⟩] scope pos) 1 it acc env) R s)
 (h:wpAny (model prog w) A (pyIter it) (fun it' s'=>codeAny (model prog w) A (.compLoop (.ListComp elt [⟨t1,i1,[],0⟩,⟨t2,i2,[],0⟩] scope pos) 1 it' acc env) R s') (fun _ _=>False) s):
 codeAny (model prog w) A (.compStart (.ListComp elt [⟨t1,i1,[],0⟩,⟨t2,i2,[],0⟩] scope pos) 1 it acc env) R s:=by
 refine codeAny_of_tree ?_
 show wpAny _ _ ((compStart (.ListComp elt [⟨t1,i1,[],0⟩,⟨t2,i2,[],0⟩] scope pos) 1 it acc env).onRaise (fun x=>do noteFrame x env;standAt theWindowsPlace)) _ _ s
 refine wpAny_notedAt ?_
 unfold compStart
 show wpAny _ _ (ask >>=_) _ _ s
 refine wpAny_bind (wpAny_askSetting (wpAny_ite ?_))
 split
 · first
    |exact wpAny_bind (wpAny_pure (wpAny_pure (And.intro rfl h0)))
    |exact wpAny_pure (And.intro rfl h0)
 · first
    |exact wpAny_bind (wpAny_rule (wpAny_bind (wpAny_standAt (wpAny_bind (wpAny_mono h (fun it' s' h'=>wpAny_pure (And.intro rfl h')) fun _ _ x=>x.elim)))))
    |(refine wpAny_bind (wpAny_rule ?_);show wpAny _ _ (standAt i2.pos >>=_) _ _ s;exact wpAny_bind (wpAny_standAt (wpAny_bind (wpAny_mono h (fun it' s' h'=>wpAny_pure (And.intro rfl h')) fun _ _ x=>x.elim))))
theorem jM {elt t1 i1 t2 i2:Expr} {scope:Scope} {pos:Pos} {it acc:Value} {env:Env} (I:Nat→Shared→Prop) (hs:∀x,foldedSetIterable i2 env x=pure x)
 (turn:∀n s,I n s→wpAny (model prog w) A (pyNext it) (fun r s₁=>match r with
  |none=>R (.ok .next) s₁
  |some v=>wpAny (model prog w) A (letOwnedTupleGo t1 it v) (fun _ s₁'=>wpAny (model prog w) A (assign t1 env v) (fun _ s₂=>
   wpAny (model prog w) A (eval i2 env) (fun x s₃=>wpAny (model prog w) A (pyIter x) (fun it2 s₄=>
    codeAny (model prog w) A (.compStart (.ListComp elt [⟨t1,i1,[],0⟩,⟨t2,i2,[],0⟩] scope pos) 1 it2 acc env) (fun r s₅=>(∃f,r= .ok f)∧∃m,m < n∧I m s₅) s₄) (fun _ _=>False) s₃) (fun _ _=>False) s₂) (fun _ _=>False) s₁') (fun _ _=>False) s₁) (fun _ _=>False) s)
 (n:Nat) (h:I n s):codeAny (model prog w) A (.compLoop (.ListComp elt [⟨t1,i1,[],0⟩,⟨t2,i2,[],0⟩] scope pos) 0 it acc env) R s:=by
 refine codeAny_loop rfl I (fun n s hI=> ?_) n h
 show wpAny _ A ((compTurn (.ListComp elt [⟨t1,i1,[],0⟩,⟨t2,i2,[],0⟩] scope pos) 0 it acc env).onRaise (fun x=>do noteFrame x env;theTreesLotGoes x)) _ _ s
 refine wpAny_noted ?_
 rw [gP]
 refine wpAny_bind (wpAny_standAt (wpAny_bind (wpAny_mono (turn n s hI) (fun r s₁ h₁=> ?_) fun _ _ z=>z.elim)))
 cases r with
 |none=>exact wpAny_pure h₁
 |some v=>
  refine wpAny_bind (wpAny_mono h₁ (fun _ s₁' h₁'=> ?_) fun _ _ z=>z.elim)
  refine wpAny_bind (wpAny_mono h₁' (fun _ s₂ h₂=>wpAny_bind (wpAny_mono h₂ (fun x s₃ h₃=>wpAny_bind (wpAny_standAt (wpAny_bind (wpAny_of_eq (hs x) (wpAny_bind (wpAny_holding (wpAny_mono h₃ (fun it2 s₄ h₄=> ?_) fun _ _ z=>z.elim))))))) fun _ _ z=>z.elim)) fun _ _ z=>z.elim)
  refine wpAny_bind (wpAny_runOwn (codeAny_mono h₄ fun r s₅ ⟨⟨f,hr⟩,h₅⟩=> ?_))
  subst hr
  exact wpAny_pure ⟨rfl,h₅⟩
theorem jL {elt t1 i1 t2 i2:Expr} {scope:Scope} {pos:Pos} {it acc:Value} {env:Env} (I:Nat→Shared→Prop)
 (turn:∀n s,I n s→wpAny (model prog w) A (pyNext it) (fun r s₁=>match r with
  |none=>R (.ok .next) s₁
  |some v=>wpAny (model prog w) A (letOwnedTupleGo t2 it v) (fun _ s₁'=>wpAny (model prog w) A (assign t2 env v) (fun _ s₂=>
   wpAny (model prog w) A (eval elt env) (fun x s₄=>
    wpAny (model prog w) A (call (.builtin "list.append") [acc,x]) (fun _ s₅=>∃m,m < n∧I m s₅) (fun _ _=>False) s₄) (fun _ _=>False) s₂) (fun _ _=>False) s₁') (fun _ _=>False) s₁) (fun _ _=>False) s)
 (n:Nat) (h:I n s):codeAny (model prog w) A (.compLoop (.ListComp elt [⟨t1,i1,[],0⟩,⟨t2,i2,[],0⟩] scope pos) 1 it acc env) R s:=by
 refine codeAny_loop rfl I (fun n s hI=> ?_) n h
 show wpAny _ A ((compTurn (.ListComp elt [⟨t1,i1,[],0⟩,⟨t2,i2,[],0⟩] scope pos) 1 it acc env).onRaise (fun x=>do noteFrame x env;theTreesLotGoes x)) _ _ s
 refine wpAny_noted ?_
 rw [gO]
 refine wpAny_bind (wpAny_standAt (wpAny_bind (wpAny_mono (turn n s hI) (fun r s₁ h₁=> ?_) fun _ _ z=>z.elim)))
 cases r with
 |none=>exact wpAny_pure h₁
 |some v=>
  refine wpAny_bind (wpAny_mono h₁ (fun _ s₁' h₁'=> ?_) fun _ _ z=>z.elim)
  refine wpAny_bind (wpAny_mono h₁' (fun _ s₂ h₂=> ?_) fun _ _ z=>z.elim)
  exact wpAny_bind (wpAny_bind (wpAny_mono h₂ (fun x s₄ h₄=>wpAny_bind (wpAny_mono h₄ (fun _ s₅ h₅=>wpAny_pure (wpAny_pure ⟨rfl,h₅⟩)) fun _ _ z=>z.elim)) fun _ _ z=>z.elim))
end
open PySem PySem.Spec PyProof.Rows
def on (mp:List (Option Nat)) (wi:TI) (g:TG) (wi2:TI) (g2:TG) (te:TE):TE:=fun σ H Q=>wi σ H fun J H1=>∀D,H1 D=none→
 ∃W:Nat→Nat→List V→Hp→Prop,(∃m,W 0 m [] (upd H1 D (.lst [])))∧∀i m acc H2,W i m acc H2→
  (J.stop i H2∧Q (.ref D) H2)∨
  (J.go i H2∧∀x H3,J.yld i H2 x H3→g x (subS mp σ) H3 fun σ4 H4=>Ext (subS mp σ) σ4∧wi2 σ4 H4 fun J2 H5=>
   ∃W2:Nat→Nat→List V→Hp→Prop,(∃m2,W2 0 m2 acc H5)∧∀j m2 acc2 H6,W2 j m2 acc2 H6→
    (J2.stop j H6∧∃m',m' < m∧W (i+1) m' acc2 H6)∨
    (J2.go j H6∧∀y H7,J2.yld j H6 y H7→g2 y σ4 H7 fun σ8 H8=>Ext σ4 σ8∧te σ8 H8 fun v H9=>H9 D=some (.lst acc2)∧acc2.length < sizeLine∧∃m',m' < m2∧W2 (j+1) m' (acc2++ [v]) (upd H9 D (.lst (acc2++ [v])))))
section
variable {X:Cx} {pins:List (Addr×Obj)} {σ:St} {H:Hp} {s:Shared}
variable {elt target iter t2 i2:Expr} {scope:Scope} {NC:List Str} {mp:List (Option Nat)} {pos:Pos} {wi:TI} {g:TG} {wi2:TI} {g2:TG} {te:TE}
theorem pe (hcalm:X.calm=true) (hi:PI X target iter wi) (hg:∀C s H fp pn,PG (XC X scope NC C s H fp pn) target g) (hi2:∀C s H fp pn,PI (XC X scope NC C s H fp pn) t2 i2 wi2) (hg2:∀C s H fp pn,PG (XC X scope NC C s H fp pn) t2 g2) (he:∀C s H fp pn,PE (XC X scope NC C s H fp pn) elt te)
 (hl:mp.length=NC.length:=by rfl) (hm:fY X.N NC mp scope.names X.env.scope.names=true:=by rfl) (hc:bQ scope.names X.env.cells=true:=by rfl) (hk:scope.kind= .function:=by rfl)
 (hnc:∀y∈scope.names,y.2≠ .cell:=by decide +kernel) (hnm:∀y∈scope.names,y.2= .local→scope.names.lookup y.1=some .local:=by decide +kernel) (hs:∀x,foldedSetIterable iter X.env x=pure x:=by intro _;rfl) (hs2:∀C s H fp pn x,foldedSetIterable i2 (XC X scope NC C s H fp pn).env x=pure x:=by intros;rfl):
 PE X (.ListComp elt [⟨target,iter,[],0⟩,⟨t2,i2,[],0⟩] scope pos) (on mp wi g wi2 g2 te):=by
 intro pins s σ H Q I h
 rw [eval_ListComp]
 refine wpAny_comprehension_free (use:=none) rfl hs (fq hc) hk hnm (thn (hi pins s σ H _ I h) fun v s1 h1=>thn h1 fun itv s2 h2=> ?_)
 obtain ⟨it,fp,tn,J,H2,e,I2,T,st2,f2,W⟩:=h2
 subst e
 refine wpAny_newObj_type ?_ (by show 0≤sizeLine;decide)
 have nD:H2 s2.heap.objs.size=none:=I2.hok.fresh (wO _)
 have I3:Inv X pins σ (upd H2 s2.heap.objs.size (.lst [])) {s2 with heap:=s2.heap.push {cls:= .type "list",data:= .seq ([]:List Value).toArray}}:=
  I2.laid (t':=s2.toks) (fun b u e=>Heap.get?_push_of_some _ e) (wO _) ⟨by show 0≤sizeLine;decide,[],0, .nil,Heap.get?_push_size _ rfl⟩
 obtain ⟨W,⟨m0,w0⟩,turn⟩:=W _ nD
 have lt2:∀b∈fp,b < s2.heap.objs.size:=fun b hb=>by
  obtain ⟨o,e,_⟩:=T.obj 0 _ st2 b hb
  exact Heap.lt_size e
 have nDf:∀b∈fp,b≠s2.heap.objs.size:=fun b hb=>wW (lt2 b hb)
 have f3:∀b∈fp,FpOk X pins (upd H2 s2.heap.objs.size (.lst [])) b:=fun b hb=>by
  obtain ⟨g0,g1⟩:=f2 b hb
  exact ⟨by rw [af (nDf b hb)];exact g0,g1⟩
 have st3:tn 0 (s2.heap.push {cls:= .type "list",data:= .seq ([]:List Value).toArray}):=T.keep 0 _ _ st2 fun b _ o e=>Heap.get?_push_of_some _ e
 have lt3:∀b∈fp,b < (s2.heap.push {cls:= .type "list",data:= .seq ([]:List Value).toArray}).objs.size:=fun b hb=>by
  rw [Heap.size_push]
  exact xP (lt2 b hb)
 generalize hD:s2.heap.objs.size=D at*
 generalize hs3:({s2 with heap:=s2.heap.push {cls:= .type "list",data:= .seq ([]:List Value).toArray}}:Shared)=s3 at*
 have hh3:s3.heap=s2.heap.push {cls:= .type "list",data:= .seq ([]:List Value).toArray}:=by rw [←hs3]
 rw [←hh3] at st3 lt3
 generalize hH3:upd H2 D (.lst [])=H3 at*
 refine wpAny_newFunctionEnv (around:=some X.env) hnc (by intro y hy;cases hy) (fun h4 hn4 hsb4=> ?_) hk
 have kp4:∀b o,s3.heap.get? b=some o→h4.get? b=some o:=fun b o e=>hsb4.extBut b o (wW (Heap.lt_size e)) (Heap.get?_push_of_some _ e)
 have I4:=I3.block (tk:=s3.toks+([]:List (Str×Value)).length) f3 lt3 hk hnc hc hl hm kp4 hn4
 have st4:tn 0 h4:=T.keep 0 _ _ st3 fun b _ o e=>kp4 b o e
 have fin:∀(s5:Shared) (σ5:St) (H5:Hp),Inv (XC X scope NC s3.heap.objs.size s3 H3 fp (X.pn++pins)) [] σ5 H5 s5→Q (.ref D) H5→compPost (model X.prog X.w) X.A X.xe none (EP X pins σ Q) (.ref D) s3.heap.objs.size (.ok .next) s5:=by
  intro s5 σ5 H5 I5 q5
  obtain ⟨m5,hn5,_⟩:=id I5.loc
  refine ⟨m5,hn5,fun h6 sb6=>⟨.ref D,H5,?_,rfl,q5⟩⟩
  have kp6:∀b o,b≠s3.heap.objs.size→s5.heap.get? b=some o→h6.get? b=some o:=fun b o hb e=>sb6.extBut b o hb e
  have nC:∀b o,s3.heap.get? b=some o→b≠s3.heap.objs.size:=fun b o e=>wW (Heap.lt_size e)
  have un:Un (frs X.stack) fp H3 H5 s3.heap s5.heap:=I5.base
  have hfree:H5 s3.heap.objs.size=none:=I5.free
  refine I3.call' (s':= {s5 with heap:=h6}) (ch:=fp) I5.os ⟨fun b o e n hb hx=>kp6 b o (nC b o e) (un.keep b o e n hb hx),fun b o e n hb hx=> ?_,un.free,fun b o e hx=> ?_,un.tups,un.frzs,un.tbls⟩ ?_ I5.bare (fun b hb=> ?_)
  · obtain ⟨sl,e1⟩:=un.slot b o e n hb hx
    exact ⟨sl,kp6 b _ (nC b o e) e1⟩
  · obtain ⟨o',e1⟩:=un.there b o e hx
    exact ⟨o',kp6 b o' (nC b o e) e1⟩
  · intro b o e
    have nb:b≠s3.heap.objs.size:=fun z=>by rw [z,hfree] at e;cases e
    refine (I5.hok b o e).stay (fun c v hc' r=>kp6 c v ?_ r) (fun _ r=>r) fun _ _ r=>r
    rcases hc' with z|z
    · rw [z];exact nb
    · intro y
      rw [y,hfree] at z
      cases z
  · obtain ⟨g0,g1,g2,g3,g4,g5⟩:=f3 b hb
    exact ⟨g3,g1,g4,g5⟩
 have loop:codeAny (model X.prog X.w) X.A (.compLoop (.ListComp elt [⟨target,iter,[],0⟩,⟨t2,i2,[],0⟩] scope pos) 0 (.ref it) (.ref D) (compEnvC scope (c7 scope.names X.env.cells []) s3.heap.objs.size X.env)) (compPost (model X.prog X.w) X.A X.xe none (EP X pins σ Q) (.ref D) s3.heap.objs.size)
  {s3 with heap:=h4,toks:=s3.toks+([]:List (Str×Value)).length}:=by
  refine jM (fun n s'=>∃i acc σ' H',Inv (XC X scope NC s3.heap.objs.size s3 H3 fp (X.pn++pins)) [] σ' H' s'∧Ext (subS mp σ) σ'∧tn i s'.heap∧(∀b∈fp,H' b=none)∧W i n acc H') (hs2 _ s3 H3 fp (X.pn++pins)) ?_ m0
   ⟨0,[],subS mp σ,H3,I4,fun _ _ e=>e,st4,fun b hb=>(f3 b hb).1,w0⟩
  rintro n s5 ⟨i,acc,σ5,H5,I5,hσ,st5,fr5,w5⟩
  have I5':Inv (XC X scope NC s3.heap.objs.size s3 H3 fp (X.pn++pins)) [] (subS mp σ) H5 s5:=I5.weak (by rw [I5.len];unfold subS;rw [wL];exact hl) hσ
  have fpk:∀ {H':Hp},(∀b∈fp,H' b=none)→∀b∈fp,FpOk (XC X scope NC s3.heap.objs.size s3 H3 fp (X.pn++pins)) [] H' b:=fun hn b hb=>by
   obtain ⟨g0,g1,g2,g3,g4,g5⟩:=f3 b hb
   refine ⟨hn b hb,wW (lt3 b hb),?_, .inl hb,(I4.ok.exf b hb).2,fun p hp=>g5 p (by simpa using hp)⟩
   exact I4.ok.exfs b hb
  rcases turn i n acc H5 w5 with ⟨stop,q⟩|⟨go,step⟩
  · refine thn (T.done (XC X scope NC s3.heap.objs.size s3 H3 fp (X.pn++pins)) rfl rfl rfl hcalm i [] s5 _ H5 (fun _ _=>False) I5' (fpk fr5) st5 stop) fun r s6 ⟨hr,I6⟩=> ?_
    subst hr
    exact fin s6 _ H5 I6 q
  · refine thn (T.item (XC X scope NC s3.heap.objs.size s3 H3 fp (X.pn++pins)) rfl rfl rfl hcalm i [] s5 _ H5 (fun _ _=>False) I5' (fpk fr5) st5 go) fun r s6 ⟨u,hr,h6⟩=> ?_
    subst hr
    refine thn h6 fun _ s7 ⟨x,H7,I7,r7,y7,st7,fr7⟩=> ?_
    have I7':=I7.pinned (fpk fr7) (T.obj _ _ st7)
    refine thn (hg _ _ _ _ _ _ s7 _ H7 x u _ I7' r7 (step x H7 y7)) fun _ s8 ⟨σ8,H8,I8,ext8,q8⟩=> ?_
    have again:∀ {σ':St} {H':Hp} {s':Shared} {acc':List V} {m':Nat},Inv (XC X scope NC s3.heap.objs.size s3 H3 fp (X.pn++pins)) ([]++cD fp s7.heap) σ' H' s'→Ext (subS mp σ) σ'→m' < n→W (i+1) m' acc' H'→
     ∃m,m < n∧∃i acc σ' H',Inv (XC X scope NC s3.heap.objs.size s3 H3 fp (X.pn++pins)) [] σ' H' s'∧Ext (subS mp σ) σ'∧tn i s'.heap∧(∀b∈fp,H' b=none)∧W i m acc H':=by
     intro σ' H' s' acc' m' I' hσ' hm' w'
     refine ⟨m',hm',i+1,acc',σ',H',I'.unpinned,hσ',T.keep _ _ _ st7 fun b hb o e=>(I'.pin (b,o) (wR _ (wR _ (aV hb e)))).1,fun b hb=> ?_,w'⟩
     obtain ⟨o,e,d⟩:=T.obj _ _ st7 b hb
     exact (I'.pin (b,o) (wR _ (wR _ (aV hb e)))).2.1
    refine thn (hi2 _ _ _ _ _ _ s8 σ8 H8 _ I8 q8) fun xv s9 h9=>thn h9 fun itv s10 h10=> ?_
    obtain ⟨it2,fp2,tn2,J2,H10,e10,I10,T2,st10,f10,W2,⟨m2,w20⟩,turn2⟩:=h10
    subst e10
    have loop2:codeAny (model X.prog X.w) X.A (.compLoop (.ListComp elt [⟨target,iter,[],0⟩,⟨t2,i2,[],0⟩] scope pos) 1 (.ref it2) (.ref D) (compEnvC scope (c7 scope.names X.env.cells []) s3.heap.objs.size X.env))
     (fun r s5=>(∃f,r= .ok f)∧∃m,m < n∧∃i acc σ' H',Inv (XC X scope NC s3.heap.objs.size s3 H3 fp (X.pn++pins)) [] σ' H' s5∧Ext (subS mp σ) σ'∧tn i s5.heap∧(∀b∈fp,H' b=none)∧W i m acc H') s10:=by
     refine jL (fun n2 s'=>∃j acc2 σ' H',Inv (XC X scope NC s3.heap.objs.size s3 H3 fp (X.pn++pins)) ([]++cD fp s7.heap) σ' H' s'∧Ext σ8 σ'∧tn2 j s'.heap∧(∀b∈fp2,H' b=none)∧W2 j n2 acc2 H') ?_ m2
      ⟨0,acc,σ8,H10,I10,fun _ _ e=>e,st10,fun b hb=>(f10 b hb).1,w20⟩
     rintro n2 s11 ⟨j,acc2,σ11,H11,I11,hσ11,st11,fr11,w11⟩
     have I11':Inv (XC X scope NC s3.heap.objs.size s3 H3 fp (X.pn++pins)) ([]++cD fp s7.heap) σ8 H11 s11:=I11.weak (by rw [I11.len,I8.len]) hσ11
     have fpk2:∀ {H':Hp},(∀b∈fp2,H' b=none)→∀b∈fp2,FpOk (XC X scope NC s3.heap.objs.size s3 H3 fp (X.pn++pins)) ([]++cD fp s7.heap) H' b:=fun hn b hb=>by
      obtain ⟨g0,g1⟩:=f10 b hb
      exact ⟨hn b hb,g1⟩
     rcases turn2 j n2 acc2 H11 w11 with ⟨stop,q⟩|⟨go,step2⟩
     · refine thn (T2.done (XC X scope NC s3.heap.objs.size s3 H3 fp (X.pn++pins)) rfl rfl rfl hcalm j _ s11 _ H11 (fun _ _=>False) I11' (fpk2 fr11) st11 stop) fun r s12 ⟨hr,I12⟩=> ?_
       subst hr
       obtain ⟨m',hm',w'⟩:=q
       exact ⟨⟨_,rfl⟩,again I12 ext8 hm' w'⟩
     · refine thn (T2.item (XC X scope NC s3.heap.objs.size s3 H3 fp (X.pn++pins)) rfl rfl rfl hcalm j _ s11 _ H11 (fun _ _=>False) I11' (fpk2 fr11) st11 go) fun r s12 ⟨u,hr,h12⟩=> ?_
       subst hr
       refine thn h12 fun _ s13 ⟨x13,H13,I13,r13,y13,st13,fr13⟩=> ?_
       have I13':=I13.pinned (fpk2 fr13) (T2.obj _ _ st13)
       refine thn (hg2 _ _ _ _ _ _ s13 _ H13 x13 u _ I13' r13 (step2 x13 H13 y13)) fun _ s14 ⟨σ14,H14,I14,ext14,q14⟩=> ?_
       refine thn (he _ _ _ _ _ _ s14 σ14 H14 _ I14 q14) fun v s15 ⟨y,H15,I15,r15,hD15,hz,m',hm',w'⟩=> ?_
       refine thn (aT (X:=XC X scope NC s3.heap.objs.size s3 H3 fp (X.pn++pins)) _ s15 σ14 H15 (.ref D) [y] (.ref D) [v] (fun _ H'=>H'=upd H15 D (.lst (acc2++ [y]))) I15 rfl (.cons r15 .nil) ⟨D,acc2,y,rfl,rfl,hD15,hz,rfl⟩) fun _ s16 ⟨_,H16,I16,_,e16⟩=> ?_
       subst e16
       refine ⟨m',hm',j+1,acc2++ [y],σ14,_,I16.unpinned,ext14,T2.keep _ _ _ st13 fun b hb o e=>(I16.pin (b,o) (wR _ (wR _ (aV hb e)))).1,fun b hb=> ?_,w'⟩
       obtain ⟨o,e,d⟩:=T2.obj _ _ st13 b hb
       exact (I16.pin (b,o) (wR _ (wR _ (aV hb e)))).2.1
    exact jT loop2 (T2.self _ 0 _ _ _ st10 loop2)
 exact codeAny_compStart_list loop (T.self _ 0 _ _ _ st4 loop)
end
end L2
namespace Dj
open PySem PySem.Spec PySem.W PyProof.Rows L2 Tre
def RawD (h:Heap) (d:Addr) (es:Array DictEntry) (ep:Nat):Prop:=∃o,h.get? d=some o∧o.ExactDict∧o.data= .dict es ep
section
variable {prog:Program} {w:World} {A:Around} {E:Value→Shared→Prop} {s:Shared} {d it:Addr} {es:Array DictEntry} {ep:Nat}
end
open PySem PySem.Spec PySem.W PyProof.Rows L2 Tre Srt
section
variable {prog:Program} {w:World} {A:Around} {E:Value→Shared→Prop} {s:Shared} {T:String} {r d:Addr} {n:Nat} {P:Nat→Value→Prop} {OK:Heap→Prop}
theorem jD {Q:List Value→Shared→Prop} (K:KdlSrc prog w T r d n P OK) (hh:A.handled=none) (hok:OK s.heap) (hn:n≤sizeLine)
 (hQ:∀h' tk (acc:Array Value),(∀b o,s.heap.get? b=some o→h'.get? b=some o)→s.heap.objs.size < h'.objs.size→ItemsOf P acc n→Q acc.toList {s with heap:=h',toks:=tk}):wpAny (model prog w) A (collect (.ref r)) Q E s:=by
 have hlt:=K.there _ hok
 unfold collect
 refine wpAny_bind (wpAny_runValue (codeAny_builtin PySem.F.entry_proto_collect ?_))
 rw [Around.under_plainId PySem.F.plain_proto_collect _]
 show wpAny _ A.in1 (newList [] >>=fun l=>again (.builtin "list.__iadd__" ⟨[l, .ref r],[]⟩)) _ _ s
 refine wpAny_bind (wpAny_newObj_type (wpAny_pure ⟨plainId_quiet PySem.F.plain_list_iadd _,codeAny_builtin PySem.F.entry_list_iadd ?_⟩))
 rw [Around.under_plainId PySem.F.plain_list_iadd _]
 have hS:(s.heap.push {cls:= .type "list",data:= .seq ([]:List Value).toArray}).get? s.heap.objs.size=some {cls:= .type "list",data:= .seq ([]:List Value).toArray}:=Heap.get?_push_size _ rfl
 show wpAny _ A.in1 (Builtin.List.listExtendWith (.ref s.heap.objs.size) (.ref r) (.ref s.heap.objs.size)) _ _ _
 refine kdl_extend (R:=fun r' s'=>match r' with
  | .ok (.ret v)=>wpAny (model prog w) A (match v with
   | .ref a=>do match (←load a).data with
    | .seq xs _=>pure xs.toList
    |_=>unsupported "internal:collect"
   |_=>unsupported "internal:collect") Q E s'
  | .ok _=>False
  | .error e=>E e s') (s:= {s with heap:=s.heap.push {cls:= .type "list",data:= .seq ([]:List Value).toArray}}) K hh (K.keep _ _ hok fun b _ o e=>Heap.get?_push_of_some _ e) _ (Nat.ne_of_gt hlt.1) (Nat.ne_of_gt hlt.2) _ _ hS (fun h' tk acc' c' hk hS' hacc=> ?_) hn
 show wpAny _ A (load s.heap.objs.size >>=_) _ _ _
 refine wpAny_bind (wpAny_load hS' (wpAny_pure (hQ h' tk acc' (fun b o e=>hk b o (wW (Heap.lt_size e)) (Heap.get?_push_of_some _ e)) (Heap.lt_size hS') hacc)))
end
section
variable {prog:Program} {w:World} {A:Around} {E:Value→Shared→Prop} {s:Shared} {lt:Nat→Nat→Bool} {κ:SortKind}
theorem nt {l:Addr} {vs:List Value} {Q:Value→Shared→Prop} (O:Ord lt) (h64:vs.length < 64)
 (hcol:∀Q':List Value→Shared→Prop,(∀h' tk,(∀b o,s.heap.get? b=some o→h'.get? b=some o)→s.heap.objs.size < h'.objs.size→Q' vs {s with heap:=h',toks:=tk})→wpAny (model prog w) A.in1 (collect (.ref l)) Q' E s)
 (hkind:2≤vs.length→∀h' tk,(∀b o,s.heap.get? b=some o→h'.get? b=some o)→∀(E':Value→Shared→Prop) (R:SortKind→Shared→Prop),R κ {s with heap:=h',toks:=tk}→wpAny (model prog w) A.in1.in1 (keyKind' vs.toArray) R E' {s with heap:=h',toks:=tk})
 (hask:∀h' tk,(∀b o,s.heap.get? b=some o→h'.get? b=some o)→∀i j (R:Bool→Shared→Prop),i < vs.length→j < vs.length→R (lt i j) {s with heap:=h',toks:=tk}→kas_ask prog w A.in1.in1 κ vs i j R {s with heap:=h',toks:=tk})
 (h:∀p:Array Nat,Pm vs.length p→Up lt p vs.length→∀h' tk D e,(∀b o,s.heap.get? b=some o→h'.get? b=some o)→s.heap.objs.size≤D→h'.get? D=some (seqObj "list" (List.toArray (p.toList.map fun i=>vs.getD i Value.none)) e)→Q (.ref D) {s with heap:=h',toks:=tk}):
 wpAny (model prog w) A (call (.builtin "sorted") [.ref l]) Q E s:=by
 refine Calls.call_function_entry kind_sorted plain_sorted entry_sorted (args_sorted1 _) ?_
 unfold Builtin.«sorted»
 refine wpAny_bind (m:=checkCount "sorted" 1 1 _) (wpAny_pure (wpAny_bind (hcol _ fun h1 tk k1 sz=> ?_)))
 refine wpAny_bind (wpAny_newList (s:= {s with heap:=h1,toks:=tk}) ?_ (by rw [sizeLine_eq];omega))
 have hoL:(h1.push (seqObj "list" vs.toArray 0)).get? h1.objs.size=some (seqObj "list" vs.toArray 0):=Heap.get?_push_size _ rfl
 have keep:∀b o,s.heap.get? b=some o→(h1.push (seqObj "list" vs.toArray 0)).get? b=some o∧b≠h1.objs.size:=fun b o q=>⟨Heap.get?_push_of_some _ (k1 b o q),wW (Heap.lt_size (k1 b o q))⟩
 show wpAny _ _ _ _ _ {s with heap:=h1.push (seqObj "list" vs.toArray 0),toks:=tk}
 refine wpAny_bind (wpAny_holding (wpAny_call_entry slot_list_sort ⟨_,hoL,rfl⟩ entry_list_sort (gM (s:= {s with heap:=h1.push (seqObj "list" vs.toArray 0),toks:=tk}) (lt:=lt) (κ:=κ) O hoL h64 (fun h2 h' st R hR=>hkind h2 h' tk (fun b o e=>st b o (keep b o e).2 (keep b o e).1) _ R hR)
  (fun h' st i j R hi hj hR=>hask h' tk (fun b o e=>st b o (keep b o e).2 (keep b o e).1) i j R hi hj hR) fun p a1 a2=>⟨_,rfl,?_⟩) (args_list_sort _)))
 obtain ⟨e,he⟩:=sortedHeap_at (out:=List.toArray (p.toList.map fun i=>vs.getD i Value.none)) hoL
 refine wpAny_pure ⟨_,rfl,h p a1 a2 _ tk _ e (fun b o q=> ?_) (xX sz) he⟩
 rw [sortedHeap_old (keep b o q).2 (Heap.lt_size (keep b o q).1)]
 exact (keep b o q).1
end
theorem lY {prog:Program} {w:World} {A:Around} {s:Shared} {fin:Bool} {Q:Bool→Shared→Prop}:∀ {as bs:List Value} {q:List (Bool×Bool)} {i:Nat},0 < i→cL A s as bs q→Q (lexV fin q) s→KatLex prog w A true fin Q (as.zip bs) i s
 | [],_,q,i,_,h,hq=>by
  unfold cL at h
  subst h
  rw [List.zip_nil_left]
  exact kat_nil hq
 |_::_,[],q,i,_,h,hq=>by
  unfold cL at h
  subst h
  rw [List.zip_nil_right]
  exact kat_nil hq
 |a::as,b::bs,[],i,_,h,hq=>h.elim
 |a::as,b::bs,(e,l)::q,i,h0,h,hq=>by
  obtain ⟨h1,h2,h3⟩:=h
  rw [xY]
  refine kat_cons (h1 prog w _ _ ?_)
  cases e with
  |true=>exact kat_yes (lY (by omega) (h3 rfl) hq)
  |false=>
   refine kat_no ?_
   have e0:(true&&i==0)=false:=by
    cases i with
    |zero=>omega
    |succ i=>rfl
   rw [e0]
   exact kat_one a b (h2 rfl prog w _ _ hq)
theorem rT {prog:Program} {w:World} {A:Around} {s:Shared} {fin:Bool} {Q:Bool→Shared→Prop} {x y:Str} {t u:Tok} {as bs:List Value} {q:List (Bool×Bool)} (h:cL A s as bs q)
 (hq:Q (lexV fin ((x==y,decide (x.cps.toList < y.cps.toList))::q)) s):KatLex prog w A true fin Q ((Value.str x t::as).zip (Value.str y u::bs)) 0 s:=by
 rw [xY]
 refine kat_cons (SeqAt.EqAt.str_str x t y u prog w _ _ ?_)
 cases e:(x==y) with
 |true=>
  rw [e] at hq
  exact kat_yes (lY (by decide) h hq)
 |false=>
  rw [e] at hq
  refine kat_no ?_
  exact oneLt_str hq
def Hs (t:Tr):Prop:=∃x r,t= .tup (.str x::r)
section
variable {X:Cx} {pins:List (Addr×Obj)} {σ:L2.St} {H:Hp} {s:Shared}
theorem lZ (I:Inv X pins σ H s):∀ {vs:List V} {ts:List Tr} {as:List Value},TrsAt H vs ts→Vals vs as→(∀t∈ts,Hs t)→∃fs,KatTups s.heap as fs∧fs.length=as.length∧∀v∈fs,∃(x:Str) (t:Tok),v= .str x t
 |vs,[],as,h,r,_=>by
  unfold TrsAt at h
  subst h
  cases r
  exact ⟨[], .nil,rfl,fun v m=>by cases m⟩
 |vs,t::ts,as,h,r,hh=>by
  obtain ⟨v,vr,rfl,h1,h2⟩:=h.inv
  cases r with
  |cons r1 r2=>
   obtain ⟨fs,f1,f2,f3⟩:=lZ I h2 r2 fun u m=>hh u (wQ _ m)
   obtain ⟨x,rr,rfl⟩:=hh t wP
   unfold TrAt at h1
   obtain ⟨a,ws,rfl,g,k⟩:=h1
   cases r1
   obtain ⟨y,yr,rfl,k1,k2⟩:=k.inv
   unfold TrAt at k1
   subst k1
   obtain ⟨bs,o,n,q1,ho,hc,hd⟩:=eY I g
   cases q1 with
   |cons q1 q2=>
    obtain ⟨tk,rfl⟩:=q1
    refine ⟨_,KatTups.cons ho hc hd rfl f1,by simp [f2],fun v m=> ?_⟩
    rcases wY.mp m with e|m
    · exact ⟨x,tk,e⟩
    · exact f3 v m
end
end Dj
namespace L2
open PySem PySem.Spec PyProof.Rows
section
variable {X:Cx}
def vZ:V→List V→Hp→VK→Prop:=fun x vs H Q=>∃a kvs k v,x= .ref a∧vs= [kV k,v]∧H a=some (.dK kvs)∧kvs.length < sizeLine∧
 (∀z,valV kvs k=some z→Q z H)∧(valV kvs k=none→Q v (upd H a (.dK (kvs++ [(k,v)]))))
theorem dy:MtM X "dict.setdefault" vZ:=by
 intro pins s σ H x vs u us Q I rx rv h
 obtain ⟨a,kvs,k,v,rfl,rfl,hH,hz,h1,h2⟩:=h
 cases rx
 obtain ⟨u1,u2,rfl,r1,r2⟩:=rv.two
 obtain ⟨z,hd,ws,rel,dd⟩:=gw I.hok hH
 refine call_meetsIn PySem.F.slot_dict_setdefault dd.typeIs PySem.F.entry_dict_setdefault (PySem.F.args_dict_setdefault_3 _ _ _) (kt_meets_setdefault (aE X.prog X.w) a (eT r1) hd u2)
  ⟨ws,dd,by rw [←rel.length];exact z,fun q hq=> ?_,fun hq h' dd' hs=> ?_⟩
 · have rk:=rel.val k
   rw [hq] at rk
   cases e:valV kvs k with
   |none=>rw [e] at rk;exact rk.elim
   |some y=>rw [e] at rk;exact ⟨y,H,I.tok _,rk,h1 y e⟩
 · have rk:=rel.val k
   rw [hq] at rk
   cases e:valV kvs k with
   |some y=>rw [e] at rk;exact rk.elim
   |none=>
    have he:∃q,h'.get? a=some q:=let ⟨q,_,_,hq,_⟩:=dd';⟨q,hq⟩
    have hp:=rel.put k r2
    rw [cR v e] at hp
    exact ⟨v,_,cW I (by rw [hH];exact True.intro) hs he (iR (by rw [wM,x8];omega) hd hp dd'),r2,h2 e⟩
def ig (v d:Addr):HO:= .ext fun h=>h.IsValuesView v d
theorem qK {P:Program} {w:World} {H:Hp} {h:Heap} {v d:Addr} (x:h.IsValuesView v d):ObjOk P w H h v (ig v d):=by
 obtain ⟨o,e,r⟩:=x
 exact ⟨⟨o,e,r⟩,⟨_,e⟩,fun _ _ ⟨o',y,c⟩ k=>⟨o',k _ y,c⟩⟩
def rf:V→List V→Hp→VK→Prop:=fun x vs H Q=>∃a kvs,x= .ref a∧vs= []∧H a=some (.dK kvs)∧∀v,H v=none→Q (.ref v) (upd H v (ig v a))
theorem nF:MtM X "dict.values" rf:=by
 intro pins s σ H x vs u us Q I rx rv h
 obtain ⟨a,kvs,rfl,rfl,hH,q⟩:=h
 cases rx
 cases rv.zero
 obtain ⟨z,hd,ws,rel,dd⟩:=gw I.hok hH
 refine call_meetsIn PySem.F.slot_dict_values dd.typeIs PySem.F.entry_dict_values (PySem.F.args_dict_values_1 _) (meets_dict_values (aE X.prog X.w) a hd) ⟨⟨ws,dd⟩,?_⟩
 exact ⟨.ref _,_,I.laid (t':=s.toks) (fun b ob e=>Heap.get?_push_of_some _ e) (wO _) (qK ⟨_,Heap.get?_push_size _ rfl,rfl,rfl⟩),rfl,q _ (I.hok.fresh (wO _))⟩
end
end L2
namespace Dj
open PySem PySem.Spec PySem.W PyProof.Rows L2 Tre Srt
section
variable {X:Cx} {pins:List (Addr×Obj)} {σ:L2.St} {H:Hp} {s:Shared}
def SrQ (H:Hp) (ts:List Tr) (Q:VK):Prop:=∀(D:Addr) (ws:List V) (us:List Tr),H D=none→us.Perm ts→TrsAt H ws us→(∀(i j:Nat) (t u:Tr),i≤j→us[i]?=some t→us[j]?=some u→ltT u t=false)→Q (.ref D) (upd H D (.lst ws))
theorem j6 {Q:VK} {a:Addr} {as:List Value} {vs:List V} {ts:List Tr} (hu:X.A.units+60 < cLine) (I:Inv X pins σ H s) (rv:Vals vs as) (hT:TrsAt H vs ts) (hlen:ts.length < 64) (hts:∀t∈ts,Hs t∧t.pure∧t.depth≤40) (hcm:∀t∈ts,∀u∈ts,Cm t u)
 (hcol:∀(E:Value→Shared→Prop) (Q':List Value→Shared→Prop),(∀h' tk,(∀b o,s.heap.get? b=some o→h'.get? b=some o)→s.heap.objs.size < h'.objs.size→Q' as {s with heap:=h',toks:=tk})→wpAny (model X.prog X.w) X.A.in1 (collect (.ref a)) Q' E s)
 (q:SrQ H ts Q):wpAny (model X.prog X.w) X.A (call (.builtin "sorted") [.ref a]) (EP X pins σ Q) X.xe s:=by
 have l1:=hT.len
 have l2:=rv.length
 have O:Srt.Ord fun i j=>ltT (ts.getD i .non) (ts.getD j .non):=⟨fun a b h=>pF h,fun a b c h1 h2=>uU h1 h2⟩
 have at_:∀i,i < as.length→∃t v a,ts.getD i .non=t∧t∈ts∧TrAt H v t∧RelV v a∧as.getD i Value.none=a:=fun i hi=>by
  have hi':i < ts.length:=by omega
  obtain ⟨v,e1,e2⟩:=hT.get (i:=i) (t:=ts[i]) (wI hi')
  obtain ⟨a,e3,e4⟩:=rv.get e1
  exact ⟨ts[i],v,a,by rw [xx,wI hi'];rfl,xz hi',e2,e4,by rw [xx,e3];rfl⟩
 refine nt (κ:=tuples' true) (vs:=as) O (by omega) (fun Q' hQ'=> ?_) (fun h2 h' tk kp E' R hR=> ?_) (fun h' tk kp i j R hi hj hR=> ?_) fun p hp hup h' tk D e kp sz he=> ?_
 · exact hcol _ Q' hQ'
 · have I':Inv X pins σ H {s with heap:=h',toks:=tk}:=I.kept (t':=tk) kp
   obtain ⟨fs,k1,k2,k3⟩:=lZ I' hT rv fun t m=>(hts t m).1
   refine kat_kind (T:=Value.type "str") k1 (by omega) (fun v m=> ?_) (by decide +kernel) ?_
   · obtain ⟨x,t,rfl⟩:=k3 v m
     exact .now
   · rw [show (Value.type "str" !=Value.type "tuple")=true by decide +kernel]
     exact hR
 · have I':Inv X pins σ H {s with heap:=h',toks:=tk}:=I.kept (t':=tk) kp
   obtain ⟨t,v,a,et,mt,ht,ra,ea⟩:=at_ i hi
   obtain ⟨u,v',b,eu,mu,hu',rb,eb⟩:=at_ j hj
   have hc':=hcm t mt u mu
   obtain ⟨⟨x1,r1,rfl⟩,p1,d1⟩:=hts t mt
   obtain ⟨⟨x2,r2,rfl⟩,p2,d2⟩:=hts u mu
   unfold TrAt at ht hu'
   obtain ⟨x0,vs0,rfl,g0,g1⟩:=ht
   obtain ⟨y0,ws0,rfl,g2,g3⟩:=hu'
   cases ra
   cases rb
   obtain ⟨as0,o,n,q3,ho,hcl,hd'⟩:=eY I' g0
   obtain ⟨bs0,o',n',q4,ho',hcl',hd2⟩:=eY I' g2
   have z0:=g1.len
   have z1:=g3.len
   have z2:=q3.length
   have z3:=q4.length
   obtain ⟨y1,yr1,rfl,w1,w2⟩:=g1.inv
   obtain ⟨y2,yr2,rfl,w3,w4⟩:=g3.inv
   unfold TrAt at w1 w3
   subst w1 w3
   cases q3 with
   |cons q3 q3'=>
    cases q4 with
    |cons q4 q4'=>
     obtain ⟨tk1,rfl⟩:=q3
     obtain ⟨tk2,rfl⟩:=q4
     unfold Tr.depth at d1
     unfold Trs.depth at d1
     unfold Tr.pure at p1
     unfold Trs.pure at p1
     unfold kas_ask
     rw [ea,eb]
     refine kat_lt (b:=true) ho hd' ho' hd2 ?_
     rw [List.toList_toArray,List.toList_toArray]
     have hu1:X.A.in1.in1.units+40+1 < cLine:=by show X.A.units+1+1+40+1 < cLine;omega
     have e:∀q,lexV (decide ((Value.str x1 tk1::_).toArray.size < (Value.str x2 tk2::_).toArray.size)) ((x1==x2,decide (x1.cps.toList < x2.cps.toList))::q)=lexV (decide ((Tr.str x1::r1).length < (Tr.str x2::r2).length)) ((x1==x2,decide (x1.cps.toList < x2.cps.toList))::q):=fun q=>by
      rw [wU,wU,←z2,←z3,z0,z1]
     by_cases ex:(x1==x2)=true
     · unfold Cm at hc'
       unfold Cms at hc'
       have hc2:Cms r1 r2:=by
        rcases hc' with ⟨_,c⟩|⟨n,_⟩
        · exact c
        · unfold Tre.eqT at n
          rw [ex] at n
          cases n
       have hx':=ku (A:=X.A.in1.in1) I' hu1 (fun d pp cc a1 a2 b1 b2=>qR I' 40 d pp cc a1 a2 b1 b2 hu1) (by omega) (.inl p1.2) hc2 w2 w4 q3' q4'
       refine rT hx' ?_
       rw [e]
       have e2:lexV (decide ((Tr.str x1::r1).length < (Tr.str x2::r2).length)) ((x1==x2,decide (x1.cps.toList < x2.cps.toList))::qs r1 r2)=ltT (ts.getD i .non) (ts.getD j .non):=by
        rw [et,eu]
        refine bY ?_
        rw [ltT_iff]
        have el:decide ((Tr.str x1::r1).length < (Tr.str x2::r2).length)=decide (r1.length < r2.length):=by simp
        have e4:=(ir x1 x2).mp ex
        simp only [lexV,ex,if_true,el,iN,Tre.code,Tre.codes,LtC,LtCs,e4]
        constructor
        · intro h;exact .inr ⟨trivial,h⟩
        · rintro (h|h)
          · exact absurd h (List.lt_irrefl _)
          · exact h.2
       rw [e2]
       exact hR
     · have exf:(x1==x2)=false:=by simpa using ex
       rw [xY]
       refine kat_cons (SeqAt.EqAt.str_str x1 tk1 x2 tk2 X.prog X.w _ _ ?_)
       rw [exf]
       refine kat_no ?_
       refine oneLt_str ?_
       have e2:decide (x1.cps.toList < x2.cps.toList)=ltT (ts.getD i .non) (ts.getD j .non):=by
        rw [et,eu]
        refine bY ?_
        rw [ltT_iff,decide_eq_true_iff]
        have ne:x1.cps.toList≠x2.cps.toList:=fun z=>ex ((ir x1 x2).mpr z)
        simp only [Tre.code,Tre.codes,LtC,LtCs,Co.str.injEq]
        constructor
        · intro h;exact .inl h
        · rintro (h|h)
          · exact h
          · exact absurd h.1 ne
       rw [e2]
       exact hR
 · have hin:∀i∈p.toList,i < ts.length:=fun i m=>by
    have:=xj.mp (List.Perm.mem_iff hp |>.mp m)
    omega
   refine ⟨.ref D,upd H D (.lst (p.toList.map fun i=>vs.getD i .non)),I.laid (t':=tk) kp sz ?_,rfl,?_⟩
   · refine ⟨?_,p.toList.map fun i=>as.getD i Value.none,e,Vals.map rv fun i m=>by have:=hin i m;omega,he⟩
     rw [wL,wX,hp.size]
     have:(64:Nat)≤sizeLine:=by decide +kernel
     omega
   · refine q _ _ (p.toList.map fun i=>ts.getD i .non) (I.hok.fresh sz) ?_ (TrsAt.map hT hin) fun i j t u hij e1 e2=> ?_
     · have:=List.Perm.map (fun i=>ts.getD i Tr.non) hp
       rw [show as.length=ts.length by omega,eB] at this
       exact this
     · rw [wN] at e1 e2
       obtain ⟨a,ea,rfl⟩:=x5.mp e1
       obtain ⟨b,eb,rfl⟩:=x5.mp e2
       have hj:j < as.length:=by
        have:=(wK.mp eb).1
        rw [wX,hp.size] at this
        exact this
       have:=hup i j hij hj
       rw [dl,dl,←xg,←xg,ea,eb] at this
       exact this
def oV:List V→Hp→VK→Prop:=fun xs H Q=>∃(v a:Addr) (kvs:List (Key×V)) (ts:List Tr),xs= [.ref v]∧H v=some (ig v a)∧H a=some (.dK kvs)∧TrsAt H (kvs.map (·.2)) ts∧ts.length < 64∧(∀t∈ts,Hs t∧t.pure∧t.depth≤40)∧(∀t∈ts,∀u∈ts,Cm t u)∧SrQ H ts Q
theorem call_sortedV (hc:X.calm=true) (hu:X.A.units+60 < cLine):cy X (.builtin "sorted") oV:=by
 intro pins s σ H xs us Q I r h
 obtain ⟨v,a,kvs,ts,rfl,hv,hH,hT,hlen,hts,hcm,q⟩:=h
 obtain ⟨u,rfl,ru⟩:=dw r
 cases ru
 obtain ⟨z,hd,ws,rel,dd⟩:=gw I.hok hH
 obtain ⟨hview,_⟩:=(show ObjOk X.prog X.w H s.heap v (ig v a) from I.hok v _ hv)
 obtain ⟨ep,hat⟩:=dd.dictAt
 have rr:Vals (kvs.map (·.2)) (ws.map (·.2)):=by
  clear hat dd z q hH hT
  induction rel with
  |nil=>exact .nil
  |cons r1 _ ih=>exact .cons r1.2 ih
 refine j6 hu I rr hT hlen hts hcm (fun E Q' hQ'=> ?_) q
 refine jD (A:=X.A.in1) (PySem.W.kdl_values (knd:=aE X.prog X.w) (kvs:=ws) (ep:=ep)) (I.ok.hd hc) ⟨hview,hat⟩ (by rw [←rel.length];exact z) fun h' tk acc k1 sz hacc=> ?_
 have e:acc.toList=ws.map (·.2):=PySem.W.kdl_vals_eq acc.toList (by rw [wX];exact hacc.1) fun j x ex=>hacc.2 j x (by rw [←xg];exact ex)
 rw [e]
 exact hQ' h' tk k1 sz
end
open PySem PySem.Spec PySem.W PyProof.Rows L2
section
variable {prog:Program} {w:World} {K:Type} [DecidableEq K] {knd:HeapKind prog w K} {A:Around} {E:Value→Shared→Prop} {s:Shared}
theorem r6 {d a:Addr} {xs:List (K×Addr×Value)} {k:K} {v:Value} {Q:Value→Shared→Prop} (hu:knd.room A) (hkey:knd.is s.heap k a) (hm:s.heap.DictOfH knd d xs)
 (h1:∀b u,atKey xs k=some (b,u)→Q u {s with toks:=s.toks+knd.draws k})
 (h2:atKey xs k=none→∀h',h'.DictOfH knd d (storedH xs k a v)→Heap.SameBut d s.heap h'→Q v {s with heap:=h',toks:=s.toks+knd.draws k})
 (hsz:xs.length≤sizeLine:=by size_fits):
 wpAny (model prog w) A (dictSetDefault d (.ref a) v) Q E s:=by
 obtain ⟨o,es,ep,ho,hc,hd,he,his,hn⟩:=hm
 unfold dictSetDefault
 try with_reducible refine wpAny_holding ?_
 refine wpAny_bind (knd.pyHash hu hkey ?_)
 refine wpAny_bind (wpAny_dictFind_heap (s:= {s with toks:=s.toks+knd.draws k}) hu hkey ho hd he his hn ?_ ?_)
 · intro hno
   have hnot:k∉xs.map (·.1):=not_mem_keys_of_get hno
   refine wpAny_bind (wpAny_rule (wpAny_bind (wpAny_updateDictKeys (hz:=by have e:=size_of_entries he;omega) (s:= {s with toks:=s.toks+knd.draws k}) ho hd (wpAny_pure (h2 (atKey_none_of_get hno) _ ⟨_,_,ep+1,Heap.get?_update_self _ ho (Obj.isFreed_of_dict (Obj.data_mapDictKeys hd _)),
    hc.mapDictKeys _,Obj.data_mapDictKeys hd _,?_,?_,?_⟩ (Heap.SameBut.update ..))))))
   · rw [storedH_new (atKey_none_of_get hno)]
     simp [he,entryOfKey]
   · rw [storedH_new (atKey_none_of_get hno)]
     intro x hx
     rcases x4.mp hx with hx|hx
     · exact knd.keeps (his x hx) ho hd (Heap.SameBut.update ..)
     · simp only [wS] at hx
       subst hx
       exact knd.keeps hkey ho hd (Heap.SameBut.update ..)
   · rw [storedH_new (atKey_none_of_get hno)]
     rw [xi,xQ]
     refine ⟨hn,by simp,?_⟩
     intro x hx y hy
     simp only [wZ,List.map_nil,wS] at hy
     subst hy
     exact fun e=>hnot (e▸hx)
 · intro j p hj
   refine wpAny_bind (wpAny_dictEntries (s:= {s with toks:=s.toks+knd.draws k}) ho hd ?_)
   rw [entry_at he j,hj]
   exact wpAny_bind (wpAny_rule (wpAny_pure (h1 p.1 p.2 (atKey_of_get hn hj))))
theorem dW (knd:HeapKind prog w K) (d a:Addr) (hd:(d==sysModules)=false) (dflt:Value):
 MeetsIn prog w (Builtin.«dict.setdefault» ⟨[.ref d, .ref a,dflt],[]⟩) (fun A R s=>knd.room A.in1∧∃k xs,knd.is s.heap k a∧s.heap.DictOfH knd d xs∧xs.length≤sizeLine∧
  (∀b u,atKey xs k=some (b,u)→R (.ok (.ret u)) {s with toks:=s.toks+knd.draws k})∧
  (atKey xs k=none→∀h',h'.DictOfH knd d (storedH xs k a dflt)→Heap.SameBut d s.heap h'→R (.ok (.ret dflt)) {s with heap:=h',toks:=s.toks+knd.draws k})):=
 .of_wp fun A R s ⟨hu,k,xs,hkey,hm,hz,h1,h2⟩=>by
  unfold Builtin.«dict.setdefault»
  refine wpAny_bind ?_
  unfold Builtin.Dict.keyAndDefault
  refine wpAny_bind (wpAny_notOrdered_dict hm.typeIs ?_)
  show wpAny _ _ (pure (d,Value.ref a,some dflt)) _ _ s
  refine wpAny_pure ?_
  show wpAny _ _ (if (d==sysModules)=true then _ else (dictSetDefault d (.ref a) dflt >>=_)) _ _ s
  rw [if_neg (by rw [hd];exact x9)]
  exact wpAny_bind (r6 (hsz:=hz) hu hkey hm (fun b v hv=>wpAny_pure ⟨v,rfl,h1 b v hv⟩) fun hn h' hm' hs'=>wpAny_pure ⟨dflt,rfl,h2 hn h' hm' hs'⟩)
end
noncomputable def tSdJ (P:Program) (w:World) (K:PySem.W.Frag) (td ty tx:TE):TE:=fun σ H Q=>td σ H fun x H1=>∃a kvs,x= .ref a∧DJ P w K H1 a kvs∧ty σ H1 fun y H2=>tx σ H2 fun z H3=>∃b k,y= .ref b∧DJ P w K H3 a kvs∧KeyAt K H3 k b∧kvs.length < sizeLine∧
 (∀z',valJ kvs k=some z'→Q z' H3)∧(valJ kvs k=none→Q z (upd H3 a (dJ P w a (putJ kvs k b z))))
section
variable {X:Cx} {o e f:Expr} {apos cpos:Pos} {td ty tx:TE}
theorem rq (hu:X.A.units+30 < cLine) (ho:PE X o td) (he:PE X e ty) (hf:PE X f tx) (m:M2 X o "setdefault" apos e f cpos):PE X (.Call (.Attribute o "setdefault" apos) [e,f] [] cpos) (tSdJ X.prog X.w X.K td ty tx):=by
 intro pins s σ H Q I h
 refine wpAny_Call_method m.base m.few m.line PySem.F.plainAttrs_dict PySem.F.slot_dict_setdefault PySem.F.type_dict_setdefault (thn (ho pins s σ H _ I h) fun u s1 ⟨x,H1,I1,rx,a,kvs,ex,d,q1⟩=> ?_)
 subst ex
 obtain rfl:u=Value.ref a:=rx
 have ty0:s1.TypeIs (.ref a) "dict"∧∀b,Value.ref a= .ref b→∃ob,s1.heap.get? b=some ob∧ob.dict=none:=by
  obtain ⟨_,_,xs,_,dd⟩:=tO I1.hok I1.kIn d
  refine ⟨dd.typeIs,fun b q=> ?_⟩
  cases q
  obtain ⟨ob,_,_,h1,h2,_⟩:=dd
  exact ⟨ob,h1,h2.2.1⟩
 refine ⟨ty0.1,ty0.2,?_⟩
 rw [m.trees]
 refine Calls.callWith_builtin rfl (Calls.evalArgs_plain (Calls.spliced_cons (thn (he pins s1 σ H1 _ I1 q1) fun iv s2 ⟨y,H2,I2,ry,q2⟩=>
  Calls.spliced_cons (thn (hf pins s2 σ H2 _ I2 q2) fun fv s3 ⟨z,H3,I3,rz,b,k,ey,d3,kb,hl,g1,g2⟩=>Calls.spliced_nil ?_))))
 subst ey
 obtain rfl:iv=Value.ref b:=ry
 obtain ⟨zl,hd,xs,rel,dd⟩:=tO I3.hok I3.kIn d3
 have hz:xs.length≤sizeLine:=by rw [←Paired.length rel];exact zl
 have hl2:(putJ kvs k b z).length≤sizeLine:=by have:=length_putJ kvs k b z;omega
 refine call_meetsIn PySem.F.slot_dict_setdefault dd.typeIs PySem.F.entry_dict_setdefault (PySem.F.args_dict_setdefault_3 _ _ _) (dW (Tk.treeKind X.prog X.w) a b hd fv) ⟨by show X.A.units+1+20 < cLine;omega,k,xs,kb.is I3.hok I3.kIn,dd,hz,fun c u e=> ?_,fun e h' dd' hs=> ?_⟩
 · have rk:=rel.val k
   rw [e] at rk
   cases ev:valJ kvs k with
   |none=>rw [ev] at rk;exact rk.elim
   |some y=>rw [ev] at rk;exact ⟨y,H3,I3.tok _,rk,g1 y ev⟩
 · have rk:=rel.val k
   rw [e] at rk
   cases ev:valJ kvs k with
   |some y=>rw [ev] at rk;exact rk.elim
   |none=>
    obtain ⟨q,es,ep,hq,h2,h3,h4,_,h5⟩:=dd'
    exact ⟨z,_,cW I3 (by rw [d3.at_];exact True.intro) hs ⟨q,hq⟩ (qm hl2 hd (rel.put k rz) ⟨q,es,ep,hq,h2,h3,h4,h5⟩),rz,g2 ev⟩
theorem pe_sdJ {P:Program} {w:World} {K:PySem.W.Frag} (hP:X.prog=P) (hw:X.w=w) (hK:X.K=K) (hu:X.A.units+30 < cLine) (ho:PE X o td) (he:PE X e ty) (hf:PE X f tx) (m:M2 X o "setdefault" apos e f cpos):PE X (.Call (.Attribute o "setdefault" apos) [e,f] [] cpos) (tSdJ P w K td ty tx):=by
 subst hP hw hK
 exact rq hu ho he hf m
end
end Dj
namespace L2
open PySem PySem.Spec PyProof.Rows
section
variable {prog:Program} {w:World} {A:Around} {R:Result→Shared→Prop} {it S:Addr} {fp wr:List Addr} {n:Nat} {P:Nat→Value→Prop} {St:Nat→Heap→Prop} {kw:List (Str×Value)}
end
section
variable {X:Cx}
end
end L2
namespace K61
open PySem L2 Mth
noncomputable def top (i:Nat):Stmt:=PySem.Challenge.pw_smallword_k61_reasons.main.body.getD i (.Pass ⟨0,0,0,0⟩)
noncomputable abbrev sBr:Stmt:=top 1
noncomputable abbrev sSt:Stmt:=top 2
noncomputable abbrev sTri:Stmt:=top 4
noncomputable abbrev sGat:Stmt:=top 5
noncomputable abbrev sFam:Stmt:=rY (top 7) 0
noncomputable abbrev sPin:Stmt:=top 8
noncomputable abbrev sNum:Stmt:=top 9
noncomputable abbrev sFof:Stmt:=top 10
noncomputable abbrev sBof:Stmt:=top 11
noncomputable abbrev sJoi:Stmt:=top 12
noncomputable abbrev sCab:Stmt:=top 13
noncomputable abbrev sRea:Stmt:=top 15
noncomputable abbrev gX:Stmt:=top 16
noncomputable abbrev sWay:Stmt:=top 17
noncomputable abbrev sPla:Stmt:=top 18
noncomputable abbrev sLBy:Stmt:=top 26
noncomputable abbrev sLRi:Stmt:=top 27
noncomputable abbrev gY:Stmt:=top 20
noncomputable abbrev db:Stmt:=top 21
noncomputable abbrev eA:Stmt:=top 22
noncomputable abbrev fO:Stmt:=top 23
noncomputable abbrev dC:Stmt:=top 24
noncomputable abbrev dB:Stmt:=top 25
noncomputable abbrev sLaw:Stmt:=top 28
theorem ae {H:Hp} {p:Addr} {o:HO} (h:H p=none):Same H (upd H p o):=fun b u e=>by
 rw [af (ar e h)]
 exact e
theorem aq {H H':Hp} {D:Addr} {o:HO} (h:H D=none) (s:Same H H'):Same H (upd H' D o):=fun b u e=>by
 rw [af (ar e h)]
 exact s b u e
section
variable {P:Program} {w:World} {K:PySem.W.Frag} {mg:Str→Option Value} {base:Heap}
structure Blt (mg:Str→Option Value):Prop where
 ab:mg "abs"=none
 le:mg "len"=none
 ra:mg "range"=none
 isi:mg "isinstance"=none
 tu:mg "tuple"=none
 it:mg "int"=none
 bo:mg "bool"=none
 li:mg "list"=none
 st:mg "str"=none
 al:mg "all"=none
 an:mg "any"=none
 su:mg "sum"=none
 zi:mg "zip"=none
 so:mg "sorted"=none
 ve:mg "ValueError"=none
 en:mg "enumerate"=none
 ma:mg "max"=none
 re:mg "repr"=none
 se:mg "set"=none
end
open PySem L2 Mth Dec Tre Wd Tw
section
variable {P:Program} {w:World} {K:PySem.W.Frag} {mg:Str→Option Value} {base:Heap}
def spBr (K:PySem.W.Frag):Sp:=fun vs H Q _=>∃(l:Addr) (y:Str) (ys:List Str),vs= [.ref l]∧SqL K H l ((y::ys).map V.str)∧y.length≤1000∧ys.length≤10∧(∀z∈ys,z.length≤600000)∧∀z,cl z=40::cl y++spC (ys.map cl)++ [41]→Q (.str z) H
theorem scBr:aM ["words"] ["words"] (ag sBr):=⟨rfl,rfl,rfl,by decide +kernel,rfl,by decide +kernel,by decide +kernel⟩
theorem wk {f:Addr} {fd:FuncData} (F:Fun K "bracketed" "bracketed" sBr f fd):FnOk P w K mg base CX0 1 f fd ["words"] (spBr K):=by
 refine F.ok scBr (fun vs H Q E h=> ?_) (fun cdv A outer s H vs Q E hr h=> ?_)
 · obtain ⟨l,y,ys,rfl,_⟩:=h
   rfl
 obtain ⟨l,y,ys,rfl,hl,hy,hn,hz,k⟩:=h
 refine ⟨_,ah (aJ (aA fX (aA fX cF (cG PySem.F.plainAttrs_str PySem.F.slot_str_join PySem.F.type_str_join rQ cF (a8 (pv 0) aa))) cF)),?_⟩
 have e1:(Str.ofString " ").length=1:=by decide +kernel
 have e2:(Str.ofString "(").length=1:=by decide +kernel
 have e3:(Str.ofString ")").length=1:=by decide +kernel
 have hs:=oq hz
 have hm:ys.length*600000≤10*600000:=Nat.mul_le_mul_right _ hn
 have hj:(Txt.join (Str.ofString " ") (y::ys)).length≤6002000:=by
  have h2:=lv (B:=600000) (cs:=ys.map cl) (fun c m=>by
   obtain ⟨z,mz,rfl⟩:=xq.mp m
   rw [bK]
   exact hz z mz)
  rw [wL] at h2
  have h3:ys.length*(600000+1)≤10*600001:=Nat.mul_le_mul_right _ hn
  rw [←bK,jI,wM,bK]
  omega
 have hL:(16000000:Nat)≤sizeLine:=by decide +kernel
 refine ⟨rfl,_,rfl,_,l,y::ys,rfl,rfl,hl,by rw [e1];simp only [wZ,ya,wV];omega,_,_,rfl,rfl,by rw [e2];omega,_,_,rfl,rfl,by rw [Dec.len_app,e2,e3];omega,k _ ?_⟩
 rw [bp,bp,wo,vU,jI]
 simp
def spSt (n:Nat):Sp:=fun vs H Q _=>∃(v:V) (t:Tr),vs= [v]∧TrAt H v t∧Ty .tm t∧t.depth < n∧(tmC t).length≤1000∧∀z H',Same H H'→cl z=tmC t→Q (.str z) H'
theorem scSt:aM ["term"] ["term"] (ag sSt):=⟨rfl,rfl,rfl,by decide +kernel,rfl,by decide +kernel,by decide +kernel⟩
theorem o9 {ts:List Tr} {t:Tr} (m:t∈ts):(tmC t).length≤(tmsC ts).length:=by
 rw [dH]
 obtain ⟨a,b,rfl⟩:=List.append_of_mem m
 rw [xi,qX,wZ]
 show _≤(_++((32::tmC t)++spC (b.map tmC))).length
 simp only [wM,wV]
 omega
theorem wg {f fB:Addr} {fd fdB:FuncData} (F:Fun K "shown_term" "shown_term" sSt f fd) (bF:Binds K fd ["term"] []) (mF:mg "shown_term"=some (.ref f)) (FB:Fun K "bracketed" "bracketed" sBr fB fdB) (bB:Binds K fdB ["words"] []) (mB:mg "bracketed"=some (.ref fB)):
 ∀n,FnOk P w K mg base CX0 (n+1) f fd ["term"] (spSt n):=by
 have GB:FnOk P w K mg base CX0 1 fB fdB ["words"] (spBr K):=wk FB
 intro n
 induction n with
 |zero=>exact ⟨fun vs H Q E ⟨_,_,_,_,_,h,_⟩=>absurd h (by omega),fun A outer s H args us vs Q E _ _ _ _ ⟨_,_,_,_,_,h,_⟩=>absurd h (by omega)⟩
 |succ n ih=>
  refine F.ok scSt (fun vs H Q E h=> ?_) (fun cdv A outer s H vs Q E hr h=> ?_)
  · obtain ⟨v,t,rfl,_⟩:=h
    rfl
  obtain ⟨v,t,rfl,hv,hw,hd,hl,k⟩:=h
  have hr1:Room 1 _:=hr.mono (by omega)
  refine ⟨_,ad (ba (aN cS (aB aW (pv 0) ai fun _ _=>rfl) cF (aR _)) (ah (aJ (aB aW (pv 0) ai fun _ _=>rfl))) aL)
   (ah (aJ (ak GB hr1 rfl mB FB.kp bB .nil aF (a8 (aA pf (bE (a8 (aB aW (pv 0) ai fun _ _=>rfl) aa))
    (bU (NC:= ["inner"]) (mp:= [none]) rfl (fU (aB aW (pv 0) ai fun _ _=>rfl)) (fun _ _ _ _ _=>aj (i:=0) (show (["inner"]:List Str).Nodup by decide +kernel) rfl (Or.inl rfl)) (fun _ _ _ _ _=>bz) (fun _ _ _ _ _=>ak ih hr rfl mF F.kp bF .nil aF (a8 (pv 0) aa)))) aa)))),?_⟩
  cases hw with
  |nm x=>
   obtain ⟨r,y,rfl,h1,h2⟩:=at2 hv
   have h3:=at_s h2
   subst h3
   refine ⟨_,rfl,r,_,0, .str "name",rfl,rfl,SqT.of h1,rfl,rfl,_,rfl,?_⟩
   rw [decide_eq_true rfl]
   refine iteT ⟨_,rfl,r,_,1, .str x,rfl,rfl,SqT.of h1,rfl,?_⟩
   exact k _ H (Same.refl H) (dn _ _).symm
  |ap g ts ht3 hty=>
   obtain ⟨r,y,z,rfl,h1,h2,h3⟩:=at3 hv
   have e2:=at_s h2
   subst e2
   obtain ⟨q,vs,rfl,h4,h5⟩:=at_t h3
   refine ⟨_,rfl,r,_,0, .str "call",rfl,rfl,SqT.of h1,rfl,rfl,_,rfl,?_⟩
   rw [decide_eq_false (show¬V.str "call"=V.str "name" by decide +kernel)]
   refine iteF ?_
   refine ⟨_,rfl,r,_,1, .str g,rfl,rfl,SqT.of h1,rfl,by show 1≤sizeLine;decide,fun l nl=> ?_⟩
   have s1:Same H (upd H l (.lst [.str g])):=ae nl
   refine bw rfl ?_
   refine ⟨_,rfl,r,_,2, .ref q,rfl,rfl,SqT.of (s1 _ _ h1),rfl,q,rfl,⟨vs,SqT.of (s1 _ _ h4)⟩,fun D nD=> ?_⟩
   have hlen:=h5.len
   have hL:(100000:Nat)≤sizeLine:=by decide +kernel
   have hl':=hl
   unfold s_ at hl'
   rw [cT] at hl'
   simp only [wM,wV,bK] at hl'
   refine dZ (xs:=vs) (fun i acc H'=>Same (upd H l (.lst [.str g])) H'∧H' D=some (.lst acc)∧∃ys:List Str,acc=ys.map V.str∧ys.map cl=(ts.take i).map tmC) ⟨ae nD,a9,[],rfl,rfl⟩ (fun i acc H' p=>SqT.of (p.1 _ _ (s1 _ _ h4))) ?_ ?_
   · rintro i x acc H' hi ex ⟨sH,hD,ys,rfl,ey⟩
     obtain ⟨t,et,htt⟩:=h5.get' ex
     have mt:=wJ et
     have hsub:=o9 mt
     have yl:=congrArg List.length ey
     rw [wL,wL,xh] at yl
     refine ⟨_,rfl,x,t,rfl,htt.mono (Kd.of_same (s1.trans sH)),hty t mt,?_,by omega,fun z H6 s6 ez=>CompN.mk hi ?_ (s6 _ _ hD) ⟨aq nD (sH.trans s6),a9,ys++ [z],by rw [xi];rfl,?_⟩⟩
     · have hd2:=hd
       simp only [Tr.depth,Trs.depth] at hd2
       have:=bx mt
       omega
     · rw [wL]
       omega
     · rw [xi,ey,xm,et]
       simp [ez]
   · rintro acc H' ⟨sH,hD,ys,rfl,ey⟩
     rw [hlen,xt] at ey
     have hl2:H' l=some (.lst [.str g]):=sH _ _ a9
     have yl:=congrArg List.length ey
     rw [wL,wL] at yl
     refine ⟨l,D,[.str g],_,rfl,rfl,hl2,hD,by simp only [wL,wV,xS];omega,fun p np=> ?_⟩
     refine ⟨p,g,ys,rfl,SqL.of ?_,by omega,by omega,fun y my=> ?_,fun z ez=> ?_⟩
     · rw [a9]
       rfl
     · have:cl y∈ts.map tmC:=by rw [←ey];exact List.mem_map_of_mem my
       obtain ⟨t,mt,e⟩:=xq.mp this
       have:=o9 mt
       rw [←bK,←e]
       omega
     · refine k z _ (s1.trans (sH.trans (ae np))) ?_
       unfold s_
       rw [ez,cT,dH,ey]
end
open PySem L2 Mth Tre Wd Su Tw Fm
theorem SqL.same {K:PySem.W.Frag} {H H':Hp} {a:Addr} {xs:List V} (s:Same H H') (h:SqL K H a xs):SqL K H' a xs:=h.imp (fun x=>x.imp (fun e=>s _ _ e) fun ⟨o,e⟩=>⟨o,s _ _ e⟩) id
def Rk (H:Hp) (e:Key×V) (t:Tr):Prop:=∃z:Str,e.1=Sum.inr z∧Dec.cl z=tmC t∧Gt t∧TrAt H e.2 t
def DictT (H:Hp) (kvs:List (Key×V)) (acc:List Tr):Prop:=Paired (Rk H) kvs acc
def But1 (d:Addr) (H H':Hp):Prop:=∀x o,x≠d→H x=some o→H' x=some o
theorem But1.trans {d:Addr} {H H1 H2:Hp} (a:But1 d H H1) (b:But1 d H1 H2):But1 d H H2:=fun x o n e=>b x o n (a x o n e)
theorem But1.of_same {d:Addr} {H H':Hp} (s:Same H H'):But1 d H H':=fun x o _ e=>s x o e
theorem But1.kd {d:Addr} {H H':Hp} {kvs:List (Key×V)} (hd:H d=some (.dK kvs)) (b:But1 d H H'):Kd H H':=by
 have ne:∀ {a:Addr} {o:HO},H a=some o→(∀z,o≠ .dK z)→a≠d:=fun e h z=>by
  rw [z,hd] at e
  exact h _ (wT e).symm
 exact ⟨fun a xs e=>b a _ (ne e fun z t=>by cases t) e,fun a xs e=>⟨xs,b a _ (ne e fun z t=>by cases t) e⟩⟩
theorem DictT.mono {H H':Hp} {kvs:List (Key×V)} {acc:List Tr} (h:DictT H kvs acc) (k:Kd H H'):DictT H' kvs acc:=Paired.imp' (fun e t ⟨z,a,b,c,d⟩=>⟨z,a,b,c,d.mono k⟩) h
theorem DictT.len {H:Hp} {kvs:List (Key×V)} {acc:List Tr} (h:DictT H kvs acc):kvs.length=acc.length:=Paired.length h
theorem DictT.vals {H:Hp} {kvs:List (Key×V)} {acc:List Tr} (h:DictT H kvs acc):TrsAt H (kvs.map (·.2)) acc:=by
 unfold DictT at h
 induction h with
 |nil=>exact .nil
 |cons h1 _ ih=>
  refine hide fun q_ e_=> ?_
  obtain ⟨z,_,_,_,d⟩:=h1
  subst e_
  exact .cons d ih
theorem DictT.none_iff {H:Hp} {kvs:List (Key×V)} {acc:List Tr} {t:Tr} {z:Str} (h:DictT H kvs acc) (hg:Gt t) (hz:Dec.cl z=tmC t):valV kvs (Sum.inr z)=none↔¬t∈acc:=by
 have e:=cf (Sum.inr z:Key) kvs
 have e2:(kvs.any fun kv=>decide (kv.1=(Sum.inr z:Key)))=true↔t∈acc:=by
  clear e
  unfold DictT at h
  induction h with
  |nil=>simp
  | @cons kv u kvs us h1 _ ih=>
   rw [List.any_cons,Bool.or_eq_true,wY,ih]
   have:decide (kv.1=(Sum.inr z:Key))=true↔t=u:=by
    refine hide fun q_ e_=> ?_
    obtain ⟨z',a,b,g,_⟩:=h1
    subst e_
    rw [decide_eq_true_iff,a]
    constructor
    · intro q
      have q':=Sum.inr.inj q
      subst q'
      exact hg.inj g (hz.symm.trans b)
    · rintro rfl
      rw [Dec.cl_inj (b.trans hz.symm)]
   rw [this]
 rw [←e2,e]
 cases valV kvs (Sum.inr z:Key)<;>simp
section
variable {P:Program} {w:World} {K:PySem.W.Frag} {mg:Str→Option Value} {base:Heap}
def l9:Sp:=fun vs H Q _=>∃(v:V) (t:Tr),vs= [v]∧TrAt H v t∧Gt t∧∀L ws,H L=none→TrsAt H ws (tk t)→Q (.ref L) (upd H L (.lst ws))
theorem vL:aM ["term"] ["term"] (ag sTri):=⟨rfl,rfl,rfl,by decide +kernel,rfl,by decide +kernel,by decide +kernel⟩
theorem uD {f:Addr} {fd:FuncData} (F:Fun K "terms_right_in" "terms_right_in" sTri f fd) (B:Blt mg):FnOk P w K mg base CX0 1 f fd ["term"] l9:=by
 refine F.ok vL (fun vs H Q E h=> ?_) (fun cdv A outer s H vs Q E hr h=> ?_)
 · obtain ⟨v,t,rfl,_⟩:=h
   rfl
 refine hide fun q_ e_=> ?_
 obtain ⟨v,t,rfl,hv,hg,k⟩:=h
 subst e_
 refine ⟨_,ah (aJ (fV (aN cS (aB aW (pv 0) ai fun _ _=>rfl) cF (aR _)) (aU c8 rfl B.li PyProof.Rows.boot_list (a8 (aB aW (pv 0) ai fun _ _=>rfl) aa)) (bE aa))),?_⟩
 cases hg with
 |nm x hx=>
  refine hide fun q_ e_=> ?_
  obtain ⟨r,y,rfl,h1,h2⟩:=at2 hv
  subst e_
  refine ⟨_,rfl,r,_,0, .str "name",rfl,rfl,SqT.of h1,rfl,rfl,_,rfl,?_⟩
  rw [decide_eq_false (show¬V.str "name"=V.str "call" by decide +kernel)]
  exact iteF ⟨by show 0≤sizeLine;decide,fun L nL=>k L [] nL .nil⟩
 |ap f ts hf h0 h3 hh=>
  refine hide fun q_ e_=> ?_
  obtain ⟨r,y,z,rfl,h1,h2,h4⟩:=at3 hv
  subst e_
  refine hide fun q_ e_=> ?_
  obtain ⟨q,vs,rfl,h5,h6⟩:=at_t h4
  subst e_
  refine ⟨_,rfl,r,_,0, .str "call",rfl,rfl,SqT.of h1,rfl,rfl,_,rfl,?_⟩
  rw [decide_eq_true rfl]
  exact iteT ⟨_,rfl,r,_,2, .ref q,rfl,rfl,SqT.of h1,rfl,q,vs,rfl, .inr (SqT.of h5),fun L nL=>k L vs nL h6⟩
def oG (n:Nat):Sp:=fun vs H Q _=>∃(v:V) (t:Tr) (d:Addr) (kvs:List (Key×V)) (acc U:List Tr),vs= [v, .ref d]∧TrAt H v t∧Gt t∧t.depth < n∧n≤40∧H d=some (.dK kvs)∧DictT H kvs acc∧Clt acc∧acc.Nodup∧
 (∀x∈acc,x∈U)∧(∀x,Sb x t→x∈U∧(tmC x).length≤1000)∧U.length < 64∧
 ∀H' kvs' acc',But1 d H H'→H' d=some (.dK kvs')→DictT H' kvs' acc'→Clt acc'→acc'.Nodup→(∀x,x∈acc'↔x∈acc∨Sb x t)→Q .non H'
theorem scGat:aM ["term","found","text","inner"] ["term","found"] (ag sGat):=⟨rfl,rfl,rfl,by decide +kernel,rfl,by decide +kernel,by decide +kernel⟩
theorem uN {f fT fS:Addr} {fd fdT fdS:FuncData} (F:Fun K "gather_terms" "gather_terms" sGat f fd) (bF:Binds K fd ["term","found"] []) (mF:mg "gather_terms"=some (.ref f))
 (GT:FnOk P w K mg base CX0 1 fT fdT ["term"] l9) (kT:PySem.W.keepIn K (.ref fT)=true) (bT:Binds K fdT ["term"] []) (mT:mg "terms_right_in"=some (.ref fT))
 (GS:FnOk P w K mg base CX0 41 fS fdS ["term"] (spSt 40)) (kS:PySem.W.keepIn K (.ref fS)=true) (bS:Binds K fdS ["term"] []) (mS:mg "shown_term"=some (.ref fS)):
 ∀n,FnOk P w K mg base CX0 (n+41) f fd ["term","found"] (oG n):=by
 intro n
 induction n with
 |zero=>exact ⟨fun vs H Q E h=>by obtain ⟨_,_,_,_,_,_,_,_,_,h,_⟩:=h;omega,fun A outer s H args us vs Q E _ _ _ _ h=>by obtain ⟨_,_,_,_,_,_,_,_,_,h,_⟩:=h;omega⟩
 |succ n ih=>
  refine F.ok scGat (fun vs H Q E h=> ?_) (fun cdv A outer s H vs Q E hr h=> ?_)
  · refine hide fun q_ e_=> ?_
    obtain ⟨v,t,d,kvs,acc,U,rfl,_⟩:=h
    subst e_
    rfl
  refine hide fun q_ e_=> ?_
  obtain ⟨v,t,d,kvs,acc,U,rfl,hv,hg,hdep,hn,hd,hD,hcl,hnd,hU,hSb,hU64,k⟩:=h
  subst e_
  have hr1:Room 1 _:=hr.mono (by omega)
  have hrS:Room 41 _:=hr.mono (by omega)
  have hu1:=eU hr
  refine ⟨_,ad (ao (i:=2) scGat.nd rfl (Or.inl rfl) (ak GS hrS rfl mS kS bS .nil aF (a8 (pv 0) aa)))
   (ah (ba (eC (eD hu1 (pv 2) (pv 1)))
    (ad (aZ PassesOwn.never rfl (aP (ak GT hr1 rfl mT kT bT .nil aF (a8 (pv 0) aa))) (aj (i:=3) scGat.nd rfl (Or.inl rfl)) (ah (bf (ak ih hr rfl mF F.kp bF .nil aF (a8 (pv 3) (a8 (pv 1) aa))))))
    (ah (cU hu1 (pv 1) (pv 2) (pv 0) rfl))) aL)),?_⟩
  have hL:(20000:Nat)≤sizeLine:=by decide +kernel
  refine ⟨_,rfl,v,t,rfl,hv,hg.ty,by omega,(hSb t (.refl t)).2,fun z H0 s0 ez=> ?_⟩
  have hd0:=s0 _ _ hd
  have hD0:=hD.mono (Kd.of_same s0)
  refine ⟨_,rfl,_,rfl,d,_,rfl,DGet.k (k:=Sum.inr z) hd0,_,rfl,?_⟩
  by_cases mt:t∈acc
  · have nz:valV kvs (Sum.inr z:Key)≠none:=fun q=>(hD0.none_iff hg ez).mp q mt
    have e:(!(valV kvs (Sum.inr z:Key)).isSome)=false:=by
     cases q:valV kvs (Sum.inr z:Key) with
     |none=>exact absurd q nz
     |some y=>rfl
    rw [e]
    refine iteF ?_
    exact k H0 kvs acc (But1.of_same s0) hd0 hD0 hcl hnd fun x=>⟨.inl,fun h=>h.elim id fun sb=>hcl.sb sb mt⟩
  · have e:(!(valV kvs (Sum.inr z:Key)).isSome)=true:=by rw [(hD0.none_iff hg ez).mpr mt];rfl
    rw [e]
    refine iteT ?_
    refine ⟨_,rfl,v,t,rfl,hv.mono (Kd.of_same s0),hg,fun l ws nl hws=>⟨l,rfl,⟨ws,SqL.of a9⟩,?_⟩⟩
    have ldn:l≠d:=fun q=>by rw [q,hd0] at nl;cases nl
    have s1:Same H (upd H0 l (.lst ws)):=s0.trans (ae nl)
    have hd1:(upd H0 l (.lst ws)) d=some (.dK kvs):=s1 _ _ hd
    have hlen:=hws.len
    refine bc (xs:=ws) (fun i σ H'=>(∃vi,σ= [some v,some (.ref d),some (.str z),vi])∧But1 d (upd H0 l (.lst ws)) H'∧∃kvs' acc',H' d=some (.dK kvs')∧DictT H' kvs' acc'∧Clt acc'∧acc'.Nodup∧(∀x,x∈acc'↔x∈acc∨∃u∈(tk t).take i,Sb x u))
     ⟨⟨none,rfl⟩,fun x o _ e=>e,kvs,acc,hd1,hD.mono (Kd.of_same s1),hcl,hnd,fun x=>⟨.inl,fun h=>h.elim id fun ⟨u,m,_⟩=>by simp at m⟩⟩ (fun i σ H' _ p=>SqL.of (p.2.1 _ _ ldn a9)) ?_ ?_
    · intro i x σ H' ex z_
      refine hide fun q_ e_=> ?_
      obtain ⟨⟨vi,rfl⟩,b1,kvs',acc',hd',hD',hcl',hnd',hm'⟩:=z_
      subst e_
      obtain ⟨u,eu,hu⟩:=hws.get' ex
      have mu:=wJ eu
      obtain ⟨gu,du⟩:=hg.tk mu
      have tp0:Kd H0 H':=(Kd.of_same (ae nl)).trans (b1.kd hd1)
      refine ⟨_,rfl,_,rfl,x,u,d,kvs',acc',U,rfl,hu.mono tp0,gu,by omega,by omega,hd',hD',hcl',hnd',fun y my=> ?_,fun y sy=>hSb y (.step mu sy),hU64,fun H2 kvs2 acc2 b2 hd2 hD2 hcl2 hnd2 hm2=> ?_⟩
      · rcases (hm' y).mp my with h|⟨u',m',sb⟩
        · exact hU y h
        · exact (hSb y (.step (List.mem_of_mem_take m') sb)).1
      · refine ⟨⟨_,rfl⟩,b1.trans b2,kvs2,acc2,hd2,hD2,hcl2,hnd2,fun y=> ?_⟩
        rw [hm2,hm',xm,eu]
        simp only [Option.toList,x4,wS]
        constructor
        · rintro ((h|⟨u',m',sb⟩)|h)
          · exact .inl h
          · exact .inr ⟨u', .inl m',sb⟩
          · exact .inr ⟨u, .inr rfl,h⟩
        · rintro (h|⟨u',m'|rfl,sb⟩)
          · exact .inl (.inl h)
          · exact .inl (.inr ⟨u',m',sb⟩)
          · exact .inr sb
    · intro σ H' z_
      refine hide fun q_ e_=> ?_
      obtain ⟨⟨vi,rfl⟩,b1,kvs',acc',hd',hD',hcl',hnd',hm'⟩:=z_
      subst e_
      rw [hlen,xt] at hm'
      have tp:Kd H H':=(Kd.of_same s1).trans (b1.kd hd1)
      have bb:But1 d H H':=(But1.of_same s1).trans b1
      have mo:¬t∈acc':=fun q=>((hm' t).mp q).elim mt fun ⟨u,m,sb⟩=>by
       have:=(hg.tk m).2
       have:=(sb.depth (hg.tk m).1).2
       omega
      have ez2:=(hD'.none_iff hg ez).mpr mo
      have hle:acc'.length≤U.length:=sub_len hnd' fun y my=>by
       rcases (hm' y).mp my with h|⟨u',m',sb⟩
       · exact hU y h
       · exact (hSb y (.step m' sb)).1
      refine ⟨_,rfl,_,rfl,_,rfl,d,_,rfl,DPut.k (k:=Sum.inr z) hd' (by rw [hD'.len];omega),?_⟩
      rw [cR _ ez2]
      have tp2:Kd H' (upd H' d (.dK (kvs'++ [(Sum.inr z,v)]))):=Dj.Kd.updK hd'
      refine k _ _ (acc'++ [t]) (bb.trans fun x o nx e=>by rw [af nx];exact e) a9 (Paired.snoc (hD'.mono tp2) ⟨z,rfl,ez,hg,hv.mono (tp.trans tp2)⟩) (fun x mx y my=> ?_) ?_ fun x=> ?_
      · rcases x4.mp mx with h|h
        · exact x6 _ (hcl' x h y my)
        · rw [wS.mp h] at my
          exact x6 _ ((hm' y).mpr (.inr ⟨y,my, .refl y⟩))
      · rw [xQ]
        exact ⟨hnd',by simp,fun a ma b mb=>by rw [wS.mp mb];exact fun q=>mo (q▸ma)⟩
      · rw [x4,hm',wS,Sb.iff (x:=x) (t:=t)]
        constructor
        · rintro ((h|h)|h)
          · exact .inl h
          · exact .inr (.inr h)
          · exact .inr (.inl h)
        · rintro (h|h|h)
          · exact .inl (.inl h)
          · exact .inr h
          · exact .inl (.inr h)
def Up (us:List Tr):Prop:=∀(i j:Nat) (t u:Tr),i≤j→us[i]?=some t→us[j]?=some u→ltT u t=false
def oA:Sp:=fun vs H Q _=>∃(l:Addr) (xs:List V) (ts U:List Tr),vs= [.ref l]∧H l=some (.lst xs)∧TrsAt H xs ts∧(∀t∈ts,Gt t∧t.depth≤39)∧(∀t∈ts,∀x,Sb x t→x∈U∧(tmC x).length≤1000)∧U.length < 64∧
 ∀D ws us H',H D=none→Same H H'→H' D=some (.lst ws)→TrsAt H' ws us→us.Nodup→Clt us→Up us→(∀x,x∈us↔∃t∈ts,Sb x t)→Q (.ref D) H'
theorem scPin:aM ["terms","found","term"] ["terms"] (ag sPin):=⟨rfl,rfl,rfl,by decide +kernel,rfl,by decide +kernel,by decide +kernel⟩
theorem uG {f fG:Addr} {fd fdG:FuncData} (F:Fun K "parts_in" "parts_in" sPin f fd) (GG:FnOk P w K mg base CX0 81 fG fdG ["term","found"] (oG 40)) (kG:PySem.W.keepIn K (.ref fG)=true) (bG:Binds K fdG ["term","found"] []) (mG:mg "gather_terms"=some (.ref fG)) (B:Blt mg):
 FnOk P w K mg base CX0 82 f fd ["terms"] oA:=by
 refine F.ok scPin (fun vs H Q E h=> ?_) (fun cdv A outer s H vs Q E hr h=> ?_)
 · refine hide fun q_ e_=> ?_
   obtain ⟨l,xs,ts,U,rfl,_⟩:=h
   subst e_
   rfl
 refine hide fun q_ e_=> ?_
 obtain ⟨l,xs,ts,U,rfl,hl,hT,hts,hSb,hU64,k⟩:=h
 subst e_
 have hu60:(A.deeper (PyProof.Rows.envOfC (Str.ofString "parts_in") (ag sPin) s.heap.objs.size f cdv)).units+60 < cLine:=by have:=hr.units;omega
 refine ⟨_,ad (ao (i:=1) scPin.nd rfl (Or.inl rfl) dR)
  (ad (aZ PassesOwn.never rfl (aP (pv 0)) (aj (i:=2) scPin.nd rfl (Or.inl rfl)) (ah (bf (ak GG hr rfl mG kG bG .nil aF (a8 (pv 2) (a8 (pv 1) aa))))))
  (ah (aJ (am (Dj.call_sortedV rfl hu60) rfl B.so PyProof.Rows.boot_sorted (a8 (iG PySem.F.plainAttrs_dict PySem.F.slot_dict_values PySem.F.type_dict_values nF (pv 1)) aa))))),?_⟩
 intro d nd
 have s1:Same H (upd H d (.dK [])):=ae nd
 have ldn:l≠d:=fun q=>by rw [q,nd] at hl;cases hl
 have hd1:(upd H d (.dK [])) d=some (.dK []):=a9
 have hlen:=hT.len
 refine ⟨_,rfl,l,rfl,⟨xs,SqL.of (s1 _ _ hl)⟩,?_⟩
 refine bc (xs:=xs) (fun i σ H'=>(∃vi,σ= [some (.ref l),some (.ref d),vi])∧But1 d (upd H d (.dK [])) H'∧∃kvs' acc',H' d=some (.dK kvs')∧DictT H' kvs' acc'∧Clt acc'∧acc'.Nodup∧(∀x,x∈acc'↔∃u∈ts.take i,Sb x u))
  ⟨⟨none,rfl⟩,fun x o _ e=>e,[],[],hd1, .nil,(fun x m=>by cases m),xO,fun x=>by simp⟩ (fun i σ H' _ p=>SqL.of (p.2.1 _ _ ldn (s1 _ _ hl))) ?_ ?_
 · intro i x σ H' ex z_
   refine hide fun q_ e_=> ?_
   obtain ⟨⟨vi,rfl⟩,b1,kvs',acc',hd',hD',hcl',hnd',hm'⟩:=z_
   subst e_
   obtain ⟨u,eu,hu⟩:=hT.get' ex
   have mu:=wJ eu
   have tp0:Kd H H':=(Kd.of_same s1).trans (b1.kd hd1)
   refine ⟨_,rfl,_,rfl,x,u,d,kvs',acc',U,rfl,hu.mono tp0,(hts u mu).1,by have:=(hts u mu).2;omega,by omega,hd',hD',hcl',hnd',fun y my=> ?_,fun y sy=>hSb u mu y sy,hU64,fun H2 kvs2 acc2 b2 hd2 hD2 hcl2 hnd2 hm2=> ?_⟩
   · obtain ⟨u',m',sb⟩:=(hm' y).mp my
     exact (hSb u' (List.mem_of_mem_take m') y sb).1
   · refine ⟨⟨_,rfl⟩,b1.trans b2,kvs2,acc2,hd2,hD2,hcl2,hnd2,fun y=> ?_⟩
     rw [hm2,hm',xm,eu]
     simp only [Option.toList,x4,wS]
     constructor
     · rintro (⟨u',m',sb⟩|h)
       · exact ⟨u', .inl m',sb⟩
       · exact ⟨u, .inr rfl,h⟩
     · rintro ⟨u',m'|rfl,sb⟩
       · exact .inl ⟨u',m',sb⟩
       · exact .inr sb
 · intro σ H2 z_
   refine hide fun q_ e_=> ?_
   obtain ⟨⟨vi,rfl⟩,b2,kvs2,acc2,hd2,hD2,hcl2,hnd2,hm2⟩:=z_
   subst e_
   rw [hlen,xt] at hm2
   refine ⟨_,rfl, .inr (.inr (.inl ⟨rfl, .inl ⟨kvs2,hd2⟩⟩)),d,kvs2,rfl,rfl,hd2,fun x nx=> ?_⟩
   have s3:Same H2 (upd H2 x (ig x d)):=ae nx
   have hle:acc2.length≤U.length:=sub_len hnd2 fun y my=>by
    obtain ⟨u',m',sb⟩:=(hm2 y).mp my
    exact (hSb u' m' y sb).1
   have gts:∀t∈acc2,Gt t∧t.depth≤39:=fun t m=>by
    obtain ⟨u',m',sb⟩:=(hm2 t).mp m
    obtain ⟨g1,g2⟩:=hts u' m'
    have:=sb.depth g1
    exact ⟨this.1,by omega⟩
   refine ⟨x,d,kvs2,acc2,rfl,a9,s3 _ _ hd2,hD2.vals.mono (Kd.of_same s3),by omega,fun t m=>⟨?_,eX (gts t m).1.ty,by have:=(gts t m).2;omega⟩,fun t m u m'=>vA 40 (by have:=(gts t m).2;omega) (gts t m).1.ty (gts u m').1.ty,fun D ws us nD hp hws hup=> ?_⟩
   · cases (gts t m).1 with
     |nm x hx=>exact ⟨_,_,rfl⟩
     |ap f ts _ _ _ _=>exact ⟨_,_,rfl⟩
   have sH:Same H (upd (upd H2 x (ig x d)) D (.lst ws)):=fun y o e=>ae nD _ _ (s3 _ _ (b2 y o (ar e nd) (s1 _ _ e)))
   refine k D ws us _ ?_ sH a9 (hws.mono (Kd.of_same (ae nD))) (hp.nodup_iff.mpr hnd2) (fun y my z mz=>hp.mem_iff.mpr (hcl2 y (hp.mem_iff.mp my) z mz)) hup fun y=>by rw [hp.mem_iff,hm2]
   have n2:=s3.free nD
   cases e:H D with
   |none=>rfl
   |some o=>rw [b2 D o (ar e nd) (s1 _ _ e)] at n2;cases n2
end
open PySem L2 Mth Tre Wd Su Tw Fm
def vW (K:PySem.W.Frag):List V→Hp→VK→Prop:=fun xs H Q=>∃p ys,xs= [.ref p]∧((SqL K H p ys∧∀l,H l=none→Q (.ref l) (upd H l (.tup ys)))∨(SqT K H p ys∧Q (.ref p) H))
theorem nR {X:Cx} {K:PySem.W.Frag} (hK:X.K=K):cy X (.type "tuple") (vW K):=by
 subst hK
 exact cN
theorem p6 {X:Cx} {K:PySem.W.Frag} {tg l:Expr} {tl:TE} (hK:X.K=K) (h:PE X l tl):PI X tg l (tK K tl):=by
 subst hK
 exact aP h
structure Fk (K:PySem.W.Frag) (C:Addr):Prop where
 cls:Cls K C
 np:NoAttr K C "parts"
 nn:NoAttr K C "numbers"
 ni:NoAttr K C "inners"
def Nums (kvs:List (Key×V)) (us:List Tr):Prop:=∀(i:Nat) (t:Tr) (z:Str),us[i]?=some t→Dec.cl z=tmC t→valV kvs (Sum.inr z)=some (.int i)
def Fnb (C:Addr) (H:Hp) (a:Addr) (us:List Tr):Prop:=∃(dx:Addr) (fs:List (Str×V)) (nb:Addr) (kvs:List (Key×V)),H a=some (.ins C dx fs)∧fs.lookup (Str.ofString "numbers")=some (V.ref nb)∧H nb=some (.dK kvs)∧Nums kvs us
noncomputable def inr (us:List Tr) (t:Tr):List V:=(tk t).map fun u=>V.int (ix us u)
def Inn (H:Hp) (iss:List V) (us:List Tr):Prop:=iss.length=us.length∧∀(i:Nat) (t:Tr),us[i]?=some t→∃q,iss[i]?=some (.ref q)∧H q=some (.tup (inr us t))
def Fam (C:Addr) (H:Hp) (a:Addr) (us:List Tr):Prop:=∃(dx p nb inn:Addr) (ws:List V) (kvs:List (Key×V)) (iss:List V),H a=some (.ins C dx [(Str.ofString "parts", .ref p),(Str.ofString "numbers", .ref nb),(Str.ofString "inners", .ref inn)])∧H p=some (.lst ws)∧TrsAt H ws us∧H nb=some (.dK kvs)∧Nums kvs us∧H inn=some (.lst iss)∧Inn H iss us
theorem Fam.nb {C:Addr} {H:Hp} {a:Addr} {us:List Tr} (h:Fam C H a us):Fnb C H a us:=by
 refine hide fun q_ e_=> ?_
 obtain ⟨dx,p,nb,inn,ws,kvs,iss,h1,h2,h3,h4,h5,_⟩:=h
 subst e_
 exact ⟨dx,_,nb,kvs,h1,rfl,h4,h5⟩
theorem Fam.same {C:Addr} {H H':Hp} {a:Addr} {us:List Tr} (s:Same H H') (h:Fam C H a us):Fam C H' a us:=by
 refine hide fun q_ e_=> ?_
 obtain ⟨dx,p,nb,inn,ws,kvs,iss,h1,h2,h3,h4,h5,h6,h7,h8⟩:=h
 subst e_
 refine ⟨dx,p,nb,inn,ws,kvs,iss,s _ _ h1,s _ _ h2,h3.mono (Kd.of_same s),s _ _ h4,h5,s _ _ h6,h7,fun i t e=> ?_⟩
 obtain ⟨q,a1,a2⟩:=h8 i t e
 exact ⟨q,a1,s _ _ a2⟩
theorem Fnb.same {C:Addr} {H H':Hp} {a:Addr} {us:List Tr} (s:Same H H') (h:Fnb C H a us):Fnb C H' a us:=by
 refine hide fun q_ e_=> ?_
 obtain ⟨dx,fs,nb,kvs,h1,h2,h3,h4⟩:=h
 subst e_
 exact ⟨dx,fs,nb,kvs,s _ _ h1,h2,s _ _ h3,h4⟩
theorem kz {H:Hp} {a:Addr} {C dx:Addr} {fs:List (Str×V)} {o:HO} (h:H a=some (.ins C dx fs)):Kd H (upd H a o):=by
 refine ⟨fun b zs e=> ?_,fun b zs e=>⟨zs,?_⟩⟩
 · rw [af (fun z=>by rw [z,h] at e;cases e)];exact e
 · rw [af (fun z=>by rw [z,h] at e;cases e)];exact e
def CompD (n i:Nat) (D:Addr) (acc:List (Key×V)) (Pv:Nat→List (Key×V)→Hp→Prop) (k:Key):VK:=fun v H7=>H7 D=some (.dK acc)∧acc.length < sizeLine∧∃m',m' < n - i∧(m'=n - (i+1)∧i+1≤n∧Pv (i+1) (putK acc k v) (upd H7 D (.dK (putK acc k v))))
theorem CompD.mk {n i:Nat} {D:Addr} {acc:List (Key×V)} {Pv:Nat→List (Key×V)→Hp→Prop} {k:Key} {v:V} {H7:Hp} (hi:i < n) (hl:acc.length < sizeLine) (h1:H7 D=some (.dK acc)) (h2:Pv (i+1) (putK acc k v) (upd H7 D (.dK (putK acc k v)))):CompD n i D acc Pv k v H7:=
 ⟨h1,hl,n - (i+1),by omega,rfl,hi,h2⟩
theorem kO {K:PySem.W.Frag} {a:Addr} {mp:List (Option Nat)} {ta:TA} {g:TG} {tk te:TE} {Q:VK} {σ:L2.St} {H1:Hp} {xs:List V}
 (ha:∀Q:List V→Hp→Prop,Q [.ref a] H1→ta σ H1 Q) (h1:SqL K H1 a xs)
 (h:∀D,H1 D=none→∃Pv:Nat→List (Key×V)→Hp→Prop,Pv 0 [] (upd H1 D (.dK []))∧(∀i acc H,Pv i acc H→SqL K H a xs)∧
  (∀i T x acc H,i < xs.length→Pv i acc H→xs[i]?=some x→H T=none→g (.ref T) (subS mp σ) (upd H T (.tup [.int i,x])) fun σ4 H4=>Ext (subS mp σ) σ4∧tk σ4 H4 fun y H6=>∃k,y=kV k∧te σ4 H6 (CompD xs.length i D acc Pv k))∧∀acc H,Pv xs.length acc H→Q (.ref D) H):
 jS mp (pW K ta) g dr tk te σ H1 Q:=by
 unfold jS
 refine ha _ ⟨a,xs,rfl,h1,fun D nD=> ?_⟩
 refine hide fun q_ e_=> ?_
 obtain ⟨Pv,p0,pq,ps,pd⟩:=h D nD
 subst e_
 refine ⟨fun i m acc H=>m=xs.length - i∧i≤xs.length∧Pv i acc H,⟨xs.length,by simp,xo _,p0⟩,?_⟩
 rintro i m acc H ⟨rfl,hi,p⟩
 have q1:=pq i acc H p
 by_cases hlt:i < xs.length
 · refine .inr ⟨⟨xs,xs[i],q1,by simp [hlt]⟩,?_⟩
   intro v H' z_
   refine hide fun q_ e_=> ?_
   obtain ⟨T,x,rfl,nT,rfl,y1,z⟩:=z_
   subst e_
   exact ps i T x acc H hlt p (y1 xs q1) nT
 · have ei:i=xs.length:=by omega
   subst ei
   exact .inl ⟨⟨xs,q1,wO _⟩,pd acc H p⟩
theorem we (y x:V):putF (Str.ofString "numbers") y [(Str.ofString "parts",x)]= [(Str.ofString "parts",x),(Str.ofString "numbers",y)]:=by
 unfold putF
 rw [if_neg (by decide +kernel)]
 rfl
theorem wb (y x z:V):putF (Str.ofString "inners") y [(Str.ofString "parts",x),(Str.ofString "numbers",z)]= [(Str.ofString "parts",x),(Str.ofString "numbers",z),(Str.ofString "inners",y)]:=by
 unfold putF
 rw [if_neg (by decide +kernel)]
 unfold putF
 rw [if_neg (by decide +kernel)]
 rfl
section
variable {P:Program} {w:World} {K:PySem.W.Frag} {mg:Str→Option Value} {base:Heap}
def j5 (C:Addr):Sp:=fun vs H Q _=>∃(a:Addr) (v:V) (t:Tr) (us:List Tr),vs= [.ref a,v]∧Fnb C H a us∧TrAt H v t∧Gt t∧t.depth≤39∧(tmC t).length≤1000∧t∈us∧∀H',Same H H'→Q (.int (ix us t)) H'
theorem vN:aM ["family","term"] ["family","term"] (ag sNum):=⟨rfl,rfl,rfl,by decide +kernel,rfl,by decide +kernel,by decide +kernel⟩
theorem uH {f fS C:Addr} {fd fdS:FuncData} (F:Fun K "number_in" "number_in" sNum f fd) (GS:FnOk P w K mg base CX0 41 fS fdS ["term"] (spSt 40)) (kS:PySem.W.keepIn K (.ref fS)=true) (bS:Binds K fdS ["term"] []) (mS:mg "shown_term"=some (.ref fS)) (hC:Fk K C):
 FnOk P w K mg base CX0 42 f fd ["family","term"] (j5 C):=by
 refine F.ok vN (fun vs H Q E h=> ?_) (fun cdv A outer s H vs Q E hr h=> ?_)
 · refine hide fun q_ e_=> ?_
   obtain ⟨a,v,t,us,rfl,_⟩:=h
   subst e_
   rfl
 refine hide fun q_ e_=> ?_
 obtain ⟨a,v,t,us,rfl,hF,hv,hg,hd,hl,mt,k⟩:=h
 subst e_
 have hu1:=eU hr
 refine ⟨_,ah (aJ (b8 hu1 (dg (pv 0) rfl) (ak GS hr rfl mS kS bS .nil aF (a8 (pv 1) aa)) fun _ _=>rfl)),?_⟩
 refine hide fun q_ e_=> ?_
 obtain ⟨dx,fs,nb,kvs,h1,h2,h3,h4⟩:=hF
 subst e_
 refine ⟨_,rfl,a,C,dx,fs,_,rfl,h1,hC.cls,hC.nn,h2,_,rfl,v,t,rfl,hv,hg.ty,by omega,hl,fun z H1 s1 ez=>⟨nb,_,rfl,?_,k H1 s1⟩⟩
 have:=DGet.k (k:=Sum.inr z) (s1 _ _ h3)
 rw [h4 _ t z (bh mt) ez] at this
 exact this
theorem nE {kvs:List (Key×V)} {us:List Tr} {i:Nat} {t:Tr} {z:Str} (nd:us.Nodup) (hg:∀u∈us,Gt u) (h:∀(j:Nat) (u:Tr) (y:Str),j < i→us[j]?=some u→Dec.cl y=tmC u→valV kvs (Sum.inr y)=some (.int j)) (et:us[i]?=some t) (ez:Dec.cl z=tmC t):
 ∀(j:Nat) (u:Tr) (y:Str),j < i+1→us[j]?=some u→Dec.cl y=tmC u→valV (putK kvs (Sum.inr z) (.int i)) (Sum.inr y)=some (.int j):=by
 intro j u y hj eu ey
 rw [dG]
 by_cases q:(Sum.inr y:Key)=Sum.inr z
 · have q':=Sum.inr.inj q
   subst q'
   have e:u=t:=(hg u (wJ eu)).inj (hg t (wJ et)) (ey.symm.trans ez)
   subst e
   have:=dS nd eu et
   subst this
   rw [if_pos rfl]
 · rw [if_neg q]
   refine h j u y ?_ eu ey
   rcases xk j i with z'|z'
   · exact z'
   · have:j=i:=by omega
     subst this
     rw [et] at eu
     cases eu
     exact absurd (by rw [Dec.cl_inj (ey.trans ez.symm)]) q
def oF (C:Addr):Sp:=fun vs H Q _=>∃(a l dx:Addr) (xs:List V) (ts U:List Tr),vs= [.ref a, .ref l]∧H a=some (.ins C dx [])∧H l=some (.lst xs)∧TrsAt H xs ts∧(∀t∈ts,Gt t∧t.depth≤39)∧(∀t∈ts,∀x,Sb x t→x∈U∧(tmC x).length≤1000)∧U.length < 64∧
 ∀us H',But1 a H H'→Fam C H' a us→us.Nodup→Clt us→Up us→(∀x,x∈us↔∃t∈ts,Sb x t)→Q .non H'
theorem vO:aM ["self","terms"] ["self","terms"] (ag sFam):=⟨rfl,rfl,rfl,by decide +kernel,rfl,by decide +kernel,by decide +kernel⟩
theorem uM {f fP fN fT fS C:Addr} {fd fdP fdN fdT fdS:FuncData} (F:Fun K "__init__" "Family.__init__" sFam f fd) (B:Blt mg) (hC:Fk K C)
 (GP:FnOk P w K mg base CX0 82 fP fdP ["terms"] oA) (kP:PySem.W.keepIn K (.ref fP)=true) (bP:Binds K fdP ["terms"] []) (mP:mg "parts_in"=some (.ref fP))
 (GN:FnOk P w K mg base CX0 42 fN fdN ["family","term"] (j5 C)) (kN:PySem.W.keepIn K (.ref fN)=true) (bN:Binds K fdN ["family","term"] []) (mN:mg "number_in"=some (.ref fN))
 (GT:FnOk P w K mg base CX0 1 fT fdT ["term"] l9) (kT:PySem.W.keepIn K (.ref fT)=true) (bT:Binds K fdT ["term"] []) (mT:mg "terms_right_in"=some (.ref fT))
 (GS:FnOk P w K mg base CX0 41 fS fdS ["term"] (spSt 40)) (kS:PySem.W.keepIn K (.ref fS)=true) (bS:Binds K fdS ["term"] []) (mS:mg "shown_term"=some (.ref fS)):
 FnOk P w K mg base CX0 83 f fd ["self","terms"] (oF C):=by
 refine F.ok vO (fun vs H Q E h=> ?_) (fun cdv A outer s H vs Q E hr h=> ?_)
 · refine hide fun q_ e_=> ?_
   obtain ⟨a,l,dx,xs,ts,U,rfl,_⟩:=h
   subst e_
   rfl
 refine hide fun q_ e_=> ?_
 obtain ⟨a,l,dx,xs,ts,U,rfl,ha,hl,hT,hts,hSb,hU64,k⟩:=h
 subst e_
 have hr1:Room 1 _:=hr.mono (by omega)
 have hrS:Room 41 _:=hr.mono (by omega)
 have hrN:Room 42 _:=hr.mono (by omega)
 refine ⟨_,ad (ka (pv 0) (ak GP hr rfl mP kP bP .nil aF (a8 (pv 1) aa)) rfl)
  (ad (ka (pv 0) (pc (NC:= ["number","part"]) (mp:= [none,none]) (g:=gTup K 2 (gn (cw 0) (gn (cw 1) gNil))) rfl (iF rfl B.en (a8 (dg (pv 0) rfl) aa)) (fun _ _ _ _ _=>cE (n:=2) rfl (aG (aj (i:=0) (show (["number","part"]:List Str).Nodup by decide +kernel) rfl (Or.inl rfl)) (aG (aj (i:=1) (show (["number","part"]:List Str).Nodup by decide +kernel) rfl (Or.inl rfl)) c6)))
   (fun _ _ _ _ _=>bz) (fun _ _ _ _ _=>ak GS hrS rfl mS kS bS .nil aF (a8 (pv 1) aa)) (fun _ _ _ _ _=>pv 0)) rfl)
  (ah (ka (pv 0) (bU (NC:= ["part","self"]) (mp:= [none,some 0]) rfl (aP (dg (pv 0) rfl)) (fun _ _ _ _ _=>aj (i:=0) (show (["part","self"]:List Str).Nodup by decide +kernel) rfl (Or.inl rfl)) (fun _ _ _ _ _=>bz)
   (fun _ _ _ _ _=>aU (nR (K:=K) rfl) rfl B.tu PyProof.Rows.boot_tuple (a8 (bU (NC:= ["inner","self"]) (mp:= [none,some 1]) rfl (p6 (K:=K) rfl (ak GT hr1 rfl mT kT bT .nil aF (a8 (pv 0) aa))) (fun _ _ _ _ _=>aj (i:=0) (show (["inner","self"]:List Str).Nodup by decide +kernel) rfl (Or.inl rfl)) (fun _ _ _ _ _=>bz)
    (fun _ _ _ _ _=>ak GN hrN rfl mN kN bN .nil aF (a8 (pv 1) (a8 (pv 0) aa)))) aa))) rfl))),?_⟩
 refine ⟨_,rfl,l,xs,ts,U,rfl,hl,hT,hts,hSb,hU64,fun D ws us H1 nD s1 hD hws nd cl up mem=> ?_⟩
 have gus:∀t∈us,Gt t∧t.depth≤39∧(tmC t).length≤1000∧t∈U:=fun t m=>by
  obtain ⟨u,mu,sb⟩:=(mem t).mp m
  have:=sb.depth (hts u mu).1
  have:=(hts u mu).2
  exact ⟨(sb.depth (hts u mu).1).1,by omega,(hSb u mu t sb).2,(hSb u mu t sb).1⟩
 refine ⟨_,rfl,a,C,dx,[],rfl,s1 _ _ ha,hC.cls,hC.np,by decide,?_⟩
 have hL:(20000:Nat)≤sizeLine:=by decide +kernel
 have nda:D≠a:=fun q=>by rw [q,ha] at nD;cases nD
 have ha1:=s1 _ _ ha
 have k2:=kz (o:= .ins C dx [(Str.ofString "parts", .ref D)]) ha1
 have hD2:(upd H1 a (.ins C dx [(Str.ofString "parts", .ref D)])) D=some (.lst ws):=by rw [af nda];exact hD
 have hws2:=hws.mono k2
 have b2:But1 a H (upd H1 a (.ins C dx [(Str.ofString "parts", .ref D)])):=fun x o nx e=>by rw [af nx];exact s1 _ _ e
 have ha2:(upd H1 a (.ins C dx [(Str.ofString "parts", .ref D)])) a=some (.ins C dx [(Str.ofString "parts", .ref D)]):=a9
 have hlen:=hws.len
 have l64:us.length < 64:=by
  have:=sub_len nd fun x m=>(gus x m).2.2.2
  omega
 rw [show putF (Str.ofString "parts") (V.ref D) []= [(Str.ofString "parts",V.ref D)] from rfl]
 dsimp only [tSeq,sFld]
 generalize hH2:upd H1 a (.ins C dx [(Str.ofString "parts", .ref D)])=H2 at*
 refine kO (a:=D) (xs:=ws) (fun Q q=>⟨_,rfl,a,C,dx,_, .ref D,rfl,ha2,hC.cls,hC.np,rfl,q⟩) (SqL.of hD2) fun D2 nD2=> ?_
 refine ⟨fun i acc H'=>Same H2 H'∧H' D2=some (.dK acc)∧acc.length≤i∧∀(j:Nat) (u:Tr) (y:Str),j < i→us[j]?=some u→Dec.cl y=tmC u→valV acc (Sum.inr y)=some (.int j),⟨ae nD2,a9,wO _,fun j u y h=>absurd h (xG _)⟩,fun i acc H' p=>SqL.of (p.1 _ _ hD2),?_,?_⟩
 · rintro i T x acc H' hi ⟨sH,hd,hal,hnum⟩ ex nT
   obtain ⟨t,et,ht⟩:=hws2.get' ex
   have mt:=wJ et
   obtain ⟨g1,g2,g3,g4⟩:=gus t mt
   have sT:Same H' (upd H' T (.tup [.int i,x])):=ae nT
   refine ⟨T,[.int i,x],rfl,SqT.of a9,rfl, .int i,[x],rfl,x,[],rfl,rfl,ext2,?_⟩
   refine ⟨_,rfl,x,t,rfl,ht.mono (Kd.of_same (sH.trans sT)),g1.ty,by omega,g3,fun z H6 s6 ez=>⟨Sum.inr z,rfl,_,rfl,CompD.mk hi (by omega) (s6 _ _ (sT _ _ hd)) ⟨aq nD2 (sH.trans (sT.trans s6)),a9,?_,?_⟩⟩⟩
   · have:=be acc (Sum.inr z) (.int i)
     omega
   · exact nE nd (fun u m=>(gus u m).1) hnum et ez
 rintro kvs H3 ⟨s3,hd3,hal,hnum⟩
 have ha3:=s3 _ _ ha2
 refine ⟨_,rfl,a,C,dx,_,rfl,ha3,hC.cls,hC.nn,by show 1 < 1000;decide,?_⟩
 rw [we]
 have n2a:D2≠a:=fun q=>by rw [q,ha2] at nD2;cases nD2
 have k4:=kz (o:= .ins C dx [(Str.ofString "parts", .ref D),(Str.ofString "numbers", .ref D2)]) ha3
 have hD4:(upd H3 a (.ins C dx [(Str.ofString "parts", .ref D),(Str.ofString "numbers", .ref D2)])) D=some (.lst ws):=by rw [af nda];exact s3 _ _ hD2
 have hd4:(upd H3 a (.ins C dx [(Str.ofString "parts", .ref D),(Str.ofString "numbers", .ref D2)])) D2=some (.dK kvs):=by rw [af n2a];exact hd3
 have hws4:=(hws2.mono (Kd.of_same s3)).mono k4
 have b4:But1 a H (upd H3 a (.ins C dx [(Str.ofString "parts", .ref D),(Str.ofString "numbers", .ref D2)])):=fun x o nx e=>by rw [af nx];exact s3 _ _ (b2 x o nx e)
 have ha4:(upd H3 a (.ins C dx [(Str.ofString "parts", .ref D),(Str.ofString "numbers", .ref D2)])) a=some (.ins C dx [(Str.ofString "parts", .ref D),(Str.ofString "numbers", .ref D2)]):=a9
 generalize hH4:upd H3 a (.ins C dx [(Str.ofString "parts", .ref D),(Str.ofString "numbers", .ref D2)])=H4 at*
 have hnums:Nums kvs us:=fun i t z e ez=>hnum i t z (by rw [hlen];exact (wK.mp e).1) e ez
 have hfn:Fnb C H4 a us:=⟨dx,_,D2,kvs,ha4,rfl,hd4,hnums⟩
 refine bw rfl ?_
 refine ⟨_,rfl,a,C,dx,_, .ref D,rfl,ha4,hC.cls,hC.np,rfl,D,rfl,⟨ws,SqL.of hD4⟩,fun D3 nD3=> ?_⟩
 refine cC (xs:=ws) (fun i acc H'=>Same H4 H'∧H' D3=some (.lst acc)∧acc.length=i∧∀(j:Nat) (t:Tr),j < i→us[j]?=some t→∃q,acc[j]?=some (.ref q)∧H' q=some (.tup (inr us t))) ⟨ae nD3,a9,rfl,fun j t h=>absurd h (xG _)⟩ (fun i acc H' p=>SqL.of (p.1 _ _ hD4)) ?_ ?_
 · rintro i x acc H' hi ex ⟨sH,hd,hal,hin⟩
   obtain ⟨t,et,ht⟩:=hws4.get' ex
   have mt:=wJ et
   obtain ⟨g1,g2,g3,g4⟩:=gus t mt
   dsimp only [tCB,j4,tNil]
   refine bw rfl ?_
   refine ⟨_,rfl,x,t,rfl,ht.mono (Kd.of_same sH),g1,fun L ws' nL hws'=>⟨L,rfl,⟨ws',SqL.of a9⟩,fun D4 nD4=> ?_⟩⟩
   have sL:Same H' (upd H' L (.lst ws')):=ae nL
   have hl':=hws'.len
   have t3:(tk t).length≤3:=by
    cases g1 with
    |nm x hx=>rw [t5];simp
    |ap f ts hf h0 h3 hh=>rw [j0];exact h3
   refine cC (xs:=ws') (fun j acc2 H''=>Same (upd H' L (.lst ws')) H''∧H'' D4=some (.lst acc2)∧acc2=((tk t).take j).map (fun u=>V.int (ix us u))) ⟨ae nD4,a9,rfl⟩ (fun j acc2 H'' p=>SqL.of (p.1 _ _ a9)) ?_ ?_
   · rintro j y acc2 H'' hj ey ⟨s5,hd5,rfl⟩
     obtain ⟨u,eu,hu⟩:=hws'.get' ey
     have mu:=wJ eu
     obtain ⟨q1,q2⟩:=g1.tk mu
     have sA:=sH.trans (sL.trans s5)
     refine ⟨_,rfl,_,rfl,a,y,u,us,rfl,hfn.same sA,hu.mono (Kd.of_same (sL.trans s5)),q1,by omega,(gus u (cl t mt u mu)).2.2.1,cl t mt u mu,fun H6 s6=>CompN.mk hj ?_ (s6 _ _ hd5) ⟨aq nD4 (s5.trans s6),a9,?_⟩⟩
     · rw [wL,xh]
       omega
     · rw [xm,eu,xi]
       rfl
   · rintro acc2 H'' ⟨s5,hd5,rfl⟩
     rw [hl',xt] at hd5
     have sA:=sH.trans (sL.trans s5)
     refine ⟨D4,inr us t,rfl, .inl ⟨SqL.of ?_,fun q nq=>CompN.mk hi (by omega) ?_ ⟨?_,a9,?_,?_⟩⟩⟩
     · exact hd5
     · exact ae nq _ _ (s5 _ _ (sL _ _ hd))
     · exact aq nD3 (sA.trans (ae nq))
     · rw [wM,hal]
       rfl
     · intro j u hj eu
       rcases xk j i with z|z
       · obtain ⟨q',a1,a2⟩:=hin j u z eu
         refine ⟨q',by rw [xp (by omega)];exact a1,?_⟩
         rw [af (fun zz=>by rw [zz,hd] at a2;cases a2)]
         exact ae nq _ _ (s5 _ _ (sL _ _ a2))
       · have:j=i:=by omega
         subst this
         rw [et] at eu
         cases eu
         refine ⟨q,by rw [xu (by omega),hal,Nat.sub_self];rfl,?_⟩
         rw [af (fun zz=>by rw [zz,s5 _ _ (sL _ _ hd)] at nq;cases nq),a9]
 · rintro acc H5 ⟨s5,hd5,hal5,hin5⟩
   have ha5:=s5 _ _ ha4
   refine ⟨_,rfl,a,C,dx,_,rfl,ha5,hC.cls,hC.ni,by show 2 < 1000;decide,?_⟩
   rw [wb]
   have k6:=kz (o:= .ins C dx [(Str.ofString "parts", .ref D),(Str.ofString "numbers", .ref D2),(Str.ofString "inners", .ref D3)]) ha5
   have n3a:D3≠a:=fun q=>by rw [q,ha4] at nD3;cases nD3
   refine k us _ (fun x o nx e=>by rw [af nx];exact s5 _ _ (b4 x o nx e)) ⟨dx,D,D2,D3,ws,kvs,acc,a9,by rw [af nda];exact s5 _ _ hD4,(hws4.mono (Kd.of_same s5)).mono k6,by rw [af n2a];exact s5 _ _ hd4,hnums,by rw [af n3a];exact hd5,by rw [hal5,hlen],fun i t e=> ?_⟩ nd cl up mem
   obtain ⟨q,a1,a2⟩:=hin5 i t (by rw [hlen];exact (wK.mp e).1) e
   exact ⟨q,a1,k6.tup _ _ a2⟩
end
end K61
namespace Rz
open PySem L2 Mth Tre Wd Su Tw Fm
abbrev Bd:=Nat×Nat×Option Nat
inductive Con (ks:List Bd):Nat→Nat→Prop
 |refl (x:Nat):Con ks x x
 |ed {q:Bd} (m:q∈ks):Con ks q.1 q.2.1
 |sym {x y:Nat}:Con ks x y→Con ks y x
 |trans {x y z:Nat}:Con ks x y→Con ks y z→Con ks x z
theorem Con.mono {ks ks':List Bd} (h:∀q∈ks,q∈ks') {x y:Nat} (c:Con ks x y):Con ks' x y:=by
 induction c with
 |refl x=>exact .refl x
 |ed m=>exact .ed (h _ m)
 |sym _ ih=>exact ih.sym
 |trans _ _ a b=>exact a.trans b
theorem og {ks:List Bd} {i j:Nat} (h:i≤j):∀q∈ks.take i,q∈ks.take j:=fun q m=>by
 obtain ⟨k,e⟩:=xJ.mp m
 rw [List.getElem?_take] at e
 by_cases c:k < i
 · rw [if_pos c] at e
   refine xJ.mpr ⟨k,?_⟩
   rw [List.getElem?_take,if_pos (by omega)]
   exact e
 · rw [if_neg c] at e
   cases e
structure Fo (us:List Tr) (ks:List Bd):Prop where
 apart:∀(i:Nat) (q:Bd),ks[i]?=some q→¬Con (ks.take i) q.1 q.2.1
 kin:∀(i:Nat) (q:Bd),ks[i]?=some q→q.2.2=none→∃f as bs,us[q.1]?=some (cal f as)∧us[q.2.1]?=some (cal f bs)∧as.length=bs.length∧∀(k:Nat) (a b:Tr),as[k]?=some a→bs[k]?=some b→Con (ks.take i) (ix us a) (ix us b)
def Is (q st:Bd):Prop:=q=st∨q=(st.2.1,st.1,st.2.2)
inductive Way (ks:List Bd):Nat→Nat→List Bd→Prop
 |nil (x:Nat):Way ks x x []
 |cons {st:Bd} {y:Nat} {ws:List Bd} (m:∃q∈ks,Is q st) (w:Way ks st.2.1 y ws):Way ks st.1 y (st::ws)
def Low (ks:List Bd) (T:Nat) (st:Bd):Prop:=∃(i:Nat) (q:Bd),i < T∧ks[i]?=some q∧Is q st
theorem Low.con {ks:List Bd} {T:Nat} {st:Bd} (h:Low ks T st):Con (ks.take T) st.1 st.2.1:=by
 obtain ⟨i,q,hi,e,h⟩:=h
 have m:q∈ks.take T:=xJ.mpr ⟨i,by rw [List.getElem?_take,if_pos hi];exact e⟩
 rcases h with rfl|rfl
 · exact .ed m
 · exact (Con.ed m).sym
theorem l7 {ks:List Bd} {T x y:Nat} {ws:List Bd} (w:Way ks x y ws):(∀st∈ws,Low ks T st)→Con (ks.take T) x y:=by
 induction w with
 |nil x=>exact fun _=> .refl x
 |cons m w ih=>exact fun h=>(h _ wP).con.trans (ih fun st ms=>h st (wQ _ ms))
theorem way_low {ks:List Bd} {x y:Nat} {ws:List Bd} (w:Way ks x y ws):∀st∈ws,Low ks ks.length st:=by
 induction w with
 |nil x=>exact fun st m=>(nomatch m)
 |cons m w ih=>
  intro st ms
  rcases wY.mp ms with rfl|ms
  · obtain ⟨q,mq,h⟩:=m
    obtain ⟨i,hi,e⟩:=xf mq
    exact ⟨i,q,hi,by rw [wI hi,e],h⟩
  · exact ih st ms
theorem l6 {ks:List Bd} {ord:Nat→Nat} {x y:Nat} {ws:List Bd} (w:Way ks x y ws):(∀st∈ws,ord st.1 < ord st.2.1)→ord x≤ord y∧∀st∈ws,ord x≤ord st.1∧ord st.2.1≤ord y:=by
 induction w with
 |nil x=>exact fun _=>⟨wO _,fun st m=>(nomatch m)⟩
 |cons m w ih=>
  intro h
  obtain ⟨h1,h2⟩:=ih fun st ms=>h st (wQ _ ms)
  have h0:=h _ wP
  refine ⟨by omega,fun st ms=> ?_⟩
  rcases wY.mp ms with rfl|ms
  · exact ⟨wO _,h1⟩
  · have:=h2 st ms
    omega
theorem qJ {ks:List Bd} {x y:Nat}:∀ {pre:List Bd} {st:Bd} {post:List Bd},Way ks x y (pre++st::post)→Way ks x st.1 pre∧Way ks st.2.1 y post:=by
 intro pre
 induction pre generalizing x with
 |nil=>
  intro st post w
  cases w with
  |cons m w=>exact ⟨.nil _,w⟩
 |cons p pre ih=>
  intro st post w
  cases w with
  |cons m w=>
   obtain ⟨w1,w2⟩:=ih w
   exact ⟨.cons m w1,w2⟩
theorem wB {us:List Tr} {ks:List Bd} (F:Fo us ks) {ord:Nat→Nat} {x y:Nat} {ws:List Bd} (w:Way ks x y ws) (rise:∀st∈ws,ord st.1 < ord st.2.1) {t:Nat} (c:Con (ks.take t) x y):∀st∈ws,Low ks t st:=by
 have go:∀(d T:Nat),T=t+d→(∀st∈ws,Low ks T st)→∀st∈ws,Low ks t st:=by
  intro d
  induction d with
  |zero=>intro T e h;rw [Nat.add_zero] at e;rw [←e];exact h
  |succ d ih=>
   intro T e h
   refine ih (t+d) rfl fun st0 m0=> ?_
   by_cases z:Low ks (t+d) st0
   · exact z
   exfalso
   obtain ⟨i,q,hi,eq,hq⟩:=h st0 m0
   have hiT:i=t+d:=by
    rcases xk i (t+d) with c|c
    · exact absurd ⟨i,q,c,eq,hq⟩ z
    · omega
   subst hiT
   obtain ⟨pre,post,rfl⟩:=List.append_of_mem m0
   obtain ⟨w1,w2⟩:=qJ w
   have r0:=rise st0 m0
   have o1:=l6 (ord:=ord) w1 fun st m=>rise st (x6 _ m)
   have o2:=l6 (ord:=ord) w2 fun st m=>rise st (wR _ (wQ _ m))
   have other:∀st1,st1∈pre∨st1∈post→Low ks (t+d) st1:=fun st1 m1=>by
    have mm:st1∈pre++st0::post:=by
     rcases m1 with m1|m1
     · exact x6 _ m1
     · exact wR _ (wQ _ m1)
    obtain ⟨j,q1,hj,eq1,hq1⟩:=h st1 mm
    rcases xk j (t+d) with c|c
    · exact ⟨j,q1,c,eq1,hq1⟩
    · exfalso
      have:j=t+d:=by omega
      subst this
      rw [eq] at eq1
      cases eq1
      have r1:=rise st1 mm
      have same:st1.1=st0.1∧st1.2.1=st0.2.1:=by
       rcases hq with a|a<;>rcases hq1 with b|b
       · rw [a] at b;rw [b];exact ⟨rfl,rfl⟩
       · rw [a] at b
         have e1:st0.1=st1.2.1:=congrArg (fun q=>q.1) b
         have e2:st0.2.1=st1.1:=congrArg (fun q=>q.2.1) b
         rw [e1,e2] at r0
         omega
       · rw [a] at b
         have e1:st0.2.1=st1.1:=congrArg (fun q=>q.1) b
         have e2:st0.1=st1.2.1:=congrArg (fun q=>q.2.1) b
         rw [e1,e2] at r0
         omega
       · rw [a] at b
         exact ⟨(congrArg (fun q=>q.2.1) b).symm,(congrArg (fun q=>q.1) b).symm⟩
      rcases m1 with m1|m1
      · have:=(o1.2 st1 m1).2
        rw [same.2] at this
        omega
      · have:=(o2.2 st1 m1).1
        rw [same.1] at this
        omega
   have c1:=l7 w1 fun st m=>other st (.inl m)
   have c2:=l7 w2 fun st m=>other st (.inr m)
   have c0:Con (ks.take (t+d)) x y:=c.mono (og (by omega))
   have cc:Con (ks.take (t+d)) st0.1 st0.2.1:=c1.sym.trans (c0.trans c2.sym)
   rcases hq with rfl|rfl
   · exact F.apart _ _ eq cc
   · exact F.apart _ _ eq cc.sym
 rcases Nat.le_total t ks.length with c1|c1
 · exact go (ks.length - t) ks.length (by omega) (way_low w)
 · intro st m
   obtain ⟨i,q,hi,r⟩:=way_low w st m
   exact ⟨i,q,by omega,r⟩
theorem enough {us:List Tr} {ks:List Bd} {L:List (Tr×Tr)} {Z:Nat→Nat→Prop} {pls:List Nat} (nd:us.Nodup) (F:Fo us ks)
 (hpl:∀q∈ks,∀pl,q.2.2=some pl→pl∈pls→∃t u,us[q.1]?=some t∧us[q.2.1]?=some u∧(t,u)∈L)
 (hZ:∀x y,Z x y→∃(ws:List Bd) (ord:Nat→Nat),Way ks x y ws∧(∀st∈ws,ord st.1 < ord st.2.1)∧∀st∈ws,(∃pl,st.2.2=some pl∧pl∈pls)∨(st.2.2=none∧∀f as bs,us[st.1]?=some (cal f as)→us[st.2.1]?=some (cal f bs)→∀(k:Nat) a b,as[k]?=some a→bs[k]?=some b→Z (ix us a) (ix us b)))
 (clo:Clt us):∀(T:Nat) (x y:Nat),Z x y→Con (ks.take T) x y→∀t u,us[x]?=some t→us[y]?=some u→Cg us L t u:=by
 intro T
 induction T using Nat.strongRecOn with
 |ind T ih=>
  intro x y z c t u ht hu
  obtain ⟨ws,ord,w,rise,hst⟩:=hZ x y z
  have low:=wB F w rise c
  clear c z rise
  have step:∀st∈ws,∃a b,us[st.1]?=some a∧us[st.2.1]?=some b∧Cg us L a b:=fun st m=>by
   obtain ⟨i,q,hi,eq,hq⟩:=low st m
   rcases hst st m with ⟨pl,e1,e2⟩|⟨e1,e2⟩
   · have e3:q.2.2=some pl:=by rcases hq with rfl|rfl<;>exact e1
     obtain ⟨a,b,g1,g2,g3⟩:=hpl q (wJ eq) pl e3 e2
     rcases hq with rfl|rfl
     · exact ⟨a,b,g1,g2, .ax g3⟩
     · exact ⟨b,a,g2,g1, .symm (.ax g3)⟩
   · have e3:q.2.2=none:=by rcases hq with rfl|rfl<;>exact e1
     obtain ⟨f,as,bs,g1,g2,g3,g4⟩:=F.kin i q eq e3
     have up:∀ {c:Tr} {f as} {j:Nat},us[j]?=some (cal f as)→c∈as→us[ix us c]?=some c:=fun h m=>bh (clo _ (wJ h) _ m)
     rcases hq with rfl|rfl
     · refine ⟨_,_,g1,g2, .cong f as bs (wJ g1) (wJ g2) g3 fun k a b ea eb=> ?_⟩
       exact ih i hi _ _ (e2 f as bs g1 g2 k a b ea eb) (g4 k a b ea eb) a b (up g1 (wJ ea)) (up g2 (wJ eb))
     · refine ⟨_,_,g2,g1, .cong f bs as (wJ g2) (wJ g1) g3.symm fun k a b ea eb=> ?_⟩
       exact ih i hi _ _ (e2 f bs as g2 g1 k a b ea eb) (g4 k b a eb ea).sym a b (up g2 (wJ ea)) (up g1 (wJ eb))
  clear low hst ih
  induction w generalizing t with
  |nil x=>
   rw [ht] at hu
   cases hu
   exact .refl _
  |cons m w ih=>
   obtain ⟨a,b,g1,g2,g3⟩:=step _ wP
   rw [ht] at g1
   cases g1
   exact g3.trans (ih b g2 hu fun st ms=>step st (wQ _ ms))
open PySem L2 Mth Tre Wd Su Tw Fm
structure Kp (us:List Tr) (ps ks:List Bd) (rs:List Nat):Prop where
 fo:Fo us ks
 pl:∀q∈ks,q.2.2≠none→q∈ps
 con:∀x y,Con ks x y→rs[x]?=rs[y]?
 noc:∀x y:Nat,x < rs.length→y < rs.length→rs[x]?=rs[y]?→Con ks x y
structure May (us:List Tr) (ps ks:List Bd) (q:Bd):Prop where
 pl:q.2.2≠none→q∈ps
 kin:q.2.2=none→∃f as bs,us[q.1]?=some (cal f as)∧us[q.2.1]?=some (cal f bs)∧as.length=bs.length∧∀(k:Nat) (a b:Tr),as[k]?=some a→bs[k]?=some b→Con ks (ix us a) (ix us b)
theorem May.mono {us:List Tr} {ps ks ks':List Bd} {q:Bd} (h:May us ps ks q) (s:∀q∈ks,q∈ks'):May us ps ks' q:=
 ⟨h.pl,fun e=>by
  obtain ⟨f,as,bs,a,b,c,d⟩:=h.kin e
  exact ⟨f,as,bs,a,b,c,fun k x y ex ey=>(d k x y ex ey).mono s⟩⟩
theorem Kp.nil (us:List Tr) (ps:List Bd) (n:Nat):Kp us ps [] (List.range n):=by
 refine ⟨⟨fun i q e=>by simp at e,fun i q e=>by simp at e⟩,fun q m=>(nomatch m),fun x y c=> ?_,fun x y hx hy e=> ?_⟩
 · have:x=y:=by
    induction c with
    |refl x=>rfl
    |ed m=>cases m
    |sym _ ih=>exact ih.symm
    |trans _ _ a b=>exact a.trans b
   rw [this]
 · rw [x3] at hx hy
   rw [wI (by rw [x3];exact hx),wI (by rw [x3];exact hy),List.getElem_range,List.getElem_range] at e
   cases e
   exact .refl _
theorem Kp.add {us:List Tr} {ps ks:List Bd} {rs:List Nat} (h:Kp us ps ks rs) {q:Bd} (m:May us ps ks q) {ra rb:Nat} (ea:rs[q.1]?=some ra) (eb:rs[q.2.1]?=some rb) (ne:ra≠rb):Kp us ps (ks++ [q]) (mrg ra rb rs):=by
 have sub:∀p∈ks,p∈ks++ [q]:=fun p mp=>x6 _ mp
 have tk:∀i,i≤ks.length→(ks++ [q]).take i=ks.take i:=fun i hi=>List.take_append_of_le_length hi
 have la:=(wK.mp ea).1
 have lb:=(wK.mp eb).1
 have which:∀(i:Nat) (p:Bd),(ks++ [q])[i]?=some p→(i < ks.length∧ks[i]?=some p)∨(i=ks.length∧p=q):=fun i p e=>by
  rcases xk i ks.length with c|c
  · rw [xp c] at e
    exact .inl ⟨c,e⟩
  · rw [xu c] at e
    have:i - ks.length=0:=by
     have:=(wK.mp e).1
     simp at this
     omega
    rw [this] at e
    cases e
    exact .inr ⟨by omega,rfl⟩
 have own:∀(i:Nat),ks.take ks.length=ks:=fun i=>xt
 refine ⟨⟨fun i p e=> ?_,fun i p e en=> ?_⟩,fun p mp hp=> ?_,fun x y c=> ?_,fun x y hx hy e=> ?_⟩
 · rcases which i p e with ⟨hi,e'⟩|⟨hi,rfl⟩
   · rw [tk i (xX hi)]
     exact h.fo.apart i p e'
   · rw [tk i (by omega),hi,xt]
     intro c
     have:=h.con _ _ c
     rw [ea,eb] at this
     exact ne (wT this)
 · rcases which i p e with ⟨hi,e'⟩|⟨hi,rfl⟩
   · rw [tk i (xX hi)]
     exact h.fo.kin i p e' en
   · rw [tk i (by omega),hi,xt]
     exact m.kin en
 · rcases x4.mp mp with mp|mp
   · exact h.pl p mp hp
   · rw [wS] at mp
     subst mp
     exact m.pl hp
 · induction c with
   |refl x=>rfl
   |ed mp=>
    rcases x4.mp mp with mp|mp
    · exact kh (h.con _ _ (.ed mp))
    · rw [wS] at mp
      subst mp
      exact pC ea eb
   |sym _ ih=>exact ih.symm
   |trans _ _ a b=>exact a.trans b
 · rw [dU] at hx hy
   have ex:rs[x]?=some rs[x]:=wI hx
   have ey:rs[y]?=some rs[y]:=wI hy
   unfold mrg at e
   rw [wN,wN,ex,ey] at e
   have e':(if rs[x]=ra then rb else rs[x])=(if rs[y]=ra then rb else rs[y]):=wT e
   have edge:Con (ks++ [q]) q.1 q.2.1:= .ed (wR _ (wS.mpr rfl))
   have up:∀ {x y:Nat},x < rs.length→y < rs.length→rs[x]?=rs[y]?→Con (ks++ [q]) x y:=fun hx hy e=>(h.noc _ _ hx hy e).mono sub
   by_cases c1:rs[x]=ra
   · by_cases c2:rs[y]=ra
     · exact up hx hy (by rw [ex,ey,c1,c2])
     · rw [if_pos c1,if_neg c2] at e'
       exact (up hx la (by rw [ex,ea,c1])).trans (edge.trans (up lb hy (by rw [ey,eb,e'])))
   · by_cases c2:rs[y]=ra
     · rw [if_neg c1,if_pos c2] at e'
       exact ((up hy la (by rw [ey,ea,c2])).trans (edge.trans (up lb hx (by rw [ex,eb,e'])))).sym
     · rw [if_neg c1,if_neg c2] at e'
       exact up hx hy (by rw [ex,ey,e'])
end Rz
namespace K61
open PySem L2 Mth Tre Wd Su Tw Fm
theorem rm {X:Cx} {K:PySem.W.Frag} {tg l:Expr} {tl:TE} (hK:X.K=K) (h:PE X l tl):PI X tg l (iTup K tl):=by
 subst hK
 exact fU h
abbrev pr (p:Tr×Tr):Tr:= .tup [p.1,p.2]
def allT (L:List (Tr×Tr)):List Tr:=L.flatMap fun p=> [p.1,p.2]
theorem nZ {L:List (Tr×Tr)} {i:Nat} {p:Tr×Tr} (e:L[i]?=some p):allT (L.take (i+1))=allT (L.take i)++ [p.1,p.2]:=by
 unfold allT
 rw [xm,e,List.flatMap_append]
 simp
theorem gH (L:List (Tr×Tr)):(allT L).length=2*L.length:=by
 unfold allT
 induction L with
 |nil=>rfl
 |cons p L ih=>rw [List.flatMap_cons,wM,ih];simp;omega
theorem TrsAt.snoc {H:Hp} {vs:List V} {ts:List Tr} {v:V} {t:Tr} (h:TrsAt H vs ts) (h1:TrAt H v t):TrsAt H (vs++ [v]) (ts++ [t]):=TrsAt.app (.cons h1 .nil) h
section
variable {P:Program} {w:World} {K:PySem.W.Frag} {mg:Str→Option Value} {base:Heap}
def Gs (ts U:List Tr):Prop:=(∀t∈ts,Gt t∧t.depth≤39)∧(∀t∈ts,∀x,Sb x t→x∈U∧(tmC x).length≤1000)∧U.length < 64
def oH (K:PySem.W.Frag) (C:Addr):Sp:=fun vs H Q _=>∃(ll lt:Addr) (ps xs:List V) (L:List (Tr×Tr)) (ts U:List Tr),vs= [.ref ll, .ref lt]∧H ll=some (.lst ps)∧TrsAt H ps (L.map pr)∧H lt=some (.lst xs)∧TrsAt H xs ts∧Gs (allT L++ts) U∧L.length≤1000∧ts.length≤1000∧
 ∀a us H',H a=none→Same H H'→Fam C H' a us→us.Nodup→Clt us→Up us→(∀x,x∈us↔∃t∈allT L++ts,Sb x t)→Q (.ref a) H'
theorem vP:aM ["likes","terms"] ["likes","terms"] (ag sFof):=⟨rfl,rfl,rfl,by decide +kernel,rfl,by decide +kernel,by decide +kernel⟩
theorem uO {f fI C:Addr} {fd fdI:FuncData} (F:Fun K "family_of" "family_of" sFof f fd) (B:Blt mg) (M:Mk K C fI) (mC:mg "Family"=some (.ref C))
 (GI:FnOk P w K mg base CX0 83 fI fdI ["self","terms"] (oF C)) (bI:Binds K fdI ["self","terms"] []):
 FnOk P w K mg base CX0 85 f fd ["likes","terms"] (oH K C):=by
 refine F.ok vP (fun vs H Q E h=> ?_) (fun cdv A outer s H vs Q E hr h=> ?_)
 · refine hide fun q_ e_=> ?_
   obtain ⟨ll,lt,ps,xs,L,ts,U,rfl,_⟩:=h
   subst e_
   rfl
 refine hide fun q_ e_=> ?_
 obtain ⟨ll,lt,ps,xs,L,ts,U,rfl,hl,hP,ht,hT,⟨hg1,hg2,hU⟩,L1,T1,k⟩:=h
 subst e_
 have nd2:(["pair","term"]:List Str).Nodup:=by decide +kernel
 refine ⟨_,ah (aJ (rA M GI hr rfl mC bI .nil aF (a8 (aA pf (pe (NC:= ["pair","term"]) (mp:= [none,none]) rfl (aP (pv 0)) (fun _ _ _ _ _=>aj (i:=0) nd2 rfl (Or.inl rfl)) (fun _ _ _ _ _=>rm (K:=K) rfl (pv 0)) (fun _ _ _ _ _=>aj (i:=1) nd2 rfl (Or.inl rfl)) (fun _ _ _ _ _=>pv 1))
  (aU c8 rfl B.li PyProof.Rows.boot_list (a8 (pv 1) aa))) aa))),?_⟩
 have hL:(20000:Nat)≤sizeLine:=by decide +kernel
 have hpl:=hP.len
 rw [wL] at hpl
 dsimp only [tRet,t9,j4,tOp,on]
 refine ⟨_,rfl,ll,rfl,⟨ps,SqL.of hl⟩,fun D nD=> ?_⟩
 have nDl:ll≠D:=fun q=>by rw [q,nD] at hl;cases hl
 refine ⟨fun i m acc H'=>m=ps.length - i∧i≤ps.length∧Same H H'∧H' D=some (.lst acc)∧TrsAt H' acc (allT (L.take i)),⟨_,rfl,xo _,ae nD,a9, .nil⟩,?_⟩
 intro i m acc H' z_
 refine hide fun q_ e_=> ?_
 obtain ⟨rfl,hi,sH,hD,hA⟩:=z_
 subst e_
 by_cases hlt:i < ps.length
 · refine .inr ⟨⟨ps,ps[i],SqL.of (sH _ _ hl),by simp [hlt]⟩,?_⟩
   rintro x H3 ⟨rfl,ey⟩
   have ex:=ey ps (SqL.of (sH _ _ hl))
   obtain ⟨t,et,htt⟩:=(hP.mono (Kd.of_same sH)).get' ex
   rw [wN] at et
   obtain ⟨p,ep,rfl⟩:=x5.mp et
   refine hide fun q_ e_=> ?_
   obtain ⟨q,x1,x2,rfl,h1,h2,h3⟩:=iK htt
   subst e_
   refine au ⟨ext1,?_⟩
   refine ⟨_,rfl,q,rfl,⟨_,SqT.of h1⟩,?_⟩
   have hal:=hA.len
   rw [gH,xh] at hal
   refine ⟨fun j m2 acc2 H6=>m2=2 - j∧j≤2∧Same H3 (upd H6 D (.lst acc))∧Same H H6∧H6 q=some (.tup [x1,x2])∧H6 D=some (.lst acc2)∧TrsAt H6 acc2 (allT (L.take i)++ [p.1,p.2].take j),⟨_,rfl,by omega,?_,sH,h1,hD,by simpa using hA⟩,?_⟩
   · intro y o e
     by_cases z:y=D
     · rw [z,a9,←hD,←z];exact e
     · rw [af z];exact e
   intro j m2 acc2 H6 z_
   refine hide fun q_ e_=> ?_
   obtain ⟨rfl,hj,s0,s6,hq,hD6,hA6⟩:=z_
   subst e_
   have kd:Kd H3 H6:=⟨fun b zs e=>by
    have nb:b≠D:=fun z=>by rw [z,hD] at e;cases e
    have:=s0 _ _ e
    rwa [af nb] at this,fun b zs e=>by
    by_cases z:b=D
    · exact ⟨acc2,by rw [z];exact hD6⟩
    · have:=s0 _ _ e
      rw [af z] at this
      exact ⟨_,this⟩⟩
   have fin:∀ {y:V} {u:Tr},TrAt H3 y u→j < 2→ [p.1,p.2][j]?=some u→(some (V.ref q)::none::([]:L2.St)).set 1 (some y)= [some (.ref q),some y]→H6 D=some (.lst acc2)∧acc2.length < sizeLine∧∃m',m' < 2 - j∧(m'=2 - (j+1)∧j+1≤2∧Same H3 (upd (upd H6 D (.lst (acc2++ [y]))) D (.lst acc))∧Same H (upd H6 D (.lst (acc2++ [y])))∧(upd H6 D (.lst (acc2++ [y]))) q=some (.tup [x1,x2])∧(upd H6 D (.lst (acc2++ [y]))) D=some (.lst (acc2++ [y]))∧TrsAt (upd H6 D (.lst (acc2++ [y]))) (acc2++ [y]) (allT (L.take i)++ [p.1,p.2].take (j+1))):=by
    intro y u hy hj2 eu _
    have al2:=hA6.len
    rw [wM,gH,xh,xh] at al2
    have k7:Kd H6 (upd H6 D (.lst (acc2++ [y]))):=⟨fun b zs e=>by rw [af (fun z=>by rw [z,hD6] at e;cases e)];exact e,fun b zs e=>by
     by_cases z:b=D
     · exact ⟨_,by rw [z];exact a9⟩
     · exact ⟨zs,by rw [af z];exact e⟩⟩
    refine ⟨hD6,by omega,2 - (j+1),by omega,rfl,by omega,fun y o e=> ?_,aq nD s6,by rw [af (fun z=>by rw [z,hD6] at hq;cases hq)];exact hq,a9,?_⟩
    · have:=s0 y o e
      by_cases z:y=D
      · rw [z,a9] at this ⊢;exact this
      · rw [af z] at this;rw [af z,af z];exact this
    · rw [xm,eu,←List.append_assoc]
      exact K61.TrsAt.snoc (hA6.mono k7) ((hy.mono kd).mono k7)
   by_cases j2:j < 2
   · refine .inr ⟨⟨[x1,x2],[x1,x2][j],SqT.of hq,by simp [j2]⟩,?_⟩
     rintro y H7 ⟨rfl,ey2⟩
     have ey3:=ey2 _ (SqT.of hq)
     refine au ⟨fun jj v e=> ?_,?_⟩
     · match jj,e with
       |0,e=>exact e
       |1,e=>cases (wT (show some (none:Option V)=some (some v) from e))
     · refine ⟨_,rfl,?_⟩
       have j01:j=0∨j=1:=by omega
       rcases j01 with rfl|rfl
       · cases ey3
         exact fin h2 (by omega) rfl rfl
       · cases ey3
         exact fin h3 (by omega) rfl rfl
   · have e2:j=2:=by omega
     subst e2
     refine .inl ⟨⟨[x1,x2],SqT.of hq,wO _⟩,ps.length - (i+1),by omega,rfl,hlt,s6,hD6,?_⟩
     rw [nZ ep]
     exact hA6
 · have ei:i=ps.length:=by omega
   refine .inl ⟨⟨ps,SqL.of (sH _ _ hl),by omega⟩,?_⟩
   rw [ei,hpl,xt] at hA
   have ht':=sH _ _ ht
   refine ⟨_,rfl,lt,xs,rfl, .inl (SqL.of ht'),fun l2 nl2=> ?_⟩
   have s2:Same H' (upd H' l2 (.lst xs)):=ae nl2
   have hal:=hA.len
   rw [gH] at hal
   have htl:=hT.len
   refine ⟨D,l2,acc,xs,rfl,rfl,s2 _ _ hD,a9,by omega,fun p np=> ?_⟩
   have s3:Same H (upd (upd H' l2 (.lst xs)) p (.lst (acc++xs))):=sH.trans (s2.trans (ae np))
   intro a dx na ndx nad
   have sa:Same (upd (upd H' l2 (.lst xs)) p (.lst (acc++xs))) (upd (upd (upd (upd H' l2 (.lst xs)) p (.lst (acc++xs))) dx (.own a)) a (.ins C dx [])):=(ae ndx).trans (ae (by rw [af nad.symm];exact na))
   refine ⟨a,p,dx,acc++xs,allT L++ts,U,rfl,a9,sa _ _ a9,?_,hg1,hg2,hU,fun us H9 b9 hF nd cl up mem=>⟨rfl,k a us H9 ?_ ?_ hF nd cl up mem⟩⟩
   · have kA:Kd H' (upd (upd (upd (upd H' l2 (.lst xs)) p (.lst (acc++xs))) dx (.own a)) a (.ins C dx [])):=Kd.of_same (s2.trans ((ae np).trans sa))
     exact TrsAt.app ((hT.mono (Kd.of_same sH)).mono kA) (hA.mono kA)
   · exact s3.free na
   · intro y o e
     exact b9 y o (ar e (s3.free na)) (sa _ _ (s3 _ _ e))
def ov:Option Nat→V
 |none=> .non
 |some n=> .int n
def Bd (H:Hp) (v:V) (p:Rz.Bd):Prop:=∃r,v= .ref r∧H r=some (.tup [.int p.1, .int p.2.1,ov p.2.2])
def Bds (H:Hp) (vs:List V) (l:List Rz.Bd):Prop:=vs.length=l.length∧∀(i:Nat) (p:Rz.Bd),l[i]?=some p→∃v,vs[i]?=some v∧Bd H v p
theorem Bds.mono {H H':Hp} {vs:List V} {l:List Rz.Bd} (h:Bds H vs l) (k:Kd H H'):Bds H' vs l:=⟨h.1,fun i p e=>by
 refine hide fun q_ e_=> ?_
 obtain ⟨v,a,r,b,c⟩:=h.2 i p e
 subst e_
 exact ⟨v,a,r,b,k.tup _ _ c⟩⟩
theorem Bds.snoc {H:Hp} {vs:List V} {l:List Rz.Bd} {v:V} {p:Rz.Bd} (h:Bds H vs l) (h1:Bd H v p):Bds H (vs++ [v]) (l++ [p]):=by
 refine ⟨by rw [wM,wM,h.1];rfl,fun i q e=> ?_⟩
 rcases xk i l.length with z|z
 · rw [xp z] at e
   obtain ⟨v',a,b⟩:=h.2 i q e
   exact ⟨v',by rw [xp (by rw [h.1];exact z)];exact a,b⟩
 · rw [xu z] at e
   have:i - l.length=0:=by
    have:=(wK.mp e).1
    simp at this
    omega
   rw [this] at e
   cases e
   exact ⟨v,by rw [xu (by rw [h.1];exact z),h.1,this];rfl,h1⟩
noncomputable def bxs (us:List Tr) (L:List (Tr×Tr)):List Rz.Bd:=L.mapIdx fun i p=>(ix us p.1,ix us p.2,some i)
def oJ (C:Addr):Sp:=fun vs H Q _=>∃(a ll:Addr) (ps:List V) (L:List (Tr×Tr)) (us:List Tr),vs= [.ref a, .ref ll]∧Fnb C H a us∧H ll=some (.lst ps)∧TrsAt H ps (L.map pr)∧(∀t∈allT L,Gt t∧t.depth≤39∧(tmC t).length≤1000∧t∈us)∧L.length≤1000∧
 ∀D bs H',H D=none→Same H H'→H' D=some (.lst bs)→Bds H' bs (bxs us L)→Q (.ref D) H'
theorem vQ:aM ["family","likes"] ["family","likes"] (ag sBof):=⟨rfl,rfl,rfl,by decide +kernel,rfl,by decide +kernel,by decide +kernel⟩
theorem uR {f fN C:Addr} {fd fdN:FuncData} (F:Fun K "bonds_of" "bonds_of" sBof f fd) (B:Blt mg)
 (GN:FnOk P w K mg base CX0 42 fN fdN ["family","term"] (j5 C)) (kN:PySem.W.keepIn K (.ref fN)=true) (bN:Binds K fdN ["family","term"] []) (mN:mg "number_in"=some (.ref fN)):
 FnOk P w K mg base CX0 43 f fd ["family","likes"] (oJ C):=by
 refine F.ok vQ (fun vs H Q E h=> ?_) (fun cdv A outer s H vs Q E hr h=> ?_)
 · refine hide fun q_ e_=> ?_
   obtain ⟨a,ll,ps,L,us,rfl,_⟩:=h
   subst e_
   rfl
 refine hide fun q_ e_=> ?_
 obtain ⟨a,ll,ps,L,us,rfl,hF,hl,hP,hG,L1,k⟩:=h
 subst e_
 have nd4:(["place","one","other","family"]:List Str).Nodup:=by decide +kernel
 refine ⟨_,ah (aJ (bU (NC:= ["place","one","other","family"]) (mp:= [none,none,none,some 0]) (g:=gTup K 2 (gn (cw 0) (gn (gTup K 2 (gn (cw 1) (gn (cw 2) gNil))) gNil))) rfl (iF rfl B.en (a8 (pv 1) aa))
  (fun _ _ _ _ _=>cE (n:=2) rfl (aG (aj (i:=0) nd4 rfl (Or.inl rfl)) (aG (cE (n:=2) rfl (aG (aj (i:=1) nd4 rfl (Or.inl rfl)) (aG (aj (i:=2) nd4 rfl (Or.inl rfl)) c6))) c6)))
  (fun _ _ _ _ _=>bz) (fun _ _ _ _ _=>bn (a8 (ak GN hr rfl mN kN bN .nil aF (a8 (pv 3) (a8 (pv 1) aa))) (a8 (ak GN hr rfl mN kN bN .nil aF (a8 (pv 3) (a8 (pv 2) aa))) (a8 (pv 0) aa)))))),?_⟩
 have hL:(20000:Nat)≤sizeLine:=by decide +kernel
 have hpl:=hP.len
 rw [wL] at hpl
 refine nQ (a:=ll) (xs:=ps) (fun Q q=>⟨_,rfl,q⟩) (SqL.of hl) fun D nD=> ?_
 refine ⟨fun i acc H'=>Same H H'∧H' D=some (.lst acc)∧Bds H' acc (bxs us (L.take i)),⟨ae nD,a9,rfl,fun i p e=>by simp [bxs] at e⟩,fun i acc H' p=>SqL.of (p.1 _ _ hl),?_,?_⟩
 · rintro i T x acc H' hi hi2 ⟨sH,hD,hB⟩ ex nT
   have sT:Same H' (upd H' T (.tup [.int i,x])):=ae nT
   obtain ⟨t,et,htt⟩:=(hP.mono (Kd.of_same (sH.trans sT))).get' ex
   rw [wN] at et
   obtain ⟨p,ep,rfl⟩:=x5.mp et
   refine hide fun q_ e_=> ?_
   obtain ⟨q,x1,x2,rfl,h1,h2,h3⟩:=iK htt
   subst e_
   have mp:=wJ ep
   obtain ⟨a1,a2,a3,a4⟩:=hG p.1 (xB.mpr ⟨p,mp,by simp⟩)
   obtain ⟨c1,c2,c3,c4⟩:=hG p.2 (xB.mpr ⟨p,mp,by simp⟩)
   refine ⟨T,[.int i, .ref q],rfl,SqT.of a9,rfl, .int i,[.ref q],rfl, .ref q,[],rfl,⟨q,[x1,x2],rfl,SqT.of h1,rfl,x1,[x2],rfl,x2,[],rfl,rfl,rfl,?_,?_⟩⟩
   · intro jj v e
     match jj,e with
     |0,e=>cases (wT (show some (none:Option V)=some (some v) from e))
     |1,e=>cases (wT (show some (none:Option V)=some (some v) from e))
     |2,e=>cases (wT (show some (none:Option V)=some (some v) from e))
     |jj+3,e=>exact e
   · refine ⟨_,rfl,_,rfl,a,x1,p.1,us,rfl,hF.same (sH.trans sT),h2,a1,a2,a3,a4,fun H6 s6=> ?_⟩
     refine ⟨_,rfl,_,rfl,a,x2,p.2,us,rfl,hF.same (sH.trans (sT.trans s6)),h3.mono (Kd.of_same s6),c1,c2,c3,c4,fun H7 s7=> ?_⟩
     refine ⟨_,rfl,by show 3≤sizeLine;decide,fun r nr=> ?_⟩
     have sA:Same H' (upd H7 r (.tup [.int (ix us p.1), .int (ix us p.2), .int i])):=sT.trans (s6.trans (s7.trans (ae nr)))
     have hBl:=hB.1
     have hBz:(bxs us (L.take i)).length=min i L.length:=by unfold bxs;rw [List.length_mapIdx,xh]
     rw [hBz] at hBl
     refine CompN.mk hi (by omega) (sA _ _ hD) ⟨aq nD (sH.trans sA),a9,?_⟩
     have hli:i < L.length:=(wK.mp ep).1
     have ebx:bxs us (L.take (i+1))=bxs us (L.take i)++ [(ix us p.1,ix us p.2,some i)]:=by
      unfold bxs
      rw [xm,ep]
      show ((L.take i)++ [p]).mapIdx _=_
      rw [List.mapIdx_concat,xh,Nat.min_eq_left (xX hli)]
     rw [ebx]
     have hD9:=sA _ _ hD
     have k9:Kd (upd H7 r (.tup [.int (ix us p.1), .int (ix us p.2), .int i])) (upd (upd H7 r (.tup [.int (ix us p.1), .int (ix us p.2), .int i])) D (.lst (acc++ [.ref r]))):=⟨fun b zs e=>by rw [af (fun z=>by rw [z,hD9] at e;cases e)];exact e,fun b zs e=>by
      by_cases z:b=D
      · exact ⟨_,by rw [z];exact a9⟩
      · exact ⟨zs,by rw [af z];exact e⟩⟩
     exact Bds.snoc ((hB.mono (Kd.of_same sA)).mono k9) ⟨r,rfl,k9.tup _ _ a9⟩
 · rintro acc H' ⟨sH,hD,hB⟩
   rw [hpl,xt] at hB
   exact k D acc H' nD sH hD hB
end
end K61
namespace L2
open PySem
theorem qf {K:PySem.W.Frag} {a:Addr} {xs:List V} {g:TG} {tb:TS} {D:Ends} {σ:L2.St} {H:Hp} (Pv:Nat→L2.St→Hp→Prop) (h0:Pv 0 σ H) (hl:∀i σ H,i≤xs.length→Pv i σ H→SqL K H a xs)
 (hs:∀i T x σ H,xs[i]?=some x→H T=none→Pv i σ H→g (.ref T) σ (upd H T (.tup [.int i,x])) fun σ2 H2=>tb {D with nx:=Pv (i+1),ct:=Pv (i+1),bk:=D.nx} σ2 H2) (hd:∀σ H,Pv xs.length σ H→D.nx σ H):
 ∃W:Nat→Nat→L2.St→Hp→Prop,(∃m,W 0 m σ H)∧∀i m σ H,W i m σ H→
  ((Ite K a).stop i H∧D.nx σ H)∨((Ite K a).go i H∧∃N:L2.St→Hp→Prop,(∀σ' H',N σ' H'→∃m',m' < m∧W (i+1) m' σ' H')∧∀x H',(Ite K a).yld i H x H'→g x σ H' fun σ2 H2=>tb {D with nx:=N,ct:=N,bk:=D.nx} σ2 H2):=by
 refine ⟨fun i m σ H=>m=xs.length - i∧i≤xs.length∧Pv i σ H,⟨xs.length,by simp,xo _,h0⟩,?_⟩
 rintro i m σ H ⟨rfl,hi,p⟩
 have q:=hl i σ H hi p
 by_cases hlt:i < xs.length
 · refine .inr ⟨⟨xs,xs[i],q,by simp [hlt]⟩,Pv (i+1),fun σ' H' p'=>⟨xs.length - (i+1),by omega,rfl,hlt,p'⟩,fun x H' y=> ?_⟩
   obtain ⟨T,x',rfl,nT,rfl,y1,_⟩:=y
   exact hs i T x' σ H (y1 xs q) nT p
 · have e:i=xs.length:=by omega
   subst e
   exact .inl ⟨⟨xs,q,wO _⟩,hd σ H p⟩
end L2
namespace K61
open PySem L2 Mth Tre Wd Su Tw Fm
theorem bO {H:Hp} {D:Addr} {xs ys:List V} (h:H D=some (.lst xs)):Kd H (upd H D (.lst ys)):=⟨fun b zs e=>by rw [af (fun z=>by rw [z,h] at e;cases e)];exact e,fun b zs e=>by
 by_cases z:b=D
 · exact ⟨_,by rw [z];exact a9⟩
 · exact ⟨zs,by rw [af z];exact e⟩⟩
noncomputable def rt (us:List Tr) (rs:List Nat) (a:Tr):Int:=((rs[ix us a]?).getD 0:Nat)
noncomputable def ky (us:List Tr) (rs:List Nat) (f:Str) (as:List Tr):List Tk.KT:= [.lf (.inr f), .tp (as.map fun a=> .lf (.inl (rt us rs a)))]
theorem lQ {us:List Tr} {rs:List Nat} (hl:rs.length=us.length):∀ {as bs:List Tr},(∀a∈as,a∈us)→(∀b∈bs,b∈us)→((as.map fun a=>Tk.KT.lf (.inl (rt us rs a)))=(bs.map fun a=>Tk.KT.lf (.inl (rt us rs a)))↔as.map (fun a=>rs[ix us a]?)=bs.map (fun b=>rs[ix us b]?))
 | [],[],_,_=>by simp
 | [],_::_,_,_=>by simp
 |_::_,[],_,_=>by simp
 |a::as,b::bs,ha,hb=>by
  have ih:=lQ hl (as:=as) (bs:=bs) (fun x m=>ha x (wQ _ m)) (fun x m=>hb x (wQ _ m))
  rw [wZ,wZ,wZ,wZ,xH,xH,ih]
  have la:ix us a < rs.length:=by rw [hl];exact cq (ha a wP)
  have lb:ix us b < rs.length:=by rw [hl];exact cq (hb b wP)
  have:(Tk.KT.lf (.inl (rt us rs a))=Tk.KT.lf (.inl (rt us rs b)))↔rs[ix us a]?=rs[ix us b]?:=by
   unfold rt
   rw [wI la,wI lb]
   constructor
   · intro e
     have e1:=Sum.inl.inj (Tk.KT.lf.inj e)
     have e2:(rs[ix us a]:Int)=rs[ix us b]:=e1
     exact congrArg some (xw e2)
   · intro e
     rw [wT e]
  rw [this]
theorem pJ {us:List Tr} {rs:List Nat} (hl:rs.length=us.length) {f g:Str} {as bs:List Tr} (ha:∀a∈as,a∈us) (hb:∀b∈bs,b∈us):ky us rs f as=ky us rs g bs↔f=g∧as.map (fun a=>rs[ix us a]?)=bs.map (fun b=>rs[ix us b]?):=by
 unfold ky
 rw [xH,xH,Tk.KT.lf.injEq,Tk.KT.tp.injEq,lQ hl ha hb]
 constructor
 · rintro ⟨e1,e2,_⟩
   exact ⟨Sum.inr.inj e1,e2⟩
 · rintro ⟨rfl,e2⟩
   exact ⟨rfl,e2,rfl⟩
def Kin (us:List Tr) (rs:List Nat) (i j:Nat):Prop:=∃f as bs,us[i]?=some (cal f as)∧us[j]?=some (cal f bs)∧as.map (fun a=>rs[ix us a]?)=bs.map (fun b=>rs[ix us b]?)
theorem sf {t:Tr} (h:Gt t):tk t= []∨∃f ts,t=cal f ts∧0 < ts.length∧ts.length≤3:=by
 cases h with
 |nm x hx=>exact .inl rfl
 |ap f ts hf h0 h3 _=>exact .inr ⟨f,ts,rfl,h0,h3⟩
section
variable {P:Program} {w:World} {K:PySem.W.Frag} {mg:Str→Option Value} {base:Heap}
def Fa (us:List Tr):Prop:=us.Nodup∧Clt us∧(∀t∈us,Gt t∧t.depth≤39∧(tmC t).length≤1000)∧us.length < 64
abbrev ivs (rs:List Nat):List V:=rs.map fun (r:Nat)=>V.int r
def oI (C:Addr):Sp:=fun vs H Q _=>∃(a lr:Addr) (us:List Tr) (rs:List Nat),vs= [.ref a, .ref lr]∧Fam C H a us∧H lr=some (.lst (ivs rs))∧rs.length=us.length∧Fa us∧
 ∀D fr bs H',H D=none→Same H H'→H' D=some (.lst fr)→Bds H' fr bs→(∀p∈bs,(p.2.2=none∧Kin us rs p.1 p.2.1)∧rs[p.1]?≠rs[p.2.1]?)→(bs= []→Cs us rs)→bs.length≤64→Q (.ref D) H'
theorem scCab:aM ["family","roots","firsts","fresh","number","inner","key","first"] ["family","roots"] (ag sCab):=⟨rfl,rfl,rfl,by decide +kernel,rfl,by decide +kernel,by decide +kernel⟩
theorem uQ {f C:Addr} {fd:FuncData} (F:Fun K "call_bonds" "call_bonds" sCab f fd) (B:Blt mg) (hC:Fk K C):FnOk P w K mg base CX0 3 f fd ["family","roots"] (oI C):=by
 refine F.ok scCab (fun vs H Q E h=> ?_) (fun cdv A outer s H vs Q E hr h=> ?_)
 · refine hide fun q_ e_=> ?_
   obtain ⟨a,lr,us,rs,rfl,_⟩:=h
   subst e_
   rfl
 refine hide fun q_ e_=> ?_
 obtain ⟨a,lr,us,rs,rfl,hF,hlr,hrl,⟨nd,clo,gus,l64⟩,k⟩:=h
 subst e_
 have hu30:(A.deeper (PyProof.Rows.envOfC (Str.ofString "call_bonds") (ag sCab) s.heap.objs.size f cdv)).units+30 < cLine:=by have:=hr.units;omega
 have nd2:(["part","roots"]:List Str).Nodup:=by decide +kernel
 refine ⟨_,ad (ao (i:=2) scCab.nd rfl (Or.inl rfl) (Dj.pe_newJ (P:=P) (w:=w) rfl rfl))
  (ad (ao (i:=3) scCab.nd rfl (Or.inl rfl) (bE aa))
  (ad (aZ PassesOwn.never rfl (iF rfl B.en (a8 (dg (pv 0) rfl) aa)) (cE (n:=2) rfl (aG (aj (i:=4) scCab.nd rfl (Or.inl rfl)) (aG (aj (i:=5) scCab.nd rfl (Or.inl rfl)) c6)))
   (ah (ba (dQ (pv 5) fun _=>rfl)
    (ad (ao (i:=6) scCab.nd rfl (Or.inl rfl) (bn (a8 (aB aW (aB aH (dg (pv 0) rfl) (pv 4) fun _ _=>rfl) ai fun _ _=>rfl)
     (a8 (aU cN rfl B.tu PyProof.Rows.boot_tuple (a8 (bU (NC:= ["part","roots"]) (mp:= [none,some 1]) rfl (fU (pv 5)) (fun _ _ _ _ _=>aj (i:=0) nd2 rfl (Or.inl rfl)) (fun _ _ _ _ _=>bz) (fun _ _ _ _ _=>aB (r:=rIxL K) aH (pv 1) (pv 0) fun _ _=>rfl)) aa)) aa))))
    (ad (ao (i:=7) scCab.nd rfl (Or.inl rfl) (Dj.pe_sdJ (P:=P) (w:=w) (K:=K) rfl rfl rfl hu30 (pv 2) (pv 6) (pv 4) ⟨rfl,rfl,rfl,rfl⟩))
    (ah (ba (aN eO (aB aH (pv 1) (pv 7) fun _ _=>rfl) (aB aH (pv 1) (pv 4) fun _ _=>rfl) (aR _))
     (ah (bf (cG PySem.F.plainAttrs_list PySem.F.slot_list_append PySem.F.type_list_append aT (pv 3) (a8 (bn (a8 (pv 7) (a8 (pv 4) (a8 kg aa)))) aa)))) aL)))) aL)))
  (ah (aJ (pv 3))))),?_⟩
 have hL:(20000:Nat)≤sizeLine:=by decide +kernel
 intro d nd0
 refine ⟨by show 0≤sizeLine;decide,fun D nD=> ?_⟩
 have sd:Same H (upd H d (Dj.dJ P w d [])):=ae nd0
 have sD:Same (upd H d (Dj.dJ P w d [])) (upd (upd H d (Dj.dJ P w d [])) D (.lst [])):=ae nD
 have nD0:H D=none:=sd.free nD
 have hF0:=hF
 refine hide fun q_ e_=> ?_
 obtain ⟨dx,p,nb,inn,ws,kvn,iss,h1,h2,h3,h4,h5,h6,h7,h8⟩:=hF
 subst e_
 have s0:=sd.trans sD
 have wl:=h3.len
 refine ⟨_,rfl,a,C,dx,_, .ref inn,rfl,s0 _ _ h1,hC.cls,hC.ni,rfl,inn,iss,rfl,SqL.of (s0 _ _ h6),?_⟩
 have rget:∀ {n:Nat} {r:Nat},rs[n]?=some r→atI (ivs rs) (n:Int)=some (.int r):=fun e=>aS (by rw [wN,e];rfl)
 refine qf (xs:=iss) (fun i σ H'=>(∃v4 v5 v6 v7,σ= [some (.ref a),some (.ref lr),some (.ref d),some (.ref D),v4,v5,v6,v7])∧Same H H'∧∃kvs fr bs,Dj.DJ P w K H' d kvs∧kvs.length≤i∧H' D=some (.lst fr)∧Bds H' fr bs∧bs.length≤i∧
  (∀key v,Dj.valJ kvs key=some v→∃n f as,n < i∧v= .int (n:Nat)∧us[n]?=some (cal f as)∧key=ky us rs f as)∧
  (∀(n:Nat) f as,n < i→us[n]?=some (cal f as)→∃m:Nat,Dj.valJ kvs (ky us rs f as)=some (.int m)∧(bs= []→rs[m]?=rs[n]?))∧
  (∀p∈bs,(p.2.2=none∧Kin us rs p.1 p.2.1)∧rs[p.1]?≠rs[p.2.1]?))
  ⟨⟨none,none,none,none,rfl⟩,s0,[],[],[],⟨sD _ _ a9,fun p m=>by cases m⟩,wO _,a9,⟨rfl,fun i p e=>by simp at e⟩,wO _,fun key v e=>by simp [Dj.valJ_nil] at e,fun n f as h=>absurd h (xG _),fun p m=>by cases m⟩
  (fun i σ H' _ q=>SqL.of (q.2.1 _ _ h6)) ?_ ?_
 · intro i T x σ H' ex nT z_
   refine hide fun q_ e_=> ?_
   obtain ⟨⟨v4,v5,v6,v7,rfl⟩,sH,kvs,fr,bs,dj,kl,hD,hB,bl,d1,d2,b1⟩:=z_
   subst e_
   have hi:i < us.length:=by rw [←h7];exact (wK.mp ex).1
   obtain ⟨t,et⟩:∃t,us[i]?=some t:=⟨us[i],wI hi⟩
   have mt:=wJ et
   obtain ⟨q,eq,hq⟩:=h8 i t et
   rw [ex] at eq
   cases eq
   have sT:Same H' (upd H' T (.tup [.int i, .ref q])):=ae nT
   have sA:=sH.trans sT
   refine ⟨T,[.int i, .ref q],rfl,SqT.of a9,rfl, .int i,[.ref q],rfl, .ref q,[],rfl,rfl,?_⟩
   have djT:Dj.DJ P w K (upd H' T (.tup [.int i, .ref q])) d kvs:=dj.kd (Kd.of_same sT) (sT _ _ dj.at_)
   refine ⟨_,rfl,!(inr us t).isEmpty, .inr (.inl ⟨_,SqT.of (sA _ _ hq),rfl⟩),?_⟩
   rcases sf (gus t mt).1 with z|⟨g,as,rfl,a0,a3⟩
   · have e0:inr us t= []:=by unfold inr;rw [z];rfl
     rw [e0]
     refine iteF ?_
     refine ⟨⟨_,_,_,_,rfl⟩,sA,kvs,fr,bs,djT,by omega,sT _ _ hD,hB.mono (Kd.of_same sT),by omega,fun key v e=> ?_,fun n f' as' hn e=> ?_,b1⟩
     · refine hide fun q_ e_=> ?_
       obtain ⟨n,f',as',h,r⟩:=d1 key v e
       subst e_
       exact ⟨n,f',as',by omega,r⟩
     · rcases xk n i with y|y
       · exact d2 n f' as' y e
       · have:n=i:=by omega
         subst this
         rw [et] at e
         cases e
         rw [show tk (cal f' as')=as' from rfl] at z
         obtain ⟨gg,_⟩:=gus _ mt
         cases gg with
         |ap f ts hf h0 h3 _=>rw [z] at h0;simp at h0
   · have as_us:∀b∈as,b∈us:=fun b mb=>clo _ mt b mb
     have e0:(!(inr us (cal g as)).isEmpty)=true:=by
      unfold inr
      rw [show tk (cal g as)=as from rfl]
      cases as with
      |nil=>simp at a0
      |cons b bs=>rfl
     rw [e0]
     refine iteT ?_
     obtain ⟨y,ey,hy⟩:=(h3.mono (Kd.of_same sA)).get et
     refine hide fun q_ e_=> ?_
     obtain ⟨r3,y2,y3,rfl,g1,g2,g3⟩:=at3 hy
     subst e_
     have g2':=at_s g2
     subst g2'
     refine ⟨_,rfl,a,C,dx,_, .ref p,rfl,sA _ _ h1,hC.cls,hC.np,rfl,_,rfl,p,ws,(i:Int), .ref r3,rfl,rfl,SqL.of (sA _ _ h2),aS ey,r3,_,1, .str g,rfl,rfl,SqT.of g1,rfl,?_⟩
     dsimp only [tCB,j4,tNil]
     refine bw rfl ?_
     refine ⟨_,rfl,q,rfl,⟨_,SqT.of (sA _ _ hq)⟩,fun D4 nD4=> ?_⟩
     refine dZ (xs:=inr us (cal g as)) (fun j acc H''=>Same (upd H' T (.tup [.int i, .ref q])) H''∧H'' D4=some (.lst acc)∧acc=(as.take j).map fun b=>V.int (rt us rs b)) ⟨ae nD4,a9,rfl⟩ (fun j acc H'' pp=>SqT.of (pp.1 _ _ (sA _ _ hq))) ?_ ?_
     · rintro j x acc H'' hj ex ⟨s4,hd4,rfl⟩
       unfold inr at ex
       rw [show tk (cal g as)=as from rfl,wN] at ex
       obtain ⟨b,eb,rfl⟩:=x5.mp ex
       have mb:=as_us b (wJ eb)
       have lb:ix us b < rs.length:=by rw [hrl];exact cq mb
       refine ⟨_,rfl,_,rfl,lr,_,_, .int (rt us rs b),rfl,rfl,SqL.of (s4 _ _ (sA _ _ hlr)),?_,CompN.mk hj ?_ hd4 ⟨aq nD4 s4,a9,?_⟩⟩
       · rw [rget (wI lb)]
         unfold rt
         rw [wI lb]
         rfl
       · rw [wL,xh]
         omega
       · rw [xm,eb,xi]
         rfl
     · rintro acc H4 ⟨s4,hd4,rfl⟩
       have hla:(inr us (cal g as)).length=as.length:=by unfold inr;rw [wL];rfl
       rw [hla,xt] at hd4
       refine ⟨D4,_,rfl, .inl ⟨SqL.of hd4,fun T2 nT2=> ?_⟩⟩
       have s5:Same H4 (upd H4 T2 (.tup (as.map fun b=>V.int (rt us rs b)))):=ae nT2
       refine ⟨by show 2≤sizeLine;decide,fun T3 nT3=> ?_⟩
       have s6:Same (upd H4 T2 (.tup (as.map fun b=>V.int (rt us rs b)))) (upd (upd H4 T2 (.tup (as.map fun b=>V.int (rt us rs b)))) T3 (.tup [.str g, .ref T2])):=ae nT3
       have hT2:=s6 _ _ (show (upd H4 T2 (.tup (as.map fun b=>V.int (rt us rs b)))) T2=some (.tup (as.map fun b=>V.int (rt us rs b))) from a9)
       have hT3:(upd (upd H4 T2 (.tup (as.map fun b=>V.int (rt us rs b)))) T3 (.tup [.str g, .ref T2])) T3=some (.tup [.str g, .ref T2]):=a9
       have sB:=s4.trans (s5.trans s6)
       have sAB:=sA.trans sB
       generalize (upd (upd H4 T2 (.tup (as.map fun b=>V.int (rt us rs b)))) T3 (.tup [.str g, .ref T2]))=H6 at*
       have dj6:Dj.DJ P w K H6 d kvs:=djT.kd (Kd.of_same sB) (sB _ _ djT.at_)
       have kvts:∀l:List Tr,Dj.KVts K H6 (l.map fun b=>V.int (rt us rs b)) (l.map fun b=> .lf (.inl (rt us rs b))):=fun l=>by
        induction l with
        |nil=>unfold Dj.KVts;rfl
        |cons b l ih=>rw [wZ,wZ];unfold Dj.KVts;exact ⟨_,_,rfl,by unfold Dj.KVt;rfl,ih⟩
       have dep:∀l:List Tr,Tk.KTs.depth (l.map fun b=>Tk.KT.lf (.inl (rt us rs b)))=0:=fun l=>by
        induction l with
        |nil=>rfl
        |cons b l ih=>rw [wZ];unfold Tk.KTs.depth;rw [ih];simp [Tk.KT.depth]
       have key:Dj.KeyAt K H6 (ky us rs g as) T3:=by
        refine ⟨_, .inl hT3,?_,?_⟩
        · unfold ky Dj.KVts
          refine ⟨_,_,rfl,by unfold Dj.KVt;rfl,?_⟩
          unfold Dj.KVts
          refine ⟨_,_,rfl,?_,by unfold Dj.KVts;rfl⟩
          unfold Dj.KVt
          exact ⟨T2,_,rfl, .inl hT2,kvts as⟩
        · unfold ky
          simp only [Tk.KT.depth,Tk.KTs.depth,dep]
          decide
       have hD6:=sB _ _ (sT _ _ hD)
       have hB6:=(hB.mono (Kd.of_same sT)).mono (Kd.of_same sB)
       refine ⟨_,rfl,d,kvs,rfl,dj6,_,rfl,_,rfl,T3,ky us rs g as,rfl,dj6,key,by omega,fun zv ez=> ?_,fun ez=> ?_⟩
       ·
        refine hide fun q_ e_=> ?_
        obtain ⟨n,f',as',hn,rfl,en,ek⟩:=d1 _ _ ez
        subst e_
        have mn:=wJ en
        have as'_us:∀b∈as',b∈us:=fun b mb=>clo _ mn b mb
        obtain ⟨rfl,em⟩:=(pJ hrl as_us as'_us).mp ek
        have ln:n < rs.length:=by rw [hrl];omega
        have li:i < rs.length:=by omega
        refine ⟨_,rfl,_,rfl,lr,_,_, .int (rs[n]:Nat),rfl,rfl,SqL.of (sAB _ _ hlr),rget (wI ln),_,rfl,_,rfl,lr,_,_, .int (rs[i]:Nat),rfl,rfl,SqL.of (sAB _ _ hlr),rget (wI li),rfl,_,rfl,?_⟩
        have d1':∀key v,Dj.valJ kvs key=some v→∃n f as,n < i+1∧v= .int (n:Nat)∧us[n]?=some (cal f as)∧key=ky us rs f as:=fun key v e=>by
         refine hide fun q_ e_=> ?_
         obtain ⟨n,f',as',h,r⟩:=d1 key v e
         subst e_
         exact ⟨n,f',as',by omega,r⟩
        by_cases er:rs[n]=rs[i]
        · rw [er,decide_eq_true rfl]
          refine iteF ?_
          refine ⟨⟨_,_,_,_,rfl⟩,sAB,kvs,fr,bs,dj6,by omega,hD6,hB6,by omega,d1',fun m f'' as'' hm e=> ?_,b1⟩
          rcases xk m i with y|y
          · exact d2 m f'' as'' y e
          · have:m=i:=by omega
            subst this
            rw [et] at e
            cases e
            exact ⟨n,ez,fun _=>by rw [wI ln,wI li,er]⟩
        · have en2:¬V.int ((rs[n]:Nat):Int)=V.int ((rs[i]:Nat):Int):=fun e=>er (xw (V.int.inj e))
          rw [decide_eq_false en2]
          refine iteT ?_
          refine ⟨_,rfl, .inl ⟨rfl,fr,SqL.of hD6⟩,_,rfl,_,rfl,by show 3≤sizeLine;decide,fun T4 nT4=> ?_⟩
          have s7:Same H6 (upd H6 T4 (.tup [.int n, .int i, .non])):=ae nT4
          have hB7:=hB6.1
          refine ⟨D,fr,_,rfl,rfl,s7 _ _ hD6,by omega,?_⟩
          have k8:=bO (ys:=fr++ [.ref T4]) (s7 _ _ hD6)
          refine ⟨⟨_,_,_,_,rfl⟩,aq nD0 (sAB.trans s7),kvs,fr++ [.ref T4],bs++ [(n,i,none)],(dj6.kd (Kd.of_same s7) (s7 _ _ dj6.at_)).kd k8 ?_,by omega,a9,((hB6.mono (Kd.of_same s7)).mono k8).snoc ⟨T4,rfl,k8.tup _ _ a9⟩,by rw [wM];simp;omega,d1',fun m f'' as'' hm e=> ?_,fun pp mp=> ?_⟩
          · rw [af (fun zz=>by have:=s7 _ _ dj6.at_;rw [zz,s7 _ _ hD6] at this;cases this)]
            exact s7 _ _ dj6.at_
          · rcases xk m i with y|y
            · obtain ⟨m',e1,_⟩:=d2 m f'' as'' y e
              exact ⟨m',e1,fun z=>by simp at z⟩
            · have:m=i:=by omega
              subst this
              rw [et] at e
              cases e
              exact ⟨n,ez,fun z=>by simp at z⟩
          · rcases x4.mp mp with h|h
            · exact b1 pp h
            · rw [wS.mp h]
              refine ⟨⟨rfl,_,as',as,en,et,em.symm⟩,?_⟩
              rw [wI ln,wI li]
              exact fun e=>er (wT e)
       ·
        have li:i < rs.length:=by omega
        have hlj:=Dj.length_putJ kvs (ky us rs g as) T3 (.int i)
        have k7:Kd H6 (upd H6 d (Dj.dJ P w d (Dj.putJ kvs (ky us rs g as) T3 (.int i)))):=Dj.Kd.updJ dj6.at_
        have dj7:=dj6.put key (v:= .int i)
        have nlr:lr≠d:=fun q=>by rw [q,nd0] at hlr;cases hlr
        have nDd:D≠d:=fun q=>by rw [q] at nD;rw [a9] at nD;cases nD
        have hlr7:(upd H6 d (Dj.dJ P w d (Dj.putJ kvs (ky us rs g as) T3 (.int i)))) lr=some (.lst (ivs rs)):=by rw [af nlr];exact sAB _ _ hlr
        refine ⟨_,rfl,_,rfl,lr,_,_, .int (rs[i]:Nat),rfl,rfl,SqL.of hlr7,rget (wI li),_,rfl,_,rfl,lr,_,_, .int (rs[i]:Nat),rfl,rfl,SqL.of hlr7,rget (wI li),rfl,_,rfl,?_⟩
        rw [decide_eq_true rfl]
        refine iteF ?_
        refine ⟨⟨_,_,_,_,rfl⟩,aq nd0 sAB,_,fr,bs,dj7,by omega,by rw [af nDd];exact hD6,hB6.mono k7,by omega,fun key' v e=> ?_,fun m f'' as'' hm e=> ?_,b1⟩
        · rw [Dj.valJ_put] at e
          by_cases q:key'=ky us rs g as
          · rw [if_pos q] at e
            cases e
            exact ⟨i,g,as,by omega,rfl,et,q⟩
          · rw [if_neg q] at e
            refine hide fun q_ e_=> ?_
            obtain ⟨n,f',as',h,r⟩:=d1 key' v e
            subst e_
            exact ⟨n,f',as',by omega,r⟩
        · rw [Dj.valJ_put]
          rcases xk m i with y|y
          · obtain ⟨m',e1,e2⟩:=d2 m f'' as'' y e
            rw [if_neg (fun q=>by rw [q,ez] at e1;cases e1)]
            exact ⟨m',e1,e2⟩
          · have:m=i:=by omega
            subst this
            rw [et] at e
            cases e
            rw [if_pos rfl]
            exact ⟨m,rfl,fun _=>rfl⟩
 · intro σ H' z_
   refine hide fun q_ e_=> ?_
   obtain ⟨⟨v4,v5,v6,v7,rfl⟩,sH,kvs,fr,bs,dj,kl,hD,hB,bl,d1,d2,b1⟩:=z_
   subst e_
   refine ⟨_,rfl,k D fr bs H' nD0 sH hD hB b1 (fun hb i j f' as' bs' ei ej em=> ?_) (by omega)⟩
   have li:i < iss.length:=by rw [h7];exact (wK.mp ei).1
   have lj:j < iss.length:=by rw [h7];exact (wK.mp ej).1
   obtain ⟨m1,e1,r1⟩:=d2 i f' as' li ei
   obtain ⟨m2,e2,r2⟩:=d2 j f' bs' lj ej
   have:ky us rs f' as'=ky us rs f' bs':=(pJ hrl (fun b mb=>clo _ (wJ ei) b mb) (fun b mb=>clo _ (wJ ej) b mb)).mpr ⟨rfl,em⟩
   rw [this,e2] at e1
   have e3:(m2:Int)=m1:=V.int.inj (wT e1)
   have e4:m2=m1:=xw e3
   subst e4
   exact (r1 hb).symm.trans (r2 hb)
end
end K61
namespace L2
open PySem PySem.Spec PyProof.Rows
section
variable {X:Cx}
noncomputable def RgV (r:Addr) (n:Nat):HO:= .ext fun h=>∃t u v,IsRange h r 0 n 1 t u v
theorem vV {P:Program} {w:World} {H:Hp} {h:Heap} {r:Addr} {n:Nat} (x:∃t u v,IsRange h r 0 n 1 t u v):ObjOk P w H h r (RgV r n):=by
 obtain ⟨t,u,v,e⟩:=x
 exact ⟨⟨t,u,v,e⟩,⟨_,e⟩,fun _ _ ⟨t',u',v',y⟩ k=>⟨t',u',v',k _ y⟩⟩
theorem eV:cy X (.type "range") (fun xs H Q=>∃n:Nat,xs= [.int n]∧∀r,H r=none→Q (.ref r) (upd H r (RgV r n))):=by
 intro pins s σ H xs us Q I r h
 obtain ⟨n,rfl,q⟩:=h
 obtain ⟨u,rfl,t,rfl⟩:=dw r
 refine call_range_1 ?_
 exact ⟨.ref _,_,I.laid (t':=s.toks+1+1) (fun b ob e=>Heap.get?_push_of_some _ e) (wO _) (vV ⟨_,_,_,Heap.get?_push_size _ rfl⟩),rfl,q _ (I.hok.fresh (wO _))⟩
theorem gD (hc:X.calm=true):cy X (.type "list") (fun xs H Q=>∃(r:Addr) (n:Nat),xs= [.ref r]∧H r=some (RgV r n)∧n≤1000∧∀l,H l=none→Q (.ref l) (upd H l (.lst ((List.range n).map fun (i:Nat)=>V.int i)))):=by
 intro pins s σ H xs us Q I r h
 obtain ⟨r0,n,rfl,hr,hn,q⟩:=h
 obtain ⟨u,rfl,ru⟩:=dw r
 cases ru
 obtain ⟨⟨t,u,v,hR⟩,_⟩:=(show ObjOk X.prog X.w H s.heap r0 (RgV r0 n) from I.hok r0 _ hr)
 refine call_list_range (n:=n) (I.ok.hd hc) hR (small_one (by omega) (by omega) (by omega) (by omega)) (by rw [rangeSize_one];split<;>omega) (by omega) fun h' tk acc' c' hk hD hacc=> ?_
 have rr:Vals ((List.range n).map fun (i:Nat)=>V.int i) acc'.toList:=by
  have key:∀(ys:List Value) (k:Nat),(∀j x,ys[j]?=some x→∃t,x=Value.int ((k+j:Nat):Int) t)→Vals ((List.range' k ys.length).map fun (i:Nat)=>V.int i) ys:=by
   intro ys
   induction ys with
   |nil=>intro k _;exact .nil
   |cons y ys ih=>
    intro k hk
    rw [wV,List.range'_succ,wZ]
    obtain ⟨t,e⟩:=hk 0 y rfl
    refine .cons ⟨t,by rw [e];rfl⟩ (ih (k+1) fun j x ex=> ?_)
    obtain ⟨t,e⟩:=hk (j+1) x ex
    exact ⟨t,by rw [e];congr 1;omega⟩
  have:=key acc'.toList 0 fun j x ex=>by
   obtain ⟨t,e⟩:=hacc.2 j x (by rw [←xg];exact ex)
   exact ⟨t,by rw [e];congr 1;omega⟩
  rw [wX,hacc.1] at this
  rw [List.range_eq_range']
  exact this
 have hL:(1000:Nat)≤sizeLine:=by decide +kernel
 refine ⟨.ref _,_,I.laid (t':=tk) (o:= .lst ((List.range n).map fun (i:Nat)=>V.int i)) hk (wO _) ⟨by rw [wL,x3];omega,acc'.toList,c',rr,by rw [Array.toArray_toList];exact hD⟩,rfl,q _ (I.hok.fresh (wO _))⟩
end
end L2
namespace K61
open PySem L2 Mth Tre Wd Su Tw Fm
theorem dP {n i:Nat} (h:i < n):(List.range n)[i]?=some i:=by simp [h]
theorem rs0 {us:List Tr} {L:List (Tr×Tr)}:RS us L (List.range us.length):=fun i j t u hi hj e=>by
 have li:=(wK.mp hi).1
 have lj:=(wK.mp hj).1
 rw [dP li,dP lj] at e
 cases e
 rw [hi] at hj
 cases hj
 exact .refl t
theorem cs0 {us:List Tr} (nd:us.Nodup) (clo:Clt us):Cs us (List.range us.length):=fun i j f as bs hi hj em=>by
 have ha:∀a∈as,a∈us:=fun a m=>clo _ (wJ hi) a m
 have hb:∀b∈bs,b∈us:=fun b m=>clo _ (wJ hj) b m
 have:∀ {as bs:List Tr},(∀a∈as,a∈us)→(∀b∈bs,b∈us)→as.map (fun a=>(List.range us.length)[ix us a]?)=bs.map (fun b=>(List.range us.length)[ix us b]?)→as=bs:=by
  intro as
  induction as with
  |nil=>intro bs _ _ e;cases bs with
   |nil=>rfl
   |cons b bs=>simp at e
  |cons a as ih=>
   intro bs ha hb e
   cases bs with
   |nil=>simp at e
   |cons b bs=>
    rw [wZ,wZ] at e
    obtain ⟨e1,e2⟩:=List.cons.inj e
    have ma:=ha a wP
    have mb:=hb b wP
    rw [dP (cq ma),dP (cq mb)] at e1
    have e3:=wT e1
    have e4:=bh ma
    rw [e3,bh mb] at e4
    rw [wT e4,ih (fun x m=>ha x (wQ _ m)) (fun x m=>hb x (wQ _ m)) e2]
 rw [this ha hb em,←hj] at hi
 rw [dS nd (hi.trans hj) hj]
theorem uS {n a b:Nat} {rs:List Nat} (hb:b < n) (h:∀r∈rs,r < n):∀r∈mrg a b rs,r < n:=fun r m=>by
 unfold mrg at m
 obtain ⟨x,mx,e⟩:=xq.mp m
 by_cases z:x=a
 · rw [if_pos z] at e;omega
 · rw [if_neg z] at e;rw [←e];exact h x mx
def Bok (us:List Tr) (L:List (Tr×Tr)) (p:Rz.Bd):Prop:=∃t u,us[p.1]?=some t∧us[p.2.1]?=some u∧Cg us L t u
theorem vd {us:List Tr} {L:List (Tr×Tr)} {rs:List Nat} (nd:us.Nodup) (clo:Clt us) (hs:RS us L rs) (hl:rs.length=us.length) {q:Rz.Bd} (h:Kin us rs q.1 q.2.1):Bok us L q:=by
 refine hide fun q_ e_=> ?_
 obtain ⟨f,as,bs,hi,hj,em⟩:=h
 subst e_
 refine ⟨_,_,hi,hj, .cong f as bs (wJ hi) (wJ hj) ?_ fun k a b ea eb=> ?_⟩
 · have:=congrArg List.length em
   simpa using this
 · have ma:=clo _ (wJ hi) a (wJ ea)
   have mb:=clo _ (wJ hj) b (wJ eb)
   refine hs _ _ a b (bh ma) (bh mb) ?_
   have:=congrArg (fun l=>l[k]?) em
   simp only [wN,ea,eb] at this
   exact wT this
section
variable {P:Program} {w:World} {K:PySem.W.Frag} {mg:Str→Option Value} {base:Heap}
def oE (C:Addr):Sp:=fun vs H Q _=>∃(a lb:Addr) (us:List Tr) (L:List (Tr×Tr)) (ps:List Rz.Bd) (bv:List V),vs= [.ref a, .ref lb]∧Fam C H a us∧Fa us∧H lb=some (.lst bv)∧Bds H bv ps∧(∀q∈ps,q.2.2≠none∧∃p∈L,p.1∈us∧p.2∈us∧q.1=ix us p.1∧q.2.1=ix us p.2)∧(∀p∈L,∃q∈ps,q.1=ix us p.1∧q.2.1=ix us p.2)∧
 ∀T lr kp rs kv ks H',Same H H'→H' T=some (.tup [.ref lr, .ref kp])→H' lr=some (.lst (ivs rs))→rs.length=us.length→(∀r∈rs,r < us.length)→RS us L rs→Cs us rs→Ls us L rs→H kp=none→H' kp=some (.lst kv)→Bds H' kv ks→Rz.Kp us ps ks rs→ks.length≤us.length→Q (.ref T) H'
theorem scJoi:aM ["family","bonds","roots","kept","fresh","bond","one","other"] ["family","bonds"] (ag sJoi):=⟨rfl,rfl,rfl,by decide +kernel,rfl,by decide +kernel,by decide +kernel⟩
theorem uL {f fC C:Addr} {fd fdC:FuncData} (F:Fun K "joined" "joined" sJoi f fd) (B:Blt mg) (hC:Fk K C)
 (GC:FnOk P w K mg base CX0 3 fC fdC ["family","roots"] (oI C)) (kC:PySem.W.keepIn K (.ref fC)=true) (bC:Binds K fdC ["family","roots"] []) (mC:mg "call_bonds"=some (.ref fC)):
 FnOk P w K mg base CX0 4 f fd ["family","bonds"] (oE C):=by
 refine F.ok scJoi (fun vs H Q E h=> ?_) (fun cdv A outer s H vs Q E hr h=> ?_)
 · refine hide fun q_ e_=> ?_
   obtain ⟨a,lb,us,L,ps,bv,rfl,_⟩:=h
   subst e_
   rfl
 refine hide fun q_ e_=> ?_
 obtain ⟨a,lb,us,L,ps,bv,rfl,hF,hFa,hlb,hBv,hps,hLm,k⟩:=h
 subst e_
 have nd3:(["root","one","other"]:List Str).Nodup:=by decide +kernel
 refine ⟨_,ad (ao (i:=2) scJoi.nd rfl (Or.inl rfl) (aU (gD rfl) rfl B.li PyProof.Rows.boot_list (a8 (aU eV rfl B.ra PyProof.Rows.boot_range (a8 (am av rfl B.le PySem.boot_len (a8 (dg (pv 0) rfl) aa)) aa)) aa)))
  (ad (ao (i:=3) scJoi.nd rfl (Or.inl rfl) (bE aa))
  (ad (ao (i:=4) scJoi.nd rfl (Or.inl rfl) (pv 1))
  (ad (df PassesOwn.never (dQ (pv 4) fun _=>rfl)
   (ad (aZ PassesOwn.never rfl (aP (pv 4)) (aj (i:=5) scJoi.nd rfl (Or.inl rfl))
    (ad (iE (bn (a8 (aB aH (pv 2) (aB aW (pv 5) ai fun _ _=>rfl) fun _ _=>rfl) (a8 (aB aH (pv 2) (aB aW (pv 5) ai fun _ _=>rfl) fun _ _=>rfl) aa))) (cE (n:=2) rfl (aG (aj (i:=6) scJoi.nd rfl (Or.inr rfl)) (aG (aj (i:=7) scJoi.nd rfl (Or.inr rfl)) c6))))
    (ah (ba (aN eO (pv 6) (pv 7) (aR _))
     (ad (fh (i:=2) (NC:= ["root","one","other"]) (mp:= [none,some 6,some 7]) rfl scJoi.nd rfl rfl rfl (aP (pv 2)) (fun _ _ _ _ _=>aj (i:=0) nd3 rfl (Or.inl rfl)) (fun _ _ _ _ _=>bz) (fun _ _ _ _ _=>fV (aN cS (pv 0) (pv 1) (aR _)) (pv 2) (pv 0)))
     (ah (bf (cG PySem.F.plainAttrs_list PySem.F.slot_list_append PySem.F.type_list_append aT (pv 3) (a8 (pv 5) aa))))) aL))))
   (ah (ao (i:=4) scJoi.nd rfl (Or.inl rfl) (ak GC hr rfl mC kC bC .nil aF (a8 (pv 0) (a8 (pv 2) aa)))))))
  (ah (aJ (bn (a8 (pv 2) (a8 (pv 3) aa)))))))),?_⟩
 have hL:(20000:Nat)≤sizeLine:=by decide +kernel
 obtain ⟨nd,clo,gus,l64⟩:=hFa
 have hF0:=hF
 refine hide fun q_ e_=> ?_
 obtain ⟨dx,p,nb,inn,ws,kvn,iss,h1,h2,h3,h4,h5,h6,h7,h8⟩:=hF
 subst e_
 have wl:=h3.len
 refine ⟨_,rfl,a,C,dx,_, .ref p,rfl,h1,hC.cls,hC.np,rfl,p,ws,rfl, .inl (SqL.of h2),us.length,by rw [wl],fun rg nrg=> ?_⟩
 have sg:Same H (upd H rg (RgV rg us.length)):=ae nrg
 refine ⟨rg,us.length,rfl,a9,by omega,fun lr nlr=> ?_⟩
 have sr:Same (upd H rg (RgV rg us.length)) (upd (upd H rg (RgV rg us.length)) lr (.lst ((List.range us.length).map fun (i:Nat)=>V.int i))):=ae nlr
 have hlr:(upd (upd H rg (RgV rg us.length)) lr (.lst ((List.range us.length).map fun (i:Nat)=>V.int i))) lr=some (.lst (ivs (List.range us.length))):=a9
 refine ⟨by show 0≤sizeLine;decide,fun kp nkp=> ?_⟩
 have sk:Same (upd (upd H rg (RgV rg us.length)) lr (.lst ((List.range us.length).map fun (i:Nat)=>V.int i))) (upd (upd (upd H rg (RgV rg us.length)) lr (.lst ((List.range us.length).map fun (i:Nat)=>V.int i))) kp (.lst [])):=ae nkp
 have sH0:=sg.trans (sr.trans sk)
 have nkp0:H kp=none:=(sg.trans sr).free nkp
 have hkp:(upd (upd (upd H rg (RgV rg us.length)) lr (.lst ((List.range us.length).map fun (i:Nat)=>V.int i))) kp (.lst [])) kp=some (.lst []):=a9
 have hlr0:=sk _ _ hlr
 have lrk:lr≠kp:=fun q=>by rw [←q,a9] at nkp;cases nkp
 have lbk:lb≠kp:=fun q=>by rw [q,nkp0] at hlb;cases hlb
 generalize (upd (upd (upd H rg (RgV rg us.length)) lr (.lst ((List.range us.length).map fun (i:Nat)=>V.int i))) kp (.lst []))=H0 at*
 have rget:∀ {rs:List Nat} {n r:Nat},rs[n]?=some r→atI (ivs rs) (n:Int)=some (.int r):=fun e=>aS (by rw [wN,e];rfl)
 refine ⟨_,rfl,?_⟩
 dsimp only
 refine ⟨fun m σ H'=>∃(lr fr:Addr) (fv kk:List V) (rs:List Nat) (bs:List Rz.Bd) (v5 v6 v7:Option V),σ= [some (.ref a),some (.ref lb),some (.ref lr),some (.ref kp),some (.ref fr),v5,v6,v7]∧Same H H'∧lr≠kp∧fr≠kp∧H' lr=some (.lst (ivs rs))∧rs.length=us.length∧(∀r∈rs,r < us.length)∧RS us L rs∧H' kp=some (.lst kk)∧(kk.length+cnt us.length rs≤us.length∧∃ks,Bds H' kk ks∧Rz.Kp us ps ks rs∧∀q∈bs,Rz.May us ps ks q)∧
  H' fr=some (.lst fv)∧Bds H' fv bs∧(∀q∈bs,Bok us L q)∧(bs= []→Cs us rs∧Ls us L rs)∧((bs=ps∧m=us.length+2)∨(Ls us L rs∧(∀q∈bs,rs[q.1]?≠rs[q.2.1]?)∧m=cnt us.length rs+1)),
  ⟨us.length+2,lr,lb,bv,[],List.range us.length,ps,_,_,_,rfl,sH0,lrk,lbk,hlr0,x3,fun r m=>xj.mp m,rs0,hkp,⟨by simpa using kQ us.length (List.range us.length),[],⟨rfl,fun i p e=>by simp at e⟩,Rz.Kp.nil us ps us.length,fun q m=>⟨fun _=>m,fun e=>absurd e (hps q m).1⟩⟩,sH0 _ _ hlb,hBv.mono (Kd.of_same sH0),fun q m=> ?_,fun e=>⟨cs0 nd clo,fun q m=> ?_⟩, .inl ⟨rfl,rfl⟩⟩,?_⟩
 · refine hide fun q_ e_=> ?_
   obtain ⟨_,p,mp,u1,u2,e1,e2⟩:=hps q m
   subst e_
   exact ⟨p.1,p.2,by rw [e1];exact bh u1,by rw [e2];exact bh u2, .ax mp⟩
 · obtain ⟨q',mq',_⟩:=hLm q m
   rw [e] at mq'
   cases mq'
 intro m σ H' z_
 refine hide fun q_ e_=> ?_
 obtain ⟨lr,fr,fv,kk,rs,bs,v5,v6,v7,rfl,sH,lrk,frk,hlr,hrl,hrn,hRS,hkp,⟨hkc,ks,hKB,hKp,hMay⟩,hfr,hB,hok,hend,hm⟩:=z_
 subst e_
 refine ⟨_,rfl,!fv.isEmpty, .inl ⟨fv,SqL.of hfr,rfl⟩,?_⟩
 by_cases e0:fv= []
 · have eb:bs= []:=by
    have:=hB.1
    rw [e0] at this
    exact xE.mp this.symm
   rw [e0]
   refine iteF ?_
   refine ⟨_,rfl,_,rfl,by show 2≤sizeLine;decide,fun T nT=> ?_⟩
   have sT:Same H' (upd H' T (.tup [.ref lr, .ref kp])):=ae nT
   exact k T lr kp rs kk ks _ (sH.trans sT) a9 (sT _ _ hlr) hrl hrn hRS (hend eb).1 (hend eb).2 nkp0 (sT _ _ hkp) (hKB.mono (Kd.of_same sT)) hKp (by have:=hKB.1;omega)
 have e1:(!fv.isEmpty)=true:=by cases fv with
  |nil=>exact absurd rfl e0
  |cons v l=>rfl
 rw [e1]
 refine iteT ⟨fun σ' H''=>∃m',m' < m∧∃(lr fr:Addr) (fv kk:List V) (rs:List Nat) (bs:List Rz.Bd) (v5 v6 v7:Option V),σ'= [some (.ref a),some (.ref lb),some (.ref lr),some (.ref kp),some (.ref fr),v5,v6,v7]∧Same H H''∧lr≠kp∧fr≠kp∧H'' lr=some (.lst (ivs rs))∧rs.length=us.length∧(∀r∈rs,r < us.length)∧RS us L rs∧H'' kp=some (.lst kk)∧(kk.length+cnt us.length rs≤us.length∧∃ks,Bds H'' kk ks∧Rz.Kp us ps ks rs∧∀q∈bs,Rz.May us ps ks q)∧
  H'' fr=some (.lst fv)∧Bds H'' fv bs∧(∀q∈bs,Bok us L q)∧(bs= []→Cs us rs∧Ls us L rs)∧((bs=ps∧m'=us.length+2)∨(Ls us L rs∧(∀q∈bs,rs[q.1]?≠rs[q.2.1]?)∧m'=cnt us.length rs+1)),fun σ' H'' h=>h,?_⟩
 refine ⟨_,rfl,fr,rfl,⟨fv,SqL.of hfr⟩,?_⟩
 refine bc (xs:=fv) (fun i σ H''=>∃(lr:Addr) (kk:List V) (rs':List Nat) (v5 v6 v7:Option V),σ= [some (.ref a),some (.ref lb),some (.ref lr),some (.ref kp),some (.ref fr),v5,v6,v7]∧Same H H''∧lr≠kp∧H'' lr=some (.lst (ivs rs'))∧rs'.length=us.length∧(∀r∈rs',r < us.length)∧RS us L rs'∧H'' kp=some (.lst kk)∧(kk.length+cnt us.length rs'≤us.length∧∃ks,Bds H'' kk ks∧Rz.Kp us ps ks rs'∧∀q∈bs,Rz.May us ps ks q)∧H'' fr=some (.lst fv)∧Bds H'' fv bs∧
  (∀(j:Nat) q,j < i→bs[j]?=some q→rs'[q.1]?=rs'[q.2.1]?)∧(∀x y:Nat,rs[x]?=rs[y]?→rs'[x]?=rs'[y]?)∧(rs'=rs∨cnt us.length rs' < cnt us.length rs))
  ⟨lr,kk,rs,v5,v6,v7,rfl,sH,lrk,hlr,hrl,hrn,hRS,hkp,⟨hkc,ks,hKB,hKp,hMay⟩,hfr,hB,fun j q h=>absurd h (xG _),fun x y e=>e, .inl rfl⟩ (fun i σ H'' _ q=>by obtain ⟨_,_,_,_,_,_,_,_,_,_,_,_,_,_,_,q,_⟩:=q;exact SqL.of q) ?_ ?_
 · intro i x σ H1 ex z_
   refine hide fun q_ e_=> ?_
   obtain ⟨lr,kk,rs',v5,v6,v7,rfl,sH,lrk,hlr,hrl',hrn',hRS',hkp,⟨hkc,ks,hKB,hKp,hMay⟩,hfr,hB,hpro,hmono,hcn⟩:=z_
   subst e_
   have hi:i < bs.length:=by rw [←hB.1];exact (wK.mp ex).1
   obtain ⟨q,eq⟩:∃q,bs[i]?=some q:=⟨bs[i],wI hi⟩
   refine hide fun q_ e_=> ?_
   obtain ⟨v,ev,r,rfl,hr'⟩:=hB.2 i q eq
   subst e_
   rw [ex] at ev
   cases ev
   refine hide fun q_ e_=> ?_
   obtain ⟨t,u,e3,e4,cg⟩:=hok q (wJ eq)
   subst e_
   have l1:q.1 < rs'.length:=by rw [hrl'];exact (wK.mp e3).1
   have l2:q.2.1 < rs'.length:=by rw [hrl'];exact (wK.mp e4).1
   have g1:=wI l1
   have g2:=wI l2
   refine au ?_
   refine ⟨_,rfl,_,rfl,r,_,0, .int q.1,rfl,rfl,SqT.of hr',rfl,lr,_,_, .int (rs'[q.1]:Nat),rfl,rfl,SqL.of hlr,rget g1,_,rfl,_,rfl,r,_,1, .int q.2.1,rfl,rfl,SqT.of hr',rfl,lr,_,_, .int (rs'[q.2.1]:Nat),rfl,rfl,SqL.of hlr,rget g2,by show 2≤sizeLine;decide,fun T nT=> ?_⟩
   have sT:Same H1 (upd H1 T (.tup [.int (rs'[q.1]:Nat), .int (rs'[q.2.1]:Nat)])):=ae nT
   refine ⟨T,_,rfl,SqT.of a9,rfl,_,_,rfl,_,_,rfl,rfl,?_⟩
   have hlr1:=sT _ _ hlr
   have hkp1:=sT _ _ hkp
   have hfr1:=sT _ _ hfr
   have hB1:=hB.mono (Kd.of_same sT)
   have hKB1:=hKB.mono (Kd.of_same sT)
   have sH1:=sH.trans sT
   have hr1:=sT _ _ hr'
   generalize upd H1 T (.tup [.int (rs'[q.1]:Nat), .int (rs'[q.2.1]:Nat)])=H2 at*
   refine ⟨_,rfl,_,rfl,rfl,_,rfl,?_⟩
   by_cases er:rs'[q.1]=rs'[q.2.1]
   · rw [er,decide_eq_true rfl]
     refine iteF ?_
     refine ⟨lr,kk,rs',_,_,_,rfl,sH1,lrk,hlr1,hrl',hrn',hRS',hkp1,⟨hkc,ks,hKB1,hKp,hMay⟩,hfr1,hB1,fun j q' hj ej=> ?_,hmono,hcn⟩
     rcases xk j i with y|y
     · exact hpro j q' y ej
     · have:j=i:=by omega
       subst this
       rw [eq] at ej
       cases ej
       rw [g1,g2,er]
   · have en2:¬V.int ((rs'[q.1]:Nat):Int)=V.int ((rs'[q.2.1]:Nat):Int):=fun e=>er (xw (V.int.inj e))
     rw [decide_eq_false en2]
     refine iteT ?_
     have m1:rs'[q.1]∈rs':=xz l1
     have m2:rs'[q.2.1]∈rs':=xz l2
     have ga:rs'[q.1]?=some rs'[q.1]:=g1
     have gb:rs'[q.2.1]?=some rs'[q.2.1]:=g2
     generalize rs'[q.1]=ra at*
     generalize rs'[q.2.1]=rb at*
     refine qQ rfl ?_
     refine ⟨_,rfl,lr,rfl,⟨_,SqL.of hlr1⟩,fun D nD=> ?_⟩
     refine cC (xs:=ivs rs') (fun j acc H3=>Same H2 H3∧H3 D=some (.lst acc)∧acc=ivs ((mrg ra rb rs').take j)) ⟨ae nD,a9,rfl⟩ (fun j acc H3 pp=>SqL.of (pp.1 _ _ hlr1)) ?_ ?_
     · rintro j x acc H3 hj ex ⟨s3,hd3,rfl⟩
       rw [wN] at ex
       obtain ⟨y,ey,rfl⟩:=x5.mp ex
       rw [wL] at hj
       have lj:((mrg ra rb rs').take j).length < sizeLine:=by rw [xh,dU];omega
       have nx:ivs ((mrg ra rb rs').take (j+1))=ivs ((mrg ra rb rs').take j)++ [.int ((if y=ra then rb else y:Nat))]:=by
        rw [xm]
        have:(mrg ra rb rs')[j]?=some (if y=ra then rb else y):=by unfold mrg;rw [wN,ey];rfl
        rw [this]
        simp [ivs]
       refine ⟨_,rfl,_,rfl,rfl,_,rfl,?_⟩
       by_cases yz:y=ra
       · rw [yz,decide_eq_true rfl]
         refine iteT ⟨_,rfl,CompN.mk (by rw [wL];exact hj) (by rw [wL];exact lj) hd3 ⟨aq nD s3,a9,?_⟩⟩
         rw [nx,if_pos yz]
       · have yn:¬V.int ((y:Nat):Int)=V.int ((ra:Nat):Int):=fun e=>yz (xw (V.int.inj e))
         rw [decide_eq_false yn]
         refine iteF ⟨_,rfl,CompN.mk (by rw [wL];exact hj) (by rw [wL];exact lj) hd3 ⟨aq nD s3,a9,?_⟩⟩
         rw [nx,if_neg yz]
     · rintro acc H3 ⟨s3,hd3,rfl⟩
       rw [wL,show rs'.length=(mrg ra rb rs').length from (dU _ _ _).symm,xt] at hd3
       refine au ?_
       have hkp3:=s3 _ _ hkp1
       have cm:=mK m1 m2 er hrn'
       have cl':=kQ us.length rs'
       refine ⟨_,rfl, .inl ⟨rfl,kk,SqL.of hkp3⟩,_,rfl,kp,kk,_,rfl,rfl,hkp3,by omega,?_⟩
       have k4:=bO (ys:=kk++ [.ref r]) hkp3
       have nDk:D≠kp:=fun zz=>by rw [zz,hkp1] at nD;cases nD
       refine ⟨D,kk++ [.ref r],mrg ra rb rs',_,_,_,rfl,aq nkp0 (sH1.trans s3),nDk,by rw [af nDk];exact hd3,(dU _ _ _).trans hrl',uS (hrn' _ m2) hrn',hRS'.mrg hrl' e3 e4 cg ga gb,a9,⟨by rw [wM,x8];omega,ks++ [q],((hKB1.mono (Kd.of_same s3)).mono k4).snoc ⟨r,rfl,k4.tup _ _ (s3 _ _ hr1)⟩,hKp.add (hMay q (wJ eq)) ga gb er,fun q' m'=>(hMay q' m').mono fun p mp=>x6 _ mp⟩,by rw [af frk];exact s3 _ _ hfr1,(hB1.mono (Kd.of_same s3)).mono k4,fun j q' hj ej=> ?_,fun x y e=>kh (hmono x y e),?_⟩
       · rcases xk j i with y|y
         · exact kh (hpro j q' y ej)
         · have:j=i:=by omega
           subst this
           rw [eq] at ej
           cases ej
           exact pC ga gb
       · right
         rcases hcn with h|h
         · rw [←h];exact cm
         · omega
 · intro σ H1 z_
   refine hide fun q_ e_=> ?_
   obtain ⟨lr,kk,rs',v5,v6,v7,rfl,sH,lrk,hlr,hrl',hrn',hRS',hkp,⟨hkc,ks,hKB,hKp,hMay⟩,hfr,hB,hpro,hmono,hcn⟩:=z_
   subst e_
   have hpro':∀q∈bs,rs'[q.1]?=rs'[q.2.1]?:=fun q mq=>by
    obtain ⟨j,hj,e⟩:=xf mq
    exact hpro j q (by rw [hB.1];exact hj) (by rw [wI hj,e])
   have hLs:Ls us L rs':=fun q mq=>by
    rcases hm with ⟨eb,_⟩|⟨ls,_,_⟩
    · obtain ⟨q',mq',e1,e2⟩:=hLm q mq
      have:=hpro' q' (by rw [eb];exact mq')
      rw [e1,e2] at this
      exact this
    · exact hmono _ _ (ls q mq)
   refine ⟨_,rfl,_,rfl,a,lr,us,rs',rfl,hF0.same sH,hlr,hrl',⟨nd,clo,gus,l64⟩,fun D fr2 bs2 H2 nD s2 hD hB2 hk2 hcs hl2=> ?_⟩
   have nDk:D≠kp:=fun zz=>by rw [zz,hkp] at nD;cases nD
   refine ⟨cnt us.length rs'+1,?_,lr,D,fr2,kk,rs',bs2,v5,v6,v7,rfl,sH.trans s2,lrk,nDk,s2 _ _ hlr,hrl',hrn',hRS',s2 _ _ hkp,⟨hkc,ks,hKB.mono (Kd.of_same s2),hKp,fun q mq=>⟨fun e=>absurd (hk2 q mq).1.1 e,fun _=> ?_⟩⟩,hD,hB2,fun q mq=>vd nd clo hRS' hrl' (hk2 q mq).1.2,fun e=>⟨hcs e,hLs⟩, .inr ⟨hLs,fun q mq=>(hk2 q mq).2,rfl⟩⟩
   rotate_left
   · refine hide fun q_ e_=> ?_
     obtain ⟨f,as,bs3,g1,g2,g3⟩:=(hk2 q mq).1.2
     subst e_
     refine ⟨f,as,bs3,g1,g2,by simpa using congrArg List.length g3,fun n x y ex ey=> ?_⟩
     have e9:=congrArg (fun l=>l[n]?) g3
     simp only [wN,ex,ey] at e9
     exact hKp.noc _ _ (by rw [hrl'];exact cq (clo _ (wJ g1) _ (wJ ex))) (by rw [hrl'];exact cq (clo _ (wJ g2) _ (wJ ey))) (wT e9)
   have cl':=kQ us.length rs'
   rcases hm with ⟨_,em⟩|⟨_,hne,em⟩
   · omega
   · rcases hcn with h|h
     · exfalso
       obtain ⟨q,bq,rfl⟩:∃q bq,bs=q::bq:=by
        cases bs with
        |nil=>exact absurd (xE.mp hB.1) e0
        |cons q bq=>exact ⟨q,bq,rfl⟩
       have:=hpro' q wP
       rw [h] at this
       exact hne q wP this
     · omega
end
open PySem L2 Mth Tre Wd Su Tw Fm
theorem sw {k:Zp.Src} {K:PySem.W.Frag} {a b:Addr} {xs ys:List V} {g:TG} {tb:TS} {D:Ends} {σ:L2.St} {H:Hp} (hxy:ys.length=xs.length) (Pv:Nat→L2.St→Hp→Prop) (h0:Pv 0 σ H) (hl:∀i σ H,i≤xs.length→Pv i σ H→Sqk k K H a xs∧Sqk k K H b ys)
 (hs:∀i T x y σ H,xs[i]?=some x→ys[i]?=some y→H T=none→Pv i σ H→g (.ref T) σ (upd H T (.tup [x,y])) fun σ2 H2=>tb {D with nx:=Pv (i+1),ct:=Pv (i+1),bk:=D.nx} σ2 H2) (hd:∀σ H,Pv xs.length σ H→D.nx σ H):
 ∃W:Nat→Nat→L2.St→Hp→Prop,(∃m,W 0 m σ H)∧∀i m σ H,W i m σ H→
  ((Itz k K a b).stop i H∧D.nx σ H)∨((Itz k K a b).go i H∧∃N:L2.St→Hp→Prop,(∀σ' H',N σ' H'→∃m',m' < m∧W (i+1) m' σ' H')∧∀x H',(Itz k K a b).yld i H x H'→g x σ H' fun σ2 H2=>tb {D with nx:=N,ct:=N,bk:=D.nx} σ2 H2):=by
 refine ⟨fun i m σ H=>m=xs.length - i∧i≤xs.length∧Pv i σ H,⟨xs.length,by simp,xo _,h0⟩,?_⟩
 rintro i m σ H ⟨rfl,hi,p⟩
 obtain ⟨q1,q2⟩:=hl i σ H hi p
 by_cases hlt:i < xs.length
 · refine .inr ⟨⟨xs,ys,xs[i],ys[i],q1,q2,by simp [hlt],by simp [hxy,hlt]⟩,Pv (i+1),fun σ' H' p'=>⟨xs.length - (i+1),by omega,rfl,hlt,p'⟩,fun x H' y=> ?_⟩
   refine hide fun q_ e_=> ?_
   obtain ⟨T,x',y',rfl,nT,rfl,y1,y2,_⟩:=y
   subst e_
   exact hs i T x' y' σ H (y1 xs q1) (y2 ys q2) nT p
 · have e:i=xs.length:=by omega
   subst e
   exact .inl ⟨⟨xs,ys,q1,q2,wO _⟩,hd σ H p⟩
theorem da {κ:Type} [DecidableEq κ] {kvs:List (κ×V)} {k:κ} {z:V} (h:valV kvs k=some z):∃e∈kvs,e.1=k∧e.2=z:=by
 unfold valV at h
 obtain ⟨e,he,rfl⟩:=x5.mp h
 have q:=List.find?_some he
 exact ⟨e,List.mem_of_find?_eq_some he,by simpa using q,rfl⟩
theorem cZ {κ:Type} [DecidableEq κ] {kvs:List (κ×V)} {k:κ} (h:valV kvs k=none):¬k∈kvs.map (·.1):=fun m=>by
 obtain ⟨e,me,rfl⟩:=xq.mp m
 have:=cf e.1 kvs
 rw [h] at this
 have t:(kvs.any fun kv=>decide (kv.1=e.1))=true:=List.any_eq_true.mpr ⟨e,me,by simp⟩
 rw [t] at this
 cases this
abbrev kI (r:Nat):Key:=Sum.inl (r:Int)
end K61
namespace Rz
open PySem L2 Mth Tre Wd Su Tw Fm
abbrev Cms:=List (Nat×Option Bd)
def keys (cs:Cms):List Nat:=cs.map (·.1)
structure Cm (ks:List Bd) (x:Nat) (cs:Cms):Prop where
 head:cs[0]?=some (x,none)
 nd:(keys cs).Nodup
 frm:∀(i v:Nat) (b:Bd),cs[i]?=some (v,some b)→b.2.1=v∧(∃q∈ks,Is q b)∧∃j c,j < i∧cs[j]?=some (b.1,c)
 non:∀(i v:Nat),cs[i]?=some (v,none)→i=0
theorem key_at {cs:Cms} {i v:Nat} {o:Option Bd} (e:cs[i]?=some (v,o)):(keys cs)[i]?=some v:=by unfold keys;rw [wN,e];rfl
theorem at_key {cs:Cms} {v:Nat} (m:v∈keys cs):∃(i:Nat) (o:Option Bd),cs[i]?=some (v,o):=by
 obtain ⟨e,me,rfl⟩:=xq.mp m
 obtain ⟨i,hi⟩:=xJ.mp me
 exact ⟨i,e.2,hi⟩
theorem Cm.one (ks:List Bd) (x:Nat):Cm ks x [(x,none)]:=by
 refine ⟨rfl,by simp [keys],fun i v b e=> ?_,fun i v e=> ?_⟩
 · cases i with
   |zero=>cases e
   |succ i=>simp at e
 · cases i with
   |zero=>rfl
   |succ i=>simp at e
theorem Cm.add {ks:List Bd} {x:Nat} {cs:Cms} (h:Cm ks x cs) {b:Bd} (hb:∃q∈ks,Is q b) (h1:b.1∈keys cs) (h2:b.2.1∉keys cs):Cm ks x (cs++ [(b.2.1,some b)]):=by
 have pos:0 < cs.length:=(wK.mp h.head).1
 have which:∀(i:Nat) (p:Nat×Option Bd),(cs++ [(b.2.1,some b)])[i]?=some p→(i < cs.length∧cs[i]?=some p)∨(i=cs.length∧p=(b.2.1,some b)):=fun i p e=>by
  rcases xk i cs.length with c|c
  · rw [xp c] at e
    exact .inl ⟨c,e⟩
  · rw [xu c] at e
    have:i - cs.length=0:=by
     have:=(wK.mp e).1
     simp at this
     omega
    rw [this] at e
    cases e
    exact .inr ⟨by omega,rfl⟩
 refine ⟨by rw [xp pos];exact h.head,?_,fun i v b' e=> ?_,fun i v e=> ?_⟩
 · unfold keys
   rw [xi]
   refine xQ.mpr ⟨h.nd,by simp,fun a ma c mc=> ?_⟩
   simp only [wZ,List.map_nil,wS] at mc
   subst mc
   exact fun z=>h2 (z▸ma)
 · rcases which i _ e with ⟨hi,e'⟩|⟨hi,e'⟩
   · obtain ⟨a1,a2,j,c,hj,ej⟩:=h.frm i v b' e'
     exact ⟨a1,a2,j,c,hj,by rw [xp (by omega)];exact ej⟩
   · cases e'
     obtain ⟨j,c,ej⟩:=at_key h1
     have lj:=(wK.mp ej).1
     exact ⟨rfl,hb,j,c,by omega,by rw [xp lj];exact ej⟩
 · rcases which i _ e with ⟨_,e'⟩|⟨_,e'⟩
   · exact h.non i v e'
   · cases e'
noncomputable def ordC (cs:Cms) (v:Nat):Nat:=cs.findIdx fun e=>decide (e.1=v)
theorem ord_at {cs:Cms} (nd:(keys cs).Nodup) {i v:Nat} {o:Option Bd} (e:cs[i]?=some (v,o)):ordC cs v=i:=by
 have m:∃x∈cs,decide (x.1=v)=true:=⟨_,wJ e,by simp⟩
 have hl:ordC cs v < cs.length:=List.findIdx_lt_length.mpr m
 have hv:decide ((cs[ordC cs v]).1=v)=true:=List.findIdx_getElem (w:=hl)
 have e1:(keys cs)[ordC cs v]?=some v:=by
  unfold keys
  rw [wN,wI hl]
  exact congrArg some (of_decide_eq_true hv)
 exact dS nd e1 (key_at e)
theorem Cm.step {ks:List Bd} {x:Nat} {cs:Cms} (h:Cm ks x cs) {o:Nat} {b:Bd} (m:(o,some b)∈cs):b.2.1=o∧(∃q∈ks,Is q b)∧ordC cs b.1 < ordC cs o∧b.1∈keys cs:=by
 obtain ⟨i,e⟩:=xJ.mp m
 obtain ⟨a1,a2,j,c,hj,ej⟩:=h.frm i o b e
 refine ⟨a1,a2,?_,wJ (key_at ej)⟩
 rw [ord_at h.nd e,ord_at h.nd ej]
 exact hj
theorem Cm.stop {ks:List Bd} {x:Nat} {cs:Cms} (h:Cm ks x cs) {o:Nat} (m:(o,(none:Option Bd))∈cs):o=x:=by
 obtain ⟨i,e⟩:=xJ.mp m
 have:=h.non i o e
 subst this
 rw [h.head] at e
 cases e
 rfl
def Pr (ks:List Bd) (cs:Cms) (wt:List Nat):Prop:=∀v∈keys cs,v∉wt→∀q∈ks,(q.1=v→q.2.1∈keys cs)∧(q.2.1=v→q.1∈keys cs)
theorem Pr.all {ks:List Bd} {cs:Cms} (h:Pr ks cs []) {x y:Nat} (c:Con ks x y):x∈keys cs↔y∈keys cs:=by
 induction c with
 |refl x=>exact Iff.rfl
 |ed m=>exact ⟨fun k=>(h _ k (by simp) _ m).1 rfl,fun k=>(h _ k (by simp) _ m).2 rfl⟩
 |sym _ ih=>exact ih.symm
 |trans _ _ a b=>exact a.trans b
end Rz
namespace K61
open PySem L2 Mth Tre Wd Su Tw Fm
abbrev Adj:=Nat→List Rz.Bd
structure Bsk (H H':Hp) (d:Addr) (kvs:List (Key×V)) (A:Adj):Prop where
 at_:H' d=some (.dK kvs)
 nk:(kvs.map (·.1)).Nodup
 nv:(kvs.map (·.2)).Nodup
 ent:∀e∈kvs,∃(r:Nat) (q:Addr) (vs:List V),e=(kI r, .ref q)∧H' q=some (.lst vs)∧H q=none∧Bds H' vs (A r)
 out:∀r:Nat,kI r∉kvs.map (·.1)→A r= []
noncomputable def putA (A:Adj) (r:Nat) (b:Rz.Bd):Adj:=fun r'=>A r'++if r=r' then [b] else []
theorem Bsk.same {H H' H'':Hp} {d:Addr} {kvs:List (Key×V)} {A:Adj} (h:Bsk H H' d kvs A) (s:Same H' H''):Bsk H H'' d kvs A:=
 ⟨s _ _ h.at_,h.nk,h.nv,fun e m=>by
  obtain ⟨r,q,vs,a,b,c,e⟩:=h.ent e m
  exact ⟨r,q,vs,a,s _ _ b,c,e.mono (Kd.of_same s)⟩,h.out⟩
theorem Bsk.wr {H H':Hp} {d D:Addr} {kvs:List (Key×V)} {A:Adj} {o:HO} (h:Bsk H H' d kvs A) (k:Kd H' (upd H' D o)) (hd:D≠d) (hq:∀e∈kvs,e.2≠ .ref D):Bsk H (upd H' D o) d kvs A:=
 ⟨by rw [af hd.symm];exact h.at_,h.nk,h.nv,fun e m=>by
  obtain ⟨r,q,vs,a,b,c,e'⟩:=h.ent e m
  refine ⟨r,q,vs,a,?_,c,e'.mono k⟩
  rw [af (fun z=>hq e m (by rw [a,z]))]
  exact b,h.out⟩
theorem Bsk.get {H H':Hp} {d:Addr} {kvs:List (Key×V)} {A:Adj} (h:Bsk H H' d kvs A) {r:Nat} {z:V} (ez:valV kvs (kI r)=some z):∃q vs,z= .ref q∧(kI r,V.ref q)∈kvs∧H' q=some (.lst vs)∧H q=none∧Bds H' vs (A r)∧q≠d:=by
 obtain ⟨e,me,ek,rfl⟩:=da ez
 obtain ⟨r1,q,vs,rfl,a2,a3,a4⟩:=h.ent e me
 have er:r1=r:=xw (Sum.inl.inj ek)
 subst er
 exact ⟨q,vs,rfl,me,a2,a3,a4,fun zz=>by rw [zz,h.at_] at a2;cases a2⟩
theorem Bsk.app {H H':Hp} {d q T:Addr} {kvs:List (Key×V)} {A:Adj} {r:Nat} {b:Rz.Bd} {vs:List V} (h:Bsk H H' d kvs A) (me:(kI r,V.ref q)∈kvs) (hq:H' q=some (.lst vs)) (hv:Bds H' vs (A r)) (hT:H' T=some (.tup [.int b.1, .int b.2.1,ov b.2.2])):Bsk H (upd H' q (.lst (vs++ [.ref T]))) d kvs (putA A r b):=by
 have k5:=bO (ys:=vs++ [.ref T]) hq
 have qd:d≠q:=fun zz=>by rw [←zz,h.at_] at hq;cases hq
 refine ⟨by rw [af qd];exact h.at_,h.nk,h.nv,fun e' m'=> ?_,fun r' hr'=> ?_⟩
 · obtain ⟨r2,q',vs',c1,c2,c3,c4⟩:=h.ent e' m'
   by_cases zz:q'=q
   · have same:e'=(kI r,V.ref q):=by
      obtain ⟨i1,hi1,e1⟩:=xf m'
      obtain ⟨i2,hi2,e2⟩:=xf me
      have:=dS h.nv (i:=i1) (j:=i2) (x:=V.ref q) (by rw [wN,wI hi1,e1,c1,zz];rfl) (by rw [wN,wI hi2,e2];rfl)
      subst this
      rw [←e1,e2]
     have er2:r2=r:=by
      rw [same] at c1
      exact (xw (Sum.inl.inj (Prod.mk.inj c1).1)).symm
     subst er2
     rw [zz] at c2 c3
     rw [hq] at c2
     cases c2
     refine ⟨r2,q,_,same,a9,c3,?_⟩
     unfold putA
     rw [if_pos rfl]
     exact (hv.mono k5).snoc ⟨T,rfl,k5.tup _ _ hT⟩
   · refine ⟨r2,q',vs',c1,by rw [af zz];exact c2,c3,?_⟩
     have nr:¬r=r2:=fun z=>by
      subst z
      obtain ⟨i1,hi1,e1⟩:=xf m'
      obtain ⟨i2,hi2,e2⟩:=xf me
      have:=dS h.nk (i:=i1) (j:=i2) (x:=kI r) (by rw [wN,wI hi1,e1,c1];rfl) (by rw [wN,wI hi2,e2];rfl)
      subst this
      rw [e1] at e2
      rw [e2] at c1
      exact zz (V.ref.inj (Prod.mk.inj c1).2).symm
     unfold putA
     rw [if_neg nr,y9]
     exact c4.mono k5
 · have nr:¬r=r':=fun z=>hr' (by rw [←z];exact xq.mpr ⟨_,me,rfl⟩)
   unfold putA
   rw [if_neg nr,y9]
   exact h.out r' hr'
theorem Bsk.new {H H':Hp} {d l:Addr} {kvs:List (Key×V)} {A:Adj} {r:Nat} (h:Bsk H H' d kvs A) (ez:valV kvs (kI r)=none) (hl:H' l=some (.lst [])) (nl:H l=none) (hf:∀e∈kvs,e.2≠ .ref l):Bsk H (upd H' d (.dK (kvs++ [(kI r, .ref l)]))) d (kvs++ [(kI r, .ref l)]) A∧A r= []:=by
 have hA:A r= []:=h.out r (cZ ez)
 have k5:Kd H' (upd H' d (.dK (kvs++ [(kI r, .ref l)]))):=Dj.Kd.updK h.at_
 have ld:l≠d:=fun zz=>by rw [zz,h.at_] at hl;cases hl
 refine ⟨⟨a9,?_,?_,fun e' m'=> ?_,fun r' hr'=> ?_⟩,hA⟩
 · rw [xi,xQ]
   refine ⟨h.nk,by simp,fun a ma c mc=> ?_⟩
   rw [show c=kI r by simpa using mc]
   exact fun z=>cZ ez (z▸ma)
 · rw [xi,xQ]
   refine ⟨h.nv,by simp,fun a ma c mc=> ?_⟩
   obtain ⟨e,me,rfl⟩:=xq.mp ma
   rw [show c=V.ref l by simpa using mc]
   exact hf e me
 · rcases x4.mp m' with m'|m'
   · obtain ⟨r2,q',vs',c1,c2,c3,c4⟩:=h.ent e' m'
     have qd:q'≠d:=fun zz=>by rw [zz,h.at_] at c2;cases c2
     exact ⟨r2,q',vs',c1,by rw [af qd];exact c2,c3,c4.mono k5⟩
   · refine ⟨r,l,[],wS.mp m',by rw [af ld];exact hl,nl,?_⟩
     rw [hA]
     exact ⟨rfl,fun i p e=>by simp at e⟩
 · refine h.out r' fun m=>hr' ?_
   rw [xi]
   exact x6 _ m
structure AdOk (ks:List Rz.Bd) (i m:Nat) (A:Adj):Prop where
 sound:∀v b,b∈A v→b.1=v∧∃q∈ks,Rz.Is q b
 full:∀q∈ks.take i,q∈A q.1∧(q.2.1,q.1,q.2.2)∈A q.2.1
 len:∀v,(A v).length≤m
theorem di {A:Adj} {r v:Nat} {b c:Rz.Bd} (h:c∈A v):c∈putA A r b v:=x6 _ h
theorem gW {A:Adj} {r:Nat} {b:Rz.Bd}:b∈putA A r b r:=wR _ (by rw [if_pos rfl];exact wS.mpr rfl)
theorem AdOk.two {ks:List Rz.Bd} {i m:Nat} {A:Adj} {q:Rz.Bd} (h:AdOk ks i m A) (e:ks[i]?=some q):AdOk ks (i+1) (m+2) (putA (putA A q.1 q) q.2.1 (q.2.1,q.1,q.2.2)):=by
 have mq:=wJ e
 refine ⟨fun v b hb=> ?_,fun p mp=> ?_,fun v=> ?_⟩
 · unfold putA at hb
   rcases x4.mp hb with hb|hb
   · rcases x4.mp hb with hb|hb
     · exact h.sound v b hb
     · by_cases z:q.1=v
       · rw [if_pos z,wS] at hb
         subst hb
         exact ⟨z,_,mq, .inl rfl⟩
       · rw [if_neg z] at hb
         cases hb
   · by_cases z:q.2.1=v
     · rw [if_pos z,wS] at hb
       subst hb
       exact ⟨z,_,mq, .inr rfl⟩
     · rw [if_neg z] at hb
       cases hb
 · rw [xm,e] at mp
   rcases x4.mp mp with mp|mp
   · obtain ⟨a,b⟩:=h.full p mp
     exact ⟨di (di a),di (di b)⟩
   · have:p=q:=by simpa using mp
     subst this
     exact ⟨di gW,gW⟩
 · have:=h.len v
   unfold putA
   have l1:(if q.1=v then [q] else []).length≤1:=by split<;>simp
   have l2:(if q.2.1=v then [(q.2.1,q.1,q.2.2)] else ([]:List Rz.Bd)).length≤1:=by split<;>simp
   rw [wM,wM]
   omega
open PySem L2 Mth Tre Wd Su Tw Fm
def CvAt (H:Hp) (v:V):Option Rz.Bd→Prop
 |none=>v= .non
 |some b=>Bd H v b
theorem CvAt.mono {H H':Hp} {v:V} {o:Option Rz.Bd} (h:CvAt H v o) (k:Kd H H'):CvAt H' v o:=by
 cases o with
 |none=>exact h
 |some b=>
  obtain ⟨r,e,g⟩:=h
  exact ⟨r,e,k.tup _ _ g⟩
structure Cmd (H:Hp) (c:Addr) (kvs:List (Key×V)) (cs:Rz.Cms):Prop where
 at_:H c=some (.dK kvs)
 len:kvs.length=cs.length
 ent:∀(i:Nat) (e:Nat×Option Rz.Bd),cs[i]?=some e→∃v,kvs[i]?=some (kI e.1,v)∧CvAt H v e.2
theorem Cmd.kd {H H':Hp} {c:Addr} {kvs:List (Key×V)} {cs:Rz.Cms} (h:Cmd H c kvs cs) (k:Kd H H') (e:H' c=some (.dK kvs)):Cmd H' c kvs cs:=
 ⟨e,h.len,fun i p ep=>by
  obtain ⟨v,a,b⟩:=h.ent i p ep
  exact ⟨v,a,b.mono k⟩⟩
theorem Cmd.same {H H':Hp} {c:Addr} {kvs:List (Key×V)} {cs:Rz.Cms} (h:Cmd H c kvs cs) (s:Same H H'):Cmd H' c kvs cs:=h.kd (Kd.of_same s) (s _ _ h.at_)
theorem Cmd.of {H:Hp} {c:Addr} {kvs:List (Key×V)} {cs:Rz.Cms} (h:Cmd H c kvs cs) {e:Key×V} (m:e∈kvs):∃(v:Nat) (o:Option Rz.Bd),(v,o)∈cs∧e.1=kI v∧CvAt H e.2 o:=by
 obtain ⟨i,hi,rfl⟩:=xf m
 have hc:i < cs.length:=by rw [←h.len];exact hi
 obtain ⟨z,a,b⟩:=h.ent i cs[i] (wI hc)
 rw [wI hi] at a
 have a':=wT a
 exact ⟨cs[i].1,cs[i].2,xz hc,by rw [a'],by rw [a'];exact b⟩
theorem Cmd.no {H:Hp} {c:Addr} {kvs:List (Key×V)} {cs:Rz.Cms} (h:Cmd H c kvs cs) {v:Nat} (nv:v∉Rz.keys cs):valV kvs (kI v)=none:=by
 cases ez:valV kvs (kI v) with
 |none=>rfl
 |some z=>
  exfalso
  obtain ⟨e,me,ek,_⟩:=da ez
  obtain ⟨v',o,m,e1,_⟩:=h.of me
  rw [e1] at ek
  have:v'=v:=xw (Sum.inl.inj ek)
  subst this
  exact nv (xq.mpr ⟨_,m,rfl⟩)
theorem Cmd.yes {H:Hp} {c:Addr} {kvs:List (Key×V)} {cs:Rz.Cms} (h:Cmd H c kvs cs) {v:Nat} (mv:v∈Rz.keys cs):∃o z,(v,o)∈cs∧valV kvs (kI v)=some z∧CvAt H z o:=by
 cases ez:valV kvs (kI v) with
 |none=>
  exfalso
  obtain ⟨i,o,e⟩:=Rz.at_key mv
  obtain ⟨z,a,_⟩:=h.ent i _ e
  exact cZ ez (xq.mpr ⟨_,wJ a,rfl⟩)
 |some z=>
  obtain ⟨e,me,ek,rfl⟩:=da ez
  obtain ⟨v',o,m,e1,e2⟩:=h.of me
  rw [e1] at ek
  have:v'=v:=xw (Sum.inl.inj ek)
  subst this
  exact ⟨o,_,m,rfl,e2⟩
theorem Cmd.add {H:Hp} {c T:Addr} {kvs:List (Key×V)} {cs:Rz.Cms} (h:Cmd H c kvs cs) {b:Rz.Bd} (hT:H T=some (.tup [.int b.1, .int b.2.1,ov b.2.2])):Cmd (upd H c (.dK (kvs++ [(kI b.2.1, .ref T)]))) c (kvs++ [(kI b.2.1, .ref T)]) (cs++ [(b.2.1,some b)]):=by
 have k5:Kd H (upd H c (.dK (kvs++ [(kI b.2.1, .ref T)]))):=Dj.Kd.updK h.at_
 refine ⟨a9,by rw [wM,wM,h.len];rfl,fun i e ee=> ?_⟩
 rcases xk i cs.length with z|z
 · rw [xp z] at ee
   obtain ⟨v,a,b'⟩:=h.ent i e ee
   exact ⟨v,by rw [xp (by rw [h.len];exact z)];exact a,b'.mono k5⟩
 · rw [xu z] at ee
   have:i - cs.length=0:=by
    have:=(wK.mp ee).1
    simp at this
    omega
   rw [this] at ee
   cases ee
   exact ⟨.ref T,by rw [xu (by rw [h.len];exact z),h.len,this];rfl,T,rfl,k5.tup _ _ hT⟩
open PySem L2 Mth Tre
theorem qz {ns:List Int} {i:Int} (h0:0≤i) (h1:i < ns.length):∃(z:Int),atI (ns.map V.int) i=some (.int z):=by
 obtain ⟨j,rfl⟩:∃j:Nat,i=(j:Int):=⟨i.toNat,by omega⟩
 have hj:j < ns.length:=by omega
 exact ⟨ns[j],aS (by rw [wN,wI hj];rfl)⟩
theorem iW {m:Int} (h0:0≤m) (h:m≤1000000000000):Big m:=by
 unfold Big
 have:(1000000000000:Nat) < 2^8000:=by decide +kernel
 exact Nat.lt_of_le_of_lt (by omega) this
section
variable {P:Program} {w:World} {K:PySem.W.Frag} {mg:Str→Option Value} {base:Heap}
def fK (K:PySem.W.Frag):Sp:=fun vs H Q _=>∃(a:Addr) (ns:List Int) (kk m:Int),vs= [.ref a, .int kk, .int m]∧SqL K H a (ns.map V.int)∧ns.length≤63∧0≤kk∧kk≤100000∧0 < m∧∀r:Int,0≤r→r < m→Q (.int r) H
theorem scD:aM ["_law_script","_law_k","_law_many","_law_cell","_law_j","_law_seed"] ["_law_script","_law_k","_law_many"] (ag gY):=⟨rfl,rfl,rfl,by decide +kernel,rfl,by decide +kernel,by decide +kernel⟩
theorem rL {f:Addr} {fd:FuncData} (F:Fun K "_law_draw" "_law_draw" gY f fd) (B:Blt mg):FnOk P w K mg base CX0 1 f fd ["_law_script","_law_k","_law_many"] (fK K):=by
 refine F.ok scD (fun vs H Q E h=> ?_) (fun cdv A outer s H vs Q E hr h=> ?_)
 · refine hide fun q_ e_=> ?_
   obtain ⟨a,ns,kk,m,rfl,_⟩:=h
   subst e_
   rfl
 refine hide fun q_ e_=> ?_
 obtain ⟨a,ns,kk,m,rfl,hS,h63,k0,k5,m0,k⟩:=h
 subst e_
 refine ⟨_,ad (ao (i:=3) scD.nd rfl (Or.inl rfl) (fV (aN tG (am av rfl B.le PySem.boot_len (a8 (pv 0) aa)) ai (aR _))
  (aB aH (pv 0) (aA cV (pv 1) (am av rfl B.le PySem.boot_len (a8 (pv 0) aa))) fun _ _=>rfl) ai))
  (ad (ba (PW.pt (iD (aN tG (am av rfl B.le PySem.boot_len (a8 (pv 0) aa)) ai (aR _)) (iC (aN cS (aA cV (aB aH (pv 0) ai fun _ _=>rfl) ai) ai (aR _)))))
   (ad (aZ PassesOwn.never rfl (bX rfl B.ra (a8 (aA cV (aA fi (pv 1) (am av rfl B.le PySem.boot_len (a8 (pv 0) aa))) ai) aa)) (aj (i:=4) scD.nd rfl (Or.inl rfl)) (ah (ao (i:=3) scD.nd rfl (Or.inl rfl) (aA fi (pv 3) ai))))
   (ah (aJ (aA cV (aA cV (aA fi (pv 3) ai) ai) (pv 2))))) aL)
  (ad (ao (i:=5) scD.nd rfl (Or.inl rfl) (aA aY (aA aY (aA cV (pv 3) ai) (aA rH (aA c9 ai (pv 1)) (pv 1))) ai))
  (ah (aJ (aA cV (aA cV (aA c9 (aA cV (aA c9 (pv 5) ai) ai) ai) ai) (pv 2)))))),?_⟩
 by_cases z0:ns.length=0
 · have e0:ns= []:=xE.mp z0
   subst e0
   refine ⟨_,rfl,a,_,rfl, .inl hS,_,0,rfl,rfl,_,rfl,?_⟩
   refine iteF ?_
   refine ⟨_,rfl,a,_,rfl, .inl hS,_,0,rfl,rfl,_,rfl,?_⟩
   refine iteF ?_
   refine iteF ?_
   refine ⟨_,rfl,0,1000003,rfl,rfl,(by show (0:Int) < 1000003;decide),_,rfl,31,kk,rfl,rfl, .inl ⟨by decide,by decide⟩,_,rfl,_,kk,rfl,rfl,⟨iW (by omega) (by omega),iW k0 (by omega)⟩,_,_,rfl,rfl,_,_,rfl,rfl,?_⟩
   refine ⟨_,rfl,_,48271,rfl,rfl, .inr ⟨by decide,by decide⟩,_,999983,rfl,rfl,(by show (0:Int) < 999983;decide),_,7919,rfl,rfl, .inr ⟨by decide,by decide⟩,_,524287,rfl,rfl,(by show (0:Int) < 524287;decide),_,rfl,_,m,rfl,rfl,m0,?_⟩
   exact k _ (Int.emod_nonneg _ (by omega)) (Int.emod_lt_of_pos _ m0)
 · have lp:(0:Int) < (ns.length:Int):=by omega
   obtain ⟨z,hz⟩:=qz (ns:=ns) (i:=kk%(ns.length:Int)) (Int.emod_nonneg _ (by omega)) (Int.emod_lt_of_pos _ lp)
   obtain ⟨y,hy⟩:=qz (ns:=ns) (i:=0) (by omega) lp
   have g0:decide ((0:Int) < (ns.length:Int))=true:=decide_eq_true lp
   refine ⟨_,rfl,a,_,rfl, .inl hS,_,0,rfl,rfl,_,rfl,?_⟩
   rw [wL,g0]
   refine iteT ?_
   refine ⟨_,rfl,_,rfl,_,rfl,a,_,rfl, .inl hS,kk,_,rfl,rfl,(by rw [wL];omega),a,_,kk%(ns.length:Int), .int z,rfl,(by rw [wL]),hS,hz,?_⟩
   refine ⟨_,rfl,a,_,rfl, .inl hS,_,0,rfl,rfl,_,rfl,?_⟩
   rw [wL,g0]
   refine iteT ?_
   refine ⟨_,rfl,a,_,0, .int y,rfl,rfl,hS,hy,_,2,rfl,rfl,(by show (0:Int) < 2;decide),rfl,_,rfl,?_⟩
   refine ite2 (fun _=> ?_) (fun _=> ?_)
   · refine ⟨_,rfl,_,rfl,a,_,rfl, .inl hS,kk,_,rfl,rfl,⟨by rw [wL];omega,by rw [wL];omega⟩,_,60,rfl,rfl,(by show (0:Int) < 60;decide),_,rfl,?_,?_,?_⟩
     · have:=Int.emod_nonneg (kk / ((ns.map V.int).length:Int)) (b:=60) (by decide)
       omega
     · have:=Int.emod_lt_of_pos (kk / ((ns.map V.int).length:Int)) (b:=60) (by decide)
       omega
     refine cb (fun i σ H'=>H'=H∧∃(zz:Int) (vj:Option V),σ= [some (.ref a),some (.int kk),some (.int m),some (.int zz),vj,none]) ⟨rfl,z,none,rfl⟩ ?_ ?_
     · rintro i σ H' hi ⟨rfl,zz,vj,rfl⟩
       refine au ?_
       exact ⟨_,rfl,zz,1000003,rfl,rfl,⟨by decide,by decide⟩,rfl,_,_,rfl⟩
     · rintro σ H' ⟨rfl,zz,vj,rfl⟩
       refine ⟨_,rfl,zz,2,rfl,rfl,⟨by decide,by decide⟩,_,500009,rfl,rfl,(by show (0:Int) < 500009;decide),_,rfl,_,m,rfl,rfl,m0,?_⟩
       exact k _ (Int.emod_nonneg _ (by omega)) (Int.emod_lt_of_pos _ m0)
   · refine ⟨_,rfl,z,1000003,rfl,rfl,(by show (0:Int) < 1000003;decide),_,rfl,31,kk,rfl,rfl, .inl ⟨by decide,by decide⟩,_,rfl,_,kk,rfl,rfl,⟨iW (by omega) (by omega),iW k0 (by omega)⟩,_,_,rfl,rfl,_,_,rfl,rfl,?_⟩
     refine ⟨_,rfl,_,48271,rfl,rfl, .inr ⟨by decide,by decide⟩,_,999983,rfl,rfl,(by show (0:Int) < 999983;decide),_,7919,rfl,rfl, .inr ⟨by decide,by decide⟩,_,524287,rfl,rfl,(by show (0:Int) < 524287;decide),_,rfl,_,m,rfl,rfl,m0,?_⟩
     exact k _ (Int.emod_nonneg _ (by omega)) (Int.emod_lt_of_pos _ m0)
end
end K61
namespace L2
open PySem PySem.Spec PyProof.Rows
section
variable {X:Cx}
end
open PySem PySem.Spec PyProof.Rows
theorem kX (n:Nat):sliceRange ((n:Int) - 1) (-1) (-1)=(List.range n).map fun k=>n - 1 - k:=by
 unfold sliceRange
 simp only [show¬((-1:Int) > 0) by decide,if_false]
 have c:(if (n:Int) - 1 > -1 then ((n:Int) - 1 - (-1) - (-1) - 1) / (-(-1)) else 0).toNat=n:=by
  by_cases z:n=0
  · subst z
    decide
  · rw [if_pos (by omega),show (-(-1:Int))=1 from rfl,Int.ediv_one]
    omega
 rw [c]
 refine List.map_congr_left fun k m=> ?_
 have:=xj.mp m
 omega
theorem qg {α β:Type} {f:α→Option β} {g:α→β}:∀ {l:List α},(∀x∈l,f x=some (g x))→l.filterMap f=l.map g
 | [],_=>rfl
 |x::l,h=>by
  rw [List.filterMap_cons,h x wP,wZ,qg fun y m=>h y (wQ _ m)]
theorem ny (its:List Value):((List.range its.length).map fun k=>its.length - 1 - k).filterMap (fun k=>its.toArray[k]?)=its.reverse:=by
 refine xL fun j=> ?_
 have e:((List.range its.length).map fun k=>its.length - 1 - k).filterMap (fun k=>its.toArray[k]?)=(List.range its.length).map fun k=>its.getD (its.length - 1 - k) Value.none:=by
  rw [List.filterMap_map]
  refine qg fun k m=> ?_
  have:=xj.mp m
  show its.toArray[its.length - 1 - k]?=some (its.getD (its.length - 1 - k) Value.none)
  rw [List.getElem?_toArray,xx,wI (by omega)]
  rfl
 rw [e,wN]
 by_cases hj:j < its.length
 · rw [wI (by rw [x3];exact hj),List.getElem_range,List.getElem?_reverse hj,wI (by omega)]
   show some (its.getD (its.length - 1 - j) Value.none)=_
   rw [xx,wI (by omega)]
   rfl
 · rw [xa (by rw [x3];omega),xa (by rw [xV];omega)]
   rfl
theorem jW (its:List Value):slicePick its.toArray none none (some (-1))=its.reverse.toArray:=by
 rw [←ny]
 unfold slicePick sliceBounds
 simp only [Option.getD_some,show¬((-1:Int) > 0) by decide,if_false,wU]
 rw [kX]
section
variable {X:Cx} {e est:Expr} {te ts:TE} {pos p2:Pos}
def vJ (K:PySem.W.Frag) (te ts:TE):TE:=fun σ H Q=>te σ H fun x H1=>ts σ H1 fun y H2=>∃a xs,x= .ref a∧y= .int (-1)∧SqL K H2 a xs∧∀p,H2 p=none→Q (.ref p) (upd H2 p (.lst xs.reverse))
theorem rF (he:PE X e te) (hs:PE X est ts):PE X (.Subscript e (.Slice none none (some est) p2) pos) (vJ X.K te ts):=by
 intro pins s σ H Q I h
 refine Subscript_ (thn (he pins s σ H _ I h) fun v s1 ⟨x,H1,I1,r1,q1⟩=> ?_)
 refine wpAny_Slice ?_
 rw [evalPart_none]
 refine wpAny_pure (wpAny_pure ?_)
 rw [evalPart_some]
 refine thn (hs pins s1 σ H1 _ I1 q1) fun w2 s2 ⟨y,H2,I2,r2,q2⟩=> ?_
 obtain ⟨a,xs,rfl,rfl,hx,q⟩:=q2
 obtain ⟨tk,rfl⟩:=r2
 cases r1
 have I4:Inv X pins σ H2 {s2 with heap:=s2.heap.push {cls:= .type "slice",data:= .fields #[.none, .none, .int (-1) tk]}}:=I2.kept (t':=s2.toks) fun b ob q=>Heap.get?_push_of_some _ q
 obtain ⟨its,r,ht,hz⟩:=I4.list hx
 have hlen:=r.length
 show wpAny (model X.prog X.w) X.A (subscriptTail e (.Slice none none (some est) p2) (.ref a) (.ref s2.heap.objs.size)) (EP X pins σ Q) X.xe {s2 with heap:=s2.heap.push {cls:= .type "slice",data:= .fields #[.none, .none, .int (-1) tk]}}
 refine tail_any (ops:= [.ref a, .ref s2.heap.objs.size]) ht.isList.typeIs slot_list_getitem.lookup ?_ (by with_unfolding_all rfl)
 refine wpAny_getItem_list_slice ht.isList (Heap.IsSliceOf.new ..) .none .none (.int (-1) tk) (by simp) ?_ (by rw [wU];omega)
 rw [jW]
 refine ⟨.ref _,_,I4.laid (t':=s2.toks) (o:= .lst xs.reverse) (fun b ob q=>Heap.get?_push_of_some _ q) (wO _) ?_,rfl,q _ (I4.hok.fresh (wO _))⟩
 exact ⟨by rw [xV];exact hz,_,0,r.reverse,Heap.get?_push_size _ rfl⟩
end
end L2
namespace St8
open PySem
noncomputable def bts (m:Nat):List Nat:=(List.range 8).filter fun j=>m.testBit j
noncomputable def plc (m:Nat):Array Nat:=(bts m).toArray
def stp (p:Nat×Nat):Nat×Nat:=((p.1*5+1+p.2 / 32)%8,p.2 / 32)
def itn:Nat→Nat×Nat→Nat×Nat
 |0,p=>p
 |n+1,p=>itn n (stp p)
def beg (h:Int):Nat×Nat:=(SetTable.bits h%8,SetTable.bits h)
def sq (h:Int) (k:Nat):Nat:=(itn k (beg h)).1
structure Tb (t:SetTable) (m:Nat):Prop where
 mask:t.mask=7
 place:t.place=plc m
 dum:t.dummies= #[]
 lt:m < 256
theorem dS {l:List Nat} (h:l.Nodup) {i j:Nat} {x:Nat} (h1:l[i]?=some x) (h2:l[j]?=some x):i=j:=by
 obtain ⟨hi,e1⟩:=wK.mp h1
 obtain ⟨hj,e2⟩:=wK.mp h2
 have n:=List.nodup_iff_pairwise_ne.mp h
 rw [xU] at n
 rcases Nat.lt_trichotomy i j with q|q|q
 · exact absurd (e1.trans e2.symm) (n i j hi hj q)
 · exact q
 · exact absurd (e2.trans e1.symm) (n j i hj hi q)
open PySem PySem.Spec PyProof.Rows L2 Tk
structure Sx (prog:Program) (w:World) (h:Heap) (m:Nat) (E:Nat→Int×Value) (kf:Nat→KT):Prop where
 at_:∀j,m.testBit j=true→KAt h (E j).2 (kf j)∧(kf j).depth≤8∧(∃b,(E j).2= .ref b)∧(E j).1=(kf j).hash prog w
 way:∀j,m.testBit j=true→∃k,sq (E j).1 k=j∧∀q,q < k→m.testBit (sq (E j).1 q)=true
 inj:∀i j,m.testBit i=true→m.testBit j=true→kf i=kf j→i=j
structure Si (b0:Bool) (h:Heap) (a:Addr) (m:Nat) (E:Nat→Int×Value) (o:Obj) (es:Array (Int×Value)) (ep:Nat) (t:SetTable):Prop where
 led:t.led=b0
 get:h.get? a=some o
 ex:o.ExactSet
 data:o.data= .set es ep t
 es:es.toList=(bts m).map E
 tb:Tb t m
 n4:(bts m).length≤4
theorem Si.fits {b0:Bool} {h:Heap} {a:Addr} {m:Nat} {E:Nat→Int×Value} {o:Obj} {es:Array (Int×Value)} {ep:Nat} {t:SetTable} (S:Si b0 h a m E o es ep t):t.fits es.size=true:=by
 have h1:es.size=(bts m).length:=by rw [←wX,S.es,wL]
 have h2:=S.n4
 unfold SetTable.fits SetTable.fill
 rw [S.tb.place,S.tb.dum,S.tb.mask,h1]
 simp only [plc,wU,beq_self_eq_true,Bool.true_and,decide_eq_true_eq]
 show (bts m).length+0≤7
 omega
section
variable {prog:Program} {w:World} {A:Around} {X:Value→Shared→Prop} {s:Shared} {a:Addr} {m:Nat} {E:Nat→Int×Value} {kf:Nat→KT} {o:Obj} {es:Array (Int×Value)} {ep:Nat} {t:SetTable} {b0:Bool}
end
open PySem PySem.Spec PyProof.Rows L2 Tk
section
variable {prog:Program} {w:World} {A:Around} {X:Value→Shared→Prop} {s:Shared} {a:Addr} {m:Nat} {E:Nat→Int×Value} {kf:Nat→KT} {o:Obj} {es:Array (Int×Value)} {ep:Nat} {t:SetTable} {b0:Bool}
end
open PySem PySem.Spec PyProof.Rows L2 Tk
theorem ql {prog:Program} {w:World} {A:Around} {X:Value→Shared→Prop} {s:Shared} {src:Source} {n:Nat} {Q:Nat→Shared→Prop} (hn:n≠0) (q:∀i d,i < n→Q i {s with drawn:=d}):wpAny (model prog w) A (choose src n) Q X s:=by
 intro Γ p h
 show Sem.wp _ _ (.choose src n .pure) _ _ _ _
 rw [Sem.wp_choose]
 refine ⟨hn,?_⟩
 rw [Sem.wp_pure]
 exact q _ _ (Nat.mod_lt _ (by omega))
theorem gk {α:Type}:∀(l:List α) (i:Nat) (h:i < l.length),(l[i]::l.eraseIdx i).Perm l
 | [],i,h=>by cases h
 |x::l,0,h=>List.Perm.refl _
 |x::l,i+1,h=>by
  have ih:=gk l i (Nat.lt_of_succ_lt_succ h)
  exact (List.Perm.swap _ _ _).trans (ih.cons x)
theorem order_any {α:Type} {prog:Program} {w:World} {A:Around} {X:Value→Shared→Prop}:∀(n:Nat) (xs:List α) {s:Shared} {Q:List α→Shared→Prop},xs.length=n→(∀ys d,ys.Perm xs→Q ys {s with drawn:=d})→wpAny (model prog w) A (drawOrder n xs) Q X s
 |0,xs,s,Q,hl,q=>by
  unfold drawOrder
  have:xs= []:=xE.mp hl
  subst this
  exact wpAny_pure (q [] s.drawn (List.Perm.refl _))
 |n+1,[],s,Q,hl,q=>by cases hl
 |n+1,x::xs,s,Q,hl,q=>by
  unfold drawOrder
  refine wpAny_bind (ql (by simp) fun i d hi=> ?_)
  rw [wI hi]
  dsimp only
  have el:((x::xs).eraseIdx i).length=n:=by rw [List.length_eraseIdx,if_pos hi,hl];rfl
  refine wpAny_bind (order_any n _ (s:= {s with drawn:=d}) el fun ys d' hp=>wpAny_pure (q _ d' ?_))
  have h1:((x::xs)[i]::ys).Perm ((x::xs)[i]::(x::xs).eraseIdx i):=hp.cons _
  exact h1.trans (gk _ _ hi)
theorem pick_perm {α:Type} (next:Nat→Nat) (xs:Array α):(pickOrder next xs).toList.Perm xs.toList:=by
 have go:∀(fuel k:Nat) (left:List α) (out:Array α),left.length≤fuel→(pickOrder.go next fuel k left out).toList.Perm (out.toList++left):=by
  intro fuel
  induction fuel with
  |zero=>
   intro k left out h
   have:left= []:=xE.mp (by omega)
   subst this
   unfold pickOrder.go
   simp
  |succ fuel ih=>
   intro k left out h
   unfold pickOrder.go
   cases left with
   |nil=>simp
   |cons x l=>
    have hi:next k%(x::l).length < (x::l).length:=Nat.mod_lt _ (by simp)
    rw [wI hi]
    dsimp only
    refine (ih _ _ _ ?_).trans ?_
    · rw [List.length_eraseIdx,if_pos hi]
      simp only [wV] at h ⊢
      omega
    · rw [Array.toList_push,List.append_assoc]
      refine List.Perm.append_left _ ?_
      exact gk _ _ hi
 unfold pickOrder
 have:=go xs.size 0 xs.toList #[] (by simp)
 simpa using this
end St8
namespace Sn
open PySem PySem.Spec PyProof.Rows
def Up (l:List Nat):Prop:=l.Pairwise (· < ·)
theorem Up.le {l:List Nat} (h:Up l) {i j x y:Nat} (hi:l[i]?=some x) (hj:l[j]?=some y) (hij:i≤j):x≤y:=by
 obtain ⟨h1,e1⟩:=wK.mp hi
 obtain ⟨h2,e2⟩:=wK.mp hj
 rcases xk i j with c|c
 · have:=xU.mp h i j h1 h2 c
   omega
 · have:i=j:=by omega
   subst this
   omega
theorem gm (xs:Array Nat) (j:Nat) (up:Up xs.toList):∀(fuel lo hi:Nat),hi - lo≤fuel→lo≤hi→hi≤xs.size→(∀i x,i < lo→xs.toList[i]?=some x→x < j)→(∀i x,hi≤i→xs.toList[i]?=some x→j≤x)→
 SetTable.below.go xs j fuel lo hi≤xs.size∧(∀i x,i < SetTable.below.go xs j fuel lo hi→xs.toList[i]?=some x→x < j)∧(∀i x,SetTable.below.go xs j fuel lo hi≤i→xs.toList[i]?=some x→j≤x)
 |0,lo,hi,hf,h1,h2,h3,h4=>by
  have:lo=hi:=by omega
  subst this
  unfold SetTable.below.go
  exact ⟨h2,h3,h4⟩
 |fuel+1,lo,hi,hf,h1,h2,h3,h4=>by
  unfold SetTable.below.go
  by_cases c:lo < hi
  · rw [if_pos c]
    have hm:(lo+hi) / 2 < xs.size:=by omega
    have em:xs.getD ((lo+hi) / 2) j=xs[(lo+hi) / 2]:=by rw [xZ,xr hm];rfl
    have el:xs.toList[(lo+hi) / 2]?=some xs[(lo+hi) / 2]:=by rw [xg,xr hm]
    dsimp only
    rw [em]
    by_cases d:xs[(lo+hi) / 2] < j
    · rw [if_pos d]
      refine gm xs j up fuel _ _ (by omega) (by omega) h2 (fun i x hi' e=> ?_) h4
      have:=up.le e el (by omega)
      omega
    · rw [if_neg d]
      refine gm xs j up fuel _ _ (by omega) (by omega) (by omega) h3 fun i x hi' e=> ?_
      have:=up.le el e (by omega)
      omega
  · rw [if_neg c]
    have:lo=hi:=by omega
    subst this
    exact ⟨h2,h3,h4⟩
theorem gG {xs:Array Nat} (up:Up xs.toList) (j:Nat):SetTable.below xs j≤xs.size∧(∀i x,i < SetTable.below xs j→xs.toList[i]?=some x→x < j)∧(∀i x,SetTable.below xs j≤i→xs.toList[i]?=some x→j≤x):=by
 unfold SetTable.below
 refine gm xs j up _ _ _ (by omega) (xo _) (wO _) (fun i x h _=>by omega) fun i x h e=> ?_
 have:=(wK.mp e).1
 rw [wX] at this
 omega
theorem nY {xs:Array Nat} (up:Up xs.toList) {j:Nat} (h:¬xs[SetTable.below xs j]?=some j):j∉xs.toList:=by
 intro m
 obtain ⟨i,hi,e⟩:=xf m
 have e':xs.toList[i]?=some j:=by rw [wI hi,e]
 obtain ⟨h1,h2,h3⟩:=gG up j
 rcases xk i (SetTable.below xs j) with c|c
 · have:=h2 i j c e'
   omega
 · have hb:SetTable.below xs j < xs.toList.length:=by omega
   have e2:xs.toList[SetTable.below xs j]?=some xs.toList[SetTable.below xs j]:=wI hb
   have l1:=h3 _ _ (wO _) e2
   have l2:=up.le e2 e' c
   refine h ?_
   rw [←xg,e2]
   congr 1
   omega
theorem uw {t:SetTable} (up:Up t.place.toList) {j:Nat} (h:j∉t.place.toList):Up (t.put j).1.place.toList:=by
 show Up (SetTable.insertAt t.place (SetTable.below t.place j) j).toList
 obtain ⟨h1,h2,h3⟩:=gG up j
 rw [SetTable.toList_insertAt]
 have hs:Up (t.place.toList.take (SetTable.below t.place j)++t.place.toList.drop (SetTable.below t.place j)):=by rw [List.take_append_drop];exact up
 obtain ⟨p1,p2,p3⟩:=List.pairwise_append.mp hs
 refine List.pairwise_append.mpr ⟨p1,List.pairwise_cons.mpr ⟨fun x m=> ?_,p2⟩,fun x m y m'=> ?_⟩
 · obtain ⟨i,e⟩:=xJ.mp m
   rw [List.getElem?_drop] at e
   have:=h3 _ x (by omega) e
   have ne:x≠j:=fun z=>h (z▸wJ e)
   omega
 · obtain ⟨i,e⟩:=xJ.mp m
   have hx:x < j:=by
    rw [List.getElem?_take] at e
    by_cases c:i < SetTable.below t.place j
    · rw [if_pos c] at e
      exact h2 i x c e
    · rw [if_neg c] at e
      cases e
   rcases wY.mp m' with rfl|m'
   · exact hx
   · exact p3 x m y m'
theorem j7 {t:SetTable} (up:Up t.place.toList) {j:Nat} (h:∀i,t.slot j≠ .live i):j∉t.place.toList:=by
 refine nY up fun e=>h (SetTable.below t.place j) ?_
 unfold SetTable.slot
 dsimp only
 rw [e]
 simp
theorem iQ {t:SetTable} {h:Int}:∀(fuel:Nat) (p:SetTable.Probe) (m:SetTable.Met),(∀d,p.dummy=some d→∀i,t.slot d≠ .live i)→SetTable.probe.go t (fun _=>h+1) h fuel p=some m→∃j d,m= .empty j d∧(∀i,t.slot j≠ .live i)∧∀d',d=some d'→∀i,t.slot d'≠ .live i
 |0,p,m,hd,e=>by unfold SetTable.probe.go at e;cases e
 |fuel+1,p,m,hd,e=>by
  unfold SetTable.probe.go at e
  cases c:t.slot p.j with
  |empty=>
   rw [c] at e
   cases e
   exact ⟨_,_,rfl,fun i z=>(by rw [c] at z;cases z),hd⟩
  |dummy=>
   rw [c] at e
   refine iQ fuel _ m (fun d ed=> ?_) e
   have:(t.advance {p with dummy:=some p.j}).dummy=some p.j:=by
    unfold SetTable.advance
    dsimp only
    split<;>rfl
   rw [this] at ed
   cases ed
   intro i z
   rw [c] at z
   cases z
  |live i=>
   rw [c] at e
   have ne:((h+1:Int)==h)=false:=beq_eq_false_iff_ne.mpr (by omega)
   dsimp only at e
   rw [ne] at e
   simp only [xy,if_false] at e
   refine iQ fuel _ m (fun d ed=> ?_) e
   have:(t.advance p).dummy=p.dummy:=by
    unfold SetTable.advance
    dsimp only
    split<;>rfl
   rw [this] at ed
   exact hd d ed
theorem nK {t:SetTable} {h:Int} {j:Nat} {b:Bool} (up:Up t.place.toList) (e:t.freeSlot h=some (j,b)):j∉t.place.toList:=by
 unfold SetTable.freeSlot at e
 cases c:t.probe (fun _=>h+1) h (t.probeStart h) with
 |none=>rw [c] at e;cases e
 |some m=>
  obtain ⟨j',d,rfl,h1,h2⟩:=iQ _ _ m (fun d ed=>by cases ed) c
  rw [c] at e
  cases e
  cases d with
  |none=>exact j7 up h1
  |some d=>exact j7 up (h2 d rfl)
theorem j9 (n:Nat):Up (List.range n):=List.pairwise_lt_range
theorem ot (t:SetTable) (n:Nat):Up (t.standIn n).place.toList:=by
 show Up (Array.range n).toList
 rw [Array.toList_range]
 exact j9 n
structure Tk (b:Bool) (t:SetTable):Prop where
 led:t.led=b
 up:Up t.place.toList
theorem Tk.stand {b:Bool} {t:SetTable} (h:Tk b t) (n:Nat):Tk b (t.standIn n):=⟨h.led,ot t n⟩
theorem Tk.lay {b:Bool} {t:SetTable} (k:Tk b t) (es:Array (Int×Value)) (h:Int) (x:Value):Tk b (layNew t es h x).2.1:=by
 unfold layNew
 cases c:t.freeSlot h with
 |none=>exact k.stand _
 |some p=>
  obtain ⟨j,w⟩:=p
  dsimp only
  unfold SetTable.orStandIn
  have k':Tk b (t.put j).1:=⟨k.led,uw k.up (nK k.up c)⟩
  split
  · exact k'
  · exact k'.stand _
theorem Tk.off {b:Bool} {t:SetTable} (k:Tk b t):Tk b {t with plain:=false}:=⟨k.led,k.up⟩
theorem Tk.relay {b:Bool} {t:SetTable} (k:Tk b t) (es:Array (Int×Value)) (n:Nat):Tk b (relayAll t es n).2.1:=by
 unfold relayAll
 cases c:t.relaid (es.map (·.1)) n with
 |none=>exact k.stand _
 |some p=>
  obtain ⟨t',order⟩:=p
  dsimp only
  split
  · unfold SetTable.relaid SetTable.laid at c
    cases c2:SetTable.layClean (SetTable.sizeAbove n - 1) (es.map (·.1)) with
    |none=>rw [c2] at c;cases c
    |some ow=>
     rw [c2] at c
     cases c
     refine ⟨k.led,?_⟩
     show Up ((((List.range _).filterMap fun j=>(ow.getD j none).map (j, ·)).map (·.1)).toArray).toList
     rw [List.toList_toArray,List.map_filterMap]
     have:∀(m:Nat),Up ((List.range m).filterMap fun j=>((ow.getD j none).map (j, ·)).map (·.1)):=fun m=>by
      refine List.Pairwise.filterMap _ (R:=(· < ·)) (fun a a' hlt b hb b' hb'=> ?_) (j9 m)
      cases h1:ow.getD a none with
      |none=>rw [h1] at hb;cases hb
      |some z=>
       cases h2:ow.getD a' none with
       |none=>rw [h2] at hb';cases hb'
       |some z'=>
        rw [h1] at hb
        rw [h2] at hb'
        cases hb
        cases hb'
        exact hlt
     exact this _
  · exact k.stand _
open PySem PySem.Spec PyProof.Rows
def nOf:Value→Int
 | .int n _=>n
 |_=>0
def Ies (prog:Program) (w:World) (l:List (Int×Value)):Prop:=∀e∈l,∃n t,e=((intKind prog w).hash n, .int n t)
def nums (l:List (Int×Value)):List Int:=l.map fun e=>nOf e.2
structure Es (prog:Program) (w:World) (l:List (Int×Value)) (S:List Int):Prop where
 ies:Ies prog w l
 mem:∀n,n∈nums l↔n∈S
 nd:(nums l).Nodup
 len:l.length≤S.length
def Ni (prog:Program) (w:World) (h:Heap) (a:Addr) (b:Bool) (S:List Int):Prop:=
 ∃o es ep t,h.get? a=some o∧o.ExactSet∧o.data= .set es ep t∧t.fits es.size=true∧Tk b t∧Es prog w es.toList S
section
variable {prog:Program} {w:World} {A:Around} {X:Value→Shared→Prop} {s:Shared} {a:Addr} {b:Bool} {S:List Int}
theorem Ies.els {l:List (Int×Value)} (h:Ies prog w l):ElemsOf (intKind prog w) l:=fun e m=>by
 obtain ⟨n,t,rfl⟩:=h e m
 exact ⟨⟨n,intKind_is _ _ _ _,rfl⟩,rfl⟩
theorem Es.perm {l l':List (Int×Value)} (h:Es prog w l S) (p:l'.Perm l):Es prog w l' S:=
 ⟨fun e m=>h.ies e (p.mem_iff.mp m),fun n=>by rw [←h.mem n];exact (p.map _).mem_iff,(p.map (fun e:Int×Value=>nOf e.2)).nodup_iff.mpr h.nd,by rw [p.length_eq];exact h.len⟩
theorem Es.more {l:List (Int×Value)} (h:Es prog w l S) {n:Int} {tk:Nat} (hn:n∉nums l):Es prog w (l++ [((intKind prog w).hash n, .int n tk)]) (S++ [n]):=by
 have en:nums (l++ [((intKind prog w).hash n,Value.int n tk)])=nums l++ [n]:=by unfold nums;rw [xi];rfl
 refine ⟨fun e m=> ?_,fun k=> ?_,?_,?_⟩
 · rcases x4.mp m with m|m
   · exact h.ies e m
   · rw [wS] at m
     exact ⟨n,tk,m⟩
 · rw [en,x4,x4,h.mem k]
 · rw [en]
   refine xQ.mpr ⟨h.nd,by simp,fun x m y m'=> ?_⟩
   rw [wS] at m'
   subst m'
   exact fun z=>hn (z▸m)
 · have:=h.len
   simp only [wM,x8]
   omega
theorem Es.same {l:List (Int×Value)} (h:Es prog w l S) {n:Int} (hn:n∈nums l):Es prog w l (S++ [n]):=by
 refine ⟨h.ies,fun k=> ?_,h.nd,by have:=h.len;simp only [wM];omega⟩
 rw [x4,h.mem k]
 constructor
 · exact .inl
 · rintro (m|m)
   · exact m
   · rw [wS] at m
     subst m
     exact (h.mem _).mp hn
theorem Ni.store {h:Heap} {o:Obj} {es:Array (Int×Value)} {ep:Nat} {t:SetTable} (ho:h.get? a=some o) (hex:o.ExactSet) (hd:o.data= .set es ep t) {es':Array (Int×Value)} {t':SetTable} (E:Es prog w es'.toList S) (k:Tk b t') (hf:t'.fits es'.size=true):
 (h.update a (Obj.putSet es' t')).get? a=some {o with data:= .set es' (ep+1) t'}∧Ni prog w (h.update a (Obj.putSet es' t')) a b S:=by
 have hg:(h.update a (Obj.putSet es' t')).get? a=some {o with data:= .set es' (ep+1) t'}:=by
  have:=Heap.get?_update_self (Obj.putSet es' t') ho (by rw [putSet_of es' t' hd];rfl)
  rw [putSet_of es' t' hd] at this
  exact this
 exact ⟨hg,_,_,_,_,hg,hex,rfl,hf,k,E⟩
theorem oh {g:Bool→Sem Unit} (hg:∀(c:Bool) (s1:Shared) (Q':Unit→Shared→Prop),Q' () s1→wpAny (model prog w) A (g c) Q' X s1) {o:Obj} {es:Array (Int×Value)} {ep:Nat} {t:SetTable} (ho:s.heap.get? a=some o) (hex:o.ExactSet) (hd:o.data= .set es ep t)
 {es1:Array (Int×Value)} {t2:SetTable} (E:Es prog w es1.toList S) (hb:es1.size < scanBound) (k:Tk b t2) (hf:t2.fits es1.size=true) {wd:Bool} {R:Option Bool→Shared→Prop} (q:∀h',Heap.SameBut a s.heap h'→Ni prog w h' a b S→R (some true) {s with heap:=h'}):
 wpAny (model prog w) A (do
  storeSet a es1 t2
  if (!wd&&t2.tooFull)=true then do
   g (relayAll t2 es1 (SetTable.grown es1.size)).2.2
   storeSet a (relayAll t2 es1 (SetTable.grown es1.size)).1 (relayAll t2 es1 (SetTable.grown es1.size)).2.1
   pure (some true)
   else pure (some true)) R X s:=by
 obtain ⟨ho1,N1⟩:=Ni.store (b:=b) ho hex hd E k hf
 have sb:=Heap.SameBut.update s.heap a (Obj.putSet es1 t2)
 refine wpAny_bind (wpAny_storeSet_of ho hd ?_ (fits_of_scanBound hb))
 split
 · have hp:=relayAll_perm t2 es1 (SetTable.grown es1.size)
   have hfr:=relayAll_fits t2 es1 (SetTable.grown es1.size)
   have kr:=k.relay es1 (SetTable.grown es1.size)
   have hz:(relayAll t2 es1 (SetTable.grown es1.size)).1.size < scanBound:=by rw [←wX,hp.length_eq,wX];exact hb
   refine wpAny_bind (hg _ _ _ ?_)
   refine wpAny_bind (wpAny_storeSet_of ho1 rfl ?_ (fits_of_scanBound hz))
   obtain ⟨_,N2⟩:=Ni.store (b:=b) (a:=a) (o:= {o with data:= .set es1 (ep+1) t2}) ho1 hex rfl (E.perm hp) kr hfr
   exact wpAny_pure (q _ (sb.trans (Heap.SameBut.update _ a _)) N2)
 · exact wpAny_pure (q _ sb N1)
theorem wG {n:Int} {tk:Nat} {Q:Shared→Prop} (N:Ni prog w s.heap a b S) (hS:S.length+1 < scanBound) (q:∀h',Heap.SameBut a s.heap h'→Ni prog w h' a b (S++ [n])→Q {s with heap:=h'}):
 wpAny (model prog w) A (setAddHashed a (.int n tk) ((intKind prog w).hash n)) (fun _ s'=>Q s') X s:=by
 obtain ⟨o,es,ep,t,ho,hex,hd,hf,k,E⟩:=N
 have hel:=E.ies.els
 have hlen:es.size≤S.length:=by rw [←wX];exact E.len
 have hb:es.size < scanBound:=by omega
 have hb1:es.size+1 < scanBound:=by omega
 unfold setAddHashed setAddHashedIn
 refine wpAny_holding (wpAny_bind (wpAny_setState_of ho hd hf ?_))
 dsimp only
 rw [byScan_of (x:= .int n tk) rfl hb hel]
 simp only [↓reduceIte]
 unfold setAddByScan
 refine wpAny_bind ?_
 refine wpAny_bind (wpAny_rule ?_)
 refine wpAny_bind (wpAny_setScan_of (intKind_is _ _ _ _) ho hd hf hel ?_)
 cases hr:List.findIdx? (fun e=>(intKind prog w).is n e.2) es.toList with
 |some j=>
  dsimp only
  obtain ⟨hj,hpj,_⟩:=List.findIdx?_eq_some_iff_getElem.mp hr
  have hm:es.toList[j]∈es.toList:=xz hj
  have hn:n∈nums es.toList:=by
   obtain ⟨m,t',e⟩:=E.ies _ hm
   rw [e] at hpj
   have:n=m:=(intKind prog w).inj _ _ _ hpj (intKind_is _ _ _ _)
   subst this
   exact xq.mpr ⟨_,hm,by rw [e];rfl⟩
  refine wpAny_pure (wpAny_pure ?_)
  exact q s.heap (Heap.SameBut.refl a s.heap) ⟨o,es,ep,t,ho,hex,hd,hf,k,E.same hn⟩
 |none=>
  dsimp only
  have hn:n∉nums es.toList:=fun m=>by
   obtain ⟨e,me,ee⟩:=xq.mp m
   obtain ⟨m',t',rfl⟩:=E.ies e me
   have:m'=n:=ee
   subst this
   have:=List.findIdx?_eq_none_iff.mp hr _ me
   rw [intKind_is] at this
   cases this
  have hp:=layNew_perm t es ((intKind prog w).hash n) (.int n tk)
  have hfl:=layNew_fits t es ((intKind prog w).hash n) (.int n tk)
  have kl:=k.lay es ((intKind prog w).hash n) (.int n tk)
  generalize layNew t es ((intKind prog w).hash n) (.int n tk)=L at hp hfl kl ⊢
  obtain ⟨es1,t1,wd,gave⟩:=L
  dsimp only at hp hfl kl ⊢
  rw [Array.toList_push] at hp
  have E1:Es prog w es1.toList (S++ [n]):=(E.more hn).perm hp
  have hb2:es1.size < scanBound:=by rw [←wX,hp.length_eq,wM,wX];simpa using hb1
  have hgw:∀(c:Bool) (s1:Shared) (Q':Unit→Shared→Prop),Q' () s1→wpAny (model prog w) A (match c with|true=>rule "set.scan.the-table-gave-way"|false=>pure ()) Q' X s1:=
   fun c s1 Q' hq=>by cases c<;>first|exact wpAny_pure hq|exact wpAny_rule hq
  refine wpAny_bind (hgw _ _ _ ?_)
  split
  · refine wpAny_bind ?_
    rw [hashByValue_scannable 8 (x:= .int n tk) rfl]
    refine wpAny_pure ?_
    refine oh (b:=b) (S:=S++ [n]) ?_ ho hex hd E1 hb2 ?_ ?_ ?_
    · exact hgw
    · split
      · exact kl
      · exact kl.off
    · split
      · exact hfl
      · exact SetTable.fits_plain_off hfl
    · intro h' sb N'
      dsimp only
      exact wpAny_pure (q h' sb N')
  · refine wpAny_bind (wpAny_pure ?_)
    simp only [↓reduceIte]
    refine oh (b:=b) (S:=S++ [n]) ?_ ho hex hd E1 hb2 kl hfl ?_
    · exact hgw
    · intro h' sb N'
      dsimp only
      exact wpAny_pure (q h' sb N')
end
open PySem PySem.Spec PyProof.Rows
theorem si_next:Slot "set_iterator" "__next__" "set_iterator.__next__":=
 .of (owner:="set_iterator") (n:="__next__") (by rw [typeLookup_type,builtinLookup_eq_fast];kernel_rfl) (by decide +kernel) (by decide +kernel) (by decide +kernel)
  (by first|exact .inl (by decide +kernel)|exact .inr (by decide +kernel)) (by rw [isSubtype_type];kernel_rfl)
theorem ly:Slot "set_iterator" "__iter__" "set_iterator.__iter__":=
 .of (owner:="set_iterator") (n:="__iter__") (by rw [typeLookup_type,builtinLookup_eq_fast];kernel_rfl) (by decide +kernel) (by decide +kernel) (by decide +kernel)
  (by first|exact .inl (by decide +kernel)|exact .inr (by decide +kernel)) (by rw [isSubtype_type];kernel_rfl)
theorem fk:entryFor table "set_iterator.__next__"=some Builtin.«set_iterator.__next__»:=entryFor_of_tree (by kernel_rfl)
theorem sE:entryFor table "set_iterator.__iter__"=some Builtin.«dict_keyiterator.__iter__»:=
 entryFor_alias (id':="dict_keyiterator.__iter__") (by kernel_rfl) rfl (by decide +kernel) (by kernel_rfl)
theorem jw:entryFor table "set.__iter__"=some Builtin.«frozenset.__iter__»:=
 entryFor_alias (id':="frozenset.__iter__") (by kernel_rfl) rfl (by decide +kernel) (by kernel_rfl)
theorem tz:Manifest.owners.lookup (String.ofList ['r','o','t','a','r','e','t','i','_','t','e','s'].reverse)=some Manifest.sig_set_iterator:=by kernel_rfl
theorem fu (a:Value):argsOk "set_iterator.__next__" ⟨[a],[]⟩:=by
 unfold argsOk;rw [signature?_of (id:="set_iterator.__next__") (n:= ['_','_','t','x','e','n','_','_']) (o:= ['r','o','t','a','r','e','t','i','_','t','e','s']) (by kernel_rfl) tz];kernel_rfl
theorem sM (a:Value):argsOk "set_iterator.__iter__" ⟨[a],[]⟩:=by
 unfold argsOk;rw [signature?_of (id:="set_iterator.__iter__") (n:= ['_','_','r','e','t','i','_','_']) (o:= ['r','o','t','a','r','e','t','i','_','t','e','s']) (by kernel_rfl) tz];kernel_rfl
structure RS (h:Heap) (a:Addr) (es:Array (Int×Value)) (ep:Nat) (t:SetTable):Prop where
 ex:∃o,h.get? a=some o∧o.ExactSet∧o.data= .set es ep t
 fits:t.fits es.size=true
theorem RS.kp {h h':Heap} {a:Addr} {es:Array (Int×Value)} {ep:Nat} {t:SetTable} (x:RS h a es ep t) (e:∀o,h.get? a=some o→h'.get? a=some o):RS h' a es ep t:=by
 obtain ⟨⟨o,h1,h2⟩,f⟩:=x
 exact ⟨⟨o,e o h1,h2⟩,f⟩
def It (h:Heap) (I a:Addr) (first:Value) (i n ep:Nat):Prop:=∃o,h.get? I=some o∧o.cls= .type "set_iterator"∧o.data= .fields #[first, .int i 0, .ref a, .int n 0, .int ep 0]
theorem It.kp {h h':Heap} {I a:Addr} {first:Value} {i n ep:Nat} (x:It h I a first i n ep) (e:∀o,h.get? I=some o→h'.get? I=some o):It h' I a first i n ep:=by
 obtain ⟨o,h1,h2⟩:=x
 exact ⟨o,e o h1,h2⟩
section
variable {prog:Program} {w:World} {A:Around} {E:Value→Shared→Prop} {s:Shared} {a I:Addr} {es:Array (Int×Value)} {ep:Nat} {t:SetTable}
theorem RS.ty (x:RS s.heap a es ep t):s.TypeIs (.ref a) "set":=by
 obtain ⟨⟨o,h1,h2,_⟩,_⟩:=x
 exact ⟨o,h1,h2.1⟩
theorem It.ty {first:Value} {i n:Nat} (x:It s.heap I a first i n ep):s.TypeIs (.ref I) "set_iterator":=by
 obtain ⟨o,h1,h2,_⟩:=x
 exact ⟨o,h1,h2⟩
theorem m8 {first:Value} {i n:Nat} {Q:Value→Shared→Prop} (x:It s.heap I a first i n ep) (q:Q (.ref I) s):wpAny (model prog w) A (pyIter (.ref I)) Q E s:=by
 refine wpAny_pyIter_slot x.ty ly (wpAny_call_entry ly x.ty sE ?_ (sM _))
 show wpAny _ _ (ret (.ref I)) _ _ s
 exact wpAny_pure ⟨_,rfl,"set_iterator",_,x.ty,si_next.lookup,q⟩
theorem rW {k i:Nat} {x:Value} {nx:Nat} {Q:Option Value→Shared→Prop} (hit:It s.heap I a (.int k 0) i es.size ep) (hm:RS s.heap a es ep t)
 (hn:∀(A:Around) (E:Value→Shared→Prop) (R:Option (Value×Nat)→Shared→Prop),R (some (x,nx)) s→wpAny (model prog w) A (setNext a k i ep) R E s)
 (hQ:∀h',It h' I a (.int nx 0) (i+1) es.size ep→Heap.SameBut I s.heap h'→Q (some x) {s with heap:=h'}):wpAny (model prog w) A (pyNext (.ref I)) Q E s:=by
 obtain ⟨o,ho,hc,hd⟩:=id hit
 obtain ⟨⟨od,hod,hcd,hdd⟩,hf⟩:=id hm
 unfold pyNext
 refine wpAny_bind (wpAny_attempt (wpAny_callSpecial?_slot (name:=Str.ofString "__next__") hit.ty si_next (wpAny_call_entry si_next hit.ty fk ?_ (fu _))))
 unfold Builtin.«set_iterator.__next__»
 refine wpAny_bind (wpAny_pure ?_)
 refine wpAny_bind (wpAny_fieldsOf ho hd ?_)
 dsimp only
 refine wpAny_bind (wpAny_setEntries_of hod hdd hf ?_)
 rw [if_neg (by simp)]
 rw [xA,xA,xA]
 refine wpAny_bind (hn _ _ _ ?_)
 dsimp only
 refine wpAny_bind (wpAny_setField ho hd (by simp) ?_)
 have hd1:(Obj.mapFields (·.setIfInBounds 0 (rawInt nx)) o).data= .fields #[.int nx 0, .int i 0, .ref a, .int es.size 0, .int ep 0]:=by rw [Obj.data_mapFields hd];simp [rawInt]
 have hg1:(s.heap.update I (Obj.mapFields (·.setIfInBounds 0 (rawInt nx)))).get? I=some (Obj.mapFields (·.setIfInBounds 0 (rawInt nx)) o):=Heap.get?_update_self _ ho (Obj.isFreed_of_fields hd1)
 refine wpAny_bind (wpAny_setField hg1 hd1 (by simp) ?_)
 refine wpAny_pure ⟨_,rfl,wpAny_pure (hQ _ ⟨_,Heap.get?_update_self _ hg1 (Obj.isFreed_of_fields (Obj.data_mapFields hd1 _)),(Obj.cls_mapFields ..).trans ((Obj.cls_mapFields ..).trans hc),?_⟩ ((Heap.SameBut.update ..).trans (Heap.SameBut.update ..)))⟩
 rw [Obj.data_mapFields hd1]
 simp [rawInt]
theorem or {Q:Option Value→Shared→Prop} {h1:Heap} (hh:A.handled=none) (hs:Heap.SameBut I s.heap h1) (hQ:∀h',Heap.ExtBut I s.heap h'→Q none {s with heap:=h'}):
 wpAny (model prog w) A.in1 (newExc (.type "StopIteration") [] >>=fun e=>raiseNew (α:=Fin) e) (fun fin s'=>∃v,fin=Fin.done (Flow.ret v)∧wpAny (model prog w) A (pure (some v)) Q E s') (fun e s'=>wpAny (model prog w) A (do if (←isInstance e (Value.type "StopIteration"))=true then pure none else throw e) Q E s') {s with heap:=h1}:=by
 refine wpAny_bind ?_
 simp only [newExc,newTuple]
 refine wpAny_bind (wpAny_newObj_type (wpAny_bind (m:=firstArgMember _ _) (wpAny_of_eq (a:=Value.none) (by first|rfl|(simp only [firstArgMember];rfl)) (wpAny_newObj_type ?_ (by size_fits)))) (by size_fits))
 simp only [raiseNew]
 refine wpAny_bind (wpAny_handled ?_)
 rw [show A.in1.handled=none from hh]
 refine wpAny_bind (wpAny_pure (wpAny_throw ?_))
 refine wpAny_bind (wpAny_isInstance (T:="StopIteration") (b:=true) ⟨_,Heap.get?_push_size _ rfl,rfl⟩ isSubtype_stop ?_)
 exact wpAny_pure (hQ _ ((hs.extBut.push _).push _))
theorem vo {k i:Nat} {Q:Option Value→Shared→Prop} (hh:A.handled=none) (hit:It s.heap I a (.int k 0) i es.size ep) (hm:RS s.heap a es ep t)
 (hn:∀(A:Around) (E:Value→Shared→Prop) (R:Option (Value×Nat)→Shared→Prop),R none s→wpAny (model prog w) A (setNext a k i ep) R E s)
 (hQ:∀h',Heap.ExtBut I s.heap h'→Q none {s with heap:=h'}):wpAny (model prog w) A (pyNext (.ref I)) Q E s:=by
 obtain ⟨o,ho,hc,hd⟩:=id hit
 obtain ⟨⟨od,hod,hcd,hdd⟩,hf⟩:=id hm
 unfold pyNext
 refine wpAny_bind (wpAny_attempt (wpAny_callSpecial?_slot (name:=Str.ofString "__next__") hit.ty si_next (wpAny_call_entry si_next hit.ty fk ?_ (fu _))))
 unfold Builtin.«set_iterator.__next__»
 refine wpAny_bind (wpAny_pure ?_)
 refine wpAny_bind (wpAny_fieldsOf ho hd ?_)
 dsimp only
 refine wpAny_bind (wpAny_setEntries_of hod hdd hf ?_)
 rw [if_neg (by simp)]
 rw [xA,xA,xA]
 refine wpAny_bind (hn _ _ _ ?_)
 dsimp only
 refine wpAny_bind (wpAny_setField ho hd (by simp) ?_)
 exact or hh (Heap.SameBut.update ..) hQ
theorem pU {i:Nat} {T:Addr} {oT:Obj} {ps:Array Value} {c p:Nat} {e:Int×Value} {Q:Option Value→Shared→Prop} (hit:It s.heap I a (.ref T) i es.size ep) (hm:RS s.heap a es ep t) (hT:s.heap.get? T=some oT) (hTd:oT.data= .seq ps c)
 (hp:ps[i]?=some (.int p 0)) (he:es[p]?=some e)
 (hQ:∀h',It h' I a (.ref T) (i+1) es.size ep→Heap.SameBut I s.heap h'→Q (some e.2) {s with heap:=h'}):wpAny (model prog w) A (pyNext (.ref I)) Q E s:=by
 obtain ⟨o,ho,hc,hd⟩:=id hit
 obtain ⟨⟨od,hod,hcd,hdd⟩,hf⟩:=id hm
 unfold pyNext
 refine wpAny_bind (wpAny_attempt (wpAny_callSpecial?_slot (name:=Str.ofString "__next__") hit.ty si_next (wpAny_call_entry si_next hit.ty fk ?_ (fu _))))
 unfold Builtin.«set_iterator.__next__»
 refine wpAny_bind (wpAny_pure ?_)
 refine wpAny_bind (wpAny_fieldsOf ho hd ?_)
 dsimp only
 refine wpAny_bind (wpAny_setEntries_of hod hdd hf ?_)
 rw [if_neg (by simp)]
 refine wpAny_bind (wpAny_seqItems hT hTd ?_)
 dsimp only
 rw [xA,hp]
 dsimp only
 refine wpAny_bind ?_
 unfold setNextDrawn
 refine wpAny_bind (wpAny_setState_of hod hdd hf ?_)
 dsimp only
 rw [if_neg (by simp),xA,he]
 dsimp only
 refine wpAny_pure ?_
 refine wpAny_bind (wpAny_setField ho hd (by simp) ?_)
 refine wpAny_pure ⟨_,rfl,wpAny_pure (hQ _ ⟨_,Heap.get?_update_self _ ho (Obj.isFreed_of_fields (Obj.data_mapFields hd _)),(Obj.cls_mapFields ..).trans hc,?_⟩ (Heap.SameBut.update ..))⟩
 rw [Obj.data_mapFields hd]
 simp [rawInt]
theorem rX {i:Nat} {T:Addr} {oT:Obj} {ps:Array Value} {c:Nat} {Q:Option Value→Shared→Prop} (hh:A.handled=none) (hit:It s.heap I a (.ref T) i es.size ep) (hm:RS s.heap a es ep t) (hT:s.heap.get? T=some oT) (hTd:oT.data= .seq ps c)
 (hp:ps[i]?=none) (hQ:∀h',Heap.ExtBut I s.heap h'→Q none {s with heap:=h'}):wpAny (model prog w) A (pyNext (.ref I)) Q E s:=by
 obtain ⟨o,ho,hc,hd⟩:=id hit
 obtain ⟨⟨od,hod,hcd,hdd⟩,hf⟩:=id hm
 unfold pyNext
 refine wpAny_bind (wpAny_attempt (wpAny_callSpecial?_slot (name:=Str.ofString "__next__") hit.ty si_next (wpAny_call_entry si_next hit.ty fk ?_ (fu _))))
 unfold Builtin.«set_iterator.__next__»
 refine wpAny_bind (wpAny_pure ?_)
 refine wpAny_bind (wpAny_fieldsOf ho hd ?_)
 dsimp only
 refine wpAny_bind (wpAny_setEntries_of hod hdd hf ?_)
 rw [if_neg (by simp)]
 refine wpAny_bind (wpAny_seqItems hT hTd ?_)
 dsimp only
 rw [xA,hp]
 dsimp only
 refine wpAny_bind (wpAny_setField ho hd (by simp) ?_)
 have hd1:(Obj.mapFields (·.setIfInBounds 0 (rawInt 0)) o).data= .fields #[.int 0 0, .int i 0, .ref a, .int es.size 0, .int ep 0]:=by rw [Obj.data_mapFields hd];simp [rawInt]
 have hg1:(s.heap.update I (Obj.mapFields (·.setIfInBounds 0 (rawInt 0)))).get? I=some (Obj.mapFields (·.setIfInBounds 0 (rawInt 0)) o):=Heap.get?_update_self _ ho (Obj.isFreed_of_fields hd1)
 refine wpAny_bind (wpAny_setField hg1 hd1 (by simp) ?_)
 exact or (s:=s) hh ((Heap.SameBut.update ..).trans (Heap.SameBut.update ..)) hQ
theorem dI {Q:Bool→Shared→Prop} (q:Q (w.params.followText "set-order") s):wpAny (model prog w) A setsByText Q E s:=by
 unfold setsByText
 exact wpAny_bind (wpAny_askSetting (wpAny_pure q))
theorem gZ {k i:Nat} {R:Option (Value×Nat)→Shared→Prop} (hb:w.params.followText "set-order"=true) (hm:RS s.heap a es ep t) (r:R (((pickOrder (w.params.setOrder a ep) es)[i]?).map fun e=>(e.2,k)) s):wpAny (model prog w) A (setNext a k i ep) R E s:=by
 obtain ⟨⟨od,hod,hcd,hdd⟩,hf⟩:=id hm
 unfold setNext
 refine wpAny_bind (wpAny_setState_of hod hdd hf ?_)
 dsimp only
 refine wpAny_bind (dI ?_)
 rw [hb]
 simp only [if_true]
 rw [if_neg (by simp)]
 refine wpAny_bind ?_
 unfold setWalk
 refine wpAny_bind (wpAny_setState_of hod hdd hf ?_)
 dsimp only
 refine wpAny_bind (dI ?_)
 rw [hb]
 simp only [if_true]
 refine wpAny_bind (wpAny_askSetting (wpAny_pure (wpAny_pure ?_)))
 exact r
theorem fZ {k i:Nat} {R:Option (Value×Nat)→Shared→Prop} (hb:w.params.followText "set-order"=false) (hp:(!t.plain&&decide (es.size > 1))=false) (hl:t.led=true) (hm:RS s.heap a es ep t)
 (r:R (match es[SetTable.below t.place k]?,t.place[SetTable.below t.place k]? with|some (_,x),some j=>some (x,j+1)|_,_=>none) s):wpAny (model prog w) A (setNext a k i ep) R E s:=by
 obtain ⟨⟨od,hod,hcd,hdd⟩,hf⟩:=id hm
 unfold setNext
 refine wpAny_bind (wpAny_setState_of hod hdd hf ?_)
 dsimp only
 refine wpAny_bind (dI ?_)
 rw [hb]
 simp only [xy,if_false]
 show wpAny _ _ (if (!t.plain&&decide (es.size > 1))=true then _ else _) _ _ s
 rw [hp]
 simp only [xy,if_false]
 show wpAny _ _ ((if (!t.led&& !es.isEmpty)=true then _ else pure ()) >>=_) _ _ s
 rw [hl]
 simp only [Bool.not_true,Bool.false_and,xy,if_false]
 refine wpAny_bind (wpAny_pure (wpAny_pure ?_))
 exact r
end
open PySem PySem.Spec PyProof.Rows
noncomputable def kk (p:Array Nat) (i:Nat):Nat:=if i=0 then 0 else p.getD (i - 1) 0+1
theorem jK {p:Array Nat} (up:Up p.toList) {i:Nat} (hi:i≤p.size):SetTable.below p (kk p i)=i:=by
 obtain ⟨h1,h2,h3⟩:=gG up (kk p i)
 unfold kk at h1 h2 h3 ⊢
 by_cases z:i=0
 · subst z
   simp only [if_true] at h1 h2 h3 ⊢
   rcases Nat.eq_zero_or_pos (SetTable.below p 0) with e|e
   · exact e
   · have hl:0 < p.toList.length:=by rw [wX];omega
     have:=h2 0 p.toList[0] (by omega) (wI hl)
     omega
 · simp only [if_neg z] at h1 h2 h3 ⊢
   have hl:i - 1 < p.toList.length:=by rw [wX];omega
   have eg:p.getD (i - 1) 0=p.toList[i - 1]:=by
    rw [xZ,←xg,wI hl]
    rfl
   generalize SetTable.below p (p.getD (i - 1) 0+1)=q at h1 h2 h3 ⊢
   rcases Nat.lt_trichotomy q i with c|c|c
   · have:=h3 (i - 1) _ (by omega) (wI hl)
     omega
   · exact c
   · have hl':i < p.toList.length:=by rw [wX];omega
     have h4:=h2 i _ c (wI hl')
     have h5:=xU.mp up (i - 1) i hl hl' (by omega)
     omega
section
variable {prog:Program} {w:World} {A:Around} {E:Value→Shared→Prop} {s:Shared} {a I:Addr} {es:Array (Int×Value)} {ep:Nat} {t:SetTable}
def NxS (prog:Program) (w:World) (a:Addr) (es:Array (Int×Value)) (ep:Nat) (t:SetTable) (vs:List Value) (kf:Nat→Nat):Prop:=
 (∀i v,vs[i]?=some v→∀(A:Around) (E:Value→Shared→Prop) (s:Shared) (R:Option (Value×Nat)→Shared→Prop),RS s.heap a es ep t→R (some (v,kf (i+1))) s→wpAny (model prog w) A (setNext a (kf i) i ep) R E s)∧
 (∀(A:Around) (E:Value→Shared→Prop) (s:Shared) (R:Option (Value×Nat)→Shared→Prop),RS s.heap a es ep t→R none s→wpAny (model prog w) A (setNext a (kf vs.length) vs.length ep) R E s)
theorem rN (hb:w.params.followText "set-order"=true):NxS prog w a es ep t ((pickOrder (w.params.setOrder a ep) es).toList.map (·.2)) fun _=>0:=by
 refine ⟨fun i v hv A E s R hm r=>gZ hb hm ?_,fun A E s R hm r=>gZ hb hm ?_⟩
 · rw [wN] at hv
   obtain ⟨e,he,rfl⟩:=x5.mp hv
   rw [←xg,he]
   exact r
 · rw [←xg,wL,xa (wO _)]
   exact r
theorem pj (hb:w.params.followText "set-order"=false) (hp:(!t.plain&&decide (es.size > 1))=false) (k:Tk true t) (hf:t.fits es.size=true):NxS prog w a es ep t (es.toList.map (·.2)) (kk t.place):=by
 have hz:t.place.size=es.size:=by
  unfold SetTable.fits at hf
  simp only [xD,beq_iff_eq] at hf
  exact hf.1
 refine ⟨fun i v hv A E s R hm r=>fZ hb hp k.led hm ?_,fun A E s R hm r=>fZ hb hp k.led hm ?_⟩
 · rw [wN] at hv
   obtain ⟨e,he,rfl⟩:=x5.mp hv
   have hi:i < es.size:=by
    have:=(wK.mp he).1
    rw [wX] at this
    exact this
   rw [jK k.up (by omega),←xg,he,xr (by omega:i < t.place.size)]
   have:kk t.place (i+1)=t.place[i]+1:=by
    unfold kk
    rw [if_neg (by omega),Nat.add_sub_cancel,xZ,xr (by omega:i < t.place.size)]
    rfl
   rw [this] at r
   obtain ⟨h0,x⟩:=e
   exact r
 · rw [wL,wX,jK k.up (by omega),Array.getElem?_eq_none (wO _)]
   exact r
theorem sY {vs:List Value} {kf:Nat→Nat} (N:NxS prog w a es ep t vs kf) (hl:vs.length=es.size) (hh:A.handled=none) (hne:a≠I):
 Walks prog w A I [I,a] [I] es.size (fun i v=>vs[i]?=some v) (fun i h=>It h I a (.int (kf i) 0) i es.size ep∧RS h a es ep t) where
 sub:=fun b hb=>by simp at hb;simp [hb]
 frame:=fun _ _ _ st hk=>⟨st.1.kp fun o e=>hk I (by simp) o e,st.2.kp fun o e=>hk a (by simp) o e⟩
 item:=fun i s Q E hi st hQ=>by
  have hv:vs[i]?=some vs[i]:=wI (by omega)
  refine rW (x:=vs[i]) (nx:=kf (i+1)) st.1 st.2 (fun A E R r=>N.1 i _ hv A E s R st.2 r) fun h' hit' hs'=> ?_
  exact hQ _ h' s.toks hv ⟨hit',st.2.kp fun o e=>hs'.extBut a o hne e⟩ fun b o hb e=>hs'.extBut b o (fun h=>hb (by simp [h])) e
 done:=fun s Q E st hQ=>vo hh st.1 st.2 (fun A E R r=>by rw [←hl];exact N.2 A E s R st.2 r) fun h' he'=>hQ h' s.toks fun b o hb e=>he' b o (fun h=>hb (by simp [h])) e
 self:=fun _ _ _ _ st hQ=>m8 st.1 hQ
noncomputable def tupO (ys:List Nat):Obj:= {cls:= .type "tuple",data:= .seq (ys.map fun (i:Nat)=>rawInt i).toArray}
theorem vz {T:Addr} {ys:List Nat} (hy:ys.Perm (List.range es.size)) (hh:A.handled=none) (hne:a≠I) (hnT:T≠I):
 Walks prog w A I [I,a,T] [I] es.size (fun i v=>∃p,ys[i]?=some p∧(es[p]?.map (·.2))=some v) (fun i h=>It h I a (.ref T) i es.size ep∧RS h a es ep t∧h.get? T=some (tupO ys)) where
 sub:=fun b hb=>by simp at hb;simp [hb]
 frame:=fun _ _ _ st hk=>⟨st.1.kp fun o e=>hk I (by simp) o e,st.2.1.kp fun o e=>hk a (by simp) o e,hk T (by simp) _ st.2.2⟩
 item:=fun i s Q E hi st hQ=>by
  have hl:ys.length=es.size:=by rw [hy.length_eq,x3]
  have hv:ys[i]?=some ys[i]:=wI (by omega)
  have hp:ys[i] < es.size:=xj.mp (hy.mem_iff.mp (xz _))
  refine pU (e:=es[ys[i]]) (p:=ys[i]) st.1 st.2.1 st.2.2 rfl ?_ (xr hp) fun h' hit' hs'=> ?_
  · rw [List.getElem?_toArray,wN,hv]
    rfl
  · exact hQ _ h' s.toks ⟨_,hv,by rw [xr hp];rfl⟩ ⟨hit',st.2.1.kp fun o e=>hs'.extBut a o hne e,hs'.extBut T _ hnT st.2.2⟩ fun b o hb e=>hs'.extBut b o (fun h=>hb (by simp [h])) e
 done:=fun s Q E st hQ=>by
  have hl:ys.length=es.size:=by rw [hy.length_eq,x3]
  refine rX hh st.1 st.2.1 st.2.2 rfl ?_ fun h' he'=>hQ h' s.toks fun b o hb e=>he' b o (fun h=>hb (by simp [h])) e
  rw [List.getElem?_toArray,wN,xa (by omega)]
  rfl
 self:=fun _ _ _ _ st hQ=>m8 st.1 hQ
noncomputable def itO (a:Addr) (first:Value) (n ep:Nat):Obj:= {cls:= .type "set_iterator",data:= .fields #[first, .int 0 0, .ref a, .int n 0, .int ep 0]}
theorem oK {Q:Value→Shared→Prop} (hm:RS s.heap a es ep t) (hz:es.size≤sizeLine)
 (q1:(!(w.params.followText "set-order")&& (!t.plain&&decide (es.size > 1)))=false→Q (.ref s.heap.objs.size) {s with heap:=s.heap.push (itO a (.int 0 0) es.size ep)})
 (q2:∀ys d,ys.Perm (List.range es.size)→Q (.ref (s.heap.objs.size+1)) {s with heap:=(s.heap.push (tupO ys)).push (itO a (.ref s.heap.objs.size) es.size ep),drawn:=d}):wpAny (model prog w) A (pyIter (.ref a)) Q E s:=by
 obtain ⟨⟨od,hod,hcd,hdd⟩,hf⟩:=id hm
 refine wpAny_pyIter_slot hm.ty F.slot_set_iter (wpAny_call_entry F.slot_set_iter hm.ty jw (A:=A) ?_ (F.args_set_iter_1 _))
 unfold Builtin.«frozenset.__iter__»
 refine wpAny_bind (m:=Builtin.Frozenset.slot0 _ _) ?_
 show wpAny _ _ (pure a) _ _ s
 refine wpAny_pure (wpAny_bind ?_)
 unfold Builtin.Frozenset.sizeOf
 refine wpAny_bind (wpAny_setEntries_of hod hdd hf (wpAny_pure ?_))
 refine wpAny_bind ?_
 unfold setDrawn
 refine wpAny_bind (wpAny_setState_of hod hdd hf ?_)
 dsimp only
 refine wpAny_bind (dI (wpAny_pure ?_))
 show wpAny _ _ (if (!(w.params.followText "set-order")&& (!t.plain&&decide (es.size > 1)))=true then _ else _) _ _ s
 by_cases c:(!(w.params.followText "set-order")&& (!t.plain&&decide (es.size > 1)))=true
 · rw [if_pos c]
   refine wpAny_bind (St8.order_any _ _ (by rw [x3]) fun ys d hp=> ?_)
   unfold newTuple
   refine wpAny_bind (wpAny_newObj_type (s:= {s with drawn:=d}) ?_ ?_)
   · refine wpAny_bind (wpAny_setEpoch_of (s:= {s with drawn:=d,heap:=s.heap.push (tupO ys)}) (Heap.get?_push_of_some _ hod) hdd hf ?_)
     unfold newFields
     refine wpAny_bind (wpAny_newObj_type (s:= {s with drawn:=d,heap:=s.heap.push (tupO ys)}) ?_ (by size_fits))
     have q:=q2 ys d hp
     have e:(s.heap.push (tupO ys)).objs.size=s.heap.objs.size+1:=Heap.size_push ..
     refine wpAny_pure ⟨_,rfl,"set_iterator",_,⟨_,Heap.get?_push_size _ rfl,rfl⟩,si_next.lookup,?_⟩
     rw [e]
     exact q
   · have e:(ys.map fun (i:Nat)=>rawInt i).toArray.size=es.size:=by rw [wU,wL,hp.length_eq,x3]
     show (ys.map fun (i:Nat)=>rawInt i).toArray.size≤sizeLine
     rw [e]
     exact hz
 · rw [if_neg c]
   refine wpAny_bind (wpAny_pure ?_)
   refine wpAny_bind (wpAny_setEpoch_of hod hdd hf ?_)
   unfold newFields
   refine wpAny_bind (wpAny_newObj_type ?_ (by size_fits))
   refine wpAny_pure ⟨_,rfl,"set_iterator",_,⟨_,Heap.get?_push_size _ rfl,rfl⟩,si_next.lookup,?_⟩
   exact q1 (by simpa using c)
theorem oM {Q:Bool→Shared→Prop} (hT:s.TypeIs (.ref a) "set") (h:Q false s):wpAny (model prog w) A (Builtin.List.listLengthHint (.ref a)) Q E s:=by
 unfold Builtin.List.listLengthHint
 refine wpAny_bind (wpAny_specialOf hT PySem.F.slot_set_len.lookup ?_)
 generalize hid:("set.__len__":String)=id0
 wp_delta
 rw [show splitId id0=some ("set","__len__") from by subst hid;decide +kernel]
 subst hid
 refine wpAny_bind (wpAny_isInstance (T:="set") (b:=true) hT (by rw [isSubtype_type];kernel_rfl) ?_)
 refine wpAny_ite_split (fun hab=>absurd hab (by decide)) (fun _=> ?_)
 refine wpAny_ite_split (fun _=> ?_) (fun hab=>absurd (by decide +kernel) hab)
 refine wpAny_bind (wpAny_typeOf hT ?_)
 exact wpAny_pure h
end
open PySem PySem.Spec PyProof.Rows
theorem cK {α:Type}:∀l:List α,(l.map some).filterMap id=l
 | []=>rfl
 |x::l=>by simp [cK l]
theorem m6 {vs:List Value} {acc:Array Value} {n:Nat} (hl:vs.length=n) (h:ItemsOf (fun i v=>vs[i]?=some v) acc n):acc.toList=vs:=by
 refine xL fun j=> ?_
 by_cases hj:j < n
 · have hj':j < acc.size:=by rw [h.1];exact hj
   rw [xg,h.2 j acc[j] (by simp [hj']),xr hj']
 · rw [xa (by rw [wX,h.1];omega),xa (by omega)]
theorem rV {es:Array (Int×Value)} {ys:List Nat} {acc:Array Value} (hy:ys.Perm (List.range es.size)) (h:ItemsOf (fun i v=>∃p,ys[i]?=some p∧(es[p]?.map (·.2))=some v) acc es.size):acc.toList.Perm (es.toList.map (·.2)):=by
 have hl:ys.length=es.size:=by rw [hy.length_eq,x3]
 have e:acc.toList.map some=ys.map fun p=>es[p]?.map (·.2):=by
  refine xL fun j=> ?_
  rw [wN,wN]
  by_cases hj:j < es.size
  · have hj':j < acc.size:=by rw [h.1];exact hj
    obtain ⟨p,e1,e2⟩:=h.2 j acc[j] (by simp [hj'])
    rw [xg,xr hj',e1]
    show some (some acc[j])=some (es[p]?.map (·.2))
    rw [e2]
  · rw [xa (by rw [wX,h.1];omega),xa (by omega)]
    rfl
 have e2:(List.range es.size).map (fun p=>es[p]?.map (·.2))=(es.toList.map (·.2)).map some:=by
  refine xL fun j=> ?_
  rw [wN,wN,wN]
  by_cases hj:j < es.size
  · rw [wI (by rw [x3];exact hj),List.getElem_range,xg,xr hj]
    show some (es[j]?.map (·.2))=_
    rw [xr hj]
    rfl
  · rw [xa (by rw [x3];omega),xa (by rw [wX];omega)]
    rfl
 have p1:=hy.map fun p=>es[p]?.map (·.2)
 rw [←e,e2] at p1
 have p2:=p1.filterMap id
 rw [cK,cK] at p2
 exact p2
section
variable {prog:Program} {w:World} {A:Around} {E:Value→Shared→Prop} {s:Shared} {a I:Addr} {es:Array (Int×Value)} {ep:Nat} {t:SetTable}
theorem RS.lt {h:Heap} (x:RS h a es ep t):a < h.objs.size:=by
 obtain ⟨⟨o,h1,_⟩,_⟩:=x
 exact Heap.lt_size h1
theorem sx {R:Result→Shared→Prop} (hh:A.handled=none) (hm:RS s.heap a es ep t) (k:Tk (!(w.params.followText "set-order")) t) (hz:es.size≤sizeLine) (S:Addr) (hSa:S≠a) (res:Value) (c0:Nat) (hS:s.heap.get? S=some {cls:= .type "list",data:= .seq #[] c0})
 (hR:∀h' tk d (acc:Array Value) c',(∀b o,b≠S→s.heap.get? b=some o→h'.get? b=some o)→h'.get? S=some {cls:= .type "list",dict:=none,data:= .seq acc c',slots:= #[]}→acc.toList.Perm (es.toList.map (·.2))→R (.ok (.ret res)) {s with heap:=h',toks:=tk,drawn:=d}):
 wpAny (model prog w) A.in1 (Builtin.List.listExtendWith (.ref S) (.ref a) res)
  (fun fin s'=>match fin with| .done f=>R (.ok f) s'| .again c'=>c'.quiet=true∧codeAny (model prog w) A c' R s') (fun e s'=>R (.error e) s') s:=by
 have ha:=hm.lt
 have hSl:S < s.heap.objs.size:=Heap.lt_size hS
 have hit:∀(E':Value→Shared→Prop) (Q:Value→Shared→Prop),(∀I fp P St h2 d,Walks prog w A.in1 I fp [I] es.size P St→S∉fp→s.heap.objs.size≤I→St 0 h2→(∀b o,s.heap.get? b=some o→h2.get? b=some o)→(∀acc:Array Value,ItemsOf P acc es.size→acc.toList.Perm (es.toList.map (·.2)))→Q (.ref I) {s with heap:=h2,drawn:=d})→wpAny (model prog w) A.in1 (pyIter (.ref a)) Q E' s:=by
  intro E' Q q
  refine oK hm hz (fun c=> ?_) fun ys d hp=> ?_
  · have hk:∀o,s.heap.get? a=some o→(s.heap.push (itO a (.int 0 0) es.size ep)).get? a=some o:=fun o e=>Heap.get?_push_of_some _ e
    have hnS:S∉ [s.heap.objs.size,a]:=by simp only [wY,xc,or_false,not_or];exact ⟨wW hSl,hSa⟩
    cases b:w.params.followText "set-order" with
    |true=>
     have hp:=(St8.pick_perm (w.params.setOrder a ep) es).map (·.2)
     have hl:((pickOrder (w.params.setOrder a ep) es).toList.map (·.2)).length=es.size:=by rw [hp.length_eq,wL,wX]
     refine q _ _ _ _ _ s.drawn (sY (es:=es) (ep:=ep) (t:=t) (rN b) hl hh (wW ha)) hnS (wO _) ⟨⟨_,Heap.get?_push_size _ rfl,rfl,rfl⟩,hm.kp hk⟩ (fun b o e=>Heap.get?_push_of_some _ e) fun acc hi=> ?_
     rw [m6 hl hi]
     exact hp
    |false=>
     rw [b] at c k
     have hl:(es.toList.map (·.2)).length=es.size:=by rw [wL,wX]
     refine q _ _ _ _ _ s.drawn (sY (es:=es) (ep:=ep) (t:=t) (pj b (by simpa using c) k hm.fits) hl hh (wW ha)) hnS (wO _) ⟨⟨_,Heap.get?_push_size _ rfl,rfl,rfl⟩,hm.kp hk⟩ (fun b o e=>Heap.get?_push_of_some _ e) fun acc hi=> ?_
     rw [m6 hl hi]
  · have hsz:(s.heap.push (tupO ys)).objs.size=s.heap.objs.size+1:=Heap.size_push ..
    have hnS:S∉ [s.heap.objs.size+1,a,s.heap.objs.size]:=by simp only [wY,xc,or_false,not_or];exact ⟨wW (xP hSl),hSa,wW hSl⟩
    refine q (s.heap.objs.size+1) _ _ _ _ d (vz (es:=es) (ep:=ep) (t:=t) (T:=s.heap.objs.size) hp hh (wW (xP ha)) (wW (Nat.lt_succ_self _))) hnS (Nat.le_succ _) ⟨⟨itO a (.ref s.heap.objs.size) es.size ep,?_,rfl,rfl⟩,hm.kp fun o e=>Heap.get?_push_of_some _ (Heap.get?_push_of_some _ e),Heap.get?_push_of_some _ (Heap.get?_push_size _ rfl)⟩ (fun b o e=>Heap.get?_push_of_some _ (Heap.get?_push_of_some _ e)) fun acc hi=>rV hp hi
    rw [←hsz]
    exact Heap.get?_push_size _ rfl
 unfold Builtin.List.listExtendWith
 refine wpAny_bind (wpAny_typeOf (T:="set") hm.ty ?_)
 have h1:Builtin.List.listSameRef (.ref S) (.ref a)=false:=by simp [Builtin.List.listSameRef,hSa]
 have h2:(Value.type "set"==Value.type "list")=false:=by decide
 have h3:(Value.type "set"==Value.type "tuple")=false:=by decide
 simp only [h1,h2,h3,Bool.or_false,xy,if_false]
 refine wpAny_bind (hit _ _ fun I fp P St h2 d W hSf hI st kp hacc=> ?_)
 have hSI:S≠I:=wW (xb hSl hI)
 have key:∀(h:Heap) (c1 tk:Nat),St 0 h→(∀b o,b≠S→s.heap.get? b=some o→h.get? b=some o)→h.get? S=some {cls:= .type "list",data:= .seq #[] c1}→
  codeAny (model prog w) A (.builtin "list.extend.loop" ⟨[.ref S, .ref I,res],[]⟩) R {s with heap:=h,toks:=tk,drawn:=d}:=by
  intro h c1 tk hst hk hS1
  refine codeAny_extend_loopS W.toS hz S hSf res es.size 0 {s with heap:=h,toks:=tk,drawn:=d} #[] c1 rfl (xo _) hst hS1 (ItemsOf.nil _) fun s' acc' c' hmv hS' hi=> ?_
  rw [Moved.eq_with hmv]
  refine hR s'.heap s'.toks d acc' c' (fun b o hb e=>hmv.heap b o (fun hmem=> ?_) (hk b o hb e)) hS' (hacc _ hi)
  rcases wY.mp hmem with e'|hmem
  · exact hb e'
  · rw [wS] at hmem
    exact absurd (Heap.lt_size e) (by rw [hmem];exact Nat.not_lt.mpr hI)
 have hS1:=kp _ _ hS
 refine wpAny_bind (wpAny_holding (oM (RS.ty (s:= {s with heap:=h2,drawn:=d}) (hm.kp fun o e=>kp _ _ e)) ?_))
 refine wpAny_ite_split (fun _=> ?_) (fun _=>wpAny_pure ⟨plainId_quiet PySem.F.plain_extend_loop _,key _ c0 _ st (fun b o _ e=>kp _ _ e) hS1⟩)
 refine wpAny_bind (wpAny_rule ?_)
 refine wpAny_bind ?_
 show wpAny _ _ (updateSeq S (·.push .none) >>=fun _=>updateSeq S (·.pop)) _ _ _
 refine wpAny_bind (wpAny_updateSeq hS1 rfl ?_)
 have hS2:=Heap.get?_update_self (Obj.mapSeq (·.push Value.none)) hS1 rfl
 refine wpAny_updateSeq (hz:=by seq_fits) hS2 rfl ?_
 have hS3:=Heap.get?_update_self (Obj.mapSeq (·.pop)) hS2 rfl
 refine wpAny_pure ⟨plainId_quiet PySem.F.plain_extend_loop _,key _ _ _ ?_ (fun b o hb e=> ?_) hS3⟩
 · refine W.frame 0 _ _ st fun b hb o e=> ?_
   have hbS:b≠S:=fun h=>hSf (h▸hb)
   exact (Heap.get?_update_other _ _ (Ne.symm hbS)).trans ((Heap.get?_update_other _ _ (Ne.symm hbS)).trans e)
 · exact (Heap.get?_update_other _ _ (Ne.symm hb)).trans ((Heap.get?_update_other _ _ (Ne.symm hb)).trans (kp _ _ e))
theorem jE {Q:List Value→Shared→Prop} (hh:A.handled=none) (hm:RS s.heap a es ep t) (k:Tk (!(w.params.followText "set-order")) t) (hz:es.size≤sizeLine)
 (hQ:∀h' tk d (vs:List Value),(∀b o,s.heap.get? b=some o→h'.get? b=some o)→s.heap.objs.size < h'.objs.size→vs.Perm (es.toList.map (·.2))→Q vs {s with heap:=h',toks:=tk,drawn:=d}):wpAny (model prog w) A (collect (.ref a)) Q E s:=by
 have ha:=hm.lt
 unfold collect
 refine wpAny_bind (wpAny_runValue (codeAny_builtin PySem.F.entry_proto_collect ?_))
 rw [Around.under_plainId PySem.F.plain_proto_collect _]
 show wpAny _ A.in1 (newList [] >>=fun l=>again (.builtin "list.__iadd__" ⟨[l, .ref a],[]⟩)) _ _ s
 refine wpAny_bind (wpAny_newObj_type (wpAny_pure ⟨plainId_quiet PySem.F.plain_list_iadd _,codeAny_builtin PySem.F.entry_list_iadd ?_⟩))
 rw [Around.under_plainId PySem.F.plain_list_iadd _]
 have hS:(s.heap.push {cls:= .type "list",data:= .seq ([]:List Value).toArray}).get? s.heap.objs.size=some {cls:= .type "list",data:= .seq ([]:List Value).toArray}:=Heap.get?_push_size _ rfl
 show wpAny _ A.in1 (Builtin.List.listExtendWith (.ref s.heap.objs.size) (.ref a) (.ref s.heap.objs.size)) _ _ _
 refine sx (R:=fun r' s'=>match r' with
  | .ok (.ret v)=>wpAny (model prog w) A (match v with
   | .ref a=>do match (←load a).data with
    | .seq xs _=>pure xs.toList
    |_=>unsupported "internal:collect"
   |_=>unsupported "internal:collect") Q E s'
  | .ok _=>False
  | .error e=>E e s') (s:= {s with heap:=s.heap.push {cls:= .type "list",data:= .seq ([]:List Value).toArray}}) hh (hm.kp fun o e=>Heap.get?_push_of_some _ e) k hz _ (Nat.ne_of_gt ha) _ _ hS fun h' tk d acc' c' hk hS' hacc=> ?_
 show wpAny _ A (load s.heap.objs.size >>=_) _ _ _
 refine wpAny_bind (wpAny_load hS' (wpAny_pure (hQ h' tk d acc'.toList (fun b o e=>hk b o (wW (Heap.lt_size e)) (Heap.get?_push_of_some _ e)) (Heap.lt_size hS') hacc)))
end
open PySem PySem.Spec PyProof.Rows Srt
section
variable {prog:Program} {w:World} {A:Around} {E:Value→Shared→Prop} {s:Shared} {a I:Addr} {b:Bool} {S:List Int}
theorem md:∀(vs:List Value),(∀v∈vs,∃n t,v= .int n t)→IntsAre vs (vs.map nOf)
 | [],_=> .nil
 |v::vs,h=>by
  obtain ⟨n,t,rfl⟩:=h v (.head _)
  exact .cons n t (md vs fun x m=>h x (.tail _ m))
theorem sorted_set {Q:Value→Shared→Prop} (hh:A.handled=none) (N:Ni prog w s.heap a (!(w.params.followText "set-order")) S) (h60:∀n∈S,0≤n∧n < 60)
 (h:∀(vs:List Value) (ns:List Int) h' tk d D e,IntsAre vs ns→ns.Pairwise (· < ·)→(∀n,n∈ns↔n∈S)→(∀b o,s.heap.get? b=some o→h'.get? b=some o)→s.heap.objs.size≤D→h'.get? D=some (seqObj "list" vs.toArray e)→Q (.ref D) {s with heap:=h',toks:=tk,drawn:=d}):
 wpAny (model prog w) A (call (.builtin "sorted") [.ref a]) Q E s:=by
 obtain ⟨o,es,ep,t,ho,hex,hd,hf,k,Ee⟩:=N
 have hlen:es.size < 64:=by
  have h1:(nums es.toList).length≤((List.range 60).map fun (i:Nat)=>(i:Int)).length:=Fm.sub_len Ee.nd fun n m=>by
   have:=h60 n ((Ee.mem n).mp m)
   exact xq.mpr ⟨n.toNat,xj.mpr (by omega),by omega⟩
  unfold nums at h1
  rw [wL,wX,wL,x3] at h1
  omega
 have hz:es.size≤sizeLine:=by rw [sizeLine_eq];omega
 refine Calls.call_function_entry kind_sorted plain_sorted entry_sorted (args_sorted1 _) ?_
 unfold Builtin.«sorted»
 refine wpAny_bind (m:=checkCount "sorted" 1 1 _) (wpAny_pure (wpAny_bind (jE (A:=A.in1) hh ⟨⟨o,ho,hex,hd⟩,hf⟩ k hz fun h1 tk d vs k1 sz hp=> ?_)))
 have hvl:vs.length=es.size:=by rw [hp.length_eq,wL,wX]
 refine wpAny_bind (wpAny_newList (s:= {s with heap:=h1,toks:=tk,drawn:=d}) ?_ (by rw [sizeLine_eq];omega))
 have hoL:(h1.push (seqObj "list" vs.toArray 0)).get? h1.objs.size=some (seqObj "list" vs.toArray 0):=Heap.get?_push_size _ rfl
 have keep:∀b o,s.heap.get? b=some o→(h1.push (seqObj "list" vs.toArray 0)).get? b=some o∧b≠h1.objs.size:=fun b o q=>⟨Heap.get?_push_of_some _ (k1 b o q),wW (Heap.lt_size (k1 b o q))⟩
 have hI:IntsAre vs (vs.map nOf):=md vs fun v m=>by
  obtain ⟨e,me,rfl⟩:=xq.mp (hp.mem_iff.mp m)
  obtain ⟨n,t',rfl⟩:=Ee.ies e me
  exact ⟨n,t',rfl⟩
 have hpn:(vs.map nOf).Perm (nums es.toList):=by
  have:=hp.map nOf
  rw [List.map_map] at this
  exact this
 show wpAny _ _ _ _ _ {s with heap:=h1.push (seqObj "list" vs.toArray 0),toks:=tk,drawn:=d}
 refine wpAny_bind (wpAny_holding (wpAny_call_entry slot_list_sort ⟨_,hoL,rfl⟩ entry_list_sort (list_sort_tree (s:= {s with heap:=h1.push (seqObj "list" vs.toArray 0),toks:=tk,drawn:=d}) hoL hI (by omega) fun out ns' a1 a2 a3=>⟨_,rfl,?_⟩) (args_list_sort _)))
 obtain ⟨e,he⟩:=sortedHeap_at (out:=out) hoL
 have p2:=a2.trans hpn
 have nd:ns'.Nodup:=p2.nodup_iff.mpr Ee.nd
 refine wpAny_pure ⟨_,rfl,h out.toList ns' _ tk d _ e a1 ?_ (fun n=>by rw [p2.mem_iff];exact Ee.mem n) (fun b o q=> ?_) (xX sz) he⟩
 · refine (a3.and nd).imp fun {x y} h=> ?_
   have:=h.1
   have:=h.2
   omega
 · rw [sortedHeap_old (keep b o q).2 (Heap.lt_size (keep b o q).1)]
   exact (keep b o q).1
theorem Ni.kp {h h':Heap} (N:Ni prog w h a b S) (e:∀o,h.get? a=some o→h'.get? a=some o):Ni prog w h' a b S:=by
 obtain ⟨o,es,ep,t,ho,r⟩:=N
 exact ⟨o,es,ep,t,e o ho,r⟩
end
section
variable {prog:Program} {w:World} {A:Around} {R:Result→Shared→Prop} {I:Addr} {fp wr:List Addr} {G:Array GenState→Array GenState→Prop} {n:Nat} {P:Nat→Value→Prop} {St:Nat→Shared→Prop} {b:Bool}
theorem uV (W:WalksS prog w A.in1 I fp wr G n P St) (S:Addr) (hSf:S∉fp) (val:Nat→Int) (hval:∀i v,P i v→∃t,v= .int (val i) t) (hb:n+1 < scanBound):
 ∀(k i:Nat) (s:Shared),n - i=k→i≤n→St i s→Ni prog w s.heap S b ((List.range i).map val)→
  (∀s',Moved (S::wr) G s s'→Ni prog w s'.heap S b ((List.range n).map val)→R (.ok (.ret .none)) s')→codeAny (model prog w) A (.builtin "set.update.loop" ⟨[.ref S, .ref I],[]⟩) R s:=by
 have hSw:S∉wr:=fun h=>hSf (W.sub _ h)
 have hsub:∀b∈wr,b∈S::wr:=fun b hb=>wQ _ hb
 intro k
 induction k with
 |zero=>
  intro i s hk hi hst N hR
  have hin:i=n:=by omega
  subst hin
  refine codeAny_builtin F.entry_set_update_loop ?_
  rw [Around.under_plainId F.plain_set_update_loop _]
  show wpAny _ A.in1 (pyNext (.ref I) >>=_) _ _ s
  refine wpAny_bind (W.done s _ _ hst fun s' hm=> ?_)
  show wpAny _ A.in1 (ret Value.none) _ _ s'
  exact wpAny_pure (hR s' (hm.mono hsub) (N.kp fun o e=>hm.heap S _ hSw e))
 |succ k ih=>
  intro i s hk hi hst N hR
  have hlt:i < n:=by omega
  refine codeAny_builtin F.entry_set_update_loop ?_
  rw [Around.under_plainId F.plain_set_update_loop _]
  show wpAny _ A.in1 (pyNext (.ref I) >>=_) _ _ s
  refine wpAny_bind (W.item i s _ _ hlt hst fun v s' hP hst' hm=> ?_)
  obtain ⟨t,rfl⟩:=hval i v hP
  show wpAny _ A.in1 (holding [Value.int (val i) t] (setAdd S (.int (val i) t)) >>=_) _ _ s'
  refine wpAny_bind (wpAny_holding ?_)
  unfold setAdd
  refine wpAny_holding ?_
  refine wpAny_bind ((intKind prog w).pyHash (k:=val i) (intKind_is _ _ _ _) ?_)
  refine wpAny_mono (wG (s:= {s' with toks:=s'.toks+1}) (n:=val i) (tk:=t) (b:=b) (S:=(List.range i).map val) (Q:=fun s2=>_) (N.kp fun o e=>hm.heap S _ hSw e) (by rw [wL,x3];omega) fun h' hsb N2=> ?_) (fun _ s2 h=>h) fun _ _ h=>h
  have N3:Ni prog w h' S b ((List.range (i+1)).map val):=by rw [List.range_succ,xi];exact N2
  refine wpAny_pure ⟨plainId_quiet F.plain_set_update_loop _,ih (i+1) _ (by omega) hlt (W.frame _ s' _ _ hst' (Nat.le_succ _) fun b hb o e=> ?_) N3 fun s'' hm'' hS''=> ?_⟩
  · rw [hsb.2 b (fun h:b=S=>hSf (by rw [←h];exact hb))];exact e
  · refine hR s'' (Moved.trans W.gtrans ((hm.mono hsub).then_heap (Nat.le_succ _) fun b o hb e=> ?_) hm'') hS''
    rw [hsb.2 b (fun h:b=S=>hb (by rw [h];exact wP))];exact e
end
open PySem PySem.Spec PyProof.Rows
section
variable {prog:Program} {w:World} {A:Around} {E:Value→Shared→Prop} {s:Shared}
noncomputable def dm (b:Bool):Obj:= {cls:= .type "set",dict:=none,data:= .set #[] 0 (.fresh 0 0 b)}
theorem wn (a:Value) {Q₁:Value→Shared→Prop} (h:Q₁ (.ref s.heap.objs.size) {s with heap:=s.heap.push (dm (!(w.params.followText "set-order")))}):
 codeAny (model prog w) A (.call (.builtin "set.__new__") ⟨[.type "set",a],[]⟩) (wants Q₁ E) s:=by
 refine codeAny_of_tree ?_
 show wpAny _ A.in1 (do checkBuiltinCall "set.__new__" ⟨[.type "set",a],[]⟩;again (.builtin "set.__new__" ⟨[.type "set",a],[]⟩)) _ _ s
 refine wpAny_bind (wpAny_of_eq (F.newCall_set_1 a) (wpAny_pure ⟨plainId_quiet F.plain_set_new _,codeAny_builtin F.entry_set_new ?_⟩))
 rw [Around.under_plainId F.plain_set_new _]
 unfold Builtin.«set.__new__» Builtin.Frozenset.newClass
 have hsub:=sub_set_self
 obtain ⟨hp,g,d,tk,os⟩:=s
 dsimp only
 wp_walk
 refine wpAny_askSetting (wpAny_pure ?_)
 dsimp only
 simp only [newObj]
 refine wpAny_bind (wpAny_alloc (wpAny_pure ?_))
 exact wpAny_pure h
theorem set_list {l:Addr} {items:Array Value} {ns:List Int} {Q:Value→Shared→Prop} (hh:A.handled=none) (hl:s.heap.IsList l items) (hi:IntsAre items.toList ns) (hb:items.size+1 < scanBound)
 (h:∀(h':Heap) (tk:Nat),Ni prog w h' s.heap.objs.size (!(w.params.followText "set-order")) ((List.range items.size).map fun i=>ns.getD i 0)→(∀b o,b < s.heap.objs.size→s.heap.get? b=some o→h'.get? b=some o)→Q (.ref s.heap.objs.size) {s with heap:=h',toks:=tk}):
 wpAny (model prog w) A (call (.type "set") [.ref l]) Q E s:=by
 generalize hB:(!(w.params.followText "set-order"))=B at h
 obtain ⟨c,tl,hmro⟩:=F.called_set.mro
 have hmade:=F.called_set.made
 have hsub:=F.called_set.sub
 refine wpAny_call (codeAny_of_tree ?_)
 show wpAny _ _ (callAny (.type "set") _) _ _ _
 refine wpAny_pure ⟨Code.quiet_builtin _ (by decide +kernel),codeAny_builtin F.entry_type_call ?_⟩
 rw [Around.under_plain (weight_type_call_type "set" [.ref l] []) rfl]
 have h1:=F.called_set.notType
 have h2:=F.called_set.canCreate
 have hct:=F.typeCall_set_1 (.ref l)
 repeat (any_goals (first|assumption|wp_step))
 refine codeAny_mono (wn (.ref l) (E:=E) (Q₁:=fun obj s₁=>obj= .ref s.heap.objs.size∧s₁= {s with heap:=s.heap.push (dm B)}) ⟨rfl,by rw [hB]⟩) fun r s₁ hr=> ?_
 cases r with
 |error e=>exact hr
 |ok fl=>
  cases fl with
  |ret obj=>
   obtain ⟨rfl,rfl⟩:=hr
   have hS:(s.heap.push (dm B)).get? s.heap.objs.size=some (dm B):=Heap.get?_push_size _ rfl
   have hT:Shared.TypeIs {s with heap:=s.heap.push (dm B)} (.ref s.heap.objs.size) "set":=⟨_,hS,rfl⟩
   have hli:=F.called_set.init.lookup
   have hbi:=F.called_set.init.bind (.ref s.heap.objs.size)
   repeat (any_goals (first|assumption|wp_step))
   refine codeAny_mono (codeAny_call_builtin (R:=wants (fun r s₂=>r= .none∧∃h' tk,s₂= {s with heap:=h',toks:=tk}∧Ni prog w h' s.heap.objs.size B ((List.range items.size).map fun i=>ns.getD i 0)∧
    (∀b o,b < s.heap.objs.size→s.heap.get? b=some o→h'.get? b=some o)) E) F.called_set.init.plain F.entry_set_init (check_set_init_1 hT ?_)) fun r₂ s₂ hr₂=> ?_
   · obtain ⟨ol,hol,hcl,nl,hdl⟩:=hl
     obtain ⟨ocls,odict,odata,oslots⟩:=ol
     simp only at hcl hdl
     subst hcl;subst hdl
     have hol':(s.heap.push (dm B)).get? l=some {cls:= .type "list",dict:=odict,data:= .seq items nl,slots:=oslots}:=Heap.get?_push_of_some _ hol
     have hsls:=F.sub_list_set
     have hslf:=F.sub_list_frozenset
     have hne:(Value.type "list"==Value.type "dict")=false:=by decide
     have hl1:(s.heap.push (dm B)).IsList l items:=⟨_,hol',rfl,nl,rfl⟩
     unfold dm at*
     unfold Builtin.«set.__init__» noKeywords Builtin.Frozenset.updateFrom
     generalize hPI:pyIter=PI
     wp_walk
     subst hPI
     refine wpAny_pyIter_list hl1 ?_
     refine wpAny_bind (wpAny_runValue ?_)
     have hlS:l < s.heap.objs.size:=Heap.lt_size hol
     have hh3:A.in1.in1.in1.handled=none:=by simp [hh]
     have hneI:l≠(s.heap.push {cls:= .type "set",dict:=none,data:= .set #[] 0 (.fresh 0 0 B)}).objs.size:=by
      rw [Heap.size_push];exact wW (xP hlS)
     have hSf:s.heap.objs.size∉ [(s.heap.push {cls:= .type "set",dict:=none,data:= .set #[] 0 (.fresh 0 0 B)}).objs.size,l]:=by
      rw [Heap.size_push];simp only [wY,wS,xc,or_false,not_or]
      exact ⟨wW (Nat.lt_succ_self _),Nat.ne_of_gt hlS⟩
     have hval:∀(i:Nat) (v:Value),items[i]?=some v→∃t,v= .int ((fun i=>ns.getD i 0) i) t:=fun i v hv=>
      IntsAre.int_at hi i v (by rw [xg];exact hv)
     refine uV (b:=B) ((Walks.list hh3 _ l hneI items).toS) s.heap.objs.size hSf (fun i=>ns.getD i 0) hval hb (items.size - 0) 0 _ (by omega) (xo _)
      ⟨⟨_,Heap.get?_push_size _ rfl,rfl,rfl⟩,(hl1.push _)⟩ ?hS0 ?hR
     case hS0=>
      refine ⟨_, #[],0,_,Heap.get?_push_of_some _ hS,⟨rfl,rfl,rfl⟩,rfl,by rfl,⟨rfl,List.Pairwise.nil⟩,⟨fun e m=>(nomatch m),fun n=> ?_,xO,wO _⟩⟩
      exact Iff.rfl
     case hR=>
      intro s' hm hS'
      obtain ⟨h',g',d',tk',os'⟩:=s'
      have eg:g'=s.gens:=hm.gens
      have ed:d'=s.drawn:=hm.drawn
      have eo:os'=s.os:=hm.os
      subst eg;subst ed;subst eo
      show wpAny _ _ _ _ _ _
      refine wpAny_pure ?_
      show wpAny _ _ (ret Value.none) _ _ _
      refine wpAny_pure ⟨rfl,h',tk',rfl,hS',fun b o hb e=> ?_⟩
      have hb1:b≠s.heap.objs.size:=wW hb
      have hb2:b≠(s.heap.push {cls:= .type "set",dict:=none,data:= .set #[] 0 (.fresh 0 0 B)}).objs.size:=by
       rw [Heap.size_push];exact wW (xP hb)
      exact hm.heap b o (by simp only [wY,wS,xc,or_false,not_or];exact ⟨hb1,hb2⟩) (Heap.get?_push_of_some _ (Heap.get?_push_of_some _ e))
   · cases r₂ with
     |error e=>exact hr₂
     |ok fl₂=>
      cases fl₂ with
      |ret r=>
       obtain ⟨rfl,h',tk,rfl,hS',hk'⟩:=hr₂
       repeat (any_goals (first|assumption|wp_step))
       exact h _ _ hS' hk'
      |_=>exact hr₂.elim
  |_=>exact hr.elim
end
end Sn
namespace Tre
open PySem PySem.Spec PyProof.Rows L2
section
variable {X:Cx}
theorem pS {pins:List (Addr×Obj)} {σ:L2.St} {H:Hp} {s:Shared} {A:Around} {ts us:List Tr} {vs ws:List V} {as bs:List Value} (I:Inv X pins σ H s) (hu:A.units+42 < cLine) (h1:TrsAt H vs ts) (h2:TrsAt H ws us) (hp:Trs.pure ts∨Trs.pure us) (hd:Trs.depth ts≤40) (r1:Vals vs as) (r2:Vals ws bs)
 (j:Nat) (g1:j < as.toArray.size) (g2:j < bs.toArray.size):SeqAt.EqAt A s as.toArray[j] bs.toArray[j] (eqJ ts us j):=by
 have l1:=h1.len
 have l2:=h2.len
 have l3:=r1.length
 have l4:=r2.length
 have h1':j < as.length:=by simpa using g1
 have h2':j < bs.length:=by simpa using g2
 have t1:ts[j]?=some (ts[j]'(by omega)):=wI _
 have t2:us[j]?=some (us[j]'(by omega)):=wI _
 obtain ⟨v,e1,a1⟩:=h1.get t1
 obtain ⟨w,e2,a2⟩:=h2.get t2
 obtain ⟨u1,e3,q1⟩:=r1.get e1
 obtain ⟨u2,e4,q2⟩:=r2.get e2
 have z1:as.toArray[j]=u1:=by rw [List.getElem_toArray];rw [wI h1'] at e3;exact wT e3
 have z2:bs.toArray[j]=u2:=by rw [List.getElem_toArray];rw [wI h2'] at e4;exact wT e4
 rw [z1,z2,qj t1 t2]
 refine im I 40 ?_ ?_ a1 a2 q1 q2 (by omega)
 · have:=bx (wJ t1)
   omega
 · rcases hp with hp|hp
   · exact .inl (dc hp (wJ t1))
   · exact .inr (dc hp (wJ t2))
end
end Tre
namespace L2
open PySem PySem.Spec PyProof.Rows
section
variable {X:Cx}
end
end L2
namespace Tre
open PySem PySem.Spec PyProof.Rows L2
section
variable {X:Cx}
def rEqL (b:Bool):R2:=fun x y H Q=>∃l m vs ws ts us,x= .ref l∧y= .ref m∧H l=some (.lst vs)∧H m=some (.lst ws)∧TrsAt H vs ts∧TrsAt H ws us∧(Trs.pure ts∨Trs.pure us)∧Trs.depth ts≤40∧Q (.bl (eqTs ts us==b)) H
theorem qh {ts us:List Tr} (h:ts.length≠us.length):eqTs ts us=false:=by
 rw [dX,Bool.and_eq_false_iff]
 right
 simp [h]
theorem pH {A:Around} {pins:List (Addr×Obj)} {σ:L2.St} {H:Hp} {s:Shared} {l m:Addr} {vs ws:List V} {ts us:List Tr} (hu:A.units+50 < cLine) (I:Inv X pins σ H s) (h1:H l=some (.lst vs)) (h2:H m=some (.lst ws)) (k1:TrsAt H vs ts) (k2:TrsAt H ws us) (hp:Trs.pure ts∨Trs.pure us) (hd:Trs.depth ts≤40):
 SeqAt.RcAt A s (.ref l) (.ref m) (eqTs ts us)∧SeqAt.RcNeAt A s (.ref l) (.ref m) (!eqTs ts us):=by
 obtain ⟨as,r1,p1,_⟩:=I.list (SqL.of h1)
 obtain ⟨bs,r2,p2,_⟩:=I.list (SqL.of h2)
 have l1:=k1.len
 have l2:=k2.len
 have l3:=r1.length
 have l4:=r2.length
 by_cases z:ts.length=us.length
 · have hsz:as.toArray.size=bs.toArray.size:=by rw [wU,wU];omega
   have he:=fun j (g1:j < as.toArray.size) (g2:j < bs.toArray.size)=>pS (A:=A.in1) I (by show A.units+1+42 < cLine;omega) k1 k2 hp hd r1 r2 j g1 g2
   have a1:=SeqAt.RcAt.lists (A:=A) (e:=eqJ ts us) p1.isList p2.isList hsz (by omega) he
   have a2:=SeqAt.RcNeAt.lists (A:=A) (e:=eqJ ts us) p1.isList p2.isList hsz (by omega) he
   have e:(List.range as.toArray.size).all (eqJ ts us)=eqTs ts us:=by
    rw [dX,←z,Nat.min_self]
    have:as.toArray.size=ts.length:=by rw [wU];omega
    rw [this]
    simp
   rw [e] at a1 a2
   exact ⟨a1,a2⟩
 · have hsz:(as.toArray.size !=bs.toArray.size)=true:=by
    rw [wU,wU]
    simp only [bne_iff_ne,ne_eq]
    omega
   rw [qh z]
   exact ⟨SeqAt.RcAt.lists_lengths p1.isList p2.isList hsz (by omega),SeqAt.RcNeAt.lists_lengths p1.isList p2.isList hsz (by omega)⟩
theorem uB (hu:X.A.units+60 < cLine):OpR X (compareOp .NotEq) (rEqL false):=by
 intro pins s σ H x y v u Q I rx ry h
 obtain ⟨l,m,vs,ws,ts,us,rfl,rfl,h1,h2,k1,k2,hp,hd,q⟩:=h
 cases rx
 cases ry
 rw [mU] at q
 exact (pH (A:=X.A) (by omega) I h1 h2 k1 k2 hp hd).2 X.prog X.w X.xe _ ⟨.bl (!eqTs ts us),H,I,rfl,q⟩
end
open PySem PySem.Spec PyProof.Rows L2
section
variable {X:Cx}
end
open PySem PySem.Spec PyProof.Rows L2
open PySem PySem.Spec PySem.W PyProof.Rows L2 Srt
section
variable {X:Cx}
inductive RwAt (H:Hp):List Addr→List (List Tr)→Prop
 |nil:RwAt H [] []
 |cons {r:Addr} {rs:List Addr} {vs:List V} {ts:List Tr} {rows:List (List Tr)}:H r=some (.lst vs)→TrsAt H vs ts→RwAt H rs rows→RwAt H (r::rs) (ts::rows)
end
end Tre
namespace L2
open PySem PySem.Spec PyProof.Rows Sn
noncomputable def sN (P:Program) (w:World) (a:Addr) (S:List Int):HO:= .ext fun h=>Ni P w h a (!(w.params.followText "set-order")) S
section
variable {X:Cx} {pins:List (Addr×Obj)} {σ:St} {H:Hp} {s:Shared}
theorem Inv.drew {d:_} (I:Inv X pins σ H s):Inv X pins σ H {s with drawn:=d}:=
 ⟨I.ok,I.os,I.bare,I.base,I.loc,I.cell,I.free,I.freeC,I.pin,I.hok,I.len⟩
theorem hX:∀ {ns:List Int} {as:List Value},Vals (ns.map V.int) as→IntsAre as ns
 | [],_,h=>by cases h;exact .nil
 |n::ns,_,h=>by
  cases h with
  |cons r h=>
   obtain ⟨t,rfl⟩:=r
   exact .cons n t (hX h)
theorem fw:∀ {ns:List Int} {as:List Value},IntsAre as ns→Vals (ns.map V.int) as
 |_,_, .nil=> .nil
 |_,_, .cons n t h=> .cons ⟨t,rfl⟩ (fw h)
theorem jY (ns:List Int):((List.range ns.length).map fun i=>ns.getD i 0)=ns:=by
 refine xL fun j=> ?_
 rw [wN]
 by_cases hj:j < ns.length
 · rw [wI (by rw [x3];exact hj),List.getElem_range,wI hj]
   show some (ns.getD j 0)=_
   rw [xx,wI hj]
   rfl
 · rw [xa (by rw [x3];omega),xa (by omega)]
   rfl
def vX (P:Program) (w:World):List V→Hp→VK→Prop:=fun xs H Q=>∃(l:Addr) (ns:List Int),xs= [.ref l]∧H l=some (.lst (ns.map V.int))∧ns.length < 4000∧∀D,H D=none→Q (.ref D) (upd H D (sN P w D ns))
theorem nU (hc:X.calm=true):cy X (.type "set") (vX X.prog X.w):=by
 intro pins s σ H xs us Q I r h
 obtain ⟨l,ns,rfl,hl,hn,q⟩:=h
 obtain ⟨u,rfl,ru⟩:=dw r
 cases ru
 obtain ⟨as,rv,pl,_⟩:=I.list (SqL.of hl)
 have hI:=hX rv
 have hlen:as.length=ns.length:=by rw [←rv.length,wL]
 refine Sn.set_list (items:=as.toArray) (ns:=ns) (I.ok.hd hc) pl.isList (by simpa using hI) (by rw [wU,hlen];unfold scanBound;omega) fun h' tk N kp=> ?_
 have e0:((List.range as.toArray.size).map fun i=>ns.getD i 0)=ns:=by rw [show as.toArray.size=ns.length from (by rw [wU,hlen]),jY]
 rw [e0] at N
 have kp':∀b o,s.heap.get? b=some o→h'.get? b=some o:=fun b o e=>kp b o (Heap.lt_size e) e
 refine ⟨.ref s.heap.objs.size,upd H s.heap.objs.size (sN X.prog X.w s.heap.objs.size ns),I.laid (t':=tk) kp' (wO _) ⟨N,?_,fun h1 h2 N1 e=>N1.kp e⟩,rfl,q _ (I.hok.fresh (wO _))⟩
 obtain ⟨o,es,ep,t,ho,_⟩:=N
 exact ⟨o,ho⟩
def oW (P:Program) (w:World):List V→Hp→VK→Prop:=fun xs H Q=>∃(a:Addr) (S:List Int),xs= [.ref a]∧H a=some (sN P w a S)∧(∀n∈S,0≤n∧n < 60)∧∀(D:Addr) (ns:List Int),H D=none→ns.Pairwise (· < ·)→(∀n,n∈ns↔n∈S)→Q (.ref D) (upd H D (.lst (ns.map V.int)))
theorem iV (hc:X.calm=true):cy X (.builtin "sorted") (oW X.prog X.w):=by
 intro pins s σ H xs us Q I r h
 obtain ⟨a,S,rfl,hH,h60,q⟩:=h
 obtain ⟨u,rfl,ru⟩:=dw r
 cases ru
 obtain ⟨N,_,_⟩:=(show ObjOk X.prog X.w H s.heap a (sN X.prog X.w a S) from I.hok a _ hH)
 refine Sn.sorted_set (I.ok.hd hc) N h60 fun vs ns h' tk d D e hI up hmem kp hD he=> ?_
 have hvl:vs.length=ns.length:=hI.length
 have hnl:ns.length≤60:=by
  have nd:ns.Nodup:=up.imp fun h=>Int.ne_of_lt h
  have h1:=Fm.sub_len (U:=(List.range 60).map fun (i:Nat)=>(i:Int)) nd fun n m=>by
   have:=h60 n ((hmem n).mp m)
   exact xq.mpr ⟨n.toNat,xj.mpr (by omega),by omega⟩
  rw [wL,x3] at h1
  exact h1
 refine ⟨.ref D,upd H D (.lst (ns.map V.int)),(I.laid (t':=tk) kp hD ?_).drew (d:=d),rfl,q D ns (I.hok.fresh hD) up hmem⟩
 refine ⟨?_,vs,e,fw hI,he⟩
 rw [wL]
 have:(64:Nat)≤sizeLine:=by decide +kernel
 omega
end
end L2
namespace K61
open PySem L2 Mth Tre Wd Su Tw Fm
section
variable {P:Program} {w:World} {K:PySem.W.Frag} {mg:Str→Option Value} {base:Heap}
theorem Bds.rev {H:Hp} {vs:List V} {l:List Rz.Bd} (h:Bds H vs l):Bds H vs.reverse l.reverse:=by
 refine ⟨by rw [xV,xV,h.1],fun i p e=> ?_⟩
 have hi:i < l.length:=by
  have:=(wK.mp e).1
  rw [xV] at this
  exact this
 rw [List.getElem?_reverse hi] at e
 obtain ⟨v,a,b⟩:=h.2 _ p e
 exact ⟨v,by rw [List.getElem?_reverse (by rw [h.1];exact hi),h.1];exact a,b⟩
def oy:Sp:=fun vs H Q _=>∃(lb:Addr) (bv:List V) (ks:List Rz.Bd) (n x y:Nat),vs= [.ref lb, .int x, .int y]∧H lb=some (.lst bv)∧Bds H bv ks∧ks.length≤64∧n≤64∧(∀q∈ks,q.1 < n∧q.2.1 < n)∧x < n∧y < n∧Rz.Con ks x y∧
 ∀D wv ws (ord:Nat→Nat) H',H D=none→Same H H'→H' D=some (.lst wv)→Bds H' wv ws→Rz.Way ks x y ws→(∀st∈ws,ord st.1 < ord st.2.1)→ws.length < n→Q (.ref D) H'
theorem scWay:aM ["bonds","one","other","beside","left","right","place","came","waiting","part","bond","way"] ["bonds","one","other"] (ag sWay):=⟨rfl,rfl,rfl,by decide +kernel,rfl,by decide +kernel,by decide +kernel⟩
theorem uC {f:Addr} {fd:FuncData} (F:Fun K "way_between" "way_between" sWay f fd) (B:Blt mg):FnOk P w K mg base CX0 2 f fd ["bonds","one","other"] oy:=by
 refine F.ok scWay (fun vs H Q E h=> ?_) (fun cdv A outer s H vs Q E hr h=> ?_)
 · refine hide fun q_ e_=> ?_
   obtain ⟨lb,bv,ks,n,x,y,rfl,_⟩:=h
   subst e_
   rfl
 refine hide fun q_ e_=> ?_
 obtain ⟨lb,bv,ks,n,x,y,rfl,hlb,hB,hk64,hn64,hks,hx,hy,hcon,k⟩:=h
 subst e_
 have hu:(A.deeper (PyProof.Rows.envOfC "way_between" (ag sWay) s.heap.objs.size f cdv)).units+1 < cLine:=by have:=hr.un;omega
 refine ⟨_,ad (ao (i:=3) scWay.nd rfl (Or.inl rfl) dR)
  (ad (aZ PassesOwn.never rfl (aP (pv 0)) (cE (n:=3) rfl (aG (aj (i:=4) scWay.nd rfl (Or.inl rfl)) (aG (aj (i:=5) scWay.nd rfl (Or.inl rfl)) (aG (aj (i:=6) scWay.nd rfl (Or.inl rfl)) c6))))
   (ad (bf (cG PySem.F.plainAttrs_list PySem.F.slot_list_append PySem.F.type_list_append aT (cG PySem.F.plainAttrs_dict PySem.F.slot_dict_setdefault PySem.F.type_dict_setdefault dy (pv 3) (a8 (pv 4) (a8 (bE aa) aa))) (a8 (bn (a8 (pv 4) (a8 (pv 5) (a8 (pv 6) aa)))) aa)))
   (ah (bf (cG PySem.F.plainAttrs_list PySem.F.slot_list_append PySem.F.type_list_append aT (cG PySem.F.plainAttrs_dict PySem.F.slot_dict_setdefault PySem.F.type_dict_setdefault dy (pv 3) (a8 (pv 5) (a8 (bE aa) aa))) (a8 (bn (a8 (pv 5) (a8 (pv 4) (a8 (pv 6) aa)))) aa))))))
  (ad (ao (i:=7) scWay.nd rfl (Or.inl rfl) (rD (jb (pv 1) kg lH) rfl rfl (by decide) (by decide)))
  (ad (ao (i:=8) scWay.nd rfl (Or.inl rfl) (bE (a8 (pv 1) aa)))
  (ad (df PassesOwn.never (dQ (pv 8) fun _=>rfl)
   (ad (ao (i:=9) scWay.nd rfl (Or.inl rfl) (iG PySem.F.plainAttrs_list PySem.F.slot_list_pop PySem.F.type_list_pop pA (pv 8)))
   (ah (aZ PassesOwn.never rfl (aP (pb hu (pv 3) (pv 9) (bE aa) ⟨rfl,rfl,rfl,rfl⟩)) (aj (i:=10) scWay.nd rfl (Or.inl rfl))
    (ah (ba (eC (eD hu (aB aW (pv 10) ai fun _ _=>rfl) (pv 7)) (by with_unfolding_all rfl))
     (ad (cU hu (pv 7) (aB aW (pv 10) ai fun _ _=>rfl) (pv 10) rfl)
     (ah (bf (cG PySem.F.plainAttrs_list PySem.F.slot_list_append PySem.F.type_list_append aT (pv 8) (a8 (aB aW (pv 10) ai fun _ _=>rfl) aa))))) aL))))))
  (ad (ao (i:=11) scWay.nd rfl (Or.inl rfl) (bE aa))
  (ad (df PassesOwn.never (eC (iJ (b8 hu (pv 7) (pv 2) fun _ _=>rfl)) (aR _))
   (ad (bf (cG PySem.F.plainAttrs_list PySem.F.slot_list_append PySem.F.type_list_append aT (pv 11) (a8 (b8 hu (pv 7) (pv 2) fun _ _=>rfl) aa)))
   (ah (ao (i:=2) scWay.nd rfl (Or.inl rfl) (aB aW (b8 hu (pv 7) (pv 2) fun _ _=>rfl) ai fun _ _=>rfl)))))
  (ah (aJ (rF (pv 11) (lL ij ai)))))))))),?_⟩
 have hL:(20000:Nat)≤sizeLine:=by decide +kernel
 intro d ndH
 have sd:Same H (upd H d (.dK [])):=ae ndH
 have hb0:Bsk H (upd H d (.dK [])) d [] (fun _=> []):=⟨a9,xO,xO,fun e m=>(nomatch m),fun r _=>rfl⟩
 generalize upd H d (.dK [])=H1 at*
 refine ⟨_,rfl,lb,rfl,⟨bv,SqL.of (sd _ _ hlb)⟩,?_⟩
 refine bc (xs:=bv) (fun i σ H'=>(∃v4 v5 v6,σ= [some (.ref lb),some (.int x),some (.int y),some (.ref d),v4,v5,v6,none,none,none,none,none])∧Same H H'∧∃kvs A,Bsk H H' d kvs A∧kvs.length≤2*i∧AdOk ks i (2*i) A)
  ⟨⟨none,none,none,rfl⟩,sd,[],_,hb0,wO _,⟨fun v b m=>(nomatch m),fun q m=>by simp at m,fun v=>wO _⟩⟩ (fun i σ H' _ q=>SqL.of (q.2.1 _ _ hlb)) ?_ ?_
 · intro i v σ H1 ex z_
   refine hide fun q_ e_=> ?_
   obtain ⟨⟨v4,v5,v6,rfl⟩,sH,kvs,A,hb,kl,hA⟩:=z_
   subst e_
   have hi:i < ks.length:=by rw [←hB.1];exact (wK.mp ex).1
   obtain ⟨q,eq⟩:∃q,ks[i]?=some q:=⟨ks[i],wI hi⟩
   refine hide fun q_ e_=> ?_
   obtain ⟨v',ev,r,rfl,hr'⟩:=hB.2 i q eq
   subst e_
   rw [ex] at ev
   cases ev
   refine ⟨r,_,rfl,SqT.of (sH _ _ hr'),rfl,_,_,rfl,_,_,rfl,_,_,rfl,rfl,?_⟩
   refine lA (fun σ' H'=>σ'= [some (.ref lb),some (.int x),some (.int y),some (.ref d),some (.int q.1),some (.int q.2.1),some (ov q.2.2),none,none,none,none,none]∧Same H H'∧∃kvs',Bsk H H' d kvs' (putA A q.1 q)∧kvs'.length≤2*i+1) ?_ fun nx hnx=> ?_
   · intro σ' H2 z_
     refine hide fun q_ e_=> ?_
     obtain ⟨rfl,sH2,kvs2,hb2,kl2⟩:=z_
     subst e_
     have fin:∀H'' kvs',Same H H''→Bsk H H'' d kvs' (putA (putA A q.1 q) q.2.1 (q.2.1,q.1,q.2.2))→kvs'.length≤kvs2.length+1→(∃v4 v5 v6,[some (.ref lb),some (.int x),some (.int y),some (.ref d),some (.int q.1),some (.int q.2.1),some (ov q.2.2),none,none,none,none,none]= [some (V.ref lb),some (.int x),some (.int y),some (.ref d),v4,v5,v6,none,none,none,none,none])∧Same H H''∧∃kvs A,Bsk H H'' d kvs A∧kvs.length≤2*(i+1)∧AdOk ks (i+1) (2*(i+1)) A:=
      fun H'' kvs' a b c=>⟨⟨_,_,_,rfl⟩,a,kvs',_,b,by omega,hA.two eq⟩
     have hA2:(putA A q.1 q q.2.1).length≤2*i+1:=by
      unfold putA
      have:=hA.len q.2.1
      have l1:(if q.1=q.2.1 then [q] else []).length≤1:=by split<;>simp
      rw [wM]
      omega
     refine ⟨_,rfl, .inr (.inr (.inl ⟨rfl, .inl ⟨_,hb2.at_⟩⟩)),_,rfl,by show 0≤sizeLine;decide,fun l nl=> ?_⟩
     have sl:=ae (o:=HO.lst []) nl
     have hb4:=hb2.same sl
     have nlH:H l=none:=sH2.free nl
     have hll:(upd H2 l (.lst [])) l=some (.lst []):=a9
     have hql:∀e∈kvs2,e.2≠V.ref l:=fun e m z=>by
      refine hide fun q_ e_=> ?_
      obtain ⟨r',q',vs',a1,a2,_⟩:=hb2.ent e m
      subst e_
      rw [a1] at z
      have:q'=l:=V.ref.inj z
      rw [this,nl] at a2
      cases a2
     have sH4:=sH2.trans sl
     generalize upd H2 l (.lst [])=H4 at*
     refine ⟨d,_,kI q.2.1, .ref l,rfl,rfl,hb4.at_,by omega,fun z ez=> ?_,fun ez=> ?_⟩
     · refine hide fun q_ e_=> ?_
       obtain ⟨q0,vs,rfl,me,a2,a3,a4,a5⟩:=hb4.get ez
       subst e_
       have hv:=a4.1
       have hA':=hA2
       refine ⟨.inl ⟨rfl,vs,SqL.of a2⟩,_,rfl,_,rfl,_,rfl,by show 3≤sizeLine;decide,fun T nT=> ?_⟩
       have sT:=ae (o:=HO.tup [.int q.2.1, .int q.1,ov q.2.2]) nT
       refine ⟨q0,vs, .ref T,rfl,rfl,sT _ _ a2,by omega,?_⟩
       exact fin _ _ (aq a3 (sH4.trans sT)) ((hb4.same sT).app me (sT _ _ a2) (a4.mono (Kd.of_same sT)) a9) (by omega)
     · obtain ⟨hb5,hA0⟩:=hb4.new ez hll nlH hql
       have ld:l≠d:=fun zz=>by rw [zz,hb4.at_] at hll;cases hll
       have hl5:(upd H4 d (.dK (kvs2++ [(kI q.2.1, .ref l)]))) l=some (.lst []):=by rw [af ld];exact hll
       refine ⟨.inl ⟨rfl,[],SqL.of hl5⟩,_,rfl,_,rfl,_,rfl,by show 3≤sizeLine;decide,fun T nT=> ?_⟩
       have sT:=ae (o:=HO.tup [.int q.2.1, .int q.1,ov q.2.2]) nT
       refine ⟨l,[], .ref T,rfl,rfl,sT _ _ hl5,by show 0 < sizeLine;decide,?_⟩
       exact fin _ _ (aq nlH ((aq ndH sH4).trans sT)) ((hb5.same sT).app (wR _ (wS.mpr rfl)) (sT _ _ hl5) (by rw [hA0];exact ⟨rfl,fun i p e=>by simp at e⟩) a9) (by rw [wM,x8];omega)
   · have fin:∀H'' kvs',Same H H''→Bsk H H'' d kvs' (putA A q.1 q)→kvs'.length≤kvs.length+1→nx [some (.ref lb),some (.int x),some (.int y),some (.ref d),some (.int q.1),some (.int q.2.1),some (ov q.2.2),none,none,none,none,none] H'':=
      fun H'' kvs' a b c=>hnx _ _ ⟨rfl,a,kvs',b,by omega⟩
     refine ⟨_,rfl, .inr (.inr (.inl ⟨rfl, .inl ⟨_,hb.at_⟩⟩)),_,rfl,by show 0≤sizeLine;decide,fun l nl=> ?_⟩
     have sl:=ae (o:=HO.lst []) nl
     have hb4:=hb.same sl
     have nlH:H l=none:=sH.free nl
     have hll:(upd H1 l (.lst [])) l=some (.lst []):=a9
     have hql:∀e∈kvs,e.2≠V.ref l:=fun e m z=>by
      refine hide fun q_ e_=> ?_
      obtain ⟨r',q',vs',a1,a2,_⟩:=hb.ent e m
      subst e_
      rw [a1] at z
      have:q'=l:=V.ref.inj z
      rw [this,nl] at a2
      cases a2
     have sH4:=sH.trans sl
     generalize upd H1 l (.lst [])=H4 at*
     refine ⟨d,_,kI q.1, .ref l,rfl,rfl,hb4.at_,by omega,fun z ez=> ?_,fun ez=> ?_⟩
     · refine hide fun q_ e_=> ?_
       obtain ⟨q0,vs,rfl,me,a2,a3,a4,a5⟩:=hb4.get ez
       subst e_
       have hv:=a4.1
       have hA':=hA.len q.1
       refine ⟨.inl ⟨rfl,vs,SqL.of a2⟩,_,rfl,_,rfl,_,rfl,by show 3≤sizeLine;decide,fun T nT=> ?_⟩
       have sT:=ae (o:=HO.tup [.int q.1, .int q.2.1,ov q.2.2]) nT
       refine ⟨q0,vs, .ref T,rfl,rfl,sT _ _ a2,by omega,?_⟩
       exact fin _ _ (aq a3 (sH4.trans sT)) ((hb4.same sT).app me (sT _ _ a2) (a4.mono (Kd.of_same sT)) a9) (by omega)
     · obtain ⟨hb5,hA0⟩:=hb4.new ez hll nlH hql
       have ld:l≠d:=fun zz=>by rw [zz,hb4.at_] at hll;cases hll
       have hl5:(upd H4 d (.dK (kvs++ [(kI q.1, .ref l)]))) l=some (.lst []):=by rw [af ld];exact hll
       refine ⟨.inl ⟨rfl,[],SqL.of hl5⟩,_,rfl,_,rfl,_,rfl,by show 3≤sizeLine;decide,fun T nT=> ?_⟩
       have sT:=ae (o:=HO.tup [.int q.1, .int q.2.1,ov q.2.2]) nT
       refine ⟨l,[], .ref T,rfl,rfl,sT _ _ hl5,by show 0 < sizeLine;decide,?_⟩
       exact fin _ _ (aq nlH ((aq ndH sH4).trans sT)) ((hb5.same sT).app (wR _ (wS.mpr rfl)) (sT _ _ hl5) (by rw [hA0];exact ⟨rfl,fun i p e=>by simp at e⟩) a9) (by rw [wM,x8];omega)
 · intro σ H1 z_
   refine hide fun q_ e_=> ?_
   obtain ⟨⟨v4,v5,v6,rfl⟩,sH,kvs,A,hb,kl,hA⟩:=z_
   subst e_
   rw [hB.1] at hA kl
   intro c nc
   refine ⟨_,rfl,a9,[(kI x, .non)],rfl,by show 1≤15;decide,?_⟩
   have ncH:H c=none:=sH.free nc
   have s2:Same H1 (upd (upd H1 c (.dK [])) c (.dK (dh [] [(kI x,V.non)]))):=fun b u e=>by
    rw [af (ar e nc),af (ar e nc)]
    exact e
   have hc2:Cmd (upd (upd H1 c (.dK [])) c (.dK (dh [] [(kI x,V.non)]))) c [(kI x, .non)] [(x,none)]:=⟨a9,rfl,fun i e ee=>by
    cases i with
    |zero=>cases ee;exact ⟨.non,rfl,rfl⟩
    |succ i=>simp at ee⟩
   have cd:c≠d:=fun z=>by rw [z,hb.at_] at nc;cases nc
   generalize upd (upd H1 c (.dK [])) c (.dK (dh [] [(kI x,V.non)]))=H2 at*
   have sH2:=sH.trans s2
   have hb2:=hb.same s2
   refine ⟨_,rfl,by show 1≤sizeLine;decide,fun wl nwl=> ?_⟩
   have s3:Same H2 (upd H2 wl (.lst [.int x])):=ae nwl
   have nwH:H wl=none:=sH2.free nwl
   have wd:wl≠d:=fun z=>by rw [z,hb2.at_] at nwl;cases nwl
   have wc:wl≠c:=fun z=>by rw [z,hc2.at_] at nwl;cases nwl
   have hkw:∀e∈kvs,e.2≠V.ref wl:=fun e m z=>by
    refine hide fun q_ e_=> ?_
    obtain ⟨r',q',vs',a1,a2,_⟩:=hb2.ent e m
    subst e_
    rw [a1] at z
    have:q'=wl:=V.ref.inj z
    rw [this,nwl] at a2
    cases a2
   have hb3:=hb2.same s3
   have hc3:=hc2.same s3
   have hw3:(upd H2 wl (.lst [.int x])) wl=some (.lst (ivs [x])):=a9
   have sH3:=sH2.trans s3
   generalize upd H2 wl (.lst [.int x])=H3 at*
   dsimp only
   refine ⟨fun m σ H'=>∃(v4 v5 v6 v9 v10:Option V) (ck:List (Key×V)) (cs:Rz.Cms) (wt:List Nat),σ= [some (.ref lb),some (.int x),some (.int y),some (.ref d),v4,v5,v6,some (.ref c),some (.ref wl),v9,v10,none]∧Same H H'∧Bsk H H' d kvs A∧Cmd H' c ck cs∧H' wl=some (.lst (ivs wt))∧Rz.Cm ks x cs∧Rz.Pr ks cs wt∧(∀v∈Rz.keys cs,v < n)∧(∀v∈wt,v∈Rz.keys cs)∧m=2*(n - cs.length)+wt.length∧m≤129,
    ⟨_,v4,v5,v6,none,none,_,_,[x],rfl,sH3,hb3,hc3,hw3,Rz.Cm.one ks x,fun v mv nv=>absurd mv (by simpa [Rz.keys] using nv),fun v mv=> ?_,fun v mv=>mv,rfl,by simp;omega⟩,?_⟩
   · have:v=x:=by simpa [Rz.keys] using mv
     omega
   intro m σ H' z_
   refine hide fun q_ e_=> ?_
   obtain ⟨v4,v5,v6,v9,v10,ck,cs,wt,rfl,sH',hb',hc',hw',hcm,hpr,hkn,hwk,hm,hm129⟩:=z_
   subst e_
   refine ⟨_,rfl,!(ivs wt).isEmpty, .inl ⟨_,SqL.of hw',rfl⟩,?_⟩
   rcases List.eq_nil_or_concat wt with e0|⟨wt0,p,e0⟩
   · subst e0
     refine iteF ?_
     have hyk:y∈Rz.keys cs:=(hpr.all hcon).mp (wJ (Rz.key_at hcm.head))
     have hcl:cs.length≤n:=by
      have:=Fm.sub_len (U:=List.range n) hcm.nd fun v mv=>xj.mpr (hkn v mv)
      unfold Rz.keys at this
      rw [wL,x3] at this
      exact this
     have hyl:Rz.ordC cs y < cs.length:=by
      obtain ⟨i,o,e⟩:=Rz.at_key hyk
      rw [Rz.ord_at hcm.nd e]
      exact (wK.mp e).1
     refine ⟨by show 0≤sizeLine;decide,fun wy nwy=> ?_⟩
     have s4:Same H' (upd H' wy (.lst [])):=ae nwy
     have nyH:H wy=none:=sH'.free nwy
     have yc:wy≠c:=fun z=>by rw [z,hc'.at_] at nwy;cases nwy
     have hc4:=hc'.same s4
     have hy4:(upd H' wy (.lst [])) wy=some (.lst []):=a9
     have sH4:=sH'.trans s4
     generalize upd H' wy (.lst [])=H4 at*
     dsimp only
     refine ⟨fun m σ H'=>∃(o:Nat) (ws:List Rz.Bd) (wv:List V),σ= [some (.ref lb),some (.int x),some (.int o),some (.ref d),v4,v5,v6,some (.ref c),some (.ref wl),v9,v10,some (.ref wy)]∧Same H H'∧Cmd H' c ck cs∧H' wy=some (.lst wv)∧Bds H' wv ws.reverse∧Rz.Way ks o y ws∧(∀st∈ws,Rz.ordC cs st.1 < Rz.ordC cs st.2.1)∧o∈Rz.keys cs∧ws.length+Rz.ordC cs o≤Rz.ordC cs y∧m=Rz.ordC cs o,
      ⟨_,y,[],[],rfl,sH4,hc4,hy4,⟨rfl,fun i p e=>by simp at e⟩, .nil _,fun st ms=>(nomatch ms),hyk,by simp,rfl⟩,?_⟩
     intro m σ H5 z_
     refine hide fun q_ e_=> ?_
     obtain ⟨o,ws,wv,rfl,sH5,hc5,hy5,hBw,hway,hris,hok,hlen,hm⟩:=z_
     subst e_
     refine hide fun q_ e_=> ?_
     obtain ⟨oo,z,mo,ez,hz⟩:=hc5.yes hok
     subst e_
     refine ⟨_,rfl,_,rfl,c,z,rfl, .inl ⟨ck,kI o, .inl hc5.at_,rfl,ez.symm⟩,_,rfl,?_⟩
     cases oo with
     |none=>
      have:z=V.non:=hz
      subst this
      refine iteF ?_
      have ox:=hcm.stop mo
      subst ox
      refine ⟨_,rfl,1,rfl,wy,wv,rfl,rfl,SqL.of hy5,fun p np=> ?_⟩
      have hrev:=hBw.rev
      rw [List.reverse_reverse] at hrev
      have s6:Same H5 (upd H5 p (.lst wv.reverse)):=ae np
      exact k p wv.reverse ws (Rz.ordC cs) _ (sH5.free np) (sH5.trans s6) a9 (hrev.mono (Kd.of_same s6)) hway hris (by omega)
     |some b=>
      obtain ⟨T,rfl,hT⟩:=hz
      obtain ⟨eo,hq,ho,hbk⟩:=hcm.step mo
      have hbl:=hBw.1
      rw [xV] at hbl
      refine iteT ⟨_,fun σ' H'' h=>h,?_⟩
      refine ⟨_,rfl, .inl ⟨rfl,wv,SqL.of hy5⟩,_,rfl,_,rfl,c, .ref T,rfl, .inl ⟨ck,kI o, .inl hc5.at_,rfl,ez.symm⟩,wy,wv, .ref T,rfl,rfl,hy5,by omega,?_⟩
      have k6:=bO (ys:=wv++ [.ref T]) hy5
      have hc6:Cmd (upd H5 wy (.lst (wv++ [.ref T]))) c ck cs:=hc5.kd k6 (by rw [af yc.symm];exact hc5.at_)
      refine ⟨_,rfl,_,rfl,c, .ref T,rfl, .inl ⟨ck,kI o, .inl hc6.at_,rfl,ez.symm⟩,T,_,0, .int b.1,rfl,rfl,SqT.of (k6.tup _ _ hT),rfl,?_⟩
      refine ⟨Rz.ordC cs b.1,by omega,b.1,b::ws,wv++ [.ref T],rfl,aq nyH sH5,hc6,a9,?_,Rz.Way.cons (st:=b) hq (by rw [eo];exact hway),fun st ms=> ?_,hbk,by rw [wV];omega,rfl⟩
      · rw [List.reverse_cons]
        exact (hBw.mono k6).snoc ⟨T,rfl,k6.tup _ _ hT⟩
      · rcases wY.mp ms with rfl|ms
        · rw [eo]
          exact ho
        · exact hris st ms
   · rw [List.concat_eq_append] at e0
     subst e0
     have e1:(!(ivs (wt0++ [p])).isEmpty)=true:=by simp [ivs]
     rw [e1]
     have edl:(ivs (wt0++ [p])).dropLast=ivs wt0:=by simp [ivs]
     have hcl:cs.length≤n:=by
      have:=Fm.sub_len (U:=List.range n) hcm.nd fun v mv=>xj.mpr (hkn v mv)
      unfold Rz.keys at this
      rw [wL,x3] at this
      exact this
     refine iteT ⟨_,fun σ' H'' h=>h,?_⟩
     refine ⟨_,rfl, .inl ⟨rfl,_,SqL.of hw'⟩,wl,ivs (wt0++ [p]), .int p,rfl,rfl,hw',by simp [ivs],?_⟩
     have k5:=bO (ys:=(ivs (wt0++ [p])).dropLast) hw'
     have hw5:(upd H' wl (.lst (ivs (wt0++ [p])).dropLast)) wl=some (.lst (ivs wt0)):=by rw [a9,edl]
     have hb5:=hb'.wr k5 wd hkw
     have hc5:Cmd (upd H' wl (.lst (ivs (wt0++ [p])).dropLast)) c ck cs:=hc'.kd k5 (by rw [af wc.symm];exact hc'.at_)
     have sH5:Same H (upd H' wl (.lst (ivs (wt0++ [p])).dropLast)):=aq nwH sH'
     generalize upd H' wl (.lst (ivs (wt0++ [p])).dropLast)=H5 at*
     refine ⟨_,rfl,d,rfl, .inl ⟨kvs, .inl hb5.at_⟩,_,rfl,by show 0≤sizeLine;decide,fun l nl=> ?_⟩
     have s6:Same H5 (upd H5 l (.lst [])):=ae nl
     have hb6:=hb5.same s6
     have hc6:=hc5.same s6
     have hw6:=s6 _ _ hw5
     have sH6:=sH5.trans s6
     refine ⟨valV kvs (kI p), .inl ⟨kvs,kI p, .inl hb6.at_,rfl,rfl⟩,?_⟩
     obtain ⟨q,vs,eqv,hq6,hBq,qw,nqH⟩:∃q vs,(valV kvs (kI p)).getD (.ref l)=V.ref q∧(upd H5 l (.lst [])) q=some (.lst vs)∧Bds (upd H5 l (.lst [])) vs (A p)∧q≠wl∧H q=none:=by
      cases ez:valV kvs (kI p) with
      |none=>exact ⟨l,[],rfl,a9,by rw [hb6.out p (cZ ez)];exact ⟨rfl,fun i p e=>by simp at e⟩,fun z=>(by rw [z,hw5] at nl;cases nl),sH5.free nl⟩
      |some z=>
       refine hide fun q_ e_=> ?_
       obtain ⟨q0,vs,rfl,me,a2,a3,a4,a5⟩:=hb6.get ez
       subst e_
       exact ⟨q0,vs,rfl,a2,a4,fun z=>hkw _ me (by rw [z]),a3⟩
     rw [eqv]
     generalize upd H5 l (.lst [])=H6 at*
     have hpk:p∈Rz.keys cs:=hwk p (wR _ (wS.mpr rfl))
     refine ⟨q,rfl,⟨vs,SqL.of hq6⟩,?_⟩
     refine bc (xs:=vs) (fun i σ H'=>∃(v10:Option V) (ck:List (Key×V)) (cs:Rz.Cms) (wt:List Nat),σ= [some (.ref lb),some (.int x),some (.int y),some (.ref d),v4,v5,v6,some (.ref c),some (.ref wl),some (.int p),v10,none]∧Same H H'∧Bsk H H' d kvs A∧H' q=some (.lst vs)∧Bds H' vs (A p)∧Cmd H' c ck cs∧H' wl=some (.lst (ivs wt))∧Rz.Cm ks x cs∧(∀v∈Rz.keys cs,v∉wt→v≠p→∀q∈ks,(q.1=v→q.2.1∈Rz.keys cs)∧(q.2.1=v→q.1∈Rz.keys cs))∧(∀v∈Rz.keys cs,v < n)∧(∀v∈wt,v∈Rz.keys cs)∧p∈Rz.keys cs∧(∀(j:Nat) (b:Rz.Bd),j < i→(A p)[j]?=some b→b.2.1∈Rz.keys cs)∧2*(n - cs.length)+wt.length < m)
      ⟨v10,ck,cs,wt0,rfl,sH6,hb6,hq6,hBq,hc6,hw6,hcm,fun v mv nv np=>hpr v mv (fun mm=>(x4.mp mm).elim nv fun h=>np (wS.mp h)),hkn,fun v mv=>hwk v (x6 _ mv),hpk,fun j b h=>absurd h (xG _),by rw [hm,wM,x8];omega⟩
      (fun i σ H' _ q=>by obtain ⟨_,_,_,_,_,_,_,hq,_⟩:=q;exact SqL.of hq) ?_ ?_
     · intro i v σ H7 ex z_
       refine hide fun q_ e_=> ?_
       obtain ⟨v10,ck,cs,wt,rfl,sH7,hb7,hq7,hBq7,hc7,hw7,hcm7,hpr7,hkn7,hwk7,hpk7,hdone,hlt⟩:=z_
       subst e_
       have hi:i < (A p).length:=by rw [←hBq7.1];exact (wK.mp ex).1
       obtain ⟨b,eb⟩:∃b,(A p)[i]?=some b:=⟨(A p)[i],wI hi⟩
       refine hide fun q_ e_=> ?_
       obtain ⟨v',ev,T,rfl,hT⟩:=hBq7.2 i b eb
       subst e_
       rw [ex] at ev
       cases ev
       obtain ⟨b1,bq⟩:=hA.sound p b (wJ eb)
       have hcl7:cs.length≤n:=by
        have:=Fm.sub_len (U:=List.range n) hcm7.nd fun v mv=>xj.mpr (hkn7 v mv)
        unfold Rz.keys at this
        rw [wL,x3] at this
        exact this
       refine au ?_
       refine ⟨_,rfl,T,_,1, .int b.2.1,rfl,rfl,SqT.of hT,rfl,_,rfl,c,valV ck (kI b.2.1),rfl, .inl ⟨ck,kI b.2.1, .inl hc7.at_,rfl,rfl⟩,_,rfl,?_⟩
       by_cases mk:b.2.1∈Rz.keys cs
       · refine hide fun q_ e_=> ?_
         obtain ⟨_,z,_,ez,_⟩:=hc7.yes mk
         subst e_
         rw [ez]
         refine iteF ?_
         refine ⟨_,ck,cs,wt,rfl,sH7,hb7,hq7,hBq7,hc7,hw7,hcm7,hpr7,hkn7,hwk7,hpk7,fun j b' hj ej=> ?_,hlt⟩
         rcases xk j i with h|h
         · exact hdone j b' h ej
         · have:j=i:=by omega
           subst this
           rw [eb] at ej
           cases ej
           exact mk
       · have ez:=hc7.no mk
         rw [ez]
         refine iteT ?_
         have hckl:=hc7.len
         refine ⟨_,rfl,_,rfl,_,rfl,T,_,1, .int b.2.1,rfl,rfl,SqT.of hT,rfl,c,_,rfl, .inl ⟨ck,kI b.2.1,hc7.at_,rfl,by omega,rfl⟩,?_⟩
         rw [cR (.ref T) ez]
         have k8:Kd H7 (upd H7 c (.dK (ck++ [(kI b.2.1, .ref T)]))):=Dj.Kd.updK hc7.at_
         have hc8:=hc7.add hT
         have hb8:Bsk H (upd H7 c (.dK (ck++ [(kI b.2.1, .ref T)]))) d kvs A:=hb7.wr k8 cd fun e me z=>by
          refine hide fun q_ e_=> ?_
          obtain ⟨r',q',vs',a1,a2,_⟩:=hb7.ent e me
          subst e_
          rw [a1] at z
          have:q'=c:=V.ref.inj z
          rw [this,hc7.at_] at a2
          cases a2
         have qc:q≠c:=fun z=>by rw [z,hc7.at_] at hq7;cases hq7
         have hq8:(upd H7 c (.dK (ck++ [(kI b.2.1, .ref T)]))) q=some (.lst vs):=by rw [af qc];exact hq7
         have hw8:(upd H7 c (.dK (ck++ [(kI b.2.1, .ref T)]))) wl=some (.lst (ivs wt)):=by rw [af wc];exact hw7
         have hT8:=k8.tup _ _ hT
         have hBq8:=hBq7.mono k8
         have sH8:Same H (upd H7 c (.dK (ck++ [(kI b.2.1, .ref T)]))):=aq ncH sH7
         generalize upd H7 c (.dK (ck++ [(kI b.2.1, .ref T)]))=H8 at*
         have hwl:(ivs wt).length=wt.length:=by simp [ivs]
         refine ⟨_,rfl, .inl ⟨rfl,_,SqL.of hw8⟩,_,rfl,T,_,1, .int b.2.1,rfl,rfl,SqT.of hT8,rfl,wl,_, .int b.2.1,rfl,rfl,hw8,by omega,?_⟩
         have k9:=bO (ys:=ivs wt++ [.int b.2.1]) hw8
         have ewt:ivs wt++ [V.int b.2.1]=ivs (wt++ [b.2.1]):=by simp [ivs]
         have hks2:∀v,v∈Rz.keys cs→v∈Rz.keys (cs++ [(b.2.1,some b)]):=fun v mv=>by unfold Rz.keys;rw [xi];exact x6 _ mv
         have hnew:b.2.1∈Rz.keys (cs++ [(b.2.1,some b)]):=by unfold Rz.keys;rw [xi];exact wR _ (by simp)
         have hcase:∀v,v∈Rz.keys (cs++ [(b.2.1,some b)])→v∈Rz.keys cs∨v=b.2.1:=fun v mv=>by
          unfold Rz.keys at mv
          rw [xi] at mv
          rcases x4.mp mv with h|h
          · exact .inl h
          · exact .inr (by simpa using h)
         have hbn:b.2.1 < n:=by
          obtain ⟨q0,mq0,iq⟩:=bq
          rcases iq with rfl|rfl
          · exact (hks _ mq0).2
          · exact (hks _ mq0).1
         have hcl8:(cs++ [(b.2.1,some b)]).length≤n:=by
          have:=Fm.sub_len (U:=List.range n) (hcm7.add bq (by rw [b1];exact hpk7) mk).nd fun v mv=>xj.mpr ((hcase v mv).elim (hkn7 v) fun h=>by omega)
          unfold Rz.keys at this
          rw [wL,x3] at this
          exact this
         rw [wM,x8] at hcl8
         refine ⟨_,_,cs++ [(b.2.1,some b)],wt++ [b.2.1],rfl,aq nwH sH8,hb8.wr k9 wd hkw,by rw [af qw];exact hq8,hBq8.mono k9,hc8.kd k9 (by rw [af wc.symm];exact hc8.at_),by rw [←ewt];exact a9,hcm7.add bq (by rw [b1];exact hpk7) mk,fun v mv nv np q' mq'=> ?_,fun v mv=>(hcase v mv).elim (hkn7 v) fun h=>by omega,fun v mv=> ?_,hks2 _ hpk7,fun j b' hj ej=> ?_,?_⟩
         · rcases hcase v mv with h|h
           · have:=hpr7 v h (fun z=>nv (x6 _ z)) np q' mq'
             exact ⟨fun e=>hks2 _ (this.1 e),fun e=>hks2 _ (this.2 e)⟩
           · exact absurd (wR _ (wS.mpr h)) nv
         · rcases x4.mp mv with h|h
           · exact hks2 _ (hwk7 v h)
           · rw [wS.mp h]
             exact hnew
         · rcases xk j i with h|h
           · exact hks2 _ (hdone j b' h ej)
           · have:j=i:=by omega
             subst this
             rw [eb] at ej
             cases ej
             exact hnew
         · rw [wM,wM,x8,x8]
           omega
     · intro σ H7 z_
       refine hide fun q_ e_=> ?_
       obtain ⟨v10,ck,cs,wt,rfl,sH7,hb7,hq7,hBq7,hc7,hw7,hcm7,hpr7,hkn7,hwk7,hpk7,hdone,hlt⟩:=z_
       subst e_
       have hall:∀b∈A p,b.2.1∈Rz.keys cs:=fun b mb=>by
        obtain ⟨j,hj,e⟩:=xf mb
        exact hdone j b (by rw [hBq7.1];exact hj) (by rw [wI hj,e])
       refine ⟨_,hlt,v4,v5,v6,_,v10,ck,cs,wt,rfl,sH7,hb7,hc7,hw7,hcm7,fun v mv nv q' mq'=> ?_,hkn7,hwk7,rfl,by omega⟩
       by_cases z:v=p
       · subst z
         have hf:=hA.full q' (by rw [xt];exact mq')
         exact ⟨fun e=>hall q' (by rw [←e];exact hf.1),fun e=>hall (q'.2.1,q'.1,q'.2.2) (by rw [←e];exact hf.2)⟩
       · exact hpr7 v mv nv z q' mq'
end
end K61
namespace Zp
open PySem
abbrev IsZm (h:Heap) (z TI TO:Addr) (f0:Value) (f:Bool):Prop:=
 h.get? z=some {cls:= .type "zip",dict:=none,data:= .fields #[f0, .bool f, .bool false, .ref TI, .ref TO],slots:= #[]}
def Zm (h:Heap) (z TI TO:Addr):Prop:=∃f0 f,IsZm h z TI TO f0 f∧(f0= .none∨∃a:Nat,f0=rawInt a)
section
variable {prog:Program} {w:World} {A:Around} {E:Value→Shared→Prop} {s:Shared} {k:Src} {z TI TO i1 i2 l1 l2:Addr} {j:Nat} {xs ys:Array Value} {x y a b:Value}
theorem kY {a:Addr} {Q:Option Obj→Shared→Prop} (h:∀r,Q r s):wpAny (model prog w) A (loadIfAlive a) Q E s:=fun _ _ _=>h _
theorem ju {f0:Value} {f:Bool} {Q:Bool→Shared→Prop} (hz:IsZm s.heap z TI TO f0 f) (hf0:f0= .none∨∃a:Nat,f0=rawInt a)
 (h:∀b h' f',IsZm h' z TI TO f0 f'→Heap.SameBut z s.heap h'→Q b {s with heap:=h'}):wpAny (model prog w) A (Builtin.SmallTypes.ownedTupleIsFree (.ref z)) Q E s:=by
 rw [Builtin.SmallTypes.ownedTupleIsFree]
 rcases hf0 with rfl|⟨a,rfl⟩
 · refine wpAny_bind (wpAny_field hz rfl (x:= .none) rfl (wpAny_pure ?_))
   exact h true s.heap f hz (Heap.SameBut.refl _ _)
 · refine wpAny_bind (wpAny_field hz rfl (x:=rawInt a) rfl ?_)
   show wpAny _ _ (loadIfAlive ((a:Int).toNat) >>=_) _ _ _
   refine wpAny_bind (kY fun r=> ?_)
   cases r with
   |none=>
    simp only [Option.isNone_none,if_true]
    exact wpAny_pure (h true s.heap f hz (Heap.SameBut.refl _ _))
   |some o=>
    simp only [Option.isNone_some,xy,if_false]
    refine wpAny_bind (wpAny_field hz rfl (x:= .bool f) rfl ?_)
    cases f with
    |true=>
     simp only [bne_self_eq_false,xy,if_false]
     exact wpAny_pure (h false s.heap true hz (Heap.SameBut.refl _ _))
    |false=>
     show wpAny _ _ (setField (.ref z) 1 (.bool true) >>=_) _ _ _
     exact wpAny_bind (wpAny_setField_rec hz (by simp) fun h1 e1 s1=>wpAny_pure (h false h1 true e1 s1))
theorem qH {Q:Value→Shared→Prop} (D:ZipApart z TI TO i1 i2 l1 l2) (hz:Zm s.heap z TI TO) (hI:IsPair s.heap TI (.ref i1) (.ref i2)) (hO:IsPair s.heap TO a b)
 (t1:k.It s.heap i1 l1 j) (t2:k.It s.heap i2 l2 j) (q1:k.Sq s.heap l1 xs) (q2:k.Sq s.heap l2 ys) (ex:xs[j]?=some x) (ey:ys[j]?=some y)
 (q:∀h',Zm h' z TI TO→(∃a b,IsPair h' TO a b)→k.It h' i1 l1 (j+1)→k.It h' i2 l2 (j+1)→IsPair h' s.heap.objs.size x y→h'.objs.size=s.heap.objs.size+1→
  (∀c o,c≠z→c≠TO→c≠i1→c≠i2→s.heap.get? c=some o→h'.get? c=some o)→Q (.ref s.heap.objs.size) {s with heap:=h'}):
 wpAny (model prog w) A (Builtin.«zip.__next__» ⟨[.ref z],[]⟩) (fun r s'=>∃v,r= .done (.ret v)∧Q v s') E s:=by
 obtain ⟨f0,f,hz,hf0⟩:=hz
 show wpAny _ _ (do let u←field (.ref z) 2;_) _ _ _
 refine wpAny_bind (wpAny_field hz rfl (x:= .bool false) rfl ?_)
 show wpAny _ _ (do let u←field (.ref z) 3;_) _ _ _
 refine wpAny_bind (wpAny_field hz rfl (x:= .ref TI) rfl (wpAny_bind (wpAny_seqItems hI rfl ?_)))
 show wpAny _ _ (do let u←Builtin.SmallTypes.ownedTupleIsFree (.ref z);_) _ _ _
 refine wpAny_bind (ju hz hf0 fun bb g0 f' z0 s0=> ?_)
 have hO0:IsPair g0 TO a b:=s0.extBut _ _ D.TOz hO
 have t10:k.It g0 i1 l1 j:=cH t1 fun o e=>s0.extBut _ o D.i1z e
 have t20:k.It g0 i2 l2 j:=cH t2 fun o e=>s0.extBut _ o D.i2z e
 have q10:k.Sq g0 l1 xs:=fH q1 fun o e=>s0.extBut _ o D.l1z e
 have q20:k.Sq g0 l2 ys:=fH q2 fun o e=>s0.extBut _ o D.l2z e
 have hs0:g0.objs.size=s.heap.objs.size:=s0.1
 cases bb with
 |true=>
  simp only [if_true]
  refine wpAny_bind (wpAny_rule (wpAny_bind (wpAny_field z0 rfl (x:= .ref TO) rfl (wpAny_bind (wpAny_setField_rec z0 (by simp) fun g1 y1 s1=> ?_)))))
  have y1:IsZm g1 z TI TO .ellipsis f':=y1
  refine wpAny_bind ?_
  simp only [List.forIn_cons,List.forIn_nil,List.zipIdx_nil,List.zipIdx_cons]
  refine wpAny_bind (wpAny_bind (wpAny_onRaise ?_))
  show wpAny _ _ (do let u←Builtin.SmallTypes.nextOf (.ref i1);_) _ _ _
  refine wpAny_bind (fj (s:= {s with heap:=g1}) (cH t10 fun o e=>s1.extBut _ o D.i1z e) (fH q10 fun o e=>s1.extBut _ o D.l1z e) ex fun g2 u1 s2=>wpAny_pure ?_)
  have o2:IsPair g2 TO a b:=s2.extBut _ _ D.TOi1 (s1.extBut _ _ D.TOz hO0)
  refine wpAny_bind (wpAny_seqItems o2 rfl (wpAny_bind (wpAny_updateSeq_pair (s:= {s with heap:=g2}) o2 fun g3 o3 s3=> ?_)))
  have o3:IsPair g3 TO x b:=o3
  refine wpAny_bind (wpAny_letGo (wpAny_pure (wpAny_bind (wpAny_bind (wpAny_onRaise ?_)))))
  show wpAny _ _ (do let u←Builtin.SmallTypes.nextOf (.ref i2);_) _ _ _
  refine wpAny_bind (fj (s:= {s with heap:=g3}) (cH t20 fun o e=>s3.extBut _ o D.TOi2.symm (s2.extBut _ o D.i12.symm (s1.extBut _ o D.i2z e))) (fH q20 fun o e=>s3.extBut _ o D.l2TO (s2.extBut _ o D.l2i1 (s1.extBut _ o D.l2z e))) ey fun g4 u2 s4=>wpAny_pure ?_)
  have o4:IsPair g4 TO x b:=s4.extBut _ _ D.TOi2 o3
  refine wpAny_bind (wpAny_seqItems o4 rfl (wpAny_bind (wpAny_updateSeq_pair (s:= {s with heap:=g4}) o4 fun g5 o5 s5=> ?_)))
  have o5:IsPair g5 TO x y:=o5
  refine wpAny_bind (wpAny_letGo (wpAny_pure (wpAny_pure (wpAny_bind (wpAny_seqItems o5 rfl (wpAny_bind (wpAny_newTuple ?_)))))))
  have sz:g5.objs.size=s.heap.objs.size:=by rw [s5.1,s4.1,s3.1,s2.1,s1.1,hs0]
  have all:∀c o,c≠z→c≠TO→c≠i1→c≠i2→s.heap.get? c=some o→g5.get? c=some o:=fun c o c1 c2 c3 c4 e=>s5.extBut _ _ c2 (s4.extBut _ _ c4 (s3.extBut _ _ c2 (s2.extBut _ _ c3 (s1.extBut _ _ c1 (s0.extBut _ _ c1 e)))))
  have y5:IsZm g5 z TI TO .ellipsis f':=s5.extBut _ _ D.TOz.symm (s4.extBut _ _ D.i2z.symm (s3.extBut _ _ D.TOz.symm (s2.extBut _ _ D.i1z.symm y1)))
  have v1:k.It g5 i1 l1 (j+1):=cH u1 fun o e=>s5.extBut _ o D.TOi1.symm (s4.extBut _ o D.i12 (s3.extBut _ o D.TOi1.symm e))
  have v2:k.It g5 i2 l2 (j+1):=cH u2 fun o e=>s5.extBut _ o D.TOi2.symm e
  have lz:z < g5.objs.size:=Heap.lt_size y5
  show wpAny _ _ (do let u←Builtin.SmallTypes.ownedTupleHandOut (.ref z) (.ref g5.objs.size);_) _ _ _
  refine wpAny_bind ?_
  rw [Builtin.SmallTypes.ownedTupleHandOut]
  have y6:IsZm (g5.push {cls:= .type "tuple",data:= .seq #[x,y]}) z TI TO .ellipsis f':=Heap.get?_push_of_some _ y5
  refine wpAny_bind (wpAny_setField_rec y6 (by simp) fun g7 y7 s7=> ?_)
  have y7:IsZm g7 z TI TO (rawInt g5.objs.size) f':=y7
  refine wpAny_setField_rec y7 (by simp) fun g8 y8 s8=> ?_
  have y8:IsZm g8 z TI TO (rawInt g5.objs.size) false:=y8
  have up:∀c o,c≠z→g5.get? c=some o→g8.get? c=some o:=fun c o n e=>s8.extBut _ _ n (s7.extBut _ _ n (Heap.get?_push_of_some _ e))
  have p8:IsPair g8 g5.objs.size x y:=s8.extBut _ _ (Nat.ne_of_gt lz) (s7.extBut _ _ (Nat.ne_of_gt lz) (Heap.get?_push_size _ rfl))
  have z8:g8.objs.size=g5.objs.size+1:=by rw [s8.1,s7.1,Heap.size_push]
  rw [sz] at p8 z8
  refine wpAny_pure ⟨_,rfl,?_⟩
  show Q (.ref g5.objs.size) _
  rw [sz]
  exact q g8 ⟨_,_,y8, .inr ⟨_,rfl⟩⟩ ⟨_,_,up _ _ D.TOz o5⟩ (cH v1 fun o e=>up _ o D.i1z e) (cH v2 fun o e=>up _ o D.i2z e) p8 z8 fun c o c1 c2 c3 c4 e=>up c o c1 (all c o c1 c2 c3 c4 e)
 |false=>
  simp only [xy,if_false]
  refine wpAny_bind ?_
  rw [←Array.forIn_toList]
  simp only [List.forIn_cons,List.forIn_nil]
  refine wpAny_bind (wpAny_bind (wpAny_holding ?_))
  show wpAny _ _ (do let u←Builtin.SmallTypes.nextOf (.ref i1);_) _ _ _
  refine wpAny_bind (fj (s:= {s with heap:=g0}) t10 q10 ex fun g2 u1 s2=>wpAny_pure ?_)
  refine wpAny_pure (wpAny_bind (wpAny_bind (wpAny_holding ?_)))
  show wpAny _ _ (do let u←Builtin.SmallTypes.nextOf (.ref i2);_) _ _ _
  refine wpAny_bind (fj (s:= {s with heap:=g2}) (cH t20 fun o e=>s2.extBut _ o D.i12.symm e) (fH q20 fun o e=>s2.extBut _ o D.l2i1 e) ey fun g4 u2 s4=>wpAny_pure ?_)
  refine wpAny_pure (wpAny_pure ?_)
  have sz:g4.objs.size=s.heap.objs.size:=by rw [s4.1];show g2.objs.size=_;rw [s2.1];exact hs0
  refine wpAny_bind (wpAny_newTuple (hsz:=by show 2≤sizeLine;decide) (wpAny_pure ⟨_,rfl,?_⟩))
  show Q (.ref g4.objs.size) {s with heap:=g4.push {cls:= .type "tuple",data:= .seq #[x,y]}}
  have up:∀c o,c≠z→c≠TO→c≠i1→c≠i2→s.heap.get? c=some o→(g4.push {cls:= .type "tuple",data:= .seq #[x,y]}).get? c=some o:=fun c o c1 c2 c3 c4 e=>Heap.get?_push_of_some _ (s4.extBut _ _ c4 (s2.extBut _ _ c3 (s0.extBut _ _ c1 e)))
  have p8:IsPair (g4.push {cls:= .type "tuple",data:= .seq #[x,y]}) g4.objs.size x y:=Heap.get?_push_size _ rfl
  rw [sz] at p8 ⊢
  exact q _ ⟨f0,f',Heap.get?_push_of_some _ (s4.extBut _ _ D.i2z.symm (s2.extBut _ _ D.i1z.symm z0)),hf0⟩ ⟨a,b,Heap.get?_push_of_some _ (s4.extBut _ _ D.TOi2 (s2.extBut _ _ D.TOi1 hO0))⟩ (cH u1 fun o e=>Heap.get?_push_of_some _ (s4.extBut _ o D.i12 e)) (cH u2 fun o e=>Heap.get?_push_of_some _ e) p8 (by rw [Heap.size_push,sz]) up
theorem tT {Q:Fin→Shared→Prop} (hh:A.handled=none) (D:ZipApart z TI TO i1 i2 l1 l2) (hz:Zm s.heap z TI TO) (hI:IsPair s.heap TI (.ref i1) (.ref i2))
 (t1:k.It s.heap i1 l1 j) (q1:k.Sq s.heap l1 xs) (ends:xs[j]?=none)
 (q:∀h' e,(∀c o,c≠z→c≠TO→c≠i1→c≠i2→s.heap.get? c=some o→h'.get? c=some o)→(∃o,h'.get? e=some o∧o.cls= .type "StopIteration")→E (.ref e) {s with heap:=h'}):
 wpAny (model prog w) A (Builtin.«zip.__next__» ⟨[.ref z],[]⟩) Q E s:=by
 obtain ⟨f0,f,hz,hf0⟩:=hz
 show wpAny _ _ (do let u←field (.ref z) 2;_) _ _ _
 refine wpAny_bind (wpAny_field hz rfl (x:= .bool false) rfl ?_)
 show wpAny _ _ (do let u←field (.ref z) 3;_) _ _ _
 refine wpAny_bind (wpAny_field hz rfl (x:= .ref TI) rfl (wpAny_bind (wpAny_seqItems hI rfl ?_)))
 show wpAny _ _ (do let u←Builtin.SmallTypes.ownedTupleIsFree (.ref z);_) _ _ _
 refine wpAny_bind (ju hz hf0 fun bb g0 f' z0 s0=> ?_)
 have t10:k.It g0 i1 l1 j:=cH t1 fun o e=>s0.extBut _ o D.i1z e
 have q10:k.Sq g0 l1 xs:=fH q1 fun o e=>s0.extBut _ o D.l1z e
 cases bb with
 |true=>
  simp only [if_true]
  refine wpAny_bind (wpAny_rule (wpAny_bind (wpAny_field z0 rfl (x:= .ref TO) rfl (wpAny_bind (wpAny_setField_rec z0 (by simp) fun g1 y1 s1=> ?_)))))
  have y1:IsZm g1 z TI TO .ellipsis f':=y1
  refine wpAny_bind ?_
  simp only [List.forIn_cons,List.forIn_nil,List.zipIdx_nil,List.zipIdx_cons]
  refine wpAny_bind (wpAny_bind (wpAny_onRaise ?_))
  show wpAny _ _ (do let u←Builtin.SmallTypes.nextOf (.ref i1);_) _ _ _
  refine wpAny_bind (pk (s:= {s with heap:=g1}) hh (cH t10 fun o e=>s1.extBut _ o D.i1z e) (fH q10 fun o e=>s1.extBut _ o D.l1z e) ends fun g2 e s2 he=> ?_)
  obtain ⟨oe,e1,e2⟩:=he
  have y2:IsZm g2 z TI TO .ellipsis f':=s2 _ _ D.i1z.symm y1
  have ne:e≠z:=fun n=>by subst n;rw [y2] at e1;cases e1;simp at e2
  exact wpAny_setField_rec y2 (by simp) fun g3 _ s3=>q g3 e (fun c o c1 _ c3 _ n=>s3.extBut _ _ c1 (s2 _ _ c3 (s1.extBut _ _ c1 (s0.extBut _ _ c1 n)))) ⟨oe,s3.extBut _ _ ne e1,e2⟩
 |false=>
  simp only [xy,if_false]
  refine wpAny_bind ?_
  rw [←Array.forIn_toList]
  simp only [List.forIn_cons,List.forIn_nil]
  refine wpAny_bind (wpAny_bind (wpAny_holding ?_))
  show wpAny _ _ (do let u←Builtin.SmallTypes.nextOf (.ref i1);_) _ _ _
  exact wpAny_bind (pk (s:= {s with heap:=g0}) hh t10 q10 ends fun g2 e s2 he=>q g2 e (fun c o c1 _ c3 _ n=>s2 _ _ c3 (s0.extBut _ _ c1 n)) he)
theorem o6 {Q:Option Value→Shared→Prop} (D:ZipApart z TI TO i1 i2 l1 l2) (hz:Zm s.heap z TI TO) (hI:IsPair s.heap TI (.ref i1) (.ref i2)) (hO:IsPair s.heap TO a b)
 (t1:k.It s.heap i1 l1 j) (t2:k.It s.heap i2 l2 j) (q1:k.Sq s.heap l1 xs) (q2:k.Sq s.heap l2 ys) (ex:xs[j]?=some x) (ey:ys[j]?=some y)
 (q:∀h',Zm h' z TI TO→(∃a b,IsPair h' TO a b)→k.It h' i1 l1 (j+1)→k.It h' i2 l2 (j+1)→IsPair h' s.heap.objs.size x y→h'.objs.size=s.heap.objs.size+1→
  (∀c o,c≠z→c≠TO→c≠i1→c≠i2→s.heap.get? c=some o→h'.get? c=some o)→Q (some (.ref s.heap.objs.size)) {s with heap:=h'}):
 wpAny (model prog w) A (pyNext (.ref z)) Q E s:=by
 obtain ⟨f0,f,hz0,_⟩:=id hz
 have ty:s.TypeIs (.ref z) "zip":=⟨_,hz0,rfl⟩
 rw [pyNext]
 exact wpAny_bind (wpAny_attempt (wpAny_callSpecial?_slot (name:=Str.ofString "__next__") ty F.slot_zip_next (wpAny_call_entry F.slot_zip_next ty F.entry_zip_next
  (qH D hz hI hO t1 t2 q1 q2 ex ey fun h' a1 a2 a3 a4 a5 a6 a7=>wpAny_pure (q h' a1 a2 a3 a4 a5 a6 a7)) (F.args_zip_next_1 _))))
theorem qE {Q:Option Value→Shared→Prop} (hh:A.handled=none) (D:ZipApart z TI TO i1 i2 l1 l2) (hz:Zm s.heap z TI TO) (hI:IsPair s.heap TI (.ref i1) (.ref i2))
 (t1:k.It s.heap i1 l1 j) (q1:k.Sq s.heap l1 xs) (ends:xs[j]?=none)
 (q:∀h',(∀c o,c≠z→c≠TO→c≠i1→c≠i2→s.heap.get? c=some o→h'.get? c=some o)→Q none {s with heap:=h'}):wpAny (model prog w) A (pyNext (.ref z)) Q E s:=by
 obtain ⟨f0,f,hz0,_⟩:=id hz
 have ty:s.TypeIs (.ref z) "zip":=⟨_,hz0,rfl⟩
 rw [pyNext]
 refine wpAny_bind (wpAny_attempt (wpAny_callSpecial?_slot (name:=Str.ofString "__next__") ty F.slot_zip_next (wpAny_call_entry F.slot_zip_next ty F.entry_zip_next (tT hh D hz hI t1 q1 ends fun h' e up he=> ?_) (F.args_zip_next_1 _))))
 obtain ⟨o,e1,e2⟩:=he
 exact wpAny_bind (wpAny_isInstance (T:="StopIteration") (b:=true) ⟨o,e1,e2⟩ isSubtype_stop (wpAny_pure (q _ up)))
theorem qF {Q:Value→Shared→Prop} (hz:Zm s.heap z TI TO) (h:Q (.ref z) s):wpAny (model prog w) A (pyIter (.ref z)) Q E s:=by
 obtain ⟨f0,f,hz,_⟩:=hz
 have ty:s.TypeIs (.ref z) "zip":=⟨_,hz,rfl⟩
 refine wpAny_pyIter_slot ty F.slot_zip_iter (wpAny_call_entry F.slot_zip_iter ty F.entry_zip_iter ?_ (F.args_zip_iter_1 _))
 show wpAny _ _ (ret (.ref z)) _ _ s
 exact wpAny_pure ⟨_,rfl,"zip",_,ty,F.slot_zip_next.lookup,h⟩
end
end Zp
namespace L2
open PySem PySem.Spec PyProof.Rows Zp
theorem n8 {P:Program} {w:World} {K:PySem.W.Frag} {nm:Str} {pos:Pos} {k:Src} (a b z TI TO i1 i2:Addr) (hd: [z,TI,TO,i1,i2].Nodup):
 Turn P w K (.Name nm pos) (Itz k K a b) [z,TI,TO,i1,i2] z (fun i h=>Zm h z TI TO∧IsPair h TI (.ref i1) (.ref i2)∧(∃u v,IsPair h TO u v)∧k.It h i1 a i∧k.It h i2 b i∧a∉ [z,TI,TO,i1,i2]∧b∉ [z,TI,TO,i1,i2]) where
 mem:=by simp
 obj:=fun i h ⟨h1,h2,⟨u,v,h3⟩,h4,h5,_⟩ c hc=>by
  simp only [wY,xc,or_false] at hc
  rcases hc with rfl|rfl|rfl|rfl|rfl
  · obtain ⟨f0,f,h1,_⟩:=h1
    exact ⟨_,h1,fun v e=>by cases (show Data.fields _=Data.cell v from e)⟩
  · exact ⟨_,h2,fun v e=>by cases (show Data.seq _ _=Data.cell v from e)⟩
  · exact ⟨_,h3,fun v e=>by cases (show Data.seq _ _=Data.cell v from e)⟩
  · exact iO h4
  · exact iO h5
 keep:=fun i h h' ⟨h1,h2,⟨u,v,h3⟩,h4,h5,h6⟩ kp=>⟨(by obtain ⟨f0,f,h1,h8⟩:=h1;exact ⟨f0,f,kp z (by simp) _ h1,h8⟩),kp TI (by simp) _ h2,⟨u,v,kp TO (by simp) _ h3⟩,cH h4 fun o e=>kp i1 (by simp) o e,cH h5 fun o e=>kp i2 (by simp) o e,h6⟩
 item:=by
  intro X hP hw hK hc i pins s σ H E I hf ⟨h1,h2,⟨u0,v0,h3⟩,h4,h5,h6,h7⟩ hg
  subst hP hw hK
  obtain ⟨xs,ys,x,y,g1,g2,g3,g4⟩:=hg
  obtain ⟨as,r1,p1,z1⟩:=I.sqk g1
  obtain ⟨bs,r2,p2,z2⟩:=I.sqk g2
  obtain ⟨u,e1,q1⟩:=r1.get g3
  obtain ⟨v,e2,q2⟩:=r2.get g4
  simp only [xR,wY,xc,or_false,not_or,xO,and_true,not_false_eq_true] at hd h6 h7
  obtain ⟨⟨d1,d2,d3,d4⟩,⟨d5,d6,d7⟩,⟨d8,d9⟩,d10⟩:=hd
  have D:ZipApart z TI TO i1 i2 a b:=⟨Ne.symm d1,Ne.symm d2,Ne.symm d3,Ne.symm d4,d5,d6,d7,d8,d9,d10,h6.1,h6.2.2.1,h6.2.2.2.1,h6.2.2.2.2,h7.1,h7.2.2.1,h7.2.2.2.1,h7.2.2.2.2⟩
  refine o6 D h1 h2 h3 h4 h5 p1 p2 (x:=u) (y:=v) (by simpa using e1) (by simpa using e2) fun h'' b1 a2 a3 a4 a5 a6 up=>⟨_,rfl,?_⟩
  refine wpAny_pure ?_
  obtain ⟨f0,f,h1,_⟩:=h1
  have T:=s.heap.objs.size
  have fr:H s.heap.objs.size=none:=I.hok.fresh (wO _)
  have lt:∀ {c:Addr} {o:Obj},s.heap.get? c=some o→c≠s.heap.objs.size:=fun e=>wW (Heap.lt_size e)
  have all:∀c o,c∉ [z,TI,TO,i1,i2]→s.heap.get? c=some o→h''.get? c=some o:=fun c o n e=>by
   simp only [wY,xc,or_false,not_or] at n
   exact up c o n.1 n.2.2.1 n.2.2.2.1 n.2.2.2.2 e
  have nz:s.heap.objs.size≠z:=(lt h1).symm
  have pT:IsPair h'' s.heap.objs.size u v:=a5
  have fp:∀b∈ [z,TI,TO,i1,i2],upd H s.heap.objs.size (.tup [x,y]) b=none:=fun c hc=>by
   have nc:c≠s.heap.objs.size:=by
    simp only [wY,xc,or_false] at hc
    rcases hc with rfl|rfl|rfl|rfl|rfl
    · exact lt h1
    · exact lt h2
    · exact lt h3
    · obtain ⟨o,e,_⟩:=iO h4
      exact lt e
    · obtain ⟨o,e,_⟩:=iO h5
      exact lt e
   rw [af nc]
   exact (hf c hc).1
  refine ⟨.ref s.heap.objs.size,upd H s.heap.objs.size (.tup [x,y]),?_,rfl,⟨_,x,y,rfl,fr,rfl,fun zs hz=> ?_,fun zs hz=> ?_,xb (wK.mp g3).1 z1⟩,⟨b1,?_,a2,a3,a4,?_,?_⟩,fp⟩
  ·
   refine I.call' (s':= {s with heap:=h''}) (ch:= [z,TI,TO,i1,i2]) rfl ⟨fun b o e _ _ hx=>all b o hx e,fun b o e _ _ hx=>⟨o.slots,all b o hx e⟩,fun c o e n _=>by rw [af (lt e)];exact n,fun b o e hx=>⟨o,all b o hx e⟩,fun c zs e=>by rw [af (ar e fr)];exact e,fun c o zs e=>by rw [af (ar e fr)];exact e,fun c ps e=>⟨#[],by rw [af (ar e fr),e];simp⟩⟩ ?_ I.bare fun b hb=> ?_
   · intro c o e
     by_cases hcT:c=s.heap.objs.size
     · subst hcT
       rw [a9] at e
       cases e
       exact ⟨by show 2≤sizeLine;decide,[u,v], .cons q1 (.cons q2 .nil),⟨_,pT,rfl,_,rfl⟩⟩
     · rw [af hcT] at e
       have nb:∀c u,H c=some u→c∉ [z,TI,TO,i1,i2]:=fun c u e hz=>by rw [(hf c hz).1] at e;cases e
       refine (I.hok c o e).stay (fun d v hc q=>all d v ?_ q) (fun d q=> ?_) fun d m q=> ?_
       · rcases hc with hz|hz
         · rw [hz];exact nb c o e
         · exact nb d _ hz
       · rw [af (ar q fr)];exact q
       · rw [af (ar q fr)];exact q
   · obtain ⟨g0,g1,g2,g3,g4,g5⟩:=hf b hb
     exact ⟨g3,g1,g4,g5⟩
  · rw [I.sqk_inj hz g1];exact g3
  · rw [I.sqk_inj hz g2];exact g4
  · exact up _ _ D.TIz D.TITO D.TIi1 D.TIi2 h2
  · simpa using h6
  · simpa using h7
 done:=by
  intro X hP hw hK hc i pins s σ H E I hf ⟨h1,h2,⟨u0,v0,h3⟩,h4,h5,h6,h7⟩ hg
  subst hP hw hK
  obtain ⟨xs,ys,g1,g2,g3⟩:=hg
  obtain ⟨as,r1,p1,z1⟩:=I.sqk g1
  obtain ⟨bs,r2,p2,z2⟩:=I.sqk g2
  have hl:=r1.length
  simp only [xR,wY,xc,or_false,not_or,xO,and_true,not_false_eq_true] at hd h6 h7
  obtain ⟨⟨d1,d2,d3,d4⟩,⟨d5,d6,d7⟩,⟨d8,d9⟩,d10⟩:=hd
  have D:ZipApart z TI TO i1 i2 a b:=⟨Ne.symm d1,Ne.symm d2,Ne.symm d3,Ne.symm d4,d5,d6,d7,d8,d9,d10,h6.1,h6.2.2.1,h6.2.2.2.1,h6.2.2.2.2,h7.1,h7.2.2.1,h7.2.2.2.1,h7.2.2.2.2⟩
  refine qE (I.ok.hd hc) D h1 h2 h4 p1 (by simp;omega) fun h' up=>⟨rfl,I.turneds (t':=s.toks) (fun c o n e=> ?_) hf⟩
  simp only [wY,xc,or_false,not_or] at n
  exact up c o n.1 n.2.2.1 n.2.2.2.1 n.2.2.2.2 e
 self:=fun _ _ _ _ _ st h=>qF st.1 h
section
variable {X:Cx}
theorem rj {k:Src} {nm:Str} {pt:Pos} {x y:Expr} {ta:TA} {p pos:Pos} (hg:Gl X "zip") (hm:X.mg "zip"=none) (ha:PA X [x,y] ta) (hs:starEach [x,y] X.env= [(false,eval x X.env),(false,eval y X.env)]:=by rfl) (hs2:starEach [y] X.env= [(false,eval y X.env)]:=by rfl):
 PI X (.Name nm pt) (.Call (.Name "zip" p) [x,y] [] pos) (iZip k X.K ta):=by
 intro pins s σ H R I h
 refine Call_ (eG I hg hm PyProof.Rows.boot_zip (PyProof.Rows.callWith_type1 (thn (ha pos pins s σ H _ I h) fun us s1 ⟨vs,H1,I1,r1,q1⟩=> ?_) (by rw [hs,hs2]) (by rw [hs2];rfl)))
 obtain ⟨a,b,xs,ys,e,k1,k2,q⟩:=q1
 subst e
 cases r1 with
 |cons r rr=>
  cases rr with
  |cons r' rr=>
   cases rr
   cases r
   cases r'
   obtain ⟨as,_,p1,_⟩:=I1.sqk k1
   obtain ⟨bs,_,p2,_⟩:=I1.sqk k2
   refine qx p1 p2 fun h' hz hI hO t1 t2 sz up=> ?_
   refine wpAny_pyIter_zip (s:= {s1 with heap:=h'}) hz ?_
   have lta:a < s1.heap.objs.size:=by
    cases k
    · obtain ⟨o,e,_⟩:=p1
      exact Heap.lt_size e
    · obtain ⟨o,e,_⟩:=p1
      exact Heap.lt_size e
   have ltb:b < s1.heap.objs.size:=by
    cases k
    · obtain ⟨o,e,_⟩:=p2
      exact Heap.lt_size e
    · obtain ⟨o,e,_⟩:=p2
      exact Heap.lt_size e
   have na:∀j,a≠s1.heap.objs.size+j:=fun j=>wW (xb lta (Nat.le_add_right ..))
   have nb:∀j,b≠s1.heap.objs.size+j:=fun j=>wW (xb ltb (Nat.le_add_right ..))
   have le:∀c∈ [s1.heap.objs.size+4,s1.heap.objs.size+2,s1.heap.objs.size+3,s1.heap.objs.size+0,s1.heap.objs.size+1],s1.heap.objs.size≤c:=fun c hc=>by
    simp only [wY,xc,or_false] at hc
    rcases hc with rfl|rfl|rfl|rfl|rfl<;>exact Nat.le_add_right ..
   refine ⟨s1.heap.objs.size+4,[s1.heap.objs.size+4,s1.heap.objs.size+2,s1.heap.objs.size+3,s1.heap.objs.size+0,s1.heap.objs.size+1],_,_,H1,rfl,I1.kept (t':=s1.toks) up,n8 a b _ _ _ _ _ (by simp),⟨⟨_,_,hz, .inl rfl⟩,hI,⟨_,_,hO⟩,t1,t2,?_,?_⟩,fun c hc=>I1.fpOk (le c hc) (I1.hok.fresh (le c hc)),q⟩
   · simp only [wY,xc,or_false,not_or]
     exact ⟨na 4,na 2,na 3,na 0,na 1⟩
   · simp only [wY,xc,or_false,not_or]
     exact ⟨nb 4,nb 2,nb 3,nb 0,nb 1⟩
end
open PySem PySem.Spec PyProof.Rows
section
variable {X:Cx} {ke ve:Expr} {tk tv:TE} {pos:Pos}
def uk (tk tv:TE):TE:=fun σ H Q=>∀p,H p=none→tk σ (upd H p (.dT [])) fun x H1=>tv σ H1 fun y H2=>∃(b:Addr) (k:List Key),H2 p=some (.dT [])∧x= .ref b∧H2 b=some (.tup (k.map kV))∧Q (.ref p) (upd H2 p (.dT [(k,y)]))
theorem nA (hu:X.A.units+1 < cLine) (hk:PE X ke tk) (hv:PE X ve tv):PE X (.Dict [some ke] [ve] pos) (uk tk tv):=by
 intro pins s σ H Q I h
 have hn:=I.hok.fresh (wO s.heap.objs.size)
 have I1:=I.laid (a:=s.heap.objs.size) (o:= .dT []) (h':=s.heap.push {cls:= .type "dict",data:= .dict #[]}) (t':=s.toks) (fun _ _ q=>Heap.get?_push_of_some _ q) (wO _) (qk s.heap I.big)
 have hl:=pairTrees_length [some ke] [ve] X.env pos rfl rfl
 rw [arm_eval_Dict,zip_pairTrees [some ke] [ve] X.env pos rfl rfl,dictDisplay_pairs _ (by intro e;rw [e] at hl;cases hl) (by rw [hl];show 1 < 17;decide)]
 refine wpAny_bind (wpAny_standAt (wpAny_bind ?_))
 unfold subDict
 refine wpAny_bind (wpAny_alloc ?_)
 refine wpAny_bind (wpAny_holding ?_)
 rw [if_pos (by rw [hl];show 1≤15;decide)]
 refine wpAny_bind (thn ((jb hk hv lH) pins _ σ _ (fun ps H2=>match ps with
  | [(x,y)]=>∃(b:Addr) (k:List Key),H2 s.heap.objs.size=some (.dT [])∧x= .ref b∧H2 b=some (.tup (k.map kV))∧Q (.ref s.heap.objs.size) (upd H2 s.heap.objs.size (.dT [(k,y)]))
  |_=>False) I1 (h _ hn)) fun vs s1 ⟨ps,H2,I2,rel,q⟩=> ?_)
 cases rel with
 |nil=>exact q.elim
 | @cons p0 q0 ps1 qs1 r0 r1=>
  cases r1 with
  | @cons p2 q2 ps2 qs2 r2 r3=>exact q.elim
  |nil=>
   obtain ⟨x,y⟩:=p0
   obtain ⟨u,r⟩:=q0
   obtain ⟨b,k,e1,e2,e3,q⟩:=q
   dsimp only at e2 r0
   subst e2
   obtain ⟨rx,ry⟩:=r0
   cases rx
   refine wpAny_holding ?_
   simp only [List.forIn_cons,List.forIn_nil]
   obtain ⟨z,hd,xs,rel',dd⟩:=tN I2.hok e1
   have hz:xs.length≤sizeLine:=by rw [←Paired.length rel'];exact z
   have hl1:(putK [] k y).length≤sizeLine:=by have:=be ([]:List (List Key×V)) k y;rw [sizeLine_eq];simp at this;omega
   refine wpAny_bind (wpAny_bind (wpAny_bind (wpAny_dictSet_heap (hsz:=hz) (show (tupleKind (aE X.prog X.w)).room X.A from (show X.A.units < cLine by omega)) (dk I2.hok e3) dd fun h' dd' hs=> ?_)))
   refine wpAny_pure (wpAny_pure (wpAny_pure (wpAny_pure (wpAny_pure ?_))))
   obtain ⟨q1,es,ep,hq,h2,h3,h4,_,h5⟩:=dd'
   have e4:putK ([]:List (List Key×V)) k y= [(k,y)]:=cR y rfl
   rw [←e4] at q
   refine ⟨.ref s.heap.objs.size,upd H2 s.heap.objs.size (.dT (putK [] k y)),cW (ob:= .dT (putK [] k y)) I2 (by rw [e1];exact True.intro) hs ⟨q1,hq⟩ ⟨hl1,hd,_,(rel'.put k e3 ry).keeps fun c ys ec=> ?_,q1,es,ep,hq,h2,h3,h4,h5⟩,rfl,q⟩
   rw [af (tH ec e1 (fun z=>nomatch z))]
   exact ec
end
end L2
namespace K61
open PySem L2 Mth Tre Wd Su Tw Fm
abbrev Pq:=Nat×Nat
def kvp (p:Pq):List Key×V:=([kI p.1,kI p.2], .bl true)
def Pts (H:Hp) (vs:List V) (l:List Pq):Prop:=vs.length=l.length∧∀(i:Nat) (p:Pq),l[i]?=some p→∃r,vs[i]?=some (.ref r)∧H r=some (.tup [.int p.1, .int p.2])
theorem Pts.mono {H H':Hp} {vs:List V} {l:List Pq} (h:Pts H vs l) (k:Kd H H'):Pts H' vs l:=⟨h.1,fun i p e=>by
 obtain ⟨r,a,b⟩:=h.2 i p e
 exact ⟨r,a,k.tup _ _ b⟩⟩
theorem Pts.snoc {H:Hp} {vs:List V} {l:List Pq} {r:Addr} {p:Pq} (h:Pts H vs l) (h1:H r=some (.tup [.int p.1, .int p.2])):Pts H (vs++ [.ref r]) (l++ [p]):=by
 refine ⟨by rw [wM,wM,h.1];rfl,fun i q e=> ?_⟩
 rcases xk i l.length with c|c
 · rw [xp c] at e
   obtain ⟨r',a,b⟩:=h.2 i q e
   exact ⟨r',by rw [xp (by rw [h.1];exact c)];exact a,b⟩
 · rw [xu c] at e
   have z:i - l.length=0:=by
    have:=(wK.mp e).1
    simp at this
    omega
   rw [z] at e
   cases e
   exact ⟨r,by rw [xu (by rw [h.1];exact c),h.1,z];rfl,h1⟩
theorem Pts.pop {H:Hp} {vs:List V} {l:List Pq} {p:Pq} (h:Pts H vs (l++ [p])):∃r,vs[vs.length - 1]?=some (.ref r)∧H r=some (.tup [.int p.1, .int p.2])∧Pts H vs.dropLast l:=by
 have hl:=h.1
 rw [wM,x8] at hl
 obtain ⟨r,a,b⟩:=h.2 l.length p (by simp)
 refine ⟨r,by rw [hl];exact a,b,by rw [List.length_dropLast,hl];rfl,fun i q e=> ?_⟩
 have hi:=(wK.mp e).1
 obtain ⟨r',a',b'⟩:=h.2 i q (by rw [xp hi];exact e)
 exact ⟨r',by rw [List.getElem?_dropLast,if_pos (by omega)];exact a',b'⟩
def Stp (us:List Tr) (S:List Pq) (pls:List Nat) (st:Rz.Bd):Prop:=
 (∃pl,st.2.2=some pl∧pl∈pls)∨(st.2.2=none∧∀f as bs,us[st.1]?=some (cal f as)→us[st.2.1]?=some (cal f bs)→∀(k:Nat) a b,as[k]?=some a→bs[k]?=some b→(ix us a,ix us b)∈S)
theorem Stp.mono {us:List Tr} {S S':List Pq} {pls pls':List Nat} {st:Rz.Bd} (h:Stp us S pls st) (hS:∀p∈S,p∈S') (hp:∀l∈pls,l∈pls'):Stp us S' pls' st:=by
 rcases h with ⟨pl,a,b⟩|⟨a,b⟩
 · exact .inl ⟨pl,a,hp _ b⟩
 · exact .inr ⟨a,fun f as bs e1 e2 k x y ex ey=>hS _ (b f as bs e1 e2 k x y ex ey)⟩
def Zst (us:List Tr) (ks:List Rz.Bd) (S:List Pq) (pls:List Nat) (x y:Nat):Prop:=∃(ws:List Rz.Bd) (ord:Nat→Nat),Rz.Way ks x y ws∧(∀st∈ws,ord st.1 < ord st.2.1)∧∀st∈ws,Stp us S pls st
theorem Zst.mono {us:List Tr} {ks:List Rz.Bd} {S S':List Pq} {pls pls':List Nat} {x y:Nat} (h:Zst us ks S pls x y) (hS:∀p∈S,p∈S') (hp:∀l∈pls,l∈pls'):Zst us ks S' pls' x y:=by
 refine hide fun q_ e_=> ?_
 obtain ⟨ws,ord,a,b,c⟩:=h
 subst e_
 exact ⟨ws,ord,a,b,fun st m=>(c st m).mono hS hp⟩
theorem jB {ks:List Rz.Bd} {i x y:Nat} (c:Rz.Con (ks.take i) x y):Rz.Con ks x y:=c.mono fun q m=>List.mem_of_mem_take m
theorem pN {us:List Tr} {ks:List Rz.Bd} (F:Rz.Fo us ks) {x y:Nat} {ws:List Rz.Bd} (w:Rz.Way ks x y ws) {st:Rz.Bd} (m:st∈ws) (e:st.2.2=none):
 ∃f as bs,us[st.1]?=some (cal f as)∧us[st.2.1]?=some (cal f bs)∧as.length=bs.length∧∀(k:Nat) (a b:Tr),as[k]?=some a→bs[k]?=some b→Rz.Con ks (ix us a) (ix us b):=by
 refine hide fun q_ e_=> ?_
 obtain ⟨i,q,hi,eq,hq⟩:=Rz.way_low w st m
 subst e_
 have e3:q.2.2=none:=by rcases hq with rfl|rfl<;>exact e
 refine hide fun q_ e_=> ?_
 obtain ⟨f,as,bs,g1,g2,g3,g4⟩:=F.kin i q eq e3
 subst e_
 rcases hq with rfl|rfl
 · exact ⟨f,as,bs,g1,g2,g3,fun k a b ea eb=>jB (g4 k a b ea eb)⟩
 · exact ⟨f,bs,as,g2,g1,g3.symm,fun k a b ea eb=>(jB (g4 k b a eb ea)).sym⟩
theorem tU {ks:List Rz.Bd} {x y:Nat} {ws:List Rz.Bd} (w:Rz.Way ks x y ws) {st:Rz.Bd} (m:st∈ws):∃q∈ks,Rz.Is q st:=by
 refine hide fun q_ e_=> ?_
 obtain ⟨i,q,hi,eq,hq⟩:=Rz.way_low w st m
 subst e_
 exact ⟨q,wJ eq,hq⟩
theorem mO {us:List Tr} {x:Nat} {f g:Str} {as bs:List Tr} (h:us[x]?=some (cal f as)) (h':us[x]?=some (cal g bs)):f=g∧as=bs:=by
 rw [h] at h'
 have:=wT h'
 unfold cal at this
 injection this with this
 injection this with _ this
 injection this with e1 this
 injection this with e2 _
 injection e1 with e1
 injection e2 with e2
 exact ⟨e1,e2⟩
structure Plc (H H':Hp) (W D PL:Addr) (ks:List Rz.Bd) (n:Nat) (wt S:List Pq) (pls:List Nat):Prop where
 sm:Same H H'
 nW:H W=none
 nD:H D=none
 nP:H PL=none
 wp:W≠PL
 hw:∃wv,H' W=some (.lst wv)∧Pts H' wv wt
 hd:H' D=some (.dT (S.map kvp))
 hp:H' PL=some (.lst (ivs pls))
 nd:S.Nodup
 con:∀p∈S,p.1 < n∧p.2 < n∧Rz.Con ks p.1 p.2
 sub:∀p∈wt,p∈S
 pl:∀l∈pls,∃q∈ks,q.2.2=some l
theorem Plc.same {H H' H'':Hp} {W D PL:Addr} {ks:List Rz.Bd} {n:Nat} {wt S:List Pq} {pls:List Nat} (h:Plc H H' W D PL ks n wt S pls) (s:Same H' H''):Plc H H'' W D PL ks n wt S pls:=
 ⟨h.sm.trans s,h.nW,h.nD,h.nP,h.wp,(by obtain ⟨wv,a,b⟩:=h.hw;exact ⟨wv,s _ _ a,b.mono (Kd.of_same s)⟩),s _ _ h.hd,s _ _ h.hp,h.nd,h.con,h.sub,h.pl⟩
theorem Plc.le {H H':Hp} {W D PL:Addr} {ks:List Rz.Bd} {n:Nat} {wt S:List Pq} {pls:List Nat} (h:Plc H H' W D PL ks n wt S pls):S.length≤n*n:=by
 have:=Fm.sub_len (U:=(List.range n).flatMap fun i=>(List.range n).map fun j=>(i,j)) h.nd fun p m=>xB.mpr ⟨p.1,xj.mpr (h.con p m).1,xq.mpr ⟨p.2,xj.mpr (h.con p m).2.1,rfl⟩⟩
 rw [List.length_flatMap] at this
 have e:∀l:List Nat,(l.map fun _=>n).sum=l.length*n:=fun l=>by
  induction l with
  |nil=>simp
  |cons x l ih=>rw [wZ,ya,ih,wV,Nat.add_mul];omega
 simp only [wL,x3] at this
 rw [e,x3] at this
 exact this
theorem pP {H:Hp} {D:Addr} {kvs:List (List Key×V)} {o:HO} (h:H D=some (.dT kvs)):Kd H (upd H D o):=⟨fun b zs e=>by rw [af (fun z=>by rw [z,h] at e;cases e)];exact e,fun b zs e=>⟨zs,by rw [af (fun z=>by rw [z,h] at e;cases e)];exact e⟩⟩
theorem Plc.place {H H':Hp} {W D PL:Addr} {ks:List Rz.Bd} {n:Nat} {wt S:List Pq} {pls:List Nat} (h:Plc H H' W D PL ks n wt S pls) {l:Nat} (hl:∃q∈ks,q.2.2=some l):
 Plc H (upd H' PL (.lst (ivs pls++ [.int l]))) W D PL ks n wt S (pls++ [l]):=by
 have k:=bO (ys:=ivs pls++ [.int l]) h.hp
 refine ⟨aq h.nP h.sm,h.nW,h.nD,h.nP,h.wp,?_,?_,?_,h.nd,h.con,h.sub,fun l' m=> ?_⟩
 · obtain ⟨wv,a,b⟩:=h.hw
   exact ⟨wv,by rw [af h.wp];exact a,b.mono k⟩
 · rw [af (fun z=>by have:=h.hd;rw [z,h.hp] at this;cases this)]
   exact h.hd
 · rw [a9]
   simp [ivs]
 · rcases x4.mp m with m|m
   · exact h.pl l' m
   · rw [wS.mp m]
     exact hl
theorem pL {S:List Pq} {p:Pq} (h:p∉S):valV (S.map kvp) [kI p.1,kI p.2]=none:=by
 cases e:valV (S.map kvp) [kI p.1,kI p.2] with
 |none=>rfl
 |some z=>
  refine hide fun q_ e_=> ?_
  obtain ⟨q,m,e1,_⟩:=da e
  subst e_
  obtain ⟨q',m',rfl⟩:=xq.mp m
  unfold kvp at e1
  simp only [xH,Sum.inl.injEq,Int.natCast_inj,and_true] at e1
  exact absurd (show p∈S by rw [show p=q' from Prod.ext e1.1.symm e1.2.symm];exact m') h
theorem pK {S:List Pq} {p:Pq} (h:p∈S):∃z,valV (S.map kvp) [kI p.1,kI p.2]=some z:=by
 cases e:valV (S.map kvp) [kI p.1,kI p.2] with
 |none=>exact absurd (xq.mpr ⟨kvp p,xq.mpr ⟨p,h,rfl⟩,rfl⟩) (cZ e)
 |some z=>exact ⟨z,rfl⟩
theorem Plc.seen {H H':Hp} {W D PL T:Addr} {ks:List Rz.Bd} {n:Nat} {wt S:List Pq} {pls:List Nat} (h:Plc H H' W D PL ks n wt S pls) {p:Pq} (hT:H' T=some (.tup [.int p.1, .int p.2])) (np:p∉S) (hc:p.1 < n∧p.2 < n∧Rz.Con ks p.1 p.2)
 {wv:List V} (hw:H' W=some (.lst wv)):Plc H (upd (upd H' D (.dT (S.map kvp++ [([kI p.1,kI p.2], .bl true)]))) W (.lst (wv++ [.ref T]))) W D PL ks n (wt++ [p]) (S++ [p]) pls:=by
 have k1:Kd H' (upd H' D (.dT (S.map kvp++ [([kI p.1,kI p.2], .bl true)]))):=pP h.hd
 have WD:W≠D:=fun z=>by rw [z,h.hd] at hw;cases hw
 have PD:PL≠D:=fun z=>by have:=h.hp;rw [z,h.hd] at this;cases this
 have hw1:(upd H' D (.dT (S.map kvp++ [([kI p.1,kI p.2], .bl true)]))) W=some (.lst wv):=by rw [af WD];exact hw
 have k2:=bO (ys:=wv++ [.ref T]) hw1
 have kk:=k1.trans k2
 refine ⟨aq h.nW (aq h.nD h.sm),h.nW,h.nD,h.nP,h.wp,⟨_,a9,?_⟩,?_,?_,?_,fun q m=> ?_,fun q m=> ?_,h.pl⟩
 · obtain ⟨wv',a,b⟩:=h.hw
   rw [hw] at a
   cases a
   exact (b.mono kk).snoc (kk.tup _ _ hT)
 · rw [af WD.symm,a9,xi]
   rfl
 · rw [af h.wp.symm,af PD]
   exact h.hp
 · rw [xQ]
   exact ⟨h.nd,xR.mpr ⟨xc,xO⟩,fun a ma b mb e=>np (by rw [←wS.mp mb,←e];exact ma)⟩
 · rcases x4.mp m with m|m
   · exact h.con q m
   · rw [wS.mp m]
     exact hc
 · rcases x4.mp m with m|m
   · exact x6 _ (h.sub q m)
   · exact wR _ m
structure Mid (us:List Tr) (ks:List Rz.Bd) (wt S:List Pq) (pls:List Nat) (o p:Pq):Prop where
 mo:o∈S
 mp:p∈S
 z:∀q∈S,q∉wt→q≠p→Zst us ks S pls q.1 q.2
theorem Mid.place {us:List Tr} {ks:List Rz.Bd} {wt S:List Pq} {pls:List Nat} {o p:Pq} (h:Mid us ks wt S pls o p) (l:Nat):Mid us ks wt S (pls++ [l]) o p:=
 ⟨h.mo,h.mp,fun q m n e=>(h.z q m n e).mono (fun _ m=>m) fun l m=>x6 _ m⟩
theorem Mid.seen {us:List Tr} {ks:List Rz.Bd} {wt S:List Pq} {pls:List Nat} {o p:Pq} (h:Mid us ks wt S pls o p) (r:Pq):Mid us ks (wt++ [r]) (S++ [r]) pls o p:=
 ⟨x6 _ h.mo,x6 _ h.mp,fun q m n e=>by
  rcases x4.mp m with m|m
  · exact (h.z q m (fun z=>n (x6 _ z)) e).mono (fun _ m=>x6 _ m) fun l m=>m
  · exact absurd (wR _ m) n⟩
section
variable {P:Program} {w:World} {K:PySem.W.Frag} {mg:Str→Option Value} {base:Heap}
def oz (C:Addr):Sp:=fun vs H Q _=>∃(a lb:Addr) (us:List Tr) (bv:List V) (ks:List Rz.Bd) (x y:Nat),vs= [.ref a, .ref lb, .int x, .int y]∧Fam C H a us∧Fa us∧us.length≤14∧H lb=some (.lst bv)∧Bds H bv ks∧ks.length≤64∧Rz.Fo us ks∧
 (∀q∈ks,q.1 < us.length∧q.2.1 < us.length)∧(∀q∈ks,∀l,q.2.2=some l→l < 60)∧x < us.length∧y < us.length∧Rz.Con ks x y∧
 ∀D (ns:List Int) (pls:List Nat) (S:List Pq) H',H D=none→Same H H'→H' D=some (.lst (ns.map V.int))→ns.Pairwise (· < ·)→(∀n,n∈ns↔n∈pls.map fun (l:Nat)=>(l:Int))→(∀l∈pls,∃q∈ks,q.2.2=some l)→
  (x,y)∈S→(∀p∈S,Zst us ks S pls p.1 p.2)→Q (.ref D) H'
theorem scPla:aM ["family","bonds","one","other","waiting","seen","places","first","last","left","right","place","pair"] ["family","bonds","one","other"] (ag sPla):=⟨rfl,rfl,rfl,by decide +kernel,rfl,by decide +kernel,by decide +kernel⟩
theorem uF {f fW C:Addr} {fd fdW:FuncData} (F:Fun K "places_between" "places_between" sPla f fd) (B:Blt mg) (hC:Fk K C)
 (GW:FnOk P w K mg base CX0 2 fW fdW ["bonds","one","other"] oy) (kW:PySem.W.keepIn K (.ref fW)=true) (bW:Binds K fdW ["bonds","one","other"] []) (mW:mg "way_between"=some (.ref fW)):
 FnOk P w K mg base CX0 3 f fd ["family","bonds","one","other"] (oz C):=by
 refine F.ok scPla (fun vs H Q E h=> ?_) (fun cdv A outer s H vs Q E hr h=> ?_)
 · refine hide fun q_ e_=> ?_
   obtain ⟨a,lb,us,bv,ks,x,y,rfl,_⟩:=h
   subst e_
   rfl
 refine hide fun q_ e_=> ?_
 obtain ⟨a,lb,us,bv,ks,x,y,rfl,hF,hFa,h14,hlb,hB,hk64,hFo,hks,hkl,hx,hy,hcon,k⟩:=h
 subst e_
 have hu:(A.deeper (PyProof.Rows.envOfC "places_between" (ag sPla) s.heap.objs.size f cdv)).units+1 < cLine:=by have:=hr.un;omega
 refine ⟨_,ad (ao (i:=4) scPla.nd rfl (Or.inl rfl) (bE (a8 (bn (a8 (pv 2) (a8 (pv 3) aa))) aa)))
  (ad (ao (i:=5) scPla.nd rfl (Or.inl rfl) (nA hu (bn (a8 (pv 2) (a8 (pv 3) aa))) cn))
  (ad (ao (i:=6) scPla.nd rfl (Or.inl rfl) (bE aa))
  (ad (df PassesOwn.never (dQ (pv 4) fun _=>rfl)
   (ad (iE (iG PySem.F.plainAttrs_list PySem.F.slot_list_pop PySem.F.type_list_pop pA (pv 4)) (cE (n:=2) rfl (aG (aj (i:=7) scPla.nd rfl (Or.inl rfl)) (aG (aj (i:=8) scPla.nd rfl (Or.inl rfl)) c6))))
   (ah (aZ PassesOwn.never rfl (aP (ak GW hr rfl mW kW bW .nil aF (a8 (pv 1) (a8 (pv 7) (a8 (pv 8) aa))))) (cE (n:=3) rfl (aG (aj (i:=9) scPla.nd rfl (Or.inl rfl)) (aG (aj (i:=10) scPla.nd rfl (Or.inl rfl)) (aG (aj (i:=11) scPla.nd rfl (Or.inl rfl)) c6))))
    (ad (ba (eC (iJ (pv 11)) (aR _))
     (ad (bf (cG PySem.F.plainAttrs_list PySem.F.slot_list_append PySem.F.type_list_append aT (pv 6) (a8 (pv 11) aa))) (ah ja)) aL)
    (ah (aZ PassesOwn.never rfl (rj (k:= .tup) rfl B.zi (a8 (aB aH (dg (pv 0) rfl) (pv 9) fun _ _=>rfl) (a8 (aB aH (dg (pv 0) rfl) (pv 10) fun _ _=>rfl) aa))) (aj (i:=12) scPla.nd rfl (Or.inl rfl))
     (ah (ba (eC (eD hu (pv 12) (pv 5)) (by with_unfolding_all rfl))
      (ad (cU hu (pv 5) (pv 12) cn rfl)
      (ah (bf (cG PySem.F.plainAttrs_list PySem.F.slot_list_append PySem.F.type_list_append aT (pv 4) (a8 (pv 12) aa))))) aL)))))))))
  (ah (aJ (am (iV rfl) rfl B.so PyProof.Rows.boot_sorted (a8 (aU (nU rfl) rfl B.se PyProof.Rows.boot_set (a8 (pv 6) aa)) aa))))))),?_⟩
 have hL:(20000:Nat)≤sizeLine:=by decide +kernel
 have hF0:=hF
 refine hide fun q_ e_=> ?_
 obtain ⟨dx,p0,nb,inn,ws0,kvn,iss,h1,h2,h3,h4,h5,h6,h7,h8⟩:=hF
 subst e_
 have h14':us.length*us.length≤196:=Nat.mul_le_mul h14 h14
 refine f8 fun u1 e1=> ?_
 refine ⟨_,rfl,_,rfl,by show 2≤sizeLine;decide,fun T nT=> ?_⟩
 have s1:Same H (upd H T (.tup [.int x, .int y])):=ae nT
 have hT1:(upd H T (.tup [.int x, .int y])) T=some (.tup [.int x, .int y]):=a9
 generalize upd H T (.tup [.int x, .int y])=H1 at s1 hT1 ⊢
 refine ⟨by show 1≤sizeLine;decide,fun W nW=> ?_⟩
 have s2:Same H1 (upd H1 W (.lst [.ref T])):=ae nW
 have hW2:(upd H1 W (.lst [.ref T])) W=some (.lst [.ref T]):=a9
 have nWH:H W=none:=s1.free nW
 have hT2:=s2 _ _ hT1
 have s02:=s1.trans s2
 generalize upd H1 W (.lst [.ref T])=H2 at s2 hW2 hT2 s02 ⊢
 refine au ?_
 dsimp only
 subst e1
 refine f8 fun u2 e2=> ?_
 intro D nD
 have s3:Same H2 (upd H2 D (.dT [])):=ae nD
 have hD3:(upd H2 D (.dT [])) D=some (.dT []):=a9
 have nDH:H D=none:=s02.free nD
 have hW3:=s3 _ _ hW2
 have hT3:=s3 _ _ hT2
 have s03:=s02.trans s3
 generalize upd H2 D (.dT [])=H3 at s3 hD3 hW3 hT3 s03 ⊢
 refine ⟨_,rfl,_,rfl,by show 2≤sizeLine;decide,fun T' nT'=> ?_⟩
 have s4:Same H3 (upd H3 T' (.tup [.int x, .int y])):=ae nT'
 have hT4':(upd H3 T' (.tup [.int x, .int y])) T'=some (.tup [.int x, .int y]):=a9
 have hW4:=s4 _ _ hW3
 have hT4:=s4 _ _ hT3
 have hD4:=s4 _ _ hD3
 have s04:=s03.trans s4
 generalize upd H3 T' (.tup [.int x, .int y])=H4 at s4 hT4' hW4 hT4 hD4 s04 ⊢
 refine ⟨T',[kI x,kI y],hD4,rfl,hT4',?_⟩
 have s05:Same H (upd H4 D (.dT [([kI x,kI y], .bl true)])):=aq nDH s04
 have k5:Kd H4 (upd H4 D (.dT [([kI x,kI y], .bl true)])):=pP hD4
 have hD5:(upd H4 D (.dT [([kI x,kI y], .bl true)])) D=some (.dT [([kI x,kI y], .bl true)]):=a9
 have hT5:=k5.tup _ _ hT4
 have hW5:(upd H4 D (.dT [([kI x,kI y], .bl true)])) W=some (.lst [.ref T]):=by rw [af (fun z=>by rw [z,hD4] at hW4;cases hW4)];exact hW4
 generalize upd H4 D (.dT [([kI x,kI y], .bl true)])=H5 at s05 k5 hD5 hT5 hW5 ⊢
 refine au ?_
 dsimp only
 subst e2
 refine f8 fun u3 e3=> ?_
 refine ⟨by show 0≤sizeLine;decide,fun PL nPL=> ?_⟩
 have s6:Same H5 (upd H5 PL (.lst [])):=ae nPL
 have hP6:(upd H5 PL (.lst [])) PL=some (.lst []):=a9
 have nPH:H PL=none:=s05.free nPL
 have WP:W≠PL:=fun z=>by rw [z,nPL] at hW5;cases hW5
 have hD6:=s6 _ _ hD5
 have hT6:=s6 _ _ hT5
 have hW6:=s6 _ _ hW5
 have s06:=s05.trans s6
 generalize upd H5 PL (.lst [])=H6 at s6 hP6 hD6 hT6 hW6 s06 ⊢
 have pl0:Plc H H6 W D PL ks us.length [(x,y)] [(x,y)] []:=⟨s06,nWH,nDH,nPH,WP,⟨_,hW6,rfl,fun i p e=>by
  cases i with
  |zero=>cases e;exact ⟨T,rfl,hT6⟩
  |succ i=>simp at e⟩,hD6,hP6,by simp,fun p m=>by rw [wS.mp m];exact ⟨hx,hy,hcon⟩,fun p m=>m,fun l m=>(nomatch m)⟩
 refine au ?_
 dsimp only
 subst e3
 refine f8 fun u4 e4=> ?_
 refine ⟨fun m σ H'=>∃(v7 v8 v9 v10 v11 v12:Option V) (wt S:List Pq) (pls:List Nat),σ= [some (.ref a),some (.ref lb),some (.int x),some (.int y),some (.ref W),some (.ref D),some (.ref PL),v7,v8,v9,v10,v11,v12]∧Plc H H' W D PL ks us.length wt S pls∧(x,y)∈S∧(∀p∈S,p∉wt→Zst us ks S pls p.1 p.2)∧pls.length+14*wt.length≤14*S.length∧m=2*(us.length*us.length - S.length)+wt.length,
  ⟨_,none,none,none,none,none,none,[(x,y)],[(x,y)],[],rfl,pl0,wS.mpr rfl,fun p m n=>absurd m n,by simp,rfl⟩,?_⟩
 clear pl0 hD6 hT6 hW6 s06 s6 hP6 hT5 hW5 hD5 s05 k5 hT4 hW4 hD4 s04 hT4' s4
 intro m σ H' z_
 refine hide fun q_ e_=> ?_
 obtain ⟨v7,v8,v9,v10,v11,v12,wt,S,pls,rfl,hP,hoS,hZ,hbd,hm⟩:=z_
 subst e_
 obtain ⟨wv,hwv,hpt⟩:=hP.hw
 have hSl:=hP.le
 refine ⟨_,rfl,!wv.isEmpty, .inl ⟨_,SqL.of hwv,rfl⟩,?_⟩
 rcases List.eq_nil_or_concat wt with e0|⟨wt0,p,e0⟩
 · subst e0
   have ewv:wv= []:=xE.mp hpt.1
   subst ewv
   refine iteF ?_
   subst e4
   refine ⟨_,rfl,PL,pls.map fun (l:Nat)=>(l:Int),rfl,by rw [List.map_map];exact hP.hp,by rw [wL];simp at hbd;omega,fun D1 nD1=> ?_⟩
   have sD1:=ae (o:=sN P w D1 (pls.map fun (l:Nat)=>(l:Int))) nD1
   refine ⟨D1,_,rfl,a9,fun n mn=> ?_,fun D2 ns nD2 up hmem=> ?_⟩
   · obtain ⟨l,ml,rfl⟩:=xq.mp mn
     obtain ⟨q,mq,eq⟩:=hP.pl l ml
     have:=hkl q mq l eq
     omega
   · have sm:=hP.sm.trans sD1
     exact k D2 ns pls S _ (sm.free nD2) (sm.trans (ae nD2)) a9 up hmem hP.pl hoS fun q mq=>hZ q mq xc
 · rw [List.concat_eq_append] at e0
   subst e0
   refine hide fun q_ e_=> ?_
   obtain ⟨r,er,hr',hpt0⟩:=hpt.pop
   subst e_
   have hwl:=hpt.1
   rw [wM,x8] at hwl hbd hm
   have e1:(!wv.isEmpty)=true:=by
    cases wv with
    |nil=>simp at hwl
    |cons _ _=>rfl
   rw [e1]
   refine iteT ⟨_,fun σ' H'' h=>h,?_⟩
   refine bg fun u5 Z5 e5 e6=> ?_
   refine ⟨_,rfl, .inl ⟨rfl,_,SqL.of hwv⟩,W,wv, .ref r,rfl,rfl,hwv,er,?_⟩
   have kw:=bO (ys:=wv.dropLast) hwv
   have hpS:p∈S:=hP.sub p (wR _ (wS.mpr rfl))
   obtain ⟨hp1,hp2,hpc⟩:=hP.con p hpS
   have hP1:Plc H (upd H' W (.lst wv.dropLast)) W D PL ks us.length wt0 S pls:=⟨aq hP.nW hP.sm,hP.nW,hP.nD,hP.nP,hP.wp,⟨_,a9,hpt0.mono kw⟩,by rw [af (fun z=>by have:=hP.hd;rw [z,hwv] at this;cases this)];exact hP.hd,by rw [af hP.wp.symm];exact hP.hp,hP.nd,hP.con,fun q mq=>hP.sub q (x6 _ mq),hP.pl⟩
   have hM1:Mid us ks wt0 S pls (x,y) p:=⟨hoS,hpS,fun q mq nq ne=>hZ q mq fun z=>(x4.mp z).elim nq fun h=>ne (wS.mp h)⟩
   have hr1:=kw.tup _ _ hr'
   generalize upd H' W (.lst wv.dropLast)=H7 at kw hP1 hr1 ⊢
   refine ⟨r,_,rfl,SqT.of hr1,rfl,_,_,rfl,_,_,rfl,rfl,?_⟩
   dsimp only
   subst e5 e6
   refine ⟨_,rfl,_,rfl,_,rfl,lb,bv,ks,us.length,p.1,p.2,rfl,hP1.sm _ _ hlb,hB.mono (Kd.of_same hP1.sm),hk64,by omega,hks,hp1,hp2,hpc,fun Dw wv' ws ord H8 nDw s8 hDw hBw hway hris hwsl=> ?_⟩
   refine ⟨Dw,rfl,⟨wv',SqL.of hDw⟩,?_⟩
   have DwW:Dw≠W:=fun z=>by obtain ⟨_,e,_⟩:=hP1.hw;rw [z,e] at nDw;cases nDw
   have DwD:Dw≠D:=fun z=>by have e:=hP1.hd;rw [z,e] at nDw;cases nDw
   have DwP:Dw≠PL:=fun z=>by have e:=hP1.hp;rw [z,e] at nDw;cases nDw
   refine bc (xs:=wv') (fun i σ H'=>∃(v9 v10 v11 v12:Option V) (wt S:List Pq) (pls:List Nat),σ= [some (.ref a),some (.ref lb),some (.int x),some (.int y),some (.ref W),some (.ref D),some (.ref PL),some (.int p.1),some (.int p.2),v9,v10,v11,v12]∧Plc H H' W D PL ks us.length wt S pls∧H' Dw=some (.lst wv')∧Bds H' wv' ws∧Mid us ks wt S pls (x,y) p∧(∀(j:Nat) (st:Rz.Bd),j < i→ws[j]?=some st→Stp us S pls st)∧pls.length+14*wt.length+14≤14*S.length+i∧2*(us.length*us.length - S.length)+wt.length < m)
    ⟨v9,v10,v11,v12,wt0,S,pls,rfl,hP1.same s8,hDw,hBw,hM1,fun j st hj=>absurd hj (xG _),by omega,by omega⟩ (fun i σ H' _ q=>by obtain ⟨_,_,_,_,_,_,_,_,_,hq,_⟩:=q;exact SqL.of hq) ?_ ?_
   · clear hM1 hP1 hP hZ hbd hm hSl hpt0 hpt hwv er hwl e1 hr' hr1 kw s8 hDw hBw hpS hoS
     intro i v σ H9 ex z_
     refine hide fun q_ e_=> ?_
     obtain ⟨v9,v10,v11,v12,wt,S,pls,rfl,hP,hDw,hBw,hM,hdone,hbd,hlt⟩:=z_
     subst e_
     have hi:i < ws.length:=by rw [←hBw.1];exact (wK.mp ex).1
     obtain ⟨st,est⟩:∃st,ws[i]?=some st:=⟨ws[i],wI hi⟩
     refine hide fun q_ e_=> ?_
     obtain ⟨v',ev,r,rfl,hr'⟩:=hBw.2 i st est
     subst e_
     rw [ex] at ev
     cases ev
     have mst:=wJ est
     refine ⟨r,_,rfl,SqT.of hr',rfl,_,_,rfl,_,_,rfl,_,_,rfl,rfl,?_⟩
     have hpl:=hP.hp
     have hSl:=hP.le
     refine ⟨_,rfl,_,rfl,?_⟩
     cases e3:st.2.2 with
     |some l=>
      refine iteT ?_
      refine ⟨_,rfl, .inl ⟨rfl,_,SqL.of hpl⟩,_,rfl,PL,_, .int l,rfl,rfl,hpl,by unfold ivs;rw [wL];omega,?_⟩
      have kp:=bO (ys:=ivs pls++ [.int l]) hpl
      obtain ⟨q,mq,iq⟩:=tU hway mst
      refine ⟨_,_,_,v12,wt,S,pls++ [l],rfl,hP.place ⟨q,mq,by rcases iq with rfl|rfl<;>exact e3⟩,by rw [af DwP];exact hDw,hBw.mono kp,hM.place l,fun j st' hj ej=> ?_,by rw [wM,x8];omega,hlt⟩
      rcases xk j i with h|h
      · exact (hdone j st' h ej).mono (fun _ m=>m) fun l m=>x6 _ m
      · have:j=i:=by omega
        subst this
        rw [est] at ej
        cases ej
        exact .inl ⟨l,e3,wR _ (wS.mpr rfl)⟩
     |none=>
      refine iteF ?_
      refine hide fun q_ e_=> ?_
      obtain ⟨fn,as,bs,g1,g2,g3,g4⟩:=pN hFo hway mst e3
      subst e_
      obtain ⟨q1,eq1,hq1⟩:=h8 _ _ g1
      obtain ⟨q2,eq2,hq2⟩:=h8 _ _ g2
      have sm:=hP.sm
      refine ⟨_,rfl,a,C,dx,_, .ref inn,rfl,sm _ _ h1,hC.cls,hC.ni,rfl,_,rfl,inn,iss,_, .ref q1,rfl,rfl,SqL.of (sm _ _ h6),aS eq1,
       _,rfl,a,C,dx,_, .ref inn,rfl,sm _ _ h1,hC.cls,hC.ni,rfl,_,rfl,inn,iss,_, .ref q2,rfl,rfl,SqL.of (sm _ _ h6),aS eq2,q1,q2,inr us (cal fn as),inr us (cal fn bs),rfl,SqT.of (sm _ _ hq1),SqT.of (sm _ _ hq2),?_⟩
      have i1:inr us (cal fn as)=as.map fun u=>V.int (ix us u):=rfl
      have i2:inr us (cal fn bs)=bs.map fun u=>V.int (ix us u):=rfl
      have as_lt:∀c,c∈as→ix us c < us.length:=fun c mc=>cq (hFa.2.1 _ (wJ g1) _ mc)
      have bs_lt:∀c,c∈bs→ix us c < us.length:=fun c mc=>cq (hFa.2.1 _ (wJ g2) _ mc)
      refine sw (k:= .tup) (xs:=inr us (cal fn as)) (ys:=inr us (cal fn bs)) (by rw [i1,i2,wL,wL,g3]) (fun n σ H'=>∃(v12:Option V) (wt S:List Pq) (pls:List Nat),σ= [some (.ref a),some (.ref lb),some (.int x),some (.int y),some (.ref W),some (.ref D),some (.ref PL),some (.int p.1),some (.int p.2),some (.int st.1),some (.int st.2.1),some .non,v12]∧Plc H H' W D PL ks us.length wt S pls∧H' Dw=some (.lst wv')∧Bds H' wv' ws∧Mid us ks wt S pls (x,y) p∧(∀(j:Nat) (st:Rz.Bd),j < i→ws[j]?=some st→Stp us S pls st)∧(∀(j:Nat) (c d:Tr),j < n→as[j]?=some c→bs[j]?=some d→(ix us c,ix us d)∈S)∧pls.length+14*wt.length+14≤14*S.length+i∧2*(us.length*us.length - S.length)+wt.length < m)
       ⟨v12,wt,S,pls,rfl,hP,hDw,hBw,hM,hdone,fun j c d hj=>absurd hj (xG _),hbd,hlt⟩ (fun n σ H' _ q=>by obtain ⟨_,_,_,_,_,hP',_⟩:=q;exact ⟨SqT.of (hP'.sm _ _ hq1),SqT.of (hP'.sm _ _ hq2)⟩) ?_ ?_
      · clear hP hDw hBw hM hdone hbd hlt hpl hSl sm hr' ex
        intro n T z1 z2 σ H10 ez1 ez2 nT' z_
        refine hide fun q_ e_=> ?_
        obtain ⟨v12,wt,S,pls,rfl,hP,hDw,hBw,hM,hdone,hin,hbd,hlt⟩:=z_
        subst e_
        rw [i1,wN] at ez1
        rw [i2,wN] at ez2
        obtain ⟨c,ec,rfl⟩:=x5.mp ez1
        obtain ⟨d,ed,rfl⟩:=x5.mp ez2
        have sT:=ae (o:=HO.tup [V.int (ix us c),V.int (ix us d)]) nT'
        have hT:(upd H10 T (.tup [V.int (ix us c),V.int (ix us d)])) T=some (.tup [V.int (ix us c),V.int (ix us d)]):=a9
        have hP':=hP.same sT
        have hDw':=sT _ _ hDw
        have hBw':=hBw.mono (Kd.of_same sT)
        generalize upd H10 T (.tup [V.int (ix us c),V.int (ix us d)])=H11 at sT hT hP' hDw' hBw' ⊢
        refine au ?_
        refine ⟨_,rfl,_,rfl,D,valV (S.map kvp) [kI (ix us c),kI (ix us d)],rfl,DGet.t hP'.hd hT,_,rfl,?_⟩
        have hSl:=hP.le
        by_cases mS:(ix us c,ix us d)∈S
        · obtain ⟨z,ez⟩:=pK mS
          rw [show valV (S.map kvp) [kI (ix us c),kI (ix us d)]=some z from ez]
          refine iteF ?_
          refine ⟨_,wt,S,pls,rfl,hP',hDw',hBw',hM,hdone,fun j c' d' hj ec' ed'=> ?_,hbd,hlt⟩
          rcases xk j n with h|h
          · exact hin j c' d' h ec' ed'
          · have:j=n:=by omega
            subst this
            rw [ec] at ec'
            rw [ed] at ed'
            cases ec'
            cases ed'
            exact mS
        · have ez:=pL mS
          have ez:valV (S.map kvp) [kI (ix us c),kI (ix us d)]=none:=ez
          rw [ez]
          refine iteT ?_
          refine ⟨_,rfl,_,rfl,D,_,rfl,DPut.t (k:= [kI (ix us c),kI (ix us d)]) hP'.hd hT (by rw [wL];omega),?_⟩
          rw [cR _ ez]
          obtain ⟨wv,hwv,hpt⟩:=hP'.hw
          have hwl:=hpt.1
          have WD:W≠D:=fun z=>by have e:=hP'.hd;rw [←z,hwv] at e;cases e
          have hw9:(upd H11 D (.dT (S.map kvp++ [([kI (ix us c),kI (ix us d)], .bl true)]))) W=some (.lst wv):=by rw [af WD];exact hwv
          refine ⟨_,rfl, .inl ⟨rfl,_,SqL.of hw9⟩,_,rfl,W,wv, .ref T,rfl,rfl,hw9,by omega,?_⟩
          have hP9:=hP'.seen (p:=(ix us c,ix us d)) hT mS ⟨as_lt c (wJ ec),bs_lt d (wJ ed),g4 n c d ec ed⟩ hwv
          have hl9:=hP9.le
          rw [wM,x8] at hl9
          have k9:Kd H11 (upd (upd H11 D (.dT (S.map kvp++ [([kI (ix us c),kI (ix us d)], .bl true)]))) W (.lst (wv++ [.ref T]))):=(pP hP'.hd).trans (bO hw9)
          refine ⟨_,_,_,pls,rfl,hP9,by rw [af DwW,af DwD];exact hDw',hBw'.mono k9,hM.seen _,fun j st' hj ej=>(hdone j st' hj ej).mono (fun _ m=>x6 _ m) fun _ m=>m,fun j c' d' hj ec' ed'=> ?_,by rw [wM,wM,x8];omega,by rw [wM,wM,x8];omega⟩
          rcases xk j n with h|h
          · exact x6 _ (hin j c' d' h ec' ed')
          · have:j=n:=by omega
            subst this
            rw [ec] at ec'
            rw [ed] at ed'
            cases ec'
            cases ed'
            exact wR _ (wS.mpr rfl)
      · intro σ H10 z_
        refine hide fun q_ e_=> ?_
        obtain ⟨v12,wt,S,pls,rfl,hP,hDw,hBw,hM,hdone,hin,hbd,hlt⟩:=z_
        subst e_
        refine ⟨_,_,_,v12,wt,S,pls,rfl,hP,hDw,hBw,hM,fun j st' hj ej=> ?_,by omega,hlt⟩
        rcases xk j i with h|h
        · exact hdone j st' h ej
        · have:j=i:=by omega
          subst this
          rw [est] at ej
          cases ej
          refine .inr ⟨e3,fun f' as' bs' e1 e2 n c d ec ed=> ?_⟩
          obtain ⟨_,rfl⟩:=mO g1 e1
          obtain ⟨_,rfl⟩:=mO g2 e2
          exact hin n c d (by rw [i1,wL];exact (wK.mp ec).1) ec ed
   · intro σ H9 z_
     refine hide fun q_ e_=> ?_
     obtain ⟨v9,v10,v11,v12,wt,S,pls,rfl,hP,hDw,hBw,hM,hdone,hbd,hlt⟩:=z_
     subst e_
     have hl:=hBw.1
     refine ⟨_,hlt,_,_,v9,v10,v11,v12,wt,S,pls,rfl,hP,hM.mo,fun q mq nq=> ?_,by omega,rfl⟩
     by_cases e:q=p
     · subst e
       refine ⟨ws,ord,hway,hris,fun st ms=> ?_⟩
       obtain ⟨j,hj,e⟩:=xf ms
       exact hdone j st (by rw [hl];exact hj) (by rw [wI hj,e])
     · exact hM.z q mq nq e
end
end K61
namespace Fm
open PySem L2 Tre Wd Tw
inductive Ev (S:List Tr) (L:List (Tr×Tr)):Tr→Tr→Prop
 |base {s:Tr}:s∈S→Ev S L s s
 |cg {t s s':Tr}:Ev S L t s→Cg S L s s'→s'∈S→Ev S L t s'
 |call (f:Str) (as ss:List Tr):as.length=ss.length→(∀(i:Nat) (a s:Tr),as[i]?=some a→ss[i]?=some s→Ev S L a s)→cal f ss∈S→Ev S L (cal f as) (cal f ss)
section
variable {S S':List Tr} {L:List (Tr×Tr)}
theorem Ev.mem {t s:Tr} (h:Ev S L t s):s∈S:=by
 cases h with
 |base m=>exact m
 |cg _ _ m=>exact m
 |call f as ss _ _ m=>exact m
theorem Ev.own (c:Clt S) {t s:Tr} (h:Ev S L t s):t∈S→Cg S L t s:=by
 induction h with
 |base m=>exact fun _=> .refl _
 |cg _ q _ ih=>exact fun m=>(ih m).trans q
 |call f as ss hl _ m ih=>
  intro mt
  refine .cong f as ss mt m hl fun i a s ea es=>ih i a s ea es (c _ mt a ?_)
  exact wJ ea
theorem Ev.inv {t s:Tr} (h:Ev S L t s):t∈S∨∃f as ss,t=cal f as∧as.length=ss.length∧(∀(i:Nat) (a s:Tr),as[i]?=some a→ss[i]?=some s→Ev S L a s)∧cal f ss∈S∧Cg S L (cal f ss) s:=by
 induction h with
 |base m=>exact .inl m
 |cg _ q _ ih=>
  rcases ih with h|⟨f,as,ss,e,hl,ha,m,q'⟩
  · exact .inl h
  · exact .inr ⟨f,as,ss,e,hl,ha,m,q'.trans q⟩
 |call f as ss hl ha m _=>exact .inr ⟨f,as,ss,rfl,hl,ha,m, .refl _⟩
theorem Ev.fn (c:Clt S):∀(n:Nat) {t s s':Tr},t.depth≤n→Ev S L t s→Ev S L t s'→Cg S L s s':=by
 intro n
 induction n with
 |zero=>
  intro t s s' hd h h'
  rcases h.inv with m|⟨f,as,ss,rfl,_⟩
  · exact (h.own c m).symm.trans (h'.own c m)
  · simp only [Tr.depth] at hd
    omega
 |succ n ih=>
  intro t s s' hd h h'
  by_cases m:t∈S
  · exact (h.own c m).symm.trans (h'.own c m)
  rcases h.inv with q|⟨f,as,ss,rfl,hl,ha,m1,q1⟩
  · exact absurd q m
  rcases h'.inv with q|⟨g,bs,ss',e,hl',hb,m2,q2⟩
  · exact absurd q m
  have e':=Tr.tup.inj e
  simp only [xH,Tr.str.injEq,Tr.tup.injEq,and_true,true_and] at e'
  obtain ⟨rfl,rfl⟩:=e'
  refine (q1.symm.trans (.cong f ss ss' m1 m2 (by omega) fun i x y ex ey=> ?_)).trans q2
  have li:i < as.length:=by rw [hl];exact (wK.mp ex).1
  have ea:=wI li
  refine ih (t:=as[i]) ?_ (ha i _ x ea ex) (hb i _ y ea ey)
  have:=bx (xz li)
  simp only [Tr.depth,Trs.depth] at hd
  omega
theorem Ev.go (c:Clt S) (hL:∀p∈L,p.1∈S∧p.2∈S) {t u:Tr} (h:Cg S' L t u):(∀s,Ev S L t s→Ev S L u s)∧(∀s,Ev S L u s→Ev S L t s):=by
 induction h with
 |refl=>exact ⟨fun _ e=>e,fun _ e=>e⟩
 |symm _ ih=>exact ⟨ih.2,ih.1⟩
 |trans _ _ h1 h2=>exact ⟨fun s e=>h2.1 s (h1.1 s e),fun s e=>h1.2 s (h2.2 s e)⟩
 |ax m=>
  obtain ⟨m1,m2⟩:=hL _ m
  exact ⟨fun s e=> .cg (.base m2) ((Cg.ax m).symm.trans (e.own c m1)) e.mem,fun s e=> .cg (.base m1) ((Cg.ax m).trans (e.own c m2)) e.mem⟩
 |cong f as bs _ _ hl _ ih=>
  have half:∀ {as bs:List Tr},as.length=bs.length→(∀(i:Nat) (a b:Tr),as[i]?=some a→bs[i]?=some b→∀s,Ev S L a s→Ev S L b s)→∀s,Ev S L (cal f as) s→Ev S L (cal f bs) s:=by
   intro as bs hl ih s e
   have fin:∀(ss:List Tr),as.length=ss.length→(∀(i:Nat) (a x:Tr),as[i]?=some a→ss[i]?=some x→Ev S L a x)→cal f ss∈S→Ev S L (cal f bs) (cal f ss):=fun ss hs ha m=>by
    refine .call f bs ss (by omega) (fun i b x eb ex=> ?_) m
    have li:i < as.length:=by rw [hl];exact (wK.mp eb).1
    have ea:=wI li
    exact ih i _ b ea eb x (ha i _ x ea ex)
   by_cases m:cal f as∈S
   · have own:=e.own c m
     refine .cg (fin as rfl (fun i a x ea ex=> ?_) m) own e.mem
     rw [ea] at ex
     cases ex
     exact .base (c _ m a (wJ ea))
   · rcases e.inv with q|⟨g,as',ss,e',hs,ha,m1,q1⟩
     · exact absurd q m
     · have e2:=Tr.tup.inj e'
       simp only [xH,Tr.str.injEq,Tr.tup.injEq,and_true,true_and] at e2
       obtain ⟨rfl,rfl⟩:=e2
       exact .cg (fin ss hs ha m1) q1 e.mem
  exact ⟨half hl fun i a b ea eb=>(ih i a b ea eb).1,half hl.symm fun i b a eb ea=>(ih i a b ea eb).2⟩
theorem qu (c:Clt S) (hL:∀p∈L,p.1∈S∧p.2∈S) {t u:Tr} (ht:t∈S) (hu:u∈S) (h:Cg S' L t u):Cg S L t u:=
 (((Ev.go (S':=S') c hL h).1 t (.base ht)).own c hu).symm
theorem ft (hS:∀x∈S,x∈S') {L':List (Tr×Tr)} (hL:∀p∈L,p∈L') {t u:Tr} (h:Cg S L t u):Cg S' L' t u:=by
 induction h with
 |refl=>exact .refl _
 |symm _ ih=>exact ih.symm
 |trans _ _ h1 h2=>exact h1.trans h2
 |ax m=>exact .ax (hL _ m)
 |cong f as bs m1 m2 hl _ ih=>exact .cong f as bs (hS _ m1) (hS _ m2) hl ih
end
end Fm
namespace Rp
open PySem PySem.Spec PyProof.Rows L2 Tre Srt
mutual
noncomputable def tD:Tr→PyData
 | .non=> .none
 | .bl b=> .bool b
 | .int i=> .int i
 | .str x=> .str x
 | .tup ts=> .tuple (tDs ts)
 | .ls=> .none
noncomputable def tDs:List Tr→List PyData
 | []=> []
 |t::ts=>tD t::tDs ts
end
mutual
def Tt:Tr→Prop
 | .str _=>True
 | .tup ts=>Tts ts
 |_=>False
def Tts:List Tr→Prop
 | []=>True
 |t::ts=>Tt t∧Tts ts
end
mutual
theorem j3:∀(t:Tr),(tD t).depth≤t.depth
 | .non=>by simp [tD,PyData.depth]
 | .bl _=>by simp [tD,PyData.depth]
 | .int _=>by simp [tD,PyData.depth]
 | .str _=>by simp [tD,PyData.depth]
 | .ls=>by simp [tD,PyData.depth]
 | .tup ts=>by
  have:=gT ts
  simp only [tD,PyData.depth,Tr.depth]
  omega
theorem gT:∀(ts:List Tr),PyData.depthAll (tDs ts)≤Trs.depth ts
 | []=>by simp [tDs,PyData.depthAll]
 |t::ts=>by
  have h1:=j3 t
  have h2:=gT ts
  simp only [tDs,PyData.depthAll,Trs.depth]
  omega
end
mutual
theorem l8:∀(t:Tr),Tt t→(tD t).showable=true∧(tD t).hasDict=false
 | .str _,_=>by simp [tD,PyData.showable,PyData.hasDict]
 | .tup ts,h=>by
  unfold Tt at h
  have:=j1 ts h
  simp only [tD,PyData.showable,PyData.hasDict]
  exact this
 | .non,h=>by unfold Tt at h;exact h.elim
 | .bl _,h=>by unfold Tt at h;exact h.elim
 | .int _,h=>by unfold Tt at h;exact h.elim
 | .ls,h=>by unfold Tt at h;exact h.elim
theorem j1:∀(ts:List Tr),Tts ts→PyData.showableAll (tDs ts)=true∧PyData.hasDictAll (tDs ts)=false
 | [],_=>by simp [tDs,PyData.showableAll,PyData.hasDictAll]
 |t::ts,h=>by
  unfold Tts at h
  have h1:=l8 t h.1
  have h2:=j1 ts h.2
  simp only [tDs,PyData.showableAll,PyData.hasDictAll,h1.1,h1.2,h2.1,h2.2]
  exact ⟨rfl,rfl⟩
end
section
variable {X:Cx} {pins:List (Addr×Obj)} {σ:L2.St} {H:Hp} {s:Shared}
mutual
theorem tq (I:Inv X pins σ H s):∀ {t:Tr} {v:V} {u:Value},Tt t→TrAt H v t→RelV v u→∃as,Reads s.heap u (tD t) as
 | .str x,v,u,_,h,r=>by
  unfold TrAt at h
  subst h
  obtain ⟨tk,rfl⟩:=r
  exact ⟨_, .str x tk⟩
 | .tup ts,v,u,ht,h,r=>by
  unfold TrAt at h
  obtain ⟨a,vs,rfl,g,k⟩:=h
  cases r
  obtain ⟨as,o,n,q1,ho,hc,hd⟩:=eY I g
  unfold Tt at ht
  obtain ⟨bs,hb⟩:=oS I ht k q1
  exact ⟨bs, .tuple ho hc hd (by rw [List.toList_toArray];exact hb)⟩
 | .non,_,_,h,_,_=>by unfold Tt at h;exact h.elim
 | .bl _,_,_,h,_,_=>by unfold Tt at h;exact h.elim
 | .int _,_,_,h,_,_=>by unfold Tt at h;exact h.elim
 | .ls,_,_,h,_,_=>by unfold Tt at h;exact h.elim
theorem oS (I:Inv X pins σ H s):∀ {ts:List Tr} {vs:List V} {us:List Value},Tts ts→TrsAt H vs ts→Vals vs us→∃as,ReadsAll s.heap us (tDs ts) as
 | [],vs,us,_,h,r=>by
  unfold TrsAt at h
  subst h
  cases r
  exact ⟨_, .nil⟩
 |t::ts,vs,us,ht,h,r=>by
  obtain ⟨v,vr,rfl,h1,h2⟩:=h.inv
  cases r with
  |cons r1 r2=>
   unfold Tts at ht
   obtain ⟨as,ha⟩:=tq I ht.1 h1 r1
   obtain ⟨bs,hb⟩:=oS I ht.2 h2 r2
   exact ⟨_, .cons ha hb⟩
end
def uu:List V→Hp→VK→Prop:=fun xs H Q=>∃(v:V) (ts:List Tr),xs= [v]∧TrAt H v (.tup ts)∧Tt (.tup ts)∧(Tr.tup ts).depth≤40∧(tD (.tup ts)).shown.length≤sizeLine∧Q (.str (tD (.tup ts)).shown) H
theorem aO (hg:X.A.guards=some []) (hu:X.A.units+60 < cLine):cy X (.builtin "repr") uu:=by
 intro pins s σ H xs us Q I r h
 obtain ⟨v,ts,rfl,hv,ht,hd,hz,q⟩:=h
 obtain ⟨u,rfl,ru⟩:=dw r
 obtain ⟨as,hr⟩:=tq I ht hv ru
 have hs:=l8 _ ht
 have dp:=j3 (.tup ts)
 unfold TrAt at hv
 obtain ⟨a,vs,rfl,g,k⟩:=hv
 cases ru
 exact repr_of_reads' hr hs.1 (PyData.noDict_hsm hs.2) hg (by omega) (fun _ _ e=>e) (fun h' u tk kp=>⟨.str _,H,I.kept (t':=tk) kp,⟨_,rfl⟩,q⟩) hz
end
open PySem L2 Tre Wd Tw Fm Dec
theorem sI:((List.range 26).all fun k=>decide (Builtin.Str.reprChar 39 (97+k)= [97+k]))=true:=by decide +kernel
theorem vy {c:Nat} (h:Ltr c):Builtin.Str.reprChar 39 c= [c]:=by
 unfold Tw.Ltr Trm.Ltr at h
 have:=xT.mp sI (c - 97) (xj.mpr (by omega))
 have e:97+(c - 97)=c:=by omega
 rw [e] at this
 exact of_decide_eq_true this
theorem oX {x:Str} (h:∀c∈cl x,Ltr c):reprQuote x=39:=by
 unfold reprQuote
 rw [if_neg]
 intro e
 rw [xD] at e
 have m:39∈x.cps.toList:=by simpa using e.1
 have:=h 39 m
 unfold Tw.Ltr Trm.Ltr at this
 omega
theorem mh:∀(l:List Nat) (acc:Array Nat),(∀c∈l,Ltr c)→(l.foldl (fun out c=>out++(Builtin.Str.reprChar 39 c).toArray) acc).toList=acc.toList++l
 | [],acc,_=>by simp
 |c::l,acc,h=>by
  rw [List.foldl_cons,vy (h c wP),mh l _ fun d m=>h d (wQ _ m)]
  simp
theorem lE {x:Str} (h:∀c∈cl x,Ltr c):cl (reprText x)=39::cl x++ [39]:=by
 unfold reprText
 rw [oX h]
 show ((x.cps.foldl (fun out c=>out++(Builtin.Str.reprChar 39 c).toArray) #[39]).push 39).toList=_
 rw [Array.toList_push,←Array.foldl_toList,mh x.cps.toList _ h]
 rfl
theorem gB:∀(y:Str) (ys:List Str),cl (Str.join (Str.ofString ", ") (y::ys))=cl y++ys.flatMap fun z=>44::32::cl z
 |y,[]=>by
  show cl y=_
  simp
 |y,z::ys=>by
  show cl (y++Str.ofString ", "++Str.join (Str.ofString ", ") (z::ys))=_
  rw [bp,bp,gB z ys]
  have e:cl (Str.ofString ", ")= [44,32]:=by decide +kernel
  rw [e]
  simp
noncomputable def rp (t:Tr):List Nat:=cl (tD t).shown
noncomputable def more:List Tr→List Nat
 | []=> [41]
 |t::ts=>44::32::(rp t++more ts)
noncomputable def args:List Tr→List Nat
 | []=> []
 | [t]=>rp t++ [44,41]
 |t::u::ts=>rp t++more (u::ts)
theorem lN:∀(ts:List Tr),(PyData.shownAll (tDs ts)).flatMap (fun z=>44::32::cl z)++ [41]=more ts
 | []=>by simp [tDs,PyData.shownAll,more]
 |t::ts=>by
  have:=lN ts
  simp only [tDs,PyData.shownAll,List.flatMap_cons,more,rp,xW,List.append_assoc]
  rw [this]
theorem e40:cl (Str.ofString "(")= [40]:=by decide +kernel
theorem e41:cl (Str.ofString ")")= [41]:=by decide +kernel
theorem wC:cl (Str.ofString ",)")= [44,41]:=by decide +kernel
theorem tt1 (y:Str):cl (tupleText [y])=40::(cl y++ [44,41]):=by
 show cl (Str.ofString "("++Str.join (Str.ofString ", ") [y]++Str.ofString ",)")=_
 rw [bp,bp,gB,e40,wC]
 simp
theorem tt2 (y z:Str) (ys:List Str):cl (tupleText (y::z::ys))=40::(cl y++((z::ys).flatMap (fun z=>44::32::cl z)++ [41])):=by
 have e:((y::z::ys).length==1)=false:=by
  rw [beq_eq_false_iff_ne]
  simp
 unfold tupleText
 rw [e]
 rw [bp,bp,gB]
 show cl (Str.ofString "(")++_++cl (Str.ofString ")")=_
 rw [e40,e41]
 simp
theorem jQ:∀(ts:List Tr),0 < ts.length→rp (.tup ts)=40::args ts
 | [],h=>by simp at h
 | [t],_=>by
  show cl (tD (.tup [t])).shown=40::(cl (tD t).shown++ [44,41])
  simp only [tD,tDs,PyData.shown,PyData.shownAll]
  exact tt1 _
 |t::u::ts,_=>by
  have hm:=lN (u::ts)
  show cl (tD (.tup (t::u::ts))).shown=40::(cl (tD t).shown++more (u::ts))
  rw [←hm]
  simp only [tD,tDs,PyData.shown,PyData.shownAll]
  exact tt2 _ _ _
theorem oO {x:Str} (h:Nm x):rp (.str x)=39::cl x++ [39]:=by
 unfold rp
 simp only [tD,PyData.shown]
 exact lE h.ltr
theorem oP (x:String) (h:((Str.ofString x).cps.toList.all fun c=>decide (97≤c∧c≤122))=true):rp (.str x)=39::cl (Str.ofString x)++ [39]:=by
 unfold rp
 simp only [tD,PyData.shown]
 refine lE fun c m=> ?_
 have h2:=xT.mp h c m
 show 97≤c∧c≤122
 exact of_decide_eq_true h2
theorem dN {x:Str} (h:Nm x):rp (.tup [s_ "name", .str x])=40::39::110::97::109::101::39::44::32::39::(cl x++ [39,41]):=by
 rw [jQ _ (by simp)]
 show 40::(rp (.str "name")++(44::32::(rp (.str x)++ [41])))=_
 rw [oP "name" (by decide +kernel),oO h,show cl (Str.ofString "name")= [110,97,109,101] by decide +kernel]
 simp
theorem dO {f:Str} {ts:List Tr} (h:Nm f) (h0:0 < ts.length):rp (cal f ts)=40::39::99::97::108::108::39::44::32::39::(cl f++(39::44::32::40::(args ts++ [41]))):=by
 rw [jQ _ (by simp)]
 show 40::(rp (.str "call")++(44::32::(rp (.str f)++(44::32::(rp (.tup ts)++ [41])))))=_
 rw [oP "call" (by decide +kernel),oO h,jQ ts h0,show cl (Str.ofString "call")= [99,97,108,108] by decide +kernel]
 simp
theorem nl39:¬Ltr 39:=by unfold Ltr Trm.Ltr;omega
theorem jh {P:Tr→Prop}:∀ {ts us:List Tr} {r s:List Nat},(∀t∈ts,∀u,P u→∀r s,rp t++r=rp u++s→t=u∧r=s)→(∀u∈us,P u)→more ts++r=more us++s→ts=us∧r=s
 | [],[],r,s,_,_,e=>⟨rfl,by simpa [more] using e⟩
 | [],u::us,r,s,_,_,e=>by simp [more] at e
 |t::ts,[],r,s,_,_,e=>by simp [more] at e
 |t::ts,u::us,r,s,ht,hu,e=>by
  have e':rp t++(more ts++r)=rp u++(more us++s):=by simpa [more] using e
  obtain ⟨e1,e2⟩:=ht t wP u (hu u wP) _ _ e'
  obtain ⟨e3,e4⟩:=jh (fun t m=>ht t (wQ _ m)) (fun u m=>hu u (wQ _ m)) e2
  exact ⟨by rw [e1,e3],e4⟩
theorem qA {P:Tr→Prop} {ts us:List Tr} {r s:List Nat} (ht:∀t∈ts,∀u,P u→∀r s,rp t++r=rp u++s→t=u∧r=s) (hu:∀u∈us,P u) (h0:0 < ts.length) (h1:0 < us.length) (e:args ts++r=args us++s):ts=us∧r=s:=by
 match ts,us,h0,h1,ht,hu,e with
 | [t],[u],_,_,ht,hu,e=>
  have e':rp t++([44,41]++r)=rp u++([44,41]++s):=by simpa [args] using e
  obtain ⟨e1,e2⟩:=ht t wP u (hu u wP) _ _ e'
  exact ⟨by rw [e1],by simpa using e2⟩
 | [t],u::v::us,_,_,ht,hu,e=>
  have e':rp t++([44,41]++r)=rp u++(more (v::us)++s):=by simpa [args] using e
  obtain ⟨e1,e2⟩:=ht t wP u (hu u wP) _ _ e'
  simp [more] at e2
 |t::v::ts,[u],_,_,ht,hu,e=>
  have e':rp t++(more (v::ts)++r)=rp u++([44,41]++s):=by simpa [args] using e
  obtain ⟨e1,e2⟩:=ht t wP u (hu u wP) _ _ e'
  simp [more] at e2
 |t::v::ts,u::v'::us,_,_,ht,hu,e=>
  have e':rp t++(more (v::ts)++r)=rp u++(more (v'::us)++s):=by simpa [args] using e
  obtain ⟨e1,e2⟩:=ht t wP u (hu u wP) _ _ e'
  obtain ⟨e3,e4⟩:=jh (fun t m=>ht t (wQ _ m)) (fun u m=>hu u (wQ _ m)) e2
  exact ⟨by rw [e1,e3],e4⟩
theorem ut {t:Tr} (h:Gt t):∀(u:Tr),Gt u→∀(r s:List Nat),rp t++r=rp u++s→t=u∧r=s:=by
 induction h with
 |nm x hx=>
  intro u hu r s e
  cases hu with
  |nm y hy=>
   rw [dN hx,dN hy] at e
   have e':cl x++(39::41::r)=cl y++(39::41::s):=by simpa using e
   obtain ⟨e1,e2⟩:=fQ hx.ltr hy.ltr (eZ nl39) (eZ nl39) e'
   exact ⟨by rw [cl_inj e1],by simpa using e2⟩
  |ap g us hg h0 h3 hh=>
   rw [dN hx,dO hg h0] at e
   simp at e
 |ap f ts hf h0 h3 hh ih=>
  intro u hu r s e
  cases hu with
  |nm y hy=>
   rw [dO hf h0,dN hy] at e
   simp at e
  |ap g us hg g0 g3 gh=>
   rw [dO hf h0,dO hg g0] at e
   have e':cl f++(39::(44::32::40::(args ts++(41::r))))=cl g++(39::(44::32::40::(args us++(41::s)))):=by simpa using e
   obtain ⟨e1,e2⟩:=fQ hf.ltr hg.ltr (eZ nl39) (eZ nl39) e'
   have e3:args ts++(41::r)=args us++(41::s):=by simpa using e2
   obtain ⟨e4,e5⟩:=qA (P:=Gt) ih gh h0 g0 e3
   exact ⟨by rw [cl_inj e1,e4],by simpa using e5⟩
theorem iB {t u:Tr} (h:Gt t) (h':Gt u) (e:(tD t).shown=(tD u).shown):t=u:=(ut h u h' [] [] (by unfold rp;rw [e])).1
theorem tL {t:Tr} (h:Gt t):Tt t:=by
 induction h with
 |nm x hx=>simp [Tt,Tts,s_]
 |ap f ts hf h0 h3 hh ih=>
  have:∀ {l:List Tr},(∀t∈l,Tt t)→Tts l:=by
   intro l
   induction l with
   |nil=>intro _;unfold Tts;trivial
   |cons a l ihl=>intro h;unfold Tts;exact ⟨h a wP,ihl fun t m=>h t (wQ _ m)⟩
  simp only [Tt,Tts,s_]
  exact ⟨trivial,trivial,this ih,trivial⟩
end Rp
namespace Fp
open PySem L2 Tre Wd Tw Fm Dec Rp
structure Bo (t:Tr) (s d:Int):Prop where
 gt:Gt t
 d0:0≤d
 s1:1≤s
 dp:(t.depth:Int)≤2*d+1
 tx:((tmC t).length:Int)≤16*s
 rl:((rp t).length:Int)≤40*s
theorem tP {x:Str} (h:Nm x):Bo (.tup [s_ "name", .str x]) 1 0:=by
 have hx:=h.le
 have hc:(cl x).length=x.length:=bK x
 refine ⟨.nm x h,by omega,by omega,?_,?_,?_⟩
 · simp [Tr.depth,Trs.depth,s_]
 · show ((tmC (.tup [.str "name", .str x])).length:Int)≤16*1
   rw [dn]
   omega
 · rw [dN h]
   simp only [wV,wM,xS]
   omega
inductive Bos:List Tr→List Int→List Int→Prop
 |nil:Bos [] [] []
 |cons {t:Tr} {s d:Int} {ts:List Tr} {ss ds:List Int}:Bo t s d→Bos ts ss ds→Bos (t::ts) (s::ss) (d::ds)
theorem Bos.gt {ts:List Tr} {ss ds:List Int} (h:Bos ts ss ds):∀t∈ts,Gt t:=by
 induction h with
 |nil=>intro t m;cases m
 |cons h1 _ ih=>
  intro t m
  rcases wY.mp m with rfl|m
  · exact h1.gt
  · exact ih t m
theorem Bos.sum {ts:List Tr} {ss ds:List Int} (h:Bos ts ss ds):(ts.length:Int)≤ss.sum:=by
 induction h with
 |nil=>simp
 |cons h1 _ ih=>
  have:=h1.s1
  simp only [wV,ya]
  omega
theorem Bos.depth {ts:List Tr} {ss ds:List Int} {m:Int} (h:Bos ts ss ds) (hm:∀x∈ds,x≤m) (m0:0≤m):(Trs.depth ts:Int)≤2*m+1:=by
 induction h with
 |nil=>simp [Trs.depth];omega
 |cons h1 _ ih=>
  have i1:=ih fun x mx=>hm x (wQ _ mx)
  have i2:=hm _ wP
  have i3:=h1.dp
  simp only [Trs.depth]
  omega
theorem Bos.text {ts:List Tr} {ss ds:List Int} (h:Bos ts ss ds):((tmsC ts).length:Int)≤16*ss.sum+ts.length:=by
 induction h with
 |nil=>simp [tmsC]
 |cons h1 _ ih=>
  have:=h1.tx
  simp only [tmsC,wM,wV,ya]
  omega
theorem Bos.more {ts:List Tr} {ss ds:List Int} (h:Bos ts ss ds):((more ts).length:Int)≤40*ss.sum+2*ts.length+1:=by
 induction h with
 |nil=>simp [Rp.more]
 |cons h1 _ ih=>
  have:=h1.rl
  simp only [Rp.more,wM,wV,ya]
  omega
theorem Bos.args {ts:List Tr} {ss ds:List Int} (h:Bos ts ss ds):((args ts).length:Int)≤40*ss.sum+2*ts.length+2:=by
 cases h with
 |nil=>simp [Rp.args]
 |cons h1 h2=>
  have i1:=h1.rl
  have i2:=h2.more
  cases h2 with
  |nil=>
   simp only [Rp.args,wM,wV,xS,ya,List.sum_nil]
   omega
  |cons h3 h4=>
   simp only [Rp.args,wM,wV,ya] at i2 ⊢
   omega
theorem wF {f:Str} {ts:List Tr} {ss ds:List Int} {m:Int} (hf:Nm f) (h0:0 < ts.length) (h3:ts.length≤3) (h:Bos ts ss ds) (hm:∀x∈ds,x≤m) (m0:0≤m):Bo (cal f ts) (1+ss.sum) (1+m):=by
 have hx:=hf.le
 have hc:(cl f).length=f.length:=bK f
 have hs:=h.sum
 refine ⟨.ap f ts hf h0 h3 h.gt,by omega,by omega,?_,?_,?_⟩
 · have:=h.depth hm m0
   show ((Tr.tup [s_ "call", .str f, .tup ts]).depth:Int)≤_
   simp only [Tr.depth,Trs.depth,s_]
   omega
 · have:=h.text
   show ((tmC (.tup [.str "call", .str f, .tup ts])).length:Int)≤_
   rw [cT]
   simp only [wM,wV,xS]
   omega
 · have:=h.args
   rw [dO hf h0]
   simp only [wM,wV,xS]
   omega
theorem e8 {t:Tr}:(tD t).shown.length=(rp t).length:=(bK _).symm
end Fp
namespace L2
open PySem Tre
noncomputable def cY (f:Expr→Option Tr):List Expr→Option (List Tr)
 | []=>some []
 |e::es=>match f e,cY f es with
  |some t,some ts=>some (t::ts)
  |_,_=>none
noncomputable def litE:Nat→Expr→Option Tr
 |0,_=>none
 |n+1,e=>match e with
  | .Constant (.str x) _ _=>some (.str x)
  | .Constant (.int i) _ _=>some (.int i)
  | .UnaryOp .USub (.Constant (.int i) _ _) _=>some (.int (-i))
  | .Tuple es _ _=>if es.length≤100 then (cY (litE n) es).map .tup else none
  |_=>none
noncomputable def litL (n:Nat):Expr→Option (List Tr)
 | .List es _=>if es.length≤100 then cY (litE n) es else none
 |_=>none
def tLit (t:Tr):TE:=fun _ H Q=>∀v H',Same H H'→TrAt H' v t→Q v H'
def tf (ts:List Tr):TA:=fun _ H Q=>∀vs H',Same H H'→TrsAt H' vs ts→Q vs H'
def vD (ts:List Tr):TE:=fun _ H Q=>∀r vs H',Same H H'→H r=none→H' r=some (.lst vs)→TrsAt H' vs ts→Q (.ref r) H'
section
variable {X:Cx}
theorem PE.imp {e:Expr} {t u:TE} (h:PE X e t) (k:∀σ H Q,u σ H Q→t σ H Q):PE X e u:=fun pins s σ H Q I q=>h pins s σ H Q I (k σ H Q q)
theorem PA.imp {es:List Expr} {t u:TA} (h:PA X es t) (k:∀σ H Q,u σ H Q→t σ H Q):PA X es u:=fun pos pins s σ H Q I q=>h pos pins s σ H Q I (k σ H Q q)
theorem iA {H:Hp} {p:Addr} {o:HO} (h:H p=none):Same H (upd H p o):=fun b u e=>by
 rw [af (ar e h)]
 exact e
theorem Same.none {H H':Hp} {p:Addr} (s:Same H H') (h:H' p=none):H p=none:=by
 cases e:H p with
 |none=>rfl
 |some o=>rw [s p o e] at h;cases h
theorem g9:∀ {n:Nat} {es:List Expr} {ts:List Tr},cY (litE n) es=some ts→ts.length=es.length
 |n,[],ts,h=>by
  rw [cY] at h
  cases h
  rfl
 |n,e::es,ts,h=>by
  rw [cY] at h
  split at h
  · rename_i t us h1 h2
    cases h
    rw [wV,wV,g9 h2]
  · cases h
theorem rC:∀n,∀e t,litE n e=some t→PE X e (tLit t)∧∀es,starEach (e::es) X.env=(false,eval e X.env)::starEach es X.env:=by
 intro n
 induction n with
 |zero=>
  intro e t h
  rw [litE] at h
  cases h
 |succ n ih=>
  have many:∀es ts,cY (litE n) es=some ts→PA X es (tf ts):=by
   intro es
   induction es with
   |nil=>
    intro ts h
    rw [cY] at h
    cases h
    exact PA.imp aa fun σ H Q q=>q [] H (Same.refl H) .nil
   |cons e es ih2=>
    intro ts h
    rw [cY] at h
    split at h
    · rename_i t us h1 h2
      cases h
      obtain ⟨a1,a2⟩:=ih e t h1
      refine PA.imp (a8 a1 (ih2 us h2) (a2 es)) fun σ H Q q=> ?_
      intro v H1 s1 hv ws H2 s2 hw
      exact q (v::ws) H2 (s1.trans s2) (.cons (hv.mono (Kd.of_same s2)) hw)
    · cases h
  intro e t h
  unfold litE at h
  split at h
  · cases h
    exact ⟨PE.imp cF fun σ H Q q=>q _ H (Same.refl H) dF,fun es=>rfl⟩
  · cases h
    exact ⟨PE.imp ai fun σ H Q q=>q _ H (Same.refl H) (by unfold TrAt;rfl),fun es=>rfl⟩
  · cases h
    exact ⟨PE.imp (lL ij ai) fun σ H Q q=>⟨_,rfl,q _ H (Same.refl H) (by unfold TrAt;rfl)⟩,fun es=>rfl⟩
  · rename_i es k pos
    split at h
    · rename_i hl
      obtain ⟨ts,h1,h2⟩:=x5.mp h
      cases h2
      refine ⟨PE.imp (bn (many es ts h1)) fun σ H Q q=> ?_,fun es=>rfl⟩
      intro vs H1 s1 hv
      have l1:=hv.len
      have l2:=g9 h1
      refine ⟨by have:(100:Nat)≤sizeLine:=by decide +kernel
                 omega,fun p np=> ?_⟩
      have s2:=iA (o:= .tup vs) np
      exact q (.ref p) _ (s1.trans s2) (eK a9 (hv.mono (Kd.of_same s2)))
    · cases h
  · cases h
theorem lM (n:Nat):∀ {es:List Expr} {ts:List Tr},cY (litE n) es=some ts→PA X es (tf ts)
 | [],ts,h=>by
  rw [cY] at h
  cases h
  exact PA.imp aa fun σ H Q q=>q [] H (Same.refl H) .nil
 |e::es,ts,h=>by
  rw [cY] at h
  split at h
  · rename_i t us h1 h2
    cases h
    obtain ⟨a1,a2⟩:=rC (X:=X) n e t h1
    refine PA.imp (a8 a1 (lM n h2) (a2 es)) fun σ H Q q=> ?_
    intro v H1 s1 hv ws H2 s2 hw
    exact q (v::ws) H2 (s1.trans s2) (.cons (hv.mono (Kd.of_same s2)) hw)
  · cases h
theorem rB (n:Nat) {e:Expr} {ts:List Tr} (h:litL n e=some ts):PE X e (vD ts):=by
 unfold litL at h
 split at h
 · rename_i es pos
   split at h
   · rename_i hl
     refine PE.imp (bE (lM n h)) fun σ H Q q=> ?_
     intro vs H1 s1 hv
     have l1:=hv.len
     have l2:=g9 h
     refine ⟨by have:(100:Nat)≤sizeLine:=by decide +kernel
                omega,fun p np=> ?_⟩
     have s2:=iA (o:= .lst vs) np
     exact q p vs _ (s1.trans s2) (s1.none np) a9 (hv.mono (Kd.of_same s2))
   · cases h
 · cases h
end
open PySem Tre
noncomputable def eQ (n:Nat):List Expr→Option (List (List Tr))
 | []=>some []
 |e::es=>match litL n e,eQ n es with
  |some t,some ts=>some (t::ts)
  |_,_=>none
noncomputable def lP (n:Nat):Expr→Option (List (List Tr))
 | .List es _=>if es.length≤100 then eQ n es else none
 |_=>none
inductive LsAt (H:Hp):List V→List (List Tr)→Prop
 |nil:LsAt H [] []
 |cons {q:Addr} {vs qs:List V} {row:List Tr} {rows:List (List Tr)}:H q=some (.lst vs)→TrsAt H vs row→LsAt H qs rows→LsAt H (.ref q::qs) (row::rows)
theorem LsAt.same {H H':Hp} (s:Same H H') {qs:List V} {rows:List (List Tr)} (h:LsAt H qs rows):LsAt H' qs rows:=by
 induction h with
 |nil=>exact .nil
 |cons a b _ ih=>exact .cons (s _ _ a) (b.mono (Kd.of_same s)) ih
theorem LsAt.len {H:Hp} {qs:List V} {rows:List (List Tr)} (h:LsAt H qs rows):qs.length=rows.length:=by
 induction h with
 |nil=>rfl
 |cons _ _ _ ih=>rw [wV,wV,ih]
theorem LsAt.get {H:Hp} {qs:List V} {rows:List (List Tr)} (h:LsAt H qs rows):∀ {i:Nat} {row:List Tr},rows[i]?=some row→∃q vs,qs[i]?=some (.ref q)∧H q=some (.lst vs)∧TrsAt H vs row:=by
 induction h with
 |nil=>intro i row e;cases e
 |cons a b _ ih=>
  intro i row e
  cases i with
  |zero=>
   cases e
   exact ⟨_,_,rfl,a,b⟩
  |succ i=>exact ih e
def ui (rows:List (List Tr)):TA:=fun _ H Q=>∀qs H',Same H H'→LsAt H' qs rows→Q qs H'
def uj (rows:List (List Tr)):TE:=fun _ H Q=>∀r qs H',Same H H'→H r=none→H' r=some (.lst qs)→LsAt H' qs rows→Q (.ref r) H'
section
variable {X:Cx}
theorem nj {n:Nat} {e:Expr} {ts:List Tr} (h:litL n e=some ts) (es:List Expr):starEach (e::es) X.env=(false,eval e X.env)::starEach es X.env:=by
 unfold litL at h
 split at h
 · rfl
 · cases h
theorem hE (n:Nat):∀ {es:List Expr} {ts:List (List Tr)},eQ n es=some ts→ts.length=es.length
 | [],ts,h=>by
  rw [eQ] at h
  cases h
  rfl
 |e::es,ts,h=>by
  rw [eQ] at h
  split at h
  · rename_i t us h1 h2
    cases h
    rw [wV,wV,hE n h2]
  · cases h
theorem je (n:Nat):∀ {es:List Expr} {rows:List (List Tr)},eQ n es=some rows→PA X es (ui rows)
 | [],rows,h=>by
  rw [eQ] at h
  cases h
  exact PA.imp aa fun σ H Q q=>q [] H (Same.refl H) .nil
 |e::es,rows,h=>by
  rw [eQ] at h
  split at h
  · rename_i t us h1 h2
    cases h
    refine PA.imp (a8 (rB n h1) (je n h2) (nj h1 es)) fun σ H Q q=> ?_
    intro r vs H1 s1 nr hr hv ws H2 s2 hw
    exact q (.ref r::ws) H2 (s1.trans s2) (.cons (s2 _ _ hr) (hv.mono (Kd.of_same s2)) hw)
  · cases h
theorem jd (n:Nat) {e:Expr} {rows:List (List Tr)} (h:lP n e=some rows):PE X e (uj rows):=by
 unfold lP at h
 split at h
 · rename_i es pos
   split at h
   · rename_i hl
     refine PE.imp (bE (je n h)) fun σ H Q q=> ?_
     intro vs H1 s1 hv
     have l1:=hv.len
     have l2:=hE n h
     refine ⟨by have:(100:Nat)≤sizeLine:=by decide +kernel
                omega,fun p np=> ?_⟩
     have s2:=iA (o:= .lst vs) np
     exact q p vs _ (s1.trans s2) (s1.none np) a9 (hv.same s2)
   · cases h
 · cases h
end
end L2
namespace Fp
open PySem L2 Tre Wd Tw Fm Dec Rp
def nmT (x:Str):Tr:= .tup [s_ "name", .str x]
noncomputable def nmB (x:Str):Bool:=decide (0 < x.length)&&decide (x.length≤8)&&x.cps.toList.all fun c=>decide (97≤c∧c≤122)
theorem pw {x:Str} (h:nmB x=true):Nm x:=by
 unfold nmB at h
 simp only [xD,decide_eq_true_eq,xT] at h
 exact ⟨h.1.1,h.1.2,fun c m=>h.2 c m⟩
theorem rO {x y:Str} (h:nmT x=nmT y):x=y:=by
 unfold nmT at h
 injection h with h
 injection h with _ h
 injection h with h _
 injection h
theorem cJ {t:Tr} (h:Gt t):∃ts,t= .tup ts:=by
 cases h with
 |nm x _=>exact ⟨_,rfl⟩
 |ap f ts _ _ _ _=>exact ⟨_,rfl⟩
def Szs (H:Hp) (kvs:List (Key×V)) (us:List Tr):Prop:=∀t∈us,∃q s d,valV kvs (.inr (tD t).shown)=some (.ref q)∧H q=some (.tup [.int s, .int d])∧Bo t s d∧s≤40∧d≤9
theorem Szs.same {H H':Hp} {kvs:List (Key×V)} {us:List Tr} (s:Same H H') (h:Szs H kvs us):Szs H' kvs us:=fun t m=>by
 obtain ⟨q,a,b,h1,h2,h3⟩:=h t m
 exact ⟨q,a,b,h1,s _ _ h2,h3⟩
theorem Szs.kd {H H':Hp} {kvs:List (Key×V)} {us:List Tr} (s:Kd H H') (h:Szs H kvs us):Szs H' kvs us:=fun t m=>by
 obtain ⟨q,a,b,h1,h2,h3⟩:=h t m
 exact ⟨q,a,b,h1,s.tup _ _ h2,h3⟩
theorem sl5:(100000:Nat)≤sizeLine:=by decide +kernel
theorem rep3 {t:Tr} {s d:Int} (hb:Bo t s d) (hs:s≤40) (hd:d≤9):Tt t∧t.depth≤40∧(tD t).shown.length≤sizeLine:=by
 have h1:=hb.dp
 have h2:=hb.rl
 have h3:=sl5
 refine ⟨tL hb.gt,by omega,?_⟩
 rw [e8]
 omega
theorem Szs.put {H:Hp} {kvs:List (Key×V)} {us:List Tr} {t:Tr} {q:Addr} {s d:Int} (h:Szs H kvs us) (hq:H q=some (.tup [.int s, .int d])) (hb:Bo t s d) (hs:s≤40) (hd:d≤9):Szs H (putK kvs (.inr (tD t).shown) (.ref q)) (us++ [t]):=fun u m=>by
 rw [dG]
 by_cases e:(Sum.inr (tD u).shown:Key)=Sum.inr (tD t).shown
 · rw [if_pos e]
   have gu:Gt u:=by
    rcases x4.mp m with m|m
    · obtain ⟨_,_,_,_,_,z,_⟩:=h u m
      exact z.gt
    · rw [wS.mp m]
      exact hb.gt
   have:=iB gu hb.gt (Sum.inr.inj e)
   subst this
   exact ⟨q,s,d,rfl,hq,hb,hs,hd⟩
 · rw [if_neg e]
   rcases x4.mp m with m|m
   · exact h u m
   · rw [wS.mp m] at e
     exact absurd rfl e
theorem Szs.list {H:Hp} {kvs:List (Key×V)} {us:List Tr} (h:Szs H kvs us):∀(ts:List Tr),(∀t∈ts,t∈us)→∃ss ds:List Int,Bos ts ss ds∧ss.length=ts.length∧ds.length=ts.length∧(∀d∈ds,0≤d)∧
 ∀(i:Nat) (t:Tr),ts[i]?=some t→∃q s d,ss[i]?=some s∧ds[i]?=some d∧valV kvs (.inr (tD t).shown)=some (.ref q)∧H q=some (.tup [.int s, .int d])∧Bo t s d∧s≤40∧d≤9
 | [],_=>⟨[],[], .nil,rfl,rfl,(fun d m=>by cases m),fun i t e=>by cases e⟩
 |t::ts,hm=>by
  obtain ⟨ss,ds,h1,h2,h3,h4,h5⟩:=Szs.list h ts fun u m=>hm u (wQ _ m)
  obtain ⟨q,s,d,e1,e2,e3,e4,e5⟩:=h t (hm t wP)
  refine ⟨s::ss,d::ds, .cons e3 h1,by simp [h2],by simp [h3],?_,?_⟩
  · intro x m
    rcases wY.mp m with rfl|m
    · exact e3.d0
    · exact h4 x m
  · intro i u e
    cases i with
    |zero=>
     cases e
     exact ⟨q,s,d,rfl,rfl,e1,e2,e3,e4,e5⟩
    |succ i=>exact h5 i u e
theorem sO {us:List Tr} {t:Tr} (h:∀u∈us,Gt u) (ht:Gt t) (e:(us.any fun u=>eqT u t)=false):t∉us:=fun m=>by
 have:=List.any_eq_false.mp e t m
 exact this (gp t)
theorem qt {us ts:List Tr} {f:Str} (c:Clt us) (h:∀t∈ts,t∈us):Clt (us++ [cal f ts]):=fun x m y my=>by
 rcases x4.mp m with m|m
 · exact x6 _ (c x m y my)
 · rw [wS.mp m] at my
   rw [j0] at my
   exact x6 _ (h y my)
open PySem L2 Tre Wd Tw Fm Dec Rp
theorem pO {H:Hp} {D:Addr} {kvs:List (Key×V)} {o:HO} (h:H D=some (.dK kvs)):Kd H (upd H D o):=by
 refine ⟨fun b zs e=> ?_,fun b zs e=>⟨zs,?_⟩⟩
 · rw [af (fun z=>by rw [z,h] at e;cases e)];exact e
 · rw [af (fun z=>by rw [z,h] at e;cases e)];exact e
theorem lW {H:Hp} {D:Addr} {xs ys:List V} (h:H D=some (.lst xs)):Kd H (upd H D (.lst ys)):=⟨fun b zs e=>by rw [af (fun z=>by rw [z,h] at e;cases e)];exact e,fun b zs e=>by
 by_cases z:b=D
 · exact ⟨_,by rw [z];exact a9⟩
 · exact ⟨zs,by rw [af z];exact e⟩⟩
theorem j8 {H H':Hp} {D:Addr} {o:HO} (h:H D=none) (s:Same H H'):Same H (upd H' D o):=fun b u e=>by
 rw [af (ar e h)]
 exact s b u e
structure Pl (H H':Hp) (L5 D6 D7:Addr) (hv ws:List V) (us:List Tr) (kvs:List (Key×V)):Prop where
 sm:Same H H'
 n65:D6≠L5
 h5:H' L5=some (.lst hv)
 h6:H' D6=some (.lst ws)
 h7:H' D7=some (.dK kvs)
 tr:TrsAt H' ws us
theorem Pl.same {H H' H'':Hp} {L5 D6 D7:Addr} {hv ws:List V} {us:List Tr} {kvs:List (Key×V)} (s:Same H' H'') (h:Pl H H' L5 D6 D7 hv ws us kvs):Pl H H'' L5 D6 D7 hv ws us kvs:=
 ⟨h.sm.trans s,h.n65,s _ _ h.h5,s _ _ h.h6,s _ _ h.h7,h.tr.mono (Kd.of_same s)⟩
theorem Pl.put {H H':Hp} {L5 D6 D7:Addr} {hv ws:List V} {us:List Tr} {kvs kvs':List (Key×V)} (n7:H D7=none) (h:Pl H H' L5 D6 D7 hv ws us kvs):Pl H (upd H' D7 (.dK kvs')) L5 D6 D7 hv ws us kvs':=
 ⟨j8 n7 h.sm,h.n65,by rw [af (fun z=>by have:=h.h5;rw [z,h.h7] at this;cases this)];exact h.h5,by rw [af (fun z=>by have:=h.h6;rw [z,h.h7] at this;cases this)];exact h.h6,a9,h.tr.mono (pO h.h7)⟩
theorem Pl.app {H H':Hp} {L5 D6 D7:Addr} {hv ws:List V} {us:List Tr} {kvs:List (Key×V)} {v:V} {t:Tr} (n6:H D6=none) (ht:TrAt H' v t) (h:Pl H H' L5 D6 D7 hv ws us kvs):Pl H (upd H' D6 (.lst (ws++ [v]))) L5 D6 D7 hv (ws++ [v]) (us++ [t]) kvs:=
 ⟨j8 n6 h.sm,h.n65,by rw [af h.n65.symm];exact h.h5,a9,by rw [af (fun z=>by have:=h.h7;rw [z,h.h6] at this;cases this)];exact h.h7,TrsAt.app (.cons (ht.mono (lW h.h6)) .nil) (h.tr.mono (lW h.h6))⟩
theorem iZ {H:Hp}:∀ {xs:List Str} {vs:List V},TrsAt H vs (xs.map .str)→vs=xs.map V.str
 | [],vs,h=>xE.mp h.len
 |x::xs,vs,h=>by
  obtain ⟨v,r,e,h1,h2⟩:=TrsAt.inv (t:= .str x) (ts:=xs.map .str) h
  unfold TrAt at h1
  rw [e,h1,iZ h2]
  rfl
theorem jz {xs:List V} {m:Nat} (h:m≤xs.length):cutV xs none (some (m:Int))=xs.take m:=by
 unfold cutV
 rw [HT.sIx_none,HT.sIx_nat,List.drop_zero]
 congr 1
 omega
theorem qq {r:Int} (h0:0≤r) (h7:r < 7):∃c:Nat,atI [V.int 1, .int 1, .int 1, .int 1, .int 2, .int 2, .int 3] r=some (.int (c:Int))∧1≤c∧c≤3:=by
 obtain ⟨j,rfl⟩:∃j:Nat,r=(j:Int):=⟨r.toNat,by omega⟩
 have hj:j=0∨j=1∨j=2∨j=3∨j=4∨j=5∨j=6:=by omega
 rcases hj with rfl|rfl|rfl|rfl|rfl|rfl|rfl
 · exact ⟨1,rfl,by decide,by decide⟩
 · exact ⟨1,rfl,by decide,by decide⟩
 · exact ⟨1,rfl,by decide,by decide⟩
 · exact ⟨1,rfl,by decide,by decide⟩
 · exact ⟨2,rfl,by decide,by decide⟩
 · exact ⟨2,rfl,by decide,by decide⟩
 · exact ⟨3,rfl,by decide,by decide⟩
noncomputable def S2:List (List Str):= [[Str.ofString "a",Str.ofString "b",Str.ofString "c",Str.ofString "d",Str.ofString "e"],[Str.ofString "a",Str.ofString "ab",Str.ofString "abc",Str.ofString "abcd",Str.ofString "abcdefgh"],[Str.ofString "f",Str.ofString "g",Str.ofString "h",Str.ofString "x",Str.ofString "y"]]
noncomputable def S3:List (List Str):= [[Str.ofString "f",Str.ofString "g"],[Str.ofString "a",Str.ofString "ab"],[Str.ofString "f",Str.ofString "fg"]]
theorem vT:∀xs∈S2,xs.length=5∧xs.Nodup∧∀x∈xs,Nm x:=by
 have h:(S2.all fun xs=>decide (xs.length=5)&&decide xs.Nodup&&xs.all nmB)=true:=by decide +kernel
 intro xs m
 have:=xT.mp h xs m
 simp only [xD,decide_eq_true_eq,xT] at this
 exact ⟨this.1.1,this.1.2,fun x mx=>pw (this.2 x mx)⟩
theorem vS:∀xs∈S3,xs.length=2∧∀x∈xs,Nm x:=by
 have h:(S3.all fun xs=>decide (xs.length=2)&&xs.all nmB)=true:=by decide +kernel
 intro xs m
 have:=xT.mp h xs m
 simp only [xD,decide_eq_true_eq,xT] at this
 exact ⟨this.1,fun x mx=>pw (this.2 x mx)⟩
theorem oQ {H:Hp} {qs:List V} {S:List (List Str)} {y:Int} (h:LsAt H qs (S.map (·.map Tr.str))) (h0:0≤y) (h1:y < (S.length:Int)):∃xs∈S,∃q,atI qs y=some (.ref q)∧H q=some (.lst (xs.map V.str)):=by
 obtain ⟨j,rfl⟩:∃j:Nat,y=(j:Int):=⟨y.toNat,by omega⟩
 have hj:j < S.length:=by omega
 obtain ⟨q,vs,e1,e2,e3⟩:=h.get (i:=j) (row:=S[j].map Tr.str) (by rw [wN,wI hj];rfl)
 rw [iZ e3] at e2
 exact ⟨S[j],xz hj,q,aS e1,e2⟩
end Fp
namespace L2
open PySem
theorem bM {te:TE} {i:Nat} {u:TS} {Z:Ends} {σ:L2.St} {H:Hp} (h:te σ H fun v H1=>u Z (σ.set i (some v)) H1):tSeq (tAsg te (cw i)) u Z σ H:=h
theorem oa {r:List V→Hp→VK→Prop} {te:TE} {σ:L2.St} {H:Hp} {Q:VK} (h:te σ H fun v H1=>r [v] H1 Q):tCB r (j4 te tNil) σ H Q:=h
theorem t4 {r:R2} {v:V} {tb:TE} {σ:L2.St} {H:Hp} {Q:VK} (h:tb σ H fun y H2=>r v y H2 Q):tOp r (tC v) tb σ H Q:=h
end L2
namespace K61
open PySem L2 Mth Tre Wd Su Tw Fm
noncomputable def sel (L:List (Tr×Tr)) (pn:List Nat):List (Tr×Tr):=pn.filterMap fun i=>L[i]?
theorem mem_sel {L:List (Tr×Tr)} {pn:List Nat} {q:Tr×Tr}:q∈sel L pn↔∃i∈pn,L[i]?=some q:=List.mem_filterMap
theorem qZ {L:List (Tr×Tr)} {pn pm:List Nat} (h:∀i∈pn,i∈pm):∀q∈sel L pn,q∈sel L pm:=fun q m=>by
 obtain ⟨i,a,b⟩:=mem_sel.mp m
 exact mem_sel.mpr ⟨i,h i a,b⟩
theorem gF {us:List Tr} {L:List (Tr×Tr)} {i:Nat}:(bxs us L)[i]?=(L[i]?).map fun p=>(ix us p.1,ix us p.2,some i):=by
 unfold bxs
 rw [List.getElem?_mapIdx]
theorem mQ {us:List Tr} {L:List (Tr×Tr)} {q:Rz.Bd} (m:q∈bxs us L):∃i p,L[i]?=some p∧q=(ix us p.1,ix us p.2,some i):=by
 obtain ⟨i,hi,e⟩:=xf m
 have e2:(bxs us L)[i]?=some q:=by rw [wI hi,e]
 rw [gF] at e2
 obtain ⟨p,a,b⟩:=x5.mp e2
 exact ⟨i,p,a,b.symm⟩
noncomputable def bsel (us:List Tr) (L:List (Tr×Tr)) (pn:List Nat):List Rz.Bd:=pn.filterMap fun i=>(bxs us L)[i]?
theorem mem_bsel {us:List Tr} {L:List (Tr×Tr)} {pn:List Nat} {q:Rz.Bd}:q∈bsel us L pn↔∃i∈pn,∃p,L[i]?=some p∧q=(ix us p.1,ix us p.2,some i):=by
 unfold bsel
 rw [List.mem_filterMap]
 constructor
 · rintro ⟨i,m,e⟩
   rw [gF] at e
   obtain ⟨p,a,b⟩:=x5.mp e
   exact ⟨i,m,p,a,b.symm⟩
 · intro z_
   refine hide fun q_ e_=> ?_
   obtain ⟨i,m,p,a,b⟩:=z_
   subst e_
   exact ⟨i,m,by rw [gF,a,b];rfl⟩
abbrev but (s:Nat) (pn:List Nat):List Nat:=pn.filter fun n=>decide (n≠s)
theorem mem_but {s n:Nat} {pn:List Nat}:n∈but s pn↔n∈pn∧n≠s:=by
 unfold but
 rw [List.mem_filter,decide_eq_true_iff]
theorem jq:∀ {ns:List Int} {pls:List Nat},(∀n∈ns,n∈pls.map fun (l:Nat)=>(l:Int))→∃pn:List Nat,ns=pn.map fun (l:Nat)=>(l:Int)
 | [],_,_=>⟨[],rfl⟩
 |n::ns,pls,h=>by
  obtain ⟨pn,e⟩:=jq (ns:=ns) (pls:=pls) fun m mm=>h m (wQ _ mm)
  obtain ⟨l,_,el⟩:=xq.mp (h n wP)
  exact ⟨l::pn,by rw [wZ,←e,el]⟩
theorem pz:∀ {pn:List Nat},(pn.map fun (l:Nat)=>(l:Int)).Pairwise (· < ·)→pn.Pairwise (· < ·):=fun {pn} h=>by
 rw [List.pairwise_map] at h
 exact h.imp fun h=>by omega
structure Lst (us:List Tr) (L:List (Tr×Tr)) (t1 t2:Tr) (p0:List Nat) (i:Nat) (pn:List Nat):Prop where
 up:pn.Pairwise (· < ·)
 lt:∀n∈pn,n < L.length
 sb:∀n∈pn,n∈p0
 cg:Cg us (sel L pn) t1 t2
 no:∀(j s:Nat),j < i→p0[j]?=some s→s∈pn→¬Cg us (sel L (but s pn)) t1 t2
theorem Lst.keep {us:List Tr} {L:List (Tr×Tr)} {t1 t2:Tr} {p0 pn:List Nat} {i s:Nat} (h:Lst us L t1 t2 p0 i pn) (es:p0[i]?=some s) (n:¬Cg us (sel L (but s pn)) t1 t2):Lst us L t1 t2 p0 (i+1) pn:=
 ⟨h.up,h.lt,h.sb,h.cg,fun j s' hj e m=>by
  rcases xk j i with c|c
  · exact h.no j s' c e m
  · have:j=i:=by omega
    subst this
    rw [es] at e
    cases e
    exact n⟩
theorem Lst.drop {us:List Tr} {L:List (Tr×Tr)} {t1 t2:Tr} {p0 pn:List Nat} {i s:Nat} (h:Lst us L t1 t2 p0 i pn) (es:p0[i]?=some s) (c:Cg us (sel L (but s pn)) t1 t2):Lst us L t1 t2 p0 (i+1) (but s pn):=
 ⟨h.up.filter _,fun n m=>h.lt n (mem_but.mp m).1,fun n m=>h.sb n (mem_but.mp m).1,c,fun j s' hj e m=>by
  rcases xk j i with cc|cc
  · intro z
    exact h.no j s' cc e (mem_but.mp m).1 (ft (fun _ m=>m) (qZ fun n mn=>mem_but.mpr ⟨(mem_but.mp (mem_but.mp mn).1).1,(mem_but.mp mn).2⟩) z)
  · have:j=i:=by omega
    subst this
    rw [es] at e
    cases e
    exact absurd rfl (mem_but.mp m).2⟩
theorem rR {us:List Tr} {L:List (Tr×Tr)} {ks:List Rz.Bd} {rs:List Nat} (h:Rz.Kp us (bxs us L) ks rs) (hL:∀t∈allT L,t∈us):(∀q∈ks,q.1 < us.length∧q.2.1 < us.length)∧∀q∈ks,∀l,q.2.2=some l→∃p,L[l]?=some p∧p.1∈us∧p.2∈us∧q.1=ix us p.1∧q.2.1=ix us p.2:=by
 have two:∀q∈ks,∀l,q.2.2=some l→∃p,L[l]?=some p∧p.1∈us∧p.2∈us∧q.1=ix us p.1∧q.2.1=ix us p.2:=fun q m l e=>by
  obtain ⟨i,p,a,b⟩:=mQ (h.pl q m (by rw [e];simp))
  have eil:i=l:=by rw [b] at e;exact wT e
  subst eil
  have mp:=wJ a
  exact ⟨p,a,hL _ (xB.mpr ⟨p,mp,by simp⟩),hL _ (xB.mpr ⟨p,mp,by simp⟩),by rw [b],by rw [b]⟩
 refine ⟨fun q m=> ?_,two⟩
 cases e:q.2.2 with
 |some l=>
  refine hide fun q_ e_=> ?_
  obtain ⟨p,_,a,b,c,d⟩:=two q m l e
  subst e_
  rw [c,d]
  exact ⟨cq a,cq b⟩
 |none=>
  obtain ⟨i,hi,e2⟩:=xf m
  refine hide fun q_ e_=> ?_
  obtain ⟨f,as,bs,g1,g2,_⟩:=h.fo.kin i q (by rw [wI hi,e2]) e
  subst e_
  exact ⟨(wK.mp g1).1,(wK.mp g2).1⟩
section
variable {P:Program} {w:World} {K:PySem.W.Frag} {mg:Str→Option Value} {base:Heap}
def jU (C:Addr):Sp:=fun vs H Q _=>∃(a ll:Addr) (us:List Tr) (ps:List V) (L:List (Tr×Tr)) (v1 v2:V) (t1 t2:Tr),vs= [.ref a, .ref ll,v1,v2]∧Fam C H a us∧Fa us∧us.length≤14∧H ll=some (.lst ps)∧TrsAt H ps (L.map pr)∧(∀t∈allT L,t∈us)∧L.length≤60∧TrAt H v1 t1∧TrAt H v2 t2∧t1∈us∧t2∈us∧
 (¬Cg us L t1 t2→∀H',Same H H'→Q .non H')∧(Cg us L t1 t2→∀D (pn:List Nat) H',H D=none→Same H H'→H' D=some (.lst (ivs pn))→pn.Pairwise (· < ·)→(∀n∈pn,n < L.length)→Cg us (sel L pn) t1 t2→(∀s∈pn,¬Cg us (sel L (but s pn)) t1 t2)→Q (.ref D) H')
theorem scReaW:aM ["family","likes","one","other","bonds","first","last","roots","kept","places","place","fewer"] ["family","likes","one","other"] (ag gX):=⟨rfl,rfl,rfl,by decide +kernel,rfl,by decide +kernel,by decide +kernel⟩
theorem rJ {f fB fN fJ fP C:Addr} {fd fdB fdN fdJ fdP:FuncData} (F:Fun K "reason_within" "reason_within" gX f fd) (B:Blt mg)
 (GB:FnOk P w K mg base CX0 43 fB fdB ["family","likes"] (oJ C)) (kB:PySem.W.keepIn K (.ref fB)=true) (bB:Binds K fdB ["family","likes"] []) (mB:mg "bonds_of"=some (.ref fB))
 (GN:FnOk P w K mg base CX0 42 fN fdN ["family","term"] (j5 C)) (kN:PySem.W.keepIn K (.ref fN)=true) (bN:Binds K fdN ["family","term"] []) (mN:mg "number_in"=some (.ref fN))
 (GJ:FnOk P w K mg base CX0 4 fJ fdJ ["family","bonds"] (oE C)) (kJ:PySem.W.keepIn K (.ref fJ)=true) (bJ:Binds K fdJ ["family","bonds"] []) (mJ:mg "joined"=some (.ref fJ))
 (GP:FnOk P w K mg base CX0 3 fP fdP ["family","bonds","one","other"] (oz C)) (kP:PySem.W.keepIn K (.ref fP)=true) (bP:Binds K fdP ["family","bonds","one","other"] []) (mP:mg "places_between"=some (.ref fP)):
 FnOk P w K mg base CX0 44 f fd ["family","likes","one","other"] (jU C):=by
 refine F.ok scReaW (fun vs H Q E h=> ?_) (fun cdv A outer s H vs Q E hr h=> ?_)
 · refine hide fun q_ e_=> ?_
   obtain ⟨a,ll,us,ps,L,v1,v2,t1,t2,rfl,_⟩:=h
   subst e_
   rfl
 refine hide fun q_ e_=> ?_
 obtain ⟨a,ll,us,ps,L,v1,v2,t1,t2,rfl,hF,hFa,h14,hll,hps,hLu,hL60,ht1,ht2,m1,m2,kn,kc⟩:=h
 subst e_
 have hrN:Room 42 _:=hr.mono (by omega)
 have hrJ:Room 4 _:=hr.mono (by omega)
 have hrP:Room 3 _:=hr.mono (by omega)
 have nd2:(["left","place"]:List Str).Nodup:=by decide +kernel
 have nd3:(["left","bonds"]:List Str).Nodup:=by decide +kernel
 refine ⟨_,ad (ao (i:=4) scReaW.nd rfl (Or.inr rfl) (ak GB hr rfl mB kB bB .nil aF (a8 (pv 0) (a8 (pv 1) aa))))
  (ad (ux (i:=5) (j:=6) rfl scReaW.nd rfl rfl (by decide) rfl rfl (a8 (ak GN hrN rfl mN kN bN .nil aF (a8 (pv 0) (a8 (pv 2) aa))) (a8 (ak GN hrN rfl mN kN bN .nil aF (a8 (pv 0) (a8 (pv 3) aa))) aa)) rfl)
  (ad (iE (ak GJ hrJ rfl mJ kJ bJ .nil aF (a8 (pv 0) (a8 (pv 4) aa))) (cE (n:=2) rfl (aG (aj (i:=7) scReaW.nd rfl (Or.inl rfl)) (aG (aj (i:=8) scReaW.nd rfl (Or.inl rfl)) c6))))
  (ad (ba (aN eO (aB aH (pv 7) (pv 5) fun _ _=>rfl) (aB aH (pv 7) (pv 6) fun _ _=>rfl) (aR _)) (ah (aJ kg)) aL)
  (ad (ao (i:=9) scReaW.nd rfl (Or.inl rfl) (ak GP hrP rfl mP kP bP .nil aF (a8 (pv 0) (a8 (pv 8) (a8 (pv 5) (a8 (pv 6) aa))))))
  (ad (aZ PassesOwn.never rfl (aP (aU c8 rfl B.li PyProof.Rows.boot_list (a8 (pv 9) aa))) (aj (i:=10) scReaW.nd rfl (Or.inr rfl))
   (ad (fh (i:=11) (NC:= ["left","place"]) (mp:= [none,some 10]) rfl scReaW.nd rfl rfl rfl (aP (pv 9)) (fun _ _ _ _ _=>aj (i:=0) nd2 rfl (Or.inl rfl)) (fun _ _ _ _ _=>f9 (aN eO (pv 0) (pv 1) (aR _))) (fun _ _ _ _ _=>pv 0))
   (ad (iE (ak GJ hrJ rfl mJ kJ bJ .nil aF (a8 (pv 0) (a8 (bU (NC:= ["left","bonds"]) (mp:= [none,some 4]) rfl (aP (pv 11)) (fun _ _ _ _ _=>aj (i:=0) nd3 rfl (Or.inl rfl)) (fun _ _ _ _ _=>bz) (fun _ _ _ _ _=>aB (r:=rIxL K) aH (pv 1) (pv 0) fun _ _=>rfl)) aa))) (cE (n:=2) rfl (aG (aj (i:=7) scReaW.nd rfl (Or.inl rfl)) (aG (aj (i:=8) scReaW.nd rfl (Or.inl rfl)) c6))))
   (ah (ba (aN cS (aB aH (pv 7) (pv 5) fun _ _=>rfl) (aB aH (pv 7) (pv 6) fun _ _=>rfl) (aR _)) (ah (ao (i:=9) scReaW.nd rfl (Or.inl rfl) (pv 11))) aL)))))
  (ah (aJ (pv 9)))))))),?_⟩
 have hL:(20000:Nat)≤sizeLine:=by decide +kernel
 have fa:∀t∈us,Gt t∧t.depth≤39∧(tmC t).length≤1000:=hFa.2.2.1
 have nd:=hFa.1
 refine ⟨_,rfl,_,rfl,a,ll,ps,L,us,rfl,hF.nb,hll,hps,fun t mt=>⟨(fa t (hLu t mt)).1,(fa t (hLu t mt)).2.1,(fa t (hLu t mt)).2.2,hLu t mt⟩,by omega,fun bd bv H1 nbd s1 hbd hBv=> ?_⟩
 refine ⟨_,rfl,_,rfl,a,v1,t1,us,rfl,(hF.same s1).nb,ht1.mono (Kd.of_same s1),(fa t1 m1).1,(fa t1 m1).2.1,(fa t1 m1).2.2,m1,fun H2 s2=> ?_⟩
 have s02:=s1.trans s2
 refine ⟨_,rfl,_,rfl,a,v2,t2,us,rfl,(hF.same s02).nb,ht2.mono (Kd.of_same s02),(fa t2 m2).1,(fa t2 m2).2.1,(fa t2 m2).2.2,m2,fun H3 s3=> ?_⟩
 have s03:=s02.trans s3
 have s13:=s2.trans s3
 have hbd3:=s13 _ _ hbd
 have hBv3:=hBv.mono (Kd.of_same s13)
 refine ⟨_,_,rfl,?_⟩
 have okS:∀pn:List Nat,(∀q∈bsel us L pn,q.2.2≠none∧∃p∈sel L pn,p.1∈us∧p.2∈us∧q.1=ix us p.1∧q.2.1=ix us p.2)∧(∀p∈sel L pn,∃q∈bsel us L pn,q.1=ix us p.1∧q.2.1=ix us p.2):=fun pn=>by
  refine ⟨fun q mq=> ?_,fun p mp=> ?_⟩
  · refine hide fun q_ e_=> ?_
    obtain ⟨i,mi,p,ep,rfl⟩:=mem_bsel.mp mq
    subst e_
    have mp:=wJ ep
    exact ⟨by simp,p,mem_sel.mpr ⟨i,mi,ep⟩,hLu _ (xB.mpr ⟨p,mp,by simp⟩),hLu _ (xB.mpr ⟨p,mp,by simp⟩),rfl,rfl⟩
  · obtain ⟨i,mi,ep⟩:=mem_sel.mp mp
    exact ⟨_,mem_bsel.mpr ⟨i,mi,p,ep,rfl⟩,rfl,rfl⟩
 have okA:(∀q∈bxs us L,q.2.2≠none∧∃p∈L,p.1∈us∧p.2∈us∧q.1=ix us p.1∧q.2.1=ix us p.2)∧(∀p∈L,∃q∈bxs us L,q.1=ix us p.1∧q.2.1=ix us p.2):=by
  refine ⟨fun q mq=> ?_,fun p mp=> ?_⟩
  · obtain ⟨i,p,ep,rfl⟩:=mQ mq
    have mp:=wJ ep
    exact ⟨by simp,p,mp,hLu _ (xB.mpr ⟨p,mp,by simp⟩),hLu _ (xB.mpr ⟨p,mp,by simp⟩),rfl,rfl⟩
  · obtain ⟨i,hi,e⟩:=xf mp
    exact ⟨(ix us p.1,ix us p.2,some i),wJ (i:=i) (by rw [gF,wI hi,e];rfl),rfl,rfl⟩
 refine ⟨_,rfl,_,rfl,a,bd,us,L,bxs us L,bv,rfl,hF.same s03,hFa,hbd3,hBv3,okA.1,okA.2,fun T lr kp rs kv ks H4 s4 hT hlr hrl hrn hRS hCs hLs nkp hkp hKv hKp hkl=> ?_⟩
 have s04:=s03.trans s4
 refine ⟨T,_,rfl,SqT.of hT,rfl,_,_,rfl,_,_,rfl,rfl,?_⟩
 have rget:∀ {rs:List Nat} {n r:Nat},rs[n]?=some r→atI (ivs rs) (n:Int)=some (.int r):=fun e=>aS (by rw [wN,e];rfl)
 have l1:ix us t1 < us.length:=cq m1
 have l2:ix us t2 < us.length:=cq m2
 obtain ⟨r1,er1⟩:∃r,rs[ix us t1]?=some r:=⟨rs[ix us t1],wI (by omega)⟩
 obtain ⟨r2,er2⟩:∃r,rs[ix us t2]?=some r:=⟨rs[ix us t2],wI (by omega)⟩
 have iff1:=gr nd hRS hCs hLs m1 m2
 rw [er1,er2,Option.some.injEq] at iff1
 refine ⟨_,rfl,_,rfl,lr,_,_, .int r1,rfl,rfl,SqL.of hlr,rget er1,_,rfl,_,rfl,lr,_,_, .int r2,rfl,rfl,SqL.of hlr,rget er2,rfl,_,rfl,?_⟩
 have ko:=rR hKp hLu
 by_cases e12:r1=r2
 case neg=>
  have en2:¬V.int (r1:Int)=V.int (r2:Int):=fun e=>e12 (xw (V.int.inj e))
  dsimp only
  rw [decide_eq_false en2]
  exact iteT (kn (fun c=>e12 (iff1.mpr c)) _ s04)
 subst e12
 dsimp only
 rw [decide_eq_true rfl]
 refine iteF ?_
 have hcg:=iff1.mp rfl
 have con12:Rz.Con ks (ix us t1) (ix us t2):=hKp.noc _ _ (by omega) (by omega) (by rw [er1,er2])
 refine ⟨_,rfl,_,rfl,_,rfl,_,rfl,a,kp,us,kv,ks,ix us t1,ix us t2,rfl,hF.same s04,hFa,h14,hkp,hKv,by omega,hKp.fo,ko.1,fun q mq l e=> ?_,l1,l2,con12,fun D0 ns pls S H5 nD0 s5 hD0 up mem hpl hoS hZ=> ?_⟩
 · obtain ⟨p,ep,_⟩:=ko.2 q mq l e
   have:=(wK.mp ep).1
   omega
 obtain ⟨pn0,rfl⟩:=jq fun n m=>(mem n).mp m
 have memN:∀l,l∈pn0↔l∈pls:=fun l=>by
  have inj:∀ls:List Nat,(l:Int)∈(ls.map fun (l:Nat)=>(l:Int))↔l∈ls:=fun ls=>by
   constructor
   · intro m
     obtain ⟨l',ml,e⟩:=xq.mp m
     rw [←xw e]
     exact ml
   · exact fun m=>xq.mpr ⟨l,m,rfl⟩
  exact (inj pn0).symm.trans ((mem (l:Int)).trans (inj pls))
 have hst:Lst us L t1 t2 pn0 0 pn0:=by
  refine ⟨pz up,fun n m=> ?_,fun n m=>m,?_,fun j s hj=>absurd hj (xG _)⟩
  · obtain ⟨q,mq,eq⟩:=hpl n ((memN n).mp m)
    obtain ⟨p,ep,_⟩:=ko.2 q mq n eq
    exact (wK.mp ep).1
  · refine Rz.enough (Z:=fun x y=>(x,y)∈S) (pls:=pls) nd hKp.fo (fun q mq pl e mp=> ?_) (fun x y z=> ?_) hFa.2.1 ks.length _ _ hoS (by rw [xt];exact con12) t1 t2 (bh m1) (bh m2)
    · refine hide fun q_ e_=> ?_
      obtain ⟨p,ep,u1,u2,e1,e2⟩:=ko.2 q mq pl e
      subst e_
      exact ⟨p.1,p.2,by rw [e1];exact bh u1,by rw [e2];exact bh u2,mem_sel.mpr ⟨pl,(memN pl).mpr mp,ep⟩⟩
    · exact hZ (x,y) z
 have s05:=s04.trans s5
 have eiv:(pn0.map fun (l:Nat)=>(l:Int)).map V.int=ivs pn0:=by rw [List.map_map];rfl
 rw [eiv] at hD0
 refine ⟨_,rfl,D0,ivs pn0,rfl, .inl (SqL.of hD0),fun lc nlc=> ?_⟩
 have s6:=ae (o:=HO.lst (ivs pn0)) nlc
 have hlc:(upd H5 lc (.lst (ivs pn0))) lc=some (.lst (ivs pn0)):=a9
 have nD0H:H D0=none:=s04.free nD0
 have s06:=s05.trans s6
 have hD06:=s6 _ _ hD0
 have s36:=(s4.trans s5).trans s6
 generalize upd H5 lc (.lst (ivs pn0))=H6 at*
 refine ⟨lc,rfl,⟨_,SqL.of hlc⟩,?_⟩
 have hn0:pn0.length≤60:=by
  have:=Fm.sub_len (U:=List.range L.length) ((pz up).imp fun h=>wW h) fun n m=>xj.mpr (hst.lt n m)
  rw [x3] at this
  omega
 refine bc (xs:=ivs pn0) (fun i σ H'=>∃(v7 v8 v10 v11:Option V) (PA:Addr) (pn:List Nat),σ= [some (.ref a),some (.ref ll),some v1,some v2,some (.ref bd),some (.int (ix us t1)),some (.int (ix us t2)),v7,v8,some (.ref PA),v10,v11]∧Same H6 H'∧H PA=none∧H' PA=some (.lst (ivs pn))∧Lst us L t1 t2 pn0 i pn)
  ⟨_,_,_,_,D0,pn0,rfl,fun _ _ e=>e,nD0H,hD06,hst⟩ (fun i σ H' _ q=>by obtain ⟨_,_,_,_,_,_,_,q,_⟩:=q;exact SqL.of (q _ _ hlc)) ?_ ?_
 · intro i v σ H7 ex z_
   refine hide fun q_ e_=> ?_
   obtain ⟨v7,v8,v10,v11,PA,pn,rfl,s67,nPA,hPA,hLs'⟩:=z_
   subst e_
   rw [wN] at ex
   obtain ⟨s',es,rfl⟩:=x5.mp ex
   have hn:pn.length≤60:=by
    have:=Fm.sub_len (U:=List.range L.length) (hLs'.up.imp fun h=>wW h) fun n m=>xj.mpr (hLs'.lt n m)
    rw [x3] at this
    omega
   have s07:=s06.trans s67
   refine au ?_
   dsimp only
   refine bM ?_
   refine dq (rest:= [some (.int (s':Int))]) rfl ?_
   refine ⟨_,rfl,PA,rfl,⟨_,SqL.of hPA⟩,fun D1 nD1=> ?_⟩
   refine cX (xs:=ivs pn) (fun j acc H8=>Same H7 H8∧H8 D1=some (.lst acc)∧acc=ivs (but s' (pn.take j))) ⟨ae nD1,a9,rfl⟩ (fun j acc H8 q=>SqL.of (q.1 _ _ hPA)) ?_ ?_
   · rintro j x acc H8 hj ex ⟨s8,hd8,rfl⟩
     rw [wN] at ex
     obtain ⟨y,ey,rfl⟩:=x5.mp ex
     rw [wL] at hj
     have bl:∀l:List Nat,(ivs (but s' l)).length≤l.length:=fun l=>by unfold ivs;rw [wL];exact xN _ _
     have tk1:but s' (pn.take (j+1))=but s' (pn.take j)++but s' [y]:=by
      unfold but
      rw [xm,ey]
      show List.filter _ (List.take j pn++ [y])=_
      rw [List.filter_append]
     refine ⟨_,rfl,_,rfl,rfl,_,rfl,?_⟩
     by_cases e:y=s'
     · subst e
       rw [decide_eq_true rfl]
       refine iteF ?_
       refine CompS.mk (by unfold ivs;rw [wL];exact hj) ⟨s8,hd8,?_⟩
       rw [tk1]
       unfold but
       simp
     · have en2:¬V.int (y:Int)=V.int (s':Int):=fun z=>e (xw (V.int.inj z))
       rw [decide_eq_false en2]
       refine iteT ?_
       refine ⟨_,rfl,?_⟩
       have:=bl (pn.take j)
       rw [xh] at this
       refine CompN.mk (by unfold ivs;rw [wL];exact hj) (by omega) hd8 ⟨aq nD1 s8,a9,?_⟩
       rw [tk1]
       unfold but
       simp [ivs,e]
   · rintro acc H8 ⟨s8,hd8,rfl⟩
     unfold ivs at hd8
     rw [wL,xt] at hd8
     have s68:=s67.trans s8
     have s08:=s07.trans s8
     have nD1H:H D1=none:=s07.free nD1
     have hbl:(but s' pn).length≤60:=xI (xN _ _) hn
     refine ⟨_,rfl,?_⟩
     refine bw (rest:= [some (.ref bd)]) rfl ?_
     refine ⟨_,rfl,D1,rfl,⟨_,SqL.of hd8⟩,fun D2 nD2=> ?_⟩
     have hbd8:=(s36.trans s68) _ _ hbd3
     refine cC (xs:=ivs (but s' pn)) (fun j acc H9=>Same H8 H9∧H9 D2=some (.lst acc)∧Bds H9 acc (bsel us L ((but s' pn).take j))∧acc.length≤j) ⟨ae nD2,a9,⟨rfl,fun i p e=>by simp [bsel] at e⟩,wO _⟩ (fun j acc H9 q=>SqL.of (q.1 _ _ hd8)) ?_ ?_
     · rintro j x acc H9 hj ex ⟨s9,hd9,hB9,hal⟩
       rw [wN] at ex
       obtain ⟨y,ey,rfl⟩:=x5.mp ex
       rw [wL] at hj
       have hy:y < L.length:=hLs'.lt y (mem_but.mp (wJ ey)).1
       obtain ⟨p,ep⟩:∃p,L[y]?=some p:=⟨L[y],wI hy⟩
       have eb:(bxs us L)[y]?=some (ix us p.1,ix us p.2,some y):=by rw [gF,ep];rfl
       obtain ⟨v,ev,hv⟩:=(hBv3.mono (Kd.of_same ((s36.trans s68).trans s9))).2 y _ eb
       refine ⟨_,rfl,_,rfl,bd,_,_,v,rfl,rfl,SqL.of (s9 _ _ hbd8),aS ev,?_⟩
       have k9:=bO (ys:=acc++ [v]) hd9
       refine CompN.mk (by unfold ivs;rw [wL];exact hj) (by omega) hd9 ⟨aq nD2 s9,a9,?_,by rw [wM,x8];omega⟩
       have tk1:bsel us L ((but s' pn).take (j+1))=bsel us L ((but s' pn).take j)++ [(ix us p.1,ix us p.2,some y)]:=by
        unfold bsel
        rw [xm,ey]
        show List.filterMap _ (List.take j (but s' pn)++ [y])=_
        rw [List.filterMap_append]
        congr 1
        simp [eb]
       rw [tk1]
       refine (hB9.mono k9).snoc ?_
       obtain ⟨r,e1,e2⟩:=hv
       exact ⟨r,e1,k9.tup _ _ e2⟩
     · rintro acc H9 ⟨s9,hd9,hB9,hal⟩
       unfold ivs at hB9
       rw [wL,xt] at hB9
       have s09:=s08.trans s9
       refine ⟨a,D2,us,sel L (but s' pn),bsel us L (but s' pn),acc,rfl,hF.same s09,hFa,hd9,hB9,(okS _).1,(okS _).2,fun T lr kp rs kv ks H10 s10 hT hlr hrl hrn hRS hCs hLs nkp hkp hKv hKp hkl=> ?_⟩
       refine ⟨T,_,rfl,SqT.of hT,rfl,_,_,rfl,_,_,rfl,rfl,?_⟩
       obtain ⟨r1,er1⟩:∃r,rs[ix us t1]?=some r:=⟨rs[ix us t1],wI (by omega)⟩
       obtain ⟨r2,er2⟩:∃r,rs[ix us t2]?=some r:=⟨rs[ix us t2],wI (by omega)⟩
       have iff1:=gr nd hRS hCs hLs m1 m2
       rw [er1,er2,Option.some.injEq] at iff1
       have s6x:=(s68.trans s9).trans s10
       refine ⟨_,rfl,_,rfl,lr,_,_, .int r1,rfl,rfl,SqL.of hlr,rget er1,_,rfl,_,rfl,lr,_,_, .int r2,rfl,rfl,SqL.of hlr,rget er2,rfl,_,rfl,?_⟩
       by_cases e12:r1=r2
       · rw [e12,decide_eq_true rfl]
         refine iteT ⟨_,rfl,?_⟩
         exact ⟨_,_,_,_,D1,but s' pn,rfl,s6x,nD1H,s10 _ _ (s9 _ _ hd8),hLs'.drop es (iff1.mp e12)⟩
       · have en2:¬V.int (r1:Int)=V.int (r2:Int):=fun e=>e12 (xw (V.int.inj e))
         rw [decide_eq_false en2]
         refine iteF ?_
         exact ⟨_,_,_,_,PA,pn,rfl,s6x,nPA,s10 _ _ (s9 _ _ (s8 _ _ hPA)),hLs'.keep es fun c=>e12 (iff1.mpr c)⟩
 · intro σ H7 z_
   refine hide fun q_ e_=> ?_
   obtain ⟨v7,v8,v10,v11,PA,pn,rfl,s67,nPA,hPA,hLs'⟩:=z_
   subst e_
   refine ⟨_,rfl,kc hcg PA pn H7 nPA (s06.trans s67) hPA hLs'.up hLs'.lt hLs'.cg fun s' ms=> ?_⟩
   obtain ⟨j,hj,e⟩:=xf (hLs'.sb s' ms)
   exact hLs'.no j s' (by unfold ivs;rw [wL];exact hj) (by rw [wI hj,e]) ms
end
end K61
namespace Fp
open PySem L2 Tre Wd Tw Fm Dec Rp
def gK (us:List Tr):Prop:=us.Nodup∧Clt us∧2≤us.length∧us.length≤40∧∀t∈us,Gt t∧t.depth≤39∧(tmC t).length≤1000∧(rp t).length≤1600
end Fp
namespace L2
open PySem PySem.Spec PyProof.Rows
theorem nV {X:Cx} (hc:X.calm=true):cy X (.builtin "max") (fun xs H Q=>∃(p:Addr) (ns:List Int),xs= [.ref p]∧SqL X.K H p (ns.map V.int)∧0 < ns.length∧∀m,m∈ns→(∀x∈ns,x≤m)→Q (.int m) H):=by
 intro pins s σ H xs us Q I r h
 obtain ⟨p,ns,e,hp,h0,q⟩:=h
 subst e
 cases r with
 | @cons _ u _ _ r rr=>
  cases rr
  cases (show u=Value.ref p from r)
  obtain ⟨its,rv,pl,_⟩:=I.list hp
  have hi:=gj rv
  obtain ⟨zs,ez⟩:=hi.allInts.items
  have hl:=pl.isList
  rw [ez] at hl
  have e3:zs.toList.map (·.1)=ns:=by
   rw [←nums_intItems,←ez]
   exact hi.numsOf
  have zl:zs.size=ns.length:=by rw [←e3,wL,wX]
  have nat_:∀i,i < zs.size→ns[i]?=some (numAt zs i):=fun i hi'=>by
   rw [←e3,wN,xg]
   unfold numAt
   rw [xr hi']
   rfl
  refine max_intList (I.ok.hd hc) hl (by omega) fun v h' tk hv hk=> ?_
  obtain ⟨t,rfl⟩:=intItems_at hv
  obtain ⟨b1,b2⟩:=argBest_gt (numAt zs) (zs.size - 1)
  generalize argBest (fun i j=>decide (numAt zs i > numAt zs j)) (zs.size - 1)=k at*
  refine ⟨.int (numAt zs k),H,I.kept hk,⟨_,rfl⟩,q _ (wJ (nat_ k (by omega))) fun x mx=> ?_⟩
  obtain ⟨j,hj,ej⟩:=xf mx
  have:=nat_ j (by omega)
  rw [wI hj,ej] at this
  rw [wT this]
  exact b2 j (by omega)
end L2
namespace K61
open PySem L2 Mth Tre Wd Su Tw Fm Rp Fp
def w6 (K:PySem.W.Frag):List V→Hp→VK→Prop:=fun xs H Q=>∃p ys,xs= [.ref p]∧(SqL K H p ys∨SqT K H p ys)∧Q (.int ys.length) H
theorem nX {X:Cx} {K:PySem.W.Frag} (hK:X.K=K):cy X (.builtin "len") (w6 K):=by
 subst hK
 exact av
noncomputable def subO:Stmt→Expr
 | .Assign _ (.Subscript o _ _) _=>o
 |_=> .Constant .none 0 ⟨0,0,0,0⟩
noncomputable def subW (s:Stmt) (L:Expr):Stmt:=match s with
 | .Assign ts (.Subscript _ i q) p=> .Assign ts (.Subscript L i q) p
 |s=>s
noncomputable def pst (i:Nat):Stmt:=(az db).getD i (.Pass ⟨0,0,0,0⟩)
theorem lit2:lP 9 (subO (pst 1))=some (S2.map (·.map Tr.str)):=rfl
theorem lit3:lP 9 (subO (pst 2))=some (S3.map (·.map Tr.str)):=rfl
theorem sJ:az db=(pst 0)::subW (pst 1) (subO (pst 1))::subW (pst 2) (subO (pst 2))::(az db).drop 3:=rfl
section
variable {P:Program} {w:World} {K:PySem.W.Frag} {mg:Str→Option Value} {base:Heap}
theorem aK:bootBuiltins "repr"=some (.builtin "repr"):=by decide +kernel
theorem scPool:aM ["_law_script","_law_base","_law_most","_law_way","_law_names","_law_heads","_law_pool_here","_law_sizes","_law_term","_law_k","_law_head","_law_count","_law_terms","_law_size","_law_deep"] ["_law_script","_law_base","_law_most"] (ag db):=⟨rfl,rfl,rfl,by decide +kernel,rfl,by decide +kernel,by decide +kernel⟩
def jV (K:PySem.W.Frag):Sp:=fun vs H Q _=>∃(a:Addr) (ns:List Int) (b mo:Nat),vs= [.ref a, .int b, .int (mo:Int)]∧SqL K H a (ns.map V.int)∧ns.length≤63∧b≤1000∧1≤mo∧mo≤35∧
 ∀D ws us H',H D=none→Same H H'→H' D=some (.lst ws)→TrsAt H' ws us→gK us→us.length≤4+mo→Q (.ref D) H'
theorem rK {f fD:Addr} {fd fdD:FuncData} (F:Fun K "_law_pool" "_law_pool" db f fd) (B:Blt mg)
 (GD:FnOk P w K mg base CX0 1 fD fdD ["_law_script","_law_k","_law_many"] (fK K)) (kD:PySem.W.keepIn K (.ref fD)=true) (bD:Binds K fdD ["_law_script","_law_k","_law_many"] []) (mD:mg "_law_draw"=some (.ref fD)):
 FnOk P w K mg base CX0 2 f fd ["_law_script","_law_base","_law_most"] (jV K):=by
 refine F.ok scPool (fun vs H Q E h=> ?_) (fun cdv A outer s H vs Q E hr h=> ?_)
 · refine hide fun q_ e_=> ?_
   obtain ⟨a,ns,b,mo,rfl,_⟩:=h
   subst e_
   rfl
 refine hide fun q_ e_=> ?_
 obtain ⟨a,ns,b,mo,rfl,hS,h63,hb,mo1,mo35,k⟩:=h
 subst e_
 have hu1:=eU hr
 have hu60:(A.deeper (PyProof.Rows.envOfC (Str.ofString "_law_pool") (ag db) s.heap.objs.size f cdv)).units+60 < cLine:=by have:=hr.units;omega
 have hu50:(A.deeper (PyProof.Rows.envOfC (Str.ofString "_law_pool") (ag db) s.heap.objs.size f cdv)).units+50 < cLine:=by have:=hr.units;omega
 have nd5:(["_law_j","_law_script","_law_base","_law_k","_law_pool_here"]:List Str).Nodup:=by decide +kernel
 have nd2:(["_law_term","_law_sizes"]:List Str).Nodup:=by decide +kernel
 have eL2:=lit2
 have eL3:=lit3
 rw [sJ]
 generalize subO (pst 1)=LE2 at eL2 ⊢
 generalize subO (pst 2)=LE3 at eL3 ⊢
 refine ⟨_,ad (ao (i:=3) scPool.nd rfl (Or.inl rfl) (ak GD hr rfl mD kD bD .nil aF (a8 (pv 0) (a8 (pv 1) (a8 ai aa)))))
  (ad (ao (i:=4) scPool.nd rfl (Or.inl rfl) (aB aH (jd 9 eL2) (pv 3) fun _ _=>rfl))
  (ad (ao (i:=5) scPool.nd rfl (Or.inl rfl) (aB aH (jd 9 eL3) (pv 3) fun _ _=>rfl))
  (ad (ao (i:=6) scPool.nd rfl (Or.inr rfl) (bU (NC:= ["_law_name"]) (mp:= [none]) rfl (aP (jc lx (pv 4) lK (lJ (aA aY ai (ak GD hr rfl mD kD bD .nil aF (a8 (pv 0) (a8 (aA aY (pv 1) ai) (a8 ai aa)))))))) (fun _ _ _ _ _=>aj (i:=0) (show (["_law_name"]:List Str).Nodup by decide +kernel) rfl (Or.inl rfl)) (fun _ _ _ _ _=>bz) (fun _ _ _ _ _=>bn (a8 cF (a8 (pv 0) aa)))))
  (ad (ao (i:=7) scPool.nd rfl (Or.inr rfl) dR)
  (ad (aZ PassesOwn.never rfl (aP (pv 6)) (aj (i:=8) scPool.nd rfl (Or.inl rfl)) (ah (cU hu1 (pv 7) (am (aO hr.gd hu60) rfl B.re aK (a8 (pv 8) aa)) (bn (a8 ai (a8 ai aa))) rfl)))
  (ad (aZ PassesOwn.never rfl (bX rfl B.ra (a8 (ak GD hr rfl mD kD bD .nil aF (a8 (pv 0) (a8 (aA aY (pv 1) ai) (a8 (pv 2) aa)))) aa)) (aj (i:=9) scPool.nd rfl (Or.inr rfl))
   (ad (ao (i:=10) scPool.nd rfl (Or.inl rfl) (aB aH (pv 5) (aA fi (ak GD hr rfl mD kD bD .nil aF (a8 (pv 0) (a8 (aA aY (aA aY (pv 1) ai) (aA c9 ai (pv 9))) (a8 ai aa)))) ai) fun _ _=>rfl))
   (ad (ao (i:=11) scPool.nd rfl (Or.inl rfl) (aB aH (bE (a8 ai (a8 ai (a8 ai (a8 ai (a8 ai (a8 ai (a8 ai aa)))))))) (ak GD hr rfl mD kD bD .nil aF (a8 (pv 0) (a8 (aA aY (aA aY (pv 1) ai) (aA c9 ai (pv 9))) (a8 ai aa)))) fun _ _=>rfl))
   (ad (ao (i:=12) scPool.nd rfl (Or.inl rfl) (aU cN rfl B.tu PyProof.Rows.boot_tuple (a8 (bU (NC:= ["_law_j","_law_script","_law_base","_law_k","_law_pool_here"]) (mp:= [none,some 0,some 1,some 9,some 6]) rfl (bX rfl B.ra (a8 (pv 11) aa)) (fun _ _ _ _ _=>aj (i:=0) nd5 rfl (Or.inl rfl)) (fun _ _ _ _ _=>bz)
    (fun _ _ _ _ _=>aB (r:=rIxL K) aH (pv 4) (ak GD hr rfl mD kD bD .nil aF (a8 (pv 1) (a8 (aA aY (aA aY (aA aY (pv 2) ai) (aA c9 ai (pv 3))) (aA c9 ai (pv 0))) (a8 (am (nX (K:=K) rfl) rfl B.le PySem.boot_len (a8 (pv 4) aa)) aa)))) fun _ _=>rfl)) aa)))
   (ad (ao (i:=13) scPool.nd rfl (Or.inl rfl) (aA aY ai (am (nS rfl) rfl B.su qy (a8 (bU (NC:= ["_law_term","_law_sizes"]) (mp:= [none,some 7]) rfl (fU (pv 12)) (fun _ _ _ _ _=>aj (i:=0) nd2 rfl (Or.inl rfl)) (fun _ _ _ _ _=>bz) (fun _ _ _ _ _=>aB (r:=rIxT K) aW (b8 hu1 (pv 1) (am (aO hr.gd hu60) rfl B.re aK (a8 (pv 0) aa)) fun _ _=>rfl) ai fun _ _=>rfl)) aa))))
   (ad (ao (i:=14) scPool.nd rfl (Or.inl rfl) (aA aY ai (am (nV rfl) rfl B.ma PyProof.Rows.boot_max (a8 (bU (NC:= ["_law_term","_law_sizes"]) (mp:= [none,some 7]) rfl (fU (pv 12)) (fun _ _ _ _ _=>aj (i:=0) nd2 rfl (Or.inl rfl)) (fun _ _ _ _ _=>bz) (fun _ _ _ _ _=>aB (r:=rIxT K) aW (b8 hu1 (pv 1) (am (aO hr.gd hu60) rfl B.re aK (a8 (pv 0) aa)) fun _ _=>rfl) ai fun _ _=>rfl)) aa))))
   (ah (ba (PW.pt (iD (aN tF (pv 13) ai (aR _)) (iD (aN tF (pv 14) ai (aR _)) (iC (aN (rG hu50) (bn (a8 cF (a8 (pv 10) (a8 (pv 12) aa)))) (pv 6) (by with_unfolding_all rfl))))))
    (ad (bf (cG PySem.F.plainAttrs_list PySem.F.slot_list_append PySem.F.type_list_append aT (pv 6) (a8 (bn (a8 cF (a8 (pv 10) (a8 (pv 12) aa)))) aa)))
    (ah (cU hu1 (pv 7) (am (aO hr.gd hu60) rfl B.re aK (a8 (bn (a8 cF (a8 (pv 10) (a8 (pv 12) aa)))) aa)) (bn (a8 (pv 13) (a8 (pv 14) aa))) rfl))) aL))))))))
  (ah (aJ (pv 6))))))))),?_⟩
 have hL:=sl5
 refine ⟨_,rfl,_,rfl,a,ns,(b:Int),3,rfl,hS,h63,by omega,by omega,by decide,fun y y0 y3=> ?_⟩
 intro r2 q2 H2 s2 n2 h2 l2
 refine hide fun q_ e_=> ?_
 obtain ⟨xs,mxs,p2,e2,hp2⟩:=oQ l2 y0 y3
 subst e_
 obtain ⟨xl,xnd,xnm⟩:=vT xs mxs
 refine ⟨_,rfl,r2,q2,y,_,rfl,rfl,SqL.of h2,e2,?_⟩
 intro r3 q3 H3 s3 n3 h3 l3
 refine hide fun q_ e_=> ?_
 obtain ⟨hs,mhs,p3,e3,hp3⟩:=oQ l3 y0 y3
 subst e_
 obtain ⟨hsl,hsnm⟩:=vS hs mhs
 refine ⟨_,rfl,r3,q3,y,_,rfl,rfl,SqL.of h3,e3,?_⟩
 have hp2':=s3 _ _ hp2
 have sA:=s2.trans s3
 clear e2 e3 l2 l3 h2 h3 eL2 eL3
 refine au ?_
 try dsimp only
 refine bg fun ua Za ea fa=> ?_
 refine bM ?_
 refine bw rfl ?_
 refine ⟨_,rfl,_,rfl,_,rfl,(b:Int),1,rfl,rfl,a,ns,_,4,rfl,SqL.same sA hS,h63,by omega,by omega,by decide,fun m4 m40 m44=> ?_⟩
 obtain ⟨m',em⟩:∃m:Nat,(2+m4:Int)=(m:Int):=⟨(2+m4).toNat,by omega⟩
 refine ⟨2,m4,rfl,rfl,_,rfl,p2,_,rfl,SqL.of hp2',fun r4 nr4=> ?_⟩
 rw [em,jz (by rw [wL];omega)]
 have s4:Same H3 (upd H3 r4 (.lst ((xs.map V.str).take m'))):=ae nr4
 have h4:(upd H3 r4 (.lst ((xs.map V.str).take m'))) r4=some (.lst ((xs.map V.str).take m')):=a9
 generalize upd H3 r4 (.lst ((xs.map V.str).take m'))=H4 at*
 refine ⟨r4,rfl,⟨_,SqL.of h4⟩,fun D6 nD6=> ?_⟩
 have lm:((xs.map V.str).take m').length=m':=by rw [xh,wL];omega
 have sB:=sA.trans s4
 have nD6':H D6=none:=sB.none nD6
 refine cC (xs:=(xs.map V.str).take m') (fun i acc H'=>Same H4 H'∧H' D6=some (.lst acc)∧TrsAt H' acc ((xs.take i).map nmT)) ⟨ae nD6,a9, .nil⟩ (fun i acc H' p=>SqL.of (p.1 _ _ h4)) ?_ ?_
 · rintro i v acc H' hi ev ⟨sH,hd,hT⟩
   rw [lm] at hi
   have hix:i < xs.length:=by omega
   have ev':v= .str xs[i]:=by
    rw [List.getElem?_take_of_lt (by omega),wN,wI hix] at ev
    exact (wT ev).symm
   subst ev'
   have tl:=hT.len
   rw [wL,xh] at tl
   refine ⟨_,rfl,by show 2≤sizeLine;decide,fun T nT=> ?_⟩
   have sT:Same H' (upd H' T (.tup [.str (Str.ofString "name"), .str xs[i]])):=ae nT
   refine CompN.mk (by rw [lm];exact hi) (by omega) (sT _ _ hd) ⟨aq nD6 (sH.trans sT),a9,?_⟩
   rw [xm,wI hix,xi]
   have kd:=bO (ys:=acc++ [.ref T]) (sT _ _ hd)
   exact K61.TrsAt.snoc ((hT.mono (Kd.of_same sT)).mono kd) (eK (kd.tup _ _ a9) (.cons dF (.cons dF .nil)))
 rintro ws H5 ⟨s5,hd5,hT5⟩
 rw [lm] at hT5
 have ml:m'≤5:=by omega
 have m2:2≤m':=by omega
 have wl:=hT5.len
 rw [wL,xh] at wl
 have eus:∀t∈(xs.take m').map nmT,∃x,t=nmT x∧Nm x:=fun t mt=>by
  obtain ⟨x,mx,rfl⟩:=xq.mp mt
  exact ⟨x,rfl,xnm x (List.mem_of_mem_take mx)⟩
 have hnd:((xs.take m').map nmT).Nodup:=by
  have h1:(xs.take m').Nodup:=List.Pairwise.sublist (List.take_sublist _ _) xnd
  exact List.pairwise_map.mpr (List.Pairwise.imp (fun hxy e=>hxy (rO e)) h1)
 have ulen:((xs.take m').map nmT).length=m':=by rw [wL,xh];omega
 have hcl:Clt ((xs.take m').map nmT):=fun x mx y my=>by
  obtain ⟨z,rfl,_⟩:=eus x mx
  rw [show tk (nmT z)= [] from rfl] at my
  cases my
 generalize (xs.take m').map nmT=us0 at*
 refine au ?_
 try dsimp only
 subst ea fa
 refine bM ?_
 intro D7 nD7
 have s6:Same H5 (upd H5 D7 (.dK [])):=ae nD7
 have n65:D6≠p3:=fun z=>by rw [z,s4 _ _ hp3] at nD6;cases nD6
 have hPl:Pl H (upd H5 D7 (.dK [])) p3 D6 D7 (hs.map V.str) ws us0 []:=⟨sB.trans (s5.trans s6),n65,s6 _ _ (s5 _ _ (s4 _ _ hp3)),s6 _ _ hd5,a9,hT5.mono (Kd.of_same s6)⟩
 have nD7':H D7=none:=(sB.trans s5).none nD7
 generalize upd H5 D7 (.dK [])=H6 at*
 clear hd5 hT5 s4 h4 hp2' hp2 hp3 lm
 refine ⟨_,rfl,D6,rfl,⟨_,SqL.of hPl.h6⟩,?_⟩
 refine bc (xs:=ws) (fun i σ H'=>(∃v8,σ= [some (.ref a),some (.int b),some (.int (mo:Int)),some (.int y),some (.ref p2),some (.ref p3),some (.ref D6),some (.ref D7),v8,none,none,none,none,none,none])∧∃kvs,Pl H H' p3 D6 D7 (hs.map V.str) ws us0 kvs∧Szs H' kvs (us0.take i)∧kvs.length≤i)
  ⟨⟨none,rfl⟩,[],hPl,(fun t mt=>by rw [List.take_zero] at mt;cases mt),wO _⟩ (fun i σ H' _ p=>SqL.of p.2.choose_spec.1.h6) ?_ ?_
 · intro i v σ H' ev z_
   refine hide fun q_ e_=> ?_
   obtain ⟨⟨v8,rfl⟩,kvs,hP,hz,hkl⟩:=z_
   subst e_
   obtain ⟨t,et,ht⟩:=hP.tr.get' ev
   have mt:=wJ et
   obtain ⟨x,rfl,nx⟩:=eus t mt
   have hi:=(wK.mp ev).1
   refine au ?_
   refine ⟨by show 2≤sizeLine;decide,fun T nT=> ?_⟩
   have sT:Same H' (upd H' T (.tup [.int 1, .int 0])):=ae nT
   have hT:(upd H' T (.tup [.int 1, .int 0])) T=some (.tup [.int 1, .int 0]):=a9
   have hP':=hP.same sT
   have hz':=hz.same sT
   generalize upd H' T (.tup [.int 1, .int 0])=H'' at*
   obtain ⟨z1,z2,z3⟩:=rep3 (tP nx) (by decide) (by decide)
   refine ⟨_,rfl,_,rfl,v,_,rfl,ht.mono (Kd.of_same sT),z1,z2,z3,?_⟩
   refine ⟨D7,_,rfl,DPut.k (k:= .inr (tD (nmT x)).shown) hP'.h7 (by omega),⟨some v,rfl⟩,_,hP'.put nD7',?_,?_⟩
   · rw [xm,et]
     exact Szs.kd (pO hP'.h7) (hz'.put hT (tP nx) (by decide) (by decide))
   · have:=be kvs (.inr (tD (nmT x)).shown) (.ref T)
     omega
 intro σ H7 z_
 refine hide fun q_ e_=> ?_
 obtain ⟨⟨v8,rfl⟩,kvs,hP,hz,hkl⟩:=z_
 subst e_
 rw [xK (by omega)] at hz
 have kl5:kvs.length≤5:=by omega
 have gl:∀ {U:List Tr} {H':Hp} {kv:List (Key×V)},Szs H' kv U→U.Nodup→Clt U→2≤U.length→U.length≤40→gK U:=fun {U H' kv} h1 h2 h3 h4 h5=>⟨h2,h3,h4,h5,fun t mt=>by
  refine hide fun q_ e_=> ?_
  obtain ⟨q,s,d,_,_,e3,e4,e5⟩:=h1 t mt
  subst e_
  have i1:=e3.dp
  have i2:=e3.tx
  have i3:=e3.rl
  exact ⟨e3.gt,by omega,by omega,by omega⟩⟩
 have hS7:=SqL.same hP.sm hS
 refine ⟨_,rfl,_,rfl,(b:Int),2,rfl,rfl,_,rfl,a,ns,_,(mo:Int),rfl,hS7,h63,by omega,by omega,by omega,fun n n0 n12=> ?_⟩
 obtain ⟨n',rfl⟩:∃n':Nat,n=(n':Int):=⟨n.toNat,by omega⟩
 refine ⟨(n':Int),rfl,by omega,by omega,?_⟩
 rw [show ((n':Int)).toNat=n' from rfl]
 refine cb (fun i σ H'=>(∃v8 v9 v10 v11 v12 v13 v14,σ= [some (.ref a),some (.int b),some (.int (mo:Int)),some (.int y),some (.ref p2),some (.ref p3),some (.ref D6),some (.ref D7),v8,v9,v10,v11,v12,v13,v14])∧∃ws us kvs,Pl H H' p3 D6 D7 (hs.map V.str) ws us kvs∧Szs H' kvs us∧kvs.length≤5+i∧us.Nodup∧Clt us∧2≤us.length∧us.length≤5+i)
  ⟨⟨v8,none,none,none,none,none,none,rfl⟩,ws,us0,kvs,hP,hz,kl5,hnd,hcl,by omega,by omega⟩ ?_ ?_
 · clear hP hz kl5 hnd hcl hkl hPl eus wl ulen kvs ws
   intro i σ H' hi z_
   refine hide fun q_ e_=> ?_
   obtain ⟨⟨v8,v9,v10,v11,v12,v13,v14,rfl⟩,ws,us,kvs,hP,hz,hkl,hnd,hcl,hl2,hl5⟩:=z_
   subst e_
   have hS':=SqL.same hP.sm hS
   have wl:=hP.tr.len
   have hi12:i < 35:=by omega
   have stay:∀ {H'':Hp} (w8 w9 w10 w11 w12 w13 w14:Option V),Same H' H''→(∃v8 v9 v10 v11 v12 v13 v14,([some (.ref a),some (.int b),some (.int (mo:Int)),some (.int y),some (.ref p2),some (.ref p3),some (.ref D6),some (.ref D7),w8,w9,w10,w11,w12,w13,w14]:L2.St)= [some (.ref a),some (.int b),some (.int (mo:Int)),some (.int y),some (.ref p2),some (.ref p3),some (.ref D6),some (.ref D7),v8,v9,v10,v11,v12,v13,v14])∧∃ws us kvs,Pl H H'' p3 D6 D7 (hs.map V.str) ws us kvs∧Szs H'' kvs us∧kvs.length≤5+(i+1)∧us.Nodup∧Clt us∧2≤us.length∧us.length≤5+(i+1):=
    fun {H''} w8 w9 w10 w11 w12 w13 w14 s=>⟨⟨w8,w9,w10,w11,w12,w13,w14,rfl⟩,ws,us,kvs,hP.same s,hz.same s,by omega,hnd,hcl,hl2,by omega⟩
   refine au ?_
   refine ⟨_,rfl,_,rfl,_,rfl,(b:Int),10,rfl,rfl,_,rfl,5,0+(i:Int),rfl,rfl, .inl ⟨by decide,by decide⟩,_,_,rfl,rfl,a,ns,_,4,rfl,hS',h63,by omega,by omega,by decide,fun r1 r10 r14=> ?_⟩
   have hd1:∃f,f∈hs∧atI (hs.map V.str) (r1 / 3)=some (.str f):=by
    obtain ⟨j,ej⟩:∃j:Nat,r1 / 3=(j:Int):=⟨(r1 / 3).toNat,by omega⟩
    have hj:j < hs.length:=by omega
    exact ⟨hs[j],xz hj,by rw [ej];exact aS (by rw [wN,wI hj];rfl)⟩
   obtain ⟨f0,mf,ef⟩:=hd1
   have nf:=hsnm f0 mf
   refine ⟨r1,3,rfl,rfl,⟨by decide,by decide⟩,p3,_,_,_,rfl,rfl,SqL.of hP.h5,ef,?_⟩
   refine ⟨by show 7≤sizeLine;decide,fun C nC=> ?_⟩
   have sC:Same H' (upd H' C (.lst [V.int 1, .int 1, .int 1, .int 1, .int 2, .int 2, .int 3])):=ae nC
   have hC:(upd H' C (.lst [V.int 1, .int 1, .int 1, .int 1, .int 2, .int 2, .int 3])) C=some (.lst [V.int 1, .int 1, .int 1, .int 1, .int 2, .int 2, .int 3]):=a9
   refine ⟨_,rfl,_,rfl,(b:Int),11,rfl,rfl,_,rfl,5,0+(i:Int),rfl,rfl, .inl ⟨by decide,by decide⟩,_,_,rfl,rfl,a,ns,_,7,rfl,SqL.same sC hS',h63,by omega,by omega,by decide,fun r2 r20 r27=> ?_⟩
   obtain ⟨c,ec,c1,c3⟩:=qq r20 r27
   refine ⟨C,_,r2, .int c,rfl,rfl,SqL.of hC,ec,?_⟩
   have stay1:=fun {H''} w8 w9 w10 w11 w12 w13 w14 (s:Same _ H'')=>stay w8 w9 w10 w11 w12 w13 w14 (sC.trans s)
   have hP1:=hP.same sC
   have hz1:=hz.same sC
   have hS1:=SqL.same sC hS'
   clear stay hP hz hC ec
   generalize upd H' C (.lst [V.int 1, .int 1, .int 1, .int 1, .int 2, .int 2, .int 3])=H1 at*
   refine au ?_
   try dsimp only
   refine bg fun ub Zb eb fb=> ?_
   refine bM ?_
   refine oa ?_
   refine bw rfl ?_
   refine ⟨_,rfl,(c:Int),rfl,by omega,by omega,fun D8 nD8=> ?_⟩
   rw [show ((c:Int)).toNat=c from rfl]
   refine kM (fun j acc H''=>Same H1 H''∧H'' D8=some (.lst acc)∧∃ts,TrsAt H'' acc ts∧ts.length=j∧∀t∈ts,t∈us) ⟨ae nD8,a9,[], .nil,rfl,fun t mt=>by cases mt⟩ ?_ ?_
   · intro j acc H'' hj z_
     refine hide fun q_ e_=> ?_
     obtain ⟨sH,hd,ts,hts,htl,hmem⟩:=z_
     subst e_
     have al:=hts.len
     have hP2:=hP1.same sH
     refine ⟨_,rfl,_,rfl,_,rfl,(b:Int),12,rfl,rfl,_,rfl,5,0+(i:Int),rfl,rfl, .inl ⟨by decide,by decide⟩,_,_,rfl,rfl,_,rfl,97,0+(j:Int),rfl,rfl, .inl ⟨by decide,by decide⟩,_,_,rfl,rfl,_,rfl,D6,ws,rfl, .inl (SqL.of hP2.h6),a,ns,_,_,rfl,SqL.same sH hS1,h63,by omega,by omega,by omega,fun o o0 o1=> ?_⟩
     obtain ⟨o',rfl⟩:∃n:Nat,o=(n:Int):=⟨o.toNat,by omega⟩
     have lo:o' < ws.length:=by omega
     obtain ⟨t,et,ht⟩:=hP2.tr.get' (wI lo)
     refine ⟨D6,ws,(o':Int),ws[o'],rfl,rfl,SqL.of hP2.h6,aS (wI lo),?_⟩
     refine CompN.mk hj (by omega) hd ⟨aq nD8 sH,a9,ts++ [t],?_,by rw [wM,htl];rfl,?_⟩
     · have kd:=bO (ys:=acc++ [ws[o']]) hd
       exact K61.TrsAt.snoc (hts.mono kd) (ht.mono kd)
     · intro u mu
       rcases x4.mp mu with mu|mu
       · exact hmem u mu
       · rw [wS.mp mu]
         exact wJ et
   intro acc H2 z_
   refine hide fun q_ e_=> ?_
   obtain ⟨s2',hd2,ts,hts,htl,hmem⟩:=z_
   subst e_
   have al:=hts.len
   refine ⟨D8,acc,rfl, .inl ⟨SqL.of hd2,fun T nT=> ?_⟩⟩
   have sT:Same H2 (upd H2 T (.tup acc)):=ae nT
   have hT:(upd H2 T (.tup acc)) T=some (.tup acc):=a9
   have stay2:=fun {H''} w8 w9 w10 w11 w12 w13 w14 (s:Same _ H'')=>stay1 w8 w9 w10 w11 w12 w13 w14 ((s2'.trans sT).trans s)
   have hP3:=hP1.same (s2'.trans sT)
   have hz3:=hz1.same (s2'.trans sT)
   have hts3:=hts.mono (Kd.of_same sT)
   clear stay1 hP1 hz1 hd2 hts
   generalize upd H2 T (.tup acc)=H3' at*
   refine hide fun q_ e_=> ?_
   obtain ⟨ss,ds,hB,lss,lds,d0,hsz⟩:=hz3.list ts hmem
   subst e_
   refine au ?_
   try dsimp only
   subst eb fb
   refine bg fun uc Zc ec fc=> ?_
   refine bM ?_
   refine t4 ?_
   refine oa ?_
   refine bw rfl ?_
   refine ⟨_,rfl,T,rfl,⟨_,SqT.of hT⟩,fun D9 nD9=> ?_⟩
   refine dZ (xs:=acc) (fun j ac H''=>Same H3' H''∧H'' D9=some (.lst ac)∧ac=(ss.take j).map V.int) ⟨ae nD9,a9,rfl⟩ (fun j ac H'' p=>SqT.of (p.1 _ _ hT)) ?_ ?_
   · rintro j v ac H'' hj ev ⟨sH,hd,rfl⟩
     obtain ⟨t,et,ht⟩:=hts3.get' ev
     refine hide fun q_ e_=> ?_
     obtain ⟨q,s,d,e1,e2,e3,e4,e5,e6,e7⟩:=hsz j t et
     subst e_
     obtain ⟨z1,z2,z3⟩:=rep3 e5 e6 e7
     obtain ⟨tl,rfl⟩:=cJ e5.gt
     refine ⟨_,rfl,_,rfl,v,tl,rfl,ht.mono (Kd.of_same sH),z1,z2,z3,?_⟩
     have g:=DGet.k (k:= .inr (tD (.tup tl)).shown) (sH _ _ hP3.h7)
     rw [e3] at g
     refine ⟨D7,_,rfl,g,q,_,0, .int s,rfl,rfl,SqT.of (sH _ _ e4),rfl,?_⟩
     refine CompN.mk hj ?_ hd ⟨aq nD9 sH,a9,?_⟩
     · rw [wL,xh]
       omega
     · rw [xm,e1,xi]
       rfl
   rintro ac H4' ⟨s4',hd4,rfl⟩
   rw [xK (by omega)] at hd4
   refine ⟨D9,ss,rfl,SqL.of hd4,1,_,rfl,rfl,?_⟩
   have stay3:=fun {H''} w8 w9 w10 w11 w12 w13 w14 (s:Same _ H'')=>stay2 w8 w9 w10 w11 w12 w13 w14 (s4'.trans s)
   refine au ?_
   try dsimp only
   subst ec fc
   refine bg fun ud Zd ed fe=> ?_
   refine bM ?_
   refine t4 ?_
   refine oa ?_
   refine bw rfl ?_
   refine ⟨_,rfl,T,rfl,⟨_,SqT.of (s4' _ _ hT)⟩,fun D10 nD10=> ?_⟩
   refine dZ (xs:=acc) (fun j ac H''=>Same H4' H''∧H'' D10=some (.lst ac)∧ac=(ds.take j).map V.int) ⟨ae nD10,a9,rfl⟩ (fun j ac H'' p=>SqT.of (p.1 _ _ (s4' _ _ hT))) ?_ ?_
   · rintro j v ac H'' hj ev ⟨sH,hd,rfl⟩
     obtain ⟨t,et,ht⟩:=hts3.get' ev
     refine hide fun q_ e_=> ?_
     obtain ⟨q,s,d,e1,e2,e3,e4,e5,e6,e7⟩:=hsz j t et
     subst e_
     obtain ⟨z1,z2,z3⟩:=rep3 e5 e6 e7
     obtain ⟨tl,rfl⟩:=cJ e5.gt
     have sH':=s4'.trans sH
     refine ⟨_,rfl,_,rfl,v,tl,rfl,ht.mono (Kd.of_same sH'),z1,z2,z3,?_⟩
     have g:=DGet.k (k:= .inr (tD (.tup tl)).shown) (sH' _ _ hP3.h7)
     rw [e3] at g
     refine ⟨D7,_,rfl,g,q,_,1, .int d,rfl,rfl,SqT.of (sH' _ _ e4),rfl,?_⟩
     refine CompN.mk hj ?_ hd ⟨aq nD10 sH,a9,?_⟩
     · rw [wL,xh]
       omega
     · rw [xm,e2,xi]
       rfl
   rintro ac H5' ⟨s5',hd5,rfl⟩
   rw [xK (by omega)] at hd5
   refine ⟨D10,ds,rfl,SqL.of hd5,by omega,fun mx mm hmx=>⟨1,mx,rfl,rfl,?_⟩⟩
   have stay4:=fun {H''} w8 w9 w10 w11 w12 w13 w14 (s:Same _ H'')=>stay3 w8 w9 w10 w11 w12 w13 w14 (s5'.trans s)
   have m0:=d0 mx mm
   have hbo:Bo (cal f0 ts) (1+ss.sum) (1+mx):=wF nf (by omega) (by omega) hB hmx m0
   have hP5:=hP3.same (s4'.trans s5')
   have hz5:=hz3.same (s4'.trans s5')
   have hT5:=s5' _ _ (s4' _ _ hT)
   have hts5:=hts3.mono (Kd.of_same (s4'.trans s5'))
   clear stay2 stay3 hP3 hz3 hts3 hsz
   refine au ?_
   try dsimp only
   subst ed fe
   refine ⟨_,rfl,_,_,rfl,rfl,_,rfl,?_⟩
   refine ite2 (fun w1=> ?_) (fun _=>iteF (stay4 _ _ _ _ _ _ _ (Same.refl _)))
   refine ⟨_,rfl,_,_,rfl,rfl,_,rfl,?_⟩
   refine ite2 (fun w2=> ?_) (fun _=>iteF (stay4 _ _ _ _ _ _ _ (Same.refl _)))
   have w1':1+ss.sum≤40:=of_decide_eq_true w1
   have w2':1+mx≤9:=of_decide_eq_true w2
   refine ⟨_,rfl,_,rfl,by show 3≤sizeLine;decide,fun P0 nP0=> ?_⟩
   have sP:Same H5' (upd H5' P0 (.tup [.str (Str.ofString "call"), .str f0, .ref T])):=ae nP0
   have hP0:(upd H5' P0 (.tup [.str (Str.ofString "call"), .str f0, .ref T])) P0=some (.tup [.str (Str.ofString "call"), .str f0, .ref T]):=a9
   have stay5:=fun {H''} w8 w9 w10 w11 w12 w13 w14 (s:Same _ H'')=>stay4 w8 w9 w10 w11 w12 w13 w14 (sP.trans s)
   have hP6:=hP5.same sP
   have hz6:=hz5.same sP
   have hT6:=sP _ _ hT5
   have hts6:=hts5.mono (Kd.of_same sP)
   clear stay4 hP5 hz5
   generalize upd H5' P0 (.tup [.str (Str.ofString "call"), .str f0, .ref T])=H6' at*
   have at0:∀ {q:Addr} {H'':Hp},Same H6' H''→H'' q=some (.tup [.str (Str.ofString "call"), .str f0, .ref T])→TrAt H'' (.ref q) (cal f0 ts):=fun {q H''} s h=>eK h (.cons dF (.cons dF (.cons (eK (s _ _ hT6) (hts6.mono (Kd.of_same s))) .nil)))
   have gus:∀u∈us,Gt u∧u.depth≤40:=fun u mu=>by
    refine hide fun q_ e_=> ?_
    obtain ⟨q,s,d,_,_,e5,e6,e7⟩:=hz6 u mu
    subst e_
    exact ⟨e5.gt,(rep3 e5 e6 e7).2.1⟩
   refine ⟨_,rfl,D6,ws,us,cal f0 ts,rfl, .inl hP6.h6,hP6.tr,at0 (Same.refl _) hP0,fun u mu=>(gus u mu).2,eX hbo.gt.ty,_,rfl,?_⟩
   refine ite2 (fun w3=> ?_) (fun _=>stay5 _ _ _ _ _ _ _ (Same.refl _))
   have new:cal f0 ts∉us:=sO (fun u mu=>(gus u mu).1) hbo.gt (by
    rw [mU] at w3
    simpa using w3)
   clear stay5
   obtain ⟨z1,z2,z3⟩:=rep3 hbo w1' w2'
   refine ⟨_,rfl, .inl ⟨rfl,_,SqL.of hP6.h6⟩,_,rfl,_,rfl,by show 3≤sizeLine;decide,fun P1 nP1=> ?_⟩
   have sQ:Same H6' (upd H6' P1 (.tup [.str (Str.ofString "call"), .str f0, .ref T])):=ae nP1
   have hP7:=hP6.same sQ
   refine ⟨D6,ws,_,rfl,rfl,hP7.h6,by omega,?_⟩
   have hP8:=hP7.app nD6' (at0 sQ a9)
   have hz8:=(hz6.same sQ).kd (lW (ys:=ws++ [.ref P1]) hP7.h6)
   have kd8:=(Kd.of_same sQ).trans (lW (ys:=ws++ [.ref P1]) hP7.h6)
   have hT8:=kd8.tup _ _ hT6
   have hts8:=hts6.mono kd8
   clear hP7 hz6 hP6
   generalize upd (upd H6' P1 (.tup [.str (Str.ofString "call"), .str f0, .ref T])) D6 (.lst (ws++ [.ref P1]))=H8 at*
   refine ⟨_,rfl,_,rfl,by show 2≤sizeLine;decide,fun T2 nT2=> ?_⟩
   have sR:Same H8 (upd H8 T2 (.tup [.int (1+ss.sum), .int (1+mx)])):=ae nT2
   have hT2:(upd H8 T2 (.tup [.int (1+ss.sum), .int (1+mx)])) T2=some (.tup [.int (1+ss.sum), .int (1+mx)]):=a9
   have hP9:=hP8.same sR
   have hz9:=hz8.same sR
   have hT9:=sR _ _ hT8
   have hts9:=hts8.mono (Kd.of_same sR)
   clear hP8 hz8
   generalize upd H8 T2 (.tup [.int (1+ss.sum), .int (1+mx)])=H9 at*
   refine ⟨_,rfl,_,rfl,_,rfl,by show 3≤sizeLine;decide,fun P2 nP2=> ?_⟩
   have sU:Same H9 (upd H9 P2 (.tup [.str (Str.ofString "call"), .str f0, .ref T])):=ae nP2
   have hu0:(upd H9 P2 (.tup [.str (Str.ofString "call"), .str f0, .ref T])) P2=some (.tup [.str (Str.ofString "call"), .str f0, .ref T]):=a9
   have hPx:=hP9.same sU
   have hzx:=hz9.same sU
   refine ⟨.ref P2,_,rfl,eK hu0 (.cons dF (.cons dF (.cons (eK (sU _ _ hT9) (hts9.mono (Kd.of_same sU))) .nil))),z1,z2,z3,?_⟩
   have hT2x:=sU _ _ hT2
   generalize upd H9 P2 (.tup [.str (Str.ofString "call"), .str f0, .ref T])=H10 at*
   refine ⟨D7,_,rfl,DPut.k (k:= .inr (tD (cal f0 ts)).shown) hPx.h7 (by omega),⟨_,_,_,_,_,_,_,rfl⟩,_,_,_,hPx.put nD7',Szs.kd (pO hPx.h7) (hzx.put hT2x hbo w1' w2'),?_,?_,qt hcl hmem,?_,?_⟩
   · have:=be kvs (.inr (tD (cal f0 ts)).shown) (.ref T2)
     omega
   · exact xQ.mpr ⟨hnd,xR.mpr ⟨xc,xO⟩,fun x mx' y my e=>new (by rw [←wS.mp my,←e];exact mx')⟩
   · rw [wM]
     omega
   · rw [wM]
     show us.length+1≤_
     omega
 · intro σ H8 z_
   refine hide fun q_ e_=> ?_
   obtain ⟨⟨v8,v9,v10,v11,v12,v13,v14,rfl⟩,ws,us,kvs,hP,hz,hkl,hnd,hcl,hl2,hl5⟩:=z_
   subst e_
   exact ⟨_,rfl,k D6 ws us H8 nD6' hP.sm hP.h6 hP.tr (gl hz hnd hcl hl2 (by omega)) (by omega)⟩
end
end K61
namespace Su
open PySem L2 Tre Mth Wd
noncomputable def vl (W:Wld) (t:Tr):Rat:=rv (valT W t)
end Su
namespace Dj
open PySem PySem.Spec PyProof.Rows L2 Tre Wd Su
section
variable {X:Cx} {pos:Pos} {o i:Expr} {td ty:TE} {P:Program} {w:World} {K:PySem.W.Frag}
end
mutual
noncomputable def ktT:Tr→Tk.KT
 | .int i=> .lf (.inl i)
 | .str x=> .lf (.inr x)
 | .tup ts=> .tp (ktTs ts)
 |_=> .tp []
noncomputable def ktTs:List Tr→List Tk.KT
 | []=> []
 |t::ts=>ktT t::ktTs ts
end
noncomputable def ktL:Tr→List Tk.KT
 | .tup ts=>ktTs ts
 |_=> []
mutual
def Kp:Tr→Prop
 | .int _=>True
 | .str _=>True
 | .tup ts=>Kps ts
 |_=>False
def Kps:List Tr→Prop
 | []=>True
 |t::ts=>Kp t∧Kps ts
end
mutual
theorem uX:∀ {t u:Tr},Kp t→Kp u→ktT t=ktT u→t=u
 | .int i, .int j,_,_,e=>by simp only [ktT,Tk.KT.lf.injEq,Sum.inl.injEq] at e;rw [e]
 | .int i, .str y,_,_,e=>by simp [ktT] at e
 | .int i, .tup us,_,_,e=>by simp [ktT] at e
 | .str x, .int j,_,_,e=>by simp [ktT] at e
 | .str x, .str y,_,_,e=>by simp only [ktT,Tk.KT.lf.injEq,Sum.inr.injEq] at e;rw [e]
 | .str x, .tup us,_,_,e=>by simp [ktT] at e
 | .tup ts, .int j,_,_,e=>by simp [ktT] at e
 | .tup ts, .str y,_,_,e=>by simp [ktT] at e
 | .tup ts, .tup us,h1,h2,e=>by
  simp only [ktT,Tk.KT.tp.injEq] at e
  rw [lU h1 h2 e]
theorem lU:∀ {ts us:List Tr},Kps ts→Kps us→ktTs ts=ktTs us→ts=us
 | [],[],_,_,_=>rfl
 | [],_::_,_,_,e=>by simp [ktTs] at e
 |_::_,[],_,_,e=>by simp [ktTs] at e
 |t::ts,u::us,h1,h2,e=>by
  simp only [ktTs,xH] at e
  rw [uX h1.1 h2.1 e.1,lU h1.2 h2.2 e.2]
end
mutual
theorem uY:∀ {t:Tr},Kp t→(ktT t).depth=t.depth
 | .int i,_=>by simp [ktT,Tk.KT.depth,Tr.depth]
 | .str x,_=>by simp [ktT,Tk.KT.depth,Tr.depth]
 | .tup ts,k=>by
  simp only [ktT,Tk.KT.depth,Tr.depth]
  rw [lV k]
theorem lV:∀ {ts:List Tr},Kps ts→Tk.KTs.depth (ktTs ts)=Trs.depth ts
 | [],_=>by simp [ktTs,Tk.KTs.depth,Trs.depth]
 |t::ts,k=>by
  simp only [ktTs,Tk.KTs.depth,Trs.depth]
  rw [uY k.1,lV k.2]
end
section
variable {K:PySem.W.Frag} {H:Hp}
mutual
theorem uW:∀ {v:V} {t:Tr},Kp t→TrAt H v t→KVt K H v (ktT t)
 |v, .int i,_,h=>by unfold TrAt at h;simp only [ktT,KVt];exact h
 |v, .str x,_,h=>by unfold TrAt at h;simp only [ktT,KVt];exact h
 |v, .tup ts,k,h=>by
  unfold TrAt at h
  obtain ⟨r,vs,e,h1,h2⟩:=h
  simp only [ktT,KVt]
  exact ⟨r,vs,e, .inl h1,lS k h2⟩
theorem lS:∀ {vs:List V} {ts:List Tr},Kps ts→TrsAt H vs ts→KVts K H vs (ktTs ts)
 |vs,[],_,h=>by unfold TrsAt at h;simp only [ktTs,KVts];exact h
 |vs,t::ts,k,h=>by
  obtain ⟨v,r,e,h1,h2⟩:=h.inv
  simp only [ktTs,KVts]
  exact ⟨v,r,e,uW k.1 h1,lS k.2 h2⟩
end
end
def En (H:Hp) (g:Tr→Fr) (e:Ent) (t:Tr):Prop:=e.1=ktL t∧TrAt H (.ref e.2.1) t∧TrAt H e.2.2 (frT (g t))
structure DAt (P:Program) (w:World) (K:PySem.W.Frag) (H:Hp) (a:Addr) (ks:List Tr) (g:Tr→Fr):Prop where
 ex:∃kvs,DJ P w K H a kvs∧Paired (En H g) kvs ks
 ty:∀t∈ks,Ty .tm t∧t.depth≤7
 nd:ks.Nodup
section
variable {P:Program} {w:World} {K:PySem.W.Frag} {H H':Hp} {a:Addr} {ks:List Tr} {g:Tr→Fr}
open Classical in
noncomputable def setG (g:Tr→Fr) (t:Tr) (f:Fr):Tr→Fr:=fun u=>if u=t then f else g u
open Classical in
noncomputable def addK (ks:List Tr) (t:Tr):List Tr:=if t∈ks then ks else ks++ [t]
end
open Classical in
structure Sd (ds:List Pq) (ks:List Tr) (g:Tr→Fr):Prop where
 sh:∀t∈ks,Sh (g t)
 eq:∀t,tot t ds=if t∈ks then rv (g t) else 0
noncomputable def outP (g:Tr→Fr) (ts:List Tr):List Pq:=(ts.filter fun t=>decide ((g t).1≠0)).map fun t=>(t,g t)
end Dj
namespace L2
open PySem PySem.Spec PyProof.Rows
section
variable {X:Cx}
theorem vn {P:Program} {w:World} {k:Key} {v:Value} (h:(aE P w).is k v=true):RelV (kV k) v:=by
 rcases ay (k:=k) (v:=v) h with ⟨i,t,rfl,rfl⟩|⟨x,t,rfl,rfl⟩
 · exact ⟨t,rfl⟩
 · exact ⟨t,rfl⟩
theorem kU (hc:X.calm=true):cy X (.type "list") (fun xs H Q=>∃a kvs,xs= [.ref a]∧H a=some (.dK kvs)∧∀l,H l=none→Q (.ref l) (upd H l (.lst (kvs.map fun e=>kV e.1)))):=by
 intro pins s σ H xs us Q I r h
 obtain ⟨a,kvs,rfl,hH,q⟩:=h
 obtain ⟨u,rfl,ru⟩:=dw r
 cases ru
 obtain ⟨z,hd,ws,rel,dd⟩:=gw I.hok hH
 obtain ⟨ep,hat⟩:=dd.dictAt
 refine PySem.W.kdl_call (PySem.W.kdl_dict (knd:=aE X.prog X.w) (kvs:=ws) (ep:=ep) hd) (I.ok.hd hc) hat (by rw [←rel.length];exact z) fun h' tk acc' c' hk hD hacc=> ?_
 have rr:Vals (kvs.map fun e=>kV e.1) acc'.toList:=by
  have hl:=hacc.1
  have rl:=rel.length
  have gen:∀(ks:List (Key×V)) (as:List Value) (xs:List (Key×Value)),as.length=xs.length→Paired (fun p q=>p.1=q.1∧RelV p.2 q.2) ks xs→(∀(j:Nat) (v:Value),as[j]?=some v→∃k x,xs[j]?=some (k,x)∧(aE X.prog X.w).is k v=true)→Vals (ks.map fun e=>kV e.1) as:=by
   intro ks as xs hl' h
   induction h generalizing as with
   |nil=>
    intro _
    rw [xE.mp hl']
    exact .nil
   |cons r1 _ ih=>
    intro hx
    cases as with
    |nil=>cases hl'
    |cons a0 as=>
     obtain ⟨k,x,e1,e2⟩:=hx 0 a0 rfl
     have e1':=wT e1
     refine .cons ?_ (ih as (Nat.succ.inj hl') fun j v e=>hx (j+1) v e)
     show RelV (kV _) a0
     rw [r1.1,e1']
     exact vn e2
  exact gen kvs acc'.toList ws (by rw [wX];exact hl) rel fun j v e=>hacc.2 j v (by rw [←xg];exact e)
 refine ⟨.ref _,_,I.laid (t':=tk) (o:= .lst (kvs.map fun e=>kV e.1)) hk (wO _) ⟨by rw [wL];exact z,acc'.toList,c',rr,by rw [Array.toArray_toList];exact hD⟩,rfl,q _ (I.hok.fresh (wO _))⟩
end
end L2
namespace Dj
open PySem PySem.Spec PyProof.Rows L2 Tre
section
variable {X:Cx} {o i:Expr} {td ty:TE} {P:Program} {w:World} {K:PySem.W.Frag}
end
end Dj
namespace Lb
open PySem L2 Tre Wd Tw Fm Dec Rp Fp
noncomputable abbrev shL (t:Tr):Key:=Sum.inr (tD t).shown
structure Rl (us:List Tr):Prop where
 nd:us.Nodup
 gt:∀t∈us,Gt t
 cl:Clt us
 rp:∀t∈us,Tt t∧t.depth≤40∧(tD t).shown.length≤sizeLine
 len:us.length < 64
structure Lab (H:Hp) (d:Addr) (us:List Tr) (rs:List Nat) (kvs:List (Key×V)):Prop where
 hd:H d=some (.dK kvs)
 ks:kvs.map (·.1)=us.map shL
 rl:rs.length=us.length
 vl:∀t∈us,∀r,rs[ix us t]?=some r→valV kvs (shL t)=some (.int (r:Int))
theorem Lab.same {H H':Hp} {d:Addr} {us:List Tr} {rs:List Nat} {kvs:List (Key×V)} (s:Same H H') (h:Lab H d us rs kvs):Lab H' d us rs kvs:=⟨s _ _ h.hd,h.ks,h.rl,h.vl⟩
theorem Lab.at {H:Hp} {d:Addr} {us:List Tr} {rs:List Nat} {kvs:List (Key×V)} (h:Lab H d us rs kvs) {t:Tr} (m:t∈us):∃r,rs[ix us t]?=some r∧DGet H d (kV (shL t)) (some (.int (r:Int))):=by
 have l:=cq m
 rw [←h.rl] at l
 have e:=wI l
 refine ⟨_,e,?_⟩
 have:=DGet.k (k:=shL t) h.hd
 rw [h.vl t m _ e] at this
 exact this
theorem Lab.len {H:Hp} {d:Addr} {us:List Tr} {rs:List Nat} {kvs:List (Key×V)} (h:Lab H d us rs kvs):kvs.length=us.length:=by
 have:=congrArg List.length h.ks
 rw [wL,wL] at this
 exact this
theorem oZ {kvs:List (Key×V)} {k:Key} {v z:V} (h:valV kvs k=some z):(putK kvs k v).map (·.1)=kvs.map (·.1):=by
 unfold putK
 rw [cf,h]
 rw [if_pos Option.isSome_some,List.map_map]
 refine List.map_congr_left fun e _=> ?_
 show (if e.1=k then (e.1,v) else e).1=e.1
 split<;>rfl
theorem Lab.put {H:Hp} {d:Addr} {us:List Tr} {rs:List Nat} {kvs:List (Key×V)} (R:Rl us) (h:Lab H d us rs kvs) {t:Tr} (m:t∈us) (b:Nat):Lab (upd H d (.dK (putK kvs (shL t) (.int (b:Int))))) d us (rs.set (ix us t) b) (putK kvs (shL t) (.int (b:Int))):=by
 have l:=cq m
 rw [←h.rl] at l
 refine ⟨a9,?_,by rw [List.length_set];exact h.rl,fun u mu r er=> ?_⟩
 · rw [oZ (h.vl t m _ (wI l))]
   exact h.ks
 · rw [dG]
   by_cases q:shL u=shL t
   · have e:=iB (R.gt u mu) (R.gt t m) (Sum.inr.inj q)
     subst e
     rw [if_pos rfl]
     rw [List.getElem?_set_self l] at er
     rw [wT er]
   · rw [if_neg q]
     have:ix us t≠ix us u:=fun z=>q (by
      have e1:=bh m
      have e2:=bh mu
      rw [z,e2] at e1
      rw [wT e1])
     rw [List.getElem?_set_ne this] at er
     exact h.vl u mu r er
theorem ki {a b:Nat} {rs:List Nat} {i r:Nat} (e:rs[i]?=some r):(mrg a b rs)[i]?=some (if r=a then b else r):=by
 unfold mrg
 rw [wN,e]
 rfl
end Lb
namespace K61
open PySem L2 Mth Tre Wd Su Tw Fm Rp Fp Lb
section
variable {P:Program} {w:World} {K:PySem.W.Frag} {mg:Str→Option Value} {base:Heap}
def spJd (K:PySem.W.Frag):Sp:=fun vs H Q _=>∃(d:Addr) (v1 v2:V) (t1 t2:Tr) (us:List Tr) (rs:List Nat) (kvs:List (Key×V)),vs= [.ref d,v1,v2]∧Rl us∧Lab H d us rs kvs∧TrAt H v1 t1∧TrAt H v2 t2∧t1∈us∧t2∈us∧
 (rs[ix us t1]?=rs[ix us t2]?→∀H',Same H H'→Q (.bl false) H')∧
 ∀a b H' kvs',rs[ix us t2]?=some a→rs[ix us t1]?=some b→a≠b→But1 d H H'→Lab H' d us (mrg a b rs) kvs'→Q (.bl true) H'
theorem scJd:aM ["_law_labels","_law_one","_law_other","_law_former","_law_term"] ["_law_labels","_law_one","_law_other"] (ag fO):=⟨rfl,rfl,rfl,by decide +kernel,rfl,by decide +kernel,by decide +kernel⟩
theorem wj {f:Addr} {fd:FuncData} (F:Fun K "_law_joined" "_law_joined" fO f fd) (B:Blt mg):FnOk P w K mg base CX0 1 f fd ["_law_labels","_law_one","_law_other"] (spJd K):=by
 refine F.ok scJd (fun vs H Q E h=> ?_) (fun cdv A outer s H vs Q E hr h=> ?_)
 · refine hide fun q_ e_=> ?_
   obtain ⟨d,v1,v2,t1,t2,us,rs,kvs,rfl,_⟩:=h
   subst e_
   rfl
 refine hide fun q_ e_=> ?_
 obtain ⟨d,v1,v2,t1,t2,us,rs,kvs,rfl,R,hLb,ht1,ht2,m1,m2,kF,kT⟩:=h
 subst e_
 have hu1:=eU hr
 have hu60:(A.deeper (PyProof.Rows.envOfC (Str.ofString "_law_joined") (ag fO) s.heap.objs.size f cdv)).units+60 < cLine:=by have:=hr.units;omega
 refine ⟨_,ad (ba (aN cS (b8 hu1 (pv 0) (am (aO hr.gd hu60) rfl B.re aK (a8 (pv 1) aa)) fun _ _=>rfl) (b8 hu1 (pv 0) (am (aO hr.gd hu60) rfl B.re aK (a8 (pv 2) aa)) fun _ _=>rfl) (aR _)) (ah (aJ cn)) aL)
  (ad (ao (i:=3) scJd.nd rfl (Or.inl rfl) (b8 hu1 (pv 0) (am (aO hr.gd hu60) rfl B.re aK (a8 (pv 2) aa)) fun _ _=>rfl))
  (ad (aZ PassesOwn.never rfl (aP (aU (kU rfl) rfl B.li PyProof.Rows.boot_list (a8 (pv 0) aa))) (aj (i:=4) scJd.nd rfl (Or.inl rfl))
   (ah (ba (aN cS (b8 hu1 (pv 0) (pv 4) fun _ _=>rfl) (pv 3) (aR _)) (ah (cU hu1 (pv 0) (pv 4) (b8 hu1 (pv 0) (am (aO hr.gd hu60) rfl B.re aK (a8 (pv 1) aa)) fun _ _=>rfl) rfl)) aL)))
  (ah (aJ cn)))),?_⟩
 have hL:=sl5
 obtain ⟨b,eb,g1⟩:=hLb.at m1
 obtain ⟨a,ea,g2⟩:=hLb.at m2
 obtain ⟨y1,y2,y3⟩:=R.rp t1 m1
 obtain ⟨z1,z2,z3⟩:=R.rp t2 m2
 obtain ⟨tl1,e1⟩:=cJ (R.gt t1 m1)
 obtain ⟨tl2,e2⟩:=cJ (R.gt t2 m2)
 have ht1':=ht1
 have y1':=y1
 have y2':=y2
 have y3':=y3
 rw [e1] at ht1 y1 y2 y3 g1
 rw [e2] at ht2 z1 z2 z3 g2
 refine ⟨_,rfl,_,rfl,v1,tl1,rfl,ht1,y1,y2,y3,d,_,rfl,g1,_,rfl,_,rfl,v2,tl2,rfl,ht2,z1,z2,z3,d,_,rfl,g2,rfl,_,rfl,?_⟩
 by_cases q:b=a
 · rw [q,decide_eq_true rfl]
   refine iteT ?_
   exact kF (by rw [eb,ea,q]) H (Same.refl H)
 have nq:¬V.int (b:Int)=V.int (a:Int):=fun z=>q (xw (V.int.inj z))
 rw [decide_eq_false nq]
 refine iteF ?_
 refine ⟨_,rfl,_,rfl,v2,tl2,rfl,ht2,z1,z2,z3,d,_,rfl,g2,?_⟩
 refine ⟨_,rfl,d,kvs,rfl,hLb.hd,fun l nl=> ?_⟩
 have ek:(kvs.map fun e=>kV e.1)=us.map fun t=>V.str (tD t).shown:=by
  have h1:(kvs.map fun e=>kV e.1)=(kvs.map (·.1)).map kV:=by rw [List.map_map];rfl
  rw [h1,hLb.ks,List.map_map]
  rfl
 rw [ek]
 have sl:Same H (upd H l (.lst (us.map fun t=>V.str (tD t).shown))):=ae nl
 have hl:(upd H l (.lst (us.map fun t=>V.str (tD t).shown))) l=some (.lst (us.map fun t=>V.str (tD t).shown)):=a9
 have ld:l≠d:=fun z=>by rw [z,hLb.hd] at nl;cases nl
 have hLb0:=hLb.same sl
 generalize upd H l (.lst (us.map fun t=>V.str (tD t).shown))=H1 at*
 refine ⟨l,rfl,⟨_,SqL.of hl⟩,?_⟩
 have ln:=R.len
 refine bc (xs:=us.map fun t=>V.str (tD t).shown) (fun i σ H'=>(∃v4,σ= [some (.ref d),some v1,some v2,some (.int (a:Int)),v4])∧But1 d H1 H'∧∃rs' kvs',Lab H' d us rs' kvs'∧∀j:Nat,rs'[j]?=if j < i then (mrg a b rs)[j]? else rs[j]?)
  ⟨⟨none,rfl⟩,fun x o _ e=>e,rs,kvs,hLb0,fun j=>by rw [if_neg (xG _)]⟩ (fun i σ H' _ pp=>SqL.of (pp.2.1 _ _ ld hl)) ?_ ?_
 · intro i v σ H' ev z_
   refine hide fun q_ e_=> ?_
   obtain ⟨⟨v4,rfl⟩,b1,rs',kvs',hL',hrs⟩:=z_
   subst e_
   rw [wN] at ev
   obtain ⟨t,et,rfl⟩:=x5.mp ev
   have mt:=wJ et
   have ei:=pR R.nd et
   obtain ⟨c,ec,gc⟩:=hL'.at mt
   have kd:=b1.kd hLb0.hd
   have vr:∀ {r:Nat},rs[i]?=some r→c=r:=fun {r} e=>by
    have:=hrs i
    rw [if_neg (Nat.lt_irrefl _),e] at this
    rw [ei,this] at ec
    exact (wT ec).symm
   have li:i < rs.length:=by rw [hLb.rl];exact (wK.mp et).1
   have er:=wI li
   have cr:=vr er
   rw [←cr] at er
   refine au ?_
   refine ⟨_,rfl,_,rfl,d,_,rfl,gc,_,rfl,rfl,_,rfl,?_⟩
   by_cases qa:c=a
   · rw [qa,decide_eq_true rfl]
     refine iteT ?_
     obtain ⟨b',eb',gb'⟩:=hL'.at m1
     have bb:b'=b:=by
      have:=hrs (ix us t1)
      rw [eb'] at this
      by_cases hlt:ix us t1 < i
      · rw [if_pos hlt,ki eb,if_neg q] at this
        exact wT this
      · rw [if_neg hlt,eb] at this
        exact wT this
     subst bb
     rw [e1] at gb'
     have ht1b:=ht1.mono ((Kd.of_same sl).trans kd)
     have l5:=hL'.len
     refine ⟨_,rfl,_,rfl,v1,tl1,rfl,ht1b,y1,y2,y3,d,_,rfl,gb',_,rfl,_,rfl,d,_,rfl,DPut.k (k:=shL t) hL'.hd (by omega),⟨_,rfl⟩,fun x o nx e=>by rw [af nx];exact b1 x o nx e,_,_,hL'.put R mt b',fun j=> ?_⟩
     rw [ei]
     by_cases hj:j=i
     · subst hj
       rw [if_pos (Nat.lt_succ_self _),List.getElem?_set_self (by rw [hL'.rl,←hLb.rl];exact li),ki er,if_pos qa]
     · rw [List.getElem?_set_ne (Ne.symm hj),hrs j]
       by_cases hlt:j < i
       · rw [if_pos hlt,if_pos (by omega)]
       · rw [if_neg hlt,if_neg (by omega)]
   · have nq2:¬V.int (c:Int)=V.int (a:Int):=fun z=>qa (xw (V.int.inj z))
     rw [decide_eq_false nq2]
     refine iteF ?_
     refine ⟨⟨_,rfl⟩,b1,rs',kvs',hL',fun j=> ?_⟩
     rw [hrs j]
     by_cases hlt:j < i
     · rw [if_pos hlt,if_pos (by omega)]
     · rw [if_neg hlt]
       by_cases hj:j=i
       · subst hj
         rw [if_pos (Nat.lt_succ_self _),ki er,if_neg qa,er]
       · rw [if_neg (by omega)]
 · intro σ H' z_
   refine hide fun q_ e_=> ?_
   obtain ⟨⟨v4,rfl⟩,b1,rs',kvs',hL',hrs⟩:=z_
   subst e_
   have er:rs'=mrg a b rs:=by
    refine xL fun j=> ?_
    rw [hrs j,wL]
    by_cases hj:j < us.length
    · rw [if_pos hj]
    · rw [if_neg hj,xa (by rw [hLb.rl];omega),xa (by rw [dU,hLb.rl];omega)]
   rw [er] at hL'
   exact kT a b H' kvs' ea eb (Ne.symm q) (fun x o nx e=>b1 x o nx (sl _ _ e)) hL'
def spAl (K:PySem.W.Frag):Sp:=fun vs H Q _=>∃(d:Addr) (v1 v2:V) (f g:Str) (as bs:List Tr) (us:List Tr) (rs:List Nat) (kvs:List (Key×V)),vs= [.ref d,v1,v2]∧Rl us∧Lab H d us rs kvs∧TrAt H v1 (cal f as)∧TrAt H v2 (cal g bs)∧(∀a∈as,a∈us)∧(∀b∈bs,b∈us)∧as.length≤3∧
 ∀c:Bool,(c=true↔f=g∧as.map (fun x=>rs[ix us x]?)=bs.map (fun x=>rs[ix us x]?))→Q (.bl c) H
theorem scAl:aM ["_law_labels","_law_one","_law_other","_law_k"] ["_law_labels","_law_one","_law_other"] (ag dC):=⟨rfl,rfl,rfl,by decide +kernel,rfl,by decide +kernel,by decide +kernel⟩
theorem wm {f:Addr} {fd:FuncData} (F:Fun K "_law_alike_calls" "_law_alike_calls" dC f fd) (B:Blt mg):FnOk P w K mg base CX0 1 f fd ["_law_labels","_law_one","_law_other"] (spAl K):=by
 refine F.ok scAl (fun vs H Q E h=> ?_) (fun cdv A outer s H vs Q E hr h=> ?_)
 · refine hide fun q_ e_=> ?_
   obtain ⟨d,v1,v2,f,g,as,bs,us,rs,kvs,rfl,_⟩:=h
   subst e_
   rfl
 refine hide fun q_ e_=> ?_
 obtain ⟨d,v1,v2,ff,gg,as,bs,us,rs,kvs,rfl,R,hLb,ht1,ht2,ma,mb,a3,k⟩:=h
 subst e_
 have hu1:=eU hr
 have hu60:(A.deeper (PyProof.Rows.envOfC (Str.ofString "_law_alike_calls") (ag dC) s.heap.objs.size f cdv)).units+60 < cLine:=by have:=hr.units;omega
 refine ⟨_,ad (ba (PW.pt (lG (aN eO (aB aW (pv 1) ai fun _ _=>rfl) (aB aW (pv 2) ai fun _ _=>rfl) (aR _)) (jZ (aN eO (am av rfl B.le PySem.boot_len (a8 (aB aW (pv 1) ai fun _ _=>rfl) aa)) (am av rfl B.le PySem.boot_len (a8 (aB aW (pv 2) ai fun _ _=>rfl) aa)) (aR _))))) (ah (aJ cn)) aL)
  (ad (aZ PassesOwn.never rfl (bX rfl B.ra (a8 (am av rfl B.le PySem.boot_len (a8 (aB aW (pv 1) ai fun _ _=>rfl) aa)) aa)) (aj (i:=3) scAl.nd rfl (Or.inl rfl))
   (ah (ba (aN eO (b8 hu1 (pv 0) (am (aO hr.gd hu60) rfl B.re aK (a8 (aB aW (aB aW (pv 1) ai fun _ _=>rfl) (pv 3) fun _ _=>rfl) aa)) fun _ _=>rfl) (b8 hu1 (pv 0) (am (aO hr.gd hu60) rfl B.re aK (a8 (aB aW (aB aW (pv 2) ai fun _ _=>rfl) (pv 3) fun _ _=>rfl) aa)) fun _ _=>rfl) (aR _)) (ah (aJ cn)) aL)))
  (ah (aJ cn))),?_⟩
 refine hide fun q_ e_=> ?_
 obtain ⟨r1,p1,q1,rfl,hr1,a1,b1⟩:=at3 ht1
 subst e_
 refine hide fun q_ e_=> ?_
 obtain ⟨r2,p2,q2,rfl,hr2,a2,b2⟩:=at3 ht2
 subst e_
 have:=at_s a1
 subst this
 have:=at_s a2
 subst this
 refine hide fun q_ e_=> ?_
 obtain ⟨s1,vs,rfl,hs1,hvs⟩:=at_t b1
 subst e_
 refine hide fun q_ e_=> ?_
 obtain ⟨s2,ws,rfl,hs2,hws⟩:=at_t b2
 subst e_
 have vl:=hvs.len
 have wl:=hws.len
 refine ⟨_,rfl,r1,_,1, .str ff,rfl,rfl,SqT.of hr1,rfl,_,rfl,r2,_,1, .str gg,rfl,rfl,SqT.of hr2,rfl,rfl,_,rfl,?_⟩
 by_cases ef:ff=gg
 · subst ef
   rw [decide_eq_true rfl]
   refine iteF ?_
   refine ⟨_,rfl,r1,_,2, .ref s1,rfl,rfl,SqT.of hr1,rfl,s1,vs,rfl, .inr (SqT.of hs1),_,rfl,r2,_,2, .ref s2,rfl,rfl,SqT.of hr2,rfl,s2,ws,rfl, .inr (SqT.of hs2),rfl,_,rfl,?_⟩
   by_cases el:vs.length=ws.length
   · have el':as.length=bs.length:=by omega
     rw [el,decide_eq_true rfl]
     refine iteF ?_
     refine ⟨_,rfl,r1,_,2, .ref s1,rfl,rfl,SqT.of hr1,rfl,s1,vs,rfl, .inr (SqT.of hs1),(vs.length:Int),rfl,by omega,by omega,?_⟩
     rw [show ((vs.length:Int)).toNat=vs.length from rfl]
     refine cb (fun i σ H'=>(∃v3,σ= [some (.ref d),some (.ref r1),some (.ref r2),v3])∧H=H'∧∀(j:Nat) (x y:Tr),j < i→as[j]?=some x→bs[j]?=some y→rs[ix us x]?=rs[ix us y]?) ⟨⟨none,rfl⟩,rfl,fun j x y h=>absurd h (xG _)⟩ ?_ ?_
     · rintro i σ H' hi ⟨⟨v3,rfl⟩,rfl,hpre⟩
       have e1:=wI hi
       have e2:=wI (show i < ws.length by omega)
       obtain ⟨x,ex,hx⟩:=hvs.get' e1
       obtain ⟨y,ey,hy⟩:=hws.get' e2
       have mx:=ma x (wJ ex)
       have my:=mb y (wJ ey)
       obtain ⟨c1,ec1,g1⟩:=hLb.at mx
       obtain ⟨c2,ec2,g2⟩:=hLb.at my
       obtain ⟨y1,y2,y3⟩:=R.rp x mx
       obtain ⟨z1,z2,z3⟩:=R.rp y my
       obtain ⟨tl1,et1⟩:=cJ (R.gt x mx)
       obtain ⟨tl2,et2⟩:=cJ (R.gt y my)
       rw [et1] at hx y1 y2 y3 g1
       rw [et2] at hy z1 z2 z3 g2
       rw [Int.zero_add]
       refine au ?_
       refine ⟨_,rfl,_,rfl,r1,_,2, .ref s1,rfl,rfl,SqT.of hr1,rfl,_,rfl,s1,vs,(i:Int),vs[i],rfl,rfl,SqT.of hs1,aS e1,vs[i],tl1,rfl,hx,y1,y2,y3,d,_,rfl,g1,_,rfl,_,rfl,r2,_,2, .ref s2,rfl,rfl,SqT.of hr2,rfl,_,rfl,s2,ws,(i:Int),ws[i],rfl,rfl,SqT.of hs2,aS e2,ws[i],tl2,rfl,hy,z1,z2,z3,d,_,rfl,g2,rfl,_,rfl,?_⟩
       by_cases ec:c1=c2
       · rw [ec,decide_eq_true rfl]
         refine iteF ?_
         refine ⟨⟨_,rfl⟩,rfl,fun j x' y' hj ex' ey'=> ?_⟩
         rcases xk j i with h|h
         · exact hpre j x' y' h ex' ey'
         · have:j=i:=by omega
           subst this
           rw [ex] at ex'
           rw [ey] at ey'
           cases ex'
           cases ey'
           rw [ec1,ec2,ec]
       · have nq:¬V.int (c1:Int)=V.int (c2:Int):=fun z=>ec (xw (V.int.inj z))
         rw [decide_eq_false nq]
         refine iteT ?_
         refine k false ⟨(fun h=>by cases h),fun h=> ?_⟩
         have:=congrArg (fun l=>l[i]?) h.2
         simp only [wN,ex,ey,xF,ec1,ec2,Option.some.injEq] at this
         exact absurd this ec
     · rintro σ H' ⟨⟨v3,rfl⟩,rfl,hpre⟩
       refine k true ⟨fun _=>⟨rfl,xL fun j=> ?_⟩,fun _=>rfl⟩
       rw [wN,wN]
       by_cases hj:j < vs.length
       · have e1:=wI (show j < as.length by omega)
         have e2:=wI (show j < bs.length by omega)
         rw [e1,e2,xF,xF,hpre j _ _ hj e1 e2]
       · rw [xa (by omega),xa (by omega)]
   · have nq:¬V.int (vs.length:Int)=V.int (ws.length:Int):=fun z=>el (xw (V.int.inj z))
     rw [decide_eq_false nq]
     refine iteT ?_
     refine k false ⟨(fun h=>by cases h),fun h=> ?_⟩
     have:=congrArg List.length h.2
     rw [wL,wL] at this
     exact absurd (by omega) el
 · have nq:¬V.str ff=V.str gg:=fun z=>ef (V.str.inj z)
   rw [decide_eq_false nq]
   refine iteT ?_
   refine iteT ?_
   exact k false ⟨(fun h=>by cases h),fun h=>absurd h.1 ef⟩
end
open PySem L2 Mth Tre Wd Su Tw Fm
section
variable {P:Program} {w:World} {K:PySem.W.Frag} {mg:Str→Option Value} {base:Heap}
def iw (K:PySem.W.Frag):Sp:=fun vs H Q _=>∃(a p:Addr) (ns:List Int) (b m:Nat) (ws:List V) (us:List Tr),vs= [.ref a, .int b, .ref p, .int m]∧SqL K H a (ns.map V.int)∧ns.length≤63∧b≤10000∧0 < m∧m≤100∧H p=some (.lst ws)∧TrsAt H ws us∧0 < us.length∧
 ∀D ps (L:List (Tr×Tr)) H',H D=none→Same H H'→H' D=some (.lst ps)→TrsAt H' ps (L.map pr)→(∀q∈L,q.1∈us∧q.2∈us)→L.length≤2*m→Q (.ref D) H'
theorem scLikes:aM ["_law_script","_law_base","_law_pool_here","_law_most","_law_likes_here","_law_k","_law_one","_law_other"] ["_law_script","_law_base","_law_pool_here","_law_most"] (ag eA):=⟨rfl,rfl,rfl,by decide +kernel,rfl,by decide +kernel,by decide +kernel⟩
theorem ph {f fD:Addr} {fd fdD:FuncData} (F:Fun K "_law_likes" "_law_likes" eA f fd) (B:Blt mg)
 (GD:FnOk P w K mg base CX0 1 fD fdD ["_law_script","_law_k","_law_many"] (fK K)) (kD:PySem.W.keepIn K (.ref fD)=true) (bD:Binds K fdD ["_law_script","_law_k","_law_many"] []) (mD:mg "_law_draw"=some (.ref fD)):
 FnOk P w K mg base CX0 2 f fd ["_law_script","_law_base","_law_pool_here","_law_most"] (iw K):=by
 refine F.ok scLikes (fun vs H Q E h=> ?_) (fun cdv A outer s H vs Q E hr h=> ?_)
 · refine hide fun q_ e_=> ?_
   obtain ⟨a,p,ns,b,m,ws,us,rfl,_⟩:=h
   subst e_
   rfl
 refine hide fun q_ e_=> ?_
 obtain ⟨a,p,ns,b,m,ws,us,rfl,hS,h63,hb,m0,m100,hp,hA,u0,k⟩:=h
 subst e_
 refine ⟨_,ad (ao (i:=4) scLikes.nd rfl (Or.inl rfl) (bE aa))
  (ad (aZ PassesOwn.never rfl (bX rfl B.ra (a8 (ak GD hr rfl mD kD bD .nil aF (a8 (pv 0) (a8 (pv 1) (a8 (pv 3) aa)))) aa)) (aj (i:=5) scLikes.nd rfl (Or.inl rfl))
   (ad (ao (i:=6) scLikes.nd rfl (Or.inl rfl) (aB aH (pv 2) (ak GD hr rfl mD kD bD .nil aF (a8 (pv 0) (a8 (aA aY (aA aY (pv 1) ai) (aA c9 ai (pv 5))) (a8 (am av rfl B.le PySem.boot_len (a8 (pv 2) aa)) aa)))) fun _ _=>rfl))
   (ad (ao (i:=7) scLikes.nd rfl (Or.inl rfl) (aB aH (pv 2) (ak GD hr rfl mD kD bD .nil aF (a8 (pv 0) (a8 (aA aY (aA aY (pv 1) ai) (aA c9 ai (pv 5))) (a8 (am av rfl B.le PySem.boot_len (a8 (pv 2) aa)) aa)))) fun _ _=>rfl))
   (ad (bf (cG PySem.F.plainAttrs_list PySem.F.slot_list_append PySem.F.type_list_append aT (pv 4) (a8 (bn (a8 (pv 6) (a8 (pv 7) aa))) aa)))
   (ah (ba (aN cS (ak GD hr rfl mD kD bD .nil aF (a8 (pv 0) (a8 (aA aY (aA aY (pv 1) ai) (aA c9 ai (pv 5))) (a8 ai aa)))) ai (aR _))
    (ah (bf (cG PySem.F.plainAttrs_list PySem.F.slot_list_append PySem.F.type_list_append aT (pv 4) (a8 (bn (a8 (pv 7) (a8 (pv 6) aa))) aa)))) aL))))))
  (ah (aJ (pv 4)))),?_⟩
 have hL:(20000:Nat)≤sizeLine:=by decide +kernel
 refine ⟨by show 0≤sizeLine;decide,fun D nD=> ?_⟩
 have sD:Same H (upd H D (.lst [])):=ae nD
 have hDD:(upd H D (.lst [])) D=some (.lst []):=a9
 generalize upd H D (.lst [])=H0 at*
 have wl:=hA.len
 refine ⟨_,rfl,_,rfl,_,rfl,a,ns,(b:Int),(m:Int),rfl,SqL.same sD hS,h63,by omega,by omega,by omega,fun n n0 nm=> ?_⟩
 obtain ⟨n',rfl⟩:∃n':Nat,n=(n':Int):=⟨n.toNat,by omega⟩
 refine ⟨(n':Int),rfl,by omega,by omega,?_⟩
 rw [show ((n':Int)).toNat=n' from rfl]
 refine cb (fun i σ H'=>(∃v5 v6 v7,σ= [some (.ref a),some (.int b),some (.ref p),some (.int m),some (.ref D),v5,v6,v7])∧Same H H'∧∃ps L,H' D=some (.lst ps)∧TrsAt H' ps (L.map pr)∧(∀q∈L,q.1∈us∧q.2∈us)∧L.length≤2*i)
  ⟨⟨none,none,none,rfl⟩,sD,[],[],hDD, .nil,(fun q mq=>by cases mq),wO _⟩ ?_ ?_
 · intro i σ H' hi z_
   refine hide fun q_ e_=> ?_
   obtain ⟨⟨v5,v6,v7,rfl⟩,sH,ps,L,hD',hP,hm,hl⟩:=z_
   subst e_
   have hp':=sH _ _ hp
   have hS':=SqL.same sH hS
   refine au ?_
   refine ⟨_,rfl,_,rfl,_,rfl,(b:Int),1,rfl,rfl,_,rfl,3,0+(i:Int),rfl,rfl, .inl ⟨by decide,by decide⟩,_,_,rfl,rfl,_,rfl,p,ws,rfl, .inl (SqL.of hp'),a,ns,_,_,rfl,hS',h63,by omega,by omega,by omega,fun o1 o10 o11=> ?_⟩
   obtain ⟨o,rfl⟩:∃n:Nat,o1=(n:Int):=⟨o1.toNat,by omega⟩
   have lo:o < ws.length:=by omega
   obtain ⟨t1,et1,ht1⟩:=hA.get' (wI lo)
   refine ⟨p,ws,(o:Int),ws[o],rfl,rfl,SqL.of hp',aS (wI lo),?_⟩
   refine ⟨_,rfl,_,rfl,_,rfl,(b:Int),2,rfl,rfl,_,rfl,3,0+(i:Int),rfl,rfl, .inl ⟨by decide,by decide⟩,_,_,rfl,rfl,_,rfl,p,ws,rfl, .inl (SqL.of hp'),a,ns,_,_,rfl,hS',h63,by omega,by omega,by omega,fun q1 q10 q11=> ?_⟩
   obtain ⟨q,rfl⟩:∃n:Nat,q1=(n:Int):=⟨q1.toNat,by omega⟩
   have lq:q < ws.length:=by omega
   obtain ⟨t2,et2,ht2⟩:=hA.get' (wI lq)
   refine ⟨p,ws,(q:Int),ws[q],rfl,rfl,SqL.of hp',aS (wI lq),?_⟩
   have mt1:=wJ et1
   have mt2:=wJ et2
   have pl:=hP.len
   rw [wL] at pl
   refine ⟨_,rfl, .inl ⟨rfl,_,SqL.of hD'⟩,_,rfl,_,rfl,by show 2≤sizeLine;decide,fun T1 nT1=> ?_⟩
   have s1:Same H' (upd H' T1 (.tup [ws[o],ws[q]])):=ae nT1
   refine ⟨D,ps,_,rfl,rfl,s1 _ _ hD',by omega,?_⟩
   have k2:=bO (ys:=ps++ [.ref T1]) (s1 _ _ hD')
   have sA:=sH.trans s1
   have kA:=(Kd.of_same sA).trans k2
   have hP2:TrsAt (upd (upd H' T1 (.tup [ws[o],ws[q]])) D (.lst (ps++ [.ref T1]))) (ps++ [.ref T1]) ((L++ [(t1,t2)]).map pr):=by
    rw [xi]
    exact K61.TrsAt.snoc ((hP.mono (Kd.of_same s1)).mono k2) (mV (k2.tup _ _ a9) (ht1.mono kA) (ht2.mono kA))
   have s2:Same H (upd (upd H' T1 (.tup [ws[o],ws[q]])) D (.lst (ps++ [.ref T1]))):=aq nD sA
   have hD2:(upd (upd H' T1 (.tup [ws[o],ws[q]])) D (.lst (ps++ [.ref T1]))) D=some (.lst (ps++ [.ref T1])):=a9
   have hm2:∀x∈L++ [(t1,t2)],x.1∈us∧x.2∈us:=fun x mx=>by
    rcases x4.mp mx with h|h
    · exact hm x h
    · rw [wS.mp h]
      exact ⟨mt1,mt2⟩
   generalize (upd (upd H' T1 (.tup [ws[o],ws[q]])) D (.lst (ps++ [.ref T1])))=H2 at*
   refine ⟨_,rfl,_,rfl,(b:Int),3,rfl,rfl,_,rfl,3,0+(i:Int),rfl,rfl, .inl ⟨by decide,by decide⟩,_,_,rfl,rfl,a,ns,_,9,rfl,SqL.same s2 hS,h63,by omega,by omega,by decide,fun r9 r90 r91=>⟨rfl,_,rfl,?_⟩⟩
   refine ite2 (fun _=> ?_) (fun _=> ?_)
   · refine ⟨_,rfl, .inl ⟨rfl,_,SqL.of hD2⟩,_,rfl,_,rfl,by show 2≤sizeLine;decide,fun T3 nT3=> ?_⟩
     have s3:Same H2 (upd H2 T3 (.tup [ws[q],ws[o]])):=ae nT3
     refine ⟨D,_,_,rfl,rfl,s3 _ _ hD2,by simp only [wM,x8];omega,?_⟩
     have k4:=bO (ys:=ps++ [.ref T1]++ [.ref T3]) (s3 _ _ hD2)
     have kB:=(Kd.of_same (s2.trans s3)).trans k4
     refine ⟨⟨_,_,_,rfl⟩,aq nD (s2.trans s3),_,L++ [(t1,t2)]++ [(t2,t1)],a9,?_,fun x mx=> ?_,by simp only [wM,x8];omega⟩
     · rw [xi]
       exact K61.TrsAt.snoc ((hP2.mono (Kd.of_same s3)).mono k4) (mV (k4.tup _ _ a9) (ht2.mono kB) (ht1.mono kB))
     · rcases x4.mp mx with h|h
       · exact hm2 x h
       · rw [wS.mp h]
         exact ⟨mt2,mt1⟩
   · exact ⟨⟨_,_,_,rfl⟩,s2,_,_,hD2,hP2,hm2,by rw [wM,x8];omega⟩
 · intro σ H' z_
   refine hide fun q_ e_=> ?_
   obtain ⟨⟨v5,v6,v7,rfl⟩,sH,ps,L,hD',hP,hm,hl⟩:=z_
   subst e_
   exact ⟨_,rfl,k D ps L H' nD sH hD' hP hm (by omega)⟩
end
open PySem L2 Mth Tre Wd Su Tw Fm Rp Fp Lb
def isC:Tr→Bool
 | .tup [_,_,_]=>true
 |_=>false
structure Cl (us:List Tr) (L:List (Tr×Tr)) (rs0:List Nat) (g:Bool) (rs:List Nat) (done:Prop):Prop where
 rn:∀r∈rs,r < us.length
 rS:RS us L rs
 ff:g=false→rs=rs0∧done
 tt:g=true→cnt us.length rs < cnt us.length rs0
theorem Cl.le {us:List Tr} {L:List (Tr×Tr)} {rs0 rs:List Nat} {g:Bool} {done:Prop} (h:Cl us L rs0 g rs done):cnt us.length rs≤cnt us.length rs0:=by
 cases g with
 |false=>rw [(h.ff rfl).1];exact wO _
 |true=>exact xX (h.tt rfl)
theorem Cl.imp {us:List Tr} {L:List (Tr×Tr)} {rs0 rs:List Nat} {g:Bool} {done done':Prop} (h:Cl us L rs0 g rs done) (i:rs=rs0→done→done'):Cl us L rs0 g rs done':=⟨h.rn,h.rS,fun e=>⟨(h.ff e).1,i (h.ff e).1 (h.ff e).2⟩,h.tt⟩
theorem Cl.join {us:List Tr} {L:List (Tr×Tr)} {rs0 rs:List Nat} {g:Bool} {done done':Prop} (h:Cl us L rs0 g rs done) (hl:rs.length=us.length) {t1 t2:Tr} {a b:Nat} (m1:t1∈us) (m2:t2∈us) (c:Cg us L t1 t2) (ea:rs[ix us t2]?=some a) (eb:rs[ix us t1]?=some b) (ne:a≠b):Cl us L rs0 true (mrg a b rs) done':=by
 have ma:=wJ ea
 have mb:=wJ eb
 refine ⟨fun r mr=> ?_,h.rS.mrg hl (bh m2) (bh m1) c.symm ea eb,(fun z=>by cases z),fun _=> ?_⟩
 · unfold mrg at mr
   obtain ⟨x,mx,rfl⟩:=xq.mp mr
   split
   · exact h.rn _ mb
   · exact h.rn _ mx
 · exact xb (mK ma mb ne h.rn) h.le
def Pr (us:List Tr) (rs:List Nat) (cs:List Tr) (x y:Nat):Prop:=∀f as bs,cs[x]?=some (cal f as)→cs[y]?=some (cal f bs)→as.map (fun a=>rs[ix us a]?)=bs.map (fun b=>rs[ix us b]?)→rs[ix us (cal f as)]?=rs[ix us (cal f bs)]?
def Dn (us:List Tr) (L:List (Tr×Tr)) (rs:List Nat) (cs:List Tr) (i j:Nat):Prop:=(∀q∈L,rs[ix us q.1]?=rs[ix us q.2]?)∧∀x y:Nat,(x < i∧y < x)∨(x=i∧y < j)→Pr us rs cs x y
theorem wD {us:List Tr} {L:List (Tr×Tr)} {rs cs:List Nat} {us':List Tr} (R:Rl us) (e:us'=us.filter isC) (h:Dn us L rs us' us'.length 0):Cs us rs∧Ls us L rs:=by
 refine ⟨fun i j f as bs ei ej em=> ?_,h.1⟩
 have mi:=wJ ei
 have mj:=wJ ej
 rw [←pR R.nd ei,←pR R.nd ej]
 have ci:cal f as∈us':=by rw [e];exact List.mem_filter.mpr ⟨mi,rfl⟩
 have cj:cal f bs∈us':=by rw [e];exact List.mem_filter.mpr ⟨mj,rfl⟩
 obtain ⟨x,hx,ex⟩:=xf ci
 obtain ⟨y,hy,ey⟩:=xf cj
 have ex':us'[x]?=some (cal f as):=by rw [wI hx,ex]
 have ey':us'[y]?=some (cal f bs):=by rw [wI hy,ey]
 rcases Nat.lt_trichotomy x y with q|q|q
 · exact (h.2 y x (.inl ⟨hy,q⟩) f bs as ey' ex' em.symm).symm
 · subst q
   rw [ex'] at ey'
   rw [wT ey']
 · exact h.2 x y (.inl ⟨hx,q⟩) f as bs ex' ey' em
theorem qb {t:Tr} (h:Gt t) (c:isC t=true):∃f as,t=cal f as∧as.length≤3:=by
 cases h with
 |nm x hx=>cases c
 |ap f as hf h0 h3 hh=>exact ⟨f,as,rfl,h3⟩
section
variable {P:Program} {w:World} {K:PySem.W.Frag} {mg:Str→Option Value} {base:Heap}
def lu (K:PySem.W.Frag):Sp:=fun vs H Q _=>∃(p l:Addr) (ws ps:List V) (us:List Tr) (L:List (Tr×Tr)),vs= [.ref p, .ref l]∧H p=some (.lst ws)∧TrsAt H ws us∧Rl us∧H l=some (.lst ps)∧TrsAt H ps (L.map pr)∧(∀q∈L,q.1∈us∧q.2∈us)∧
 ∀d rs kvs H',H d=none→Same H H'→Lab H' d us rs kvs→RS us L rs→Cs us rs→Ls us L rs→Q (.ref d) H'
theorem scClo:aM ["_law_pool_here","_law_likes_here","_law_labels","_law_k","_law_calls","_law_going","_law_one","_law_other"] ["_law_pool_here","_law_likes_here"] (ag dB):=⟨rfl,rfl,rfl,by decide +kernel,rfl,by decide +kernel,by decide +kernel⟩
theorem uP {f fJ fA:Addr} {fd fdJ fdA:FuncData} (F:Fun K "_law_close" "_law_close" dB f fd) (B:Blt mg)
 (GJ:FnOk P w K mg base CX0 1 fJ fdJ ["_law_labels","_law_one","_law_other"] (spJd K)) (kJ:PySem.W.keepIn K (.ref fJ)=true) (bJ:Binds K fdJ ["_law_labels","_law_one","_law_other"] []) (mJ:mg "_law_joined"=some (.ref fJ))
 (GA:FnOk P w K mg base CX0 1 fA fdA ["_law_labels","_law_one","_law_other"] (spAl K)) (kA:PySem.W.keepIn K (.ref fA)=true) (bA:Binds K fdA ["_law_labels","_law_one","_law_other"] []) (mA:mg "_law_alike_calls"=some (.ref fA)):
 FnOk P w K mg base CX0 2 f fd ["_law_pool_here","_law_likes_here"] (lu K):=by
 refine F.ok scClo (fun vs H Q E h=> ?_) (fun cdv A outer s H vs Q E hr h=> ?_)
 · refine hide fun q_ e_=> ?_
   obtain ⟨p,l,ws,ps,us,L,rfl,_⟩:=h
   subst e_
   rfl
 refine hide fun q_ e_=> ?_
 obtain ⟨p,l,ws,ps,us,L,rfl,hp,hT,R,hl,hP,hm,k⟩:=h
 subst e_
 have hu1:=eU hr
 have hu60:(A.deeper (PyProof.Rows.envOfC (Str.ofString "_law_close") (ag dB) s.heap.objs.size f cdv)).units+60 < cLine:=by have:=hr.units;omega
 have ndt:(["_law_term"]:List Str).Nodup:=by decide +kernel
 refine ⟨_,ad (ao (i:=2) scClo.nd rfl (Or.inl rfl) dR)
  (ad (aZ PassesOwn.never rfl (bX rfl B.ra (a8 (am av rfl B.le PySem.boot_len (a8 (pv 0) aa)) aa)) (aj (i:=3) scClo.nd rfl (Or.inl rfl))
   (ah (cU hu1 (pv 2) (am (aO hr.gd hu60) rfl B.re aK (a8 (aB aH (pv 0) (pv 3) fun _ _=>rfl) aa)) (pv 3) rfl)))
  (ad (fh (i:=4) (NC:= ["_law_term"]) (mp:= [none]) rfl scClo.nd rfl rfl rfl (aP (pv 0)) (fun _ _ _ _ _=>aj (i:=0) ndt rfl (Or.inl rfl)) (fun _ _ _ _ _=>f9 (aN cS (aB (r:=rIxT K) aW (pv 0) ai fun _ _=>rfl) cF (aR _))) (fun _ _ _ _ _=>pv 0))
  (ad (ao (i:=5) scClo.nd rfl (Or.inl rfl) cn)
  (ad (df PassesOwn.never (cM (pv 5))
   (ad (ao (i:=5) scClo.nd rfl (Or.inl rfl) cn)
   (ad (aZ PassesOwn.never rfl (aP (pv 1)) (cE (n:=2) rfl (aG (aj (i:=6) scClo.nd rfl (Or.inl rfl)) (aG (aj (i:=7) scClo.nd rfl (Or.inl rfl)) c6)))
    (ah (ao (i:=5) scClo.nd rfl (Or.inl rfl) (tw (ak GJ hr rfl mJ kJ bJ .nil aF (a8 (pv 2) (a8 (pv 6) (a8 (pv 7) aa)))) (p7 (pv 5))))))
   (ah (aZ PassesOwn.never rfl (bX rfl B.ra (a8 (am av rfl B.le PySem.boot_len (a8 (pv 4) aa)) aa)) (aj (i:=3) scClo.nd rfl (Or.inl rfl))
    (ah (aZ PassesOwn.never rfl (aP (jc lx (pv 4) lK (lJ (pv 3)))) (aj (i:=7) scClo.nd rfl (Or.inl rfl))
     (ah (ba (cM (ak GA hr rfl mA kA bA .nil aF (a8 (pv 2) (a8 (aB aH (pv 4) (pv 3) fun _ _=>rfl) (a8 (pv 7) aa)))))
      (ah (ao (i:=5) scClo.nd rfl (Or.inl rfl) (tw (ak GJ hr rfl mJ kJ bJ .nil aF (a8 (pv 2) (a8 (aB aH (pv 4) (pv 3) fun _ _=>rfl) (a8 (pv 7) aa)))) (p7 (pv 5))))) aL)))))))))
  (ah (aJ (pv 2))))))),?_⟩
 have hL:=sl5
 have ln:=R.len
 have wl:=hT.len
 intro d nd
 have s1:Same H (upd H d (.dK [])):=ae nd
 have hd1:(upd H d (.dK [])) d=some (.dK []):=a9
 generalize upd H d (.dK [])=H1 at*
 refine ⟨_,rfl,p,ws,rfl, .inl (SqL.of (s1 _ _ hp)),(ws.length:Int),rfl,by omega,by omega,?_⟩
 rw [show ((ws.length:Int)).toNat=ws.length from rfl]
 refine cb (fun i σ H'=>(∃v3,σ= [some (.ref p),some (.ref l),some (.ref d),v3,none,none,none,none])∧Same H H'∧∃kvs,H' d=some (.dK kvs)∧kvs.map (·.1)=(us.take i).map shL∧∀(j:Nat) (t:Tr),j < i→us[j]?=some t→valV kvs (shL t)=some (.int (j:Int)))
  ⟨⟨none,rfl⟩,s1,[],hd1,rfl,fun j t h=>absurd h (xG _)⟩ ?_ ?_
 · intro i σ H' hi z_
   refine hide fun q_ e_=> ?_
   obtain ⟨⟨v3,rfl⟩,sH,kvs,hd',hks,hvl⟩:=z_
   subst e_
   have ev:=wI hi
   obtain ⟨t,et,ht⟩:=(hT.mono (Kd.of_same sH)).get' ev
   have mt:=wJ et
   obtain ⟨z1,z2,z3⟩:=R.rp t mt
   have gt:=R.gt t mt
   have hno:valV kvs (shL t)=none:=by
    cases e:valV kvs (shL t) with
    |none=>rfl
    |some z=>
     obtain ⟨q,mq,e1,_⟩:=da e
     have m:q.1∈kvs.map (·.1):=List.mem_map_of_mem mq
     rw [hks,e1] at m
     obtain ⟨u,mu,eu⟩:=xq.mp m
     have:=iB (R.gt u (List.mem_of_mem_take mu)) gt (Sum.inr.inj eu)
     subst this
     obtain ⟨j,hj,ej⟩:=xf mu
     rw [xh] at hj
     rw [List.getElem_take] at ej
     have:=dS R.nd (i:=j) (j:=i) (x:=u) (by rw [wI (by omega),ej]) et
     omega
   have kl:=congrArg List.length hks
   rw [wL,wL,xh] at kl
   obtain ⟨tl,e1⟩:=cJ gt
   have ht2:=ht
   have y1:=z1
   rw [e1] at ht2 z1 z2 z3
   rw [Int.zero_add]
   refine au ?_
   refine ⟨_,rfl,_,rfl,_,rfl,_,rfl,p,ws,(i:Int),ws[i],rfl,rfl,SqL.of (sH _ _ hp),aS ev,ws[i],tl,rfl,ht2,z1,z2,z3,d,_,rfl,DPut.k (k:=shL (.tup tl)) hd' (by omega),⟨_,rfl⟩,aq nd sH,_,a9,?_,?_⟩
   · rw [←e1,cR _ hno,xi,hks,xm,et,xi]
     rfl
   · intro j u hj eu
     rw [←e1,dG]
     by_cases q:shL u=shL t
     · rw [if_pos q]
       have:=iB (R.gt u (wJ eu)) gt (Sum.inr.inj q)
       subst this
       rw [dS R.nd eu et]
     · rw [if_neg q]
       rcases xk j i with h|h
       · exact hvl j u h eu
       · have:j=i:=by omega
         subst this
         rw [et] at eu
         cases eu
         exact absurd rfl q
 intro σ H2 z_
 refine hide fun q_ e_=> ?_
 obtain ⟨⟨v3,rfl⟩,s2,kvs,hd2,hks,hvl⟩:=z_
 subst e_
 rw [xK (by omega)] at hks
 have hLb:Lab H2 d us (List.range us.length) kvs:=⟨hd2,hks,x3,fun t mt r er=>by
  have e:=bh mt
  have:=hvl (ix us t) t (by rw [wl];exact cq mt) e
  rw [List.getElem?_range (cq mt)] at er
  rw [this,wT er]⟩
 have rs0:RS us L (List.range us.length):=fun i j t u ei ej e=>by
  rw [List.getElem?_range (wK.mp ei).1,List.getElem?_range (wK.mp ej).1] at e
  have:=wT e
  subst this
  rw [ei] at ej
  cases ej
  exact .refl _
 have hp2:=s2 _ _ hp
 dsimp only
 refine bM ?_
 refine dq rfl ?_
 refine ⟨_,rfl,p,rfl,⟨_,SqL.of hp2⟩,fun c nc=> ?_⟩
 refine cX (xs:=ws) (fun i acc H'=>Same H2 H'∧H' c=some (.lst acc)∧TrsAt H' acc ((us.take i).filter isC)) ⟨ae nc,a9,by rw [List.take_zero];exact .nil⟩ (fun i acc H' pp=>SqL.of (pp.1 _ _ hp2)) ?_ ?_
 · rintro i v acc H' hi ev ⟨sH,hc,hA⟩
   obtain ⟨t,et,ht⟩:=(hT.mono (Kd.of_same (s2.trans sH))).get' ev
   have mt:=wJ et
   have al:=hA.len
   have fl:=xN isC (us.take i)
   rw [xh] at fl
   have etk:(us.take (i+1)).filter isC=(us.take i).filter isC++ [t].filter isC:=by
    rw [xm,et,List.filter_append]
    rfl
   have ht0:=ht
   cases R.gt t mt with
   |nm x hx=>
    refine hide fun q_ e_=> ?_
    obtain ⟨r,y',rfl,hr',_⟩:=at2 ht
    subst e_
    refine ⟨_,rfl,r,_,0, .str (Str.ofString "name"),rfl,rfl,SqT.of hr',rfl,rfl,_,rfl,?_⟩
    refine ite2 (fun h=>absurd h (by decide +kernel)) (fun _=>CompS.mk hi ⟨sH,hc,?_⟩)
    rw [etk]
    exact (y9 _).symm▸hA
   |ap f0 as hf h0 h3 hh=>
    refine hide fun q_ e_=> ?_
    obtain ⟨r,y1,y2,rfl,hr',t1,t2⟩:=at3 ht
    subst e_
    refine ⟨_,rfl,r,_,0, .str (Str.ofString "call"),rfl,rfl,SqT.of hr',rfl,rfl,_,rfl,?_⟩
    refine ite2 (fun _=> ?_) (fun h=>absurd (by decide +kernel) h)
    refine ⟨_,rfl,CompN.mk hi (by omega) hc ⟨aq nc sH,a9,?_⟩⟩
    rw [etk]
    have kd:=bO (ys:=acc++ [.ref r]) hc
    exact K61.TrsAt.snoc (hA.mono kd) (ht0.mono kd)
 rintro cv H3 ⟨s3,hc3,hC⟩
 rw [xK (by omega)] at hC
 obtain ⟨cs,ecs⟩:∃cs,cs=us.filter isC:=⟨_,rfl⟩
 rw [←ecs] at hC
 have cvl:=hC.len
 have csl:cs.length≤us.length:=by rw [ecs];exact xN _ _
 have csm:∀t∈cs,t∈us∧isC t=true:=fun t m=>by
  rw [ecs] at m
  exact List.mem_filter.mp m
 have sH3:=s2.trans s3
 have hLb3:=hLb.same s3
 have hp3:=sH3 _ _ hp
 have hl3:=sH3 _ _ hl
 have hP3:=hP.mono (Kd.of_same sH3)
 have hd3:=hLb3.hd
 have ld:l≠d:=fun z=>by rw [z,hd3] at hl3;cases hl3
 have cd:c≠d:=fun z=>by rw [z,hd3] at hc3;cases hc3
 try dsimp only
 refine bM ?_
 try dsimp only [tC]
 refine ⟨fun m σ H'=>∃(g:Bool) (rs:List Nat) (kvs:List (Key×V)) (v3 v6 v7:Option V),σ= [some (.ref p),some (.ref l),some (.ref d),v3,some (.ref c),some (.bl g),v6,v7]∧But1 d H3 H'∧Lab H' d us rs kvs∧(∀r∈rs,r < us.length)∧RS us L rs∧(g=false→Cs us rs∧Ls us L rs)∧m=(if g=true then cnt us.length rs+1 else 0),
  ⟨cnt us.length (List.range us.length)+1,true,_,_,_,_,_,rfl,(fun x o _ e=>e),hLb3,fun r mr=>xj.mp mr,rs0,(fun z=>by cases z),rfl⟩,?_⟩
 intro m σ H4 z_
 refine hide fun q_ e_=> ?_
 obtain ⟨g,rs,kvs4,v3,v6,v7,rfl,b4,hL4,hrn,hRS,hff,hmm⟩:=z_
 subst e_
 refine ⟨_,rfl,g,rfl,?_⟩
 cases g with
 |false=>
  refine iteF ?_
  exact ⟨_,rfl,k d rs kvs4 H4 nd (fun x o e=>b4 x o (ar e nd) (sH3 x o e)) hL4 hRS (hff rfl).1 (hff rfl).2⟩
 |true=>
 rw [if_pos rfl] at hmm
 refine iteT ⟨fun σ' H'=>∃m',m' < m∧∃(g:Bool) (rs:List Nat) (kvs:List (Key×V)) (v3 v6 v7:Option V),σ'= [some (.ref p),some (.ref l),some (.ref d),v3,some (.ref c),some (.bl g),v6,v7]∧But1 d H3 H'∧Lab H' d us rs kvs∧(∀r∈rs,r < us.length)∧RS us L rs∧(g=false→Cs us rs∧Ls us L rs)∧m'=(if g=true then cnt us.length rs+1 else 0),fun σ' H' h=>h,?_⟩
 refine bM ?_
 try dsimp only [tC]
 refine ⟨_,rfl,l,rfl,⟨_,SqL.of (b4 _ _ ld hl3)⟩,?_⟩
 refine bc (xs:=ps) (fun i σ H'=>∃(g:Bool) (rs':List Nat) (kvs:List (Key×V)) (v6 v7:Option V),σ= [some (.ref p),some (.ref l),some (.ref d),v3,some (.ref c),some (.bl g),v6,v7]∧But1 d H3 H'∧Lab H' d us rs' kvs∧Cl us L rs g rs' (∀q∈L.take i,rs[ix us q.1]?=rs[ix us q.2]?))
  ⟨false,rs,kvs4,_,_,rfl,b4,hL4,⟨hrn,hRS,fun _=>⟨rfl,fun q mq=>by rw [List.take_zero] at mq;cases mq⟩,(fun z=>by cases z)⟩⟩ (fun i σ H' _ pp=>by obtain ⟨_,_,_,_,_,_,b,_⟩:=pp;exact SqL.of (b _ _ ld hl3)) ?_ ?_
 · intro i v σ H' ev z_
   refine hide fun q_ e_=> ?_
   obtain ⟨g,rs',kvs',v6,v7,rfl,bH,hL',hCl⟩:=z_
   subst e_
   have kdH:=bH.kd hd3
   obtain ⟨pt,ept,hpt⟩:=(hP3.mono kdH).get' ev
   rw [wN] at ept
   obtain ⟨q,eq,rfl⟩:=x5.mp ept
   have mq:=wJ eq
   obtain ⟨m1,m2⟩:=hm q mq
   refine hide fun q_ e_=> ?_
   obtain ⟨r,x1,x2,rfl,hr',t1,t2⟩:=iK hpt
   subst e_
   have tk1:∀ {rsx:List Nat},(∀q∈L.take i,rsx[ix us q.1]?=rsx[ix us q.2]?)→rsx[ix us q.1]?=rsx[ix us q.2]?→∀q'∈L.take (i+1),rsx[ix us q'.1]?=rsx[ix us q'.2]?:=fun h1 h2 q' mq'=>by
    rw [xm,eq] at mq'
    rcases x4.mp mq' with mq'|mq'
    · exact h1 q' mq'
    · have:q'=q:=by simpa using mq'
      rw [this]
      exact h2
   refine ⟨r,_,rfl,SqT.of hr',rfl,_,_,rfl,_,_,rfl,rfl,?_⟩
   refine ⟨_,rfl,_,rfl,_,rfl,d,x1,x2,q.1,q.2,us,rs',kvs',rfl,R,hL',t1,t2,m1,m2,fun e H5 s5=>⟨false,rfl,?_⟩,fun a b H5 kvs5 ea eb ne b5 hL5=>⟨true,rfl,?_⟩⟩
   · refine iteF ⟨_,rfl,?_⟩
     exact ⟨g,rs',kvs',_,_,rfl,bH.trans (But1.of_same s5),hL'.same s5,hCl.imp fun er hd=>tk1 hd (by rw [←er];exact e)⟩
   · refine iteT ?_
     exact ⟨true,_,kvs5,_,_,rfl,bH.trans b5,hL5,hCl.join hL'.rl m1 m2 (.ax mq) ea eb ne⟩
 intro σ H5 z_
 refine hide fun q_ e_=> ?_
 obtain ⟨g,rs5,kvs5,v6,v7,rfl,b5,hL5,hCl⟩:=z_
 subst e_
 have plL:=hP.len
 rw [wL] at plL
 rw [xK (by omega)] at hCl
 refine ⟨_,rfl,c,cv,rfl, .inl (SqL.of (b5 _ _ cd hc3)),(cv.length:Int),rfl,by omega,by omega,?_⟩
 rw [show ((cv.length:Int)).toNat=cv.length from rfl]
 refine cb (fun i σ H'=>∃(g:Bool) (rs':List Nat) (kvs:List (Key×V)) (v3 v6 v7:Option V),σ= [some (.ref p),some (.ref l),some (.ref d),v3,some (.ref c),some (.bl g),v6,v7]∧But1 d H3 H'∧Lab H' d us rs' kvs∧Cl us L rs g rs' (Dn us L rs cs i 0))
  ⟨g,rs5,kvs5,_,_,_,rfl,b5,hL5,hCl.imp fun _ hd=>⟨hd,fun x y h=>by omega⟩⟩ ?_ ?_
 · intro i σ H' hi z_
   refine hide fun q_ e_=> ?_
   obtain ⟨g,rs',kvs',v3,v6,v7,rfl,bH,hL',hCl⟩:=z_
   subst e_
   have hics:i < cs.length:=by omega
   have hc':=bH _ _ cd hc3
   have kdH:=bH.kd hd3
   rw [Int.zero_add]
   refine au ?_
   refine ⟨_,rfl,_,rfl,(i:Int),rfl,c,cv,rfl,SqL.of hc',fun q nq=> ?_⟩
   rw [jz (by omega)]
   have sq:Same H' (upd H' q (.lst (cv.take i))):=ae nq
   have hq:(upd H' q (.lst (cv.take i))) q=some (.lst (cv.take i)):=a9
   have qd:q≠d:=fun z=>by rw [z,hL'.hd] at nq;cases nq
   have bq:But1 d H3 (upd H' q (.lst (cv.take i))):=bH.trans (But1.of_same sq)
   have hLq:=hL'.same sq
   generalize upd H' q (.lst (cv.take i))=H6 at*
   refine ⟨q,rfl,⟨_,SqL.of hq⟩,?_⟩
   refine bc (xs:=cv.take i) (fun j σ H''=>∃(g:Bool) (rs':List Nat) (kvs:List (Key×V)) (v6 v7:Option V),σ= [some (.ref p),some (.ref l),some (.ref d),some (.int (i:Int)),some (.ref c),some (.bl g),v6,v7]∧But1 d H6 H''∧Lab H'' d us rs' kvs∧Cl us L rs g rs' (Dn us L rs cs i j))
    ⟨g,rs',kvs',_,_,rfl,(fun x o _ e=>e),hLq,hCl⟩ (fun j σ H'' _ pp=>by obtain ⟨_,_,_,_,_,_,b,_⟩:=pp;exact SqL.of (b _ _ qd hq)) ?_ ?_
   · intro j v σ H'' ev z_
     refine hide fun q_ e_=> ?_
     obtain ⟨g,rs',kvs',v6,v7,rfl,b6,hL6,hCl6⟩:=z_
     subst e_
     have hj:j < i:=by
      have:=(wK.mp ev).1
      rw [xh] at this
      omega
     rw [List.getElem?_take_of_lt hj] at ev
     have b36:=bq.trans b6
     have kd36:=b36.kd hd3
     have hC6:=hC.mono kd36
     obtain ⟨u,eu,hu⟩:=hC6.get' ev
     have ei:=wI hi
     obtain ⟨t,et,ht⟩:=hC6.get' ei
     obtain ⟨mt,ct⟩:=csm t (wJ et)
     obtain ⟨mu,cu⟩:=csm u (wJ eu)
     obtain ⟨ff,as,e1,a3⟩:=qb (R.gt t mt) ct
     obtain ⟨gg,bs,e2,b3⟩:=qb (R.gt u mu) cu
     subst e1 e2
     have ma:∀x∈as,x∈us:=fun x mx=>R.cl _ mt x (by rw [j0];exact mx)
     have mb:∀x∈bs,x∈us:=fun x mx=>R.cl _ mu x (by rw [j0];exact mx)
     have hc6:=b36 _ _ cd hc3
     have nxt:∀ {rsx:List Nat},Dn us L rsx cs i j→Pr us rsx cs i j→Dn us L rsx cs i (j+1):=fun {rsx} h1 h2=>⟨h1.1,fun x y h=>by
      rcases h with h|⟨rfl,h⟩
      · exact h1.2 x y (.inl h)
      · rcases xk y j with z|z
        · exact h1.2 _ y (.inr ⟨rfl,z⟩)
        · have:y=j:=by omega
          subst this
          exact h2⟩
     refine au ?_
     refine ⟨_,rfl,_,rfl,_,rfl,c,cv,(i:Int),cv[i],rfl,rfl,SqL.of hc6,aS ei,_,rfl,d,cv[i],v,ff,gg,as,bs,us,rs',kvs',rfl,R,hL6,ht,hu,ma,mb,a3,fun cc hcc=>⟨cc,rfl,?_⟩⟩
     cases cc with
     |false=>
      refine iteF ?_
      refine ⟨g,rs',kvs',_,_,rfl,b6,hL6,hCl6.imp fun er hd=>nxt hd fun f0 as0 bs0 h1 h2 h3=> ?_⟩
      rw [et] at h1
      rw [eu] at h2
      have q1:=Tr.tup.inj (wT h1)
      have q2:=Tr.tup.inj (wT h2)
      simp only [xH,Tr.str.injEq,Tr.tup.injEq,and_true,true_and] at q1 q2
      obtain ⟨rfl,rfl⟩:=q1
      obtain ⟨rfl,rfl⟩:=q2
      rw [←er] at h3
      have:=hcc.mpr ⟨rfl,h3⟩
      cases this
     |true=>
      refine iteT ?_
      obtain ⟨efg,emap⟩:=hcc.mp rfl
      subst efg
      have cg:Cg us L (cal ff as) (cal ff bs):=by
       have hl':=congrArg List.length emap
       rw [wL,wL] at hl'
       refine .cong ff as bs mt mu hl' fun x a b ea eb=> ?_
       have:=congrArg (fun l=>l[x]?) emap
       simp only [wN,ea,eb,xF,Option.some.injEq] at this
       exact hCl6.rS _ _ _ _ (bh (ma a (wJ ea))) (bh (mb b (wJ eb))) this
      refine ⟨_,rfl,_,rfl,_,rfl,c,cv,(i:Int),cv[i],rfl,rfl,SqL.of hc6,aS ei,_,rfl,d,cv[i],v,_,_,us,rs',kvs',rfl,R,hL6,ht,hu,mt,mu,fun e H7 s7=>⟨false,rfl,?_⟩,fun a b H7 kvs7 ea eb ne b7 hL7=>⟨true,rfl,?_⟩⟩
      · refine iteF ⟨_,rfl,?_⟩
        refine ⟨g,rs',kvs',_,_,rfl,b6.trans (But1.of_same s7),hL6.same s7,hCl6.imp fun er hd=>nxt hd fun f0 as0 bs0 h1 h2 h3=> ?_⟩
        rw [et] at h1
        rw [eu] at h2
        rw [←wT h1,←wT h2,←er]
        exact e
      · refine iteT ?_
        exact ⟨true,_,kvs7,_,_,rfl,b6.trans b7,hL7,hCl6.join hL6.rl mt mu cg ea eb ne⟩
   · intro σ H'' z_
     refine hide fun q_ e_=> ?_
     obtain ⟨g,rs',kvs',v6,v7,rfl,b6,hL6,hCl6⟩:=z_
     subst e_
     refine ⟨g,rs',kvs',_,_,_,rfl,bq.trans b6,hL6,hCl6.imp fun er hd=>⟨hd.1,fun x y h=> ?_⟩⟩
     rw [xh] at hd
     rcases h with ⟨h1,h2⟩|⟨h1,h2⟩
     · rcases xk x i with z|z
       · exact hd.2 x y (.inl ⟨z,h2⟩)
       · have:x=i:=by omega
         subst this
         exact hd.2 _ y (.inr ⟨rfl,by omega⟩)
     · omega
 · intro σ H7 z_
   refine hide fun q_ e_=> ?_
   obtain ⟨g,rs7,kvs7,v3,v6,v7,rfl,b7,hL7,hCl7⟩:=z_
   subst e_
   rw [cvl] at hCl7
   refine ⟨if g=true then cnt us.length rs7+1 else 0,?_,g,rs7,kvs7,_,_,_,rfl,b7,hL7,hCl7.rn,hCl7.rS,fun e=> ?_,rfl⟩
   · cases g with
     |false=>rw [hmm];exact Nat.succ_pos _
     |true=>
      rw [hmm,if_pos rfl]
      have:=hCl7.tt rfl
      omega
   · obtain ⟨e1,e2⟩:=hCl7.ff e
     rw [e1]
     exact wD (cs:=rs) R ecs e2
end
open PySem L2 Mth Tre Wd Su Tw Fm Rp Fp Lb
theorem si {us0 ts:List Tr} (g:gK us0) (h:∀t∈ts,t∈us0):Gs ts us0:=by
 refine hide fun q_ e_=> ?_
 obtain ⟨_,c,_,l16,hg⟩:=g
 subst e_
 refine ⟨fun t mt=>⟨(hg t (h t mt)).1,(hg t (h t mt)).2.1⟩,fun t mt x sb=> ?_,by omega⟩
 have m:=c.sb sb (h t mt)
 exact ⟨m,(hg x m).2.2.1⟩
theorem sV {us0:List Tr} {L:List (Tr×Tr)} (hL:∀q∈L,q.1∈us0∧q.2∈us0):∀t∈allT L,t∈us0:=fun t mt=>by
 unfold allT at mt
 obtain ⟨q,mq,mt⟩:=xB.mp mt
 simp only [wY,xc,or_false] at mt
 rcases mt with rfl|rfl
 · exact (hL q mq).1
 · exact (hL q mq).2
theorem oR {us0:List Tr} (g:gK us0) {t:Tr} (m:t∈us0):Tt t∧t.depth≤40∧(tD t).shown.length≤sizeLine:=by
 obtain ⟨g1,g2,_,g4⟩:=g.2.2.2.2 t m
 have h3:=sl5
 refine ⟨tL g1,by omega,?_⟩
 rw [e8]
 omega
theorem r8 {us0:List Tr} (g:gK us0):Rl us0:=⟨g.1,fun t m=>(g.2.2.2.2 t m).1,g.2.1,fun t m=>oR g m,by have:=g.2.2.2.1;omega⟩
theorem wz {us ts U:List Tr} (hg:Gs ts U) (nd:us.Nodup) (cl:Clt us) (mem:∀x,x∈us↔∃t∈ts,Sb x t):Fa us:=by
 obtain ⟨g1,g2,g3⟩:=hg
 refine ⟨nd,cl,fun t mt=> ?_,?_⟩
 · obtain ⟨u,mu,sb⟩:=(mem t).mp mt
   have:=sb.depth (g1 u mu).1
   have h2:=(g1 u mu).2
   exact ⟨this.1,by omega,(g2 u mu t sb).2⟩
 · have:=sub_len nd fun x mx=>by
    obtain ⟨u,mu,sb⟩:=(mem x).mp mx
    exact (g2 u mu x sb).1
   omega
theorem pV {us ts:List Tr} (mem:∀x,x∈us↔∃t∈ts,Sb x t) {t:Tr} (m:t∈ts):t∈us:=(mem t).mpr ⟨t,m, .refl t⟩
structure mZ (U:List Tr) (L:List (Tr×Tr)) (t1 t2:Tr) (pn:List Nat):Prop where
 up:pn.Pairwise (· < ·)
 lt:∀n∈pn,n < L.length
 cg:Cg U (sel L pn) t1 t2
 no:∀s∈pn,¬Cg U (sel L (but s pn)) t1 t2
section
variable {P:Program} {w:World} {K:PySem.W.Frag} {mg:Str→Option Value} {base:Heap}
def lg:Sp:=fun vs H Q _=>∃(ll:Addr) (ps:List V) (L:List (Tr×Tr)) (U:List Tr) (v1 v2:V) (t1 t2:Tr),vs= [.ref ll,v1,v2]∧H ll=some (.lst ps)∧TrsAt H ps (L.map pr)∧gK U∧U.length≤14∧(∀q∈L,q.1∈U∧q.2∈U)∧L.length≤60∧TrAt H v1 t1∧TrAt H v2 t2∧t1∈U∧t2∈U∧
 (¬Cg U L t1 t2→∀H',Same H H'→Q .non H')∧(Cg U L t1 t2→∀D (pn:List Nat) H',H D=none→Same H H'→H' D=some (.lst (ivs pn))→mZ U L t1 t2 pn→Q (.ref D) H')
theorem vM:aM ["likes","one","other"] ["likes","one","other"] (ag sRea):=⟨rfl,rfl,rfl,by decide +kernel,rfl,by decide +kernel,by decide +kernel⟩
theorem uE {f fF fW C:Addr} {fd fdF fdW:FuncData} (F:Fun K "reason" "reason" sRea f fd)
 (GF:FnOk P w K mg base CX0 85 fF fdF ["likes","terms"] (oH K C)) (kF:PySem.W.keepIn K (.ref fF)=true) (bF:Binds K fdF ["likes","terms"] []) (mF:mg "family_of"=some (.ref fF))
 (GW:FnOk P w K mg base CX0 44 fW fdW ["family","likes","one","other"] (jU C)) (kW:PySem.W.keepIn K (.ref fW)=true) (bW:Binds K fdW ["family","likes","one","other"] []) (mW:mg "reason_within"=some (.ref fW)):
 FnOk P w K mg base CX0 86 f fd ["likes","one","other"] lg:=by
 refine F.ok vM (fun vs H Q E h=> ?_) (fun cdv A outer s H vs Q E hr h=> ?_)
 · refine hide fun q_ e_=> ?_
   obtain ⟨ll,ps,L,U,v1,v2,t1,t2,rfl,_⟩:=h
   subst e_
   rfl
 refine hide fun q_ e_=> ?_
 obtain ⟨ll,ps,L,U,v1,v2,t1,t2,rfl,hll,hP,hG,h14,hLU,hL60,ht1,ht2,mU1,mU2,kn,kc⟩:=h
 subst e_
 have hrW:Room 44 _:=hr.mono (by omega)
 refine ⟨_,ah (aJ (ak GW hrW rfl mW kW bW .nil aF (a8 (ak GF hr rfl mF kF bF .nil aF (a8 (pv 0) (a8 (bE (a8 (pv 1) (a8 (pv 2) aa))) aa))) (a8 (pv 0) (a8 (pv 1) (a8 (pv 2) aa)))))),?_⟩
 refine ⟨_,rfl,_,rfl,_,rfl,by show 2≤sizeLine;decide,fun l nl=> ?_⟩
 have sl:Same H (upd H l (.lst [v1,v2])):=ae nl
 have hin:∀t∈allT L++ [t1,t2],t∈U:=fun t mt=>by
  rcases x4.mp mt with mt|mt
  · exact sV hLU t mt
  · simp only [wY,xc,or_false] at mt
    rcases mt with rfl|rfl
    · exact mU1
    · exact mU2
 have gs:=si hG hin
 refine ⟨ll,l,ps,[v1,v2],L,[t1,t2],U,rfl,sl _ _ hll,hP.mono (Kd.of_same sl),a9, .cons (ht1.mono (Kd.of_same sl)) (.cons (ht2.mono (Kd.of_same sl)) .nil),gs,by omega,by show 2≤1000;decide,fun a us H1 na s1 hF nd cl up mem=> ?_⟩
 have sA:=sl.trans s1
 have hFa:=wz gs nd cl mem
 have m1:t1∈us:=pV mem (by simp)
 have m2:t2∈us:=pV mem (by simp)
 have usU:∀x∈us,x∈U:=fun x mx=>by
  obtain ⟨t,mt,sb⟩:=(mem x).mp mx
  exact hG.2.1.sb sb (hin t mt)
 have hLu:∀t∈allT L,t∈us:=fun t mt=>pV mem (x6 _ mt)
 have Lus:∀q∈L,q.1∈us∧q.2∈us:=fun q mq=>⟨hLu _ (xB.mpr ⟨q,mq,by simp⟩),hLu _ (xB.mpr ⟨q,mq,by simp⟩)⟩
 have iff:∀M:List (Tr×Tr),(∀q∈M,q∈L)→(Cg us M t1 t2↔Cg U M t1 t2):=fun M hM=>⟨ft usU fun _ m=>m,fun c=>qu cl (fun q mq=>Lus q (hM q mq)) m1 m2 c⟩
 have selL:∀pn:List Nat,∀q∈sel L pn,q∈L:=fun pn q mq=>by
  obtain ⟨i,_,e⟩:=mem_sel.mp mq
  exact wJ e
 have l14:us.length≤14:=xI (sub_len nd usU) h14
 refine ⟨_,rfl,_,rfl,_,rfl,a,ll,us,ps,L,v1,v2,t1,t2,rfl,hF,hFa,l14,sA _ _ hll,hP.mono (Kd.of_same sA),hLu,hL60,ht1.mono (Kd.of_same sA),ht2.mono (Kd.of_same sA),m1,m2,fun nc H2 s2=> ?_,fun c D pn H2 nD s2 hD u1 u2 u3 u4=> ?_⟩
 · exact kn (fun c=>nc ((iff L fun _ m=>m).mpr c)) H2 (sA.trans s2)
 · exact kc ((iff L fun _ m=>m).mp c) D pn H2 (sA.free nD) (sA.trans s2) hD ⟨u1,u2,(iff _ (selL pn)).mp u3,fun s' ms c'=>u4 s' ms ((iff _ (selL _)).mpr c')⟩
def oC:Sp:=fun vs H Q _=>∃(p l pl:Addr) (ws ps:List V) (U:List Tr) (L:List (Tr×Tr)) (pn:List Nat) (v1 v2:V) (t1 t2:Tr),vs= [.ref p, .ref l, .ref pl,v1,v2]∧H p=some (.lst ws)∧TrsAt H ws U∧Rl U∧H l=some (.lst ps)∧TrsAt H ps (L.map pr)∧(∀q∈L,q.1∈U∧q.2∈U)∧H pl=some (.lst (ivs pn))∧(∀n∈pn,n < L.length)∧pn.length≤1000∧TrAt H v1 t1∧TrAt H v2 t2∧t1∈U∧t2∈U∧
 ∀(b:Bool) H',Same H H'→(b=true↔Cg U (sel L pn) t1 t2)→Q (.bl b) H'
theorem scLBy:aM ["_law_pool_here","_law_likes_here","_law_places","_law_one","_law_other","_law_labels"] ["_law_pool_here","_law_likes_here","_law_places","_law_one","_law_other"] (ag sLBy):=⟨rfl,rfl,rfl,by decide +kernel,rfl,by decide +kernel,by decide +kernel⟩
theorem uJ {f fC:Addr} {fd fdC:FuncData} (F:Fun K "_law_by" "_law_by" sLBy f fd) (B:Blt mg)
 (GC:FnOk P w K mg base CX0 2 fC fdC ["_law_pool_here","_law_likes_here"] (lu K)) (kC:PySem.W.keepIn K (.ref fC)=true) (bC:Binds K fdC ["_law_pool_here","_law_likes_here"] []) (mC:mg "_law_close"=some (.ref fC)):
 FnOk P w K mg base CX0 3 f fd ["_law_pool_here","_law_likes_here","_law_places","_law_one","_law_other"] oC:=by
 refine F.ok scLBy (fun vs H Q E h=> ?_) (fun cdv A outer s H vs Q E hr h=> ?_)
 · refine hide fun q_ e_=> ?_
   obtain ⟨p,l,pl,ws,ps,U,L,pn,v1,v2,t1,t2,rfl,_⟩:=h
   subst e_
   rfl
 refine hide fun q_ e_=> ?_
 obtain ⟨p,l,pl,ws,ps,U,L,pn,v1,v2,t1,t2,rfl,hp,hT,R,hl,hP,hLU,hpl,hlt,hpn,ht1,ht2,m1,m2,k⟩:=h
 subst e_
 have hu1:=eU hr
 have hu60:(A.deeper (PyProof.Rows.envOfC (Str.ofString "_law_by") (ag sLBy) s.heap.objs.size f cdv)).units+60 < cLine:=by have:=hr.units;omega
 have nd2:(["_law_place","_law_likes_here"]:List Str).Nodup:=by decide +kernel
 refine ⟨_,ad (ao (i:=5) scLBy.nd rfl (Or.inl rfl) (ak GC hr rfl mC kC bC .nil aF (a8 (pv 0) (a8 (bU (NC:= ["_law_place","_law_likes_here"]) (mp:= [none,some 1]) rfl (aP (pv 2)) (fun _ _ _ _ _=>aj (i:=0) nd2 rfl (Or.inl rfl)) (fun _ _ _ _ _=>bz) (fun _ _ _ _ _=>aB (r:=rIxL K) aH (pv 1) (pv 0) fun _ _=>rfl)) aa))))
  (ah (aJ (rE cS (b8 hu1 (pv 5) (am (aO hr.gd hu60) rfl B.re aK (a8 (pv 3) aa)) fun _ _=>rfl) (b8 hu1 (pv 5) (am (aO hr.gd hu60) rfl B.re aK (a8 (pv 4) aa)) fun _ _=>rfl) (aR _)))),?_⟩
 have hL:=sl5
 refine ⟨_,rfl,?_⟩
 refine bw (rest:= [some (.ref l)]) rfl ?_
 refine ⟨_,rfl,pl,rfl,⟨_,SqL.of hpl⟩,fun D nD=> ?_⟩
 refine cC (xs:=ivs pn) (fun j acc H'=>Same H H'∧H' D=some (.lst acc)∧TrsAt H' acc ((sel L (pn.take j)).map pr)∧acc.length≤j) ⟨ae nD,a9, .nil,wO _⟩ (fun j acc H' q=>SqL.of (q.1 _ _ hpl)) ?_ ?_
 · rintro j x acc H' hj ex ⟨s',hd,hB,hal⟩
   rw [wN] at ex
   obtain ⟨y,ey,rfl⟩:=x5.mp ex
   rw [wL] at hj
   have hy:y < L.length:=hlt y (wJ ey)
   obtain ⟨v,ev,hv⟩:=(hP.mono (Kd.of_same s')).get (i:=y) (t:=pr L[y]) (by rw [wN,wI hy];rfl)
   refine ⟨_,rfl,_,rfl,l,ps,_,v,rfl,rfl,SqL.of (s' _ _ hl),aS ev,?_⟩
   have kd:=bO (ys:=acc++ [v]) hd
   refine CompN.mk (by unfold ivs;rw [wL];exact hj) (by omega) hd ⟨aq nD s',a9,?_,by rw [wM,x8];omega⟩
   have tk1:sel L (pn.take (j+1))=sel L (pn.take j)++ [L[y]]:=by
    unfold sel
    rw [xm,ey]
    show List.filterMap _ (List.take j pn++ [y])=_
    rw [List.filterMap_append]
    congr 1
    simp [wI hy]
   rw [tk1,xi]
   exact K61.TrsAt.snoc (hB.mono kd) (hv.mono kd)
 rintro acc H1 ⟨s1,hd,hB,hal⟩
 unfold ivs at hB
 rw [wL,xt] at hB
 have selL:∀q∈sel L pn,q∈L:=fun q mq=>by
  obtain ⟨i,_,e⟩:=mem_sel.mp mq
  exact wJ e
 refine ⟨p,D,ws,acc,U,sel L pn,rfl,s1 _ _ hp,hT.mono (Kd.of_same s1),R,hd,hB,fun q mq=>hLU q (selL q mq),fun d rs kvs H2 nd s2 hLb hRS hCs hLs=> ?_⟩
 have s12:=s1.trans s2
 have ht1:=ht1.mono (Kd.of_same s12)
 have ht2:=ht2.mono (Kd.of_same s12)
 obtain ⟨b,eb,g1⟩:=hLb.at m1
 obtain ⟨a,ea,g2⟩:=hLb.at m2
 obtain ⟨y1,y2,y3⟩:=R.rp t1 m1
 obtain ⟨z1,z2,z3⟩:=R.rp t2 m2
 obtain ⟨tl1,e1⟩:=cJ (R.gt t1 m1)
 obtain ⟨tl2,e2⟩:=cJ (R.gt t2 m2)
 have iff1:=gr R.nd hRS hCs hLs m1 m2
 rw [eb,ea,Option.some.injEq] at iff1
 rw [e1] at ht1 y1 y2 y3 g1
 rw [e2] at ht2 z1 z2 z3 g2
 refine ⟨_,rfl,_,rfl,v1,tl1,rfl,ht1,y1,y2,y3,d,_,rfl,g1,_,rfl,_,rfl,v2,tl2,rfl,ht2,z1,z2,z3,d,_,rfl,g2,rfl,k _ _ s12 ?_⟩
 rw [←iff1,decide_eq_true_iff]
 constructor
 · exact fun z=>xw (V.int.inj z)
 · intro z
   rw [z]
end
open PySem L2 Mth Tre Wd Su Tw Fm Rp Fp Lb
theorem uZ (K:PySem.W.Frag):PySem.W.kitOne K (.type "list") (.type "list")=some true:=by kernel_rfl
theorem vb (K:PySem.W.Frag):PySem.W.kitOne K (.type "int") (.type "int")=some true:=by kernel_rfl
theorem vc (K:PySem.W.Frag):PySem.W.kitOne K (.type "int") (.type "bool")=some false:=by kernel_rfl
theorem sel_all {L:List (Tr×Tr)} {q:Tr×Tr}:q∈sel L (List.range L.length)↔q∈L:=by
 rw [mem_sel]
 constructor
 · rintro ⟨i,_,e⟩
   exact wJ e
 · intro m
   obtain ⟨i,hi,e⟩:=xf m
   exact ⟨i,xj.mpr hi,by rw [wI hi,e]⟩
section
variable {P:Program} {w:World} {K:PySem.W.Frag} {mg:Str→Option Value} {base:Heap}
def oB:Sp:=fun vs H Q _=>∃(p l:Addr) (ws ps:List V) (U:List Tr) (L:List (Tr×Tr)) (v1 v2 vf:V) (t1 t2:Tr),vs= [.ref p, .ref l,v1,v2,vf]∧H p=some (.lst ws)∧TrsAt H ws U∧Rl U∧H l=some (.lst ps)∧TrsAt H ps (L.map pr)∧(∀q∈L,q.1∈U∧q.2∈U)∧L.length≤60∧TrAt H v1 t1∧TrAt H v2 t2∧t1∈U∧t2∈U∧
 ((vf= .non∧¬Cg U L t1 t2)∨∃D pn,vf= .ref D∧H D=some (.lst (ivs pn))∧Cg U L t1 t2∧mZ U L t1 t2 pn)∧∀H',Same H H'→Q (.bl true) H'
theorem scLRi:aM ["_law_pool_here","_law_likes_here","_law_one","_law_other","_law_found","_law_last","_law_place","_law_struck"] ["_law_pool_here","_law_likes_here","_law_one","_law_other","_law_found"] (ag sLRi):=⟨rfl,rfl,rfl,by decide +kernel,rfl,by decide +kernel,by decide +kernel⟩
theorem uI {f fB:Addr} {fd fdB:FuncData} (F:Fun K "_law_right" "_law_right" sLRi f fd) (B:Blt mg)
 (GB:FnOk P w K mg base CX0 3 fB fdB ["_law_pool_here","_law_likes_here","_law_places","_law_one","_law_other"] oC) (kB:PySem.W.keepIn K (.ref fB)=true) (bB:Binds K fdB ["_law_pool_here","_law_likes_here","_law_places","_law_one","_law_other"] []) (mB:mg "_law_by"=some (.ref fB)):
 FnOk P w K mg base CX0 4 f fd ["_law_pool_here","_law_likes_here","_law_one","_law_other","_law_found"] oB:=by
 refine F.ok scLRi (fun vs H Q E h=> ?_) (fun cdv A outer s H vs Q E hr h=> ?_)
 · refine hide fun q_ e_=> ?_
   obtain ⟨p,l,ws,ps,U,L,v1,v2,vf,t1,t2,rfl,_⟩:=h
   subst e_
   rfl
 refine hide fun q_ e_=> ?_
 obtain ⟨p,l,ws,ps,U,L,v1,v2,vf,t1,t2,rfl,hp,hT,R,hl,hP,hLU,hL60,ht1,ht2,m1,m2,hfnd,k⟩:=h
 subst e_
 have nd2:(["_law_place","_law_struck"]:List Str).Nodup:=by decide +kernel
 refine ⟨_,ad (ba (dD (cM (ak GB hr rfl mB kB bB .nil aF (a8 (pv 0) (a8 (pv 1) (a8 (aU (gD rfl) rfl B.li PyProof.Rows.boot_list (a8 (aU eV rfl B.ra PyProof.Rows.boot_range (a8 (am av rfl B.le PySem.boot_len (a8 (pv 1) aa)) aa)) aa)) (a8 (pv 2) (a8 (pv 3) aa)))))))) (ah (aJ (uz (uA (pv 4))))) aL)
  (ad (ba (dD (cM (am (r:=rIsi K) gE rfl B.isi cA (a8 (pv 4) (a8 (iH (v:= .ty "list") rfl B.li PyProof.Rows.boot_list rfl) aa))))) (ah (aJ cn)) aL)
  (ad (ao (i:=5) scLRi.nd rfl (Or.inl rfl) (lL ij ai))
  (ad (aZ PassesOwn.never rfl (aP (pv 4)) (aj (i:=6) scLRi.nd rfl (Or.inl rfl))
   (ad (ba (PW.pt (lG (dD (cM (am (r:=rIsi K) gE rfl B.isi cA (a8 (pv 6) (a8 (iH (v:= .ty "int") rfl B.it PyProof.Rows.boot_int rfl) aa))))) (lG (cM (am (r:=rIsi K) gE rfl B.isi cA (a8 (pv 6) (a8 (iH (v:= .ty "bool") rfl B.bo PyProof.Rows.boot_bool rfl) aa))))
    (jZ (dD (p5 tE tE (pv 5) (pv 6) (am av rfl B.le PySem.boot_len (a8 (pv 1) aa)))))))) (ah (aJ cn)) aL)
   (ah (ao (i:=5) scLRi.nd rfl (Or.inl rfl) (pv 6)))))
  (ad (ba (dD (cM (ak GB hr rfl mB kB bB .nil aF (a8 (pv 0) (a8 (pv 1) (a8 (pv 4) (a8 (pv 2) (a8 (pv 3) aa)))))))) (ah (aJ cn)) aL)
  (ad (aZ PassesOwn.never rfl (aP (pv 4)) (aj (i:=7) scLRi.nd rfl (Or.inr rfl))
   (ah (ba (cM (ak GB hr rfl mB kB bB .nil aF (a8 (pv 0) (a8 (pv 1) (a8 (bU (NC:= ["_law_place","_law_struck"]) (mp:= [none,some 7]) rfl (aP (pv 4)) (fun _ _ _ _ _=>aj (i:=0) nd2 rfl (Or.inl rfl)) (fun _ _ _ _ _=>f9 (aN eO (pv 0) (pv 1) (aR _))) (fun _ _ _ _ _=>pv 0)) (a8 (pv 2) (a8 (pv 3) aa))))))) (ah (aJ cn)) aL)))
  (ah (aJ cn))))))),?_⟩
 have hL:=sl5
 have pl:=hP.len
 rw [wL] at pl
 refine ⟨_,rfl,_,rfl,_,rfl,l,ps,rfl, .inl (SqL.of hl),L.length,by rw [pl],fun rg nrg=> ?_⟩
 have sg:Same H (upd H rg (RgV rg L.length)):=ae nrg
 refine ⟨rg,L.length,rfl,a9,by omega,fun lr nlr=> ?_⟩
 have sr:Same (upd H rg (RgV rg L.length)) (upd (upd H rg (RgV rg L.length)) lr (.lst ((List.range L.length).map fun (i:Nat)=>V.int i))):=ae nlr
 have hlr:(upd (upd H rg (RgV rg L.length)) lr (.lst ((List.range L.length).map fun (i:Nat)=>V.int i))) lr=some (.lst (ivs (List.range L.length))):=a9
 have s1:=sg.trans sr
 generalize upd (upd H rg (RgV rg L.length)) lr (.lst ((List.range L.length).map fun (i:Nat)=>V.int i))=H1 at*
 refine ⟨_,rfl,_,rfl,p,l,lr,ws,ps,U,L,List.range L.length,v1,v2,t1,t2,rfl,s1 _ _ hp,hT.mono (Kd.of_same s1),R,s1 _ _ hl,hP.mono (Kd.of_same s1),hLU,hlr,fun n m=>xj.mp m,by rw [x3];omega,ht1.mono (Kd.of_same s1),ht2.mono (Kd.of_same s1),m1,m2,fun b H2 s2 hb=> ?_⟩
 have s02:=s1.trans s2
 have hb':b=true↔Cg U L t1 t2:=hb.trans ⟨ft (fun _ m=>m) fun q m=>sel_all.mp m,ft (fun _ m=>m) fun q m=>sel_all.mpr m⟩
 refine ⟨_,rfl,?_⟩
 rcases hfnd with ⟨rfl,nc⟩|⟨D,pn,rfl,hD,cc,hLe⟩
 · have eb:b=false:=by
    cases b with
    |false=>rfl
    |true=>exact absurd (hb'.mp rfl) nc
   subst eb
   exact iteT ⟨_,rfl,k H2 s02⟩
 have eb:b=true:=hb'.mpr cc
 subst eb
 refine iteF ?_
 have hD2:=s02 _ _ hD
 have hn:pn.length≤60:=by
  have:=Fm.sub_len (U:=List.range L.length) (hLe.up.imp fun h=>wW h) fun n m=>xj.mpr (hLe.lt n m)
  rw [x3] at this
  omega
 refine ⟨_,rfl, .ref D, .ty "list", .type "list",true,rfl, .of (.lst hD2), .inl ⟨rfl,uZ K⟩,_,rfl,?_⟩
 refine iteF ?_
 refine ⟨_,rfl,?_⟩
 refine ⟨_,rfl,D,rfl,⟨_,SqL.of hD2⟩,?_⟩
 refine bc (xs:=ivs pn) (fun i σ H'=>H'=H2∧∃(v6:Option V) (la:Int),σ= [some (.ref p),some (.ref l),some v1,some v2,some (.ref D),some (.int la),v6,none]∧∀n:Nat,pn[i]?=some n→la < (n:Int)) ⟨rfl,none,-1,rfl,fun n _=>by omega⟩ (fun i σ H' _ q=>by rw [q.1];exact SqL.of hD2) ?_ ?_
 · intro i v σ H' ex z_
   refine hide fun q_ e_=> ?_
   obtain ⟨rfl,v6,la,rfl,hla⟩:=z_
   subst e_
   rw [wN] at ex
   obtain ⟨y,ey,rfl⟩:=x5.mp ex
   have h1:=hla y ey
   have h2:=hLe.lt y (wJ ey)
   refine au ?_
   refine ⟨_,rfl, .int y, .ty "int", .type "int",true,rfl, .of (.int _), .inl ⟨rfl,vb K⟩,_,rfl,?_⟩
   refine iteF ?_
   refine ⟨_,rfl, .int y, .ty "bool", .type "int",false,rfl, .of (.int _), .inl ⟨rfl,vc K⟩,_,rfl,?_⟩
   refine iteF ?_
   refine ⟨_,rfl,_,rfl,_,_,rfl,rfl,_,rfl,?_⟩
   refine if_t (decide_eq_true h1) ?_
   refine ⟨_,rfl,l,ps,rfl, .inl (SqL.of (s02 _ _ hl)),_,_,rfl,rfl,_,rfl,?_⟩
   refine if_f (by rw [decide_eq_true (by rw [pl];omega)];rfl) ?_
   refine ⟨_,rfl,rfl,_,_,rfl,fun n en=> ?_⟩
   have:=xU.mp hLe.up i (i+1) (wK.mp ey).1 (wK.mp en).1 (by omega)
   rw [(wK.mp ey).2,(wK.mp en).2] at this
   omega
 intro σ H' z_
 refine hide fun q_ e_=> ?_
 obtain ⟨rfl,v6,la,rfl,_⟩:=z_
 subst e_
 refine ⟨_,rfl,_,rfl,_,rfl,_,rfl,_,rfl,p,l,D,ws,ps,U,L,pn,v1,v2,t1,t2,rfl,s02 _ _ hp,hT.mono (Kd.of_same s02),R,s02 _ _ hl,hP.mono (Kd.of_same s02),hLU,hD2,hLe.lt,by omega,ht1.mono (Kd.of_same s02),ht2.mono (Kd.of_same s02),m1,m2,fun b H3 s3 hb=> ?_⟩
 have eb:b=true:=hb.mpr hLe.cg
 subst eb
 refine ⟨_,rfl,?_⟩
 refine iteF ?_
 have s03:=s02.trans s3
 refine ⟨_,rfl,D,rfl,⟨_,SqL.of (s03 _ _ hD)⟩,?_⟩
 refine bc (xs:=ivs pn) (fun i σ H'=>Same H H'∧∃(v7:Option V),σ= [some (.ref p),some (.ref l),some v1,some v2,some (.ref D),some (.int la),v6,v7]) ⟨s03,none,rfl⟩ (fun i σ H' _ q=>SqL.of (q.1 _ _ hD)) ?_ ?_
 · rintro i v σ H4 ex ⟨s04,v7,rfl⟩
   rw [wN] at ex
   obtain ⟨s',ey,rfl⟩:=x5.mp ex
   refine au ?_
   refine ⟨_,rfl,_,rfl,?_⟩
   refine dq (rest:= [some (.int (s':Int))]) rfl ?_
   refine ⟨_,rfl,D,rfl,⟨_,SqL.of (s04 _ _ hD)⟩,fun D1 nD1=> ?_⟩
   refine cX (xs:=ivs pn) (fun j acc H8=>Same H4 H8∧H8 D1=some (.lst acc)∧acc=ivs (but s' (pn.take j))) ⟨ae nD1,a9,rfl⟩ (fun j acc H8 q=>SqL.of (q.1 _ _ (s04 _ _ hD))) ?_ ?_
   · rintro j x acc H8 hj ex ⟨s8,hd8,rfl⟩
     rw [wN] at ex
     obtain ⟨y,ey,rfl⟩:=x5.mp ex
     rw [wL] at hj
     have bl:∀l:List Nat,(ivs (but s' l)).length≤l.length:=fun l=>by unfold ivs;rw [wL];exact xN _ _
     have tk1:but s' (pn.take (j+1))=but s' (pn.take j)++but s' [y]:=by
      unfold but
      rw [xm,ey]
      show List.filter _ (List.take j pn++ [y])=_
      rw [List.filter_append]
     refine ⟨_,rfl,_,rfl,rfl,_,rfl,?_⟩
     by_cases e:y=s'
     · subst e
       rw [decide_eq_true rfl]
       refine iteF ?_
       refine CompS.mk (by unfold ivs;rw [wL];exact hj) ⟨s8,hd8,?_⟩
       rw [tk1]
       unfold but
       simp
     · have en2:¬V.int (y:Int)=V.int (s':Int):=fun z=>e (xw (V.int.inj z))
       rw [decide_eq_false en2]
       refine iteT ?_
       refine ⟨_,rfl,?_⟩
       have:=bl (pn.take j)
       rw [xh] at this
       refine CompN.mk (by unfold ivs;rw [wL];exact hj) (by omega) hd8 ⟨aq nD1 s8,a9,?_⟩
       rw [tk1]
       unfold but
       simp [ivs,e]
   · rintro acc H8 ⟨s8,hd8,rfl⟩
     unfold ivs at hd8
     rw [wL,xt] at hd8
     have s08:=s04.trans s8
     have hbl:(but s' pn).length≤60:=xI (xN _ _) hn
     refine ⟨_,rfl,_,rfl,p,l,D1,ws,ps,U,L,but s' pn,v1,v2,t1,t2,rfl,s08 _ _ hp,hT.mono (Kd.of_same s08),R,s08 _ _ hl,hP.mono (Kd.of_same s08),hLU,hd8,fun n m=>hLe.lt n (mem_but.mp m).1,by omega,ht1.mono (Kd.of_same s08),ht2.mono (Kd.of_same s08),m1,m2,fun b H9 s9 hb=> ?_⟩
     have eb:b=false:=by
      cases b with
      |false=>rfl
      |true=>exact absurd (hb.mp rfl) (hLe.no s' (wJ ey))
     subst eb
     refine ⟨_,rfl,?_⟩
     exact iteF ⟨s08.trans s9,_,rfl⟩
 · rintro σ H4 ⟨s04,v7,rfl⟩
   exact k H4 s04
end
open PySem L2 Mth Tre Wd Su Tw Fm Rp Fp Lb
def Out (H H':Hp) (U:List Tr) (L:List (Tr×Tr)) (t1 t2:Tr) (vf:V):Prop:=(vf= .non∧¬Cg U L t1 t2)∨∃D pn,vf= .ref D∧H D=none∧H' D=some (.lst (ivs pn))∧Cg U L t1 t2∧mZ U L t1 t2 pn
theorem lF {ll:Addr} {ps:List V} {L:List (Tr×Tr)} {U:List Tr} {v1 v2:V} {t1 t2:Tr} {H:Hp} {Q:VK} {E:XK} (h1:H ll=some (.lst ps)) (h2:TrsAt H ps (L.map pr)) (h3:gK U) (h4:U.length≤14) (h5:∀q∈L,q.1∈U∧q.2∈U) (h6:L.length≤60) (h7:TrAt H v1 t1) (h8:TrAt H v2 t2) (h9:t1∈U) (h10:t2∈U)
 (hq:∀vf H',Same H H'→Out H H' U L t1 t2 vf→Q vf H'):lg [.ref ll,v1,v2] H Q E:=
 ⟨ll,ps,L,U,v1,v2,t1,t2,rfl,h1,h2,h3,h4,h5,h6,h7,h8,h9,h10,fun nc H7 s7=>hq _ _ s7 (.inl ⟨rfl,nc⟩),fun c D pn H7 nD s7 hD hLe=>hq _ _ s7 (.inr ⟨D,pn,rfl,nD,hD,c,hLe⟩)⟩
theorem Out.fnd {H H':Hp} {U:List Tr} {L:List (Tr×Tr)} {t1 t2:Tr} {vf:V} (h:Out H H' U L t1 t2 vf):(vf= .non∧¬Cg U L t1 t2)∨∃D pn,vf= .ref D∧H' D=some (.lst (ivs pn))∧Cg U L t1 t2∧mZ U L t1 t2 pn:=by
 rcases h with h|⟨D,pn,a,_,b⟩
 · exact .inl h
 · exact .inr ⟨D,pn,a,b⟩
section
variable {P:Program} {w:World} {K:PySem.W.Frag} {mg:Str→Option Value} {base:Heap}
def lh (K:PySem.W.Frag):Sp:=fun vs H Q _=>∃(a:Addr) (ns:List Int),vs= [.ref a]∧SqL K H a (ns.map V.int)∧ns.length≤63∧∀H',Q (.bl true) H'
theorem scL:aM ["_law_script","_law_pool_here","_law_likes_here","_law_labels","_law_k","_law_one","_law_near","_law_other","_law_given","_law_found"] ["_law_script"] (ag sLaw):=⟨rfl,rfl,rfl,by decide +kernel,rfl,by decide +kernel,by decide +kernel⟩
theorem uK {f fD fP fL fC fR fI:Addr} {fd fdD fdP fdL fdC fdR fdI:FuncData} (F:Fun K "law" "law" sLaw f fd) (B:Blt mg)
 (GD:FnOk P w K mg base CX0 1 fD fdD ["_law_script","_law_k","_law_many"] (fK K)) (kD:PySem.W.keepIn K (.ref fD)=true) (bD:Binds K fdD ["_law_script","_law_k","_law_many"] []) (mD:mg "_law_draw"=some (.ref fD))
 (GP:FnOk P w K mg base CX0 2 fP fdP ["_law_script","_law_base","_law_most"] (jV K)) (kP:PySem.W.keepIn K (.ref fP)=true) (bP:Binds K fdP ["_law_script","_law_base","_law_most"] []) (mP:mg "_law_pool"=some (.ref fP))
 (GL:FnOk P w K mg base CX0 2 fL fdL ["_law_script","_law_base","_law_pool_here","_law_most"] (iw K)) (kL:PySem.W.keepIn K (.ref fL)=true) (bL:Binds K fdL ["_law_script","_law_base","_law_pool_here","_law_most"] []) (mL:mg "_law_likes"=some (.ref fL))
 (GC:FnOk P w K mg base CX0 2 fC fdC ["_law_pool_here","_law_likes_here"] (lu K)) (kC:PySem.W.keepIn K (.ref fC)=true) (bC:Binds K fdC ["_law_pool_here","_law_likes_here"] []) (mC:mg "_law_close"=some (.ref fC))
 (GR:FnOk P w K mg base CX0 86 fR fdR ["likes","one","other"] lg) (kR:PySem.W.keepIn K (.ref fR)=true) (bR:Binds K fdR ["likes","one","other"] []) (mR:mg "reason"=some (.ref fR))
 (GI:FnOk P w K mg base CX0 4 fI fdI ["_law_pool_here","_law_likes_here","_law_one","_law_other","_law_found"] oB) (kI':PySem.W.keepIn K (.ref fI)=true) (bI:Binds K fdI ["_law_pool_here","_law_likes_here","_law_one","_law_other","_law_found"] []) (mI:mg "_law_right"=some (.ref fI)):
 FnOk P w K mg base CX0 87 f fd ["_law_script"] (lh K):=by
 refine F.ok scL (fun vs H Q E h=> ?_) (fun cdv A outer s H vs Q E hr h=> ?_)
 · obtain ⟨a,ns,rfl,_⟩:=h
   rfl
 refine hide fun q_ e_=> ?_
 obtain ⟨a,ns,rfl,hS,h63,k⟩:=h
 subst e_
 have hr1:Room 1 _:=hr.mono (by omega)
 have hr2:Room 2 _:=hr.mono (by omega)
 have hr4:Room 4 _:=hr.mono (by omega)
 have hu1:=eU hr
 have hu60:(A.deeper (PyProof.Rows.envOfC (Str.ofString "law") (ag sLaw) s.heap.objs.size f cdv)).units+60 < cLine:=by have:=hr.units;omega
 have nd3:(["_law_term","_law_labels","_law_one"]:List Str).Nodup:=by decide +kernel
 refine ⟨_,ad (ao (i:=1) scL.nd rfl (Or.inl rfl) (ak GP hr2 rfl mP kP bP .nil aF (a8 (pv 0) (a8 ai (a8 ai aa)))))
  (ad (ao (i:=2) scL.nd rfl (Or.inl rfl) (ak GL hr2 rfl mL kL bL .nil aF (a8 (pv 0) (a8 ai (a8 (pv 1) (a8 ai aa))))))
  (ad (ao (i:=3) scL.nd rfl (Or.inr rfl) (ak GC hr2 rfl mC kC bC .nil aF (a8 (pv 1) (a8 (pv 2) aa))))
  (ad (aZ PassesOwn.never rfl (bX rfl B.ra (a8 ai aa)) (aj (i:=4) scL.nd rfl (Or.inl rfl))
   (ad (ao (i:=5) scL.nd rfl (Or.inr rfl) (aB aH (pv 1) (ak GD hr1 rfl mD kD bD .nil aF (a8 (pv 0) (a8 (aA aY ai (aA c9 ai (pv 4))) (a8 (am av rfl B.le PySem.boot_len (a8 (pv 1) aa)) aa)))) fun _ _=>rfl))
   (ad (fh (i:=6) (NC:= ["_law_term","_law_labels","_law_one"]) (mp:= [none,some 3,some 5]) rfl scL.nd rfl rfl rfl (aP (pv 1)) (fun _ _ _ _ _=>aj (i:=0) nd3 rfl (Or.inl rfl)) (fun _ _ _ _ _=>f9 (aN cS (b8 hu1 (pv 1) (am (aO hr.gd hu60) rfl B.re aK (a8 (pv 0) aa)) fun _ _=>rfl) (b8 hu1 (pv 1) (am (aO hr.gd hu60) rfl B.re aK (a8 (pv 2) aa)) fun _ _=>rfl) (aR _))) (fun _ _ _ _ _=>pv 0))
   (ad (ao (i:=7) scL.nd rfl (Or.inl rfl) (aB aH (pv 6) (ak GD hr1 rfl mD kD bD .nil aF (a8 (pv 0) (a8 (aA aY ai (aA c9 ai (pv 4))) (a8 (am av rfl B.le PySem.boot_len (a8 (pv 6) aa)) aa)))) fun _ _=>rfl))
   (ad (ba (aN cS (pv 4) ai (aR _)) (ah (ao (i:=7) scL.nd rfl (Or.inl rfl) (aB aH (pv 1) (ak GD hr1 rfl mD kD bD .nil aF (a8 (pv 0) (a8 (aA aY ai (aA c9 ai (pv 4))) (a8 (am av rfl B.le PySem.boot_len (a8 (pv 1) aa)) aa)))) fun _ _=>rfl))) aL)
   (ad (ao (i:=8) scL.nd rfl (Or.inl rfl) (aU c8 rfl B.li PyProof.Rows.boot_list (a8 (pv 2) aa)))
   (ad (ao (i:=9) scL.nd rfl (Or.inl rfl) (ak GR hr rfl mR kR bR .nil aF (a8 (pv 8) (a8 (pv 5) (a8 (pv 7) aa)))))
   (ad (ba (PW.pt (lG (aN (uB hu60) (pv 8) (pv 2) (aR _)) (jZ (dD (cM (ak GI hr4 rfl mI kI' bI .nil aF (a8 (pv 1) (a8 (pv 2) (a8 (pv 5) (a8 (pv 7) (a8 (pv 9) aa))))))))))) (ah (aJ cn)) aL)
   (ad (bf (iG PySem.F.plainAttrs_list PySem.F.slot_list_clear PySem.F.type_list_clear pB (pv 8)))
   (ah (ba (PW.pt (iD (eC (iJ (pv 9)) (aR _)) (iC (aN cS (pv 4) ai (aR _)))))
    (ad (bf (cG PySem.F.plainAttrs_list PySem.F.slot_list_append PySem.F.type_list_append aT (pv 9) (a8 (lL ij ai) aa)))
    (ah (ba (dD (cM (ak GI hr4 rfl mI kI' bI .nil aF (a8 (pv 1) (a8 (pv 2) (a8 (pv 5) (a8 (pv 7) (a8 (ak GR hr rfl mR kR bR .nil aF (a8 (aU c8 rfl B.li PyProof.Rows.boot_list (a8 (pv 2) aa)) (a8 (pv 5) (a8 (pv 7) aa)))) aa)))))))) (ah (aJ cn)) aL))) aL)))))))))))
  (ah (aJ cn))))),?_⟩
 have hL:=sl5
 refine ⟨_,rfl,a,ns,100,10,rfl,hS,h63,by decide,by decide,by decide,fun p ws U H1 np s1 hp hT hG h14=> ?_⟩
 have l2:=hG.2.2.1
 have g0:=hG.2.2.2.2
 have wl:=hT.len
 have R:=r8 hG
 refine ⟨_,rfl,_,rfl,a,p,ns,300,10,ws,U,rfl,SqL.same s1 hS,h63,by decide,by decide,by decide,hp,hT,by omega,fun l ps L H2 nl s2 hl hP hm hlen=> ?_⟩
 have hp2:=s2 _ _ hp
 have hT2:=hT.mono (Kd.of_same s2)
 have hS2:=SqL.same (s1.trans s2) hS
 refine ⟨_,rfl,_,rfl,p,l,ws,ps,U,L,rfl,hp2,hT2,R,hl,hP,hm,fun d rs kvs H3 ndd s3 hLb hRS hCs hLs=> ?_⟩
 have hp3:=s3 _ _ hp2
 have hT3:=hT2.mono (Kd.of_same s3)
 have hl3:=s3 _ _ hl
 have hP3:=hP.mono (Kd.of_same s3)
 have hS3:=SqL.same s3 hS2
 clear hp hT s1 s2 hp2 hT2 hl hP hS2 s3
 have pl:=hP3.len
 rw [wL] at pl
 have pdL:Trs.pure (L.map pr)∧Trs.depth (L.map pr)≤40:=by
  refine ⟨de fun t mt=> ?_,i7 fun t mt=> ?_⟩
  · obtain ⟨q,mq,rfl⟩:=xq.mp mt
    have h1:=eX (g0 _ (hm q mq).1).1.ty
    have h2:=eX (g0 _ (hm q mq).2).1.ty
    unfold pr
    simp only [Tr.pure,Trs.pure]
    exact ⟨h1,h2,trivial⟩
  · obtain ⟨q,mq,rfl⟩:=xq.mp mt
    have h1:=(g0 _ (hm q mq).1).2.1
    have h2:=(g0 _ (hm q mq).2).2.1
    unfold pr
    simp only [Tr.depth,Trs.depth]
    omega
 refine ⟨4,rfl,by decide,by decide,?_⟩
 refine cb (n:=4) (fun i σ H'=>(∃v4 v5 v6 v7 v8 v9,σ= [some (.ref a),some (.ref p),some (.ref l),some (.ref d),v4,v5,v6,v7,v8,v9])∧Same H3 H') ⟨⟨none,none,none,none,none,none,rfl⟩,Same.refl _⟩ ?_ ?_
 case refine_2=>
  intro σ H' z_
  refine hide fun q_ e_=> ?_
  obtain ⟨⟨v4,v5,v6,v7,v8,v9,rfl⟩,sH⟩:=z_
  subst e_
  exact k H'
 intro i σ H4 hi z_
 refine hide fun q_ e_=> ?_
 obtain ⟨⟨v4,v5,v6,v7,v8,v9,rfl⟩,s34⟩:=z_
 subst e_
 rw [Int.zero_add]
 refine au ?_
 have hp4:=s34 _ _ hp3
 have hT4:=hT3.mono (Kd.of_same s34)
 have hl4:=s34 _ _ hl3
 have hP4:=hP3.mono (Kd.of_same s34)
 have hS4:=SqL.same s34 hS3
 have hLb4:=hLb.same s34
 refine bg fun ua Za ea eb=> ?_
 refine ⟨_,rfl,_,rfl,_,rfl,3,(i:Int),rfl,rfl, .inl ⟨by decide,by decide⟩,500,_,rfl,rfl,_,rfl,p,ws,rfl, .inl (SqL.of hp4),a,ns,_,_,rfl,hS4,h63,by omega,by omega,by omega,fun r r0 r1=> ?_⟩
 obtain ⟨n1,rfl⟩:∃n1:Nat,r=(n1:Int):=⟨r.toNat,by omega⟩
 have hn1:n1 < U.length:=by omega
 obtain ⟨w1,ew1,hw1⟩:=hT4.get (i:=n1) (t:=U[n1]) (wI hn1)
 refine ⟨p,ws,_,w1,rfl,rfl,SqL.of hp4,aS ew1,?_⟩
 have mt1:U[n1]∈U:=xz hn1
 have et1:U[n1]?=some U[n1]:=wI hn1
 generalize U[n1]=t1 at*
 refine au ?_
 dsimp only
 subst ea eb
 refine bg fun ub Zb ec ed=> ?_
 refine bM ?_
 refine dq (rest:= [some (.ref d),some w1]) rfl ?_
 refine ⟨_,rfl,p,rfl,⟨_,SqL.of hp4⟩,fun D nD=> ?_⟩
 obtain ⟨b1,eb1,q1⟩:=hLb4.at mt1
 obtain ⟨z1,z2,z3⟩:=R.rp t1 mt1
 obtain ⟨tl1,e1⟩:=cJ (R.gt t1 mt1)
 refine cX (xs:=ws) (fun j acc H5=>Same H4 H5∧H5 D=some (.lst acc)∧∃ts,TrsAt H5 acc ts∧(∀t∈ts,t∈U)∧ts.length≤j∧(n1 < j→0 < ts.length)) ⟨ae nD,a9,[], .nil,fun t m=>(nomatch m),wO _,fun h=>absurd h (xG _)⟩ (fun j acc H5 q=>SqL.of (q.1 _ _ hp4)) ?_ ?_
 · intro j x acc H5 hj ex z_
   refine hide fun q_ e_=> ?_
   obtain ⟨s45,hD,ts,hts,hin,hlt,hpos⟩:=z_
   subst e_
   have hjU:j < U.length:=by omega
   obtain ⟨x',ex',hx⟩:=(hT4.mono (Kd.of_same s45)).get (i:=j) (t:=U[j]) (wI hjU)
   rw [ex] at ex'
   cases ex'
   have mtj:U[j]∈U:=xz hjU
   have etj:U[j]?=some U[j]:=wI hjU
   generalize U[j]=tj at*
   have hLb5:=hLb4.same s45
   obtain ⟨b2,eb2,q2⟩:=hLb5.at mtj
   obtain ⟨b1',eb1',q1'⟩:=hLb5.at mt1
   rw [eb1] at eb1'
   cases eb1'
   obtain ⟨y1,y2,y3⟩:=R.rp tj mtj
   obtain ⟨tl2,e2⟩:=cJ (R.gt tj mtj)
   have hw5:=hw1.mono (Kd.of_same s45)
   have hx0:=hx
   have same:j=n1→b2=b1:=fun e=>by
    subst e
    rw [etj] at et1
    cases et1
    rw [eb2] at eb1
    exact wT eb1
   have z1':=z1
   have z2':=z2
   have z3':=z3
   rw [e1] at hw5 q1' z1' z2' z3'
   rw [e2] at hx q2 y1 y2 y3
   have tl:=hts.len
   refine ⟨_,rfl,_,rfl,x,tl2,rfl,hx,y1,y2,y3,d,_,rfl,q2,_,rfl,_,rfl,w1,tl1,rfl,hw5,z1',z2',z3',d,_,rfl,q1',rfl,_,rfl,?_⟩
   by_cases e:b2=b1
   · rw [e,decide_eq_true rfl]
     refine iteT ⟨_,rfl,?_⟩
     have kd:=bO (ys:=acc++ [x]) hD
     refine CompN.mk hj (by omega) hD ⟨aq nD s45,a9,ts++ [tj],K61.TrsAt.snoc (hts.mono kd) (hx0.mono kd),fun t m=> ?_,by rw [wM,x8];omega,fun _=>by rw [wM,x8];omega⟩
     rcases x4.mp m with m|m
     · exact hin t m
     · rw [wS.mp m]
       exact mtj
   · have en2:¬V.int (b2:Int)=V.int (b1:Int):=fun z=>e (xw (V.int.inj z))
     rw [decide_eq_false en2]
     refine iteF ?_
     exact CompS.mk hj ⟨s45,hD,ts,hts,hin,by omega,fun h=>hpos (by rcases xk n1 j with c|c;exact c;exact absurd (same (by omega)) e)⟩
 intro acc H5 z_
 refine hide fun q_ e_=> ?_
 obtain ⟨s45,hD,ts,hts,hin,hlt,hpos⟩:=z_
 subst e_
 have tl:=hts.len
 have hpos:=hpos (by omega)
 have s35:=s34.trans s45
 have hp5:=s35 _ _ hp3
 have hT5:=hT3.mono (Kd.of_same s35)
 have hl5:=s35 _ _ hl3
 have hP5:=hP3.mono (Kd.of_same s35)
 have hS5:=SqL.same s35 hS3
 have hw5:=hw1.mono (Kd.of_same s45)
 subst ec ed
 refine bg fun uc Zc ee ef=> ?_
 refine ⟨_,rfl,_,rfl,_,rfl,3,(i:Int),rfl,rfl, .inl ⟨by decide,by decide⟩,501,_,rfl,rfl,_,rfl,D,acc,rfl, .inl (SqL.of hD),a,ns,_,_,rfl,hS5,h63,by omega,by omega,by omega,fun r r0 r1=> ?_⟩
 obtain ⟨n2,rfl⟩:∃n2:Nat,r=(n2:Int):=⟨r.toNat,by omega⟩
 have hn2:n2 < ts.length:=by omega
 obtain ⟨w2,ew2,hw2⟩:=hts.get (i:=n2) (t:=ts[n2]) (wI hn2)
 refine ⟨D,acc,_,w2,rfl,rfl,SqL.of hD,aS ew2,?_⟩
 have mt2:ts[n2]∈U:=hin _ (xz hn2)
 generalize ts[n2]=t2 at*
 refine au ?_
 dsimp only
 subst ee ef
 refine lA (fun σ' H'=>H'=H5∧∃w2 t2,σ'= [some (.ref a),some (.ref p),some (.ref l),some (.ref d),some (.int (i:Int)),some w1,some (.ref D),some w2,v8,v9]∧TrAt H5 w2 t2∧t2∈U) ?_ fun nx hnx=> ?_
 case refine_2=>
  refine ⟨_,rfl,rfl,_,rfl,?_⟩
  refine ite2 (fun _=> ?_) (fun _=>hnx _ _ ⟨rfl,w2,t2,rfl,hw2,mt2⟩)
  refine ⟨_,rfl,_,rfl,_,rfl,3,(i:Int),rfl,rfl, .inl ⟨by decide,by decide⟩,502,_,rfl,rfl,_,rfl,p,ws,rfl, .inl (SqL.of hp5),a,ns,_,_,rfl,hS5,h63,by omega,by omega,by omega,fun r r0 r1=> ?_⟩
  obtain ⟨n3,rfl⟩:∃n3:Nat,r=(n3:Int):=⟨r.toNat,by omega⟩
  have hn3:n3 < U.length:=by omega
  obtain ⟨w3,ew3,hw3⟩:=hT5.get (i:=n3) (t:=U[n3]) (wI hn3)
  exact ⟨p,ws,_,w3,rfl,rfl,SqL.of hp5,aS ew3,hnx _ _ ⟨rfl,w3,U[n3],rfl,hw3,xz hn3⟩⟩
 clear hw2 mt2 ew2
 intro σ' H' z_
 refine hide fun q_ e_=> ?_
 obtain ⟨rfl,w2,t2,rfl,hw2,mt2⟩:=z_
 subst e_
 refine bg fun ue Ze eg eh=> ?_
 refine ⟨_,rfl,l,ps,rfl, .inl (SqL.of hl5),fun gv ngv=> ?_⟩
 have s6:=ae (o:=HO.lst ps) ngv
 have hgv:(upd H' gv (.lst ps)) gv=some (.lst ps):=a9
 have ngv3:H3 gv=none:=s35.free ngv
 have s36:=s35.trans s6
 have hP6:=hP5.mono (Kd.of_same s6)
 have hw16:=hw5.mono (Kd.of_same s6)
 have hw26:=hw2.mono (Kd.of_same s6)
 generalize upd H' gv (.lst ps)=H6 at*
 refine au ?_
 dsimp only
 subst eg eh
 refine bg fun uf Zf ei ej=> ?_
 refine ⟨_,rfl,_,rfl,_,rfl,?_⟩
 dsimp only [tNil,y9]
 refine lF hgv hP6 hG (by omega) hm (by omega) hw16 hw26 mt1 mt2 fun vf H7 s7 hout=> ?_
 refine au ?_
 try dsimp only
 subst ei ej
 refine bg fun ug Zg ek el=> ?_
 have s37:=s36.trans s7
 have s37':=s6.trans s7
 have hl7:=s37 _ _ hl3
 have hP7:=hP3.mono (Kd.of_same s37)
 refine ⟨_,rfl,_,rfl,gv,l,ps,ps,L.map pr,L.map pr,rfl,rfl,s7 _ _ hgv,hl7,hP7,hP7, .inl pdL.1,pdL.2,_,rfl,?_⟩
 rw [eJ]
 refine iteF ?_
 refine ⟨_,rfl,_,rfl,_,rfl,_,rfl,_,rfl,p,l,ws,ps,U,L,w1,w2,vf,t1,t2,rfl,s37 _ _ hp3,hT3.mono (Kd.of_same s37),R,hl7,hP7,hm,by omega,hw16.mono (Kd.of_same s7),hw26.mono (Kd.of_same s7),mt1,mt2,hout.fnd,fun H8 s8=>⟨_,rfl,?_⟩⟩
 refine iteF ?_
 refine tZ ?_
 dsimp only
 subst ek el
 refine bg fun uh Zh em en=> ?_
 have hgv8:=s8 _ _ (s7 _ _ hgv)
 refine ⟨_,rfl, .inl ⟨rfl,_,SqL.of hgv8⟩,gv,ps,rfl,rfl,hgv8,?_⟩
 dsimp only
 subst em en
 have s38:=s37.trans s8
 have k9:=bO (ys:=([]:List V)) hgv8
 have s39:Same H3 (upd H8 gv (.lst [])):=aq ngv3 s38
 have hw19:=(hw16.mono (Kd.of_same (s7.trans s8))).mono k9
 have hw29:=(hw26.mono (Kd.of_same (s7.trans s8))).mono k9
 refine ⟨_,rfl,_,rfl,?_⟩
 rcases hout with ⟨rfl,nc⟩|⟨Df,pn,rfl,nDf,hDf,cc,hLe⟩
 · refine iteF ?_
   exact iteF ⟨⟨_,_,_,_,_,_,rfl⟩,s39⟩
 refine iteT ?_
 refine ⟨_,rfl,rfl,_,rfl,?_⟩
 refine ite2 (fun _=> ?_) (fun _=>⟨⟨_,_,_,_,_,_,rfl⟩,s39⟩)
 have Dg:Df≠gv:=fun z=>by rw [z,hgv] at nDf;cases nDf
 have hD9:(upd H8 gv (.lst [])) Df=some (.lst (ivs pn)):=by rw [af Dg];exact s8 _ _ hDf
 have nDf3:H3 Df=none:=s36.free nDf
 have hn:pn.length≤60:=by
  have:=Fm.sub_len (U:=List.range L.length) (hLe.up.imp fun h=>wW h) fun n m=>xj.mpr (hLe.lt n m)
  rw [x3] at this
  omega
 generalize upd H8 gv (.lst [])=H9 at*
 refine ⟨_,rfl, .inl ⟨rfl,_,SqL.of hD9⟩,_,rfl,Df,ivs pn,_,rfl,rfl,hD9,by unfold ivs;rw [wL];omega,?_⟩
 have kx:=bO (ys:=ivs pn++ [V.int (-1)]) hD9
 have s310:Same H3 (upd H9 Df (.lst (ivs pn++ [V.int (-1)]))):=aq nDf3 s39
 have hw110:=hw19.mono kx
 have hw210:=hw29.mono kx
 generalize upd H9 Df (.lst (ivs pn++ [V.int (-1)]))=H10 at*
 refine ⟨_,rfl,_,rfl,_,rfl,_,rfl,_,rfl,l,ps,rfl, .inl (SqL.of (s310 _ _ hl3)),fun g2 ng2=> ?_⟩
 have s11:=ae (o:=HO.lst ps) ng2
 have hg2:(upd H10 g2 (.lst ps)) g2=some (.lst ps):=a9
 have s311:=s310.trans s11
 have hw111:=hw110.mono (Kd.of_same s11)
 have hw211:=hw210.mono (Kd.of_same s11)
 generalize upd H10 g2 (.lst ps)=H11 at*
 refine ⟨_,rfl,_,rfl,?_⟩
 dsimp only [tNil,y9]
 refine lF hg2 (hP3.mono (Kd.of_same s311)) hG (by omega) hm (by omega) hw111 hw211 mt1 mt2 fun vf H12 s12 hout=> ?_
 have s312:=s311.trans s12
 refine ⟨p,l,ws,ps,U,L,w1,w2,vf,t1,t2,rfl,s312 _ _ hp3,hT3.mono (Kd.of_same s312),R,s312 _ _ hl3,hP3.mono (Kd.of_same s312),hm,by omega,hw111.mono (Kd.of_same s12),hw211.mono (Kd.of_same s12),mt1,mt2,hout.fnd,fun H13 s13=>⟨_,rfl,?_⟩⟩
 exact iteF ⟨⟨_,_,_,_,_,_,rfl⟩,s312.trans s13⟩
end
open PySem L2 Mth Wd
theorem ex0 {n:Nat} (us:List Value) (hl:us.length=n+1):∃a vs,us=a::vs∧vs.length=n:=by
 cases us with
 |nil=>cases hl
 |cons a vs=>exact ⟨a,vs,rfl,Nat.succ.inj hl⟩
theorem ex1 (us:List Value) (hl:us.length=1):∃a,us= [a]:=by
 obtain ⟨a,vs,rfl,h⟩:=ex0 us hl
 exact ⟨a,by rw [List.eq_nil_of_length_eq_zero h]⟩
theorem ex2 (us:List Value) (hl:us.length=2):∃a b,us= [a,b]:=by
 obtain ⟨a,vs,rfl,h⟩:=ex0 us hl
 obtain ⟨b,rfl⟩:=ex1 vs h
 exact ⟨a,b,rfl⟩
theorem ex3 (us:List Value) (hl:us.length=3):∃a b c,us= [a,b,c]:=by
 obtain ⟨a,vs,rfl,h⟩:=ex0 us hl
 obtain ⟨b,c,rfl⟩:=ex2 vs h
 exact ⟨a,b,c,rfl⟩
theorem ex4 (us:List Value) (hl:us.length=4):∃a b c d,us= [a,b,c,d]:=by
 obtain ⟨a,vs,rfl,h⟩:=ex0 us hl
 obtain ⟨b,c,d,rfl⟩:=ex3 vs h
 exact ⟨a,b,c,d,rfl⟩
theorem ex5 (us:List Value) (hl:us.length=5):∃a b c d e,us= [a,b,c,d,e]:=by
 obtain ⟨a,vs,rfl,h⟩:=ex0 us hl
 obtain ⟨b,c,d,e,rfl⟩:=ex4 vs h
 exact ⟨a,b,c,d,e,rfl⟩
theorem all_mk {l:PySem.W.OpenLaw} {w:World} {K:PySem.W.Frag} {h:Heap} {mg:Str→Option Value} {fa:Addr} (X:K.In h) (G:h.Ns mainGlobals mg) (hfa:mg "law"=some (.ref fa))
 {fBR:Addr} {odBR anBR:Option Addr} {slBR:Array (Option Value)} {ocBR kVBR dcBR pmBR cdBR ctBR:Value}
 {fST:Addr} {odST anST:Option Addr} {slST:Array (Option Value)} {ocST kVST dcST pmST cdST ctST:Value}
 {fTR:Addr} {odTR anTR:Option Addr} {slTR:Array (Option Value)} {ocTR kVTR dcTR pmTR cdTR ctTR:Value}
 {fGA:Addr} {odGA anGA:Option Addr} {slGA:Array (Option Value)} {ocGA kVGA dcGA pmGA cdGA ctGA:Value}
 {fPI:Addr} {odPI anPI:Option Addr} {slPI:Array (Option Value)} {ocPI kVPI dcPI pmPI cdPI ctPI:Value}
 {fNI:Addr} {odNI anNI:Option Addr} {slNI:Array (Option Value)} {ocNI kVNI dcNI pmNI cdNI ctNI:Value}
 {fFO:Addr} {odFO anFO:Option Addr} {slFO:Array (Option Value)} {ocFO kVFO dcFO pmFO cdFO ctFO:Value}
 {fBO:Addr} {odBO anBO:Option Addr} {slBO:Array (Option Value)} {ocBO kVBO dcBO pmBO cdBO ctBO:Value}
 {fJO:Addr} {odJO anJO:Option Addr} {slJO:Array (Option Value)} {ocJO kVJO dcJO pmJO cdJO ctJO:Value}
 {fCB:Addr} {odCB anCB:Option Addr} {slCB:Array (Option Value)} {ocCB kVCB dcCB pmCB cdCB ctCB:Value}
 {fRE:Addr} {odRE anRE:Option Addr} {slRE:Array (Option Value)} {ocRE kVRE dcRE pmRE cdRE ctRE:Value}
 {fRW:Addr} {odRW anRW:Option Addr} {slRW:Array (Option Value)} {ocRW kVRW dcRW pmRW cdRW ctRW:Value}
 {fWB:Addr} {odWB anWB:Option Addr} {slWB:Array (Option Value)} {ocWB kVWB dcWB pmWB cdWB ctWB:Value}
 {fPB:Addr} {odPB anPB:Option Addr} {slPB:Array (Option Value)} {ocPB kVPB dcPB pmPB cdPB ctPB:Value}
 {fDR:Addr} {odDR anDR:Option Addr} {slDR:Array (Option Value)} {ocDR kVDR dcDR pmDR cdDR ctDR:Value}
 {fPO:Addr} {odPO anPO:Option Addr} {slPO:Array (Option Value)} {ocPO kVPO dcPO pmPO cdPO ctPO:Value}
 {fLK:Addr} {odLK anLK:Option Addr} {slLK:Array (Option Value)} {ocLK kVLK dcLK pmLK cdLK ctLK:Value}
 {fJD:Addr} {odJD anJD:Option Addr} {slJD:Array (Option Value)} {ocJD kVJD dcJD pmJD cdJD ctJD:Value}
 {fAK:Addr} {odAK anAK:Option Addr} {slAK:Array (Option Value)} {ocAK kVAK dcAK pmAK cdAK ctAK:Value}
 {fCL:Addr} {odCL anCL:Option Addr} {slCL:Array (Option Value)} {ocCL kVCL dcCL pmCL cdCL ctCL:Value}
 {fLB:Addr} {odLB anLB:Option Addr} {slLB:Array (Option Value)} {ocLB kVLB dcLB pmLB cdLB ctLB:Value}
 {fLR:Addr} {odLR anLR:Option Addr} {slLR:Array (Option Value)} {ocLR kVLR dcLR pmLR cdLR ctLR:Value}
 {fLA:Addr} {odLA anLA:Option Addr} {slLA:Array (Option Value)} {ocLA kVLA dcLA pmLA cdLA ctLA:Value}
 {C fI:Addr} {odI anI:Option Addr} {slI:Array (Option Value)} {ocI kVI dcI pmI cdI ctI:Value}
 (aBR:PySem.W.nsIn K mainGlobals "bracketed"=some (some (.ref fBR)))
 (lBR:K.lookup fBR=some ⟨ocBR,odBR, .func (PySem.W.fnOf "bracketed" "bracketed" (aI sBr) (az sBr) (ag sBr) .none kVBR dcBR pmBR anBR cdBR ctBR),slBR⟩)
 (cBR:PySem.W.codeIn K cdBR "bracketed"=true)
 (kBR:PySem.W.keepIn K (.ref fBR)=true)
 (aST:PySem.W.nsIn K mainGlobals "shown_term"=some (some (.ref fST)))
 (lST:K.lookup fST=some ⟨ocST,odST, .func (PySem.W.fnOf "shown_term" "shown_term" (aI sSt) (az sSt) (ag sSt) .none kVST dcST pmST anST cdST ctST),slST⟩)
 (cST:PySem.W.codeIn K cdST "shown_term"=true)
 (kST:PySem.W.keepIn K (.ref fST)=true)
 (aTR:PySem.W.nsIn K mainGlobals "terms_right_in"=some (some (.ref fTR)))
 (lTR:K.lookup fTR=some ⟨ocTR,odTR, .func (PySem.W.fnOf "terms_right_in" "terms_right_in" (aI sTri) (az sTri) (ag sTri) .none kVTR dcTR pmTR anTR cdTR ctTR),slTR⟩)
 (cTR:PySem.W.codeIn K cdTR "terms_right_in"=true)
 (kTR:PySem.W.keepIn K (.ref fTR)=true)
 (aGA:PySem.W.nsIn K mainGlobals "gather_terms"=some (some (.ref fGA)))
 (lGA:K.lookup fGA=some ⟨ocGA,odGA, .func (PySem.W.fnOf "gather_terms" "gather_terms" (aI sGat) (az sGat) (ag sGat) .none kVGA dcGA pmGA anGA cdGA ctGA),slGA⟩)
 (cGA:PySem.W.codeIn K cdGA "gather_terms"=true)
 (kGA:PySem.W.keepIn K (.ref fGA)=true)
 (aPI:PySem.W.nsIn K mainGlobals "parts_in"=some (some (.ref fPI)))
 (lPI:K.lookup fPI=some ⟨ocPI,odPI, .func (PySem.W.fnOf "parts_in" "parts_in" (aI sPin) (az sPin) (ag sPin) .none kVPI dcPI pmPI anPI cdPI ctPI),slPI⟩)
 (cPI:PySem.W.codeIn K cdPI "parts_in"=true)
 (kPI:PySem.W.keepIn K (.ref fPI)=true)
 (aNI:PySem.W.nsIn K mainGlobals "number_in"=some (some (.ref fNI)))
 (lNI:K.lookup fNI=some ⟨ocNI,odNI, .func (PySem.W.fnOf "number_in" "number_in" (aI sNum) (az sNum) (ag sNum) .none kVNI dcNI pmNI anNI cdNI ctNI),slNI⟩)
 (cNI:PySem.W.codeIn K cdNI "number_in"=true)
 (kNI:PySem.W.keepIn K (.ref fNI)=true)
 (aFO:PySem.W.nsIn K mainGlobals "family_of"=some (some (.ref fFO)))
 (lFO:K.lookup fFO=some ⟨ocFO,odFO, .func (PySem.W.fnOf "family_of" "family_of" (aI sFof) (az sFof) (ag sFof) .none kVFO dcFO pmFO anFO cdFO ctFO),slFO⟩)
 (cFO:PySem.W.codeIn K cdFO "family_of"=true)
 (kFO:PySem.W.keepIn K (.ref fFO)=true)
 (aBO:PySem.W.nsIn K mainGlobals "bonds_of"=some (some (.ref fBO)))
 (lBO:K.lookup fBO=some ⟨ocBO,odBO, .func (PySem.W.fnOf "bonds_of" "bonds_of" (aI sBof) (az sBof) (ag sBof) .none kVBO dcBO pmBO anBO cdBO ctBO),slBO⟩)
 (cBO:PySem.W.codeIn K cdBO "bonds_of"=true)
 (kBO:PySem.W.keepIn K (.ref fBO)=true)
 (aJO:PySem.W.nsIn K mainGlobals "joined"=some (some (.ref fJO)))
 (lJO:K.lookup fJO=some ⟨ocJO,odJO, .func (PySem.W.fnOf "joined" "joined" (aI sJoi) (az sJoi) (ag sJoi) .none kVJO dcJO pmJO anJO cdJO ctJO),slJO⟩)
 (cJO:PySem.W.codeIn K cdJO "joined"=true)
 (kJO:PySem.W.keepIn K (.ref fJO)=true)
 (aCB:PySem.W.nsIn K mainGlobals "call_bonds"=some (some (.ref fCB)))
 (lCB:K.lookup fCB=some ⟨ocCB,odCB, .func (PySem.W.fnOf "call_bonds" "call_bonds" (aI sCab) (az sCab) (ag sCab) .none kVCB dcCB pmCB anCB cdCB ctCB),slCB⟩)
 (cCB:PySem.W.codeIn K cdCB "call_bonds"=true)
 (kCB:PySem.W.keepIn K (.ref fCB)=true)
 (aRE:PySem.W.nsIn K mainGlobals "reason"=some (some (.ref fRE)))
 (lRE:K.lookup fRE=some ⟨ocRE,odRE, .func (PySem.W.fnOf "reason" "reason" (aI sRea) (az sRea) (ag sRea) .none kVRE dcRE pmRE anRE cdRE ctRE),slRE⟩)
 (cRE:PySem.W.codeIn K cdRE "reason"=true)
 (kRE:PySem.W.keepIn K (.ref fRE)=true)
 (aRW:PySem.W.nsIn K mainGlobals "reason_within"=some (some (.ref fRW)))
 (lRW:K.lookup fRW=some ⟨ocRW,odRW, .func (PySem.W.fnOf "reason_within" "reason_within" (aI gX) (az gX) (ag gX) .none kVRW dcRW pmRW anRW cdRW ctRW),slRW⟩)
 (cRW:PySem.W.codeIn K cdRW "reason_within"=true)
 (kRW:PySem.W.keepIn K (.ref fRW)=true)
 (aWB:PySem.W.nsIn K mainGlobals "way_between"=some (some (.ref fWB)))
 (lWB:K.lookup fWB=some ⟨ocWB,odWB, .func (PySem.W.fnOf "way_between" "way_between" (aI sWay) (az sWay) (ag sWay) .none kVWB dcWB pmWB anWB cdWB ctWB),slWB⟩)
 (cWB:PySem.W.codeIn K cdWB "way_between"=true)
 (kWB:PySem.W.keepIn K (.ref fWB)=true)
 (aPB:PySem.W.nsIn K mainGlobals "places_between"=some (some (.ref fPB)))
 (lPB:K.lookup fPB=some ⟨ocPB,odPB, .func (PySem.W.fnOf "places_between" "places_between" (aI sPla) (az sPla) (ag sPla) .none kVPB dcPB pmPB anPB cdPB ctPB),slPB⟩)
 (cPB:PySem.W.codeIn K cdPB "places_between"=true)
 (kPB:PySem.W.keepIn K (.ref fPB)=true)
 (aDR:PySem.W.nsIn K mainGlobals "_law_draw"=some (some (.ref fDR)))
 (lDR:K.lookup fDR=some ⟨ocDR,odDR, .func (PySem.W.fnOf "_law_draw" "_law_draw" (aI gY) (az gY) (ag gY) .none kVDR dcDR pmDR anDR cdDR ctDR),slDR⟩)
 (cDR:PySem.W.codeIn K cdDR "_law_draw"=true)
 (kDR:PySem.W.keepIn K (.ref fDR)=true)
 (aPO:PySem.W.nsIn K mainGlobals "_law_pool"=some (some (.ref fPO)))
 (lPO:K.lookup fPO=some ⟨ocPO,odPO, .func (PySem.W.fnOf "_law_pool" "_law_pool" (aI db) (az db) (ag db) .none kVPO dcPO pmPO anPO cdPO ctPO),slPO⟩)
 (cPO:PySem.W.codeIn K cdPO "_law_pool"=true)
 (kPO:PySem.W.keepIn K (.ref fPO)=true)
 (aLK:PySem.W.nsIn K mainGlobals "_law_likes"=some (some (.ref fLK)))
 (lLK:K.lookup fLK=some ⟨ocLK,odLK, .func (PySem.W.fnOf "_law_likes" "_law_likes" (aI eA) (az eA) (ag eA) .none kVLK dcLK pmLK anLK cdLK ctLK),slLK⟩)
 (cLK:PySem.W.codeIn K cdLK "_law_likes"=true)
 (kLK:PySem.W.keepIn K (.ref fLK)=true)
 (aJD:PySem.W.nsIn K mainGlobals "_law_joined"=some (some (.ref fJD)))
 (lJD:K.lookup fJD=some ⟨ocJD,odJD, .func (PySem.W.fnOf "_law_joined" "_law_joined" (aI fO) (az fO) (ag fO) .none kVJD dcJD pmJD anJD cdJD ctJD),slJD⟩)
 (cJD:PySem.W.codeIn K cdJD "_law_joined"=true)
 (kJD:PySem.W.keepIn K (.ref fJD)=true)
 (aAK:PySem.W.nsIn K mainGlobals "_law_alike_calls"=some (some (.ref fAK)))
 (lAK:K.lookup fAK=some ⟨ocAK,odAK, .func (PySem.W.fnOf "_law_alike_calls" "_law_alike_calls" (aI dC) (az dC) (ag dC) .none kVAK dcAK pmAK anAK cdAK ctAK),slAK⟩)
 (cAK:PySem.W.codeIn K cdAK "_law_alike_calls"=true)
 (kAK:PySem.W.keepIn K (.ref fAK)=true)
 (aCL:PySem.W.nsIn K mainGlobals "_law_close"=some (some (.ref fCL)))
 (lCL:K.lookup fCL=some ⟨ocCL,odCL, .func (PySem.W.fnOf "_law_close" "_law_close" (aI dB) (az dB) (ag dB) .none kVCL dcCL pmCL anCL cdCL ctCL),slCL⟩)
 (cCL:PySem.W.codeIn K cdCL "_law_close"=true)
 (kCL:PySem.W.keepIn K (.ref fCL)=true)
 (aLB:PySem.W.nsIn K mainGlobals "_law_by"=some (some (.ref fLB)))
 (lLB:K.lookup fLB=some ⟨ocLB,odLB, .func (PySem.W.fnOf "_law_by" "_law_by" (aI sLBy) (az sLBy) (ag sLBy) .none kVLB dcLB pmLB anLB cdLB ctLB),slLB⟩)
 (cLB:PySem.W.codeIn K cdLB "_law_by"=true)
 (kLB:PySem.W.keepIn K (.ref fLB)=true)
 (aLR:PySem.W.nsIn K mainGlobals "_law_right"=some (some (.ref fLR)))
 (lLR:K.lookup fLR=some ⟨ocLR,odLR, .func (PySem.W.fnOf "_law_right" "_law_right" (aI sLRi) (az sLRi) (ag sLRi) .none kVLR dcLR pmLR anLR cdLR ctLR),slLR⟩)
 (cLR:PySem.W.codeIn K cdLR "_law_right"=true)
 (kLR:PySem.W.keepIn K (.ref fLR)=true)
 (aLA:PySem.W.nsIn K mainGlobals "law"=some (some (.ref fLA)))
 (lLA:K.lookup fLA=some ⟨ocLA,odLA, .func (PySem.W.fnOf "law" "law" (aI sLaw) (az sLaw) (ag sLaw) .none kVLA dcLA pmLA anLA cdLA ctLA),slLA⟩)
 (cLA:PySem.W.codeIn K cdLA "law"=true)
 (kLA:PySem.W.keepIn K (.ref fLA)=true)
 (z_abs:PySem.W.nsIn K mainGlobals "abs"=some none)
 (z_len:PySem.W.nsIn K mainGlobals "len"=some none)
 (z_range:PySem.W.nsIn K mainGlobals "range"=some none)
 (z_isinstance:PySem.W.nsIn K mainGlobals "isinstance"=some none)
 (z_tuple:PySem.W.nsIn K mainGlobals "tuple"=some none)
 (z_int:PySem.W.nsIn K mainGlobals "int"=some none)
 (z_bool:PySem.W.nsIn K mainGlobals "bool"=some none)
 (z_list:PySem.W.nsIn K mainGlobals "list"=some none)
 (z_str:PySem.W.nsIn K mainGlobals "str"=some none)
 (z_all:PySem.W.nsIn K mainGlobals "all"=some none)
 (z_any:PySem.W.nsIn K mainGlobals "any"=some none)
 (z_sum:PySem.W.nsIn K mainGlobals "sum"=some none)
 (z_zip:PySem.W.nsIn K mainGlobals "zip"=some none)
 (z_sorted:PySem.W.nsIn K mainGlobals "sorted"=some none)
 (z_ValueError:PySem.W.nsIn K mainGlobals "ValueError"=some none)
 (z_enumerate:PySem.W.nsIn K mainGlobals "enumerate"=some none)
 (z_max:PySem.W.nsIn K mainGlobals "max"=some none)
 (z_repr:PySem.W.nsIn K mainGlobals "repr"=some none)
 (z_set:PySem.W.nsIn K mainGlobals "set"=some none)
 (aFM:PySem.W.nsIn K mainGlobals "Family"=some (some (.ref C)))
 (iI:PySem.W.findIn K (.ref C) "__init__"=some (some (.ref fI)))
 (fnI:PySem.W.isFn K (.ref fI)=true)
 (lI:K.lookup fI=some ⟨ocI,odI, .func (PySem.W.fnOf "__init__" "Family.__init__" (aI sFam) (az sFam) (ag sFam) .none kVI dcI pmI anI cdI ctI),slI⟩)
 (cI:PySem.W.codeIn K cdI "Family.__init__"=true)
 (kI:PySem.W.keepIn K (.ref fI)=true)
 (kC:PySem.W.keepIn K (.ref C)=true)
 (qM:PySem.W.makesIn K C=true)
 (qG:PySem.W.plainGet K C Str.empty=true)
 (qD:PySem.W.hasDictIn K C=true)
 (qO:PySem.W.plainOver K C=true)
 (qS:PySem.W.findIn K (.ref C) "__setattr__"=some (some (.builtin "object.__setattr__")))
 (qP:PySem.W.findIn K (.ref C) "parts"=some none)
 (qN:PySem.W.findIn K (.ref C) "numbers"=some none)
 (qI:PySem.W.findIn K (.ref C) "inners"=some none):
 ∃fd:FuncData,(∀(s:Shared) (v:Value),BindsTo s fd ⟨[v],[]⟩ [("_law_script",v)])∧∀base:Heap,K.In base→base.Ns mainGlobals mg→FnOk l.prog w K mg base CX0 87 fa fd ["_law_script"] (lh K):=by
 have e:=hfa.symm.trans (PySem.W.mg_of X G aLA)
 cases e
 have B:Blt mg:=⟨PySem.W.mg_none_of X G z_abs,PySem.W.mg_none_of X G z_len,PySem.W.mg_none_of X G z_range,PySem.W.mg_none_of X G z_isinstance,PySem.W.mg_none_of X G z_tuple,PySem.W.mg_none_of X G z_int,PySem.W.mg_none_of X G z_bool,PySem.W.mg_none_of X G z_list,PySem.W.mg_none_of X G z_str,PySem.W.mg_none_of X G z_all,PySem.W.mg_none_of X G z_any,PySem.W.mg_none_of X G z_sum,PySem.W.mg_none_of X G z_zip,PySem.W.mg_none_of X G z_sorted,PySem.W.mg_none_of X G z_ValueError,PySem.W.mg_none_of X G z_enumerate,PySem.W.mg_none_of X G z_max,PySem.W.mg_none_of X G z_repr,PySem.W.mg_none_of X G z_set⟩
 have FBR:=aX (st:=sBr) lBR cBR kBR
 have bBR:=FBR.binds (ps:= ["words"]) fun _ _ _ _ _ _ us hl=>by obtain ⟨_,rfl⟩:=ex1 us hl;rfl
 have mBR:=PySem.W.mg_of X G aBR
 have FST:=aX (st:=sSt) lST cST kST
 have bST:=FST.binds (ps:= ["term"]) fun _ _ _ _ _ _ us hl=>by obtain ⟨_,rfl⟩:=ex1 us hl;rfl
 have mST:=PySem.W.mg_of X G aST
 have FTR:=aX (st:=sTri) lTR cTR kTR
 have bTR:=FTR.binds (ps:= ["term"]) fun _ _ _ _ _ _ us hl=>by obtain ⟨_,rfl⟩:=ex1 us hl;rfl
 have mTR:=PySem.W.mg_of X G aTR
 have FGA:=aX (st:=sGat) lGA cGA kGA
 have bGA:=FGA.binds (ps:= ["term","found"]) fun _ _ _ _ _ _ us hl=>by obtain ⟨_,_,rfl⟩:=ex2 us hl;rfl
 have mGA:=PySem.W.mg_of X G aGA
 have FPI:=aX (st:=sPin) lPI cPI kPI
 have bPI:=FPI.binds (ps:= ["terms"]) fun _ _ _ _ _ _ us hl=>by obtain ⟨_,rfl⟩:=ex1 us hl;rfl
 have mPI:=PySem.W.mg_of X G aPI
 have FNI:=aX (st:=sNum) lNI cNI kNI
 have bNI:=FNI.binds (ps:= ["family","term"]) fun _ _ _ _ _ _ us hl=>by obtain ⟨_,_,rfl⟩:=ex2 us hl;rfl
 have mNI:=PySem.W.mg_of X G aNI
 have FFO:=aX (st:=sFof) lFO cFO kFO
 have bFO:=FFO.binds (ps:= ["likes","terms"]) fun _ _ _ _ _ _ us hl=>by obtain ⟨_,_,rfl⟩:=ex2 us hl;rfl
 have mFO:=PySem.W.mg_of X G aFO
 have FBO:=aX (st:=sBof) lBO cBO kBO
 have bBO:=FBO.binds (ps:= ["family","likes"]) fun _ _ _ _ _ _ us hl=>by obtain ⟨_,_,rfl⟩:=ex2 us hl;rfl
 have mBO:=PySem.W.mg_of X G aBO
 have FJO:=aX (st:=sJoi) lJO cJO kJO
 have bJO:=FJO.binds (ps:= ["family","bonds"]) fun _ _ _ _ _ _ us hl=>by obtain ⟨_,_,rfl⟩:=ex2 us hl;rfl
 have mJO:=PySem.W.mg_of X G aJO
 have FCB:=aX (st:=sCab) lCB cCB kCB
 have bCB:=FCB.binds (ps:= ["family","roots"]) fun _ _ _ _ _ _ us hl=>by obtain ⟨_,_,rfl⟩:=ex2 us hl;rfl
 have mCB:=PySem.W.mg_of X G aCB
 have FRE:=aX (st:=sRea) lRE cRE kRE
 have bRE:=FRE.binds (ps:= ["likes","one","other"]) fun _ _ _ _ _ _ us hl=>by obtain ⟨_,_,_,rfl⟩:=ex3 us hl;rfl
 have mRE:=PySem.W.mg_of X G aRE
 have FRW:=aX (st:=gX) lRW cRW kRW
 have bRW:=FRW.binds (ps:= ["family","likes","one","other"]) fun _ _ _ _ _ _ us hl=>by obtain ⟨_,_,_,_,rfl⟩:=ex4 us hl;rfl
 have mRW:=PySem.W.mg_of X G aRW
 have FWB:=aX (st:=sWay) lWB cWB kWB
 have bWB:=FWB.binds (ps:= ["bonds","one","other"]) fun _ _ _ _ _ _ us hl=>by obtain ⟨_,_,_,rfl⟩:=ex3 us hl;rfl
 have mWB:=PySem.W.mg_of X G aWB
 have FPB:=aX (st:=sPla) lPB cPB kPB
 have bPB:=FPB.binds (ps:= ["family","bonds","one","other"]) fun _ _ _ _ _ _ us hl=>by obtain ⟨_,_,_,_,rfl⟩:=ex4 us hl;rfl
 have mPB:=PySem.W.mg_of X G aPB
 have FDR:=aX (st:=gY) lDR cDR kDR
 have bDR:=FDR.binds (ps:= ["_law_script","_law_k","_law_many"]) fun _ _ _ _ _ _ us hl=>by obtain ⟨_,_,_,rfl⟩:=ex3 us hl;rfl
 have mDR:=PySem.W.mg_of X G aDR
 have FPO:=aX (st:=db) lPO cPO kPO
 have bPO:=FPO.binds (ps:= ["_law_script","_law_base","_law_most"]) fun _ _ _ _ _ _ us hl=>by obtain ⟨_,_,_,rfl⟩:=ex3 us hl;rfl
 have mPO:=PySem.W.mg_of X G aPO
 have FLK:=aX (st:=eA) lLK cLK kLK
 have bLK:=FLK.binds (ps:= ["_law_script","_law_base","_law_pool_here","_law_most"]) fun _ _ _ _ _ _ us hl=>by obtain ⟨_,_,_,_,rfl⟩:=ex4 us hl;rfl
 have mLK:=PySem.W.mg_of X G aLK
 have FJD:=aX (st:=fO) lJD cJD kJD
 have bJD:=FJD.binds (ps:= ["_law_labels","_law_one","_law_other"]) fun _ _ _ _ _ _ us hl=>by obtain ⟨_,_,_,rfl⟩:=ex3 us hl;rfl
 have mJD:=PySem.W.mg_of X G aJD
 have FAK:=aX (st:=dC) lAK cAK kAK
 have bAK:=FAK.binds (ps:= ["_law_labels","_law_one","_law_other"]) fun _ _ _ _ _ _ us hl=>by obtain ⟨_,_,_,rfl⟩:=ex3 us hl;rfl
 have mAK:=PySem.W.mg_of X G aAK
 have FCL:=aX (st:=dB) lCL cCL kCL
 have bCL:=FCL.binds (ps:= ["_law_pool_here","_law_likes_here"]) fun _ _ _ _ _ _ us hl=>by obtain ⟨_,_,rfl⟩:=ex2 us hl;rfl
 have mCL:=PySem.W.mg_of X G aCL
 have FLB:=aX (st:=sLBy) lLB cLB kLB
 have bLB:=FLB.binds (ps:= ["_law_pool_here","_law_likes_here","_law_places","_law_one","_law_other"]) fun _ _ _ _ _ _ us hl=>by obtain ⟨_,_,_,_,_,rfl⟩:=ex5 us hl;rfl
 have mLB:=PySem.W.mg_of X G aLB
 have FLR:=aX (st:=sLRi) lLR cLR kLR
 have bLR:=FLR.binds (ps:= ["_law_pool_here","_law_likes_here","_law_one","_law_other","_law_found"]) fun _ _ _ _ _ _ us hl=>by obtain ⟨_,_,_,_,_,rfl⟩:=ex5 us hl;rfl
 have mLR:=PySem.W.mg_of X G aLR
 have FLA:=aX (st:=sLaw) lLA cLA kLA
 refine ⟨PySem.W.fnOf "law" "law" (aI sLaw) (az sLaw) (ag sLaw) .none kVLA dcLA pmLA anLA cdLA ctLA,fun s v=> .of_eq rfl,fun base _ _=> ?_⟩
 have mFM:=PySem.W.mg_of X G aFM
 have FI:=aX (st:=sFam) lI cI kI
 have bI:=FI.binds (ps:= ["self","terms"]) fun _ _ _ _ _ _ us hl=>match us,hl with| [_,_],_=>rfl
 have hC:Fk K C:=⟨⟨qG,qD,qO,qS⟩,qP,qN,qI⟩
 have hM:Mk K C fI:=⟨qM,iI,fnI,kC⟩
 have gST:FnOk l.prog w K mg base CX0 41 fST _ ["term"] (spSt 40):=wg FST bST mST FBR bBR mBR 40
 have gTR:FnOk l.prog w K mg base CX0 1 fTR _ ["term"] l9:=uD FTR B
 have gGA:FnOk l.prog w K mg base CX0 81 fGA _ ["term","found"] (oG 40):=uN FGA bGA mGA gTR kTR bTR mTR gST kST bST mST 40
 have gPI:FnOk l.prog w K mg base CX0 82 fPI _ ["terms"] oA:=uG FPI gGA kGA bGA mGA B
 have gNI:FnOk l.prog w K mg base CX0 42 fNI _ ["family","term"] (j5 C):=uH FNI gST kST bST mST hC
 have gI:FnOk l.prog w K mg base CX0 83 fI _ ["self","terms"] (oF C):=uM FI B hC gPI kPI bPI mPI gNI kNI bNI mNI gTR kTR bTR mTR gST kST bST mST
 have gFO:FnOk l.prog w K mg base CX0 85 fFO _ ["likes","terms"] (oH K C):=uO FFO B hM mFM gI bI
 have gBO:FnOk l.prog w K mg base CX0 43 fBO _ ["family","likes"] (oJ C):=uR FBO B gNI kNI bNI mNI
 have gCB:FnOk l.prog w K mg base CX0 3 fCB _ ["family","roots"] (oI C):=uQ FCB B hC
 have gJO:FnOk l.prog w K mg base CX0 4 fJO _ ["family","bonds"] (oE C):=uL FJO B hC gCB kCB bCB mCB
 have gWB:FnOk l.prog w K mg base CX0 2 fWB _ ["bonds","one","other"] oy:=uC FWB B
 have gPB:FnOk l.prog w K mg base CX0 3 fPB _ ["family","bonds","one","other"] (oz C):=uF FPB B hC gWB kWB bWB mWB
 have gRW:FnOk l.prog w K mg base CX0 44 fRW _ ["family","likes","one","other"] (jU C):=rJ FRW B gBO kBO bBO mBO gNI kNI bNI mNI gJO kJO bJO mJO gPB kPB bPB mPB
 have gRE:FnOk l.prog w K mg base CX0 86 fRE _ ["likes","one","other"] lg:=uE FRE gFO kFO bFO mFO gRW kRW bRW mRW
 have gDR:FnOk l.prog w K mg base CX0 1 fDR _ ["_law_script","_law_k","_law_many"] (fK K):=rL FDR B
 have gPO:FnOk l.prog w K mg base CX0 2 fPO _ ["_law_script","_law_base","_law_most"] (jV K):=rK FPO B gDR kDR bDR mDR
 have gLK:FnOk l.prog w K mg base CX0 2 fLK _ ["_law_script","_law_base","_law_pool_here","_law_most"] (iw K):=ph FLK B gDR kDR bDR mDR
 have gJD:FnOk l.prog w K mg base CX0 1 fJD _ ["_law_labels","_law_one","_law_other"] (spJd K):=wj FJD B
 have gAK:FnOk l.prog w K mg base CX0 1 fAK _ ["_law_labels","_law_one","_law_other"] (spAl K):=wm FAK B
 have gCL:FnOk l.prog w K mg base CX0 2 fCL _ ["_law_pool_here","_law_likes_here"] (lu K):=uP FCL B gJD kJD bJD mJD gAK kAK bAK mAK
 have gLB:FnOk l.prog w K mg base CX0 3 fLB _ ["_law_pool_here","_law_likes_here","_law_places","_law_one","_law_other"] oC:=uJ FLB B gCL kCL bCL mCL
 have gLR:FnOk l.prog w K mg base CX0 4 fLR _ ["_law_pool_here","_law_likes_here","_law_one","_law_other","_law_found"] oB:=uI FLR B gLB kLB bLB mLB
 exact uK FLA B gDR kDR bDR mDR gPO kPO bPO mPO gLK kLK bLK mLK gCL kCL bCL mCL gRE kRE bRE mRE gLR kLR bLR mLR
theorem walk {l:PySem.W.OpenLaw} {q:Program} {loose:List Str} {XP:(Str→Option Value)→Heap→Prop} {YP:World→Heap→Prop} {d:DefRec} {K:Params→PySem.W.Frag} (hn:l.most=some 63) (hdf:d.params.defaults= [])
 (hY:∀(w:World) (h:Heap),YP w h→(K w.params).In h)
 (F:∀(w:World) (mg:Str→Option Value) (fa:Addr) (h:Heap),(K w.params).In h→h.Ns mainGlobals mg→mg d.name=some (.ref fa)→
  ∃fd:FuncData,(∀(s:Shared) (u:Value),BindsTo s fd ⟨[u],[]⟩ [("_law_script",u)])∧∀base:Heap,(K w.params).In base→base.Ns mainGlobals mg→FnOk l.prog w (K w.params) mg base CX0 87 fa fd ["_law_script"] (lh (K w.params))):
 PySem.W.WalkO q loose XP YP l.row.toRowW d [] (fun f vs=>PySem.call f vs):=
 L2.walk_of (n:=63) (k:=87) (x:="_law_script") (CX:=fun _=>CX0) (sp:=fun w=>lh (K w.params)) hn (by decide) hdf ⟨rfl,by decide,by decide,rfl⟩ hY F (fun _ _ a ns hl _ hS=>⟨a,ns,rfl,hS,hl,fun _=>rfl⟩) fun _ _ _ _ _ z=>z
end K61
def PySem.W.Fast.tw12333658096629765531:Unit:=()
def PySem.W.Fast.tw11976006304572970122:Unit:=()
def PySem.W.Fast.tw10826914319517518262:Unit:=()
def PySem.W.Fast.tw17980624543365267112:Unit:=()
def PySem.W.Fast.tw4872250752609311870:Unit:=()
def PySem.W.Fast.tw18179733525293743165:Unit:=()
def PySem.W.Fast.tw10935442956394922596:Unit:=()
def PySem.W.Fast.tw4155628404557608764:Unit:=()
def PySem.W.Fast.tw9904907698267450272:Unit:=()
def PySem.W.Fast.tw10373595063059190276:Unit:=()
def PySem.W.Fast.tw2474610735949400317:Unit:=()
def PySem.W.Fast.tw4551365284548832946:Unit:=()
def PySem.W.Fast.tw8617283371717374170:Unit:=()
def PySem.W.Fast.tw305187032186534782:Unit:=()
def PySem.W.Fast.tw15494931889494010276:Unit:=()
def PySem.W.Fast.tw10237132787286324125:Unit:=()
def PySem.W.Fast.tw4988942702888223947:Unit:=()
def PySem.W.Fast.tw15876877194574343372:Unit:=()
def PySem.W.Fast.tw17799977114024936752:Unit:=()
def PySem.W.Fast.tw14463092466671139116:Unit:=()
def PySem.W.Fast.tw15099964466747155978:Unit:=()
def PySem.W.Fast.tw636791745306143549:Unit:=()
def PySem.W.Fast.tw11379092692089033155:Unit:=()
def PySem.W.Fast.tw15469376540618096396:Unit:=()
def PySem.W.Fast.tw5071738432698685268:Unit:=()
def PySem.W.Fast.tw6633392996820133414:Unit:=()
def PySem.W.Fast.tw3233946351724980888:Unit:=()
def PySem.W.Fast.tw4011673388725383663:Unit:=()
def PySem.W.Fast.tw8493367684001671086:Unit:=()
def PySem.W.Fast.tw6370173978051205469:Unit:=()
def PySem.W.Fast.tw14164251033433235910:Unit:=()
def PySem.W.Fast.tw18089896250607074951:Unit:=()
def PySem.W.Fast.tw16885460549073595586:Unit:=()
def PySem.W.Fast.tw10777185437062168684:Unit:=()
def PySem.W.Fast.tw16882988872651655762:Unit:=()
open PySem PySem.W PyProof.Rows
set_option maxRecDepth 100000 in
set_option maxHeartbeats 0 in
theorem PySem.Challenge.cw_smallword_k61_reasons_holds : PySem.Challenge.rw_smallword_k61_reasons.Holds := by
  w_on; o_law; k_head; (case hw => w_witness2)
  k_fill
  refine K61.walk (l := PySem.Challenge.rw_smallword_k61_reasons) rfl rfl (fun w h Y => PySem.W.kIn_of Y) ?F
  case F =>
    intro w mg fa h KX G hmg
    refine' K61.all_mk KX G hmg ?aBR ?lBR ?cBR ?kBR ?aST ?lST ?cST ?kST ?aTR ?lTR ?cTR ?kTR ?aGA ?lGA ?cGA ?kGA ?aPI ?lPI ?cPI ?kPI ?aNI ?lNI ?cNI ?kNI ?aFO ?lFO ?cFO ?kFO ?aBO ?lBO ?cBO ?kBO ?aJO ?lJO ?cJO ?kJO ?aCB ?lCB ?cCB ?kCB ?aRE ?lRE ?cRE ?kRE ?aRW ?lRW ?cRW ?kRW ?aWB ?lWB ?cWB ?kWB ?aPB ?lPB ?cPB ?kPB ?aDR ?lDR ?cDR ?kDR ?aPO ?lPO ?cPO ?kPO ?aLK ?lLK ?cLK ?kLK ?aJD ?lJD ?cJD ?kJD ?aAK ?lAK ?cAK ?kAK ?aCL ?lCL ?cCL ?kCL ?aLB ?lLB ?cLB ?kLB ?aLR ?lLR ?cLR ?kLR ?aLA ?lLA ?cLA ?kLA ?z_abs ?z_len ?z_range ?z_isinstance ?z_tuple ?z_int ?z_bool ?z_list ?z_str ?z_all ?z_any ?z_sum ?z_zip ?z_sorted ?z_ValueError ?z_enumerate ?z_max ?z_repr ?z_set ?aFM ?iI ?fnI ?lI ?cI ?kI ?kC ?qM ?qG ?qD ?qO ?qS ?qP ?qN ?qI
    (case aBR => k_is); (case lBR => k_is); (case cBR => k_is); (case kBR => k_is); (case aST => k_is); (case lST => k_is); (case cST => k_is); (case kST => k_is)
    (case aTR => k_is); (case lTR => k_is); (case cTR => k_is); (case kTR => k_is); (case aGA => k_is); (case lGA => k_is); (case cGA => k_is); (case kGA => k_is)
    (case aPI => k_is); (case lPI => k_is); (case cPI => k_is); (case kPI => k_is); (case aNI => k_is); (case lNI => k_is); (case cNI => k_is); (case kNI => k_is)
    (case aFO => k_is); (case lFO => k_is); (case cFO => k_is); (case kFO => k_is); (case aBO => k_is); (case lBO => k_is); (case cBO => k_is); (case kBO => k_is)
    (case aJO => k_is); (case lJO => k_is); (case cJO => k_is); (case kJO => k_is); (case aCB => k_is); (case lCB => k_is); (case cCB => k_is); (case kCB => k_is)
    (case aRE => k_is); (case lRE => k_is); (case cRE => k_is); (case kRE => k_is); (case aRW => k_is); (case lRW => k_is); (case cRW => k_is); (case kRW => k_is)
    (case aWB => k_is); (case lWB => k_is); (case cWB => k_is); (case kWB => k_is); (case aPB => k_is); (case lPB => k_is); (case cPB => k_is); (case kPB => k_is)
    (case aDR => k_is); (case lDR => k_is); (case cDR => k_is); (case kDR => k_is); (case aPO => k_is); (case lPO => k_is); (case cPO => k_is); (case kPO => k_is)
    (case aLK => k_is); (case lLK => k_is); (case cLK => k_is); (case kLK => k_is); (case aJD => k_is); (case lJD => k_is); (case cJD => k_is); (case kJD => k_is)
    (case aAK => k_is); (case lAK => k_is); (case cAK => k_is); (case kAK => k_is); (case aCL => k_is); (case lCL => k_is); (case cCL => k_is); (case kCL => k_is)
    (case aLB => k_is); (case lLB => k_is); (case cLB => k_is); (case kLB => k_is); (case aLR => k_is); (case lLR => k_is); (case cLR => k_is); (case kLR => k_is)
    (case aLA => k_is); (case lLA => k_is); (case cLA => k_is); (case kLA => k_is); (case z_abs => k_is); (case z_len => k_is); (case z_range => k_is); (case z_isinstance => k_is)
    (case z_tuple => k_is); (case z_int => k_is); (case z_bool => k_is); (case z_list => k_is); (case z_str => k_is); (case z_all => k_is); (case z_any => k_is); (case z_sum => k_is)
    (case z_zip => k_is); (case z_sorted => k_is); (case z_ValueError => k_is); (case z_enumerate => k_is); (case z_max => k_is); (case z_repr => k_is); (case z_set => k_is); (case aFM => k_is)
    (case iI => k_is); (case fnI => k_is); (case lI => k_is); (case cI => k_is); (case kI => k_is); (case kC => k_is); (case qM => k_is); (case qG => k_is)
    (case qD => k_is); (case qO => k_is); (case qS => k_is); (case qP => k_is); (case qN => k_is); (case qI => k_is)
