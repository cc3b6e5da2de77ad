import PyProof.Rows.All
import Wide.All
import OpenK.AllK
import Wide.FinOn
import Lean
import PyProof.EqAt
import PyProof.EqKinds
import PyProof.TupleCall
import KE.KSortTup
import PyProof.NeKinds
import PyProof.DictRoadsH
import KE.KIntText
import KE.KRevIter
import PyProof.Rows.Range3
import PyProof.StrLawsTight
import PyProof.ZipIter
import KE.LcSums
import KE.KListMore
import KE.KDictList
import KE.KDictLaws
import KE.KMinKey
import PyProof.WalksEnum
import PyProof.EnumMake
import PyProof.Rows.EnumRows
import PyProof.DictCompW
import PyProof.Rows.SortKeyStr
import PyProof.Rows.SortWalk
import PyProof.SetKind
import PyProof.Rows.SetFrom
import PyProof.SetRoads
import PyProof.DictWalks
import PyProof.CollectWalk
import PyProof.ListRange
import PyProof.Rows.SortShell
import PySem.Challenge.RW_smallword_k09_parts_terms_atoms
set_option Elab.async false
set_option linter.all false
set_option maxRecDepth 100000
set_option maxHeartbeats 8000000
namespace Zz
def wZ:=@List.length_map
def x3:=@List.length_append
def x4:=@List.getElem?_eq_getElem
def x5:=@List.mem_cons_self
def x6:=@List.mem_cons_of_mem
def x8:=@List.mem_singleton
def x9:=@Nat.le_refl
def xa:=@List.mem_of_getElem?
def xb:=@Array.length_toList
def xc:=@List.size_toArray
def xg:=@List.map_cons
def xh:=@List.length_cons
def xi:=@List.mem_cons
def xj:=@List.mem_append
def xk:=@Array.getElem?_toList
def xm:=@List.length_singleton
def xo:=@List.getElem?_eq_some_iff
def xp:=@Bool.false_eq_true
def xq:=@Array.getElem?_eq_getElem
def xu:=@Nat.ne_of_lt
def xv:=@Bool.false_ne_true
def xw:=@List.getElem?_map
def xy:=@List.mem_map
def xz:=@Nat.zero_le
def xA:=@List.mem_flatMap
def xB:=@List.getD_eq_getElem?_getD
def xC:=@Nat.lt_of_lt_of_le
def xD:=@List.map_append
def xE:=@Option.some.inj
def xF:=@List.cons.injEq
def xG:=@Option.map_eq_some_iff
def xH:=@List.take_length
def xI:=@Nat.le_trans
def xJ:=@Nat.mul_le_mul_right
def xK:=@List.getElem?_eq_none
def xL:=@List.mem_append_right
def xM:=@List.length_take
def xN:=@List.mem_range
def xO:=@Nat.lt_of_le_of_lt
def xP:=@List.length_nil
def xQ:=@List.take_add_one
def xR:=@Array.getD_eq_getD_getElem?
def xS:=@List.flatMap_cons
def xT:=@Int.toNat_natCast
def xU:=@List.lookup_cons
def xV:=@Bool.and_eq_true
def xW:=@List.flatMap_append
def xX:=@List.length_range
def xY:=@List.mem_filter
def xZ:=@Nat.pow_pos
def y6:=@List.getElem_mem
def y8:=@List.cons_append
def y9:=@List.pairwise_iff_getElem
def ya:=@Nat.pow_succ
def yb:=@List.find?_cons
def yc:=@List.length_filter_le
def yd:=@List.zip_cons_cons
def ye:=@Int.gcd_pos_of_ne_zero_right
def yf:=@Array.mem_toList_iff
def yg:=@List.append_nil
def yh:=@List.toList_toArray
def yi:=@List.not_mem_nil
def yj:=@List.take_append_drop
def yk:=@List.any_cons
def ym:=@Nat.add_le_add_left
def yn:=@List.mem_map_of_mem
def yo:=@List.getElem_of_mem
def yp:=@List.take_zero
def yq:=@List.filter_cons
def yt:=@Array.size_map
def yu:=@Int.gcd_comm
def yv:=@List.nodup_cons
def yw:=@Nat.lt_irrefl
def yx:=@List.ext_getElem?
def yy:=@List.append_assoc
end Zz
open Zz
namespace L2
open PySem PySem.Spec PyProof.Rows
abbrev Key:=Sum Int Str
noncomputable def dl:Key→Value→Bool
 | .inl k,v=>Value.isInt k v
 | .inr x,v=>Value.isStrOf x v
noncomputable def keyH (w:World):Key→Int
 | .inl k=>hashInt k
 | .inr x=>hashStr w x
theorem aF:∀ {k:Key} {v:Value},dl k v=true→(∃i t,k=Sum.inl i∧v=Value.int i t)∨(∃x t,k=Sum.inr x∧v=Value.str x t)
 | .inl i,v,h=>by
  obtain ⟨t,e⟩:=Value.isInt_shape (k:=i) (v:=v) h
  exact .inl ⟨i,t,rfl,e⟩
 | .inr x,v,h=>by
  obtain ⟨t,e⟩:=Value.isStrOf_shape (x:=x) (v:=v) h
  exact .inr ⟨x,t,rfl,e⟩
theorem iw (i:Int) (t:Tok):dl (.inl i) (.int i t)=true:=by simp [dl,Value.isInt]
theorem iu (x:Str) (t:Tok):dl (.inr x) (.str x t)=true:=by simp [dl,Value.isStrOf]
theorem vp (a b:Int):decide ((Sum.inl a:Key)=Sum.inl b)=(a==b):=by
 by_cases e:a=b
 · subst e;simp
 · have h:¬(Sum.inl a:Key)=Sum.inl b:=fun q=>e (Sum.inl.inj q)
   rw [decide_eq_false h]
   exact (beq_eq_false_iff_ne.mpr e).symm
theorem vm (a b:Str):decide ((Sum.inr a:Key)=Sum.inr b)=decide (a=b):=by
 by_cases e:a=b
 · subst e;simp
 · have h:¬(Sum.inr a:Key)=Sum.inr b:=fun q=>e (Sum.inr.inj q)
   rw [decide_eq_false h,decide_eq_false e]
theorem vo (a:Int) (b:Str):decide ((Sum.inl a:Key)=Sum.inr b)=false:=decide_eq_false (fun q=>nomatch q)
theorem vn (a:Str) (b:Int):decide ((Sum.inr a:Key)=Sum.inl b)=false:=decide_eq_false (fun q=>nomatch q)
noncomputable def aR (prog:Program) (w:World):PySem.KeyKind prog w Key where
 is:=dl
 hash:=keyH w
 inj:=fun v a b ha hb=>by
  rcases aF ha with ⟨i,t,rfl,rfl⟩|⟨x,t,rfl,rfl⟩
  · rcases aF hb with ⟨j,u,rfl,e⟩|⟨y,u,rfl,e⟩
    · injection e with e1 _;rw [e1]
    · exact nomatch e
  · rcases aF hb with ⟨j,u,rfl,e⟩|⟨y,u,rfl,e⟩
    · exact nomatch e
    · injection e with e1 _;rw [e1]
 byValue:=fun k v h=>by
  rcases aF h with ⟨i,t,rfl,rfl⟩|⟨x,t,rfl,rfl⟩<;>rfl
 pyHash:=fun hv h=>by
  rcases aF hv with ⟨i,t,rfl,rfl⟩|⟨x,t,rfl,rfl⟩
  · exact wpAny_pyHash_int h
  · exact wpAny_pyHash_str h
 eqBool:=fun hu hv h=>by
  rcases aF hu with ⟨i,t,rfl,rfl⟩|⟨x,t,rfl,rfl⟩
  · rcases aF hv with ⟨j,u,rfl,rfl⟩|⟨y,u,rfl,rfl⟩
    · rw [vp] at h;exact wpAny_eqBool_int h
    · rw [vo] at h;exact SeqAt.EqAt.int_str i t y u _ _ _ _ h
  · rcases aF hv with ⟨j,u,rfl,rfl⟩|⟨y,u,rfl,rfl⟩
    · rw [vn] at h;exact SeqAt.EqAt.str_int x t j u _ _ _ _ h
    · rw [vm] at h;exact wpAny_eqBool_str h
 «strs»:=fun k x t v h=>by
  rcases aF h with ⟨i,u,rfl,e⟩|⟨y,u,rfl,e⟩
  · exact nomatch e
  · injection e with e1 _
    subst e1
    cases v<;>rfl
theorem jL (prog:Program) (w:World) (i:Int) (t:Tok):(aR prog w).is (.inl i) (.int i t)=true:=iw i t
theorem jK (prog:Program) (w:World) (x:Str) (t:Tok):(aR prog w).is (.inr x) (.str x t)=true:=iu x t
open PySem PySem.Spec PyProof.Rows
inductive V where
 |non|bl (b:Bool)|int (i:Int)|str (x:Str)|byt (b:Array UInt8)|flt (b:UInt64)|ref (a:Addr)|ty (n:String)
 deriving DecidableEq
def RelV:V→Value→Prop
 | .non,u=>u=Value.none
 | .bl b,u=>u=Value.bool b
 | .int i,u=>∃t,u=Value.int i t
 | .str x,u=>∃t,u=Value.str x t
 | .byt b,u=>∃t,u=Value.bytes b t
 | .flt b,u=>∃t,u=Value.float b t
 | .ref a,u=>u=Value.ref a
 | .ty n,u=>u=Value.type n
abbrev Vals:List V→List Value→Prop:=Paired RelV
theorem Vals.length {xs:List V} {us:List Value} (r:Vals xs us):xs.length=us.length:=Paired.length r
theorem Vals.get:∀ {xs:List V} {us:List Value} {i:Nat} {x:V},Vals xs us→xs[i]?=some x→∃u,us[i]?=some u∧RelV x u
 |_,_,_,_, .nil,e=>by simp at e
 |_,_,0,_, .cons r _,e=>by simp at e;subst e;exact ⟨_,rfl,r⟩
 |_,_,i+1,x, .cons _ t,e=>by
  obtain ⟨u,h1,h2⟩:=Vals.get (i:=i) (x:=x) t (by simpa using e)
  exact ⟨u,by simpa using h1,h2⟩
theorem Vals.set {x:V} {u:Value} (r:RelV x u):∀ {xs:List V} {us:List Value} (i:Nat),Vals xs us→Vals (xs.set i x) (us.set i u)
 |_,_,_, .nil=> .nil
 |_,_,0, .cons _ t=> .cons r t
 |_,_,i+1, .cons q t=> .cons q (Vals.set r i t)
theorem Vals.append:∀ {xs ys:List V} {us ws:List Value},Vals xs us→Vals ys ws→Vals (xs++ys) (us++ws)
 |_,_,_,_, .nil,s=>s
 |_,_,_,_, .cons r t,s=> .cons r (Vals.append t s)
theorem Vals.take:∀ {xs:List V} {us:List Value} (n:Nat),Vals xs us→Vals (xs.take n) (us.take n)
 |_,_,0,_=> .nil
 |_,_,_+1, .nil=> .nil
 |_,_,n+1, .cons r t=> .cons r (Vals.take n t)
theorem Vals.drop:∀ {xs:List V} {us:List Value} (n:Nat),Vals xs us→Vals (xs.drop n) (us.drop n)
 |_,_,0,r=>r
 |_,_,_+1, .nil=> .nil
 |_,_,n+1, .cons _ t=>Vals.drop n t
def RelO:Option V→Option Value→Prop
 |some v,some u=>RelV v u
 |none,none=>True
 |_,_=>False
def KV {κ:Type}:List (κ×V)→List (κ×Value)→Prop:=Paired fun (p:κ×V) (q:κ×Value)=>p.1=q.1∧RelV p.2 q.2
def kV:Key→V
 | .inl i=> .int i
 | .inr x=> .str x
inductive HO where
 |lst (xs:List V)
 |tup (xs:List V)
 |dK (kvs:List (Key×V))|dT (kvs:List (List Key×V))
 |set (S:Int→Bool) (n:Nat)
 |ins (C dx:Addr) (fs:List (Str×V))
 |own (x:Addr)
 |xd (fs:List (Str×V))
 |met (f x:Addr)
 |rng (lo hi:Int)
 |frz (o:Obj) (u:HO)
 |tbl (ps:Array Value)
 |ext (φ:Heap→Prop)
abbrev Hp:=Addr→Option HO
noncomputable def upd (H:Hp) (a:Addr) (o:HO):Hp:=fun b=>if b=a then some o else H b
theorem ac {H:Hp} {a:Addr} {o:HO}:upd H a o a=some o:=by unfold upd;rw [if_pos rfl]
theorem aG {H:Hp} {a b:Addr} {o:HO} (h:b≠a):upd H a o b=H b:=by unfold upd;rw [if_neg h]
theorem wN {H:Hp} {a b:Addr} {o u:HO} (h:H a=some o) (h':H b=some u) (d:o≠u):a≠b:=by
 intro e;subst e;rw [h] at h';exact d (xE h')
theorem aJ {H:Hp} {a b:Addr} {o:HO} (h:H a=some o) (h':H b=none):a≠b:=by
 intro e;subst e;rw [h] at h';cases h'
section
variable (P:Program) (w:World)
def ObjOk (H:Hp) (h:Heap) (a:Addr):HO→Prop
 | .lst xs=>xs.length≤sizeLine∧∃(its:List Value) (n:Nat),Vals xs its∧h.get? a=some {cls:= .type "list",data:= .seq its.toArray n}
 | .tup xs=>xs.length≤sizeLine∧∃its:List Value,Vals xs its∧IsTup h a its.toArray
 | .dK kvs=>kvs.length≤sizeLine∧(a==sysModules)=false∧∃vs,KV kvs vs∧h.DictOf (aR P w) a vs
 | .dT kvs=>kvs.length≤sizeLine∧(a==sysModules)=false∧∃xs:List (List Key×Addr×Value),
  Paired (fun (p:List Key×V) (q:List Key×Addr×Value)=>p.1=q.1∧H q.2.1=some (.tup (p.1.map kV))∧RelV p.2 q.2.2) kvs xs∧
  ∃o es ep,h.get? a=some o∧o.ExactDict∧o.data= .dict es ep∧es.toList=xs.map (entryOfKey (tupleKind (aR P w)))∧(xs.map (·.1)).Nodup
 | .set S n=>h.SetOf (intKind P w) a S n
 | .ins C dx fs=>H dx=some (.own a)∧fs.length≤1000∧dx≠a∧h.get? a=some (PySem.W.instObj C dx)∧
  ∃mA,h.Ns1 dx mA∧(∀f,RelO (fs.lookup f) (mA f))∧PySem.Within mA (fs.map (·.1))
 | .own _=>∃o,h.get? a=some o
 | .xd fs=>∃mA,h.Ns1 a mA∧∀f,RelO (fs.lookup f) (mA f)
 | .rng lo hi=>∃t u v,h.get? a=some {cls:= .type "range",data:= .fields #[.int lo t, .int hi u, .int 1 v]}
 | .frz o u=>h.get? a=some o∧ObjOk H h a u
 | .tbl ps=>h.get? a=some {cls:= .none,data:= .fields ps}
 | .met f x=>h.get? a=some (PySem.W.methodObj (.ref f) (.ref x))
 | .ext φ=>φ h∧(∃o,h.get? a=some o)∧∀h1 h2:Heap,φ h1→(∀o,h1.get? a=some o→h2.get? a=some o)→φ h2
def HOk (H:Hp) (h:Heap):Prop:=∀a o,H a=some o→ObjOk P w H h a o
end
section
variable {P:Program} {w:World} {H H':Hp} {h h':Heap} {a:Addr} {o:HO}
theorem ObjOk.lt (x:ObjOk P w H h a o):a < h.objs.size:=by
 cases o with
 |lst xs=>obtain ⟨_,_,_,_,e⟩:=x;exact Heap.lt_size e
 |tup xs=>obtain ⟨_,_,_,p⟩:=x;exact p.lt
 |dK kvs=>obtain ⟨_,_,_,_,o,_,_,e,_⟩:=x;exact Heap.lt_size e
 |dT kvs=>obtain ⟨_,_,_,_,o,_,_,e,_⟩:=x;exact Heap.lt_size e
 |set S n=>obtain ⟨o,_,_,_,e,_⟩:=x;exact Heap.lt_size e
 |ins C dx fs=>obtain ⟨_,_,_,e,_⟩:=x;exact Heap.lt_size e
 |own y=>obtain ⟨_,e⟩:=x;exact Heap.lt_size e
 |xd fs=>obtain ⟨_,⟨_,_,_,e,_⟩,_⟩:=x;exact Heap.lt_size e
 |rng lo hi=>obtain ⟨_,_,_,e⟩:=x;exact Heap.lt_size e
 |frz ob u=>obtain ⟨e,_⟩:=x;exact Heap.lt_size e
 |tbl ps=>exact Heap.lt_size (show h.get? a=some _ from x)
 |met f y=>exact Heap.lt_size (show h.get? a=some _ from x)
 |ext φ=>obtain ⟨_,⟨_,e⟩,_⟩:=x;exact Heap.lt_size e
theorem Paired.mapP {α β:Type} {F G:α→β→Prop}:∀ {l₁:List α} {l₂:List β},Paired F l₁ l₂→(∀a b,F a b→G a b)→Paired G l₁ l₂
 |_,_, .nil,_=> .nil
 |_,_, .cons r t,f=> .cons (f _ _ r) (Paired.mapP t f)
theorem Paired.imp' {α β:Type} {F G:α→β→Prop} (f:∀a b,F a b→G a b) {l₁:List α} {l₂:List β} (r:Paired F l₁ l₂):Paired G l₁ l₂:=Paired.mapP r f
theorem ObjOk.stay (x:ObjOk P w H h a o) (k:∀b u,(b=a∨H b=some (.own a))→h.get? b=some u→h'.get? b=some u)
 (ho:∀b,H b=some (.own a)→H' b=some (.own a)) (ht:∀b xs,H b=some (.tup xs)→H' b=some (.tup xs)):ObjOk P w H' h' a o:=by
 induction o with
 |lst xs=>obtain ⟨z,its,n,r,e⟩:=x;exact ⟨z,its,n,r,k _ _ (.inl rfl) e⟩
 |tup xs=>obtain ⟨z,its,r,ob,e,c⟩:=x;exact ⟨z,its,r,ob,k _ _ (.inl rfl) e,c⟩
 |dK kvs=>obtain ⟨z,y,vs,r,ob,es,ep,e,c⟩:=x;exact ⟨z,y,vs,r,ob,es,ep,k _ _ (.inl rfl) e,c⟩
 |dT kvs=>
  obtain ⟨z,y,xs,r,ob,es,ep,e,c⟩:=x
  exact ⟨z,y,xs,Paired.mapP r fun p q z=>⟨z.1,ht _ _ z.2.1,z.2.2⟩,ob,es,ep,k _ _ (.inl rfl) e,c⟩
 |set S n=>obtain ⟨ob,es,ep,t,e,c⟩:=x;exact ⟨ob,es,ep,t,k _ _ (.inl rfl) e,c⟩
 |ins C dx fs=>
  obtain ⟨d,z,ne,e,mA,⟨od,es,ep,e2,c⟩,r⟩:=x
  exact ⟨ho _ d,z,ne,k _ _ (.inl rfl) e,mA,⟨od,es,ep,k _ _ (.inr d) e2,c⟩,r⟩
 |own y=>obtain ⟨ob,e⟩:=x;exact ⟨ob,k _ _ (.inl rfl) e⟩
 |xd fs=>obtain ⟨mA,⟨od,es,ep,e,c⟩,r⟩:=x;exact ⟨mA,⟨od,es,ep,k _ _ (.inl rfl) e,c⟩,r⟩
 |rng lo hi=>obtain ⟨t,u,v,e⟩:=x;exact ⟨t,u,v,k _ _ (.inl rfl) e⟩
 |frz ob u ih=>obtain ⟨e,q⟩:=x;exact ⟨k _ _ (.inl rfl) e,ih q⟩
 |tbl ps=>
  have e:h.get? a=some {cls:= .none,data:= .fields ps}:=x
  show h'.get? a=some {cls:= .none,data:= .fields ps}
  exact k a _ (.inl rfl) e
 |met f y=>
  have e:h.get? a=some (PySem.W.methodObj (.ref f) (.ref y)):=x
  show h'.get? a=some (PySem.W.methodObj (.ref f) (.ref y))
  exact k a _ (.inl rfl) e
 |ext φ=>obtain ⟨p,⟨o,e⟩,st⟩:=x;exact ⟨st _ _ p fun o q=>k _ _ (.inl rfl) q,⟨o,k _ _ (.inl rfl) e⟩,st⟩
theorem HOk.lt (x:HOk P w H h) (e:H a=some o):a < h.objs.size:=(x a o e).lt
theorem HOk.fresh (x:HOk P w H h) (e:h.objs.size≤a):H a=none:=by
 cases q:H a with
 |none=>rfl
 |some u=>exact absurd (xC (x.lt q) e) (yw _)
theorem HOk.kept (x:HOk P w H h) (k:∀b u,h.get? b=some u→h'.get? b=some u):HOk P w H h':=fun a o e=>
 (x a o e).stay (fun b u _ q=>k b u q) (fun _ q=>q) fun _ _ q=>q
theorem HOk.laid (x:HOk P w H h) (k:∀b u,h.get? b=some u→h'.get? b=some u) (hp:h.objs.size≤a) (new:ObjOk P w (upd H a o) h' a o):HOk P w (upd H a o) h':=fun b u e=>by
 have hn:=x.fresh hp
 by_cases hb:b=a
 · subst hb;rw [ac] at e;cases e;exact new
 · rw [aG hb] at e
   exact (x b u e).stay (fun c v _ q=>k c v q) (fun c q=>by rw [aG (aJ q hn)];exact q) fun c xs q=>by rw [aG (aJ q hn)];exact q
end
def Rd (H:Hp) (a:Addr) (u:HO):Prop:=H a=some u∨∃o,H a=some (.frz o u)
theorem Rd.ok {P:Program} {w:World} {H:Hp} {h:Heap} {a:Addr} {u:HO} (r:Rd H a u) (x:HOk P w H h):ObjOk P w H h a u:=by
 rcases r with r|⟨o,r⟩
 · exact x a u r
 · obtain ⟨_,q⟩:=x a _ r
   exact q
def Mut:Option HO→Prop
 |some (.lst _)=>True
 |some (.dK _)=>True
 |some (.dT _)=>True
 |some (.set _ _)=>True
 |some (.ins _ _ _)=>True
 |some (.ext _)=>True
 |_=>False
section
variable {P:Program} {w:World} {H:Hp} {h h':Heap} {x e:Addr} {o':HO}
theorem HOk.write (ok:HOk P w H h) (mu:Mut (H x)) (he:e=x∨H e=some (.own x)) (k:∀b u,b≠e→h.get? b=some u→h'.get? b=some u) (heo:∃u,h'.get? e=some u)
 (new:ObjOk P w (upd H x o') h' x o'):HOk P w (upd H x o') h':=fun b u q=>by
 have nown:∀c y,H c=some (.own y)→c≠x:=fun c y r z=>by subst z;rw [r] at mu;exact mu
 have ntup:∀c xs,H c=some (.tup xs)→c≠x:=fun c xs r z=>by subst z;rw [r] at mu;exact mu
 by_cases hb:b=x
 · subst hb;rw [ac] at q;cases q;exact new
 · rw [aG hb] at q
   by_cases hbe:b=e
   · have q':H b=some (.own x):=by
      rcases he with z|z
      · exact absurd (hbe.trans z) hb
      · rw [hbe];exact z
     rw [q] at q';cases q'
     obtain ⟨v,hv⟩:=heo
     exact ⟨v,by rw [hbe];exact hv⟩
   · refine (ok b u q).stay (fun c v hc r=>k c v ?_ r) (fun c r=>by rw [aG (nown c b r)];exact r) fun c xs r=>by rw [aG (ntup c xs r)];exact r
     rcases hc with rfl|hc
     · exact hbe
     · rintro rfl
       rcases he with z|z
       · exact nown c b hc z
       · rw [hc] at z;cases z;exact hb rfl
end
def Idl (x:Option HO):Prop:=x=none∨∃xs,x=some (.tup xs)
theorem Idl.no {x:Option HO} (h:x=none):Idl x:= .inl h
structure Un (fs ex:List Addr) (H H':Hp) (h h':Heap):Prop where
 keep:∀b o,h.get? b=some o→Idl (H b)→b∉fs→b∉ex→h'.get? b=some o
 slot:∀b o,h.get? b=some o→H b=none→b∈fs→b∉ex→∃sl,h'.get? b=some {o with slots:=sl}
 free:∀b o,h.get? b=some o→H b=none→b∉ex→H' b=none
 there:∀b o,h.get? b=some o→b∉ex→∃o',h'.get? b=some o'
 tups:∀b xs,H b=some (.tup xs)→H' b=some (.tup xs)
 frzs:∀b o u,H b=some (.frz o u)→H' b=some (.frz o u)
 tbls:∀b ps,H b=some (.tbl ps)→∃more,H' b=some (.tbl (ps++more))
section
variable {fs fs' ex ex':List Addr} {H H1 H2:Hp} {h h1 h2 h':Heap} {a x e:Addr} {o:HO}
theorem Un.any (u:Un fs ex H H1 h h1) {b:Addr} {ob:Obj} (q:h.get? b=some ob) (n:H b=none) (hx:b∉ex):∃sl,h1.get? b=some {ob with slots:=sl}:=by
 by_cases hb:b∈fs
 · exact u.slot b ob q n hb hx
 · exact ⟨ob.slots,u.keep b ob q (.inl n) hb hx⟩
theorem Un.idl (u:Un fs ex H H1 h h1) {b:Addr} {ob:Obj} (q:h.get? b=some ob) (n:Idl (H b)) (hx:b∉ex):Idl (H1 b):=by
 rcases n with n|⟨xs,n⟩
 · exact .inl (u.free b ob q n hx)
 · exact .inr ⟨xs,u.tups b xs n⟩
theorem Un.trans (a:Un fs ex H H1 h h1) (b:Un fs ex H1 H2 h1 h2):Un fs ex H H2 h h2 where
 keep:=fun c ob q n hc hx=>b.keep c ob (a.keep c ob q n hc hx) (a.idl q n hx) hc hx
 slot:=fun c ob q n hc hx=>by
  obtain ⟨sl,e1⟩:=a.slot c ob q n hc hx
  obtain ⟨sl',e2⟩:=b.slot c _ e1 (a.free c ob q n hx) hc hx
  exact ⟨sl',e2⟩
 free:=fun c ob q n hx=>by
  obtain ⟨o',e1⟩:=a.there c ob q hx
  exact b.free c o' e1 (a.free c ob q n hx) hx
 there:=fun c ob q hx=>by
  obtain ⟨o',e1⟩:=a.there c ob q hx
  exact b.there c o' e1 hx
 tups:=fun c xs q=>b.tups c xs (a.tups c xs q)
 frzs:=fun c ob xs q=>b.frzs c ob xs (a.frzs c ob xs q)
 tbls:=fun c ps q=>by
  obtain ⟨m1,e1⟩:=a.tbls c ps q
  obtain ⟨m2,e2⟩:=b.tbls c _ e1
  exact ⟨m1++m2,by rw [e2,Array.append_assoc]⟩
theorem Un.kept (k:∀b u,h.get? b=some u→h'.get? b=some u):Un fs ex H H h h':=
 ⟨fun b ob q _ _ _=>k b ob q,fun b ob q _ _ _=>⟨ob.slots,k b ob q⟩,fun _ _ _ n _=>n,fun b ob q _=>⟨ob,k b ob q⟩,fun _ _ q=>q,fun _ _ _ q=>q,fun _ ps q=>⟨#[],by rw [q];simp⟩⟩
theorem Un.refl:Un fs ex H H h h:=Un.kept fun _ _ q=>q
theorem Un.laid (k:∀b u,h.get? b=some u→h'.get? b=some u) (hp:h.objs.size≤a) (hn:H a=none):Un fs ex H (upd H a o) h h' where
 keep:=fun b u q _ _ _=>k b u q
 slot:=fun b u q _ _ _=>⟨u.slots,k b u q⟩
 free:=fun b u q n _=>by rw [aG (xu (xC (Heap.lt_size q) hp))];exact n
 there:=fun b u q _=>⟨u,k b u q⟩
 tups:=fun b xs q=>by rw [aG (aJ q hn)];exact q
 frzs:=fun b u xs q=>by rw [aG (aJ q hn)];exact q
 tbls:=fun b ps q=>⟨#[],by rw [aG (aJ q hn),q];simp⟩
theorem Un.write (mu:Mut (H x)) (he:e=x∨H e=some (.own x)) (k:∀b u,b≠e→h.get? b=some u→h'.get? b=some u) (heo:∃u,h'.get? e=some u):Un fs ex H (upd H x o) h h':=by
 have hx:∀b,H b=none→b≠x:=fun b n z=>by subst z;rw [n] at mu;exact mu
 have hb:∀b,H b=none→b≠e:=fun b n z=>by
  subst z
  rcases he with r|r
  · exact hx b n r
  · rw [n] at r;cases r
 have hi:∀b,Idl (H b)→b≠e:=fun b n z=>by
  rcases n with n|⟨xs,n⟩
  · exact hb b n z
  · subst z
    rcases he with r|r
    · subst r
      rw [n] at mu
      exact mu
    · rw [n] at r;cases r
 have hm:∀b u,H b=some u→¬Mut (some u)→b≠x:=fun b u q nm z=>by subst z;rw [q] at mu;exact nm mu
 refine ⟨fun b u q n _ _=>k b u (hi b n) q,fun b u q n _ _=>⟨u.slots,k b u (hb b n) q⟩,fun b u q n _=>by rw [aG (hx b n)];exact n,fun b u q _=> ?_,
  fun b xs q=>by rw [aG (hm b _ q fun z=>z)];exact q,fun b u xs q=>by rw [aG (hm b _ q fun z=>z)];exact q,fun b ps q=>⟨#[],by rw [aG (hm b _ q fun z=>z),q];simp⟩⟩
 by_cases hbe:b=e
 · subst hbe;exact heo
 · exact ⟨u,k b u hbe q⟩
end
noncomputable def trk (h:Heap) (H:Hp):List Addr:=(List.range h.objs.size).filter fun a=>(H a).isSome
noncomputable def hidT (h:Heap) (H:Hp):Heap:=PySem.W.hideAll h (trk h H)
theorem o5 (h:Heap) (H:Hp):(hidT h H).objs.size=h.objs.size:=PySem.W.hideAll_size _ _
theorem qO {h:Heap} {H:Hp} {b:Addr} {o:Obj} (e:h.get? b=some o) (n:H b=none):(hidT h H).get? b=some o:=
 PySem.W.hideAll_get _ e fun hm=>by
  have q:(H b).isSome=true:=(xY.mp hm).2
  rw [n] at q;simp at q
theorem mr {h:Heap} {H:Hp} {b:Addr} {o:Obj} (e:(hidT h H).get? b=some o):h.get? b=some o∧H b=none:=by
 have e':h.get? b=some o:=PySem.W.of_hideAll (trk h H) e
 refine ⟨e',?_⟩
 cases q:H b with
 |none=>rfl
 |some x=>
  have hm:b∈trk h H:=xY.mpr ⟨xN.mpr (Heap.lt_size e'),by simp [q]⟩
  have z:(hidT h H).get? b=none:=PySem.W.hideAll_none (trk h H) hm
  rw [z] at e;cases e
noncomputable def tL (g h:Heap) (L:Addr):List (Addr×Obj):=(List.range h.objs.size).filterMap fun a=>if a=L∨(g.get? a).isSome=true then none else (h.get? a).map fun o=>(a,o)
noncomputable def rest (g h:Heap) (L d:Addr):List (Addr×Obj):=(tL g h L).filter fun p=>decide (p.1≠d)
open PySem PySem.Spec PyProof.Rows
structure Mod (K:PySem.W.Frag) (mg:Str→Option Value) (base:Heap):Prop where
 kin:K.In base
 glob:base.Ns mainGlobals mg
 blt:∃mb,base.Ns builtinsNs mb∧∀x:Str,x≠"__name__"→mb x=bootBuiltins x
 nolimit:base.NoLimit
structure Cx where
 prog:Program
 w:World
 K:PySem.W.Frag
 mg:Str→Option Value
 base:Heap
 A:Around
 N:List Str
 s₀:Shared
 H₀:Hp
 env:Env
 outer:List Env
 stack:List Env
 ex:List Addr
 fn:Str→Bool
 calm:Bool
 pn:List (Addr×Obj)
 xe:Value→Shared→Prop
def frs (l:List Env):List Addr:=l.filterMap (·.frame)
abbrev Cx.fs (X:Cx):List Addr:=frs X.outer
def Vis (sc:Scope) (x:Str):Prop:=sc.names.lookup x=some .local∨sc.names.lookup x=some .cell∨sc.names.lookup x=some .free
def Loc (sc:Scope) (x:Str):Prop:=sc.names.lookup x=some .local∨sc.names.lookup x=some .cell
def Look (env:Env) (h:Heap) (m:Str→Option Value) (x:Str) (u:Value):Prop:=
 (env.kindOf x=some .local∧m x=some u)∨((env.kindOf x=some .cell∨env.kindOf x=some .free)∧∃c,env.cells.lookup x=some c∧h.IsCell c (some u))
structure Cx.Ok (X:Cx):Prop where
 mod:Mod X.K X.mg X.base
 kind:X.env.scope.kind= .function
 glob:X.env.globals=mainGlobals
 blt:X.env.builtins=builtinsNs
 above:X.s₀.heap.objs.size≤X.env.locals
 inj:∀x y c,X.env.cells.lookup x=some c→X.env.cells.lookup y=some c→x=y
 has:∀x,(X.env.kindOf x=some .cell∨X.env.kindOf x=some .free)→∃c,X.env.cells.lookup x=some c
 cab:∀x c,X.fn x=true→X.env.cells.lookup x=some c→X.s₀.heap.objs.size≤c
 hd:X.calm=true→X.A.handled=none
 frames:X.A.frames=some X.stack
 stk:X.stack=X.outer∨(X.stack=X.env::X.outer∧X.env.frame=some X.env.locals)
 exf:∀b∈X.ex,b≠X.env.locals∧∀x c,X.env.cells.lookup x=some c→c≠b
 bs:∀b o,X.base.get? b=some o→X.s₀.heap.get? b=some o∧Idl (X.H₀ b)
 bsz:X.base.objs.size≤X.s₀.heap.objs.size
 noex:∀b o,X.base.get? b=some o→b∉X.ex
 exfs:∀b∈X.ex,b∉X.fs
 funs:X.s₀.heap.FunFrames X.base X.outer
 frf:∀b∈X.fs,X.H₀ b=none
structure Inv (X:Cx) (pins:List (Addr×Obj)) (σ:List (Option V)) (H:Hp) (s:Shared):Prop where
 ok:X.Ok
 os:s.os=X.s₀.os
 bare:AllBare s.gens
 base:Un X.fs X.ex X.H₀ H X.s₀.heap s.heap
 loc:∃m,s.heap.Ns X.env.locals m∧∀(i:Nat) (x:Str) (v:V),X.N[i]?=some x→σ[i]?=some (some v)→Vis X.env.scope x→∃u,RelV v u∧Look X.env s.heap m x u
 cell:∀x c,X.env.cells.lookup x=some c→∃v,s.heap.IsCell c v
 free:H X.env.locals=none
 freeC:∀x c,X.env.cells.lookup x=some c→H c=none
 pin:∀p∈X.pn++pins,s.heap.get? p.1=some p.2∧H p.1=none∧p.1≠X.env.locals∧p.1∉X.fs∧∀v,p.2.data≠ .cell v
 hok:HOk X.prog X.w H s.heap
 len:σ.length=X.N.length
section
variable {X:Cx} {pins:List (Addr×Obj)} {σ:List (Option V)} {H H':Hp} {s:Shared} {h':Heap}
theorem Cx.Ok.nofr (ok:X.Ok) {b:Addr} {o:Obj} (e:X.base.get? b=some o):b∉X.fs:=fun hb=>by
 have:=(ok.funs.mem hb).1
 rw [e] at this;cases this
theorem Inv.bs (I:Inv X pins σ H s):∀b o,X.base.get? b=some o→s.heap.get? b=some o∧Idl (H b):=fun b o e=>
 ⟨I.base.keep b o (I.ok.bs b o e).1 (I.ok.bs b o e).2 (I.ok.nofr e) (I.ok.noex b o e),I.base.idl (I.ok.bs b o e).1 (I.ok.bs b o e).2 (I.ok.noex b o e)⟩
theorem Inv.bk (I:Inv X pins σ H s):∀b o,X.base.get? b=some o→s.heap.get? b=some o:=fun b o e=>(I.bs b o e).1
theorem Inv.mod (I:Inv X pins σ H s):Mod X.K X.mg X.base:=I.ok.mod
theorem Inv.kIn (I:Inv X pins σ H s):X.K.In s.heap:=I.ok.mod.kin.keeps I.bk
theorem Inv.nolimit (I:Inv X pins σ H s):s.heap.NoLimit:=I.ok.mod.nolimit.keeps I.bk
theorem Inv.fr (I:Inv X pins σ H s):∃m,Fr X.base X.env.locals s.heap m:=
 let ⟨m,hn,_⟩:=I.loc
 ⟨m,hn,I.bk,xI I.ok.bsz I.ok.above⟩
theorem Inv.lt (I:Inv X pins σ H s):X.env.locals < s.heap.objs.size:=let ⟨_,hn,_⟩:=I.loc;hn.lt
theorem Inv.sz (I:Inv X pins σ H s):X.s₀.heap.objs.size≤s.heap.objs.size:=xI I.ok.above (Nat.le_of_lt I.lt)
theorem Inv.nofs (I:Inv X pins σ H s) {a:Addr} (h:s.heap.objs.size≤a):a∉X.fs:=fun hb=>by
 obtain ⟨_,o,ho,_⟩:=I.ok.funs.mem hb
 exact absurd (xC (Heap.lt_size ho) (xI I.sz h)) (yw _)
theorem Inv.cne (I:Inv X pins σ H s):∀x c,X.env.cells.lookup x=some c→c≠X.env.locals:=fun x c e z=>by
 obtain ⟨v,o,ho,hd⟩:=I.cell x c e
 obtain ⟨m,⟨o',es,ep,ho',hd',_⟩,_⟩:=I.loc
 rw [z,ho'] at ho;cases ho;rw [hd'] at hd;cases hd
theorem Inv.funs (I:Inv X pins σ H s):s.heap.FunFrames X.base X.outer:=by
 have all:∀(l:List Env),(∀b∈frs l,b∈X.fs)→X.s₀.heap.FunFrames X.base l→s.heap.FunFrames X.base l:=by
  intro l
  induction l with
  |nil=>intro _ _;trivial
  |cons env r ih=>
   intro hs hl
   obtain ⟨hk,⟨L,o,hf,hn,ho,hd⟩,hr⟩:=hl
   have hL:L∈X.fs:=hs L (by unfold frs;rw [List.filterMap_cons,hf];exact x5)
   obtain ⟨sl,e⟩:=I.base.slot L o ho (I.ok.frf L hL) hL fun z=>I.ok.exfs L z hL
   exact ⟨hk,⟨L,_,hf,hn,e,hd⟩,ih (fun b hb=>hs b (by unfold frs;rw [List.filterMap_cons,hf];exact x6 _ hb)) hr⟩
 exact all X.outer (fun _ hb=>hb) I.ok.funs
theorem Inv.stack (I:Inv X pins σ H s):s.heap.FunFrames X.base X.stack:=by
 rcases I.ok.stk with e|⟨e,hf⟩
 · rw [e];exact I.funs
 · rw [e]
   obtain ⟨m,hn,_⟩:=I.loc
   refine .cons (by rw [I.ok.kind];decide) hf hn ?_ I.funs
   exact Heap.get?_none_of_le (xI I.ok.bsz I.ok.above)
theorem Inv.stkSub (I:Inv X pins σ H s):∀b∈frs X.stack,b∈X.env.locals::X.fs:=fun b hb=>by
 rcases I.ok.stk with e|⟨e,hf⟩
 · rw [e] at hb;exact x6 _ hb
 · rw [e] at hb
   unfold frs at hb
   rw [List.filterMap_cons,hf] at hb
   exact hb
theorem Inv.stkFree (I:Inv X pins σ H s):∀b∈frs X.stack,H b=none:=fun b hb=>by
 rcases xi.mp (I.stkSub b hb) with e|hb
 · rw [e];exact I.free
 · obtain ⟨_,o,ho,_⟩:=I.ok.funs.mem hb
   exact I.base.free b o ho (I.ok.frf b hb) fun z=>I.ok.exfs b z hb
theorem Inv.step {g':Array GenState} {t':Nat} {d':Drawn} {ch:List Addr} (I:Inv X pins σ H s)
 (hch:∀b∈ch,(b∈X.ex∨X.s₀.heap.objs.size≤b)∧b≠X.env.locals∧(∀x c,X.env.cells.lookup x=some c→c≠b)∧∀p∈X.pn++pins,p.1≠b)
 (keep:∀b o,b≠X.env.locals→b∉X.fs→b∉ch→s.heap.get? b=some o→Idl (H b)→h'.get? b=some o)
 (slot:∀b o,b≠X.env.locals→b∈X.fs→b∉ch→s.heap.get? b=some o→H b=none→∃sl,h'.get? b=some {o with slots:=sl}) (free:∀b o,b∉ch→s.heap.get? b=some o→H b=none→H' b=none)
 (there:∀b o,b∉ch→s.heap.get? b=some o→∃o',h'.get? b=some o')
 (tups:∀b xs,H b=some (.tup xs)→H' b=some (.tup xs)) (frzs:∀b o u,H b=some (.frz o u)→H' b=some (.frz o u)) (tbls:∀b ps,H b=some (.tbl ps)→∃more,H' b=some (.tbl (ps++more)))
 (ns:∀m,s.heap.Ns X.env.locals m→h'.Ns X.env.locals m) (hok:HOk X.prog X.w H' h') (hg:AllBare g'):
 Inv X pins σ H' {s with heap:=h',gens:=g',drawn:=d',toks:=t'}:=by
 have neL:∀b o,X.s₀.heap.get? b=some o→b≠X.env.locals:=fun b o e=>xu (xC (Heap.lt_size e) I.ok.above)
 have neC:∀b o,X.s₀.heap.get? b=some o→b∉X.ex→b∉ch:=fun b o e hx hb=>by
  rcases (hch b hb).1 with z|z
  · exact hx z
  · exact absurd (xC (Heap.lt_size e) z) (yw _)
 have cellK:∀x c,X.env.cells.lookup x=some c→∀v,s.heap.IsCell c v→h'.IsCell c v:=fun x c e v ⟨o,ho,hd⟩=>by
  have nch:c∉ch:=fun z=>(hch c z).2.2.1 x c e rfl
  by_cases hc:c∈X.fs
  · obtain ⟨sl,q⟩:=slot c o (I.cne x c e) hc nch ho (I.freeC x c e)
    exact ⟨_,q,hd⟩
  · exact ⟨o,keep c o (I.cne x c e) hc nch ho (.inl (I.freeC x c e)),hd⟩
 refine ⟨I.ok,I.os,hg,⟨fun b o e n hb hx=> ?_,fun b o e n hb hx=> ?_,fun b o e n hx=> ?_,fun b o e hx=> ?_,fun b xs e=>tups b xs (I.base.tups b xs e),fun b o xs e=>frzs b o xs (I.base.frzs b o xs e),fun b ps e=> ?_⟩,?_,fun x c e=> ?_,?_,fun x c e=> ?_,fun p hp=> ?_,hok,I.len⟩
 · exact keep b o (neL b o e) hb (neC b o e hx) (I.base.keep b o e n hb hx) (I.base.idl e n hx)
 · obtain ⟨sl,e1⟩:=I.base.slot b o e n hb hx
   obtain ⟨sl',e2⟩:=slot b _ (neL b o e) hb (neC b o e hx) e1 (I.base.free b o e n hx)
   exact ⟨sl',e2⟩
 · obtain ⟨o',e1⟩:=I.base.there b o e hx
   exact free b o' (neC b o e hx) e1 (I.base.free b o e n hx)
 · obtain ⟨o',e1⟩:=I.base.there b o e hx
   exact there b o' (neC b o e hx) e1
 · obtain ⟨m1,e1⟩:=I.base.tbls b ps e
   obtain ⟨m2,e2⟩:=tbls b _ e1
   exact ⟨m1++m2,by rw [e2,Array.append_assoc]⟩
 · obtain ⟨m,hn,hl⟩:=I.loc
   refine ⟨m,ns m hn,fun i x v e1 e2 e3=> ?_⟩
   obtain ⟨u,r,l⟩:=hl i x v e1 e2 e3
   refine ⟨u,r,?_⟩
   rcases l with l|⟨k,c,e,z⟩
   · exact .inl l
   · exact .inr ⟨k,c,e,cellK x c e _ z⟩
 · obtain ⟨v,z⟩:=I.cell x c e
   exact ⟨v,cellK x c e v z⟩
 · obtain ⟨m,⟨o,_,_,ho,_⟩,_⟩:=I.loc
   exact free _ o (fun z=>(hch _ z).2.1 rfl) ho I.free
 · obtain ⟨v,o,ho,hd⟩:=I.cell x c e
   exact free c o (fun z=>(hch c z).2.2.1 x c e rfl) ho (I.freeC x c e)
 · obtain ⟨e,n,ne,nf,d⟩:=I.pin p hp
   have nch:p.1∉ch:=fun z=>(hch p.1 z).2.2.2 p hp rfl
   exact ⟨keep p.1 p.2 ne nf nch e (.inl n),free p.1 p.2 nch e n,ne,nf,d⟩
theorem Inv.un {t':Nat} (I:Inv X pins σ H s) (u:Un X.fs [] H H' s.heap h') (hok:HOk X.prog X.w H' h'):Inv X pins σ H' {s with heap:=h',toks:=t'}:=by
 obtain ⟨m,⟨o,es,ep,ho,r⟩,_⟩:=id I.loc
 obtain ⟨sl,hL⟩:=u.any ho I.free (by simp)
 exact I.step (g':=s.gens) (d':=s.drawn) (ch:= []) (fun _ z=>nomatch z) (fun b o _ hb _ e n=>u.keep b o e n hb (by simp)) (fun b o _ hb _ e n=>u.slot b o e n hb (by simp)) (fun b o _ e n=>u.free b o e n (by simp)) (fun b o _ e=>u.there b o e (by simp)) u.tups u.frzs u.tbls (fun m' hm=>by
  obtain ⟨o',es',ep',ho',r'⟩:=hm
  rw [ho] at ho';cases ho'
  exact ⟨_,es',ep',hL,r'⟩) hok I.bare
theorem Inv.call {g':Array GenState} {t':Nat} {d':Drawn} {ch:List Addr} (I:Inv X pins σ H s) (u:Un (frs X.stack) ch H H' s.heap h') (hok:HOk X.prog X.w H' h') (hg:AllBare g')
 (hch:∀b∈ch,(b∈X.ex∨X.s₀.heap.objs.size≤b)∧b≠X.env.locals∧(∀x c,X.env.cells.lookup x=some c→c≠b)∧∀p∈X.pn++pins,p.1≠b):
 Inv X pins σ H' {s with heap:=h',gens:=g',drawn:=d',toks:=t'}:=by
 obtain ⟨m,⟨o,es,ep,ho,r⟩,_⟩:=id I.loc
 obtain ⟨sl,hL⟩:=u.any ho I.free fun z=>(hch _ z).2.1 rfl
 exact I.step (ch:=ch) hch (fun b o hL hb hc e n=>u.keep b o e n (fun z=>(xi.mp (I.stkSub b z)).elim hL hb) hc) (fun b o _ _ hc e n=>u.any e n hc) (fun b o hc e n=>u.free b o e n hc) (fun b o hc e=>u.there b o e hc) u.tups u.frzs u.tbls (fun m' hm=>by
  obtain ⟨o',es',ep',ho',r'⟩:=hm
  rw [ho] at ho';cases ho'
  exact ⟨_,es',ep',hL,r'⟩) hok hg
theorem Inv.turned {t':Nat} {it:Addr} (I:Inv X pins σ H s) (k:∀b o,b≠it→s.heap.get? b=some o→h'.get? b=some o) (hn:H it=none) (hL:it≠X.env.locals)
 (h1:it∈X.ex∨X.s₀.heap.objs.size≤it) (h2:∀x c,X.env.cells.lookup x=some c→c≠it) (h3:∀p∈X.pn++pins,p.1≠it):Inv X pins σ H {s with heap:=h',toks:=t'}:=by
 have nit:∀b u,H b=some u→b≠it:=fun b u e z=>by rw [z,hn] at e;cases e
 refine I.step (g':=s.gens) (d':=s.drawn) (ch:= [it]) (fun b hb=> ?_) (fun b o _ _ hc e _=>k b o (fun z=>hc (by simp [z])) e) (fun b o _ _ hc e _=>⟨o.slots,k b o (fun z=>hc (by simp [z])) e⟩) (fun _ _ _ _ n=>n)
  (fun b o hc e=>⟨o,k b o (fun z=>hc (by simp [z])) e⟩) (fun _ _ e=>e) (fun _ _ _ e=>e) (fun b ps e=>⟨#[],by rw [e];simp⟩) (fun m hm=> ?_) (fun b u e=> ?_) I.bare
 · have e:b=it:=by simpa using hb
   subst e
   exact ⟨h1,hL,h2,h3⟩
 · obtain ⟨o,es,ep,ho,r⟩:=hm
   exact ⟨o,es,ep,k _ o (Ne.symm hL) ho,r⟩
 · refine (I.hok b u e).stay (fun c v hc q=>k c v ?_ q) (fun _ q=>q) fun _ _ q=>q
   rcases hc with z|z
   · rw [z];exact nit b u e
   · exact nit c _ z
theorem Inv.tok (I:Inv X pins σ H s) (t:Nat):Inv X pins σ H {s with toks:=t}:=I.un (h':=s.heap) (t':=t) Un.refl I.hok
theorem Inv.kept {t':Nat} (I:Inv X pins σ H s) (k:∀b u,s.heap.get? b=some u→h'.get? b=some u):Inv X pins σ H {s with heap:=h',toks:=t'}:=I.un (Un.kept k) (I.hok.kept k)
theorem Inv.laid {a:Addr} {o:HO} {t':Nat} (I:Inv X pins σ H s) (k:∀b u,s.heap.get? b=some u→h'.get? b=some u) (hp:s.heap.objs.size≤a) (new:ObjOk X.prog X.w (upd H a o) h' a o):
 Inv X pins σ (upd H a o) {s with heap:=h',toks:=t'}:=I.un (Un.laid k hp (I.hok.fresh hp)) (I.hok.laid k hp new)
theorem Inv.write {x e:Addr} {o:HO} {t':Nat} (I:Inv X pins σ H s) (mu:Mut (H x)) (he:e=x∨H e=some (.own x)) (k:∀b u,b≠e→s.heap.get? b=some u→h'.get? b=some u) (heo:∃u,h'.get? e=some u)
 (new:ObjOk X.prog X.w (upd H x o) h' x o):Inv X pins σ (upd H x o) {s with heap:=h',toks:=t'}:=I.un (Un.write mu he k heo) (I.hok.write mu he k heo new)
theorem Inv.weak {σ':List (Option V)} (I:Inv X pins σ H s) (hl:σ'.length=σ.length) (w:∀(i:Nat) v,σ'[i]?=some (some v)→σ[i]?=some (some v)):Inv X pins σ' H s:=
 ⟨I.ok,I.os,I.bare,I.base,let ⟨m,hn,hl'⟩:=I.loc;⟨m,hn,fun i x v e1 e2 e3=>hl' i x v e1 (w i v e2) e3⟩,I.cell,I.free,I.freeC,I.pin,I.hok,hl.trans I.len⟩
theorem Inv.pins_of {pins':List (Addr×Obj)} (I:Inv X pins σ H s) (h:∀p∈pins',s.heap.get? p.1=some p.2∧H p.1=none∧p.1≠X.env.locals∧p.1∉X.fs∧∀v,p.2.data≠ .cell v):Inv X pins' σ H s:=
 ⟨I.ok,I.os,I.bare,I.base,I.loc,I.cell,I.free,I.freeC,fun p hp=>(xj.mp hp).elim (fun z=>I.pin p (List.mem_append_left _ z)) (h p),I.hok,I.len⟩
theorem jI {N:List Str} (hN:N.Nodup) {i j:Nat} {x:Str} (a:N[i]?=some x) (b:N[j]?=some x):i=j:=by
 obtain ⟨h1,e1⟩:=xo.mp a
 obtain ⟨h2,e2⟩:=xo.mp b
 exact (List.getElem_inj hN).mp (e1.trans e2.symm)
theorem nJ {M:Model} {A:Around} {E:Value→Shared→Prop} {i:Nat} {x:Str} {v:V} {u:Value} {Q:Unit→Shared→Prop} (I:Inv X pins σ H s) (hN:X.N.Nodup) (hi:X.N[i]?=some x) (hx:Loc X.env.scope x) (r:RelV v u)
 (h:∀s',Inv X pins (σ.set i (some v)) H s'→(∃a,Heap.SameBut a s.heap s'.heap∧(a=X.env.locals∨X.env.cells.lookup x=some a))→Q () s') (hf:X.fn x=true∨X.env.scope.names.lookup x=some .local:=by first|exact .inl rfl|exact .inr rfl|assumption):wpAny M A (storeName X.env x u) Q E s:=by
 obtain ⟨m,hn,hl⟩:=id I.loc
 have hcls:(X.env.scope.kind== .class ||(X.env.scope.kind== .module&&X.env.locals !=X.env.globals))=false:=by rw [I.ok.kind];rfl
 have hiσ:i < σ.length:=by rw [I.len];exact (xo.mp hi).1
 have cne:=I.cne
 have tracked:∀ {a:Addr} {h':Heap},(∃o,s.heap.get? a=some o∧H a=none)→Heap.SameBut a s.heap h'→HOk X.prog X.w H h':=fun {a h'} ha hs b ob e=>by
  obtain ⟨_,_,hfree⟩:=ha
  refine (I.hok b ob e).stay (fun c w' hc q=>(hs.2 c ?_).trans q) (fun _ q=>q) fun _ _ q=>q
  rintro rfl
  rcases hc with rfl|hc
  · rw [hfree] at e;cases e
  · rw [hfree] at hc;cases hc
 rcases hx with hk|hk
 · refine wpAny_storeName_local hk hn (fun h' hn' hs=> ?_) hcls
   obtain ⟨oL,_,_,hoL,_⟩:=id hn
   refine h _ ⟨I.ok,I.os,I.bare,⟨fun b o e n hb hx=> ?_,fun b o e n hb hx=> ?_,I.base.free,fun b o e hx=> ?_,I.base.tups,I.base.frzs,I.base.tbls⟩,⟨_,hn',fun j y v' e1 e2 e3=> ?_⟩,fun y c e=> ?_,I.free,I.freeC,fun p hp=> ?_,tracked ⟨oL,hoL,I.free⟩ hs,by simpa using I.len⟩ ⟨_,hs, .inl rfl⟩
   · exact (hs.2 b (xu (xC (Heap.lt_size e) I.ok.above))).trans (I.base.keep b o e n hb hx)
   · obtain ⟨sl,e1⟩:=I.base.slot b o e n hb hx
     exact ⟨sl,(hs.2 b (xu (xC (Heap.lt_size e) I.ok.above))).trans e1⟩
   · obtain ⟨o',e1⟩:=I.base.there b o e hx
     exact ⟨o',(hs.2 b (xu (xC (Heap.lt_size e) I.ok.above))).trans e1⟩
   · by_cases hj:j=i
     · subst hj
       rw [hi] at e1;cases e1
       rw [List.getElem?_set_self hiσ] at e2
       cases e2
       exact ⟨u,r, .inl ⟨hk,by simp⟩⟩
     · rw [List.getElem?_set_ne (Ne.symm hj)] at e2
       obtain ⟨u',r',q⟩:=hl j y v' e1 e2 e3
       refine ⟨u',r',?_⟩
       rcases q with ⟨k,e⟩|⟨k,c,e,z⟩
       · refine .inl ⟨k,?_⟩
         have:y≠x:=fun e=>hj (jI hN e1 (e▸hi))
         simp [this,e]
       · exact .inr ⟨k,c,e,z.sameBut hs (cne y c e)⟩
   · obtain ⟨w',z⟩:=I.cell y c e
     exact ⟨w',z.sameBut hs (cne y c e)⟩
   · obtain ⟨e,n,ne,nf,d⟩:=I.pin p hp
     exact ⟨(hs.2 p.1 ne).trans e,n,ne,nf,d⟩
 · have hfn:X.fn x=true:=by
    rcases hf with z|z
    · exact z
    · rw [z] at hk;cases hk
   obtain ⟨c,hc⟩:=I.ok.has x (.inl hk)
   obtain ⟨w',z⟩:=I.cell x c hc
   refine wpAny_storeName_cell I.ok.kind hk hc z (fun h' hc' hs=> ?_)
   obtain ⟨oc,hoc,hocd⟩:=id z
   refine h {s with heap:=h'} ⟨I.ok,I.os,I.bare,⟨fun b o e n hb hx=> ?_,fun b o e n hb hx=> ?_,I.base.free,fun b o e hx=> ?_,I.base.tups,I.base.frzs,I.base.tbls⟩,⟨m,hn.sameBut hs (Ne.symm (cne x c hc)),fun j y v' e1 e2 e3=> ?_⟩,fun y c' e=> ?_,I.free,I.freeC,fun p hp=> ?_,tracked ⟨oc,hoc,I.freeC x c hc⟩ hs,by simpa using I.len⟩ ⟨c,hs, .inr hc⟩
   · exact (hs.2 b (xu (xC (Heap.lt_size e) (I.ok.cab x c hfn hc)))).trans (I.base.keep b o e n hb hx)
   · obtain ⟨sl,e1⟩:=I.base.slot b o e n hb hx
     exact ⟨sl,(hs.2 b (xu (xC (Heap.lt_size e) (I.ok.cab x c hfn hc)))).trans e1⟩
   · obtain ⟨o',e1⟩:=I.base.there b o e hx
     exact ⟨o',(hs.2 b (xu (xC (Heap.lt_size e) (I.ok.cab x c hfn hc)))).trans e1⟩
   · by_cases hj:j=i
     · subst hj
       rw [hi] at e1;cases e1
       rw [List.getElem?_set_self hiσ] at e2
       cases e2
       exact ⟨u,r, .inr ⟨.inl hk,c,hc,hc'⟩⟩
     · rw [List.getElem?_set_ne (Ne.symm hj)] at e2
       obtain ⟨u',r',q⟩:=hl j y v' e1 e2 e3
       refine ⟨u',r',?_⟩
       rcases q with q|⟨k,c',e,z'⟩
       · exact .inl q
       · refine .inr ⟨k,c',e,z'.sameBut hs ?_⟩
         rintro rfl
         exact hj (jI hN e1 (I.ok.inj _ _ _ e hc▸hi))
   · by_cases hcc:c'=c
     · subst hcc;exact ⟨_,hc'⟩
     · obtain ⟨w2,z2⟩:=I.cell y c' e
       exact ⟨w2,z2.sameBut hs hcc⟩
   · obtain ⟨e,n,ne,nf,d⟩:=I.pin p hp
     refine ⟨(hs.2 p.1 ?_).trans e,n,ne,nf,d⟩
     intro q
     rw [q,hoc] at e
     have q':oc=p.2:=xE e
     exact d w' (by rw [←q'];exact hocd)
theorem jA {M:Model} {A:Around} {E:Value→Shared→Prop} {i:Nat} {x:Str} {v:V} {u:Value} {Q:Unit→Shared→Prop} (I:Inv X pins σ H s) (hN:X.N.Nodup) (hi:X.N[i]?=some x) (hx:Loc X.env.scope x) (r:RelV v u)
 (h:∀s',Inv X pins (σ.set i (some v)) H s'→Q () s') (hf:X.fn x=true∨X.env.scope.names.lookup x=some .local:=by first|exact .inl rfl|exact .inr rfl|assumption):wpAny M A (storeName X.env x u) Q E s:=
 nJ I hN hi hx r (fun s' I' _=>h s' I') hf
theorem Inv.call' {s':Shared} {ch:List Addr} (I:Inv X pins σ H s) (ho:s'.os=s.os) (u:Un (frs X.stack) ch H H' s.heap s'.heap) (hok:HOk X.prog X.w H' s'.heap) (hg:AllBare s'.gens)
 (hch:∀b∈ch,(b∈X.ex∨X.s₀.heap.objs.size≤b)∧b≠X.env.locals∧(∀x c,X.env.cells.lookup x=some c→c≠b)∧∀p∈X.pn++pins,p.1≠b):Inv X pins σ H' s':=by
 obtain ⟨h',g',d',t',o'⟩:=s'
 have e:o'=s.os:=ho
 subst e
 exact I.call (g':=g') (t':=t') (d':=d') u hok hg hch
end
abbrev XK:=Value→Option Addr→Hp→Prop
abbrev St:=List (Option V)
abbrev VK:=V→Hp→Prop
abbrev TE:=St→Hp→VK→Prop
abbrev TT:=St→Hp→(Bool→Hp→Prop)→Prop
abbrev TA:=St→Hp→(List V→Hp→Prop)→Prop
structure Ends where
 nx:St→Hp→Prop
 rt:VK
 bk:St→Hp→Prop:=fun _ _=>False
 ct:St→Hp→Prop:=fun _ _=>False
abbrev TS:=Ends→St→Hp→Prop
def EP (X:Cx) (pins:List (Addr×Obj)) (σ:St) (Q:VK) (u:Value) (s':Shared):Prop:=∃v H',Inv X pins σ H' s'∧RelV v u∧Q v H'
def TP (X:Cx) (pins:List (Addr×Obj)) (σ:St) (Q:Bool→Hp→Prop) (b:Bool) (s':Shared):Prop:=∃H',Inv X pins σ H' s'∧Q b H'
def AP (X:Cx) (pins:List (Addr×Obj)) (σ:St) (Q:List V→Hp→Prop) (us:List Value) (s':Shared):Prop:=∃vs H',Inv X pins σ H' s'∧Vals vs us∧Q vs H'
def SP (X:Cx) (pins:List (Addr×Obj)) (D:Ends) (f:Flow) (s':Shared):Prop:=
 match f with
 | .next=>∃σ' H',Inv X pins σ' H' s'∧D.nx σ' H'
 | .brk=>∃σ' H',Inv X pins σ' H' s'∧D.bk σ' H'
 | .cont=>∃σ' H',Inv X pins σ' H' s'∧D.ct σ' H'
 | .ret u=>∃v σ' H',Inv X pins σ' H' s'∧RelV v u∧D.rt v H'
def PE (X:Cx) (e:Expr) (t:TE):Prop:=
 ∀(pins:List (Addr×Obj)) (s:Shared) (σ:St) (H:Hp) (Q:VK),Inv X pins σ H s→t σ H Q→wpAny (model X.prog X.w) X.A (eval e X.env) (EP X pins σ Q) X.xe s
def PT (X:Cx) (e:Expr) (t:TT):Prop:=
 ∀(pins:List (Addr×Obj)) (s:Shared) (σ:St) (H:Hp) (Q:Bool→Hp→Prop),Inv X pins σ H s→t σ H Q→wpAny (model X.prog X.w) X.A (isTrue e X.env (eval e X.env)) (TP X pins σ Q) X.xe s
def PW (X:Cx) (e:Expr) (t:TT):Prop:=
 ∀(whole:Sem Value) (pins:List (Addr×Obj)) (s:Shared) (σ:St) (H:Hp) (Q:Bool→Hp→Prop),Inv X pins σ H s→t σ H Q→wpAny (model X.prog X.w) X.A (isTrue e X.env whole) (TP X pins σ Q) X.xe s
theorem PW.pt {X:Cx} {e:Expr} {t:TT} (h:PW X e t):PT X e t:=h _
def PA (X:Cx) (es:List Expr) (t:TA):Prop:=
 ∀(pos:Pos) (pins:List (Addr×Obj)) (s:Shared) (σ:St) (H:Hp) (Q:List V→Hp→Prop),Inv X pins σ H s→t σ H Q→wpAny (model X.prog X.w) X.A (spliced (backTo pos (starEach es X.env))) (AP X pins σ Q) X.xe s
def PS (X:Cx) (st:Stmt) (t:TS):Prop:=
 ∀(pins:List (Addr×Obj)) (s:Shared) (σ:St) (H:Hp) (D:Ends),Inv X pins σ H s→t D σ H→wpAny (model X.prog X.w) X.A (exec st X.env) (SP X pins D) X.xe s
def PSs (X:Cx) (st:List Stmt) (t:TS):Prop:=
 ∀(pins:List (Addr×Obj)) (s:Shared) (σ:St) (H:Hp) (D:Ends),Inv X pins σ H s→t D σ H→wpAny (model X.prog X.w) X.A (execs st X.env) (SP X pins D) X.xe s
theorem thn {α:Type} {t:Sem α} {Q Q':α→Shared→Prop} {M:Model} {A:Around} {E:Value→Shared→Prop} {s:Shared} (h:wpAny M A t Q E s) (hQ:∀a s,Q a s→Q' a s):wpAny M A t Q' E s:=wpAny_mono h hQ fun _ _ x=>x
open PySem PySem.Spec PyProof.Rows
section
variable {X:Cx}
def tVar (i:Nat):TE:=fun σ H Q=>∃v,σ[i]?=some (some v)∧Q v H
def tC (v:V):TE:=fun _ H Q=>Q v H
theorem uH {i:Nat} {x:Str} {pos:Pos} (hN:X.N[i]?=some x) (hv:Vis X.env.scope x) (hd:(x==("__debug__":Str))=false:=by decide) (hcd:(x==("__classdict__":Str))=false:=by decide):PE X (.Name x pos) (tVar i):=by
 intro pins s σ H Q I h
 obtain ⟨v,e,h⟩:=h
 obtain ⟨m,hn,hl⟩:=I.loc
 obtain ⟨u,r,l⟩:=hl i x v hN e hv
 have fin:EP X pins σ Q u s:=⟨v,H,I,r,h⟩
 rcases l with ⟨hk,hm⟩|⟨hk,c,hc,hcell⟩
 · exact wpAny_Name (wpAny_loadName_local I.ok.kind hk hn hm fin) hd
 · rcases hk with hk|hk
   · exact wpAny_Name (wpAny_loadName_cell I.ok.kind hk hc hcell fin) hd
   · exact wpAny_Name (wpAny_loadName_free I.ok.kind hk hc hcell fin hcd) hd
theorem ae {i j pos}:PE X (.Constant (.int i) j pos) (tC (.int i)):=fun _ _ _ H _ I h=>wpAny_Constant_int ⟨.int i,H,I.tok _,⟨_,rfl⟩,h⟩
theorem mf {b j pos}:PE X (.Constant (.bool b) j pos) (tC (.bl b)):=fun _ _ _ H _ I h=>Constant_bool ⟨.bl b,H,I,rfl,h⟩
theorem uJ {j pos}:PE X (.Constant .none j pos) (tC .non):=fun _ _ _ H _ I h=>Constant_none ⟨.non,H,I,rfl,h⟩
theorem aC {x j pos}:PE X (.Constant (.str x) j pos) (tC (.str x)):=fun _ _ _ H _ I h=>Calls.Constant_str ⟨.str x,H,I.tok _,⟨_,rfl⟩,h⟩
def Gl (X:Cx) (x:Str):Prop:=X.env.kindOf x=some .globalImplicit
theorem mH {E:Value→Shared→Prop} {pins:List (Addr×Obj)} {s:Shared} {σ:St} {H:Hp} {x:Str} {u:Value} {pos:Pos} {Q:Value→Shared→Prop} (I:Inv X pins σ H s) (hg:Gl X x) (hm:X.mg x=some u) (h:Q u s)
 (hd:(x==("__debug__":Str))=false:=by decide):wpAny (model X.prog X.w) X.A (eval (.Name x pos) X.env) Q E s:=
 Calls.Name_function_global I.ok.kind hg (Calls.loadGlobal_global (by rw [I.ok.glob];exact I.mod.glob.keeps I.bk) hm h) hd
theorem gQ {E:Value→Shared→Prop} {pins:List (Addr×Obj)} {s:Shared} {σ:St} {H:Hp} {x:Str} {u:Value} {pos:Pos} {Q:Value→Shared→Prop} (I:Inv X pins σ H s) (hg:Gl X x) (hm:X.mg x=none) (hv:bootBuiltins x=some u) (h:Q u s)
 (hn:x≠"__name__":=by decide) (hd:(x==("__debug__":Str))=false:=by decide):wpAny (model X.prog X.w) X.A (eval (.Name x pos) X.env) Q E s:=by
 obtain ⟨mb,h1,h2⟩:=I.mod.blt
 exact Calls.Name_function_global I.ok.kind hg (Calls.loadGlobal_builtin (by rw [I.ok.glob];exact I.mod.glob.keeps I.bk) hm (by rw [I.ok.blt];exact h1.keeps I.bk) ((h2 x hn).trans hv) h) hd
theorem dc {x:Str} {v:V} {u:Value} {pos:Pos} (hg:Gl X x) (hm:X.mg x=some u) (r:RelV v u) (hd:(x==("__debug__":Str))=false:=by decide):PE X (.Name x pos) (tC v):=
 fun _ _ _ H _ I h=>mH I hg hm ⟨v,H,I,r,h⟩ hd
theorem bQ {x:Str} {v:V} {u:Value} {pos:Pos} (hg:Gl X x) (hm:X.mg x=none) (hv:bootBuiltins x=some u) (r:RelV v u) (hn:x≠"__name__":=by decide) (hd:(x==("__debug__":Str))=false:=by decide):PE X (.Name x pos) (tC v):=
 fun _ _ _ H _ I h=>gQ I hg hm hv ⟨v,H,I,r,h⟩ hn hd
variable {a b:Expr} {ta tb:TE} {pos:Pos}
def PC (X:Cx) (op:CmpOp) (a b:Expr) (t:TE):Prop:=
 ∀(pins:List (Addr×Obj)) (s:Shared) (σ:St) (H:Hp) (Q:VK),Inv X pins σ H s→t σ H Q→
  wpAny (model X.prog X.w) X.A (eval a X.env) (fun v s₁=>wpAny (model X.prog X.w) X.A (eval b X.env) (fun u s₂=>wpAny (model X.prog X.w) X.A (compareOp op v u) (EP X pins σ Q) X.xe s₂) X.xe s₁) X.xe s
theorem qj (b:Expr) {op:CmpOp} (h:op≠ .In) (h2:op≠ .NotIn):behindInMarks op b=false:=by
 have e1:(op==CmpOp.In)=false:=by cases op<;>first|rfl|exact absurd rfl h
 have e2:(op==CmpOp.NotIn)=false:=by cases op<;>first|rfl|exact absurd rfl h2
 cases b<;>simp [behindInMarks,e1,e2]
def tB (t:TE):TT:=fun σ H Q=>t σ H fun x H1=>∃c,x= .bl c∧Q c H1
theorem pJ {op:CmpOp} {t:TE} (h:PC X op a b t) (h1:behindInMarks op b=false:=by first|exact qj _ (by decide) (by decide)|rfl):PT X (.Compare a [op] [b] pos) (tB t):=by
 intro pins s σ H Q I hw
 refine wpAny_isTrue_Compare1 (thn (h pins s σ H _ I hw) fun v s1 h1=>thn h1 fun u s2 h2=>thn h2 fun c s3 ⟨x,H1,I1,r1,q1⟩=> ?_) h1
 obtain ⟨d,rfl,q⟩:=q1
 cases r1
 exact wpAny_truthy_bool ⟨H1,I1,q⟩
theorem eU {e:Expr} {t:TE} (h:PE X e t) (he:∀whole,isTrue e X.env whole=(do let v←whole;standAt e.pos;holding [v] (truthy v)):=by intro _;rfl):PT X e (tB t):=by
 intro pins s σ H Q I hw
 refine isTrue_plain (thn (h pins s σ H _ I hw) fun v s1 ⟨x,H1,I1,r1,q1⟩=> ?_) (he _)
 obtain ⟨d,rfl,q⟩:=q1
 cases r1
 exact wpAny_truthy_bool ⟨H1,I1,q⟩
variable {tA tB':TT} {rest:List Expr}
def tAnd (t u:TT):TT:=fun σ H Q=>t σ H fun c H1=>if c=true then u σ H1 Q else Q false H1
def tOr (t u:TT):TT:=fun σ H Q=>t σ H fun c H1=>if c=true then Q true H1 else u σ H1 Q
def tNot (t:TT):TT:=fun σ H Q=>t σ H fun c H1=>Q (!c) H1
theorem sw (ha:PT X a tA):PW X (.BoolOp .And [a] pos) tA:=by
 intro wh pins s σ H Q I h
 refine isTrue_and (thn (ha pins s σ H Q I h) fun c s1 e=> ?_)
 cases c with
 |true=>exact isTrue_and_nil e
 |false=>exact e
theorem cW (ha:PT X a tA):PW X (.BoolOp .Or [a] pos) tA:=by
 intro wh pins s σ H Q I h
 refine isTrue_or (thn (ha pins s σ H Q I h) fun c s1 e=> ?_)
 cases c with
 |false=>exact isTrue_or_nil e
 |true=>exact e
theorem uF (ha:PT X a tA) (hb:PW X (.BoolOp .And (b::rest) pos) tB'):PW X (.BoolOp .And (a::b::rest) pos) (tAnd tA tB'):=by
 intro wh pins s σ H Q I h
 refine isTrue_and (thn (ha pins s σ H _ I h) fun c s1 ⟨H1,I1,q1⟩=> ?_)
 cases c with
 |true=>exact hb wh pins s1 σ H1 Q I1 q1
 |false=>exact ⟨H1,I1,q1⟩
theorem ff (ha:PT X a tA) (hb:PW X (.BoolOp .Or (b::rest) pos) tB'):PW X (.BoolOp .Or (a::b::rest) pos) (tOr tA tB'):=by
 intro wh pins s σ H Q I h
 refine isTrue_or (thn (ha pins s σ H _ I h) fun c s1 ⟨H1,I1,q1⟩=> ?_)
 cases c with
 |true=>exact ⟨H1,I1,q1⟩
 |false=>exact hb wh pins s1 σ H1 Q I1 q1
theorem kZ (ha:PT X a tA):PT X (.UnaryOp .Not a pos) (tNot tA):=by
 intro pins s σ H Q I h
 exact isTrue_not (ha pins s σ H (fun c H1=>Q (!c) H1) I h)
def wd (ta tb:TE):TE:=fun σ H Q=>ta σ H fun x H1=>∃c,x= .bl c∧if c=true then tb σ H1 Q else Q (.bl false) H1
def wa (ta:TE):TE:=fun σ H Q=>ta σ H fun x H1=>∃c,x= .bl c∧Q (.bl (!c)) H1
theorem l7 {op} {t:TE} (h:PE X a t):PE X (.BoolOp op [a] pos) t:=fun pins s σ H Q I hw=>BoolOp_one (h pins s σ H Q I hw)
theorem j5 (ha:PE X a ta) (hb:PE X (.BoolOp .And (b::rest) pos) tb):PE X (.BoolOp .And (a::b::rest) pos) (wd ta tb):=by
 intro pins s σ H Q I h
 refine BoolOp_and (thn (ha pins s σ H _ I h) fun v s1 ⟨x,H1,I1,r1,q1⟩=> ?_)
 obtain ⟨c,rfl,q1⟩:=q1
 cases r1
 refine wpAny_truthy_bool ?_
 cases c with
 |true=>exact hb pins s1 σ H1 Q I1 q1
 |false=>exact ⟨.bl false,H1,I1,rfl,q1⟩
theorem uI (ha:PE X a ta):PE X (.UnaryOp .Not a pos) (wa ta):=by
 intro pins s σ H Q I h
 refine UnaryOp_ (thn (ha pins s σ H _ I h) fun v s1 ⟨x,H1,I1,r1,q1⟩=> ?_)
 obtain ⟨c,rfl,q1⟩:=q1
 cases r1
 exact not_of (wpAny_truthy_bool ⟨.bl (!c),H1,I1,rfl,q1⟩)
def tIf (t:TT) (ta tb:TE):TE:=fun σ H Q=>t σ H fun c H1=>if c=true then ta σ H1 Q else tb σ H1 Q
theorem gG {c:Expr} (hc:PT X c tA) (ha:PE X a ta) (hb:PE X b tb):PE X (.IfExp c a b pos) (tIf tA ta tb):=by
 intro pins s σ H Q I h
 refine wpAny_IfExp (thn (hc pins s σ H _ I h) fun d s1 ⟨H1,I1,q1⟩=> ?_)
 cases d with
 |true=>exact ha pins s1 σ H1 Q I1 q1
 |false=>exact hb pins s1 σ H1 Q I1 q1
end
open PySem PySem.Spec PyProof.Rows
def SqL (K:PySem.W.Frag) (H:Hp) (a:Addr) (xs:List V):Prop:=
 Rd H a (.lst xs)∨
  ∃(o:Obj) (its:Array Value) (n:Nat),K.lookup a=some o∧o.cls= .type "list"∧o.dict=none∧o.data= .seq its n∧its.size≤sizeLine∧Vals xs its.toList
def SqT (K:PySem.W.Frag) (H:Hp) (a:Addr) (xs:List V):Prop:=
 Rd H a (.tup xs)∨
  ∃(o:Obj) (its:Array Value) (n:Nat),K.lookup a=some o∧o.cls= .type "tuple"∧o.data= .seq its n∧its.size≤sizeLine∧Vals xs its.toList
noncomputable def absV:Value→Option V
 | .none=>some .non
 | .bool b=>some (.bl b)
 | .int i _=>some (.int i)
 | .str x _=>some (.str x)
 | .bytes b _=>some (.byt b)
 | .float b _=>some (.flt b)
 | .ref a=>some (.ref a)
 | .type n=>some (.ty n)
 |_=>none
theorem RelV.abs {x:V} {u:Value} (r:RelV x u):absV u=some x:=by
 cases x with
 |non=>cases r;rfl
 |bl _=>cases r;rfl
 |int _=>obtain ⟨t,rfl⟩:=r;rfl
 |str _=>obtain ⟨t,rfl⟩:=r;rfl
 |byt _=>obtain ⟨t,rfl⟩:=r;rfl
 |flt _=>obtain ⟨t,rfl⟩:=r;rfl
 |ref _=>cases r;rfl
 |ty _=>cases r;rfl
theorem RelV.inj {x y:V} {u:Value} (r:RelV x u) (q:RelV y u):x=y:=xE (r.abs.symm.trans q.abs)
theorem Vals.inj:∀ {xs ys:List V} {us:List Value},Vals xs us→Vals ys us→xs=ys
 |_,_,_, .nil, .nil=>rfl
 |_,_,_, .cons r t, .cons r' t'=>by rw [r.inj r',Vals.inj t t']
section
variable {X:Cx} {pins:List (Addr×Obj)} {σ:St} {H:Hp} {s:Shared} {a:Addr} {xs ys:List V}
theorem SqL.of {K:PySem.W.Frag} (h:H a=some (.lst xs)):SqL K H a xs:= .inl (.inl h)
theorem SqT.of {K:PySem.W.Frag} (h:H a=some (.tup xs)):SqT K H a xs:= .inl (.inl h)
theorem Inv.list (I:Inv X pins σ H s) (h:SqL X.K H a xs):∃its:List Value,Vals xs its∧PlainL s.heap a its.toArray∧xs.length≤sizeLine:=by
 rcases h with h|⟨o,its,n,hk,hc,hd,hs,hz,r⟩
 · obtain ⟨z,its,n,r,e⟩:=h.ok I.hok
   exact ⟨its,r,⟨_,n,e,rfl,rfl,rfl⟩,z⟩
 · refine ⟨its.toList,r,⟨o,n,I.kIn a o hk,hc,hd,by simpa using hs⟩,?_⟩
   have e:=r.length
   simp only [xb] at e
   omega
theorem Inv.tuple (I:Inv X pins σ H s) (h:SqT X.K H a xs):∃its:List Value,Vals xs its∧IsTup s.heap a its.toArray∧xs.length≤sizeLine:=by
 rcases h with h|⟨o,its,n,hk,hc,hs,hz,r⟩
 · obtain ⟨z,its,r,p⟩:=h.ok I.hok
   exact ⟨its,r,p,z⟩
 · refine ⟨its.toList,r,⟨o,I.kIn a o hk,hc,n,by simpa using hs⟩,?_⟩
   have e:=r.length
   simp only [xb] at e
   omega
theorem Inv.list_inj (I:Inv X pins σ H s) (h:SqL X.K H a xs) (h':SqL X.K H a ys):xs=ys:=by
 obtain ⟨its,r,⟨o,n,e,_,_,d⟩,_⟩:=I.list h
 obtain ⟨its',r',⟨o',n',e',_,_,d'⟩,_⟩:=I.list h'
 rw [e] at e';cases e'
 rw [d] at d'
 injection d' with d1 _
 have:its=its':=by simpa using congrArg Array.toList d1
 subst this
 exact r.inj r'
theorem Inv.tuple_inj (I:Inv X pins σ H s) (h:SqT X.K H a xs) (h':SqT X.K H a ys):xs=ys:=by
 obtain ⟨its,r,⟨o,e,_,n,d⟩,_⟩:=I.tuple h
 obtain ⟨its',r',⟨o',e',_,n',d'⟩,_⟩:=I.tuple h'
 rw [e] at e';cases e'
 rw [d] at d'
 injection d' with d1 _
 have:its=its':=by simpa using congrArg Array.toList d1
 subst this
 exact r.inj r'
end
abbrev Cx.wish (X:Cx) (E:Value→Shared→Prop):Cx:= {X with xe:=E}
abbrev Cx.nox (X:Cx):Cx:=X.wish fun _ _=>False
theorem Cx.Ok.wish {X:Cx} (ok:X.Ok) (E:Value→Shared→Prop):(X.wish E).Ok:=
 ⟨ok.mod,ok.kind,ok.glob,ok.blt,ok.above,ok.inj,ok.has,ok.cab,ok.hd,ok.frames,ok.stk,ok.exf,ok.bs,ok.bsz,ok.noex,ok.exfs,ok.funs,ok.frf⟩
theorem Cx.Ok.unwish {X:Cx} {E:Value→Shared→Prop} (ok:(X.wish E).Ok):X.Ok:=
 ⟨ok.mod,ok.kind,ok.glob,ok.blt,ok.above,ok.inj,ok.has,ok.cab,ok.hd,ok.frames,ok.stk,ok.exf,ok.bs,ok.bsz,ok.noex,ok.exfs,ok.funs,ok.frf⟩
section
variable {X:Cx} {pins:List (Addr×Obj)} {σ:St} {H:Hp} {s:Shared} {E:Value→Shared→Prop}
theorem Inv.wish (I:Inv X pins σ H s) (E:Value→Shared→Prop):Inv (X.wish E) pins σ H s:=⟨I.ok.wish E,I.os,I.bare,I.base,I.loc,I.cell,I.free,I.freeC,I.pin,I.hok,I.len⟩
theorem Inv.unwish (I:Inv (X.wish E) pins σ H s):Inv X pins σ H s:=⟨I.ok.unwish,I.os,I.bare,I.base,I.loc,I.cell,I.free,I.freeC,I.pin,I.hok,I.len⟩
theorem SP.unwish {D:Ends} {f:Flow} {s':Shared} (h:SP (X.wish E) pins D f s'):SP X pins D f s':=by
 cases f with
 |next=>obtain ⟨σ',H',I,q⟩:=h;exact ⟨σ',H',I.unwish,q⟩
 |brk=>obtain ⟨σ',H',I,q⟩:=h;exact ⟨σ',H',I.unwish,q⟩
 |cont=>obtain ⟨σ',H',I,q⟩:=h;exact ⟨σ',H',I.unwish,q⟩
 |ret u=>obtain ⟨v,σ',H',I,r,q⟩:=h;exact ⟨v,σ',H',I.unwish,r,q⟩
theorem PSs.nox {st:List Stmt} {t:TS} (h:PSs X.nox st t):PSs X st t:=fun pins s σ H D I hw=>
 wpAny_mono (h pins s σ H D (I.wish _) hw) (fun _ _ q=>q.unwish) fun _ _ z=>False.elim z
end
section
variable {X:Cx} {st:Stmt} {rest:List Stmt} {t u:TS} {e:Expr} {te:TE} {pos:Pos}
def oK:TS:=fun D σ H=>D.nx σ H
def tSeq (t u:TS):TS:=fun D σ H=>t {D with nx:=u D} σ H
theorem az:PSs X [] oK:=fun _ _ σ H _ I h=>wpAny_execs_nil ⟨σ,H,I,h⟩
theorem ag (h1:PS X st t) (h2:PSs X rest u):PSs X (st::rest) (tSeq t u):=by
 intro pins s σ H D I h
 refine wpAny_execs_cons (thn (h1 pins s σ H {D with nx:=u D} I h) fun f s1 q=> ?_)
 cases f with
 |next=>
  obtain ⟨σ',H',I',q⟩:=q
  exact h2 pins s1 σ' H' D I' q
 |ret v=>exact q
 |brk=>exact q
 |cont=>exact q
theorem aj (h1:PS X st t):PSs X [st] t:=by
 intro pins s σ H D I h
 refine wpAny_execs_cons (thn (h1 pins s σ H D I h) fun f s1 q=> ?_)
 cases f with
 |next=>exact wpAny_execs_nil q
 |ret v=>exact q
 |brk=>exact q
 |cont=>exact q
theorem Inv.quiet {pins:List (Addr×Obj)} {σ:St} {H:Hp} {s:Shared} (I:Inv X pins σ H s):interactive X.env=false:=by simp [interactive,I.ok.kind]
def wc (te:TE):TS:=fun D σ H=>te σ H fun _ H1=>D.nx σ H1
theorem aZ (he:PE X e te) (hs:swapsWith e none pos.line X.env=pure false:=by rfl):PS X (.Expr e pos) (wc te):=by
 intro pins s σ H D I h
 exact wpAny_Expr_any (thn (he pins s σ H _ I h) fun v s1 ⟨x,H1,I1,r1,q1⟩=>⟨σ,H1,I1,q1⟩) I.quiet hs
def tRet (te:TE):TS:=fun D σ H=>te σ H D.rt
theorem ao (he:PE X e te):PS X (.Return (some e) pos) (tRet te):=by
 intro pins s σ H D I h
 exact wpAny_Return_some (thn (he pins s σ H _ I h) fun v s1 ⟨x,H1,I1,r1,q1⟩=>⟨x,σ,H1,I1,r1,q1⟩)
def tIfS (c:TT) (t u:TS):TS:=fun D σ H=>c σ H fun b H1=>if b=true then t D σ H1 else u D σ H1
theorem aP {c:Expr} {a b:List Stmt} {tc:TT} (hc:PT X c tc) (ha:PSs X a t) (hb:PSs X b u):PS X (.If c a b pos) (tIfS tc t u):=by
 intro pins s σ H D I h
 refine wpAny_If (thn (hc pins s σ H _ I h) fun d s1 ⟨H1,I1,q1⟩=> ?_)
 cases d with
 |true=>exact ha pins s1 σ H1 D I1 q1
 |false=>exact hb pins s1 σ H1 D I1 q1
def uy:TS:=fun _ _ _=>False
theorem nT {sts:List Stmt}:PSs X sts uy:=fun _ _ _ _ _ _ h=>h.elim
end
abbrev TG:=V→St→Hp→(St→Hp→Prop)→Prop
abbrev TGs:=List V→St→Hp→(St→Hp→Prop)→Prop
def PG (X:Cx) (target:Expr) (t:TG):Prop:=
 ∀(pins:List (Addr×Obj)) (s:Shared) (σ:St) (H:Hp) (v:V) (u:Value) (Q:St→Hp→Prop),Inv X pins σ H s→RelV v u→t v σ H Q→
  wpAny (model X.prog X.w) X.A (assign target X.env u) (fun _ s'=>∃σ' H',Inv X pins σ' H' s'∧Q σ' H') X.xe s
def PGs (X:Cx) (ts:List Expr) (t:TGs):Prop:=
 ∀(pins:List (Addr×Obj)) (s:Shared) (σ:St) (H:Hp) (vs:List V) (us:List Value) (Q:St→Hp→Prop),Inv X pins σ H s→Vals vs us→t vs σ H Q→
  wpAny (model X.prog X.w) X.A (assignInOrder ((assignEach ts X.env).map (·.2)) us) (fun _ s'=>∃σ' H',Inv X pins σ' H' s'∧Q σ' H') X.xe s
abbrev TSet:=V→V→V→Hp→(Hp→Prop)→Prop
def PSet (X:Cx) (t:TSet):Prop:=
 ∀(pins:List (Addr×Obj)) (s:Shared) (σ:St) (H:Hp) (o i v:V) (ov iv u:Value) (Q:Hp→Prop),Inv X pins σ H s→RelV o ov→RelV i iv→RelV v u→t o i v H Q→
  wpAny (model X.prog X.w) X.A (setItem ov iv u) (fun _ s'=>∃H',Inv X pins σ H' s'∧Q H') X.xe s
section
variable {X:Cx} {pos:Pos}
def cF (i:Nat):TG:=fun v σ H Q=>Q (σ.set i (some v)) H
theorem aA {i:Nat} {x:Str} (hN:X.N.Nodup) (hi:X.N[i]?=some x) (hx:Loc X.env.scope x) (hf:X.fn x=true∨X.env.scope.names.lookup x=some .local:=by first|exact .inl rfl|exact .inr rfl|assumption):PG X (.Name x pos) (cF i):=by
 intro pins s σ H v u Q I r h
 exact wpAny_assign_Name (jA I hN hi hx r (fun s' I'=>⟨_,H,I',h⟩) hf)
def gNil:TGs:=fun vs σ H Q=>vs= []∧Q σ H
def jX (t:TG) (u:TGs):TGs:=fun vs σ H Q=>∃v r,vs=v::r∧t v σ H fun σ' H'=>u r σ' H' Q
theorem dQ:PGs X [] gNil:=by
 intro pins s σ H vs us Q I r h
 obtain ⟨e,h⟩:=h
 subst e
 cases r
 exact assignInOrder_nil ⟨σ,H,I,h⟩
theorem bx {e:Expr} {es:List Expr} {t:TG} {u:TGs} (h1:PG X e t) (h2:PGs X es u)
 (hs:(assignEach (e::es) X.env).map (·.2)=assign e X.env::(assignEach es X.env).map (·.2):=by rfl):PGs X (e::es) (jX t u):=by
 intro pins s σ H vs us Q I r h
 obtain ⟨v,vr,e1,h⟩:=h
 subst e1
 cases r with
 |cons r rr=>
  rw [hs]
  refine assignInOrder_cons (thn (h1 pins s σ H _ _ _ I r h) fun _ s1 ⟨σ1,H1,I1,q1⟩=> ?_)
  exact h2 pins s1 σ1 H1 _ _ Q I1 rr q1
def gTup (K:PySem.W.Frag) (n:Nat) (t:TGs):TG:=fun v σ H Q=>∃a xs,v= .ref a∧SqT K H a xs∧xs.length=n∧t xs σ H Q
theorem gE {es:List Expr} {k:Nat} {t:TGs} {n:Nat} (hc:X.calm=true) (h:PGs X es t)
 (hn:(assignEach es X.env).length=n:=by rfl) (hst:(assignEach es X.env).findIdx? (·.1)=none:=by rfl):PG X (.Tuple es k pos) (gTup X.K n t):=by
 intro pins s σ H v u Q I r hw
 obtain ⟨a,xs,e1,hq,hl,hw⟩:=hw
 subst e1
 cases r
 obtain ⟨its,rv,ht,hz⟩:=I.tuple hq
 refine assign_Tuple_tuple (I.ok.hd hc) ht (by simp [hn,←hl,rv.length]) hst fun h' hx=> ?_
 have I1:Inv X pins σ H {s with heap:=h'}:=I.kept (t':=s.toks) fun b o e=>hx b o (xu (Heap.lt_size e)) e
 exact h pins _ σ H xs _ Q I1 (by simpa using rv) hw
def gSub (to ti:TE) (t:TSet):TG:=fun v σ H Q=>to σ H fun o H1=>ti σ H1 fun i H2=>t o i v H2 fun H3=>Q σ H3
theorem pN {o i:Expr} {to ti:TE} {t:TSet} (ho:PE X o to) (hi:PE X i ti) (hs:PSet X t)
 (ha:∀v,assign (.Subscript o i pos) X.env v=(do
  let ov←holding [v] (eval o X.env)
  let iv←holding [v,ov] (eval i X.env)
  standAt pos
  holding [v,ov,iv] (setItem ov iv v)
  release [v,ov,iv] []):=by intro _;rfl):PG X (.Subscript o i pos) (gSub to ti t):=by
 intro pins s σ H v u Q I r h
 rw [ha]
 refine wpAny_bind (wpAny_holding (thn (ho pins s σ H _ I h) fun ov s1 ⟨x,H1,I1,r1,q1⟩=> ?_))
 refine wpAny_bind (wpAny_holding (thn (hi pins s1 σ H1 _ I1 q1) fun iv s2 ⟨y,H2,I2,r2,q2⟩=> ?_))
 refine wpAny_bind (wpAny_standAt (wpAny_bind (wpAny_holding (thn (hs pins s2 σ H2 x y v ov iv u _ I2 r1 r2 r q2) fun _ s3 ⟨H3,I3,q3⟩=> ?_))))
 exact wpAny_release ⟨σ,H3,I3,q3⟩
def tAsg (te:TE) (g:TG):TS:=fun D σ H=>te σ H fun x H1=>g x σ H1 D.nx
theorem j1 {tg e:Expr} {te:TE} {g:TG} (he:PE X e te) (hg:PG X tg g) (hs:swapsWithSole [tg] e pos.line X.env=pure false:=by rfl) (hw:swappedStores [tg] e X.env=pure none:=by rfl)
 (h1:(assignEach [tg] X.env).map (·.2)= [assign tg X.env]:=by rfl):PS X (.Assign [tg] e pos) (tAsg te g):=by
 intro pins s σ H D I h
 refine wpAny_Assign_stores (thn (he pins s σ H _ I h) fun v s1 ⟨x,H1,I1,r1,q1⟩=> ?_) hs hw
 rw [h1]
 exact thn (hg pins s1 σ H1 x v _ I1 r1 q1) fun _ s2 q=>q
theorem ar {i:Nat} {x:Str} {e:Expr} {te:TE} {pos':Pos} (hN:X.N.Nodup) (hi:X.N[i]?=some x) (hx:Loc X.env.scope x) (he:PE X e te) (hs:swapsWith e (some (.Name x pos')) pos.line X.env=pure false:=by rfl) (hf:X.fn x=true∨X.env.scope.names.lookup x=some .local:=by first|exact .inl rfl|exact .inr rfl|assumption):
 PS X (.Assign [.Name x pos'] e pos) (tAsg te (cF i)):=by
 intro pins s σ H D I h
 refine wpAny_Assign_Name (thn (he pins s σ H _ I h) fun v s1 ⟨y,H1,I1,r1,q1⟩=> ?_) hs
 exact jA I1 hN hi hx r1 (fun s2 I2=>⟨_,H1,I2,q1⟩) hf
end
section
variable {X:Cx} {pos:Pos}
def oJ (c:TT) (tb:TS):TS:=fun D σ H=>∃W:Nat→St→Hp→Prop,(∃m,W m σ H)∧∀m σ H,W m σ H→
 c σ H fun b H1=>if b=true then∃N:St→Hp→Prop,(∀σ' H',N σ' H'→∃m',m' < m∧W m' σ' H')∧tb {D with nx:=N,ct:=N,bk:=D.nx} σ H1 else D.nx σ H1
theorem jE {c:Expr} {body:List Stmt} {tc:TT} {tb:TS} (hp:PassesOwn (model X.prog X.w) X.A X.env X.xe) (hc:PT X c tc) (hb:PSs X body tb):PS X (.While c body [] pos) (oJ tc tb):=by
 intro pins s σ H D I h
 obtain ⟨W,⟨m0,w0⟩,turn⟩:=h
 refine wpAny_While (codeAny_whileLoop (fun n s'=>∃σ' H',Inv X pins σ' H' s'∧W n σ' H') ?_ m0 ⟨σ,H,I,w0⟩)
 rintro n s1 ⟨σ1,H1,I1,w1⟩
 refine wpAny_passesOwn hp (thn (hc pins s1 σ1 H1 _ I1 (turn n σ1 H1 w1)) fun b s2 ⟨H2,I2,q2⟩=> ?_)
 cases b with
 |true=>
  obtain ⟨N,hN,q2⟩:=q2
  rw [if_pos rfl]
  refine wpAny_passesOwn hp (thn (hb pins s2 σ1 H2 _ I2 q2) fun f s3 q3=> ?_)
  cases f with
  |next=>
   obtain ⟨σ3,H3,I3,n3⟩:=q3
   obtain ⟨m',hm,w3⟩:=hN σ3 H3 n3
   exact ⟨m',hm,σ3,H3,I3,w3⟩
  |cont=>
   obtain ⟨σ3,H3,I3,n3⟩:=q3
   obtain ⟨m',hm,w3⟩:=hN σ3 H3 n3
   exact ⟨m',hm,σ3,H3,I3,w3⟩
  |brk=>exact q3
  |ret v=>exact q3
 |false=>
  rw [if_neg xv]
  exact wpAny_execs_nil ⟨σ1,H2,I2,q2⟩
end
structure It where
 go:Nat→Hp→Prop
 yld:Nat→Hp→V→Hp→Prop
 stop:Nat→Hp→Prop
def FpOk (X:Cx) (pins:List (Addr×Obj)) (H:Hp) (b:Addr):Prop:=
 H b=none∧b≠X.env.locals∧b∉X.fs∧(b∈X.ex∨X.s₀.heap.objs.size≤b)∧(∀x c,X.env.cells.lookup x=some c→c≠b)∧∀p∈X.pn++pins,p.1≠b
theorem Inv.fpOk {X:Cx} {pins:List (Addr×Obj)} {σ:St} {H H':Hp} {s:Shared} {b:Addr} (I:Inv X pins σ H s) (hb:s.heap.objs.size≤b) (hn:H' b=none):FpOk X pins H' b:=by
 refine ⟨hn,Nat.ne_of_gt (xC I.lt hb),I.nofs hb, .inr (xI I.sz hb),fun x c e z=> ?_,fun p hp z=> ?_⟩
 · obtain ⟨v,q⟩:=I.cell x c e
   exact absurd (xC q.lt (by rw [z];exact hb)) (yw _)
 · exact absurd (xC (Heap.lt_size (I.pin p hp).1) (by rw [z];exact hb)) (yw _)
structure Turn (P:Program) (w:World) (K:PySem.W.Frag) (tg:Expr) (J:It) (fp:List Addr) (it:Addr) (tn:Nat→Heap→Prop):Prop where
 mem:it∈fp
 obj:∀i h,tn i h→∀b∈fp,∃o,h.get? b=some o∧∀v,o.data≠ .cell v
 keep:∀i h h',tn i h→(∀b∈fp,∀o,h.get? b=some o→h'.get? b=some o)→tn i h'
 item:∀(X:Cx),X.prog=P→X.w=w→X.K=K→X.calm=true→∀(i:Nat) (pins:List (Addr×Obj)) (s:Shared) (σ:St) (H:Hp) (E:Value→Shared→Prop),Inv X pins σ H s→(∀b∈fp,FpOk X pins H b)→tn i s.heap→J.go i H→
  wpAny (model P w) X.A (pyNext (.ref it)) (fun r s1=>∃u,r=some u∧
   wpAny (model P w) X.A (letOwnedTupleGo tg (.ref it) u) (fun _ s2=>∃x H',Inv X pins σ H' s2∧RelV x u∧J.yld i H x H'∧tn (i+1) s2.heap∧∀b∈fp,H' b=none) E s1) E s
 done:∀(X:Cx),X.prog=P→X.w=w→X.K=K→X.calm=true→∀(i:Nat) (pins:List (Addr×Obj)) (s:Shared) (σ:St) (H:Hp) (E:Value→Shared→Prop),Inv X pins σ H s→(∀b∈fp,FpOk X pins H b)→tn i s.heap→J.stop i H→
  wpAny (model P w) X.A (pyNext (.ref it)) (fun r s1=>r=none∧Inv X pins σ H s1) E s
 self:∀(A:Around) (i:Nat) (s:Shared) (Q:Value→Shared→Prop) (E:Value→Shared→Prop),tn i s.heap→Q (.ref it) s→wpAny (model P w) A (pyIter (.ref it)) Q E s
abbrev TI:=St→Hp→(It→Hp→Prop)→Prop
def PIE (X:Cx) (pins:List (Addr×Obj)) (σ:St) (tg:Expr) (R:It→Hp→Prop) (itv:Value) (s2:Shared):Prop:=
 ∃(it:Addr) (fp:List Addr) (tn:Nat→Heap→Prop) (J:It) (H':Hp),itv= .ref it∧Inv X pins σ H' s2∧Turn X.prog X.w X.K tg J fp it tn∧tn 0 s2.heap∧(∀b∈fp,FpOk X pins H' b)∧R J H'
def PI (X:Cx) (tg iter:Expr) (wi:TI):Prop:=
 ∀(pins:List (Addr×Obj)) (s:Shared) (σ:St) (H:Hp) (R:It→Hp→Prop),Inv X pins σ H s→wi σ H R→
  wpAny (model X.prog X.w) X.A (eval iter X.env) (fun v s1=>wpAny (model X.prog X.w) X.A (pyIter v) (PIE X pins σ tg R) X.xe s1) X.xe s
theorem qP {M:Model} {A:Around} {E:Value→Shared→Prop} {s:Shared} {tg:Expr} {it:Addr} {u:Value} {o:Obj} {n:String} {vs:Array Value} {Q:Unit→Shared→Prop} (ho:s.heap.get? it=some o) (hc:o.cls= .type n) (hd:o.data= .fields vs)
 (hn: ["enumerate","zip","dict_itemiterator","dict_reverseitemiterator","odict_iterator","itertools.zip_longest","itertools.pairwise"].contains n=false) (hQ:Q () s):wpAny M A (letOwnedTupleGo tg (.ref it) u) Q E s:=by
 unfold letOwnedTupleGo
 cases tg<;>first
  |exact wpAny_pure hQ
  |(cases u<;>first
     |exact wpAny_pure hQ
     |(refine wpAny_bind (wpAny_load ho ?_)
       rw [hc,hd]
       show wpAny M A (if (["enumerate","zip","dict_itemiterator","dict_reverseitemiterator","odict_iterator","itertools.zip_longest","itertools.pairwise"].contains n&&vs[0]?==some (rawInt _))=true then _ else _) Q E s
       rw [if_neg (by intro h;rw [hn,Bool.false_and] at h;cases h)]
       exact wpAny_pure hQ))
def Itl (K:PySem.W.Frag) (a:Addr):It:=
 ⟨fun i H=>∃xs x,SqL K H a xs∧xs[i]?=some x,fun i H x H'=>H'=H∧∀xs,SqL K H a xs→xs[i]?=some x,fun i H=>∃xs,SqL K H a xs∧xs.length≤i⟩
def Itt (K:PySem.W.Frag) (a:Addr):It:=
 ⟨fun i H=>∃xs x,SqT K H a xs∧xs[i]?=some x,fun i H x H'=>H'=H∧∀xs,SqT K H a xs→xs[i]?=some x,fun i H=>∃xs,SqT K H a xs∧xs.length≤i⟩
def Itr (lo:Int) (n:Nat):It:=⟨fun i _=>i < n,fun i H x H'=>H'=H∧x= .int (lo+i),fun i _=>n≤i⟩
theorem nH {P:Program} {w:World} {K:PySem.W.Frag} {tg:Expr} (a it:Addr):Turn P w K tg (Itl K a) [it] it (fun i h=>h.IsListIter it a i) where
 mem:=by simp
 obj:=fun i h st b hb=>by
  have e:b=it:=by simpa using hb
  subst e
  obtain ⟨o,e,c,d⟩:=st
  exact ⟨o,e,fun v z=>by rw [d] at z;cases z⟩
 keep:=fun i h h' st k=>st.at fun o e=>k it (by simp) o e
 item:=by
  intro X hP hw hK hc i pins s σ H E I hf st hg
  subst hP hw hK
  obtain ⟨xs,x,hq,hx⟩:=hg
  obtain ⟨its,rv,p,hz⟩:=I.list hq
  obtain ⟨u,hu,ru⟩:=rv.get hx
  obtain ⟨f0,f1,f2,f3,f4,f5⟩:=hf it (by simp)
  refine wpAny_pyNext_list_item st p.isList (x:=u) (by simpa using hu) fun h' st' sb=> ?_
  have I1:Inv X pins σ H {s with heap:=h'}:=I.turned (t':=s.toks) (fun b o hb e=>(sb.2 b hb).trans e) f0 f1 f3 f4 f5
  obtain ⟨o,e,c,d⟩:=id st'
  exact ⟨u,rfl,qP (s:= {s with heap:=h'}) e c d (by decide) ⟨x,H,I1,ru,⟨rfl,fun ys hy=>by rw [I.list_inj hy hq];exact hx⟩,st',fun b hb=>(hf b hb).1⟩⟩
 done:=by
  intro X hP hw hK hc i pins s σ H E I hf st hg
  subst hP hw hK
  obtain ⟨xs,hq,hx⟩:=hg
  obtain ⟨its,rv,p,hz⟩:=I.list hq
  obtain ⟨f0,f1,f2,f3,f4,f5⟩:=hf it (by simp)
  have hl:=rv.length
  exact wpAny_pyNext_list_end (I.ok.hd hc) st p.isList (by simp;omega) fun h' eb=>⟨rfl,I.turned (t':=s.toks) (fun b o hb e=>eb b o hb e) f0 f1 f3 f4 f5⟩
 self:=fun _ _ _ _ _ st h=>wpAny_pyIter_listiter st h
theorem kH {P:Program} {w:World} {K:PySem.W.Frag} {tg:Expr} (a it:Addr):Turn P w K tg (Itt K a) [it] it (fun i h=>h.IsTupleIter it a i) where
 mem:=by simp
 obj:=fun i h st b hb=>by
  have e:b=it:=by simpa using hb
  subst e
  obtain ⟨o,e,c,d⟩:=st
  exact ⟨o,e,fun v z=>by rw [d] at z;cases z⟩
 keep:=fun i h h' st k=>st.at fun o e=>k it (by simp) o e
 item:=by
  intro X hP hw hK hc i pins s σ H E I hf st hg
  subst hP hw hK
  obtain ⟨xs,x,hq,hx⟩:=hg
  obtain ⟨its,rv,p,hz⟩:=I.tuple hq
  obtain ⟨u,hu,ru⟩:=rv.get hx
  obtain ⟨f0,f1,f2,f3,f4,f5⟩:=hf it (by simp)
  refine wpAny_pyNext_tuple_item st (show s.heap.IsTuple a its.toArray from p) (x:=u) (by simpa using hu) fun h' st' sb=> ?_
  have I1:Inv X pins σ H {s with heap:=h'}:=I.turned (t':=s.toks) (fun b o hb e=>(sb.2 b hb).trans e) f0 f1 f3 f4 f5
  obtain ⟨o,e,c,d⟩:=id st'
  exact ⟨u,rfl,qP (s:= {s with heap:=h'}) e c d (by decide) ⟨x,H,I1,ru,⟨rfl,fun ys hy=>by rw [I.tuple_inj hy hq];exact hx⟩,st',fun b hb=>(hf b hb).1⟩⟩
 done:=by
  intro X hP hw hK hc i pins s σ H E I hf st hg
  subst hP hw hK
  obtain ⟨xs,hq,hx⟩:=hg
  obtain ⟨its,rv,p,hz⟩:=I.tuple hq
  obtain ⟨f0,f1,f2,f3,f4,f5⟩:=hf it (by simp)
  have hl:=rv.length
  exact wpAny_pyNext_tuple_end (I.ok.hd hc) st (show s.heap.IsTuple a its.toArray from p) (by simp;omega) fun h' eb=>⟨rfl,I.turned (t':=s.toks) (fun b o hb e=>eb b o hb e) f0 f1 f3 f4 f5⟩
 self:=fun _ _ _ _ _ st h=>wpAny_pyIter_tupleiter st h
theorem kJ {P:Program} {w:World} {K:PySem.W.Frag} {tg:Expr} (it:Addr) (lo:Int) (n:Nat):Turn P w K tg (Itr lo n) [it] it (fun i h=>IsRangeIter h it (lo+(i:Nat)*1) ((n:Int) - (i:Nat)) 1) where
 mem:=by simp
 obj:=fun i h st b hb=>by
  have e:b=it:=by simpa using hb
  subst e
  exact ⟨_,st,fun v z=>by
   have z':Data.fields _=Data.cell v:=z
   cases z'⟩
 keep:=fun i h h' st k=>k it (by simp) _ st
 item:=by
  intro X hP hw hK hc i pins s σ H E I hf st hg
  subst hP hw hK
  obtain ⟨f0,f1,f2,f3,f4,f5⟩:=hf it (by simp)
  have W:=Walks.range (prog:=X.prog) (w:=X.w) (I.ok.hd hc) it lo 1 n
  refine W.item i s _ _ hg st fun v h' tk hv st' kk=> ?_
  obtain ⟨t,rfl⟩:=hv
  have I1:Inv X pins σ H {s with heap:=h',toks:=tk}:=I.turned (fun b o hb e=>kk b o (by simpa using hb) e) f0 f1 f3 f4 f5
  refine ⟨_,rfl,qP (s:= {s with heap:=h',toks:=tk}) (n:="range_iterator") st' rfl rfl (by decide) ⟨.int (lo+i),H,I1,⟨t,?_⟩,⟨rfl,rfl⟩,st',fun b hb=>(hf b hb).1⟩⟩
  rw [Int.mul_one]
 done:=by
  intro X hP hw hK hc i pins s σ H E I hf st hg
  subst hP hw hK
  obtain ⟨f0,f1,f2,f3,f4,f5⟩:=hf it (by simp)
  exact wpAny_pyNext_range_end (I.ok.hd hc) st (by have:n≤i:=hg;omega) fun h' eb=>⟨rfl,I.turned (t':=s.toks) (fun b o hb e=>eb b o hb e) f0 f1 f3 f4 f5⟩
 self:=fun _ _ _ _ _ st h=>wpAny_pyIter_rangeiter st h
open PySem PySem.Spec PyProof.Rows
section
variable {X:Cx} {tg:Expr}
def wQ (K:PySem.W.Frag) (tl:TE):TI:=fun σ H R=>tl σ H fun x H1=>∃a,x= .ref a∧(∃xs,SqL K H1 a xs)∧R (Itl K a) H1
def iTup (K:PySem.W.Frag) (tl:TE):TI:=fun σ H R=>tl σ H fun x H1=>∃a,x= .ref a∧(∃xs,SqT K H1 a xs)∧R (Itt K a) H1
theorem b8 {l:Expr} {tl:TE} (hl:PE X l tl):PI X tg l (wQ X.K tl):=by
 intro pins s σ H R I h
 refine thn (hl pins s σ H _ I h) fun v s1 ⟨x,H1,I1,r1,q1⟩=> ?_
 obtain ⟨a,e,⟨xs,hq⟩,q⟩:=q1
 subst e
 cases r1
 obtain ⟨its,rv,p,hz⟩:=I1.list hq
 refine wpAny_pyIter_list p.isList ?_
 refine ⟨s1.heap.objs.size,[s1.heap.objs.size],_,_,H1,rfl,I1.kept (t':=s1.toks) fun b o e=>Heap.get?_push_of_some _ e,nH a _,⟨_,Heap.get?_push_size _ rfl,rfl,rfl⟩,fun b hb=> ?_,q⟩
 have e:b=s1.heap.objs.size:=by simpa using hb
 subst e
 exact I1.fpOk (x9 _) (I1.hok.fresh (x9 _))
theorem cZ {l:Expr} {tl:TE} (hl:PE X l tl):PI X tg l (iTup X.K tl):=by
 intro pins s σ H R I h
 refine thn (hl pins s σ H _ I h) fun v s1 ⟨x,H1,I1,r1,q1⟩=> ?_
 obtain ⟨a,e,⟨xs,hq⟩,q⟩:=q1
 subst e
 cases r1
 obtain ⟨its,rv,p,hz⟩:=I1.tuple hq
 refine wpAny_pyIter_tuple (show s1.heap.IsTuple a its.toArray from p) ?_
 refine ⟨s1.heap.objs.size,[s1.heap.objs.size],_,_,H1,rfl,I1.kept (t':=s1.toks) fun b o e=>Heap.get?_push_of_some _ e,kH a _,⟨_,Heap.get?_push_size _ rfl,rfl,rfl⟩,fun b hb=> ?_,q⟩
 have e:b=s1.heap.objs.size:=by simpa using hb
 subst e
 exact I1.fpOk (x9 _) (I1.hok.fresh (x9 _))
theorem pF {pins:List (Addr×Obj)} {σ:St} {H:Hp} {s:Shared} {R:It→Hp→Prop} {E:Value→Shared→Prop} {lo hi:Int} {t u v:Tok} {tk:Nat} (I:Inv X pins σ H s) (h1:-(2^62)≤lo) (h2:lo < 2^62) (h3:-(2^62)≤hi) (h4:hi < 2^62)
 (q:R (Itr lo (hi - lo).toNat) H):wpAny (model X.prog X.w) X.A (pyIter (.ref s.heap.objs.size)) (PIE X pins σ tg R) E {s with heap:=s.heap.push {cls:= .type "range",data:= .fields #[.int lo t, .int hi u, .int 1 v]},toks:=tk}:=by
 refine wpAny_pyIter_range (IsRange.new ..) (small_one h1 h2 h3 h4) ?_
 have I1:Inv X pins σ H {s with heap:=s.heap.push {cls:= .type "range",data:= .fields #[.int lo t, .int hi u, .int 1 v]},toks:=tk}:=I.kept fun b o e=>Heap.get?_push_of_some _ e
 refine ⟨(s.heap.push {cls:= .type "range",data:= .fields #[.int lo t, .int hi u, .int 1 v]}).objs.size,[(s.heap.push {cls:= .type "range",data:= .fields #[.int lo t, .int hi u, .int 1 v]}).objs.size],_,_,H,rfl,
  I1.kept (t':=tk) fun b o e=>Heap.get?_push_of_some _ e,kJ _ lo (hi - lo).toNat,?_,fun b hb=> ?_,q⟩
 · have e1:lo+((0:Nat):Int)*1=lo:=by simp
   have e2:(((hi - lo).toNat:Nat):Int) - ((0:Nat):Int)=Builtin.Range.rangeSize lo hi 1:=by rw [rangeSize_one];split<;>omega
   show IsRangeIter _ _ (lo+((0:Nat):Int)*1) ((((hi - lo).toNat:Nat):Int) - ((0:Nat):Int)) 1
   rw [e1,e2]
   exact Heap.get?_push_size _ rfl
 · have e:b=(s.heap.push {cls:= .type "range",data:= .fields #[.int lo t, .int hi u, .int 1 v]}).objs.size:=by simpa using hb
   subst e
   exact I1.fpOk (x9 _) (I1.hok.fresh (x9 _))
def wP (ta:TA):TI:=fun σ H R=>ta σ H fun vs H1=>∃j:Int,vs= [.int j]∧ -(2^62)≤j∧j < 2^62∧R (Itr 0 j.toNat) H1
theorem bn {a:Expr} {ta:TA} {p pos:Pos} (hg:Gl X "range") (hm:X.mg "range"=none) (ha:PA X [a] ta) (hs:starEach [a] X.env= [(false,eval a X.env)]:=by rfl):PI X tg (.Call (.Name "range" p) [a] [] pos) (wP ta):=by
 intro pins s σ H R I h
 refine Call_ (gQ I hg hm boot_range (PyProof.Rows.callWith_type1 (thn (ha pos pins s σ H _ I h) fun us s1 ⟨vs,H1,I1,r1,q1⟩=> ?_) hs rfl))
 obtain ⟨j,e,q1,q2,q⟩:=q1
 subst e
 cases r1 with
 |cons r rr=>
  cases rr
  obtain ⟨t,rfl⟩:=r
  exact call_range_1 (pF I1 (by omega) (by omega) q1 q2 (by simpa using q))
def tFor (wi:TI) (g:TG) (tb:TS):TS:=fun D σ H=>wi σ H fun J H1=>∃W:Nat→Nat→St→Hp→Prop,(∃m,W 0 m σ H1)∧∀i m σ H,W i m σ H→
 (J.stop i H∧D.nx σ H)∨(J.go i H∧∃N:St→Hp→Prop,(∀σ' H',N σ' H'→∃m',m' < m∧W (i+1) m' σ' H')∧∀x H',J.yld i H x H'→g x σ H' fun σ2 H2=>tb {D with nx:=N,ct:=N,bk:=D.nx} σ2 H2)
noncomputable def gy (fp:List Addr) (h:Heap):List (Addr×Obj):=fp.filterMap fun b=>(h.get? b).map fun o=>(b,o)
theorem cN {fp:List Addr} {h:Heap} {b:Addr} {o:Obj} (hb:b∈fp) (e:h.get? b=some o):(b,o)∈gy fp h:=List.mem_filterMap.mpr ⟨b,hb,by rw [e];rfl⟩
theorem nY {fp:List Addr} {h:Heap} {p:Addr×Obj} (hp:p∈gy fp h):p.1∈fp∧h.get? p.1=some p.2:=by
 obtain ⟨b,hb,e⟩:=List.mem_filterMap.mp hp
 cases q:h.get? b with
 |none=>rw [q] at e;cases e
 |some o=>
  rw [q] at e
  have e':(b,o)=p:=xE e
  subst e'
  exact ⟨hb,q⟩
theorem Inv.pinned {pins:List (Addr×Obj)} {σ:St} {H:Hp} {s:Shared} {fp:List Addr} (I:Inv X pins σ H s) (hf:∀b∈fp,FpOk X pins H b) (ho:∀b∈fp,∃o,s.heap.get? b=some o∧∀v,o.data≠ .cell v):Inv X (pins++gy fp s.heap) σ H s:=
 I.pins_of fun p hp=>(xj.mp hp).elim (fun z=>I.pin p (xL _ z)) fun z=>by
  obtain ⟨hb,e⟩:=nY z
  obtain ⟨f0,f1,f2,_⟩:=hf p.1 hb
  obtain ⟨o,e',d⟩:=ho p.1 hb
  rw [e] at e';cases e'
  exact ⟨e,f0,f1,f2,d⟩
theorem Inv.unpinned {pins pl:List (Addr×Obj)} {σ:St} {H:Hp} {s:Shared} (I:Inv X (pins++pl) σ H s):Inv X pins σ H s:=I.pins_of fun p hp=>I.pin p (xL _ (List.mem_append_left _ hp))
theorem b9 {iter:Expr} {body:List Stmt} {wi:TI} {g:TG} {tb:TS} {pos:Pos} (hp:PassesOwn (model X.prog X.w) X.A X.env X.xe) (hc:X.calm=true) (hi:PI X tg iter wi) (hg:PG X tg g) (hb:PSs X body tb)
 (hs:∀x,foldedSetIterable iter X.env x=pure x:=by intro _;rfl):PS X (.For tg iter body [] pos) (tFor wi g tb):=by
 intro pins s σ H D I h
 refine wpAny_For (thn (hi pins s σ H _ I h) fun v s1 h1=>thn h1 fun itv s2 h2=> ?_) hs
 obtain ⟨it,fp,tn,J,H2,e,I2,T,st2,f2,W,⟨m0,w0⟩,turn⟩:=h2
 subst e
 have stat:∀ {H':Hp},(∀b∈fp,H' b=none)→∀b∈fp,FpOk X pins H' b:=fun hn b hb=>⟨hn b hb,(f2 b hb).2⟩
 refine codeAny_forLoop_any (fun n s'=>∃i σ' H',Inv X pins σ' H' s'∧tn i s'.heap∧(∀b∈fp,H' b=none)∧W i n σ' H') ?_ m0 ⟨0,σ,H2,I2,st2,fun b hb=>(f2 b hb).1,w0⟩
 rintro n s3 ⟨i,σ3,H3,I3,st3,fr3,w3⟩
 rcases turn i n σ3 H3 w3 with ⟨stop,qn⟩|⟨go,N,hN,step⟩
 · refine wpAny_passesOwn hp (thn (T.done X rfl rfl rfl hc i pins s3 σ3 H3 X.xe I3 (stat fr3) st3 stop) fun r s4 ⟨hr,I4⟩=> ?_)
   subst hr
   exact wpAny_execs_nil ⟨σ3,H3,I4,qn⟩
 · refine wpAny_passesOwn hp (thn (T.item X rfl rfl rfl hc i pins s3 σ3 H3 X.xe I3 (stat fr3) st3 go) fun r s4 ⟨u,hr,h4⟩=> ?_)
   subst hr
   refine wpAny_passesOwn hp (thn h4 fun _ s5 ⟨x,H5,I5,r5,y5,st5,fr5⟩=> ?_)
   have I5':=I5.pinned (stat fr5) (T.obj _ _ st5)
   refine wpAny_passesOwn hp (thn (hg _ s5 σ3 H5 x u _ I5' r5 (step x H5 y5)) fun _ s6 ⟨σ6,H6,I6,q6⟩=> ?_)
   refine wpAny_passesOwn hp (thn (hb _ s6 σ6 H6 _ I6 q6) fun f s7 q7=> ?_)
   have again:∀ {σ7:St} {H7:Hp},Inv X (pins++gy fp s5.heap) σ7 H7 s7→N σ7 H7→∃m,m < n∧∃i σ' H',Inv X pins σ' H' s7∧tn i s7.heap∧(∀b∈fp,H' b=none)∧W i m σ' H':=fun {σ7 H7} I7 n7=>by
    obtain ⟨m',hm,w7⟩:=hN σ7 H7 n7
    refine ⟨m',hm,i+1,σ7,H7,I7.unpinned,T.keep _ _ _ st5 fun b hb o e=>(I7.pin (b,o) (xL _ (xL _ (cN hb e)))).1,fun b hb=> ?_,w7⟩
    obtain ⟨o,e,d⟩:=T.obj _ _ st5 b hb
    exact (I7.pin (b,o) (xL _ (xL _ (cN hb e)))).2.1
   cases f with
   |next=>obtain ⟨σ7,H7,I7,n7⟩:=q7;exact again I7 n7
   |cont=>obtain ⟨σ7,H7,I7,n7⟩:=q7;exact again I7 n7
   |brk=>obtain ⟨σ7,H7,I7,q7⟩:=q7;exact ⟨σ7,H7,I7.unpinned,q7⟩
   |ret v=>obtain ⟨x7,σ7,H7,I7,r7,q7⟩:=q7;exact ⟨x7,σ7,H7,I7.unpinned,r7,q7⟩
end
theorem bh {K:PySem.W.Frag} {a:Addr} {xs:List V} {g:TG} {tb:TS} {D:Ends} {σ:St} {H:Hp} (Pv:Nat→St→Hp→Prop) (h0:Pv 0 σ H) (hl:∀i σ H,i≤xs.length→Pv i σ H→SqL K H a xs)
 (hs:∀i x σ H,xs[i]?=some x→Pv i σ H→g x σ H fun σ2 H2=>tb {D with nx:=Pv (i+1),ct:=Pv (i+1),bk:=D.nx} σ2 H2) (hd:∀σ H,Pv xs.length σ H→D.nx σ H):
 ∃W:Nat→Nat→St→Hp→Prop,(∃m,W 0 m σ H)∧∀i m σ H,W i m σ H→
  ((Itl K a).stop i H∧D.nx σ H)∨((Itl K a).go i H∧∃N:St→Hp→Prop,(∀σ' H',N σ' H'→∃m',m' < m∧W (i+1) m' σ' H')∧∀x H',(Itl K a).yld i H x H'→g x σ H' fun σ2 H2=>tb {D with nx:=N,ct:=N,bk:=D.nx} σ2 H2):=by
 refine ⟨fun i m σ H=>m=xs.length - i∧i≤xs.length∧Pv i σ H,⟨xs.length,by simp,xz _,h0⟩,?_⟩
 rintro i m σ H ⟨rfl,hi,p⟩
 have q:=hl i σ H hi p
 by_cases hlt:i < xs.length
 · refine .inr ⟨⟨xs,xs[i],q,by simp [hlt]⟩,Pv (i+1),fun σ' H' p'=>⟨xs.length - (i+1),by omega,rfl,hlt,p'⟩,fun x H' y=> ?_⟩
   obtain ⟨e,y⟩:=y
   subst e
   exact hs i x σ _ (y xs q) p
 · have e:i=xs.length:=by omega
   subst e
   exact .inl ⟨⟨xs,q,x9 _⟩,hd σ H p⟩
theorem jh {K:PySem.W.Frag} {a:Addr} {xs:List V} {g:TG} {tb:TS} {D:Ends} {σ:St} {H:Hp} (Pv:Nat→St→Hp→Prop) (h0:Pv 0 σ H) (hl:∀i σ H,i≤xs.length→Pv i σ H→SqT K H a xs)
 (hs:∀i x σ H,xs[i]?=some x→Pv i σ H→g x σ H fun σ2 H2=>tb {D with nx:=Pv (i+1),ct:=Pv (i+1),bk:=D.nx} σ2 H2) (hd:∀σ H,Pv xs.length σ H→D.nx σ H):
 ∃W:Nat→Nat→St→Hp→Prop,(∃m,W 0 m σ H)∧∀i m σ H,W i m σ H→
  ((Itt K a).stop i H∧D.nx σ H)∨((Itt K a).go i H∧∃N:St→Hp→Prop,(∀σ' H',N σ' H'→∃m',m' < m∧W (i+1) m' σ' H')∧∀x H',(Itt K a).yld i H x H'→g x σ H' fun σ2 H2=>tb {D with nx:=N,ct:=N,bk:=D.nx} σ2 H2):=by
 refine ⟨fun i m σ H=>m=xs.length - i∧i≤xs.length∧Pv i σ H,⟨xs.length,by simp,xz _,h0⟩,?_⟩
 rintro i m σ H ⟨rfl,hi,p⟩
 have q:=hl i σ H hi p
 by_cases hlt:i < xs.length
 · refine .inr ⟨⟨xs,xs[i],q,by simp [hlt]⟩,Pv (i+1),fun σ' H' p'=>⟨xs.length - (i+1),by omega,rfl,hlt,p'⟩,fun x H' y=> ?_⟩
   obtain ⟨e,y⟩:=y
   subst e
   exact hs i x σ _ (y xs q) p
 · have e:i=xs.length:=by omega
   subst e
   exact .inl ⟨⟨xs,q,x9 _⟩,hd σ H p⟩
theorem cG {lo:Int} {n:Nat} {g:TG} {tb:TS} {D:Ends} {σ:St} {H:Hp} (Pv:Nat→St→Hp→Prop) (h0:Pv 0 σ H)
 (hs:∀i σ H,i < n→Pv i σ H→g (.int (lo+i)) σ H fun σ2 H2=>tb {D with nx:=Pv (i+1),ct:=Pv (i+1),bk:=D.nx} σ2 H2) (hd:∀σ H,Pv n σ H→D.nx σ H):
 ∃W:Nat→Nat→St→Hp→Prop,(∃m,W 0 m σ H)∧∀i m σ H,W i m σ H→
  ((Itr lo n).stop i H∧D.nx σ H)∨((Itr lo n).go i H∧∃N:St→Hp→Prop,(∀σ' H',N σ' H'→∃m',m' < m∧W (i+1) m' σ' H')∧∀x H',(Itr lo n).yld i H x H'→g x σ H' fun σ2 H2=>tb {D with nx:=N,ct:=N,bk:=D.nx} σ2 H2):=by
 refine ⟨fun i m σ H=>m=n - i∧i≤n∧Pv i σ H,⟨n,by simp,xz _,h0⟩,?_⟩
 rintro i m σ H ⟨rfl,hi,p⟩
 by_cases hlt:i < n
 · refine .inr ⟨hlt,Pv (i+1),fun σ' H' p'=>⟨n - (i+1),by omega,rfl,hlt,p'⟩,fun x H' y=> ?_⟩
   obtain ⟨e,y⟩:=y
   subst e y
   exact hs i σ _ hlt p
 · have e:i=n:=by omega
   subst e
   exact .inl ⟨x9 _,hd σ H p⟩
theorem js {c:TT} {tb:TS} {D:Ends} {σ:St} {H:Hp} (Pv:St→Hp→Prop) (μ:St→Hp→Nat) (h0:Pv σ H)
 (hs:∀σ H,Pv σ H→c σ H fun b H1=>if b=true then tb {D with nx:=fun σ' H'=>Pv σ' H'∧μ σ' H' < μ σ H,ct:=fun σ' H'=>Pv σ' H'∧μ σ' H' < μ σ H,bk:=D.nx} σ H1 else D.nx σ H1)
 (mono:∀σ H Q Q',(∀b H1,Q b H1→Q' b H1)→c σ H Q→c σ H Q'):oJ c tb D σ H:=by
 refine ⟨fun m σ H=>m=μ σ H∧Pv σ H,⟨_,rfl,h0⟩,?_⟩
 rintro m σ H ⟨rfl,p⟩
 refine mono σ H _ _ (fun b H1 q=> ?_) (hs σ H p)
 cases b with
 |true=>exact ⟨_,fun σ' H' ⟨p',l⟩=>⟨_,l,rfl,p'⟩,q⟩
 |false=>exact q
open PySem PySem.Spec PyProof.Rows
abbrev R2:=V→V→Hp→VK→Prop
def OpR (X:Cx) (f:Value→Value→Sem Value) (r:R2):Prop:=
 ∀(pins:List (Addr×Obj)) (s:Shared) (σ:St) (H:Hp) (x y:V) (v u:Value) (Q:VK),Inv X pins σ H s→RelV x v→RelV y u→r x y H Q→
  wpAny (model X.prog X.w) X.A (f v u) (EP X pins σ Q) X.xe s
def UnR (X:Cx) (f:Value→Sem Value) (r:V→Hp→VK→Prop):Prop:=
 ∀(pins:List (Addr×Obj)) (s:Shared) (σ:St) (H:Hp) (x:V) (v:Value) (Q:VK),Inv X pins σ H s→RelV x v→r x H Q→
  wpAny (model X.prog X.w) X.A (f v) (EP X pins σ Q) X.xe s
def c7 (X:Cx) (f:Value) (r:List V→Hp→VK→Prop):Prop:=
 ∀(pins:List (Addr×Obj)) (s:Shared) (σ:St) (H:Hp) (xs:List V) (us:List Value) (Q:VK),Inv X pins σ H s→Vals xs us→r xs H Q→
  wpAny (model X.prog X.w) X.A (call f us) (EP X pins σ Q) X.xe s
def tOp (r:R2) (ta tb:TE):TE:=fun σ H Q=>ta σ H fun x H1=>tb σ H1 fun y H2=>r x y H2 Q
def tUn (r:V→Hp→VK→Prop) (ta:TE):TE:=fun σ H Q=>ta σ H fun x H1=>r x H1 Q
def rI (C:Int→Int→Prop) (g:Int→Int→V):R2:=fun x y H Q=>∃i j,x= .int i∧y= .int j∧C i j∧Q (g i j) H
def rI0 (g:Int→Int→V):R2:=fun x y H Q=>∃i j,x= .int i∧y= .int j∧Q (g i j) H
def rU (g:Int→V):V→Hp→VK→Prop:=fun x H Q=>∃i,x= .int i∧Q (g i) H
section
variable {X:Cx} {a b c:Expr} {ta tb tc:TE} {pos:Pos}
theorem binT (ha:PE X a ta) (hb:PE X b tb) {pins:List (Addr×Obj)} {s:Shared} {σ:St} {H:Hp} {R:V→V→Hp→Prop} (I:Inv X pins σ H s)
 (h:ta σ H fun x H1=>tb σ H1 fun y H2=>R x y H2) {Q:Value→Shared→Prop} {f:Value→Value→Sem Value}
 (hf:∀v u s2 x y H2,Inv X pins σ H2 s2→RelV x v→RelV y u→R x y H2→wpAny (model X.prog X.w) X.A (f v u) Q X.xe s2):
 wpAny (model X.prog X.w) X.A (eval a X.env) (fun v s₁=>wpAny (model X.prog X.w) X.A (eval b X.env) (fun u s₂=>wpAny (model X.prog X.w) X.A (f v u) Q X.xe s₂) X.xe s₁) X.xe s:=by
 refine thn (ha pins s σ H _ I h) fun v s1 ⟨x,H1,I1,r1,q1⟩=> ?_
 refine thn (hb pins s1 σ H1 _ I1 q1) fun u s2 ⟨y,H2,I2,r2,q2⟩=> ?_
 exact hf v u s2 x y H2 I2 r1 r2 q2
theorem aw {op:Operator} {r:R2} (ho:OpR X (binaryOp op) r) (ha:PE X a ta) (hb:PE X b tb):PE X (.BinOp a op b pos) (tOp r ta tb):=by
 intro pins s σ H Q I h
 exact wpAny_BinOp (binT ha hb I h fun v u s2 x y H2 I2 rx ry q=>ho pins s2 σ H2 x y v u Q I2 rx ry q)
theorem u6 {op:UnaryOp} {r:V→Hp→VK→Prop} (ho:UnR X (unaryOp op) r) (ha:PE X a ta):PE X (.UnaryOp op a pos) (tUn r ta):=by
 intro pins s σ H Q I h
 exact UnaryOp_ (thn (ha pins s σ H _ I h) fun v s1 ⟨x,H1,I1,r1,q1⟩=>ho pins s1 σ H1 x v Q I1 r1 q1)
theorem opI {f:Value→Value→Sem Value} {C:Int→Int→Prop} {g:Int→Int→Int}
 (rule:∀(i j:Int) (t u:Tok) (s:Shared) (Q:Value→Shared→Prop) (E:Value→Shared→Prop),C i j→Q (.int (g i j) s.toks) {s with toks:=s.toks+1}→wpAny (model X.prog X.w) X.A (f (.int i t) (.int j u)) Q E s):
 OpR X f (rI C fun i j=> .int (g i j)):=by
 intro pins s σ H x y v u Q I rx ry h
 obtain ⟨i,j,rfl,rfl,hc,q⟩:=h
 obtain ⟨t,rfl⟩:=rx
 obtain ⟨t',rfl⟩:=ry
 exact rule i j t t' s _ _ hc ⟨.int (g i j),H,I.tok _,⟨_,rfl⟩,q⟩
theorem opI0 {f:Value→Value→Sem Value} {g:Int→Int→Int}
 (rule:∀(i j:Int) (t u:Tok) (s:Shared) (Q:Value→Shared→Prop) (E:Value→Shared→Prop),Q (.int (g i j) s.toks) {s with toks:=s.toks+1}→wpAny (model X.prog X.w) X.A (f (.int i t) (.int j u)) Q E s):
 OpR X f (rI0 fun i j=> .int (g i j)):=by
 intro pins s σ H x y v u Q I rx ry h
 obtain ⟨i,j,rfl,rfl,q⟩:=h
 obtain ⟨t,rfl⟩:=rx
 obtain ⟨t',rfl⟩:=ry
 exact rule i j t t' s _ _ ⟨.int (g i j),H,I.tok _,⟨_,rfl⟩,q⟩
theorem opB0 {f:Value→Value→Sem Value} {g:Int→Int→Bool}
 (rule:∀(i j:Int) (t u:Tok) (s:Shared) (Q:Value→Shared→Prop) (E:Value→Shared→Prop),Q (.bool (g i j)) s→wpAny (model X.prog X.w) X.A (f (.int i t) (.int j u)) Q E s):
 OpR X f (rI0 fun i j=> .bl (g i j)):=by
 intro pins s σ H x y v u Q I rx ry h
 obtain ⟨i,j,rfl,rfl,q⟩:=h
 obtain ⟨t,rfl⟩:=rx
 obtain ⟨t',rfl⟩:=ry
 exact rule i j t t' s _ _ ⟨.bl (g i j),H,I,rfl,q⟩
def CDiv (i j:Int):Prop:=0 < j∧j < 1073741824
def CPow (i j:Int):Prop:=0≤j∧j≤1000000∧i.natAbs < 2^64
def CMul (i j:Int):Prop:=(-(2^64) < i∧i < 2^64)∨(-(2^64) < j∧j < 2^64)
theorem CMul.ok {i j:Int} (h:CMul i j):IntMulOk i j:=by
 rcases h with ⟨h1,h2⟩|⟨h1,h2⟩
 · exact .of_left (intBits_le_64 h1 h2)
 · exact .of_right (intBits_le_64 h1 h2)
theorem ba:OpR X (binaryOp .Add) (rI0 fun i j=> .int (i+j)):=opI0 fun _ _ _ _ _ _ _ q=>add_int q
theorem eW:OpR X (binaryOp .Sub) (rI0 fun i j=> .int (i - j)):=opI0 fun _ _ _ _ _ _ _ q=>sub_int q
theorem eX:OpR X (binaryOp .Mult) (rI CMul fun i j=> .int (i*j)):=opI fun _ _ _ _ _ _ _ hc q=>mul_int q hc.ok
theorem sI:OpR X (binaryOp .FloorDiv) (rI CDiv fun i j=> .int (i / j)):=opI fun i j _ _ _ _ _ hc q=>by
 have h1:(0:Int) < j:=hc.1
 have h2:j < 1073741824:=hc.2
 exact floordiv_int (by omega) (by rw [Int.fdiv_eq_ediv_of_nonneg i (by omega)];exact q) (.inl (PyProof.noPylong_small (by omega)))
theorem cf:OpR X (binaryOp .Mod) (rI (fun _ j=>0 < j) fun i j=> .int (i%j)):=opI fun i j _ _ _ _ _ hc q=>by
 have h1:(0:Int) < j:=hc
 exact mod_int' (by omega) (by rw [Int.fmod_eq_emod_of_nonneg i (by omega)];exact q)
theorem j6:OpR X (binaryOp .Pow) (rI CPow fun i j=> .int (i^j.toNat)):=opI fun _ _ _ _ _ _ _ hc q=>pow_int_small hc.1 hc.2.1 hc.2.2 q
theorem unI {f:Value→Sem Value} {g:Int→Int}
 (rule:∀(i:Int) (t:Tok) (s:Shared) (Q:Value→Shared→Prop) (E:Value→Shared→Prop),Q (.int (g i) s.toks) {s with toks:=s.toks+1}→wpAny (model X.prog X.w) X.A (f (.int i t)) Q E s):
 UnR X f (rU fun i=> .int (g i)):=by
 intro pins s σ H x v Q I rx h
 obtain ⟨i,rfl,q⟩:=h
 obtain ⟨t,rfl⟩:=rx
 exact rule i t s _ _ ⟨.int (g i),H,I.tok _,⟨_,rfl⟩,q⟩
theorem oo:UnR X (unaryOp .USub) (rU fun i=> .int (-i)):=unI fun _ _ _ _ _ q=>neg_int q
end
noncomputable def scal:V→V→Bool
 | .non, .non=>true| .non, .int _=>true| .int _, .non=>true| .non, .bl _=>true| .bl _, .non=>true| .non, .str _=>true| .str _, .non=>true
 | .int _, .int _=>true| .bl _, .bl _=>true| .str _, .str _=>true| .byt _, .byt _=>true
 | .int _, .str _=>true| .str _, .int _=>true| .bl _, .str _=>true| .str _, .bl _=>true
 |_,_=>false
def rEq:R2:=fun x y H Q=>scal x y=true∧Q (.bl (decide (x=y))) H
def rNe:R2:=fun x y H Q=>scal x y=true∧Q (.bl (!decide (x=y))) H
theorem ni {i j:Int}:decide (V.int i=V.int j)=(i==j):=by
 rw [Bool.eq_iff_iff]
 simp
theorem rh {i j:Bool}:decide (V.bl i=V.bl j)=(i==j):=by
 rw [Bool.eq_iff_iff]
 simp
theorem nh {i j:Str}:decide (V.str i=V.str j)=(i==j):=by
 rw [Bool.eq_iff_iff]
 simp
theorem nj {i j:Array UInt8}:decide (V.byt i=V.byt j)=(i.toList==j.toList):=by
 rw [Bool.eq_iff_iff]
 cases i
 cases j
 simp
section
variable {X:Cx} {a b c:Expr} {ta tb tc:TE} {pos:Pos}
theorem aO {pins:List (Addr×Obj)} {σ:St} {H:Hp} {s:Shared} {Q:VK} {k k':Bool} (I:Inv X pins σ H s) (q:Q (.bl k) H) (e:k=k'):EP X pins σ Q (.bool k') s:=by
 subst e
 exact ⟨.bl k,H,I,rfl,q⟩
theorem aS:OpR X (compareOp .Eq) rEq:=by
 intro pins s σ H x y v u Q I rx ry h
 obtain ⟨hs,q⟩:=h
 cases x with
 |non=>
  cases rx
  cases y with
  |non=>cases ry;exact PySem.EqNone.eq_none_none (aO I q (by simp))
  |bl j=>cases ry;exact PySem.EqNone.eq_none_bool (aO I q (by simp))
  |int j=>obtain ⟨t',rfl⟩:=ry;exact PySem.EqNone.eq_none_int (aO I q (by simp))
  |str j=>obtain ⟨t',rfl⟩:=ry;exact PySem.EqNone.eq_none_str (aO I q (by simp))
  |_=>exact absurd (show false=true from hs) xv
 |bl i=>
  cases rx
  cases y with
  |non=>cases ry;exact PySem.EqNone.eq_bool_none (aO I q (by simp))
  |bl j=>cases ry;exact eq_bool (aO I q rh)
  |str j=>obtain ⟨t',rfl⟩:=ry;exact PySem.EqMixed.eq_bool_str (aO I q (by simp))
  |_=>exact absurd (show false=true from hs) xv
 |int i=>
  obtain ⟨t,rfl⟩:=rx
  cases y with
  |non=>cases ry;exact PySem.EqNone.eq_int_none (aO I q (by simp))
  |int j=>obtain ⟨t',rfl⟩:=ry;exact eq_int (aO I q ni)
  |str j=>obtain ⟨t',rfl⟩:=ry;exact PySem.EqMixed.eq_int_str (aO I q (by simp))
  |_=>exact absurd (show false=true from hs) xv
 |str i=>
  obtain ⟨t,rfl⟩:=rx
  cases y with
  |non=>cases ry;exact PySem.EqNone.eq_str_none (aO I q (by simp))
  |bl j=>cases ry;exact PySem.EqMixed.eq_str_bool (aO I q (by simp))
  |int j=>obtain ⟨t',rfl⟩:=ry;exact PySem.EqMixed.eq_str_int (aO I q (by simp))
  |str j=>obtain ⟨t',rfl⟩:=ry;exact eq_str (aO I q nh)
  |_=>exact absurd (show false=true from hs) xv
 |byt i=>
  obtain ⟨t,rfl⟩:=rx
  cases y with
  |byt j=>obtain ⟨t',rfl⟩:=ry;exact PySem.W.eq_bytes (aO I q nj)
  |_=>exact absurd (show false=true from hs) xv
 |_=>cases y<;>exact absurd (show false=true from hs) xv
theorem ml:OpR X (compareOp .NotEq) rNe:=by
 intro pins s σ H x y v u Q I rx ry h
 obtain ⟨hs,q⟩:=h
 cases x with
 |non=>
  cases rx
  cases y with
  |non=>cases ry;exact PySem.EqNone.ne_none_none (aO I q (by simp))
  |bl j=>cases ry;exact PySem.EqNone.ne_none_bool (aO I q (by simp))
  |int j=>obtain ⟨t',rfl⟩:=ry;exact PySem.EqNone.ne_none_int (aO I q (by simp))
  |str j=>obtain ⟨t',rfl⟩:=ry;exact PySem.EqNone.ne_none_str (aO I q (by simp))
  |_=>exact absurd (show false=true from hs) xv
 |bl i=>
  cases rx
  cases y with
  |non=>cases ry;exact PySem.EqNone.ne_bool_none (aO I q (by simp))
  |bl j=>cases ry;exact ne_bool (aO I q (congrArg not rh))
  |str j=>obtain ⟨t',rfl⟩:=ry;exact PySem.EqMixed.ne_bool_str (aO I q (by simp))
  |_=>exact absurd (show false=true from hs) xv
 |int i=>
  obtain ⟨t,rfl⟩:=rx
  cases y with
  |non=>cases ry;exact PySem.EqNone.ne_int_none (aO I q (by simp))
  |int j=>obtain ⟨t',rfl⟩:=ry;exact ne_int (aO I q (congrArg not ni))
  |str j=>obtain ⟨t',rfl⟩:=ry;exact PySem.EqMixed.ne_int_str (aO I q (by simp))
  |_=>exact absurd (show false=true from hs) xv
 |str i=>
  obtain ⟨t,rfl⟩:=rx
  cases y with
  |non=>cases ry;exact PySem.EqNone.ne_str_none (aO I q (by simp))
  |bl j=>cases ry;exact PySem.EqMixed.ne_str_bool (aO I q (by simp))
  |int j=>obtain ⟨t',rfl⟩:=ry;exact PySem.EqMixed.ne_str_int (aO I q (by simp))
  |str j=>obtain ⟨t',rfl⟩:=ry;exact ne_str (aO I q (congrArg not nh))
  |_=>exact absurd (show false=true from hs) xv
 |byt i=>
  obtain ⟨t,rfl⟩:=rx
  cases y with
  |byt j=>obtain ⟨t',rfl⟩:=ry;exact PySem.W.ne_bytes (aO I q (congrArg not nj))
  |_=>exact absurd (show false=true from hs) xv
 |_=>cases y<;>exact absurd (show false=true from hs) xv
theorem pV:OpR X (compareOp .Lt) (rI0 fun i j=> .bl (decide (i < j))):=opB0 fun _ _ _ _ _ _ _ q=>lt_int q
theorem ub:OpR X (compareOp .Gt) (rI0 fun i j=> .bl (decide (j < i))):=opB0 fun _ _ _ _ _ _ _ q=>gt_int q
theorem wD:OpR X (compareOp .GtE) (rI0 fun i j=> .bl (decide (j≤i))):=opB0 fun _ _ _ _ _ _ _ q=>ge_int q
theorem uL:OpR X (compareOp .Is) (fun x y H Q=>y= .non∧Q (.bl (decide (x= .non))) H):=by
 intro pins s σ H x y v u Q I rx ry h
 obtain ⟨rfl,q⟩:=h
 cases ry
 refine is_none_gen (aO I q ?_)
 cases x<;>first
  |(cases rx;rfl)
  |(obtain ⟨t,rfl⟩:=rx;rfl)
theorem aB (b:Expr) {op:CmpOp} (h:op≠ .In:=by decide) (h2:op≠ .NotIn:=by decide):behindInMarks op b=false:=by
 have e1:(op==CmpOp.In)=false:=by cases op<;>first|rfl|exact absurd rfl h
 have e2:(op==CmpOp.NotIn)=false:=by cases op<;>first|rfl|exact absurd rfl h2
 cases b<;>simp [behindInMarks,e1,e2]
theorem j4 {op:CmpOp} {r:R2} (ho:OpR X (compareOp op) r) (ha:PE X a ta) (hb:PE X b tb) (hm:behindInMarks op b=false):PE X (.Compare a [op] [b] pos) (tOp r ta tb):=by
 intro pins s σ H Q I h
 exact wpAny_Compare1 (binT ha hb I h fun v u s2 x y H2 I2 rx ry q=>ho pins s2 σ H2 x y v u Q I2 rx ry q) hm
def w8 (t:TE):TT:=fun σ H Q=>t σ H fun x H'=>∃k,x= .bl k∧Q k H'
theorem au {op:CmpOp} {r:R2} (ho:OpR X (compareOp op) r) (ha:PE X a ta) (hb:PE X b tb) (hm:behindInMarks op b=false):PT X (.Compare a [op] [b] pos) (w8 (tOp r ta tb)):=by
 intro pins s σ H Q I h
 refine wpAny_isTrue_Compare1 (thn (ha pins s σ H _ I h) fun v s1 ⟨x,H1,I1,r1,q1⟩=>thn (hb pins s1 σ H1 _ I1 q1) fun u s2 ⟨y,H2,I2,r2,q2⟩=>
  thn (ho pins s2 σ H2 x y v u _ I2 r1 r2 q2) fun c s3 ⟨z,H3,I3,r3,k,e,q3⟩=> ?_) hm
 subst e
 cases r3
 exact wpAny_truthy_bool ⟨H3,I3,q3⟩
theorem gN:(sizeLine:Nat) < 2^63:=by rw [sizeLine_eq];decide
theorem bv:OpR X (binaryOp .Add) (fun x y H Q=>∃i j,x= .str i∧y= .str j∧i.length+j.length≤sizeLine∧Q (.str (i++j)) H):=by
 intro pins s σ H x y v u Q I rx ry h
 obtain ⟨i,j,rfl,rfl,hz,q⟩:=h
 obtain ⟨t,rfl⟩:=rx
 obtain ⟨t',rfl⟩:=ry
 exact add_str (fun t' tk=>⟨.str (i++j),H,I.tok _,⟨_,rfl⟩,q⟩) hz
theorem cQ {x:V} {us:List Value} (r:Vals [x] us):∃u,us= [u]∧RelV x u:=by
 cases r with
 |cons r1 r2=>cases r2;exact ⟨_,rfl,r1⟩
theorem km:c7 X (.builtin "abs") (fun xs H Q=>∃i,xs= [.int i]∧Q (.int (if i < 0 then -i else i)) H):=by
 intro pins s σ H xs us Q I r h
 obtain ⟨i,rfl,q⟩:=h
 obtain ⟨u,rfl,t,rfl⟩:=cQ r
 exact call_abs_int fun u tk=>⟨.int (if i < 0 then -i else i),H,I.tok _,⟨_,rfl⟩,q⟩
theorem eI:c7 X (.type "str") (fun xs H Q=>∃i,xs= [.int i]∧i.natAbs.log2 < 1920∧Q (.str (toString i)) H):=by
 intro pins s σ H xs us Q I r h
 obtain ⟨i,rfl,hz,q⟩:=h
 obtain ⟨u,rfl,t,rfl⟩:=cQ r
 exact PySem.P.str_of_int hz ⟨.str _,H,I.tok _,⟨_,rfl⟩,q⟩
end
open PySem PySem.Spec PyProof.Rows
structure ObjM (h:Heap) (x dx C:Addr) (mA:Str→Option Value):Prop where
 obj:h.get? x=some (PySem.W.instObj C dx)
 ns:h.Ns1 dx mA
 ne:dx≠x
theorem o3 {h:Heap} {dx:Addr} {mA:Str→Option Value} (n:h.Ns1 dx mA):∃od,h.get? dx=some od∧∀name,PySem.W.lookIn name od=some (mA name):=by
 obtain ⟨o,es,ep,ho,hd,hk,_,hm⟩:=n
 refine ⟨o,ho,fun name=> ?_⟩
 have e:=hm name
 unfold nsFind findBy at e
 rw [←Array.find?_toList] at e
 unfold PySem.W.lookIn
 rw [hd]
 dsimp only
 split
 · rename_i y q
   rw [q] at e
   exact congrArg some e
 · rename_i q
   rw [q] at e
   have a:es.toList.any (·.refKey)=false:=by
    rw [List.any_eq_false]
    intro y hy
    obtain ⟨z,t,hkey⟩:=hk y (yf.mp hy)
    simp [DictEntry.refKey,hkey]
   have a':¬es.toList.any (·.refKey)=true:=by rw [a];exact xv
   rw [if_neg a']
   exact congrArg some e
theorem ObjM.look {h:Heap} {x dx C:Addr} {mA:Str→Option Value} (I:ObjM h x dx C mA):∃od,PySem.W.InstAt h x (PySem.W.instObj C dx) C (some od)∧∀name,PySem.W.lookIn name od=some (mA name):=
 let ⟨od,ho,hl⟩:=o3 I.ns
 ⟨od,⟨I.obj,rfl,rfl,ho⟩,hl⟩
section
variable {prog:Program} {w:World} {A:Around} {E:Value→Shared→Prop} {s:Shared} {K:PySem.W.Frag} {x dx C f:Addr} {mA:Str→Option Value} {name:Str} {v:Value}
end
section
variable {P:Program} {w:World} {H H':Hp} {h h':Heap} {a C dx:Addr} {fs fs':List (Str×V)}
theorem t4 (hok:HOk P w H h) (e:H a=some (.ins C dx fs)):∃mA,ObjM h a dx C mA∧(∀f,RelO (fs.lookup f) (mA f))∧PySem.Within mA (fs.map (·.1))∧fs.length≤1000∧H dx=some (.own a):=by
 obtain ⟨d,z,ne,ob,mA,n,r,q⟩:=(show ObjOk P w H h a (.ins C dx fs) from hok a _ e)
 exact ⟨mA,⟨ob,n,ne⟩,r,q,z,d⟩
end
structure Cls (K:PySem.W.Frag) (C:Addr):Prop where
 pg:PySem.W.plainGet K C Str.empty=true
 hd:PySem.W.hasDictIn K C=true
 po:PySem.W.plainOver K C=true
 sa:PySem.W.findIn K (.ref C) "__setattr__"=some (some (.builtin "object.__setattr__"))
theorem Cls.get {K:PySem.W.Frag} {C:Addr} (c:Cls K C) (f:Str):PySem.W.plainGet K C f=true:=c.pg
section
variable {X:Cx} {pins:List (Addr×Obj)} {σ:St} {H:Hp} {s:Shared} {a C dx:Addr} {fs:List (Str×V)} {f:Str} {v:V} {A:Around} {E:Value→Shared→Prop}
theorem Inv.made (I:Inv X pins σ H s):Inv X pins σ (upd (upd H s.heap.objs.size (.own (s.heap.objs.size+1))) (s.heap.objs.size+1) (.ins C s.heap.objs.size []))
 {s with heap:=(s.heap.push PySem.W.emptyDict).push (PySem.W.instObj C s.heap.objs.size)}:=by
 have e1:(s.heap.push PySem.W.emptyDict).get? s.heap.objs.size=some PySem.W.emptyDict:=Heap.get?_push_size s.heap rfl
 have e2:((s.heap.push PySem.W.emptyDict).push (PySem.W.instObj C s.heap.objs.size)).get? (s.heap.objs.size+1)=some (PySem.W.instObj C s.heap.objs.size):=by
  have:=Heap.get?_push_size (s.heap.push PySem.W.emptyDict) (o:=PySem.W.instObj C s.heap.objs.size) rfl
  rwa [Heap.size_push] at this
 have e3:(s.heap.push PySem.W.emptyDict).Ns s.heap.objs.size (fun _=>none):=⟨PySem.W.emptyDict, #[],_,e1,rfl,(fun e he=>absurd he (by simp)),fun _=>rfl⟩
 have I1:=I.laid (a:=s.heap.objs.size) (o:= .own (s.heap.objs.size+1)) (h':=s.heap.push PySem.W.emptyDict) (t':=s.toks) (fun b u q=>Heap.get?_push_of_some _ q) (x9 _) ⟨_,e1⟩
 refine I1.laid (a:=s.heap.objs.size+1) (o:= .ins C s.heap.objs.size []) (t':=s.toks) (fun b u q=>Heap.get?_push_of_some _ q) (Nat.le_of_eq (Heap.size_push _ _)) ?_
 have ne:s.heap.objs.size≠s.heap.objs.size+1:=xu (Nat.lt_succ_self _)
 refine ⟨by rw [aG ne,ac],xz _,ne,e2,fun _=>none,(Heap.Ns1.of_empty e3).at fun o q=>Heap.get?_push_of_some _ q,fun _=>True.intro,fun y hy=>absurd rfl hy⟩
end
section
variable {X:Cx} {o e value:Expr} {f:Str} {pos pos' tpos:Pos} {ta tv:TE}
end
section
variable {X:Cx} {pins:List (Addr×Obj)} {σ:St} {H:Hp} {s:Shared} {A:Around} {E:Value→Shared→Prop} {Q:Value→Shared→Prop} {c:Value} {b:Bool}
inductive TyOf (K:PySem.W.Frag) (H:Hp):V→Value→Prop where
 |non:TyOf K H .non (.type "NoneType")
 |bl (x:Bool):TyOf K H (.bl x) (.type "bool")
 |int (i:Int):TyOf K H (.int i) (.type "int")
 |str (x:Str):TyOf K H (.str x) (.type "str")
 |flt (x:UInt64):TyOf K H (.flt x) (.type "float")
 |lst {a:Addr} {xs:List V} (e:H a=some (.lst xs)):TyOf K H (.ref a) (.type "list")
 |frz {a:Addr} {o:Obj} {xs:List V} (e:H a=some (.frz o (.lst xs))):TyOf K H (.ref a) (.type "list")
 |tup {a:Addr} {xs:List V} (e:H a=some (.tup xs)):TyOf K H (.ref a) (.type "tuple")
 |dK {a:Addr} {kvs:List (Key×V)} (e:H a=some (.dK kvs)):TyOf K H (.ref a) (.type "dict")
 |dT {a:Addr} {kvs:List (List Key×V)} (e:H a=some (.dT kvs)):TyOf K H (.ref a) (.type "dict")
 |ins {a C dx:Addr} {fs:List (Str×V)} (e:H a=some (.ins C dx fs)) (cl:Cls K C) (ha:PySem.W.findIn K (.ref C) "__class__"=some (some (.builtin "object.__class__")))
  (hn:PySem.W.specialIn K (.builtin "object.__class__") "__get__"=some (some (.builtin "getset_descriptor.__get__"))) (htk:PySem.W.takesIn K (.builtin "object.__class__")=some true)
  (hm:PySem.W.mroIn K C (.type "object")=some true):TyOf K H (.ref a) (.ref C)
end
open PySem PySem.Spec PyProof.Rows
structure Room (k:Nat) (A:Around):Prop where
 hd:A.handled=none
 dp:A.depth+3*k+5 < recursionLimit
 un:A.units+16*k+200 < cLine
 gd:A.guards=some []
theorem Room.mono {j k:Nat} {A:Around} (r:Room k A) (h:j≤k):Room j A:=⟨r.hd,by have:=r.dp;omega,by have:=r.un;omega,r.gd⟩
theorem Room.deeper {k:Nat} {A:Around} (r:Room (k+1) A) (env:Env):Room k (A.deeper env):=
 ⟨r.hd,by have:=r.dp;show A.depth+1+3*k+5 < _;omega,by have:=r.un;show A.units+3+16*k+200 < _;omega,by first|exact r.gd|(have:=r.gd;simpa [Around.deeper,Around.under] using this)⟩
theorem Room.in1 {k:Nat} {A:Around} (r:Room (k+1) A):Room k A.in1:=
 ⟨r.hd,by have:=r.dp;show A.depth+3*k+5 < _;omega,by have:=r.un;show A.units+1+16*k+200 < _;omega,r.gd⟩
theorem Room.depth {k:Nat} {A:Around} (r:Room k A):A.depth < recursionLimit:=by have:=r.dp;omega
theorem Room.units {k:Nat} {A:Around} (r:Room k A):A.units+64 < cLine:=by have:=r.un;omega
def tNil:TA:=fun _ H Q=>Q [] H
def bq (ta:TE) (tr:TA):TA:=fun σ H Q=>ta σ H fun x H1=>tr σ H1 fun xs H2=>Q (x::xs) H2
section
variable {X:Cx} {e:Expr} {es:List Expr} {te:TE} {t:TA} {pos:Pos}
theorem aa:PA X [] tNil:=fun _ _ _ _ H Q I h=>Calls.spliced_nil ⟨[],H,I, .nil,h⟩
theorem a9 (ha:PE X e te) (hr:PA X es t) (hs:starEach (e::es) X.env=(false,eval e X.env)::starEach es X.env:=by rfl):PA X (e::es) (bq te t):=by
 intro pos pins s σ H Q I h
 rw [hs]
 show wpAny _ _ (spliced ((false,eval e X.env)::backTo pos (starEach es X.env))) _ _ s
 refine Calls.spliced_cons (thn (ha pins s σ H _ I h) fun u s1 ⟨x,H1,I1,r1,q1⟩=> ?_)
 exact thn (hr pos pins s1 σ H1 _ I1 q1) fun us s2 ⟨xs,H2,I2,r2,q2⟩=>⟨x::xs,H2,I2, .cons r1 r2,q2⟩
def tTup (t:TA):TE:=fun σ H Q=>t σ H fun xs H1=>xs.length≤sizeLine∧∀p,H1 p=none→Q (.ref p) (upd H1 p (.tup xs))
def tLst (t:TA):TE:=fun σ H Q=>t σ H fun xs H1=>xs.length≤sizeLine∧∀p,H1 p=none→Q (.ref p) (upd H1 p (.lst xs))
theorem bJ {x1} (h:PA X es t):PE X (.Tuple es x1 pos) (tTup t):=by
 intro pins s σ H Q I hq
 refine wpAny_Tuple_spliced (thn (h pos pins s σ H _ I hq) fun us s1 ⟨xs,H1,I1,r,z,q⟩=>⟨by rw [←r.length];exact z,?_⟩)
 have hf:H1 s1.heap.objs.size=none:=I1.hok.fresh (x9 _)
 refine ⟨.ref s1.heap.objs.size,upd H1 s1.heap.objs.size (.tup xs),I1.laid (t':=s1.toks) (fun b u e=>Heap.get?_push_of_some _ e) (x9 _) ?_,rfl,q _ hf⟩
 exact ⟨z,us,r,⟨_,Heap.get?_push_size _ rfl,rfl,_,rfl⟩⟩
theorem aL (h:PA X es t):PE X (.List es pos) (tLst t):=by
 intro pins s σ H Q I hq
 refine wpAny_List_spliced (thn (h pos pins s σ H _ I hq) fun us s1 ⟨xs,H1,I1,r,z,q⟩=>⟨by rw [←r.length];exact z,?_⟩)
 have hf:H1 s1.heap.objs.size=none:=I1.hok.fresh (x9 _)
 refine ⟨.ref s1.heap.objs.size,upd H1 s1.heap.objs.size (.lst xs),I1.laid (t':=s1.toks) (fun b u e=>Heap.get?_push_of_some _ e) (x9 _) ?_,rfl,q _ hf⟩
 exact ⟨z,us,0,r,Heap.get?_push_size _ rfl⟩
end
abbrev Sp:=List V→Hp→VK→XK→Prop
abbrev CXT:=List Env→Hp→Shared→XK→Value→Shared→Prop
structure Env0 (P:Program) (w:World) (K:PySem.W.Frag) (mg:Str→Option Value) (base:Heap) (A:Around) (outer:List Env) (s:Shared) (H:Hp):Prop where
 frames:A.frames=some outer
 mod:Mod K mg base
 bs:∀b o,base.get? b=some o→s.heap.get? b=some o∧Idl (H b)
 bsz:base.objs.size≤s.heap.objs.size
 funs:s.heap.FunFrames base outer
 frf:∀b∈frs outer,H b=none
 hok:HOk P w H s.heap
 bare:AllBare s.gens
def CE (outer:List Env) (P:Program) (w:World) (H:Hp) (s:Shared) (Q:VK) (u:Value) (s':Shared):Prop:=
 ∃v H',s'.os=s.os∧AllBare s'.gens∧Un (frs outer) [] H H' s.heap s'.heap∧HOk P w H' s'.heap∧RelV v u∧Q v H'
def CR (CX:CXT) (outer:List Env) (P:Program) (w:World) (H:Hp) (s:Shared) (Q:VK) (E:XK) (r:Result) (s':Shared):Prop:=
 match r with
 | .ok (.ret u)=>CE outer P w H s Q u s'
 | .ok _=>False
 | .error e=>CX outer H s E e s'
structure FnOk (P:Program) (w:World) (K:PySem.W.Frag) (mg:Str→Option Value) (base:Heap) (CX:CXT) (k:Nat) (f:Addr) (fd:FuncData) (ps:List Str) (sp:Sp):Prop where
 len:∀vs H Q E,sp vs H Q E→vs.length=ps.length
 run:∀(A:Around) (outer:List Env) (s:Shared) (H:Hp) (args:Args) (us:List Value) (vs:List V) (Q:VK) (E:XK),Room k A→Env0 P w K mg base A outer s H→BindsTo s fd args (ps.zip us)→Vals vs us→sp vs H Q E→
  codeAny (model P w) A (.call (.ref f) args) (CR CX outer P w H s Q E) s
theorem Env0.in1 {P:Program} {w:World} {K:PySem.W.Frag} {mg:Str→Option Value} {base:Heap} {A:Around} {outer:List Env} {s:Shared} {H:Hp} (e:Env0 P w K mg base A outer s H):
 Env0 P w K mg base A.in1 outer s H:=⟨e.frames,e.mod,e.bs,e.bsz,e.funs,e.frf,e.hok,e.bare⟩
section
variable {X:Cx} {pins:List (Addr×Obj)} {σ:St} {H:Hp} {s s':Shared}
theorem Inv.env0 (I:Inv X pins σ H s):Env0 X.prog X.w X.K X.mg X.base X.A X.stack s H:=
 ⟨I.ok.frames,I.ok.mod,I.bs,xI I.ok.bsz I.sz,I.stack,I.stkFree,I.hok,I.bare⟩
theorem Inv.after {Q:VK} {u:Value} (I:Inv X pins σ H s) (h:CE X.stack X.prog X.w H s Q u s'):EP X pins σ Q u s':=by
 obtain ⟨v,H',os,bare,un,hok,r,q⟩:=h
 obtain ⟨hh,g,d,t,os'⟩:=s'
 obtain rfl:os'=s.os:=os
 exact ⟨v,H',I.call (h':=hh) (g':=g) (d':=d) (t':=t) (ch:= []) un hok bare (fun b z=>absurd z (by simp)),r,q⟩
end
def g9 (sp:Sp) (dvs:List V) (E:XK) (t:TA):TE:=fun σ H Q=>t σ H fun vs H1=>sp (vs++dvs) H1 Q E
def Binds (K:PySem.W.Frag) (fd:FuncData) (ps:List Str) (ds:List Value):Prop:=
 ∀(s:Shared) (us:List Value),K.In s.heap→(us++ds).length=ps.length→BindsTo s fd ⟨us,[]⟩ (ps.zip (us++ds))
theorem Binds.all {K:PySem.W.Frag} {fd:FuncData} {ps:List Str} (h:∀us:List Value,us.length=ps.length→bindArgs fd ⟨us,[]⟩=pure (ps.zip us)):Binds K fd ps []:=fun s us _ hl=>by
 rw [yg] at hl ⊢
 exact .of_eq (h us hl)
def lI (CX:CXT) (X:Cx) (E:XK):Prop:=∀(pins:List (Addr×Obj)) (σ:St) (H:Hp) (s:Shared) (e:Value) (s':Shared),Inv X pins σ H s→CX X.stack H s E e s'→X.xe e s'
section
variable {X:Cx} {CX:CXT} {k:Nat} {f C:Addr} {fd:FuncData} {ps:List Str} {sp:Sp} {dvs:List V} {ds:List Value} {E:XK} {x m:Str} {p pos apos:Pos} {e o:Expr} {es:List Expr} {ta:TE} {t:TA}
theorem uC {pins:List (Addr×Obj)} {σ:St} {H:Hp} {s:Shared} {Q:VK} {us:List Value} {vs:List V} (F:FnOk X.prog X.w X.K X.mg X.base CX k f fd ps sp) (hr:Room k X.A) (hb:Binds X.K fd ps ds) (hd:Vals dvs ds) (hx:lI CX X E)
 (I:Inv X pins σ H s) (r:Vals vs us) (h:sp (vs++dvs) H Q E):wpAny (model X.prog X.w) X.A (call (.ref f) us) (EP X pins σ Q) X.xe s:=by
 have r2:Vals (vs++dvs) (us++ds):=r.append hd
 have hl:(us++ds).length=ps.length:=by rw [←r2.length];exact F.len _ _ _ _ h
 refine wpAny_call (codeAny_mono (F.run X.A X.stack s H ⟨us,[]⟩ (us++ds) (vs++dvs) Q E hr I.env0 (hb s us I.kIn hl) r2 h) fun r s' hq=> ?_)
 cases r with
 |error e=>exact hx pins σ H s e s' I hq
 |ok fl=>
  cases fl with
  |ret u=>exact I.after hq
  |next=>exact False.elim hq
  |brk=>exact False.elim hq
  |cont=>exact False.elim hq
theorem ah (F:FnOk X.prog X.w X.K X.mg X.base CX k f fd ps sp) (hr:Room k X.A) (hg:Gl X x) (hm:X.mg x=some (.ref f)) (hk:PySem.W.keepIn X.K (.ref f)=true) (hb:Binds X.K fd ps ds) (hd:Vals dvs ds) (hx:lI CX X E)
 (ha:PA X (e::es) t) (hdb:(x==("__debug__":Str))=false:=by decide) (he:starEach (e::es) X.env=(false,eval e X.env)::starEach es X.env:=by rfl) (hpl:(backTo pos (starEach es X.env)).any (·.1)=false:=by rfl):
 PE X (.Call (.Name x p) (e::es) [] pos) (g9 sp dvs E t):=by
 intro pins s σ H Q I h
 refine wpAny_Call_Name_kw (mH I hg hm ?_ hdb)
 refine PySem.W.callWith_K (h₀:=X.base) I.ok.mod.kin hk (thn (ha pos pins s σ H _ I h) fun us s1 ⟨vs,H1,I1,r,q⟩=>⟨I1.kIn,?_⟩) he hpl
 exact uC F hr hb hd hx I1 r q
end
section
variable {X:Cx} {CX:CXT} {k:Nat} {f C:Addr} {fd:FuncData} {ps ks:List Str} {sp:Sp} {E:XK} {x m:Str} {p pos apos kpos:Pos} {e o:Expr} {es:List Expr} {kws:List Keyword} {te ta:TE} {t tk:TA} {nm:Option Str}
variable {g:List Value→List Value→List Value} {gV:List V→List V→List V}
end
structure ay (N P:List Str) (sc:Scope):Prop where
 kind:sc.kind= .function
 co:sc.isCoroutine=false
 gen:sc.isGenerator=false
 nd:N.Nodup
 pre:N.take P.length=P
 par:∀x∈P,sc.names.lookup x=some .local∨sc.names.lookup x=some .cell
 nofree:∀y∈sc.names,y.2≠ .free
theorem iD {kindOf:Str→Option NameKind} {x:Str}:∀ {binds:List (Str×Value)} {m:Str→Option Value},(∀v,(x,v)∉binds)→bindL kindOf binds m x=m x
 | [],_,_=>rfl
 |(n,v)::r,m,h=>by
  unfold bindL
  rw [iD fun w hw=>h w (x6 _ hw)]
  split
  · have:x≠n:=by rintro rfl;exact h v x5
    simp [this]
  · rfl
theorem iF {kindOf:Str→Option NameKind} {x:Str}:∀ {binds:List (Str×Value)} {m:Str→Option Value},(∀v,(x,v)∉binds)→bindC kindOf binds m x=m x
 | [],_,_=>rfl
 |(n,v)::r,m,h=>by
  unfold bindC
  rw [iF fun w hw=>h w (x6 _ hw)]
  split
  · rfl
  · have:x≠n:=by rintro rfl;exact h v x5
    simp [this]
theorem iE {kindOf:Str→Option NameKind} {x:Str} {v:Value}:∀ {P:List Str} {vs:List Value} {i:Nat} {m:Str→Option Value},P.Nodup→P[i]?=some x→vs[i]?=some v→kindOf x=some .local→
 bindL kindOf (P.zip vs) m x=some v
 | [],_,_,_,_,h,_,_=>by simp at h
 |_::_,[],_,_,_,_,h,_=>by simp at h
 |p::P,w::vs,0,m,nd,h1,h2,hk=>by
  simp at h1 h2;subst h1;subst h2
  show bindL kindOf ((p,w)::P.zip vs) m p=_
  unfold bindL
  rw [iD fun v hv=>(yv.mp nd).1 (List.of_mem_zip hv).1,if_pos hk]
  simp
 |p::P,w::vs,i+1,m,nd,h1,h2,hk=>by
  show bindL kindOf ((p,w)::P.zip vs) m x=_
  unfold bindL
  exact iE (i:=i) (yv.mp nd).2 (by simpa using h1) (by simpa using h2) hk
theorem iG {kindOf:Str→Option NameKind} {x:Str} {v:Value}:∀ {P:List Str} {vs:List Value} {i:Nat} {m:Str→Option Value},P.Nodup→P[i]?=some x→vs[i]?=some v→kindOf x≠some .local→
 bindC kindOf (P.zip vs) m x=some v
 | [],_,_,_,_,h,_,_=>by simp at h
 |_::_,[],_,_,_,_,h,_=>by simp at h
 |p::P,w::vs,0,m,nd,h1,h2,hk=>by
  simp at h1 h2;subst h1;subst h2
  show bindC kindOf ((p,w)::P.zip vs) m p=_
  unfold bindC
  rw [iF fun v hv=>(yv.mp nd).1 (List.of_mem_zip hv).1,if_neg hk]
  simp
 |p::P,w::vs,i+1,m,nd,h1,h2,hk=>by
  show bindC kindOf ((p,w)::P.zip vs) m x=_
  unfold bindC
  exact iG (i:=i) (yv.mp nd).2 (by simpa using h1) (by simpa using h2) hk
noncomputable def fc (N:List Str) (vs:List V):St:=vs.map some++List.replicate (N.length - vs.length) none
noncomputable def cxOf (CX:CXT) (P:Program) (w:World) (K:PySem.W.Frag) (mg:Str→Option Value) (base:Heap) (N:List Str) (qual:Str) (scope:Scope) (f:Addr) (cd:Value) (A:Around) (outer:List Env) (s:Shared) (H:Hp) (E:XK):Cx where
 prog:=P
 w:=w
 K:=K
 mg:=mg
 base:=base
 A:=A.deeper (envOfC qual scope s.heap.objs.size f cd)
 N:=N
 s₀:=s
 H₀:=H
 env:=envOfC qual scope s.heap.objs.size f cd
 outer:=outer
 stack:=envOfC qual scope s.heap.objs.size f cd::outer
 ex:= []
 calm:=true
 fn:=fun _=>true
 pn:= []
 xe:=fun e s'=>wpAny (model P w) (A.deeper (envOfC qual scope s.heap.objs.size f cd)) (leaving (envOfC qual scope s.heap.objs.size f cd) e) (fun _ s''=>CX outer H s E e s'') (fun e' s''=>CX outer H s E e' s'') s'
theorem kj {sc:Scope} {n:Nat} {x:Str} (h:sc.names.lookup x=some .cell):∃c,(cellsFrom n sc.names []).lookup x=some c:=by
 have q:=PySem.W.cellsFrom_some sc.names n [] (.inl h)
 exact Option.isSome_iff_exists.mp q
theorem o4 {CX:CXT} {P:Program} {w:World} {K:PySem.W.Frag} {mg:Str→Option Value} {base:Heap} {N ps:List Str} {qual:Str} {scope:Scope} {f:Addr} {cd:Value} {A:Around} {outer:List Env} {s s1:Shared} {H:Hp} {E:XK} {us:List Value} {vs:List V}
 (S:ay N ps scope) (hd:A.handled=none) (e0:Env0 P w K mg base A outer s H) (hl:vs.length=ps.length) (r:Vals vs us)
 (x:InCallC s s.heap.objs.size (bindL (envOfC qual scope s.heap.objs.size f cd).kindOf (ps.zip us) fun _=>none) (cellsFrom (s.heap.objs.size+1) scope.names []) (bindC (envOfC qual scope s.heap.objs.size f cd).kindOf (ps.zip us) fun _=>none) s1):
 Inv (cxOf CX P w K mg base N qual scope f cd A outer s H E) [] (fc N vs) H s1:=by
 have hpl:ps.length≤N.length:=by have:=congrArg List.length S.pre;rw [xM] at this;omega
 obtain ⟨h1,tk,rfl,hk⟩:=x.done
 have noA:∀b:Addr,b∉(cxOf CX P w K mg base N qual scope f cd A outer s H E).ex:=fun b z=>absurd (show b∈([]:List Addr) from z) (by simp)
 refine ⟨⟨e0.mod,S.kind,rfl,rfl,x9 _,fun y z c h1 h2=> ?_,fun y hy=> ?_,fun y c _ h=> ?_,fun _=>hd,Around.frames_deeper e0.frames, .inr ⟨rfl,rfl⟩,fun b z=>absurd z (noA b),e0.bs,e0.bsz,fun b _ _=>noA b,fun b z=>absurd z (noA b),e0.funs,e0.frf⟩,
  rfl,e0.bare,Un.kept hk,⟨_,x.toInCall.ns,fun i y v h1 h2 h3=> ?_⟩,fun y c h=>⟨_,x.cell y c h⟩,e0.hok.fresh (x9 _),fun y c h=> ?_,fun p hp=>absurd (show p∈([]:List (Addr×Obj)) from hp) (by simp),e0.hok.kept hk,?_⟩
 · exact name_of_addr x.apart (PySem.mem_of_lookup h1) (PySem.mem_of_lookup h2)
 · have hy:scope.names.lookup y=some .cell∨scope.names.lookup y=some .free:=hy
   rcases hy with hy|hy
   · exact kj hy
   · exact absurd rfl (S.nofree _ (PySem.mem_of_lookup hy))
 · exact Nat.le_of_lt (x.above y c (PySem.mem_of_lookup h))
 · have hi:i < vs.length:=by
    unfold fc at h2
    by_cases hi:i < vs.length
    · exact hi
    · rw [List.getElem?_append_right (by simpa using hi)] at h2
      rw [List.getElem?_replicate] at h2
      split at h2<;>cases h2
   have ha:vs[i]?=some v:=by
    unfold fc at h2
    rw [List.getElem?_append_left (by simpa using hi),xw] at h2
    cases e:vs[i]? with
    |none=>rw [e] at h2;cases h2
    |some a=>rw [e] at h2;cases h2;rfl
   obtain ⟨u,hu,rv⟩:=r.get ha
   have hp:ps[i]?=some y:=by
    rw [←S.pre,List.getElem?_take_of_lt (by omega)];exact h1
   have ndP:ps.Nodup:=by rw [←S.pre];exact S.nd.sublist (List.take_sublist _ _)
   refine ⟨u,rv,?_⟩
   rcases S.par y (xa hp) with k|k
   · exact .inl ⟨k,iE ndP hp hu k⟩
   · obtain ⟨c,e⟩:=kj (n:=s.heap.objs.size+1) k
     refine .inr ⟨.inl k,c,e,?_⟩
     have q:=x.cell y c e
     rw [iG ndP hp hu (by show scope.names.lookup y≠_;rw [k];decide)] at q
     exact q
 · exact e0.hok.fresh (Nat.le_of_lt (x.above y c (PySem.mem_of_lookup h)))
 · unfold fc
   show _=N.length
   rw [x3,wZ,List.length_replicate]
   omega
theorem wS {CX:CXT} {P:Program} {w:World} {K:PySem.W.Frag} {mg:Str→Option Value} {base:Heap} {k:Nat} {f:Addr} {name qual:Str} {params:Arguments} {body:List Stmt} {scope:Scope} {dV kV doc pm cdv ct oc:Value} {an od:Option Addr}
 {osl:Array (Option Value)} {N ps:List Str} {sp:Sp} (lk:K.lookup f=some ⟨oc,od, .func (PySem.W.fnOf name qual params body scope dV kV doc pm an cdv ct),osl⟩) (hcd:PySem.W.codeIn K cdv qual=true) (S:ay N ps scope)
 (len:∀vs H Q E,sp vs H Q E→vs.length=ps.length)
 (hbody:∀(A:Around) (outer:List Env) (s:Shared) (H:Hp) (vs:List V) (Q:VK) (E:XK),Room k (A.deeper (envOfC qual scope s.heap.objs.size f cdv))→sp vs H Q E→
  ∃t,PSs (cxOf CX P w K mg base N qual scope f cdv A outer s H E) body t∧t {nx:=fun _ H'=>Q .non H',rt:=Q} (fc N vs) H):
 FnOk P w K mg base CX (k+1) f (PySem.W.fnOf name qual params body scope dV kV doc pm an cdv ct) ps sp:=by
 refine ⟨len,fun A outer s H args us vs Q E hr e0 hb r hsp=> ?_⟩
 have hl:=len _ _ _ _ hsp
 have KX:K.In s.heap:=e0.mod.kin.keeps fun b o e=>(e0.bs b o e).1
 have lim:s.heap.NoLimit:=e0.mod.nolimit.keeps fun b o e=>(e0.bs b o e).1
 have hkind:∀y∈ps.zip us,scope.names.lookup y.1=some .local∨(scope.names.lookup y.1=some .cell∧((cellsFrom (s.heap.objs.size+1) scope.names []).lookup y.1).isSome=true):=fun ⟨n,v⟩ hy=>by
  rcases S.par n (List.of_mem_zip hy).1 with q|q
  · exact .inl q
  · exact .inr ⟨q,PySem.W.cellsFrom_some _ _ _ (.inl q)⟩
 refine codeAny_call_function hr.depth (KX _ _ lk) rfl S.co S.gen rfl (PySem.W.codeRec_of KX hcd) (hb _ _ _ _ ?_)
 refine wpAny_newFunctionEnv_cells S.kind hkind fun env he s1 x=> ?_
 subst he
 refine ⟨lim.keeps x.toInCall.keep,codeAny_func ?_⟩
 obtain ⟨t,ht,hq⟩:=hbody A outer s H vs Q E (hr.deeper _) hsp
 have I:Inv (cxOf CX P w K mg base N qual scope f cdv A outer s H E) [] (fc N vs) H s1:=o4 S hr.hd e0 hl r x
 refine wpAny_mono (ht [] s1 (fc N vs) H _ I hq) (fun fl s' hs=> ?_) fun e s' hs=>hs
 have fin:∀ {σ':St} {H':Hp} {v:V} {u:Value},Inv (cxOf CX P w K mg base N qual scope f cdv A outer s H E) [] σ' H' s'→RelV v u→Q v H'→CE outer P w H s Q u s':=
  fun {σ' H' v u} J rv q=>⟨v,H',J.os,J.bare,J.base,J.hok,rv,q⟩
 cases fl with
 |ret u=>
  obtain ⟨v,σ',H',J,rv,q⟩:=hs
  exact fin J rv q
 |next=>
  obtain ⟨σ',H',J,q⟩:=hs
  exact fin (v:=V.non) (u:=Value.none) J rfl q
 |brk=>
  obtain ⟨_,_,_,q⟩:=hs
  exact False.elim q
 |cont=>
  obtain ⟨_,_,_,q⟩:=hs
  exact False.elim q
open PySem PySem.Spec PyProof.Rows
section
variable {X:Cx} {x:Str} {p pos:Pos} {e:Expr} {es:List Expr} {t:TA} {id T:String} {r:List V→Hp→VK→Prop}
def tCB (r:List V→Hp→VK→Prop) (t:TA):TE:=fun σ H Q=>t σ H fun vs H1=>r vs H1 Q
theorem aE (hc:c7 X (.builtin id) r) (hg:Gl X x) (hm:X.mg x=none) (hv:bootBuiltins x=some (.builtin id)) (ha:PA X (e::es) t) (hn:x≠"__name__":=by decide) (hdb:(x==("__debug__":Str))=false:=by decide)
 (he:starEach (e::es) X.env=(false,eval e X.env)::starEach es X.env:=by rfl) (hpl:(backTo pos (starEach es X.env)).any (·.1)=false:=by rfl):PE X (.Call (.Name x p) (e::es) [] pos) (tCB r t):=by
 intro pins s σ H Q I h
 refine wpAny_Call_Name_kw (gQ I hg hm hv ?_ hn hdb)
 exact PyProof.Rows.callWith_builtin1 (thn (ha pos pins s σ H _ I h) fun us s1 ⟨vs,H1,I1,r1,q1⟩=>hc pins s1 σ H1 vs us Q I1 r1 q1) he hpl
theorem aU (hc:c7 X (.type T) r) (hg:Gl X x) (hm:X.mg x=none) (hv:bootBuiltins x=some (.type T)) (ha:PA X (e::es) t) (hn:x≠"__name__":=by decide) (hdb:(x==("__debug__":Str))=false:=by decide)
 (he:starEach (e::es) X.env=(false,eval e X.env)::starEach es X.env:=by rfl) (hpl:(backTo pos (starEach es X.env)).any (·.1)=false:=by rfl):PE X (.Call (.Name x p) (e::es) [] pos) (tCB r t):=by
 intro pins s σ H Q I h
 refine wpAny_Call_Name_kw (gQ I hg hm hv ?_ hn hdb)
 exact PyProof.Rows.callWith_type1 (thn (ha pos pins s σ H _ I h) fun us s1 ⟨vs,H1,I1,r1,q1⟩=>hc pins s1 σ H1 vs us Q I1 r1 q1) he hpl
end
end L2
namespace HT
open PySem PyProof.Rows
section
open PySem.SeqAt
open PySem.AutoSeq1 (wpAny_loadPart')
open PySem.MeetsSeq PySem.MeetsSeq2 PySem.MeetsSeq3
end
section
variable {prog:Program} {w:World} {A:Around} {E:Value→Shared→Prop} {s:Shared}
noncomputable def sIx (n d:Nat):Option Int→Nat
 |none=>d
 |some v=>if v < 0 then (v+(n:Int)).toNat else min v.toNat n
end
end HT
namespace L2
open PySem PySem.Spec PyProof.Rows
abbrev TO:=St→Hp→(Option Int→Hp→Prop)→Prop
def PO (X:Cx) (e:Option Expr) (t:TO):Prop:=
 ∀(pins:List (Addr×Obj)) (s:Shared) (σ:St) (H:Hp) (Q:Option Int→Hp→Prop),Inv X pins σ H s→t σ H Q→
  wpAny (model X.prog X.w) X.A (evalPart e X.env) (fun u s'=>∃o H',Inv X pins σ H' s'∧IsPart u o∧Q o H') X.xe s
def lP:TO:=fun _ H Q=>Q none H
def tT (t:TE):TO:=fun σ H Q=>t σ H fun x H1=>∃i,x= .int i∧Q (some i) H1
theorem lB {ns:List Int}:∀ {us:List Value},Vals (ns.map V.int) us→IntsAre us ns:=by
 induction ns with
 |nil=>intro us r;rw [List.map_nil] at r;cases r;exact .nil
 |cons n ns ih=>
  intro us r
  rw [xg] at r
  cases r with
  |cons r1 r2=>
   obtain ⟨t,e⟩:=r1
   subst e
   exact .cons n t (ih r2)
section
variable {X:Cx} {e:Expr} {te:TE} {lo hi:Option Expr} {tl th:TO} {pos p2:Pos}
theorem db:PO X none lP:=by
 intro pins s σ H Q I h
 rw [evalPart_none]
 exact wpAny_pure ⟨none,H,I, .none,h⟩
theorem cp (h:PE X e te):PO X (some e) (tT te):=by
 intro pins s σ H Q I hw
 rw [evalPart_some]
 refine thn (h pins s σ H _ I hw) fun u s1 ⟨x,H1,I1,r1,q1⟩=> ?_
 obtain ⟨i,rfl,q⟩:=q1
 obtain ⟨t,rfl⟩:=r1
 exact ⟨some i,H1,I1, .int i t,q⟩
def SlR (X:Cx) (r:V→Option Int→Option Int→Hp→VK→Prop):Prop:=
 ∀(pins:List (Addr×Obj)) (s:Shared) (σ:St) (H:Hp) (x:V) (v vl vu:Value) (lo hi:Option Int) (sl:Addr) (Q:VK),Inv X pins σ H s→RelV x v→s.heap.IsSliceOf sl vl vu .none→IsPart vl lo→IsPart vu hi→r x lo hi H Q→
  ∃T id,typeLookup (.type T) "__getitem__"=pure (some (.builtin id))∧s.TypeIs v T∧wpAny (model X.prog X.w) X.A (getItem v (.ref sl)) (EP X pins σ Q) X.xe s
def tSl (r:V→Option Int→Option Int→Hp→VK→Prop) (te:TE) (tl th:TO):TE:=fun σ H Q=>te σ H fun x H1=>tl σ H1 fun l H2=>th σ H2 fun u H3=>r x l u H3 Q
theorem cb {r:V→Option Int→Option Int→Hp→VK→Prop} (hr:SlR X r) (he:PE X e te) (hl:PO X lo tl) (hu:PO X hi th):PE X (.Subscript e (.Slice lo hi none p2) pos) (tSl r te tl th):=by
 intro pins s σ H Q I h
 refine Subscript_ (thn (he pins s σ H _ I h) fun v s1 ⟨x,H1,I1,r1,q1⟩=> ?_)
 refine wpAny_Slice (thn (hl pins s1 σ H1 _ I1 q1) fun vl s2 ⟨l,H2,I2,pl,q2⟩=>thn (hu pins s2 σ H2 _ I2 q2) fun vu s3 ⟨u,H3,I3,pu,q3⟩=> ?_)
 rw [evalPart_none]
 refine wpAny_pure ?_
 have I4:Inv X pins σ H3 {s3 with heap:=s3.heap.push {cls:= .type "slice",data:= .fields #[vl,vu, .none]}}:=I3.kept (t':=s3.toks) fun b ob q=>Heap.get?_push_of_some _ q
 obtain ⟨T,id,hT,ht,hg⟩:=hr pins {s3 with heap:=s3.heap.push {cls:= .type "slice",data:= .fields #[vl,vu, .none]}} σ H3 x v vl vu l u s3.heap.objs.size Q I4 r1 (Heap.IsSliceOf.new ..) pl pu q3
 show wpAny (model X.prog X.w) X.A (subscriptTail e (.Slice lo hi none p2) v (.ref s3.heap.objs.size)) (EP X pins σ Q) X.xe {s3 with heap:=s3.heap.push {cls:= .type "slice",data:= .fields #[vl,vu, .none]}}
 exact tail_any (ops:= [.ref s3.heap.objs.size,v]) ht hT hg (by with_unfolding_all rfl)
noncomputable def cutV (xs:List V) (lo hi:Option Int):List V:=(xs.drop (HT.sIx xs.length 0 lo)).take (HT.sIx xs.length xs.length hi - HT.sIx xs.length 0 lo)
theorem ka (xs:List V) (lo hi:Option Int):(cutV xs lo hi).length≤xs.length:=by
 unfold cutV
 rw [xM,List.length_drop]
 omega
end
open PySem PySem.Spec PyProof.Rows
noncomputable def ixN (n:Nat) (i:Int):Option Nat:=if 0≤i then (if i < n then some i.toNat else none) else if -(n:Int)≤i then some (i+n).toNat else none
noncomputable def atI {α:Type} (xs:List α) (i:Int):Option α:=(ixN xs.length i).bind fun j=>xs[j]?
theorem mU {n:Nat} {i:Int} {j:Nat} (h:ixN n i=some j):seqIndex? i n=some j∧j < n∧ -(n:Int)≤i∧i < n:=by
 unfold ixN at h
 by_cases h0:0≤i
 · rw [if_pos h0] at h
   by_cases h1:i < n
   · rw [if_pos h1] at h
     have e:i.toNat=j:=xE h
     exact ⟨by rw [seqIndex_of h0 h1,e],by omega,by omega,h1⟩
   · rw [if_neg h1] at h;cases h
 · rw [if_neg h0] at h
   by_cases h1:-(n:Int)≤i
   · rw [if_pos h1] at h
     have e:(i+n).toNat=j:=xE h
     exact ⟨by rw [seqIndex_neg (by omega) h1,e],by omega,h1,by omega⟩
   · rw [if_neg h1] at h;cases h
theorem jq {α:Type} {xs:List α} {i:Int} {v:α} (h:atI xs i=some v):∃j,seqIndex? i xs.length=some j∧xs[j]?=some v∧j < xs.length∧ -(xs.length:Int)≤i∧i < xs.length:=by
 unfold atI at h
 cases e:ixN xs.length i with
 |none=>rw [e] at h;cases h
 |some j=>
  rw [e] at h
  obtain ⟨h1,h2,h3,h4⟩:=mU e
  exact ⟨j,h1,h,h2,h3,h4⟩
theorem bf {α:Type} {xs:List α} {j:Nat} {v:α} (h:xs[j]?=some v):atI xs (j:Int)=some v:=by
 have hj:j < xs.length:=(xo.mp h).1
 have e:ixN xs.length (j:Int)=some j:=by
  unfold ixN
  rw [if_pos (by omega),if_pos (by omega)];simp
 unfold atI;rw [e];exact h
def tO (b:Expr):Prop:=∀o i,subscripted b false o i=operate [o,i] (getItem o i)
def IxR (X:Cx) (r:R2):Prop:=
 ∀(value slice:Expr) (pins:List (Addr×Obj)) (s:Shared) (σ:St) (H:Hp) (x y:V) (v u:Value) (Q:VK),Inv X pins σ H s→RelV x v→RelV y u→r x y H Q→
  subscripted slice false v u=operate [v,u] (getItem v u)→wpAny (model X.prog X.w) X.A (subscriptTail value slice v u) (EP X pins σ Q) X.xe s
def MtR (X:Cx) (id:String) (r:V→List V→Hp→VK→Prop):Prop:=
 ∀(pins:List (Addr×Obj)) (s:Shared) (σ:St) (H:Hp) (x:V) (xs:List V) (v:Value) (us:List Value) (Q:VK),Inv X pins σ H s→RelV x v→Vals xs us→r x xs H Q→
  wpAny (model X.prog X.w) X.A (call (.builtin id) (v::us)) (EP X pins σ Q) X.xe s
section
variable {X:Cx} {a b:Expr} {ta tb:TE} {pos:Pos}
theorem IxR.or {r r':R2} (h:IxR X r) (h':IxR X r'):IxR X (fun x y H Q=>r x y H Q∨r' x y H Q):=by
 intro value slice pins s σ H x y v u Q I rx ry q hs
 rcases q with q|q
 · exact h value slice pins s σ H x y v u Q I rx ry q hs
 · exact h' value slice pins s σ H x y v u Q I rx ry q hs
theorem aq {r:R2} (hr:IxR X r) (ha:PE X a ta) (hb:PE X b tb) (hs:tO b):PE X (.Subscript a b pos) (tOp r ta tb):=by
 intro pins s σ H Q I h
 exact Subscript_ (binT ha hb I h fun v u s2 x y H2 I2 rx ry q=>hr a b pins s2 σ H2 x y v u Q I2 rx ry q (hs _ _))
def rIxL (K:PySem.W.Frag):R2:=fun x y H Q=>∃p xs i v,x= .ref p∧y= .int i∧SqL K H p xs∧atI xs i=some v∧Q v H
def rIxT (K:PySem.W.Frag):R2:=fun x y H Q=>∃p xs i v,x= .ref p∧y= .int i∧SqT K H p xs∧atI xs i=some v∧Q v H
def rIxS:R2:=fun x y H Q=>∃z i c,x= .str z∧y= .int i∧z.length≤sizeLine∧atI z.cps.toList i=some c∧Q (.str ⟨#[c]⟩) H
theorem ix_list:IxR X (rIxL X.K):=by
 intro value slice pins s σ H x y v u Q I rx ry h hs
 obtain ⟨p,xs,i,z,rfl,rfl,hq,he,q⟩:=h
 cases rx
 obtain ⟨t,rfl⟩:=ry
 obtain ⟨its,r,pl,hz⟩:=I.list hq
 obtain ⟨j,h1,h2,h3,h4,h5⟩:=jq he
 obtain ⟨w,ew,rw'⟩:=r.get h2
 have hl:=r.length
 have hn:=gN
 have fin:EP X pins σ Q w s:=⟨z,H,I,rw',q⟩
 by_cases h0:0≤i
 · have hj:i.toNat=j:=by
    rw [seqIndex_of h0 h5] at h1
    exact xE h1
   exact item_listR pl.isList h0 (by omega) (by rw [hj];simpa using ew) fin hs
 · have hj:(i+(its.toArray.size:Int)).toNat=j:=by
    rw [seqIndex_neg (by omega) h4] at h1
    rw [xc,←hl]
    exact xE h1
   exact subscriptTail_builtinR (x:=w) pl.isList.typeIs slot_list_getitem.lookup
    (wpAny_getItem_list_neg (Q:=fun r s'=>r=w∧EP X pins σ Q r s') pl.isList (by omega) (by rw [xc]<;>omega) (by omega) (by rw [hj];simpa using ew) ⟨rfl,fin⟩) hs
theorem ix_tup:IxR X (rIxT X.K):=by
 intro value slice pins s σ H x y v u Q I rx ry h hs
 obtain ⟨p,xs,i,z,rfl,rfl,hq,he,q⟩:=h
 cases rx
 obtain ⟨t,rfl⟩:=ry
 obtain ⟨its,r,pl,hz⟩:=I.tuple hq
 obtain ⟨j,h1,h2,h3,h4,h5⟩:=jq he
 obtain ⟨w,ew,rw'⟩:=r.get h2
 have hl:=r.length
 have hn:=gN
 have fin:EP X pins σ Q w s:=⟨z,H,I,rw',q⟩
 exact subscriptTail_builtinR (x:=w) pl.typeIs slot_tuple_getitem.lookup
  (getItem_tuple (j:=j) (Q:=fun r s'=>r=w∧EP X pins σ Q r s') pl (by omega) (by omega) (by rw [xc,←hl];exact h1) (by simpa using ew) ⟨rfl,fin⟩) hs
theorem lA:IxR X rIxS:=by
 intro value slice pins s σ H x y v u Q I rx ry h hs
 obtain ⟨z,i,c,rfl,rfl,hz,he,q⟩:=h
 obtain ⟨t,rfl⟩:=rx
 obtain ⟨t',rfl⟩:=ry
 obtain ⟨j,h1,h2,h3,h4,h5⟩:=jq he
 have hl:z.cps.toList.length=z.length:=by simp [Str.length]
 rw [hl] at h1 h4 h5
 have hn:=gN
 exact tail_any (typeIs_str s z t) slot_str_getitem.lookup (getItem_str (c:=c) (by
  have e1:decide (i < -(2^63:Int))=false:=decide_eq_false (by omega)
  have e2:decide (i≥2^63)=false:=decide_eq_false (by omega)
  rw [e1,e2,Bool.or_false]) (by rw [h1];simpa using h2) ⟨.str ⟨#[c]⟩,H,I.tok _,⟨_,rfl⟩,q⟩) hs
def rIx (K:PySem.W.Frag):R2:=fun x y H Q=>rIxL K x y H Q∨rIxT K x y H Q∨rIxS x y H Q
theorem qJ:IxR X (rIx X.K):=ix_list.or (ix_tup.or lA)
theorem lg (its:List Value) (n j:Nat) (u:Value):Obj.mapSeq (·.setIfInBounds j u) {cls:= .type "list",data:= .seq its.toArray n} = {cls:= .type "list",data:= .seq (its.set j u).toArray n}:=by
 simp [Obj.mapSeq]
theorem Inv.lst {pins:List (Addr×Obj)} {σ:St} {H:Hp} {s:Shared} {p:Addr} {xs:List V} (I:Inv X pins σ H s) (h:H p=some (.lst xs)):
 ∃(its:List Value) (n:Nat),Vals xs its∧s.heap.get? p=some {cls:= .type "list",data:= .seq its.toArray n}∧xs.length≤sizeLine:=by
 obtain ⟨z,its,n,r,e⟩:=I.hok p _ h
 exact ⟨its,n,r,e,z⟩
theorem Inv.lstUpd {pins:List (Addr×Obj)} {σ:St} {H:Hp} {s:Shared} {p:Addr} {xs ys:List V} {its its':List Value} {n n':Nat} {f:Obj→Obj} (I:Inv X pins σ H s) (h:H p=some (.lst xs))
 (ho:s.heap.get? p=some {cls:= .type "list",data:= .seq its.toArray n}) (hf:f {cls:= .type "list",data:= .seq its.toArray n} = {cls:= .type "list",data:= .seq its'.toArray n'}) (r:Vals ys its') (hz:ys.length≤sizeLine) (t:Nat):
 Inv X pins σ (upd H p (.lst ys)) {s with heap:=s.heap.update p f,toks:=t}:=by
 have e:(s.heap.update p f).get? p=some {cls:= .type "list",data:= .seq its'.toArray n'}:=by
  rw [Heap.get?_update_self f ho (by rw [hf]<;>rfl),hf]
 refine I.write (x:=p) (e:=p) (by rw [h];trivial) (.inl rfl) (fun b u hb q=>(Heap.get?_update_other _ _ (Ne.symm hb)).trans q) ⟨_,e⟩ ?_
 exact ⟨hz,its',n',r,e⟩
def wv:V→V→V→Hp→(Hp→Prop)→Prop:=fun o i v H Q=>∃p xs k j,o= .ref p∧i= .int k∧H p=some (.lst xs)∧ixN xs.length k=some j∧Q (upd H p (.lst (xs.set j v)))
theorem jC:PSet X wv:=by
 intro pins s σ H o i v ov iv u Q I ro ri rv h
 obtain ⟨p,xs,k,j,rfl,rfl,hp,hj,q⟩:=h
 cases ro
 obtain ⟨t,rfl⟩:=ri
 obtain ⟨its,n,r,ho,hz⟩:=I.lst hp
 obtain ⟨h1,h2,h3,h4⟩:=mU hj
 have hl:=r.length
 have hn:=gN
 have I':Inv X pins σ (upd H p (.lst (xs.set j v))) {s with heap:=s.heap.update p (Obj.mapSeq (·.setIfInBounds j u))}:=
  I.lstUpd hp ho (lg its n j u) (r.set rv j) (by rw [List.length_set];exact hz) s.toks
 by_cases h0:0≤k
 · have hk:k.toNat=j:=by
    rw [seqIndex_of h0 h4] at h1
    exact xE h1
   exact PySem.W.ki_setAt ho h0 (by omega) (by rw [xc,←hl];exact h4) (by rw [hk];exact ⟨_,I',q⟩)
 · have hk:(k+(its.toArray.size:Int)).toNat=j:=by
    rw [seqIndex_neg (by omega) h3] at h1
    rw [xc,←hl]
    exact xE h1
   exact PySem.W.ki_setBack ho (by omega) (by rw [xc,←hl];exact h3) (by omega) (by rw [hk];exact ⟨_,I',q⟩)
theorem iX (lo hi:Option Int) (n:Nat):(sliceBounds lo hi none n).1=((HT.sIx n 0 lo:Nat):Int)∧(sliceBounds lo hi none n).2.1=((HT.sIx n n hi:Nat):Int)∧(sliceBounds lo hi none n).2.2=1:=by
 refine ⟨?_,?_,rfl⟩
 · cases lo with
   |none=>simp [sliceBounds,HT.sIx]
   |some i=>
    simp only [sliceBounds,HT.sIx,Option.getD_none,show (1:Int) > 0 by decide,if_true]
    by_cases h:i < 0
    · simp only [h,if_true]<;>omega
    · simp only [h,if_false]<;>omega
 · cases hi with
   |none=>simp [sliceBounds,HT.sIx]
   |some i=>
    simp only [sliceBounds,HT.sIx,Option.getD_none,show (1:Int) > 0 by decide,if_true]
    by_cases h:i < 0
    · simp only [h,if_true]<;>omega
    · simp only [h,if_false]<;>omega
theorem hW (its:List Value) (lo hi:Option Int):slicePick its.toArray lo hi none=((its.drop (HT.sIx its.length 0 lo)).take (HT.sIx its.length its.length hi - HT.sIx its.length 0 lo)).toArray:=by
 obtain ⟨h1,h2,h3⟩:=iX lo hi its.toArray.size
 unfold slicePick
 rw [h1,h2,h3]
 simp only [sliceRange_one,pick_run,xc]<;>rfl
def rSlL (K:PySem.W.Frag):V→Option Int→Option Int→Hp→VK→Prop:=fun x lo hi H Q=>∃a xs,x= .ref a∧SqL K H a xs∧∀p,H p=none→Q (.ref p) (upd H p (.lst (cutV xs lo hi)))
theorem iZ:SlR X (rSlL X.K):=by
 intro pins s σ H x v vl vu lo hi sl Q I rx hs pl pu h
 obtain ⟨a,xs,rfl,hx,q⟩:=h
 cases rx
 obtain ⟨its,r,ht,hz⟩:=I.list hx
 have hlen:=r.length
 refine ⟨"list",_,slot_list_getitem.lookup,ht.isList.typeIs,?_⟩
 refine wpAny_getItem_list_slice ht.isList hs pl pu .none (by simp) ?_ (by rw [xc]<;>omega)
 rw [hW,←hlen]
 refine ⟨.ref s.heap.objs.size,_,I.laid (t':=s.toks) (o:= .lst (cutV xs lo hi)) (fun b ob q=>Heap.get?_push_of_some _ q) (x9 _) ?_,rfl,q _ (I.hok.fresh (x9 _))⟩
 exact ⟨xI (ka xs lo hi) hz,_,0,(r.drop (HT.sIx xs.length 0 lo)).take (HT.sIx xs.length xs.length hi - HT.sIx xs.length 0 lo),Heap.get?_push_size _ rfl⟩
noncomputable def fk:V→Bool
 | .non=>true
 | .bl _=>true
 | .int _=>true
 | .str _=>true
 |_=>false
noncomputable def eqV:V→V→Bool
 | .non, .non=>true
 | .bl a, .bl b=>a==b
 | .bl a, .int b=>(if a then 1 else 0)==b
 | .int a, .bl b=>a==(if b then 1 else 0)
 | .int a, .int b=>a==b
 | .str a, .str b=>a==b
 |_,_=>false
theorem vB {A:Around} {s:Shared} {y x:V} {u v:Value} (ry:RelV y u) (rx:RelV x v) (fy:fk y=true) (fx:fk x=true):SeqAt.EqAt A s u v (eqV y x):=by
 cases y with
 |non=>
  cases ry
  cases x with
  |non=>cases rx;exact SeqAt.EqAt.same _
  |bl b=>cases rx;exact SeqAt.EqAt.none_bool b
  |int b=>obtain ⟨t,rfl⟩:=rx;exact SeqAt.EqAt.none_int b t
  |str b=>obtain ⟨t,rfl⟩:=rx;exact SeqAt.EqAt.none_str b t
  |_=>exact absurd (show false=true from fx) xv
 |bl a=>
  cases ry
  cases x with
  |non=>cases rx;exact SeqAt.EqAt.bool_none a
  |bl b=>cases rx;exact SeqAt.EqAt.bool_bool a b
  |int b=>obtain ⟨t,rfl⟩:=rx;exact SeqAt.EqAt.bool_int a b t
  |str b=>obtain ⟨t,rfl⟩:=rx;exact SeqAt.EqAt.bool_str a b t
  |_=>exact absurd (show false=true from fx) xv
 |int a=>
  obtain ⟨t',rfl⟩:=ry
  cases x with
  |non=>cases rx;exact SeqAt.EqAt.int_none a t'
  |bl b=>cases rx;exact SeqAt.EqAt.int_bool a t' b
  |int b=>obtain ⟨t,rfl⟩:=rx;exact SeqAt.EqAt.int_int a t' b t
  |str b=>obtain ⟨t,rfl⟩:=rx;exact SeqAt.EqAt.int_str a t' b t
  |_=>exact absurd (show false=true from fx) xv
 |str a=>
  obtain ⟨t',rfl⟩:=ry
  cases x with
  |non=>cases rx;exact SeqAt.EqAt.str_none a t'
  |bl b=>cases rx;exact SeqAt.EqAt.str_bool a t' b
  |int b=>obtain ⟨t,rfl⟩:=rx;exact SeqAt.EqAt.str_int a t' b t
  |str b=>obtain ⟨t,rfl⟩:=rx;exact SeqAt.EqAt.str_str a t' b t
  |_=>exact absurd (show false=true from fx) xv
 |_=>exact absurd (show false=true from fy) xv
noncomputable def eqU (x:V) (u:Value):Bool:=match u with
 | .none=>eqV .non x
 | .bool b=>eqV (.bl b) x
 | .int i _=>eqV (.int i) x
 | .str z _=>eqV (.str z) x
 |_=>false
theorem qR {x y:V} {u:Value} (r:RelV y u) (f:fk y=true):eqU x u=eqV y x:=by
 cases y with
 |non=>cases r;rfl
 |bl b=>cases r;rfl
 |int i=>obtain ⟨t,rfl⟩:=r;rfl
 |str z=>obtain ⟨t,rfl⟩:=r;rfl
 |_=>exact absurd (show false=true from f) xv
theorem jr {x:V}:∀ {xs:List V} {us:List Value},Vals xs us→xs.all fk=true→us.any (eqU x)=xs.any fun y=>eqV y x
 |_,_, .nil,_=>rfl
 |y::xs,u::us, .cons r t,f=>by
  rw [List.all_cons,xV] at f
  rw [yk,yk,qR r f.1,jr t f.2]
theorem gJ {A:Around} {s:Shared} {x:V} {v:Value} (rx:RelV x v) (fx:fk x=true):∀ {xs:List V} {us:List Value},Vals xs us→xs.all fk=true→∀u∈us,SeqAt.EqAt A s u v (eqU x u)
 |_,_, .nil,_=>fun u hu=>by cases hu
 |y::xs,u::us, .cons r t,f=>fun u' hu=>by
  rw [List.all_cons,xV] at f
  rcases xi.mp hu with rfl|hu
  · rw [qR r f.1];exact vB r rx f.1 fx
  · exact gJ rx fx t f.2 u' hu
noncomputable def inV (x:V) (xs:List V):Bool:=xs.any fun y=>eqV y x
def rIn (K:PySem.W.Frag) (neg:Bool):R2:=fun x y H Q=>∃p xs,y= .ref p∧(SqL K H p xs∨SqT K H p xs)∧fk x=true∧xs.all fk=true∧Q (.bl (if neg then !inV x xs else inV x xs)) H
theorem nX:OpR X (compareOp .In) (rIn X.K false):=by
 intro pins s σ H x y v u Q I rx ry h
 obtain ⟨p,xs,rfl,hq,fx,fs,q⟩:=h
 cases ry
 rcases hq with hq|hq
 · obtain ⟨its,r,pl,hz⟩:=I.list hq
   refine SeqAt.in_listAt (eqU x) pl.isList (fun w hw=>gJ rx fx r fs w (by simpa using hw)) ⟨.bl _,H,I,rfl,?_⟩
   rw [show its.toArray.any (eqU x)=its.any (eqU x) by simp,jr r fs]
   exact q
 · obtain ⟨its,r,pl,hz⟩:=I.tuple hq
   refine SeqAt.in_tupleAt (eqU x) pl (fun w hw=>gJ rx fx r fs w (by simpa using hw)) ⟨.bl _,H,I,rfl,?_⟩
   rw [show its.toArray.any (eqU x)=its.any (eqU x) by simp,jr r fs]
   exact q
theorem aY:c7 X (.builtin "len") (fun xs H Q=>∃p ys,xs= [.ref p]∧(SqL X.K H p ys∨SqT X.K H p ys)∧Q (.int ys.length) H):=by
 intro pins s σ H xs us Q I r h
 obtain ⟨p,ys,rfl,hq,q⟩:=h
 obtain ⟨u,rfl,rx⟩:=cQ r
 cases rx
 have hn:=gN
 rcases hq with hq|hq
 · obtain ⟨its,r',pl,hz⟩:=I.list hq
   have hlen:=r'.length
   exact Calls.call_len_list pl.isList (by simp only [xc]<;>omega) ⟨.int ys.length,H,I.tok _,⟨s.toks+1,by rw [xc,hlen]⟩,q⟩
 · obtain ⟨its,r',pl,hz⟩:=I.tuple hq
   have hlen:=r'.length
   exact len_tuple pl (by simp only [xc]<;>omega) ⟨.int ys.length,H,I.tok _,⟨s.toks+1,by rw [xc,hlen]⟩,q⟩
theorem bU:c7 X (.type "list") (fun xs H Q=>∃p ys,xs= [.ref p]∧(SqL X.K H p ys∨SqT X.K H p ys)∧∀l,H l=none→Q (.ref l) (upd H l (.lst ys))):=by
 intro pins s σ H xs us Q I r h
 obtain ⟨p,ys,rfl,hq,q⟩:=h
 obtain ⟨u,rfl,rx⟩:=cQ r
 cases rx
 have fin:∀(its:List Value),Vals ys its→ys.length≤sizeLine→∀(h':Heap) (c':Nat),(∀b o',s.heap.get? b=some o'→h'.get? b=some o')→
  h'.get? s.heap.objs.size=some {cls:= .type "list",dict:=none,data:= .seq its.toArray c',slots:= #[]}→EP X pins σ Q (.ref s.heap.objs.size) {s with heap:=h'}:=fun its r' hz h' c' kp e=>
  ⟨.ref s.heap.objs.size,_,I.laid (t':=s.toks) kp (x9 _) (show ObjOk X.prog X.w _ h' _ (.lst ys) from ⟨hz,its,c',r',e⟩),rfl,q _ (I.hok.fresh (x9 _))⟩
 rcases hq with hq|hq
 · obtain ⟨its,r',pl,hz⟩:=I.list hq
   have hlen:=r'.length
   obtain ⟨o,ho,hc,n,hd⟩:=pl.isList
   exact call_list_seq p (.inl rfl) ho hc hd (fun h' c' kp e=>fin its r' hz h' c' kp e) (by simp only [xc]<;>omega)
 · obtain ⟨its,r',pl,hz⟩:=I.tuple hq
   have hlen:=r'.length
   obtain ⟨o,ho,hc,n,hd⟩:=pl
   exact call_list_seq p (.inr rfl) ho hc hd (fun h' c' kp e=>fin its r' hz h' c' kp e) (by simp only [xc]<;>omega)
theorem cz:c7 X (.type "tuple") (fun xs H Q=>∃p ys,xs= [.ref p]∧((SqL X.K H p ys∧∀l,H l=none→Q (.ref l) (upd H l (.tup ys)))∨(SqT X.K H p ys∧Q (.ref p) H))):=by
 intro pins s σ H xs us Q I r h
 obtain ⟨p,ys,rfl,h⟩:=h
 obtain ⟨u,rfl,rx⟩:=cQ r
 cases rx
 rcases h with ⟨hq,q⟩|⟨hq,q⟩
 · obtain ⟨its,r',pl,hz⟩:=I.list hq
   have hlen:=r'.length
   refine call_tuple_list pl.isList (fun h' kp=> ?_) (by simp only [xc]<;>omega)
   have I1:Inv X pins σ H {s with heap:=h'}:=I.kept (t':=s.toks) kp
   have I2:Inv X pins σ (upd H h'.objs.size (.tup ys)) {s with heap:=h'.push {cls:= .type "tuple",data:= .seq its.toArray}}:=
    I1.laid (t':=s.toks) (fun b o e=>Heap.get?_push_of_some _ e) (x9 _) (show ObjOk X.prog X.w _ _ _ (.tup ys) from ⟨hz,its,r',IsTup.new _ _⟩)
   exact ⟨.ref h'.objs.size,_,I2,rfl,q _ (I1.hok.fresh (x9 _))⟩
 · obtain ⟨its,r',pl,hz⟩:=I.tuple hq
   exact call_tuple_same pl ⟨.ref p,H,I,rfl,q⟩
def tyV (K:PySem.W.Frag) (T:String) (x:V) (H:Hp):Prop:=match x with
 | .str _=>T= "str"
 | .int _=>T= "int"
 | .ref p=>(T= "list"∧∃xs,SqL K H p xs)∨(T= "tuple"∧∃o,K.lookup p=some o∧o.cls= .type "tuple"∧o.dict=none)∨
  (T= "dict"∧((∃kvs,H p=some (.dK kvs))∨∃kvs,H p=some (.dT kvs)))∨(T= "set"∧∃S n,H p=some (.set S n))
 |_=>False
theorem ot {pins:List (Addr×Obj)} {σ:St} {H:Hp} {s:Shared} {T:String} {x:V} {v:Value} (I:Inv X pins σ H s) (r:RelV x v) (ty:tyV X.K T x H):
 s.TypeIs v T∧∀a,v= .ref a→∃ob,s.heap.get? a=some ob∧ob.dict=none:=by
 cases x with
 |str z=>
  obtain ⟨t,rfl⟩:=r
  cases (show T= "str" from ty)
  exact ⟨typeIs_str s z t,fun _ e=>nomatch e⟩
 |int i=>
  obtain ⟨t,rfl⟩:=r
  cases (show T= "int" from ty)
  exact ⟨typeIs_int s i t,fun _ e=>nomatch e⟩
 |ref p=>
  cases r
  rcases ty with ⟨rfl,xs,hq⟩|⟨rfl,o,hk,hc,hd⟩|⟨rfl,hk⟩|⟨rfl,S,n,hk⟩
  · obtain ⟨its,_,pl,_⟩:=I.list hq
    refine ⟨pl.isList.typeIs,fun a e=> ?_⟩
    cases e
    obtain ⟨o,n,e,c,hd,_⟩:=pl
    exact ⟨o,e,hd⟩
  · refine ⟨⟨o,I.kIn p o hk,hc⟩,fun a e=> ?_⟩
    cases e
    exact ⟨o,I.kIn _ o hk,hd⟩
  · have z:∃o,s.heap.get? p=some o∧o.ExactDict:=by
     rcases hk with ⟨kvs,hk⟩|⟨kvs,hk⟩
     · obtain ⟨_,_,_,_,o,_,_,e,ex,_⟩:=I.hok p _ hk
       exact ⟨o,e,ex⟩
     · obtain ⟨_,_,_,_,o,_,_,e,ex,_⟩:=I.hok p _ hk
       exact ⟨o,e,ex⟩
    obtain ⟨o,e,ex⟩:=z
    refine ⟨⟨o,e,ex.1⟩,fun a e2=> ?_⟩
    cases e2
    exact ⟨o,e,ex.2.1⟩
  · obtain ⟨o,_,_,_,e,ex,_⟩:=I.hok p _ hk
    refine ⟨⟨o,e,ex.1⟩,fun a e2=> ?_⟩
    cases e2
    exact ⟨o,e,ex.2.1⟩
 |_=>exact False.elim ty
def tBM0 (K:PySem.W.Frag) (T:String) (r:V→List V→Hp→VK→Prop) (to:TE):TE:=fun σ H Q=>to σ H fun x H1=>tyV K T x H1∧r x [] H1 Q
def tBM (K:PySem.W.Frag) (T:String) (r:V→List V→Hp→VK→Prop) (to:TE) (t:TA):TE:=fun σ H Q=>to σ H fun x H1=>tyV K T x H1∧t σ H1 fun xs H2=>r x xs H2 Q
variable {o e:Expr} {es:List Expr} {to:TE} {t:TA} {name:Str} {apos cpos:Pos} {T id:String} {r:V→List V→Hp→VK→Prop}
theorem eV (pa:PlainAttrs T) (slot:Slot T name id) (hty:typeOf (.builtin id)=pure (.type "method_descriptor")) (hm:MtR X id r) (ho:PE X o to)
 (hbase:attributeBase o name X.env (eval o X.env)=eval o X.env:=by rfl) (hline:(apos.endLine==cpos.line)=true:=by rfl):PE X (.Call (.Attribute o name apos) [] [] cpos) (tBM0 X.K T r to):=by
 intro pins s σ H Q I h
 refine wpAny_Call_method0_late hbase hline (thn (ho pins s σ H _ I h) fun v s1 ⟨x,H1,I1,r1,ty,q1⟩=> ?_)
 obtain ⟨h1,h2⟩:=ot I1 r1 ty
 exact ⟨T,id,pa,slot,hty,h1,h2,Calls.callWith_builtin rfl (PySem.evalArgs_none (hm pins s1 σ H1 x [] v [] Q I1 r1 .nil q1))⟩
theorem cq (pa:PlainAttrs T) (slot:Slot T name id) (hty:typeOf (.builtin id)=pure (.type "method_descriptor")) (hm:MtR X id r) (ho:PE X o to) (ha:PA X (e::es) t)
 (hbase:attributeBase o name X.env (eval o X.env)=eval o X.env:=by rfl)
 (hfew:((backTo cpos (starEach (e::es) X.env)).all (fun x=> !x.1)&& (backToKw cpos (keywordEach [] X.env)).all (fun x=>x.1.isSome)
  &&decide ((e::es).length+([]:List Keyword).length+(if ([]:List Keyword).isEmpty then 0 else 1) < 30))=true:=by rfl)
 (hline:(apos.endLine==cpos.line)=true:=by rfl) (hs:starEach (e::es) X.env=(false,eval e X.env)::starEach es X.env:=by rfl) (hplain:(backTo cpos (starEach es X.env)).any (·.1)=false:=by rfl):
 PE X (.Call (.Attribute o name apos) (e::es) [] cpos) (tBM X.K T r to t):=by
 intro pins s σ H Q I h
 refine wpAny_Call_method_late hbase hfew hline rfl (thn (ho pins s σ H _ I h) fun v s1 ⟨x,H1,I1,r1,ty,q1⟩=> ?_)
 obtain ⟨h1,h2⟩:=ot I1 r1 ty
 refine ⟨T,id,pa,slot,hty,h1,h2,?_⟩
 have hA:=ha cpos pins s1 σ H1 _ I1 q1
 rw [hs] at hA ⊢
 refine Calls.callWith_builtin (by show (false ||(backTo cpos (starEach es X.env)).any (·.1))=false;rw [hplain]<;>rfl) (Calls.evalArgs_plain ?_)
 exact thn hA fun us s2 ⟨vs,H2,I2,r2,q2⟩=>hm pins s2 σ H2 x vs v us Q I2 r1 r2 q2
end
open PySem PySem.Spec PyProof.Rows
def MtM (X:Cx) (id:String) (r:V→List V→Hp→VK→Prop):Prop:=
 ∀(pins:List (Addr×Obj)) (s:Shared) (σ:St) (H:Hp) (x:V) (xs:List V) (v:Value) (us:List Value) (Q:VK),Inv X pins σ H s→RelV x v→Vals xs us→r x xs H Q→
  wpAny (model X.prog X.w) X.A (call (.builtin id) (v::us)) (EP X pins σ Q) X.xe s
theorem Vals.one:∀ {x:V} {us:List Value},Vals [x] us→∃u,us= [u]∧RelV x u
 |_,_, .cons r .nil=>⟨_,rfl,r⟩
theorem Vals.two {x y:V} {us:List Value} (h:Vals [x,y] us):∃u v,us= [u,v]∧RelV x u∧RelV y v:=by
 cases h with
 |cons r t=>cases t with
  |cons q t'=>cases t';exact ⟨_,_,rfl,r,q⟩
theorem Vals.zero:∀ {us:List Value},Vals [] us→us= []
 |_, .nil=>rfl
theorem Vals.eraseIdx:∀ {xs:List V} {us:List Value} (i:Nat),Vals xs us→Vals (xs.eraseIdx i) (us.eraseIdx i)
 |_,_,_, .nil=> .nil
 |_,_,0, .cons _ t=>t
 |_,_,i+1, .cons r t=> .cons r (Vals.eraseIdx i t)
theorem Vals.reverse {xs:List V} {us:List Value} (h:Vals xs us):Vals xs.reverse us.reverse:=by
 induction h with
 |nil=>exact .nil
 |cons r t ih=>rw [List.reverse_cons,List.reverse_cons];exact Vals.append ih (.cons r .nil)
section
variable {X:Cx} {pins:List (Addr×Obj)} {σ:St} {H:Hp} {s:Shared} {l b:Addr} {xs ys zs:List V}
theorem Inv.lset {its its':List Value} {n:Nat} {f:Array Value→Array Value} {t':Nat} (I:Inv X pins σ H s) (hH:H l=some (.lst xs))
 (e:s.heap.get? l=some {cls:= .type "list",data:= .seq its.toArray n}) (hf:f its.toArray=its'.toArray) (hv:Vals ys its') (hz:ys.length≤sizeLine):
 Inv X pins σ (upd H l (.lst ys)) {s with heap:=s.heap.update l (Obj.mapSeq f),toks:=t'}:=by
 have q:=PySem.IsL.update e f
 rw [hf] at q
 refine I.write (x:=l) (e:=l) (by rw [hH];exact trivial) (.inl rfl) (fun b' u hb hu=>(Heap.get?_update_other s.heap (Obj.mapSeq f) (Ne.symm hb)).trans hu) ⟨_,q⟩ ?_
 exact ⟨hz,its',_,hv,q⟩
theorem Inv.lnew {its:List Value} {t':Nat} (I:Inv X pins σ H s) (hv:Vals ys its) (hz:ys.length≤sizeLine):
 Inv X pins σ (upd H s.heap.objs.size (.lst ys)) {s with heap:=s.heap.push {cls:= .type "list",data:= .seq its.toArray},toks:=t'}:=
 I.laid (fun _ _ q=>Heap.get?_push_of_some _ q) (x9 _) ⟨hz,its,0,hv,Heap.get?_push_size _ rfl⟩
theorem Inv.fresh (I:Inv X pins σ H s):H s.heap.objs.size=none:=I.hok.fresh (x9 _)
theorem Inv.lstM (I:Inv X pins σ H s) (hH:H l=some (.lst xs)):xs.length≤sizeLine∧∃(its:List Value) (n:Nat),Vals xs its∧xs.length=its.length∧s.heap.get? l=some {cls:= .type "list",data:= .seq its.toArray n}:=by
 obtain ⟨z,its,n,r,e⟩:=I.hok l _ hH
 exact ⟨z,its,n,r,r.length,e⟩
end
section
variable {X:Cx}
def sv:V→List V→Hp→VK→Prop:=fun x vs H Q=>∃l xs y,x= .ref l∧vs= [y]∧H l=some (.lst xs)∧xs.length < sizeLine∧Q .non (upd H l (.lst (xs++ [y])))
theorem bN:MtM X "list.append" sv:=by
 intro pins s σ H x vs v us Q I rx rv h
 obtain ⟨l,xs,y,rfl,rfl,hH,hz,q⟩:=h
 cases rx
 obtain ⟨u,rfl,ru⟩:=rv.one
 obtain ⟨z,its,n,r,hl,e⟩:=I.lstM hH
 refine call_meets F.slot_list_append ⟨_,e,rfl⟩ F.entry_list_append (F.args_list_append_2 _ _) (PySem.list_append l its.toArray n u (by rw [xc];omega)) ⟨e,?_⟩
 refine ⟨.non,_,I.lset (its':=its++ [u]) hH e (by simp) (r.append (.cons ru .nil)) ?_,rfl,q⟩
 rw [x3,xm]
 omega
def uE:V→List V→Hp→VK→Prop:=fun x vs H Q=>∃l xs,x= .ref l∧vs= []∧H l=some (.lst xs)∧Q .non (upd H l (.lst []))
theorem jJ:MtM X "list.clear" uE:=by
 intro pins s σ H x vs v us Q I rx rv h
 obtain ⟨l,xs,rfl,rfl,hH,q⟩:=h
 cases rx
 have hus:=rv.zero
 subst hus
 obtain ⟨z,its,n,r,hl,e⟩:=I.lstM hH
 refine call_meets F.slot_list_clear ⟨_,e,rfl⟩ F.entry_list_clear (F.args_list_clear_1 _) (AutoSeq1.list_clear_list_0 l its.toArray n (by rw [xc];omega)) ⟨e,?_⟩
 exact ⟨.non,_,I.lset (its':= []) (ys:= []) hH e rfl .nil (xz _),rfl,q⟩
def rCat:R2:=fun x y H Q=>∃l b xs zs,x= .ref l∧y= .ref b∧H l=some (.lst xs)∧H b=some (.lst zs)∧xs.length+zs.length≤sizeLine∧∀p,H p=none→Q (.ref p) (upd H p (.lst (xs++zs)))
theorem cg:OpR X (binaryOp .Add) rCat:=by
 intro pins s σ H x y v u Q I rx ry h
 obtain ⟨l,b,xs,zs,rfl,rfl,hH,hB,hz,q⟩:=h
 cases rx
 cases ry
 obtain ⟨z,its,n,r,hl,e⟩:=I.lstM hH
 obtain ⟨z2,its2,n2,r2,hl2,e2⟩:=I.lstM hB
 refine PySem.P.add_list e e2 ?_ (by rw [xc,xc];omega)
 have ea:its.toArray++its2.toArray=(its++its2).toArray:=by simp
 rw [ea]
 exact ⟨.ref _,_,I.lnew (t':=s.toks) (r.append r2) (by rw [x3];omega),rfl,q _ I.fresh⟩
end
section
variable {prog:Program} {w:World} {A:Around} {E:Value→Shared→Prop} {s:Shared}
end
section
variable {X:Cx}
end
end L2
namespace Att
open PySem PySem.W PySem.Calls PyProof.Rows
theorem ft {P:Params} {h:Heap}:∀(ns:List Int) (vs:List Value),WellAll P h vs (ns.map WData.int)→IntsAre vs ns:=by
 intro ns
 induction ns with
 |nil=>
  intro vs w
  rw [List.map_nil] at w
  cases w
  exact .nil
 |cons n ns ih=>
  intro vs w
  rw [xg] at w
  cases w with
  |cons a b=>
   cases a
   exact .cons _ _ (ih _ b)
theorem nO {l:OpenLaw} {n:Nat} (hn:l.most=some n) {P:Params} {h:Heap} {args:List WData} {vals:List Value}
 (hpre:l.row.toRowW.claim.pre args=true) (hwl:WellAll P h vals args):
 ∃a vs ns,vals= [Value.ref a]∧args= [WData.list (ns.map WData.int)]∧h.get? a=some {cls:= .type "list",data:= .seq vs.toArray}∧IntsAre vs ns∧ns.length≤n:=by
 have hsh:WShape.hasAll [] args [.list .int]=true:=(pre_splitW hpre).1
 have hc:l.pre.holds [] {args:=args} =true:=(pre_splitW hpre).2
 obtain ⟨d,r,rfl,h1,h2⟩:=hasAllW_cons hsh
 obtain rfl:=hasAllW_nil h2
 obtain ⟨xs,rfl,h3⟩:=hasW_list h1
 obtain ⟨ns,rfl⟩:=items_int h3
 have hlen:ns.length≤n:=by
  unfold OpenLaw.pre at hc
  have h4:(WTm.not (.lt (.lit (.int (n:Int))) (.len (.arg 0)))).holds [] {args:= [.list (ns.map .int)]} =true:=by
   have h4:=(holds_andW hc).1
   rw [hn] at h4
   exact h4
  have h5:=condW_of h4 (w_not (w_lt w_lit (w_len_list (w_arg rfl))))
  rw [wZ] at h5
  refine Nat.le_of_not_lt fun q=> ?_
  have q':(n:Int) < ((ns.length:Nat):Int):=by omega
  first
   |(rw [decide_eq_true q'] at h5;exact absurd h5 (by decide))
   |(simp at h5;omega)
 cases hwl with
 |cons w1 w2=>
  cases w2
  cases w1 with
  |list ho hall=>exact ⟨_,_,ns,rfl,rfl,ho,ft ns _ hall,hlen⟩
theorem nU (l:OpenLaw) (args:List WData):l.row.toRowW.claim.post args (.bool true) args=true:=
 postW_of (r:=l.row.toRowW) (X:=(true==true))
  (show WShape.has [] (.bool true) .bool=true by first|rfl|decide|simp [WShape.has,WShape.arms,WShape.armsAll])
  (show (WTm.eq .res (.lit (.bool true))).value [] {args:=args,res:=some (.bool true),after:=args} =some (.bool (true==true)) from w_eq_bool (w_res rfl) w_lit) rfl
theorem attach_call {l:OpenLaw} {n:Nat} {q:Program} {loose:List Str} {XP:(Str→Option Value)→Heap→Prop} {YP:World→Heap→Prop} {d:DefRec}
 (hn:l.most=some n) (hdf:d.params.defaults= [])
 (call:∀(w:World) (s₀ s₁:Shared) (mg mb:Str→Option Value) (fa:Addr) (o:Obj) (pm cd doc:Value) (a:Addr) (vs:List Value) (ns:List Int),
  Ground q loose [] XP w s₀ mg mb s₁.heap→YP w s₁.heap→
  s₁.heap.get? fa=some o→o.data= .func (docDef d.name d.params d.body d.scope pm cd doc)→s₁.heap.CodeRec cd d.name→mg d.name=some (.ref fa)→
  s₁.heap.get? a=some {cls:= .type "list",data:= .seq vs.toArray}→IntsAre vs ns→ns.length≤n→s₁.gens= #[]→
  codeAny (model l.prog w) callerA (.call (.ref fa) ⟨[.ref a],[]⟩) (fun r s'=>r= .ok (.ret (.bool true))∧OldK s₁.heap s'.heap∧s'.os=s₁.os∧AllBare s'.gens) s₁):
 WalkO q loose XP YP l.row.toRowW d [] (fun f vs=>PySem.call f vs):=by
 intro w s₀ s₁ mg mb G Y fa o pm cd doc dV kV ho hd hcd hD hmg hg args vals as hpre hlay hrd hwl hlo
 obtain rfl:dV= .none:=Dflts.none hD hdf
 obtain rfl:kV= .none:=Dflts.noKw hD
 obtain ⟨a,vs,ns,rfl,rfl,hobj,hints,hlen⟩:=nO hn hpre hwl
 refine enter_call (codeAny_mono (call w s₀ s₁ mg mb fa o pm cd doc a vs ns G Y ho (fd_plain hd) hcd hmg hobj hints hlen hg) fun r s' hq=> ?_)
 obtain ⟨rfl,h2,h3,h4⟩:=hq
 exact ⟨.inl ⟨.bool true, .bool true,[],rfl,fun _=>rfl, .bool true,nU l _,fun _=>⟨List.Pairwise.nil,fun _ hm=>(nomatch hm)⟩⟩,h2,h3,h4⟩
section
variable {prog:Program} {w:World} {A:Around} {E:Value→Shared→Prop} {s:Shared} {K:Frag}
end
end Att
namespace L2
open PySem PySem.Spec PyProof.Rows
theorem i6:∀ {vs:List Value} {ns:List Int},IntsAre vs ns→Vals (ns.map V.int) vs
 |_,_, .nil=> .nil
 |_,_, .cons n t h=> .cons ⟨t,rfl⟩ (i6 h)
def Only (H:Hp):Prop:=∀b,H b=none∨∃o xs,H b=some (.frz o (.lst xs))
theorem qC {P:Program} {w:World} {K:PySem.W.Frag} {mg mb:Str→Option Value} {CX:CXT} {k:Nat} {fa a:Addr} {fd:FuncData} {x:Str} {sp:Sp} {s₁:Shared} {vs:List Value} {ns:List Int}
 (KX:K.In s₁.heap) (hns:s₁.heap.Ns mainGlobals mg) (hb:s₁.heap.Ns builtinsNs mb) (hbb:∀x:Str,x≠"__name__"→mb x=bootBuiltins x) (hlim:s₁.heap.NoLimit) (hg:s₁.gens= #[])
 (ha:s₁.heap.get? a=some {cls:= .type "list",data:= .seq vs.toArray}) (hi:IntsAre vs ns) (hl:ns.length≤sizeLine) (hr:Room k callerA)
 (F:∀base:Heap,K.In base→base.Ns mainGlobals mg→FnOk P w K mg base CX k fa fd [x] sp) (hbind:∀(s:Shared) (u:Value),BindsTo s fd ⟨[u],[]⟩ [(x,u)])
 (hsp:∀H:Hp,Only H→SqL K H a (ns.map V.int)→sp [.ref a] H (fun v _=>v= .bl true) fun _ _ _=>False)
 (hCX:∀H e s',CX [] H s₁ (fun _ _ _=>False) e s'→False):
 codeAny (model P w) callerA (.call (.ref fa) ⟨[.ref a],[]⟩) (fun r s'=>r= .ok (.ret (.bool true))∧OldK s₁.heap s'.heap∧s'.os=s₁.os∧AllBare s'.gens) s₁:=by
 have rv:=i6 hi
 have lenV:=hi.length
 have core:∀H:Hp,Only H→SqL K H a (ns.map V.int)→HOk P w H s₁.heap→(∀b,H b≠none→b=a)→(H a≠none→K.lookup a=none)→
  codeAny (model P w) callerA (.call (.ref fa) ⟨[.ref a],[]⟩) (fun r s'=>r= .ok (.ret (.bool true))∧OldK s₁.heap s'.heap∧s'.os=s₁.os∧AllBare s'.gens) s₁:=by
  intro H hO hS hok hA hK
  have base_of:∀ {b:Addr} {o:Obj},s₁.heap.get? b=some o→H b=none→(hidT s₁.heap H).get? b=some o:=fun e n=>qO e n
  have noA:∀ {b:Addr} {o:Obj} {es:Array DictEntry} {ep:Nat},s₁.heap.get? b=some o→o.data= .dict es ep→H b=none:=fun {b o es ep} e d=>by
   cases q:H b with
   |none=>rfl
   |some u=>
    have e':b=a:=hA b (by rw [q];simp)
    subst e'
    rw [ha] at e;cases e
    have d':Data.seq vs.toArray _=Data.dict es ep:=d
    cases d'
  have nsK:∀ {b:Addr} {m:Str→Option Value},s₁.heap.Ns b m→(hidT s₁.heap H).Ns b m:=fun {b m} ⟨o,es,ep,e,d,r⟩=>⟨o,es,ep,base_of e (noA e d),d,r⟩
  have hKb:K.In (hidT s₁.heap H):=fun b o e=>base_of (KX b o e) (by
   cases q:H b with
   |none=>rfl
   |some u=>
    have e':b=a:=hA b (by rw [q];simp)
    subst e'
    rw [hK (by rw [q];simp)] at e;cases e)
  have hM:Mod K mg (hidT s₁.heap H):=⟨hKb,nsK hns,⟨mb,nsK hb,hbb⟩,let ⟨mc,h1,h2⟩:=hlim;⟨mc,nsK h1,h2⟩⟩
  have e0:Env0 P w K mg (hidT s₁.heap H) callerA [] s₁ H:=⟨rfl,hM,fun b o e=>⟨(mr e).1, .inl (mr e).2⟩,Nat.le_of_eq (o5 _ _),trivial,fun b hb=>absurd (show b∈([]:List Addr) from hb) (by simp),hok, .of_eq hg⟩
  refine codeAny_mono ((F _ hKb (nsK hns)).run callerA [] s₁ H ⟨[.ref a],[]⟩ [.ref a] [.ref a] _ _ hr e0 (hbind s₁ (.ref a)) (.cons rfl .nil) (hsp H hO hS)) fun r s' h=> ?_
  cases r with
  |error e=>exact (hCX H e s' h).elim
  |ok fl=>
   cases fl with
   |next=>exact False.elim h
   |brk=>exact False.elim h
   |cont=>exact False.elim h
   |ret u=>
    obtain ⟨v,H',os,bare,un,hok',r',q⟩:=h
    have q':v= .bl true:=q
    subst q'
    obtain rfl:u=Value.bool true:=r'
    refine ⟨rfl,OldK.of_keep fun b o e=> ?_,os,bare⟩
    cases q:H b with
    |none=>exact un.keep b o e (.inl q) (by intro z;exact absurd (show b∈([]:List Addr) from z) (by simp)) (by simp)
    |some u=>
     rcases hO b with z|⟨ob,xs,z⟩
     · rw [q] at z;cases z
     · have z2:=un.frzs b ob _ z
       obtain ⟨e1,_⟩:=hok b _ z
       obtain ⟨e2,_⟩:=hok' b _ z2
       rw [e] at e1;cases e1
       exact e2
 cases hk:K.lookup a with
 |some o=>
  have e:=KX a o hk
  rw [ha] at e
  cases e
  refine core (fun _=>none) (fun _=> .inl rfl) (.inr ⟨_,vs.toArray,_,hk,rfl,rfl,rfl,by rw [xc,lenV];exact hl,by simpa using rv⟩) (fun b u z=>by have z':(none:Option HO)=some u:=z;cases z') (fun b z=>absurd rfl z) fun z=>absurd rfl z
 |none=>
  refine core (fun b=>if b=a then some (.frz {cls:= .type "list",data:= .seq vs.toArray} (.lst (ns.map V.int))) else none) (fun b=> ?_) (.inl (.inr ⟨{cls:= .type "list",data:= .seq vs.toArray},if_pos rfl⟩)) (fun b u z=> ?_) (fun b z=> ?_) fun _=>hk
  · by_cases hb:b=a
    · exact .inr ⟨_,_,if_pos hb⟩
    · exact .inl (if_neg hb)
  · by_cases hb:b=a
    · have z':=(if_pos hb).symm.trans z
      cases z'
      subst hb
      exact ⟨ha,by rw [wZ];exact hl,vs,_,rv,ha⟩
    · have z':=(if_neg hb).symm.trans z
      cases z'
  · by_cases hb:b=a
    · exact hb
    · exact absurd (if_neg hb) z
open PySem PySem.Spec PyProof.Rows
theorem walk_of {l:PySem.W.OpenLaw} {n k:Nat} {q:Program} {loose:List Str} {XP:(Str→Option Value)→Heap→Prop} {YP:World→Heap→Prop} {d:DefRec} {K:Params→PySem.W.Frag} {CX:World→CXT} {sp:World→Sp} {x:Str}
 (hn:l.most=some n) (hn2:n≤sizeLine) (hdf:d.params.defaults= []) (hr:Room k callerA)
 (hY:∀(w:World) (h:Heap),YP w h→(K w.params).In h)
 (F:∀(w:World) (mg:Str→Option Value) (fa:Addr) (h:Heap),(K w.params).In h→h.Ns mainGlobals mg→mg d.name=some (.ref fa)→
  ∃fd:FuncData,(∀(s:Shared) (u:Value),BindsTo s fd ⟨[u],[]⟩ [(x,u)])∧
   ∀base:Heap,(K w.params).In base→base.Ns mainGlobals mg→FnOk l.prog w (K w.params) mg base (CX w) k fa fd [x] (sp w))
 (hsp:∀(w:World) (H:Hp) (a:Addr) (ns:List Int),ns.length≤n→Only H→SqL (K w.params) H a (ns.map V.int)→sp w [.ref a] H (fun v _=>v= .bl true) fun _ _ _=>False)
 (hCX:∀(w:World) (H:Hp) (s:Shared) (e:Value) (s':Shared),CX w [] H s (fun _ _ _=>False) e s'→False):
 PySem.W.WalkO q loose XP YP l.row.toRowW d [] (fun f vs=>PySem.call f vs):=by
 refine Att.attach_call hn hdf fun w s₀ s₁ mg mb fa o pm cd doc a vs ns G Y ho hd hcd hmg hobj hints hlen hg=> ?_
 have KX:=hY w _ Y
 obtain ⟨fd,hb,hF⟩:=F w mg fa _ KX G.T.g hmg
 exact qC KX G.T.g G.T.b G.T.builtins G.T.nolimit hg hobj hints (xI hlen hn2) hr hF hb (fun H hO hS=>hsp w H a ns hlen hO hS) fun H e s'=>hCX w H s₁ e s'
open PySem PySem.Spec PyProof.Rows
noncomputable def ax (s:Stmt):Arguments:=match s with
 | .FunctionDef _ a _ _ _ _ _ _ _ _=>a
 |_=> {posonlyargs:= [],args:= [],vararg:=none,kwonlyargs:= [],kw_defaults:= [],kwarg:=none,defaults:= []}
noncomputable def av (s:Stmt):List Stmt:=match s with
 | .FunctionDef _ _ b _ _ _ _ _ _ _=>b
 |_=> []
noncomputable def ai (s:Stmt):Scope:=match s with
 | .FunctionDef _ _ _ _ _ _ sc _ _ _=>sc
 |_=> {kind:= .function,names:= [],isGenerator:=false,isCoroutine:=false}
abbrev CX0:CXT:=fun _ _ _ _ _ _=>False
abbrev E0:XK:=fun _ _ _=>False
theorem am {X:Cx}:lI CX0 X E0:=fun _ _ _ _ _ _ _ h=>h.elim
structure Fun (K:PySem.W.Frag) (x qual:Str) (st:Stmt) (f:Addr) (fd:FuncData):Prop where
 ex:∃(oc:Value) (od:Option Addr) (kV doc pm:Value) (an:Option Addr) (cdv ct:Value) (osl:Array (Option Value)),
  fd=PySem.W.fnOf x qual (ax st) (av st) (ai st) .none kV doc pm an cdv ct∧K.lookup f=some ⟨oc,od, .func fd,osl⟩∧PySem.W.codeIn K cdv qual=true
 kp:PySem.W.keepIn K (.ref f)=true
section
variable {P:Program} {w:World} {K:PySem.W.Frag} {mg:Str→Option Value} {base:Heap}
theorem Fun.ok {x qual:Str} {st:Stmt} {f:Addr} {fd:FuncData} {N ps:List Str} {k:Nat} {sp:Sp} (F:Fun K x qual st f fd) (S:ay N ps (ai st)) (len:∀vs H Q E,sp vs H Q E→vs.length=ps.length)
 (hbody:∀(cdv:Value) (A:Around) (outer:List Env) (s:Shared) (H:Hp) (vs:List V) (Q:VK) (E:XK),Room k (A.deeper (envOfC qual (ai st) s.heap.objs.size f cdv))→sp vs H Q E→
  ∃t,PSs (cxOf CX0 P w K mg base N qual (ai st) f cdv A outer s H E).nox (av st) t∧t {nx:=fun _ H'=>Q .non H',rt:=Q} (fc N vs) H):FnOk P w K mg base CX0 (k+1) f fd ps sp:=by
 obtain ⟨oc,od,kV,doc,pm,an,cdv,ct,osl,rfl,lk,hcd⟩:=F.ex
 refine wS lk hcd S len fun A outer s H vs Q E hr hsp=> ?_
 obtain ⟨t,h,q⟩:=hbody cdv A outer s H vs Q E hr hsp
 exact ⟨t,h.nox,q⟩
theorem Fun.binds {x qual:Str} {st:Stmt} {f:Addr} {fd:FuncData} {ps:List Str} (F:Fun K x qual st f fd)
 (h:∀(kV doc pm:Value) (an:Option Addr) (cdv ct:Value) (us:List Value),us.length=ps.length→bindArgs (PySem.W.fnOf x qual (ax st) (av st) (ai st) .none kV doc pm an cdv ct) ⟨us,[]⟩=pure (ps.zip us)):Binds K fd ps []:=by
 obtain ⟨oc,od,kV,doc,pm,an,cdv,ct,osl,rfl,lk,hcd⟩:=F.ex
 exact .all (h kV doc pm an cdv ct)
theorem aI {x qual:Str} {st:Stmt} {f:Addr} {oc:Value} {od an:Option Addr} {osl:Array (Option Value)} {kV doc pm cdv ct:Value} (l:K.lookup f=some ⟨oc,od, .func (PySem.W.fnOf x qual (ax st) (av st) (ai st) .none kV doc pm an cdv ct),osl⟩)
 (c:PySem.W.codeIn K cdv qual=true) (k:PySem.W.keepIn K (.ref f)=true):Fun K x qual st f (PySem.W.fnOf x qual (ax st) (av st) (ai st) .none kV doc pm an cdv ct):=⟨⟨oc,od,kV,doc,pm,an,cdv,ct,osl,rfl,l,c⟩,k⟩
end
theorem mZ {A:Around} {k:Nat} (hr:Room k A):A.units+1 < cLine:=xO (ym (by decide:1≤64) _) hr.units
section
variable {X:Cx}
theorem pv (i:Nat) {x:Str} {pos:Pos} (hN:X.N[i]?=some x:=by rfl) (hv:Vis X.env.scope x:=by first|exact Or.inl rfl|exact Or.inr (Or.inl rfl)|exact Or.inr (Or.inr rfl)) (hd:(x==("__debug__":Str))=false:=by decide)
 (hcd:(x==("__classdict__":Str))=false:=by decide):PE X (.Name x pos) (tVar i):=uH hN hv hd hcd
end
theorem iteF {A B:Prop} (h:B):if false=true then A else B:=by
 rw [if_neg xv]
 exact h
theorem iteT {A B:Prop} (h:A):if true=true then A else B:=by
 rw [if_pos rfl]
 exact h
theorem ite2 {c A B:Prop} [Decidable c] (h1:c→A) (h2:¬c→B):if c then A else B:=by
 by_cases h:c
 · rw [if_pos h]
   exact h1 h
 · rw [if_neg h]
   exact h2 h
def Same (H H':Hp):Prop:=∀b o,H b=some o→H' b=some o
theorem Same.refl (H:Hp):Same H H:=fun _ _ h=>h
theorem Same.trans {H H1 H2:Hp} (a:Same H H1) (b:Same H1 H2):Same H H2:=fun c o h=>b c o (a c o h)
theorem Same.free {H H':Hp} (e:Same H H') {l:Addr} (h:H' l=Option.none):H l=Option.none:=by
 cases q:H l with
 |none=>rfl
 |some o=>
  rw [e l o q] at h
  cases h
theorem Same.seq {K:PySem.W.Frag} {H H':Hp} {a:Addr} {xs:List V} (e:Same H H') (h:SqL K H a xs):SqL K H' a xs:=by
 rcases h with (h|⟨o,h⟩)|h
 · exact .inl (.inl (e _ _ h))
 · exact .inl (.inr ⟨o,e _ _ h⟩)
 · exact .inr h
end L2
namespace Srt
open PySem PySem.W PyProof.Rows
structure Ord (lt:Nat→Nat→Bool):Prop where
 asym:∀a b,lt a b=true→lt b a=false
 tr:∀a b c,lt b a=false→lt c b=false→lt c a=false
theorem Ord.refl {lt:Nat→Nat→Bool} (O:Ord lt) (a:Nat):lt a a=false:=by
 cases e:lt a a with
 |false=>rfl
 |true=>exact (O.asym a a e).symm.trans e |>.symm
theorem Ord.up {lt:Nat→Nat→Bool} (O:Ord lt) {a b c:Nat} (h:lt a b=true) (h2:lt c b=false):lt a c=true:=by
 cases e:lt a c with
 |true=>rfl
 |false=>
  have:=O.tr b c a h2 e
  rw [h] at this
  cases this
def Tri {α:Type} (lt:Nat→Nat→Bool) (N:Nat) (Post:α→Prop):KasT α→Prop
 | .ret a=>Post a
 | .ask i j k=>i < N∧j < N∧Tri lt N Post (k (lt i j))
variable {lt:Nat→Nat→Bool} {N:Nat}
theorem cB {α β:Type} {Post:β→Prop} {f:α→KasT β}:∀ {t:KasT α},Tri lt N (fun a=>Tri lt N Post (f a)) t→Tri lt N Post (t.bind f)
 | .ret a,h=>h
 | .ask i j k,h=>⟨h.1,h.2.1,cB h.2.2⟩
theorem bu {α:Type} {P Q:α→Prop} (hPQ:∀a,P a→Q a):∀ {t:KasT α},Tri lt N P t→Tri lt N Q t
 | .ret a,h=>hPQ a h
 | .ask i j k,h=>⟨h.1,h.2.1,bu hPQ h.2.2⟩
theorem oz {α:Type} {cmp:Nat→Nat→(Bool→Shared→Prop)→Shared→Prop} {G:Shared→Prop} {Post:α→Prop} {Q:α→Shared→Prop}
 (hc:∀i j (R:Bool→Shared→Prop) s,i < N→j < N→G s→(∀s',G s'→R (lt i j) s')→cmp i j R s) (hQ:∀a s,Post a→G s→Q a s):∀ {t:KasT α} {s:Shared},Tri lt N Post t→G s→t.kasWp cmp Q s
 | .ret a,s,h,g=>hQ a s h g
 | .ask i j k,s,h,g=>hc i j _ s h.1 h.2.1 g fun s' g'=>oz hc hQ h.2.2 g'
def g (p:Array Nat) (k:Nat):Nat:=p.getD k 0
def Pm (N:Nat) (p:Array Nat):Prop:=p.toList.Perm (List.range N)
theorem Pm.size {p:Array Nat} (h:Pm N p):p.size=N:=by
 have:=h.length_eq
 rw [xb,xX] at this
 exact this
theorem c4 {p:Array Nat} (k:Nat):g p k=(p[k]?).getD 0:=by
 unfold g
 rw [xR]
theorem Pm.bd {p:Array Nat} (h:Pm N p) {k:Nat} (hk:k < N):g p k < N:=by
 have hs:=h.size
 have:p[k]?=some (p[k]'(by omega)):=xq _
 rw [c4,this]
 have m:p[k]'(by omega)∈p.toList:=yf.mpr (Array.getElem_mem _)
 exact xN.mp (h.mem_iff.mp m)
theorem Pm.of {p q:Array Nat} (h:Pm N p) (e:q.Perm p):Pm N q:=(Array.perm_iff_toList_perm.mp e).trans h
theorem Pm.rev {p:Array Nat} (h:Pm N p) (i j:Nat):Pm N (kas_rev p i j):=h.of (mirror_perm _ _ _ _)
theorem dm {p:Array Nat} {i j:Nat} (hj:j≤p.size) (k:Nat):g (kas_rev p i j) k=if i≤k∧k < j then g p (i+j - 1 - k) else g p k:=by
 rw [c4]
 unfold kas_rev
 rw [getElem?_mirror_all hj]
 split<;>rw [c4]
theorem wR {p:Array Nat} {src d:Nat} (hs:src < p.size) (hd:d≤src) (k:Nat):g (bubble p src d) k=if k=src - d then g p src else if src - d < k∧k≤src then g p (k - 1) else g p k:=by
 rw [c4,getElem?_bubble hs d hd]
 split
 · rw [c4]
 · split<;>rw [c4]
def Up (lt:Nat→Nat→Bool) (p:Array Nat) (n:Nat):Prop:=∀i j,i≤j→j < n→lt (g p j) (g p i)=false
def Dn (lt:Nat→Nat→Bool) (p:Array Nat) (n:Nat):Prop:=∀i j,i≤j→j < n→lt (g p i) (g p j)=false
theorem rN (O:Ord lt) {p:Array Nat} {n:Nat} (h0:1≤n) (h:Up lt p n) (e:lt (g p n) (g p (n - 1))=false):Up lt p (n+1):=by
 intro i j hij hj
 by_cases q:j < n
 · exact h i j hij q
 · have ej:j=n:=by omega
   subst ej
   by_cases qi:i=j
   · subst qi
     exact O.refl _
   · exact O.tr _ _ _ (h i (j - 1) (by omega) (by omega)) e
theorem eC (O:Ord lt) {p:Array Nat} {n:Nat} (h0:1≤n) (h:Dn lt p n) (e:lt (g p (n - 1)) (g p n)=false):Dn lt p (n+1):=by
 intro i j hij hj
 by_cases q:j < n
 · exact h i j hij q
 · have ej:j=n:=by omega
   subst ej
   by_cases qi:i=j
   · subst qi
     exact O.refl _
   · exact O.tr _ _ _ e (h i (j - 1) (by omega) (by omega))
theorem uv {p:Array Nat} {n:Nat} (hn:n≤p.size) (h:Dn lt p n):Up lt (kas_rev p 0 n) n:=by
 intro i j hij hj
 rw [dm hn,dm hn,if_pos ⟨xz _,hj⟩,if_pos ⟨xz _,by omega⟩]
 exact h _ _ (by omega) (by omega)
theorem oH (O:Ord lt) {p:Array Nat} (hp:Pm N p):∀(f n:Nat),1≤n→n+f≤N→Up lt p n→Tri lt N (fun m=>n≤m∧m≤n+f∧Up lt p m∧(m < n+f→lt (g p m) (g p (m - 1))=true)) (kas_asc p f n)
 |0,n,h1,h2,h=>⟨x9 _,x9 _,h,fun q=>absurd q (by omega)⟩
 |f+1,n,h1,h2,h=>by
  refine ⟨Pm.bd hp (by omega),Pm.bd hp (by omega),?_⟩
  show Tri lt N _ (if lt (g p n) (g p (n - 1))=true then .ret n else kas_asc p f (n+1))
  by_cases e:lt (g p n) (g p (n - 1))=true
  · rw [if_pos e]
    exact ⟨x9 _,by omega,h,fun _=>e⟩
  · rw [if_neg e]
    refine bu (fun m hm=> ?_) (oH O hp f (n+1) (by omega) (by omega) (rN O h1 h (by simpa using e)))
    exact ⟨by omega,by omega,hm.2.2.1,fun q=>hm.2.2.2 (by omega)⟩
def Eqv (lt:Nat→Nat→Bool) (p:Array Nat) (n q:Nat):Prop:=∀k,n - 1 - q≤k→k < n→lt (g p k) (g p (n - 1))=false∧lt (g p (n - 1)) (g p k)=false
theorem k7 (O:Ord lt) {p:Array Nat} {n q:Nat} (hn:n≤p.size) (hq:q+1≤n) (h:Dn lt p n) (he:Eqv lt p n q):Dn lt (kas_rev p (n - (q+1)) n) n:=by
 intro i j hij hj
 rw [dm hn,dm hn]
 by_cases bi:n - (q+1)≤i
 · rw [if_pos ⟨bi,by omega⟩,if_pos ⟨by omega,hj⟩]
   obtain ⟨a1,a2⟩:=he (n - (q+1)+n - 1 - i) (by omega) (by omega)
   obtain ⟨b1,b2⟩:=he (n - (q+1)+n - 1 - j) (by omega) (by omega)
   exact O.tr _ _ _ b2 a1
 · rw [if_neg (by omega)]
   by_cases bj:n - (q+1)≤j
   · rw [if_pos ⟨bj,hj⟩]
     exact h _ _ (by omega) (by omega)
   · rw [if_neg (by omega)]
     exact h _ _ hij hj
theorem iP (O:Ord lt):∀(f:Nat) (p:Array Nat) (n q:Nat),Pm N p→1≤n→n+f≤N→q+1≤n→Dn lt p n→Eqv lt p n q→
 Tri lt N (fun r=>Pm N r.1∧n≤r.2.1∧r.2.1≤n+f∧r.2.2+1≤r.2.1∧Dn lt r.1 r.2.1∧Eqv lt r.1 r.2.1 r.2.2) (kas_desc f p n q)
 |0,p,n,q,hp,h1,h2,hq,h,he=>⟨hp,x9 _,x9 _,hq,h,he⟩
 |f+1,p,n,q,hp,h1,h2,hq,h,he=>by
  have hs:=hp.size
  refine ⟨Pm.bd hp (by omega),Pm.bd hp (by omega),?_⟩
  show Tri lt N _ (if lt (g p n) (g p (n - 1))=true then (if q > 0 then kas_desc f (kas_rev p (n - (q+1)) n) (n+1) 0 else kas_desc f p (n+1) 0) else .ask (g p (n - 1)) (g p n) fun d=>if d=true then .ret (p,n,q) else kas_desc f p (n+1) (q+1))
  have one:∀p':Array Nat,Eqv lt p' (n+1) 0:=fun p' k k1 k2=>by
   have:k=n:=by omega
   subst this
   exact ⟨O.refl _,O.refl _⟩
  by_cases e:lt (g p n) (g p (n - 1))=true
  · rw [if_pos e]
    have e':=O.asym _ _ e
    by_cases q0:q > 0
    · rw [if_pos q0]
      have d1:=k7 O (by omega) hq h he
      have d2:Dn lt (kas_rev p (n - (q+1)) n) (n+1):=by
       refine eC O h1 d1 ?_
       rw [dm (by omega),dm (by omega),if_pos ⟨by omega,by omega⟩,if_neg (by omega)]
       obtain ⟨a1,a2⟩:=he (n - (q+1)+n - 1 - (n - 1)) (by omega) (by omega)
       exact O.tr _ _ _ e' a1
      refine bu (fun r hr=> ?_) (iP O f _ (n+1) 0 (hp.rev _ _) (by omega) (by omega) (by omega) d2 (one _))
      exact ⟨hr.1,by omega,by omega,hr.2.2.2⟩
    · rw [if_neg q0]
      refine bu (fun r hr=> ?_) (iP O f p (n+1) 0 hp (by omega) (by omega) (by omega) (eC O h1 h e') (one _))
      exact ⟨hr.1,by omega,by omega,hr.2.2.2⟩
  · rw [if_neg e]
    have e1:lt (g p n) (g p (n - 1))=false:=by simpa using e
    refine ⟨Pm.bd hp (by omega),Pm.bd hp (by omega),?_⟩
    show Tri lt N _ (if lt (g p (n - 1)) (g p n)=true then .ret (p,n,q) else kas_desc f p (n+1) (q+1))
    by_cases e2:lt (g p (n - 1)) (g p n)=true
    · rw [if_pos e2]
      exact ⟨hp,x9 _,(by show n≤n+(f+1);omega),hq,h,he⟩
    · rw [if_neg e2]
      have e3:lt (g p (n - 1)) (g p n)=false:=by simpa using e2
      refine bu (fun r hr=> ?_) (iP O f p (n+1) (q+1) hp (by omega) (by omega) (by omega) (eC O h1 h e3) fun k k1 k2=> ?_)
      · exact ⟨hr.1,by omega,by omega,hr.2.2.2⟩
      · show lt (g p k) (g p n)=false∧lt (g p n) (g p k)=false
        by_cases kn:k=n
        · subst kn
          exact ⟨O.refl _,O.refl _⟩
        · obtain ⟨a1,a2⟩:=he k (by omega) (by omega)
          exact ⟨O.tr _ _ _ e3 a1,O.tr _ _ _ a2 e1⟩
theorem oG (O:Ord lt) {p:Array Nat} {n:Nat} (hp:Pm N p) (h1:1≤n) (hn:n≤N) (h:Dn lt p n):Tri lt N (fun r=>Pm N r.2∧1≤r.1∧r.1≤N∧Up lt r.2 r.1) (kas_tail3 n N p):=by
 unfold kas_tail3
 refine cB (bu (fun m hm=> ?_) (oH O (hp.rev 0 n) (N - n) n h1 (by omega) (uv (by rw [hp.size];exact hn) h)))
 exact ⟨hp.rev 0 n,by omega,by omega,hm.2.2.1⟩
theorem g8 (O:Ord lt) {p:Array Nat} {n:Nat} (hp:Pm N p) (hn:n+1≤N) (h:Dn lt p (n+1)):Tri lt N (fun r=>Pm N r.2∧1≤r.1∧r.1≤N∧Up lt r.2 r.1) (kas_descPart n N p):=by
 unfold kas_descPart
 refine cB (bu (fun r hr=> ?_) (iP O (N - (n+1)) p (n+1) 0 hp (by omega) (by omega) (by omega) h fun k k1 k2=> ?_))
 · obtain ⟨a1,a2,a3,a4,a5,a6⟩:=hr
   split
   · exact oG O (a1.rev _ _) (by omega) (by omega) (k7 O (by rw [a1.size];omega) a4 a5 a6)
   · exact oG O a1 (by omega) (by omega) a5
 · have:k=n:=by omega
   subst this
   exact ⟨O.refl _,O.refl _⟩
theorem rQ (O:Ord lt) {p:Array Nat} (hp:Pm N p) (hN:1≤N):Tri lt N (fun r=>Pm N r.2∧1≤r.1∧r.1≤N∧Up lt r.2 r.1) (kas_count N p):=by
 unfold kas_count
 have u1:Up lt p 1:=fun i j hij hj=>by
  have:i=0:=by omega
  have:j=0:=by omega
  subst_vars
  exact O.refl _
 refine cB (bu (fun n hn=> ?_) (oH O hp (N - 1) 1 (x9 _) (by omega) u1))
 obtain ⟨b1,b2,b3,b4⟩:=hn
 by_cases e:(n==N)=true
 · rw [if_pos e]
   exact ⟨hp,b1,by omega,b3⟩
 · rw [if_neg e]
   have e':n≠N:=by simpa using e
   have l1:=b4 (by omega)
   by_cases n1:n > 1
   · rw [if_pos n1]
     refine ⟨Pm.bd hp (by omega),Pm.bd hp (by omega),?_⟩
     show Tri lt N _ (if lt (g p 0) (g p (n - 1))=true then .ret (n,p) else kas_descPart n N (kas_rev p 0 n))
     by_cases e2:lt (g p 0) (g p (n - 1))=true
     · rw [if_pos e2]
       exact ⟨hp,b1,by omega,b3⟩
     · rw [if_neg e2]
       have e3:lt (g p 0) (g p (n - 1))=false:=by simpa using e2
       have alike:∀i j,i < n→j < n→lt (g p i) (g p j)=false:=fun i j hi hj=>
        O.tr (g p j) (g p 0) (g p i) (O.tr _ _ _ (b3 j (n - 1) (by omega) (by omega)) e3) (b3 0 i (xz _) hi)
       have hs:=hp.size
       refine g8 O (hp.rev 0 n) (by omega) (eC O (by omega) (fun i j hij hj=> ?_) ?_)
       · rw [dm (by omega),dm (by omega),if_pos ⟨xz _,by omega⟩,if_pos ⟨xz _,hj⟩]
         exact alike _ _ (by omega) (by omega)
       · rw [dm (by omega),dm (by omega),if_pos ⟨xz _,by omega⟩,if_neg (by omega)]
         exact O.tr _ _ _ (O.asym _ _ l1) (alike _ _ (by omega) (by omega))
   · rw [if_neg n1]
     have en:n=1:=by omega
     subst en
     refine g8 O hp (by omega) (eC O (x9 _) (fun i j hij hj=> ?_) (O.asym _ _ l1))
     have:i=0:=by omega
     have:j=0:=by omega
     subst_vars
     exact O.refl _
theorem iO (O:Ord lt) {p:Array Nat} {k:Nat} (hp:Pm N p) (hk:k < N) (h:Up lt p k):∀(f l r:Nat),l≤r→r≤k→r - l≤f→(∀i,i < l→lt (g p k) (g p i)=false)→(∀i,r≤i→i < k→lt (g p k) (g p i)=true)→
 Tri lt N (fun m=>m≤k∧(∀i,i < m→lt (g p k) (g p i)=false)∧∀i,m≤i→i < k→lt (g p k) (g p i)=true) (kas_place p k f l r)
 |0,l,r,h1,h2,h3,a,b=>by
  have:l=r:=by omega
  subst this
  exact ⟨h2,a,b⟩
 |f+1,l,r,h1,h2,h3,a,b=>by
  show Tri lt N _ (if l≥r then .ret l else .ask (p.getD k 0) (p.getD ((l+r) / 2) 0) fun c=>if c=true then kas_place p k f l ((l+r) / 2) else kas_place p k f ((l+r) / 2+1) r)
  by_cases e:l≥r
  · rw [if_pos e]
    have:l=r:=by omega
    subst this
    exact ⟨h2,a,b⟩
  · rw [if_neg e]
    refine ⟨Pm.bd hp hk,Pm.bd hp (by omega),?_⟩
    show Tri lt N _ (if lt (g p k) (g p ((l+r) / 2))=true then kas_place p k f l ((l+r) / 2) else kas_place p k f ((l+r) / 2+1) r)
    by_cases c:lt (g p k) (g p ((l+r) / 2))=true
    · rw [if_pos c]
      refine iO O hp hk h f l ((l+r) / 2) (by omega) (by omega) (by omega) a fun i i1 i2=> ?_
      by_cases q:r≤i
      · exact b i q i2
      · exact O.up c (h _ _ i1 i2)
    · rw [if_neg c]
      have c':lt (g p k) (g p ((l+r) / 2))=false:=by simpa using c
      refine iO O hp hk h f ((l+r) / 2+1) r (by omega) h2 (by omega) (fun i i1=> ?_) b
      exact O.tr _ _ _ (h i ((l+r) / 2) (by omega) (by omega)) c'
theorem tS (O:Ord lt):∀(f:Nat) (p:Array Nat) (k:Nat),Pm N p→k+f≤N→Up lt p k→Tri lt N (fun q=>Pm N q∧Up lt q (k+f)) (kas_bin f p k)
 |0,p,k,hp,_,h=>⟨hp,h⟩
 |f+1,p,k,hp,hk,h=>by
  have hs:=hp.size
  show Tri lt N _ ((kas_place p k k 0 k).bind fun l=>kas_bin f (bubble p k (k - l)) (k+1))
  refine cB (bu (fun l hl=> ?_) (iO O hp (by omega) h k 0 k (xz _) (x9 _) (by omega) (fun i hi=>absurd hi (by omega)) fun i h1 h2=>absurd h1 (by omega)))
  obtain ⟨l1,l2,l3⟩:=hl
  have el:k - (k - l)=l:=by omega
  have hb:∀i,g (bubble p k (k - l)) i=if i=l then g p k else if l < i∧i≤k then g p (i - 1) else g p i:=fun i=>by
   rw [wR (by omega) (by omega),el]
  have u:Up lt (bubble p k (k - l)) (k+1):=by
   intro i j hij hj
   rw [hb,hb]
   by_cases jl:j=l
   · rw [if_pos jl]
     by_cases il:i=l
     · rw [if_pos il]
       exact O.refl _
     · rw [if_neg il,if_neg (by omega)]
       exact l2 i (by omega)
   · rw [if_neg jl]
     by_cases j2:l < j∧j≤k
     · rw [if_pos j2]
       by_cases il:i=l
       · rw [if_pos il]
         exact O.asym _ _ (l3 (j - 1) (by omega) (by omega))
       · rw [if_neg il]
         by_cases i2:l < i∧i≤k
         · rw [if_pos i2]
           exact h _ _ (by omega) (by omega)
         · rw [if_neg i2]
           exact h _ _ (by omega) (by omega)
     · rw [if_neg j2,if_neg (by omega),if_neg (by omega)]
       exact h _ _ hij (by omega)
  refine bu (fun q hq=> ?_) (tS O f _ (k+1) (hp.of (bubble_perm _ _ _)) (by omega) u)
  rw [show k+(f+1)=k+1+f by omega]
  exact hq
theorem ux (O:Ord lt) (hN:1≤N):Tri lt N (fun p=>Pm N p∧Up lt p N) (kas_sort N):=by
 unfold kas_sort
 have h0:Pm N (List.toArray (List.range N)):=by
  unfold Pm
  simp
 refine cB (bu (fun r hr=> ?_) (rQ O h0 hN))
 obtain ⟨a1,a2,a3,a4⟩:=hr
 by_cases e:r.1 < N
 · rw [if_pos e]
   have em:max r.1 1=r.1:=by omega
   rw [em]
   have:=tS O (N - r.1) r.2 r.1 a1 (by omega) a4
   rw [show r.1+(N - r.1)=N by omega] at this
   exact this
 · rw [if_neg e]
   have:r.1=N:=by omega
   rw [this] at a4
   exact ⟨a1,a4⟩
end Srt
namespace L2
open PySem
section
variable {M:Model} {prog:Program} {w:World} {A:Around} {E:Value→Shared→Prop} {h:Heap} {g:Array GenState} {d:Drawn} {t:Nat} {os:OsState}
variable {nm q:Str} {C N:Addr} {bs bm bmB:List Value} {hdct:Bool} {sn:List Str} {sub:List Value} {ab:Bool} {col:Option Bool} {dd:Option Addr} {k0 k1 k2 k3 k5:Option Value} {B newId initId:String}
structure Line (B:String) (bm:List Value):Prop where
 own:bm.contains (.type B)=true
 top:bm.contains (.type "BaseException")=true
 attr:bm.contains (.type "AttributeError")=false
 name:bm.contains (.type "NameError")=false
theorem Line.cons {C:Addr} (l:Line B bm):Line B (.ref C::bm):=
 ⟨by rw [List.contains_cons,l.own,Bool.or_true],by rw [List.contains_cons,l.top,Bool.or_true],by rw [List.contains_cons,l.attr];rfl,by rw [List.contains_cons,l.name];rfl⟩
end
end L2
namespace L2
section
open PySem
variable {prog:Program} {w:World} {A:Around} {E:Value→Shared→Prop} {h:Heap} {g:Array GenState} {d:Drawn} {t:Nat} {os:OsState}
variable {nm q:Str} {C N:Addr} {bs bm bmB:List Value} {hdct:Bool} {sn:List Str} {sub:List Value} {ab:Bool} {col:Option Bool} {dd:Option Addr} {k0 k1 k2 k3 k5:Option Value} {B newId nid initId:String}
end
open PySem PySem.Spec PyProof.Rows
section
variable {X:Cx} {CX:CXT} {k:Nat} {f C:Addr} {fd:FuncData} {ps:List Str} {sp:Sp} {E:XK} {x:Str} {p pos apos:Pos} {e:Expr} {es:List Expr} {t:TA}
end
open PySem PySem.Spec PyProof.Rows
section
variable {X:Cx} {C fI:Addr} {E:XK} {pos:Pos} {ce:Expr} {te:TE}
end
end L2
namespace L2
section
open PySem PySem.W Builtin Builtin.ObjectAttr Builtin.Getset_descriptor
variable {prog:Program} {w:World} {A:Around} {E:Value→Shared→Prop} {h:Heap} {g:Array GenState} {d:Drawn} {t:Nat} {os:OsState} {a C:Addr} {o:Obj} {K:Frag}
structure XIs (K:Frag) (C:Addr):Prop where
 cls:(clsIn K C).isSome=true
 ga:findIn K (.ref C) "__getattribute__"=some (some (.builtin "BaseException.__getattribute__"))
 hook:findIn K (.ref C) "__getattr__"=some none
 cl:findIn K (.ref C) "__class__"=some (some (.builtin "object.__class__"))
 mo:mroIn K C (.type "object")=some true
 mb:mroIn K C (.type "BaseException")=some true
theorem f8 {M:Model} {n:Str} {r:Option Value} {Q:Option Value→Shared→Prop} (X:K.In h) (e:findIn K (.ref C) n=some r) (z:Q r ⟨h,g,d,t,os⟩):wpAny M A (typeLookup (.ref C) n) Q E ⟨h,g,d,t,os⟩:=
 (looks_findIn (M:=M) X e).at z
theorem qw {M:Model} {b:Value} {r:Bool} {Q:Bool→Shared→Prop} (X:K.In h) (e:mroIn K C b=some r) (z:Q r ⟨h,g,d,t,os⟩):wpAny M A (isSubtype (.ref C) b) Q E ⟨h,g,d,t,os⟩:=
 (looks_mroIn (M:=M) X e).at z
theorem hX {R:Result→Shared→Prop} {tp:Value} (Z:XIs K C) (X:K.In h) (hx:h.get? a=some o) (hc:o.cls= .ref C) (z:R (.ok (.ret (.ref C))) ⟨h,g,d,t,os⟩):
 codeAny (model prog w) A (.call (.builtin "getset_descriptor.__get__") ⟨[.builtin "object.__class__", .ref a,tp],[]⟩) R ⟨h,g,d,t,os⟩:=by
 have L0:Looks (model prog w) h (typeOf (.ref a)) (.ref C):=by
  have:=((Looks.ld (M:=model prog w) (part:=some headPart) hx).andThen (f:=fun o=>pure o.cls) .now)
  rw [hc] at this
  exact this
 have L1:=looks_mroIn (M:=model prog w) X Z.mo
 refine codeAny_call_builtin KF.slot_gs.plain KF.entry_gs (KF.slot_gs.check _ _ _ _ _ _ _ _ KF.type_class (KF.args_gs _ _ _) ?_)
 unfold Builtin.«getset_descriptor.__get__» descrGet
 rw [dga_obj]
 refine wpAny_bind (wpAny_pure ?_)
 unfold descrGetter descrCheckInstance descrNameAndClass isInstance
 simp only [KF.owner_class]
 repeat lk
 refine ⟨Code.quiet_builtin _ (by decide +kernel),codeAny_builtin KF.entry_class ?_⟩
 unfold Builtin.«object.__class__» shownTypeOf
 repeat lk
 exact z
theorem vd {M:Model} {nv:Value} {Q:Unit→Shared→Prop} (Z:XIs K C) (X:K.In h) (hx:h.get? a=some o) (hc:o.cls= .ref C) (z:Q () ⟨h,g,d,t,os⟩):
 wpAny M A (checkBuiltinCall "BaseException.__getattribute__" ⟨[.ref a,nv],[]⟩) Q E ⟨h,g,d,t,os⟩:=by
 have hk:builtinKind "BaseException.__getattribute__"=some .slot:=by decide +kernel
 have hs:splitId "BaseException.__getattribute__"=some ("BaseException","__getattribute__"):=by decide +kernel
 have ha:=PySem.F.args_bexc_ga (.ref a) nv
 simp only [checkBuiltinCall,hk,hs]
 refine wpAny_bind ?_
 unfold isInstance
 repeat
  first
  |(with_reducible refine wpAny_loadPart_at hx ?_;rw [hc])
  |with_reducible refine qw X Z.mb ?_
  |wp_step
 exact z
theorem o6 {Q:Option Value→Shared→Prop} (Z:XIs K C) (X:K.In h) (hx:h.get? a=some o) (hc:o.cls= .ref C) (z:Q (some (.ref C)) ⟨h,g,d,t+1,os⟩):
 wpAny (model prog w) A (getAttr? (.ref a) "__class__") Q E ⟨h,g,d,t,os⟩:=by
 have f3:=PySem.F.excAttr_ValueError.ga.bind (.ref a)
 have b2:(Value.builtin "BaseException.__getattribute__"==Value.builtin "object.__getattribute__")=false:=by decide +kernel
 have b1:(onTheHeap (Value.ref C)&&Value.builtin "BaseException.__getattribute__"==Value.builtin "object.__getattribute__")=false:=by rw [b2];rfl
 have f5:=PySem.F.typeOf_object_class
 have f6:=PySem.F.slot_gs_get.lookup
 have f7:=PySem.F.slot_gs_set.lookup
 have hT5:(⟨h,g,d,t+1,os⟩:Shared).TypeIs (.builtin "object.__class__") "getset_descriptor":=PySem.F.typeOf_object_class
 unfold getAttr? getAttrBy?
 refine wpAny_bind (wpAny_mkText (wpAny_bind (wpAny_attempt ?_)))
 unfold getAttrBy
 repeat
  any_goals
   first
   |assumption
   |(with_reducible refine wpAny_loadPart_at hx ?_;rw [hc])
   |with_reducible refine f8 X Z.ga ?_
   |with_reducible refine f8 X Z.hook ?_
   |wp_step
 refine codeAny_call_builtin PySem.F.excAttr_ValueError.ga.plain PySem.F.entry_bexc_ga (vd Z X hx hc ?_)
 repeat
  any_goals
   first
   |assumption
   |(with_reducible refine wpAny_loadPart_at hx ?_;rw [hc])
   |with_reducible refine f8 X Z.cl ?_
   |wp_step
 refine hX Z X hx hc ?_
 repeat
  any_goals
   first
   |assumption
   |wp_step
end
end L2
namespace L2
open PySem PySem.Spec PyProof.Rows
noncomputable def Cau (C a:Addr):HO:= .ext fun h=>∃o,h.get? a=some o∧o.cls= .ref C
theorem qG {K:PySem.W.Frag} {C a:Addr} (Z:XIs K C):PySem.W.KitX K (.ref a) (.ref C) (fun h=>∃o,h.get? a=some o∧o.cls= .ref C) where
 ty:=fun M h _ ⟨o,e,c⟩=>by
  have:=((PySem.W.Looks.ld (M:=M) (part:=some headPart) e).andThen (f:=fun o=>pure o.cls) .now)
  rw [c] at this
  exact this
 it:=fun M h X _=>by
  have hc:=Z.cls
  unfold PySem.W.clsIn at hc
  split at hc
  · rename_i ho
    intro A' Q' E' s' k q
    unfold isType loadHead
    exact wpAny_bind (wpAny_loadPart (k _ _ (X _ _ ho)) (wpAny_pure q))
  · cases hc
 ne:=fun h tp dd its n sl X htp=>by
  have hc:=Z.cls
  refine Bool.eq_false_iff.mpr fun q=> ?_
  have e:C=tp:=Value.ref.inj (beq_iff_eq.mp q)
  subst e
  unfold PySem.W.clsIn at hc
  split at hc
  · rename_i ho
    cases (X _ _ ho).symm.trans htp
  · cases hc
 ca:=fun {prog w A E Q s} X ⟨o,e,c⟩ k=>by
  obtain ⟨h,g,d,t,os⟩:=s
  exact o6 Z X e c k
noncomputable def clsV:V→Value
 | .ty n=> .type n
 | .ref a=> .ref a
 |_=> .none
def mY:V→Bool
 | .ty _=>true
 | .ref _=>true
 |_=>false
theorem nn {x:V} {u:Value} (r:RelV x u) (h:mY x=true):u=clsV x:=by
 cases x with
 |ty n=>exact r
 |ref a=>exact r
 |_=>cases h
theorem kg:∀ {xs:List V} {us:List Value},Vals xs us→xs.all mY=true→us=xs.map clsV
 |_,_, .nil,_=>rfl
 |_,_, .cons r t,h=>by
  rw [List.all_cons,xV] at h
  rw [nn r h.1,kg t h.2,xg]
inductive TyX (K:PySem.W.Frag) (H:Hp):V→Value→Prop where
 |of {x:V} {t:Value} (h:TyOf K H x t):TyX K H x t
 |exc {a C:Addr} (e:H a=some (Cau C a)) (Z:XIs K C):TyX K H (.ref a) (.ref C)
section
variable {X:Cx}
theorem TyX.kit {pins:List (Addr×Obj)} {σ:St} {H:Hp} {s:Shared} {x:V} {u t:Value} (I:Inv X pins σ H s) (rx:RelV x u) (ty:TyX X.K H x t):∃Hh,PySem.W.KitX X.K u t Hh∧Hh s.heap∧u≠ .builtin "__main__.__loader__#opaque":=by
 cases ty with
 |of ty=>
  cases ty with
  |non=>cases (show u=Value.none from rx);exact ⟨_,PySem.W.kitx_none,True.intro,fun z=>nomatch z⟩
  |bl y=>cases (show u=Value.bool y from rx);exact ⟨_,PySem.W.kitx_bool,True.intro,fun z=>nomatch z⟩
  |int i=>obtain ⟨t,q⟩:=(show∃t,u=Value.int i t from rx);cases q;exact ⟨_,PySem.W.kitx_int,True.intro,fun z=>nomatch z⟩
  |str y=>obtain ⟨t,q⟩:=(show∃t,u=Value.str y t from rx);cases q;exact ⟨_,PySem.W.kitx_str,True.intro,fun z=>nomatch z⟩
  |flt y=>obtain ⟨t,q⟩:=(show∃t,u=Value.float y t from rx);cases q;exact ⟨_,PySem.W.kitx_float,True.intro,fun z=>nomatch z⟩
  | @lst a xs ea=>
   cases (show u=Value.ref a from rx)
   obtain ⟨_,_,n,_,h1⟩:=(show ObjOk X.prog X.w H s.heap a (.lst xs) from I.hok a _ ea)
   exact ⟨_,PySem.W.kitx_list,⟨_,h1,rfl⟩,fun z=>nomatch z⟩
  | @frz a ob xs ea=>
   cases (show u=Value.ref a from rx)
   obtain ⟨_,_,_,n,_,h1⟩:=(show ObjOk X.prog X.w H s.heap a (.frz ob (.lst xs)) from I.hok a _ ea)
   exact ⟨_,PySem.W.kitx_list,⟨_,h1,rfl⟩,fun z=>nomatch z⟩
  | @tup a xs ea=>
   cases (show u=Value.ref a from rx)
   obtain ⟨_,_,_,o,h1,h2,_⟩:=(show ObjOk X.prog X.w H s.heap a (.tup xs) from I.hok a _ ea)
   exact ⟨_,PySem.W.kitx_tuple,⟨o,h1,h2⟩,fun z=>nomatch z⟩
  | @dK a kvs ea=>
   cases (show u=Value.ref a from rx)
   obtain ⟨_,_,vs,_,o,es,ep,h1,h2,_⟩:=(show ObjOk X.prog X.w H s.heap a (.dK kvs) from I.hok a _ ea)
   exact ⟨_,PySem.W.kitx_dict,⟨o,h1,h2.1⟩,fun z=>nomatch z⟩
  | @dT a kvs ea=>
   cases (show u=Value.ref a from rx)
   obtain ⟨_,_,xs,_,o,es,ep,h1,h2,_⟩:=(show ObjOk X.prog X.w H s.heap a (.dT kvs) from I.hok a _ ea)
   exact ⟨_,PySem.W.kitx_dict,⟨o,h1,h2.1⟩,fun z=>nomatch z⟩
  | @ins a C dx fs ea cl ha hn htk hm=>
   cases (show u=Value.ref a from rx)
   obtain ⟨mA,O,_⟩:=t4 I.hok ea
   obtain ⟨od,J,_⟩:=O.look
   exact ⟨_,PySem.W.kitx_own (cl.get _) cl.hd ha hn htk hm,J,fun z=>nomatch z⟩
 | @exc a C e Z=>
  cases (show u=Value.ref a from rx)
  obtain ⟨h1,_⟩:=(show ObjOk X.prog X.w H s.heap a (Cau C a) from I.hok a _ e)
  exact ⟨_,qG Z,h1,fun z=>nomatch z⟩
def rIsi (K:PySem.W.Frag):List V→Hp→VK→Prop:=fun xs H Q=>∃x c t b,xs= [x,c]∧TyX K H x t∧
 ((mY c=true∧PySem.W.kitOne K t (clsV c)=some b)∨(∃p ys,c= .ref p∧H p=some (.tup ys)∧ys.all mY=true∧PySem.W.kitAny K t (ys.map clsV)=some b))∧Q (.bl b) H
theorem bz:c7 X (.builtin "isinstance") (rIsi X.K):=by
 intro pins s σ H xs us Q I r h
 obtain ⟨x,c,t,b,e,ty,h,q⟩:=h
 subst e
 cases r with
 | @cons _ u _ _ rx r=>
  cases r with
  | @cons _ v _ _ rc r=>
   cases r
   obtain ⟨Hh,Z,hp,hne⟩:=ty.kit I rx
   rcases h with ⟨hc,hk⟩|⟨p,ys,e,hH,hall,hk⟩
   · cases nn rc hc
     exact PySem.W.kia_one Z I.kIn hp hk hne fun tk=>⟨.bl b,H,I.tok tk,rfl,q⟩
   · subst e
     cases (show v=Value.ref p from rc)
     obtain ⟨_,its,rv,⟨oc,od,oda,osl⟩,h1,h2,n,h3⟩:=(show ObjOk X.prog X.w H s.heap p (.tup ys) from I.hok p _ hH)
     dsimp only at h2 h3
     subst h2 h3
     cases kg rv hall
     exact PySem.W.kia_tup Z I.kIn hp h1 hk hne fun tk=>⟨.bl b,H,I.tok tk,rfl,q⟩
end
open PySem PySem.Spec PyProof.Rows
abbrev TSX:=Ends→XK→St→Hp→Prop
section
variable {X:Cx} {CX:CXT} {k:Nat} {f:Addr} {fd:FuncData} {ps:List Str} {sp:Sp} {x:Str} {p pos epos:Pos} {e:Expr} {es:List Expr} {t:TA}
end
section
variable {X:Cx} {pins:List (Addr×Obj)} {σ:St} {H:Hp} {s:Shared} {a:Addr}
end
section
variable {X:Cx} {body suite:List Stmt} {b0:Stmt} {tb:TSX} {ts:TS} {i:Nat} {n cx:Str} {np hpos pos:Pos} {W:Addr}
end
open PySem PySem.Spec PyProof.Rows
section
variable {X:Cx}
def Big (i:Int):Prop:=i.natAbs < 2^8000
theorem j7:OpR X (binaryOp .Mult) (rI (fun i j=>Big i∧Big j) fun i j=> .int (i*j)):=opI fun _ _ _ _ _ _ _ hc q=>
 PyProof.Rows.mul_int q (IntMulOk.of_le (m:=8000) (n:=8000) (intBits_le_iff.mpr hc.1) (intBits_le_iff.mpr hc.2) (by decide))
theorem vF {i j:Int} (h:Big j):Builtin.divisionGoesByPylong i j=false:=by
 refine PyProof.noPylong_of_log2 ?_
 by_cases z:j.natAbs=0
 · rw [z];decide
 · exact Nat.lt_trans ((Nat.log2_lt z).mpr h) (by decide)
theorem dX:OpR X (binaryOp .FloorDiv) (rI (fun _ j=>0 < j∧Big j) fun i j=> .int (i / j)):=opI fun i j _ _ _ _ _ hc q=>by
 have h1:(0:Int) < j:=hc.1
 exact floordiv_int (by omega) (by rw [Int.fdiv_eq_ediv_of_nonneg i (by omega)];exact q) (.inl (vF hc.2))
theorem cJ (hc:X.calm=true):c7 X (.builtin "sum") (fun xs H Q=>∃(p:Addr) (ns:List Int),xs= [.ref p]∧SqL X.K H p (ns.map V.int)∧Q (.int ns.sum) H):=by
 intro pins s σ H xs us Q I r h
 obtain ⟨p,ns,e,hp,q⟩:=h
 subst e
 cases r with
 | @cons _ u _ _ r rr=>
  cases rr
  cases (show u=Value.ref p from r)
  obtain ⟨its,rv,pl,_⟩:=I.list hp
  have hi:=lB rv
  obtain ⟨zs,ez⟩:=hi.allInts.items
  have hl:=pl.isList
  rw [ez] at hl
  refine sum_intListG (I.ok.hd hc) hl fun h' tk t' hk=> ?_
  have e2:preSum (numAt zs) zs.size=ns.sum:=by
   have e3:numsOf (intItems zs).toList=ns:=by
    rw [←ez]
    exact hi.numsOf
   rw [preSum_eq,List.take_of_length_le (by simp),←nums_intItems,e3]
  rw [e2]
  exact ⟨.int ns.sum,H,I.kept hk,⟨_,rfl⟩,q⟩
end
theorem fq (K:PySem.W.Frag):PySem.W.kitOne K (.type "tuple") (.type "tuple")=some true:=by kernel_rfl
theorem fj (K:PySem.W.Frag):PySem.W.kitOne K (.type "int") (.type "int")=some true:=by kernel_rfl
theorem dZ (K:PySem.W.Frag):PySem.W.kitOne K (.type "int") (.type "bool")=some false:=by kernel_rfl
theorem aM:bootBuiltins "isinstance"=some (.builtin "isinstance"):=by decide +kernel
theorem d7:bootBuiltins "sum"=some (.builtin "sum"):=by decide +kernel
theorem ko:bootBuiltins "abs"=some (.builtin "abs"):=by decide +kernel
open PySem PySem.Spec PyProof.Rows
section
variable {X:Cx}
end
section
variable {X:Cx} {CX:CXT} {k:Nat} {f:Addr} {fd:FuncData} {ps:List Str} {sp:Sp} {x:Str} {p pos rpos:Pos} {e:Expr} {es:List Expr} {t:TA}
end
section
variable {X:Cx} {body suite:List Stmt} {b0:Stmt} {tb:TSX} {ts:TS} {cx:Str} {np hpos pos:Pos} {W:Addr}
end
end L2
namespace Tre
open PySem PySem.Spec PyProof.Rows L2
inductive Tr where
 |non
 |bl (b:Bool)
 |int (i:Int)
 |str (x:Str)
 |tup (ts:List Tr)
 |ls
mutual
noncomputable def Tr.depth:Tr→Nat
 | .tup ts=>Trs.depth ts+1
 |_=>0
noncomputable def Trs.depth:List Tr→Nat
 | []=>0
 |t::ts=>max (Tr.depth t) (Trs.depth ts)
end
mutual
def Tr.pure:Tr→Prop
 | .tup ts=>Trs.pure ts
 | .ls=>False
 |_=>True
def Trs.pure:List Tr→Prop
 | []=>True
 |t::ts=>Tr.pure t∧Trs.pure ts
end
mutual
def TrAt (H:Hp):V→Tr→Prop
 |v, .non=>v= .non
 |v, .bl b=>v= .bl b
 |v, .int i=>v= .int i
 |v, .str x=>v= .str x
 |v, .tup ts=>∃r vs,v= .ref r∧H r=some (.tup vs)∧TrsAt H vs ts
 |v, .ls=>∃r xs,v= .ref r∧H r=some (.lst xs)
def TrsAt (H:Hp):List V→List Tr→Prop
 |vs,[]=>vs= []
 |vs,t::ts=>∃v r,vs=v::r∧TrAt H v t∧TrsAt H r ts
end
structure Kd (H H':Hp):Prop where
 tup:∀a xs,H a=some (.tup xs)→H' a=some (.tup xs)
 lst:∀a xs,H a=some (.lst xs)→∃ys,H' a=some (.lst ys)
theorem Kd.refl (H:Hp):Kd H H:=⟨fun _ _ e=>e,fun _ xs e=>⟨xs,e⟩⟩
theorem Kd.trans {H H1 H2:Hp} (a:Kd H H1) (b:Kd H1 H2):Kd H H2:=⟨fun x o e=>b.tup x o (a.tup x o e),fun x o e=>by
 obtain ⟨ys,e1⟩:=a.lst x o e
 exact b.lst x ys e1⟩
theorem Kd.of_same {H H':Hp} (s:Same H H'):Kd H H':=⟨fun a xs e=>s a _ e,fun a xs e=>⟨xs,s a _ e⟩⟩
theorem Kd.upd {H:Hp} {p:Addr} {xs ys:List V} (h:H p=some (.lst xs)):Kd H (upd H p (.lst ys)):=by
 refine ⟨fun a zs e=> ?_,fun a zs e=> ?_⟩
 · rw [aG]
   · exact e
   · intro z
     rw [z,h] at e
     cases e
 · by_cases z:a=p
   · subst z
     exact ⟨ys,ac⟩
   · exact ⟨zs,(aG z).trans e⟩
mutual
theorem TrAt.mono {H H':Hp} (k:Kd H H'):∀ {v:V} {t:Tr},TrAt H v t→TrAt H' v t
 |v, .non,h=>by unfold TrAt at h ⊢;exact h
 |v, .bl b,h=>by unfold TrAt at h ⊢;exact h
 |v, .int i,h=>by unfold TrAt at h ⊢;exact h
 |v, .str x,h=>by unfold TrAt at h ⊢;exact h
 |v, .ls,h=>by
  unfold TrAt at h ⊢
  obtain ⟨r,xs,e,h⟩:=h
  obtain ⟨ys,h'⟩:=k.lst r xs h
  exact ⟨r,ys,e,h'⟩
 |v, .tup ts,h=>by
  unfold TrAt at h ⊢
  obtain ⟨r,vs,e,h1,h2⟩:=h
  exact ⟨r,vs,e,k.tup _ _ h1,TrsAt.mono k h2⟩
theorem TrsAt.mono {H H':Hp} (k:Kd H H'):∀ {vs:List V} {ts:List Tr},TrsAt H vs ts→TrsAt H' vs ts
 |vs,[],h=>by unfold TrsAt at h ⊢;exact h
 |vs,t::ts,h=>by
  unfold TrsAt at h ⊢
  obtain ⟨v,r,e,h1,h2⟩:=h
  exact ⟨v,r,e,TrAt.mono k h1,TrsAt.mono k h2⟩
end
theorem TrsAt.nil {H:Hp}:TrsAt H [] []:=by unfold TrsAt;rfl
theorem TrsAt.cons {H:Hp} {v:V} {t:Tr} {vs:List V} {ts:List Tr} (h:TrAt H v t) (r:TrsAt H vs ts):TrsAt H (v::vs) (t::ts):=by
 unfold TrsAt
 exact ⟨v,vs,rfl,h,r⟩
theorem TrsAt.inv {H:Hp} {t:Tr} {vs:List V} {ts:List Tr} (h:TrsAt H vs (t::ts)):∃v r,vs=v::r∧TrAt H v t∧TrsAt H r ts:=by
 unfold TrsAt at h
 exact h
theorem TrsAt.len {H:Hp}:∀ {vs:List V} {ts:List Tr},TrsAt H vs ts→vs.length=ts.length
 |vs,[],h=>by
  unfold TrsAt at h
  rw [h]
  rfl
 |vs,t::ts,h=>by
  obtain ⟨v,r,e,_,h2⟩:=h.inv
  rw [e,xh,xh,h2.len]
theorem TrsAt.app {H:Hp} {ws:List V} {us:List Tr} (b:TrsAt H ws us):∀ {vs:List V} {ts:List Tr},TrsAt H vs ts→TrsAt H (vs++ws) (ts++us)
 |vs,[],h=>by
  unfold TrsAt at h
  subst h
  exact b
 |vs,t::ts,h=>by
  obtain ⟨v,r,e,h1,h2⟩:=h.inv
  subst e
  exact .cons h1 (TrsAt.app b h2)
theorem TrsAt.get {H:Hp}:∀ {vs:List V} {ts:List Tr} {i:Nat} {t:Tr},TrsAt H vs ts→ts[i]?=some t→∃v,vs[i]?=some v∧TrAt H v t
 |vs,[],i,t,_,e=>by simp at e
 |vs,a::ts,0,t,h,e=>by
  obtain ⟨v,r,rfl,h1,h2⟩:=h.inv
  simp at e
  subst e
  exact ⟨v,rfl,h1⟩
 |vs,a::ts,i+1,t,h,e=>by
  obtain ⟨v,r,rfl,h1,h2⟩:=h.inv
  obtain ⟨u,e1,e2⟩:=h2.get (i:=i) (by simpa using e)
  exact ⟨u,by simpa using e1,e2⟩
theorem TrsAt.get' {H:Hp} {vs:List V} {ts:List Tr} {i:Nat} {v:V} (h:TrsAt H vs ts) (e:vs[i]?=some v):∃t,ts[i]?=some t∧TrAt H v t:=by
 have hl:=h.len
 have hi:i < vs.length:=(xo.mp e).1
 obtain ⟨u,e1,e2⟩:=h.get (i:=i) (t:=ts[i]'(by omega)) (x4 _)
 rw [e] at e1
 cases e1
 exact ⟨_,x4 _,e2⟩
mutual
theorem TrAt.det {H:Hp}:∀ {v:V} {t u:Tr},TrAt H v t→TrAt H v u→t=u
 |v, .non,u,h1,h2=>by
  unfold TrAt at h1
  subst h1
  cases u<;>unfold TrAt at h2<;>first|rfl|(cases h2;done)|(obtain ⟨_,_,e,_⟩:=h2;cases e)
 |v, .bl b,u,h1,h2=>by
  unfold TrAt at h1
  subst h1
  cases u<;>unfold TrAt at h2<;>first|(cases h2;rfl)|(cases h2;done)|(obtain ⟨_,_,e,_⟩:=h2;cases e)
 |v, .int b,u,h1,h2=>by
  unfold TrAt at h1
  subst h1
  cases u<;>unfold TrAt at h2<;>first|(cases h2;rfl)|(cases h2;done)|(obtain ⟨_,_,e,_⟩:=h2;cases e)
 |v, .str b,u,h1,h2=>by
  unfold TrAt at h1
  subst h1
  cases u<;>unfold TrAt at h2<;>first|(cases h2;rfl)|(cases h2;done)|(obtain ⟨_,_,e,_⟩:=h2;cases e)
 |v, .ls,u,h1,h2=>by
  unfold TrAt at h1
  obtain ⟨r,xs,rfl,h1⟩:=h1
  cases u<;>unfold TrAt at h2<;>first|rfl|(cases h2;done)|(obtain ⟨_,_,e,h2,_⟩:=h2;cases e;rw [h1] at h2;cases h2)
 |v, .tup ts, .tup us,h1,h2=>by
  unfold TrAt at h1 h2
  obtain ⟨r,vs,rfl,h1,h3⟩:=h1
  obtain ⟨r',vs',e,h2,h4⟩:=h2
  cases e
  rw [h1] at h2
  cases h2
  rw [TrsAt.det h3 h4]
 |v, .tup ts, .non,h1,h2=>by unfold TrAt at h1 h2;obtain ⟨_,_,e,_⟩:=h1;rw [h2] at e;cases e
 |v, .tup ts, .bl _,h1,h2=>by unfold TrAt at h1 h2;obtain ⟨_,_,e,_⟩:=h1;rw [h2] at e;cases e
 |v, .tup ts, .int _,h1,h2=>by unfold TrAt at h1 h2;obtain ⟨_,_,e,_⟩:=h1;rw [h2] at e;cases e
 |v, .tup ts, .str _,h1,h2=>by unfold TrAt at h1 h2;obtain ⟨_,_,e,_⟩:=h1;rw [h2] at e;cases e
 |v, .tup ts, .ls,h1,h2=>by
  unfold TrAt at h1 h2
  obtain ⟨r,vs,rfl,h1,_⟩:=h1
  obtain ⟨r',xs,e,h2⟩:=h2
  cases e
  rw [h1] at h2
  cases h2
theorem TrsAt.det {H:Hp}:∀ {vs:List V} {ts us:List Tr},TrsAt H vs ts→TrsAt H vs us→ts=us
 |vs,[],[],_,_=>rfl
 |vs,[],u::us,h1,h2=>by
  have a:=h1.len
  have b:=h2.len
  rw [a] at b
  simp at b
 |vs,t::ts,[],h1,h2=>by
  have a:=h1.len
  have b:=h2.len
  rw [a] at b
  simp at b
 |vs,t::ts,u::us,h1,h2=>by
  obtain ⟨v,r,rfl,h3,h4⟩:=h1.inv
  obtain ⟨v',r',e,h5,h6⟩:=h2.inv
  cases e
  rw [TrAt.det h3 h5,TrsAt.det h4 h6]
end
mutual
noncomputable def eqT:Tr→Tr→Bool
 | .non, .non=>true
 | .bl a, .bl b=>a==b
 | .bl a, .int i=>(if a then 1 else 0)==i
 | .int i, .bl b=>i==(if b then 1 else 0)
 | .int i, .int j=>i==j
 | .str x, .str y=>x==y
 | .tup ts, .tup us=>eqTs ts us
 | .ls, .ls=>true
 |_,_=>false
noncomputable def eqTs:List Tr→List Tr→Bool
 | [],[]=>true
 |t::ts,u::us=>eqT t u&&eqTs ts us
 |_,_=>false
end
mutual
theorem gY:∀t:Tr,eqT t t=true
 | .non=>by simp [eqT]
 | .bl _=>by simp [eqT]
 | .int _=>by simp [eqT]
 | .str _=>by simp [eqT]
 | .ls=>by simp [eqT]
 | .tup ts=>by simp only [eqT];exact eqTs_refl ts
theorem eqTs_refl:∀ts:List Tr,eqTs ts ts=true
 | []=>by simp [eqTs]
 |t::ts=>by simp [eqTs,gY t,eqTs_refl ts]
end
noncomputable def eqJ (ts us:List Tr) (j:Nat):Bool:=match ts[j]?,us[j]? with
 |some t,some u=>eqT t u
 |_,_=>true
theorem qT {ts us:List Tr} {j:Nat} {t u:Tr} (h1:ts[j]?=some t) (h2:us[j]?=some u):eqJ ts us j=eqT t u:=by
 unfold eqJ
 rw [h1,h2]
theorem eB:∀(ts us:List Tr),eqTs ts us=((List.range (min ts.length us.length)).all (eqJ ts us)&&ts.length==us.length)
 | [],[]=>by simp [eqTs]
 | [],u::us=>by simp [eqTs]
 |t::ts,[]=>by simp [eqTs]
 |t::ts,u::us=>by
  simp only [eqTs,xh]
  rw [eB ts us,show min (ts.length+1) (us.length+1)=min ts.length us.length+1 by omega,List.range_succ_eq_map,List.all_cons,List.all_map]
  have e:(eqJ (t::ts) (u::us)) ∘ Nat.succ=eqJ ts us:=by
   funext j
   simp [eqJ]
  rw [e]
  simp [eqJ,Bool.and_assoc]
open PySem PySem.Spec PyProof.Rows L2
section
variable {X:Cx} {pins:List (Addr×Obj)} {σ:L2.St} {H:Hp} {s:Shared} {A:Around}
theorem nI {a b:Addr} {xs ys:List V} (I:Inv X pins σ H s) (ha:H a=some (.tup xs)) (hb:H b=some (.tup ys)) (hu:A.units < cLine) (e:Nat→Bool) (hne:a≠b)
 (he:∀j x y u v,xs[j]?=some x→ys[j]?=some y→RelV x u→RelV y v→SeqAt.EqAt A.in1 s u v (e j)):
 SeqAt.EqAt A s (.ref a) (.ref b) ((List.range (min xs.length ys.length)).all e&&xs.length==ys.length):=by
 obtain ⟨us,r1,p1,_⟩:=I.tuple (SqT.of ha)
 obtain ⟨ws,r2,p2,_⟩:=I.tuple (SqT.of hb)
 have l1:=r1.length
 have l2:=r2.length
 have:=SeqAt.RcAt.tuples (A:=A) (e:=e) (show s.heap.IsTuple a us.toArray from p1) (show s.heap.IsTuple b ws.toArray from p2) hu fun j h1 h2=>by
  have h1':j < us.length:=by simpa using h1
  have h2':j < ws.length:=by simpa using h2
  obtain ⟨u,e1,q1⟩:=r1.get (i:=j) (x:=xs[j]'(by omega)) (x4 _)
  obtain ⟨v,e2,q2⟩:=r2.get (i:=j) (x:=ys[j]'(by omega)) (x4 _)
  have z1:us.toArray[j]=u:=by rw [List.getElem_toArray];rw [x4 h1'] at e1;exact xE e1
  have z2:ws.toArray[j]=v:=by rw [List.getElem_toArray];rw [x4 h2'] at e2;exact xE e2
  rw [z1,z2]
  exact he j _ _ u v (x4 _) (x4 _) q1 q2
 rw [xc,xc,←l1,←l2] at this
 exact SeqAt.EqAt.of_refs hne this
theorem aK:∀ {ts:List Tr} {t:Tr},t∈ts→t.depth≤Trs.depth ts
 |a::ts,t,h=>by
  unfold Trs.depth
  rcases xi.mp h with rfl|h
  · omega
  · have:=aK h
    omega
theorem cX:∀ {ts:List Tr} {t:Tr},Trs.pure ts→t∈ts→t.pure
 |a::ts,t,p,h=>by
  unfold Trs.pure at p
  rcases xi.mp h with rfl|h
  · exact p.1
  · exact cX p.2 h
theorem cC {r:Addr} {vs:List V} (I:Inv X pins σ H s) (h:H r=some (.tup vs)):∃its:Array Value,s.heap.IsTuple r its:=by
 obtain ⟨us,_,p,_⟩:=I.tuple (SqT.of h)
 exact ⟨_,p⟩
theorem cD {r:Addr} {vs:List V} (I:Inv X pins σ H s) (h:H r=some (.lst vs)):∃its:Array Value,s.heap.IsList r its:=by
 obtain ⟨us,_,p,_⟩:=I.list (SqL.of h)
 exact ⟨_,p.isList⟩
theorem lY (I:Inv X pins σ H s) {A:Around} {t u:Tr} {v w:V} {a b:Value} (hd:∀ts,t≠ .tup ts) (hp:t.pure∨u.pure) (h1:TrAt H v t) (h2:TrAt H w u) (r1:RelV v a) (r2:RelV w b) (hu0:A.units < cLine):SeqAt.EqAt A s a b (eqT t u):=by
 cases t with
 |tup ts=>exact (hd ts rfl).elim
 |non=>
  unfold TrAt at h1
  subst h1
  cases (show a=Value.none from r1)
  cases u with
  |non=>unfold TrAt at h2;subst h2;cases (show b=Value.none from r2);simp only [eqT];exact SeqAt.EqAt.same _
  |bl c=>unfold TrAt at h2;subst h2;cases (show b=Value.bool c from r2);simp only [eqT];exact SeqAt.EqAt.none_bool c
  |int c=>unfold TrAt at h2;subst h2;obtain ⟨t',rfl⟩:=r2;simp only [eqT];exact SeqAt.EqAt.none_int c t'
  |str c=>unfold TrAt at h2;subst h2;obtain ⟨t',rfl⟩:=r2;simp only [eqT];exact SeqAt.EqAt.none_str c t'
  |tup us=>unfold TrAt at h2;obtain ⟨r,vs,rfl,g1,_⟩:=h2;cases r2;obtain ⟨its,p⟩:=cC I g1;simp only [eqT];exact SeqAt.EqAt.none_tuple p hu0
  |ls=>unfold TrAt at h2;obtain ⟨r,vs,rfl,g1⟩:=h2;cases r2;obtain ⟨its,p⟩:=cD I g1;simp only [eqT];exact SeqAt.EqAt.none_list p hu0
 |bl d=>
  unfold TrAt at h1
  subst h1
  cases (show a=Value.bool d from r1)
  cases u with
  |non=>unfold TrAt at h2;subst h2;cases (show b=Value.none from r2);simp only [eqT];exact SeqAt.EqAt.bool_none d
  |bl c=>unfold TrAt at h2;subst h2;cases (show b=Value.bool c from r2);simp only [eqT];exact SeqAt.EqAt.bool_bool d c
  |int c=>unfold TrAt at h2;subst h2;obtain ⟨t',rfl⟩:=r2;simp only [eqT];exact SeqAt.EqAt.bool_int d c t'
  |str c=>unfold TrAt at h2;subst h2;obtain ⟨t',rfl⟩:=r2;simp only [eqT];exact SeqAt.EqAt.bool_str d c t'
  |tup us=>unfold TrAt at h2;obtain ⟨r,vs,rfl,g1,_⟩:=h2;cases r2;obtain ⟨its,p⟩:=cC I g1;simp only [eqT];exact SeqAt.EqAt.bool_tuple d p hu0
  |ls=>unfold TrAt at h2;obtain ⟨r,vs,rfl,g1⟩:=h2;cases r2;obtain ⟨its,p⟩:=cD I g1;simp only [eqT];exact SeqAt.EqAt.bool_list d p hu0
 |int d=>
  unfold TrAt at h1
  subst h1
  obtain ⟨t0,rfl⟩:=r1
  cases u with
  |non=>unfold TrAt at h2;subst h2;cases (show b=Value.none from r2);simp only [eqT];exact SeqAt.EqAt.int_none d t0
  |bl c=>unfold TrAt at h2;subst h2;cases (show b=Value.bool c from r2);simp only [eqT];exact SeqAt.EqAt.int_bool d t0 c
  |int c=>unfold TrAt at h2;subst h2;obtain ⟨t',rfl⟩:=r2;simp only [eqT];exact SeqAt.EqAt.int_int d t0 c t'
  |str c=>unfold TrAt at h2;subst h2;obtain ⟨t',rfl⟩:=r2;simp only [eqT];exact SeqAt.EqAt.int_str d t0 c t'
  |tup us=>unfold TrAt at h2;obtain ⟨r,vs,rfl,g1,_⟩:=h2;cases r2;obtain ⟨its,p⟩:=cC I g1;simp only [eqT];exact SeqAt.EqAt.int_tuple d t0 p hu0
  |ls=>unfold TrAt at h2;obtain ⟨r,vs,rfl,g1⟩:=h2;cases r2;obtain ⟨its,p⟩:=cD I g1;simp only [eqT];exact SeqAt.EqAt.int_list d t0 p hu0
 |str d=>
  unfold TrAt at h1
  subst h1
  obtain ⟨t0,rfl⟩:=r1
  cases u with
  |non=>unfold TrAt at h2;subst h2;cases (show b=Value.none from r2);simp only [eqT];exact SeqAt.EqAt.str_none d t0
  |bl c=>unfold TrAt at h2;subst h2;cases (show b=Value.bool c from r2);simp only [eqT];exact SeqAt.EqAt.str_bool d t0 c
  |int c=>unfold TrAt at h2;subst h2;obtain ⟨t',rfl⟩:=r2;simp only [eqT];exact SeqAt.EqAt.str_int d t0 c t'
  |str c=>unfold TrAt at h2;subst h2;obtain ⟨t',rfl⟩:=r2;simp only [eqT];exact SeqAt.EqAt.str_str d t0 c t'
  |tup us=>unfold TrAt at h2;obtain ⟨r,vs,rfl,g1,_⟩:=h2;cases r2;obtain ⟨its,p⟩:=cC I g1;simp only [eqT];exact SeqAt.EqAt.str_tuple d t0 p hu0
  |ls=>unfold TrAt at h2;obtain ⟨r,vs,rfl,g1⟩:=h2;cases r2;obtain ⟨its,p⟩:=cD I g1;simp only [eqT];exact SeqAt.EqAt.str_list d t0 p hu0
 |ls=>
  unfold TrAt at h1
  obtain ⟨r0,vs0,rfl,g0⟩:=h1
  cases r1
  obtain ⟨its0,p0⟩:=cD I g0
  cases u with
  |non=>unfold TrAt at h2;subst h2;cases (show b=Value.none from r2);simp only [eqT];exact SeqAt.EqAt.list_none p0 hu0
  |bl c=>unfold TrAt at h2;subst h2;cases (show b=Value.bool c from r2);simp only [eqT];exact SeqAt.EqAt.list_bool c p0 hu0
  |int c=>unfold TrAt at h2;subst h2;obtain ⟨t',rfl⟩:=r2;simp only [eqT];exact SeqAt.EqAt.list_int c t' p0 hu0
  |str c=>unfold TrAt at h2;subst h2;obtain ⟨t',rfl⟩:=r2;simp only [eqT];exact SeqAt.EqAt.list_str c t' p0 hu0
  |tup us=>unfold TrAt at h2;obtain ⟨r,vs,rfl,g1,_⟩:=h2;cases r2;obtain ⟨its,p⟩:=cC I g1;simp only [eqT];exact SeqAt.EqAt.list_tuple p0 p hu0
  |ls=>rcases hp with hp|hp<;>simp [Tr.pure] at hp
theorem iL (I:Inv X pins σ H s):∀(n:Nat) {A:Around} {t u:Tr} {v w:V} {a b:Value},t.depth≤n→(t.pure∨u.pure)→TrAt H v t→TrAt H w u→RelV v a→RelV w b→A.units+n+1 < cLine→SeqAt.EqAt A s a b (eqT t u):=by
 intro n
 induction n with
 |zero=>
  intro A t u v w a b hd hp h1 h2 r1 r2 hu
  refine lY I (fun ts e=> ?_) hp h1 h2 r1 r2 (by omega)
  subst e
  simp [Tr.depth] at hd
 |succ n ih=>
  intro A t u v w a b hd hp h1 h2 r1 r2 hu
  have hu0:A.units < cLine:=by omega
  cases t with
  |tup ts=>
   have h1':=h1
   have h2':=h2
   unfold TrAt at h1
   obtain ⟨r0,vs0,rfl,g0,k0⟩:=h1
   cases r1
   obtain ⟨its0,p0⟩:=cC I g0
   unfold Tr.depth at hd
   cases u with
   |non=>unfold TrAt at h2;subst h2;cases (show b=Value.none from r2);simp only [eqT];exact SeqAt.EqAt.tuple_none p0 hu0
   |bl c=>unfold TrAt at h2;subst h2;cases (show b=Value.bool c from r2);simp only [eqT];exact SeqAt.EqAt.tuple_bool c p0 hu0
   |int c=>unfold TrAt at h2;subst h2;obtain ⟨t',rfl⟩:=r2;simp only [eqT];exact SeqAt.EqAt.tuple_int c t' p0 hu0
   |str c=>unfold TrAt at h2;subst h2;obtain ⟨t',rfl⟩:=r2;simp only [eqT];exact SeqAt.EqAt.tuple_str c t' p0 hu0
   |ls=>unfold TrAt at h2;obtain ⟨r,vs,rfl,g1⟩:=h2;cases r2;obtain ⟨its,p⟩:=cD I g1;simp only [eqT];exact SeqAt.EqAt.tuple_list p0 p hu0
   |tup us=>
    unfold TrAt at h2
    obtain ⟨r,vs,rfl,g1,k1⟩:=h2
    cases r2
    by_cases z:r0=r
    · subst z
      rw [←TrAt.det h1' h2',gY]
      exact SeqAt.EqAt.same _
    · have:=nI I g0 g1 hu0 (eqJ ts us) z fun j x y u' v' m1 m2 q1 q2=>by
       obtain ⟨t1,n1,a1⟩:=k0.get' m1
       obtain ⟨t2,n2,a2⟩:=k1.get' m2
       rw [qT n1 n2]
       refine ih (A:=A.in1) (by have:=aK (xa n1);omega) ?_ a1 a2 q1 q2 (by show A.units+1+n+1 < cLine;omega)
       rcases hp with hp|hp
       · unfold Tr.pure at hp
         exact .inl (cX hp (xa n1))
       · unfold Tr.pure at hp
         exact .inr (cX hp (xa n2))
      rw [k0.len,k1.len,←eB] at this
      simp only [eqT]
      exact this
  |_=>exact lY I (fun ts e=>by cases e) hp h1 h2 r1 r2 hu0
end
open PySem PySem.Spec PyProof.Rows L2
open PySem.AutoSeq1 (wpAny_loadPart')
def LtAt (A:Around) (s:Shared) (y x:Value) (b:Bool):Prop:=
 ∀(prog:Program) (w:World) (E:Value→Shared→Prop) (Q:Value→Shared→Prop),Q (.bool b) s→wpAny (model prog w) A (richCompare .Lt y x) Q E s
def cw (A:Around) (s:Shared):List Value→List Value→List (Bool×Bool)→Prop
 |v::vs,w::ws,(e,l)::q=>SeqAt.EqAt A s v w e∧(e=false→LtAt A s v w l)∧(e=true→cw A s vs ws q)
 | [],_,q=>q= []
 |_,[],q=>q= []
 |_,_,_=>False
noncomputable def lexV (fin:Bool):List (Bool×Bool)→Bool
 | []=>fin
 |(e,l)::q=>if e=true then lexV fin q else l
theorem iI (l b:Addr) (items items2:Array Value) (n n2:Nat) (dd dd2:Option Addr) (sl sl2:Array (Option Value)) (q:List (Bool×Bool)):
 Meets (Builtin.«tuple.__lt__» ⟨[.ref l, .ref b],[]⟩)
  (fun A R s=>s.heap.get? l=some {cls:= .type "tuple",dict:=dd,data:= .seq items n,slots:=sl}∧s.heap.get? b=some {cls:= .type "tuple",dict:=dd2,data:= .seq items2 n2,slots:=sl2}∧
   cw A.in1 s items.toList items2.toList q∧R (.ok (.ret (.bool (lexV (decide (items.size < items2.size)) q)))) s):=
 .of_wp fun prog w A R s h=>by
  obtain ⟨hp,g,d,tk,os⟩:=s;obtain ⟨hl,hb,hx,h⟩:=h
  have f2:=AutoSeq1.sub_tuple_tuple
  wp_walk using wpAny_loadPart' hl,wpAny_loadPart' hb,wpAny_forIn_list _ (fun rest b s'=>b.1=none∧s'=⟨hp,g,d,tk,os⟩∧∃(vs ws:List Value) (q':List (Bool×Bool)),rest=vs.zip ws∧
   cw A.in1 ⟨hp,g,d,tk,os⟩ vs ws q'∧R (.ok (.ret (.bool (lexV (decide (items.size < items2.size)) q')))) ⟨hp,g,d,tk,os⟩) _
  case turn=>
   rintro ⟨y,x⟩ rest b s' ⟨hb',rfl,vs,ws,q',hz,hlx,hR⟩
   match vs,ws,q',hz,hlx,hR with
   | [],_,_,hz,_,_=>rw [List.zip_nil_left] at hz;cases hz
   |_::_,[],_,hz,_,_=>rw [List.zip_nil_right] at hz;cases hz
   |v::vs,w'::ws,[],_,hlx,_=>exact hlx.elim
   |v::vs,w'::ws,(e,lo)::q',hz,hlx,hR=>
    rw [yd] at hz
    injection hz with hyx hrest
    injection hyx with hy hx'
    subst hy hx'
    obtain ⟨he,hlt,hlx⟩:=hlx
    refine wpAny_bind (he prog w _ _ ?_)
    cases e with
    |true=>
     wp_walk
     exact ⟨rfl,rfl,_,_,_,hrest,hlx rfl,hR⟩
    |false=>
     have hri:=hlt rfl prog w
     wp_walk using hri
     exact ⟨_,rfl,hR⟩
  case fin=>
   rintro ⟨b1,b2⟩ s' ⟨hb',rfl,vs,ws,q',hz,hlx,hR⟩
   simp only at hb'
   subst hb'
   have hq:q'= []:=by
    match vs,ws,q',hz,hlx with
    | [],_,_,_,hlx=>unfold cw at hlx;exact hlx
    |_::_,[],_,_,hlx=>unfold cw at hlx;exact hlx
    |_::_,_::_,_,hz,_=>rw [yd] at hz;cases hz
   subst hq
   wp_walk
   exact ⟨_,rfl,by simpa [Builtin.Tuple.tupleCompareSizes,lexV] using hR⟩
  case h=>
   exact ⟨rfl,rfl,items.toList,items2.toList,q,rfl,hx,h⟩
theorem kK {A:Around} {s:Shared} {l b:Addr} {items items2:Array Value} {q:List (Bool×Bool)} (hl:s.heap.IsTuple l items) (hb:s.heap.IsTuple b items2) (hu:A.units < cLine)
 (hx:cw A.in1 s items.toList items2.toList q):LtAt A s (.ref l) (.ref b) (lexV (decide (items.size < items2.size)) q):=by
 intro prog w E Q h
 obtain ⟨⟨cls,dd,data,sl⟩,ho,hc,n,hd⟩:=id hl
 obtain ⟨⟨cls2,dd2,data2,sl2⟩,ho2,hc2,n2,hd2⟩:=id hb
 simp only at hc hd hc2 hd2
 subst hc hd hc2 hd2
 exact richCompare_meets_room (op:= .Lt) ⟨_,ho,rfl⟩ ⟨_,ho2,rfl⟩ PySem.F.slot_tuple_lt PySem.F.entry_tuple_lt (PySem.F.args_tuple_lt_2 _ _) (iI l b items items2 n n2 dd dd2 sl sl2 q)
  ⟨ho,ho2,hx,show Value.bool (lexV (decide (items.size < items2.size)) q)≠Value.notImplemented∧Q (.bool (lexV (decide (items.size < items2.size)) q)) s from ⟨(fun x=>nomatch x),h⟩⟩ hu
end Tre
namespace Tre
open PySem L2
inductive Co where
 |non
 |num (i:Int)
 |str (l:List Nat)
 |tup (cs:List Co)
 |ls
noncomputable def Co.kind:Co→Nat
 | .non=>0
 | .num _=>1
 | .str _=>2
 | .tup _=>3
 | .ls=>4
mutual
noncomputable def code:Tr→Co
 | .non=> .non
 | .bl b=> .num (if b then 1 else 0)
 | .int i=> .num i
 | .str x=> .str x.cps.toList
 | .tup ts=> .tup (codes ts)
 | .ls=> .ls
noncomputable def codes:List Tr→List Co
 | []=> []
 |t::ts=>code t::codes ts
end
theorem cM (x y:Str):((x==y)=true)↔x.cps.toList=y.cps.toList:=by
 rw [beq_iff_eq]
 constructor
 · rintro rfl
   rfl
 · intro h
   cases x
   cases y
   simp only [Str.mk.injEq]
   exact Array.toList_inj.mp h
mutual
theorem cI:∀(t u:Tr),(eqT t u=true)↔code t=code u
 | .non,u=>by cases u<;>simp [eqT,code]
 | .bl a,u=>by cases u<;>simp [eqT,code];cases a<;>rename_i b<;>cases b<;>simp
 | .int i,u=>by cases u<;>simp [eqT,code]
 | .str x, .str y=>by simp only [eqT,code,Co.str.injEq];exact cM x y
 | .str x, .non=>by simp [eqT,code]
 | .str x, .bl _=>by simp [eqT,code]
 | .str x, .int _=>by simp [eqT,code]
 | .str x, .tup _=>by simp [eqT,code]
 | .str x, .ls=>by simp [eqT,code]
 | .ls,u=>by cases u<;>simp [eqT,code]
 | .tup ts, .tup us=>by simp only [eqT,code,Co.tup.injEq];exact eqTs_code ts us
 | .tup ts, .non=>by simp [eqT,code]
 | .tup ts, .bl _=>by simp [eqT,code]
 | .tup ts, .int _=>by simp [eqT,code]
 | .tup ts, .str _=>by simp [eqT,code]
 | .tup ts, .ls=>by simp [eqT,code]
theorem eqTs_code:∀(ts us:List Tr),(eqTs ts us=true)↔codes ts=codes us
 | [],[]=>by simp [eqTs,codes]
 | [],u::us=>by simp [eqTs,codes]
 |t::ts,[]=>by simp [eqTs,codes]
 |t::ts,u::us=>by
  simp only [eqTs,codes,xV,xF]
  rw [cI t u,eqTs_code ts us]
end
mutual
def LtC:Co→Co→Prop
 | .num i, .num j=>i < j
 | .str l, .str m=>l < m
 | .tup cs, .tup ds=>LtCs cs ds
 |c,d=>c.kind < d.kind
def LtCs:List Co→List Co→Prop
 | [],[]=>False
 | [],_::_=>True
 |_::_,[]=>False
 |c::cs,d::ds=>LtC c d∨(c=d∧LtCs cs ds)
end
theorem jN {c d:Co} (h:LtC c d):c.kind≤d.kind:=by
 cases c<;>cases d<;>simp [LtC,Co.kind] at h ⊢
theorem jM {c d:Co} (h:c.kind < d.kind):LtC c d:=by
 cases c<;>cases d<;>simp [LtC,Co.kind] at h ⊢
mutual
theorem ja:∀c:Co,¬LtC c c
 | .non=>by simp [LtC,Co.kind]
 | .num _=>by simp [LtC]
 | .str l=>by simp only [LtC];exact List.lt_irrefl l
 | .tup cs=>by simp only [LtC];exact ltCs_irr cs
 | .ls=>by simp [LtC,Co.kind]
theorem ltCs_irr:∀cs:List Co,¬LtCs cs cs
 | []=>by simp [LtCs]
 |c::cs=>by
  simp only [LtCs,not_or]
  exact ⟨ja c,fun h=>ltCs_irr cs h.2⟩
end
mutual
theorem j9:∀c d:Co,LtC c d∨c=d∨LtC d c
 | .num i, .num j=>by simp only [LtC,Co.num.injEq];omega
 | .str l, .str m=>by
  simp only [LtC,Co.str.injEq]
  by_cases h1:l < m
  · exact .inl h1
  · by_cases h2:m < l
    · exact .inr (.inr h2)
    · exact .inr (.inl (List.le_antisymm (List.not_lt.mp h2) (List.not_lt.mp h1)))
 | .tup cs, .tup ds=>by simp only [LtC,Co.tup.injEq];exact ltCs_tri cs ds
 | .non,d=>by cases d<;>simp [LtC,Co.kind]
 | .ls,d=>by cases d<;>simp [LtC,Co.kind]
 | .num i, .non=>by simp [LtC,Co.kind]
 | .num i, .str _=>by simp [LtC,Co.kind]
 | .num i, .tup _=>by simp [LtC,Co.kind]
 | .num i, .ls=>by simp [LtC,Co.kind]
 | .str i, .non=>by simp [LtC,Co.kind]
 | .str i, .num _=>by simp [LtC,Co.kind]
 | .str i, .tup _=>by simp [LtC,Co.kind]
 | .str i, .ls=>by simp [LtC,Co.kind]
 | .tup i, .non=>by simp [LtC,Co.kind]
 | .tup i, .num _=>by simp [LtC,Co.kind]
 | .tup i, .str _=>by simp [LtC,Co.kind]
 | .tup i, .ls=>by simp [LtC,Co.kind]
theorem ltCs_tri:∀cs ds:List Co,LtCs cs ds∨cs=ds∨LtCs ds cs
 | [],[]=>by simp
 | [],d::ds=>by simp [LtCs]
 |c::cs,[]=>by simp [LtCs]
 |c::cs,d::ds=>by
  simp only [LtCs,xF]
  rcases j9 c d with h|h|h
  · exact .inl (.inl h)
  · rcases ltCs_tri cs ds with g|g|g
    · exact .inl (.inr ⟨h,g⟩)
    · exact .inr (.inl ⟨h,g⟩)
    · exact .inr (.inr (.inr ⟨h.symm,g⟩))
  · exact .inr (.inr (.inl h))
end
theorem aD {a b c:Co} (h1:LtC a b) (h2:LtC b c) (hk:a.kind < b.kind∨b.kind < c.kind):LtC a c:=by
 have k1:=jN h1
 have k2:=jN h2
 exact jM (by omega)
mutual
theorem eZ:∀ {a b c:Co},LtC a b→LtC b c→LtC a c
 | .num i, .num j, .num k,h1,h2=>by simp only [LtC] at *;omega
 | .str i, .str j, .str k,h1,h2=>by simp only [LtC] at *;exact List.lt_trans h1 h2
 | .tup i, .tup j, .tup k,h1,h2=>by simp only [LtC] at *;exact ltCs_trans h1 h2
 | .num _, .num _, .str _,h1,h2=>aD h1 h2 (by simp [LtC,Co.kind] at h1 h2 ⊢)
 | .num _, .num _, .tup _,h1,h2=>aD h1 h2 (by simp [LtC,Co.kind] at h1 h2 ⊢)
 | .num _, .num _, .non,h1,h2=>aD h1 h2 (by simp [LtC,Co.kind] at h1 h2 ⊢)
 | .num _, .num _, .ls,h1,h2=>aD h1 h2 (by simp [LtC,Co.kind] at h1 h2 ⊢)
 | .num _, .str _,_,h1,h2=>aD h1 h2 (by simp [LtC,Co.kind] at h1 h2 ⊢)
 | .num _, .tup _,_,h1,h2=>aD h1 h2 (by simp [LtC,Co.kind] at h1 h2 ⊢)
 | .num _, .non,_,h1,h2=>aD h1 h2 (by simp [LtC,Co.kind] at h1 h2 ⊢)
 | .num _, .ls,_,h1,h2=>aD h1 h2 (by simp [LtC,Co.kind] at h1 h2 ⊢)
 | .str _, .str _, .num _,h1,h2=>aD h1 h2 (by simp [LtC,Co.kind] at h1 h2 ⊢)
 | .str _, .str _, .tup _,h1,h2=>aD h1 h2 (by simp [LtC,Co.kind] at h1 h2 ⊢)
 | .str _, .str _, .non,h1,h2=>aD h1 h2 (by simp [LtC,Co.kind] at h1 h2 ⊢)
 | .str _, .str _, .ls,h1,h2=>aD h1 h2 (by simp [LtC,Co.kind] at h1 h2 ⊢)
 | .str _, .num _,_,h1,h2=>aD h1 h2 (by simp [LtC,Co.kind] at h1 h2 ⊢)
 | .str _, .tup _,_,h1,h2=>aD h1 h2 (by simp [LtC,Co.kind] at h1 h2 ⊢)
 | .str _, .non,_,h1,h2=>aD h1 h2 (by simp [LtC,Co.kind] at h1 h2 ⊢)
 | .str _, .ls,_,h1,h2=>aD h1 h2 (by simp [LtC,Co.kind] at h1 h2 ⊢)
 | .tup _, .tup _, .num _,h1,h2=>aD h1 h2 (by simp [LtC,Co.kind] at h1 h2 ⊢)
 | .tup _, .tup _, .str _,h1,h2=>aD h1 h2 (by simp [LtC,Co.kind] at h1 h2 ⊢)
 | .tup _, .tup _, .non,h1,h2=>aD h1 h2 (by simp [LtC,Co.kind] at h1 h2 ⊢)
 | .tup _, .tup _, .ls,h1,h2=>aD h1 h2 (by simp [LtC,Co.kind] at h1 h2 ⊢)
 | .tup _, .num _,_,h1,h2=>aD h1 h2 (by simp [LtC,Co.kind] at h1 h2 ⊢)
 | .tup _, .str _,_,h1,h2=>aD h1 h2 (by simp [LtC,Co.kind] at h1 h2 ⊢)
 | .tup _, .non,_,h1,h2=>aD h1 h2 (by simp [LtC,Co.kind] at h1 h2 ⊢)
 | .tup _, .ls,_,h1,h2=>aD h1 h2 (by simp [LtC,Co.kind] at h1 h2 ⊢)
 | .non,b,_,h1,h2=>aD h1 h2 (by cases b<;>simp [LtC,Co.kind] at h1 h2 ⊢)
 | .ls,b,_,h1,h2=>aD h1 h2 (by cases b<;>simp [LtC,Co.kind] at h1 h2 ⊢)
theorem ltCs_trans:∀ {a b c:List Co},LtCs a b→LtCs b c→LtCs a c
 | [],[],_,h1,_=>by simp [LtCs] at h1
 | [],_::_,[],_,h2=>by simp [LtCs] at h2
 | [],_::_,_::_,_,_=>by simp [LtCs]
 |_::_,[],_,h1,_=>by simp [LtCs] at h1
 |_::_,_::_,[],_,h2=>by simp [LtCs] at h2
 |x::a,y::b,z::c,h1,h2=>by
  simp only [LtCs] at*
  rcases h1 with h1|⟨e1,h1⟩
  · rcases h2 with h2|⟨e2,h2⟩
    · exact .inl (eZ h1 h2)
    · exact .inl (e2▸h1)
  · rcases h2 with h2|⟨e2,h2⟩
    · exact .inl (e1▸h2)
    · exact .inr ⟨e1.trans e2,ltCs_trans h1 h2⟩
end
open Classical in
noncomputable def ltT (t u:Tr):Bool:=decide (LtC (code t) (code u))
open Classical in
theorem ltT_iff {t u:Tr}:(ltT t u=true)↔LtC (code t) (code u):=by
 unfold ltT
 exact decide_eq_true_iff
theorem d6 {t u:Tr} (h:ltT t u=true):ltT u t=false:=by
 cases e:ltT u t with
 |false=>rfl
 |true=>exact absurd (eZ (ltT_iff.mp h) (ltT_iff.mp e)) (ja _)
theorem lh {a b c:Tr} (h1:ltT b a=false) (h2:ltT c b=false):ltT c a=false:=by
 cases e:ltT c a with
 |false=>rfl
 |true=>
  have n1:¬LtC (code b) (code a):=fun z=>by rw [ltT_iff.mpr z] at h1;cases h1
  have n2:¬LtC (code c) (code b):=fun z=>by rw [ltT_iff.mpr z] at h2;cases h2
  have l:=ltT_iff.mp e
  rcases j9 (code a) (code b) with q|q|q
  · exact absurd (eZ l q) n2
  · rw [q] at l
    exact absurd l n2
  · exact absurd q n1
theorem vg {a b:Tr} (h1:ltT a b=false) (h2:ltT b a=false):eqT a b=true:=by
 rw [cI]
 rcases j9 (code a) (code b) with q|q|q
 · rw [ltT_iff.mpr q] at h1
   cases h1
 · exact q
 · rw [ltT_iff.mpr q] at h2
   cases h2
open PySem PySem.Spec PyProof.Rows L2
mutual
def Cm:Tr→Tr→Prop
 | .bl _, .bl _=>True
 | .int _, .int _=>True
 | .str _, .str _=>True
 | .tup ts, .tup us=>Cms ts us
 |_,_=>False
def Cms:List Tr→List Tr→Prop
 |t::ts,u::us=>(eqT t u=true∧Cms ts us)∨(eqT t u=false∧Cm t u)
 | [],_=>True
 |_::_,[]=>True
end
noncomputable def qs:List Tr→List Tr→List (Bool×Bool)
 |t::ts,u::us=>(eqT t u,ltT t u)::qs ts us
 | [],_=> []
 |_::_,[]=> []
theorem dY:∀(ts us:List Tr),(lexV (decide (ts.length < us.length)) (qs ts us)=true)↔LtCs (codes ts) (codes us)
 | [],[]=>by simp [qs,lexV,codes,LtCs]
 | [],u::us=>by simp [qs,lexV,codes,LtCs]
 |t::ts,[]=>by simp [qs,lexV,codes,LtCs]
 |t::ts,u::us=>by
  have ih:=dY ts us
  have e:decide ((t::ts).length < (u::us).length)=decide (ts.length < us.length):=by simp
  rw [e]
  simp only [qs,lexV,codes,LtCs]
  by_cases h:eqT t u=true
  · rw [if_pos h,ih]
    have hc:=(cI t u).mp h
    rw [hc]
    constructor
    · intro z
      exact .inr ⟨rfl,z⟩
    · rintro (z|⟨_,z⟩)
      · exact absurd z (ja _)
      · exact z
  · rw [if_neg h]
    have hc:¬code t=code u:=fun z=>h ((cI t u).mpr z)
    constructor
    · intro z
      exact .inl (ltT_iff.mp z)
    · rintro (z|⟨z,_⟩)
      · exact ltT_iff.mpr z
      · exact absurd z hc
theorem aW {a b:Bool} (h:(a=true)↔(b=true)):a=b:=Bool.eq_iff_iff.mpr h
section
variable {X:Cx} {pins:List (Addr×Obj)} {σ:L2.St} {H:Hp} {s:Shared}
theorem gO (I:Inv X pins σ H s) {n:Nat} {A:Around} (hu:A.units+n+1 < cLine)
 (ih:∀ {t u:Tr} {v w:V} {a b:Value},t.depth≤n→(t.pure∨u.pure)→Cm t u→TrAt H v t→TrAt H w u→RelV v a→RelV w b→LtAt A s a b (ltT t u)):
 ∀ {ts us:List Tr} {vs ws:List V} {as bs:List Value},Trs.depth ts≤n→(Trs.pure ts∨Trs.pure us)→Cms ts us→TrsAt H vs ts→TrsAt H ws us→Vals vs as→Vals ws bs→cw A s as bs (qs ts us)
 | [],us,vs,ws,as,bs,hd,hp,hc,h1,h2,r1,r2=>by
  unfold TrsAt at h1
  subst h1
  cases r1
  cases us<;>simp [cw,qs]
 |t::ts,[],vs,ws,as,bs,hd,hp,hc,h1,h2,r1,r2=>by
  unfold TrsAt at h2
  subst h2
  cases r2
  obtain ⟨v,r,rfl,_,_⟩:=h1.inv
  cases r1
  simp [cw,qs]
 |t::ts,u::us,vs,ws,as,bs,hd,hp,hc,h1,h2,r1,r2=>by
  obtain ⟨v,r,rfl,g1,g2⟩:=h1.inv
  obtain ⟨v',r',rfl,g3,g4⟩:=h2.inv
  unfold Trs.depth at hd
  have hp1:t.pure∨u.pure:=by
   rcases hp with hp|hp<;>unfold Trs.pure at hp
   · exact .inl hp.1
   · exact .inr hp.1
  have hp2:Trs.pure ts∨Trs.pure us:=by
   rcases hp with hp|hp<;>unfold Trs.pure at hp
   · exact .inl hp.2
   · exact .inr hp.2
  cases r1 with
  |cons q1 q2=>
   cases r2 with
   |cons q3 q4=>
    simp only [cw,qs]
    refine ⟨iL I n (by omega) hp1 g1 g3 q1 q3 hu,fun e=> ?_,fun e=> ?_⟩
    · unfold Cms at hc
      rcases hc with ⟨e',_⟩|⟨_,hc⟩
      · rw [e] at e'
        cases e'
      · exact ih (by omega) hp1 hc g1 g3 q1 q3
    · unfold Cms at hc
      rcases hc with ⟨_,hc⟩|⟨e',_⟩
      · exact gO I hu ih (by omega) hp2 hc g2 g4 q2 q4
      · rw [e] at e'
        cases e'
theorem lX {A:Around} {t u:Tr} {v w:V} {a b:Value} (hd:∀ts,t≠ .tup ts) (hc:Cm t u) (h1:TrAt H v t) (h2:TrAt H w u) (r1:RelV v a) (r2:RelV w b):LtAt A s a b (ltT t u):=by
 cases t<;>cases u<;>unfold Cm at hc<;>first|exact hc.elim|skip
 · rename_i x y
   unfold TrAt at h1 h2
   subst h1 h2
   cases (show a=Value.bool x from r1)
   cases (show b=Value.bool y from r2)
   intro prog w' E Q h
   refine lt_bool ?_
   have e:decide (b2i x < b2i y)=ltT (.bl x) (.bl y):=by
    refine aW ?_
    rw [ltT_iff,decide_eq_true_iff]
    cases x<;>cases y<;>simp [code,LtC,b2i]
   rw [e]
   exact h
 · rename_i x y
   unfold TrAt at h1 h2
   subst h1 h2
   obtain ⟨t1,rfl⟩:=r1
   obtain ⟨t2,rfl⟩:=r2
   intro prog w' E Q h
   refine lt_int ?_
   have e:decide (x < y)=ltT (.int x) (.int y):=by
    refine aW ?_
    rw [ltT_iff,decide_eq_true_iff]
    simp [code,LtC]
   rw [e]
   exact h
 · rename_i x y
   unfold TrAt at h1 h2
   subst h1 h2
   obtain ⟨t1,rfl⟩:=r1
   obtain ⟨t2,rfl⟩:=r2
   intro prog w' E Q h
   refine lt_str ?_
   have e:decide (x.cps.toList < y.cps.toList)=ltT (.str x) (.str y):=by
    refine aW ?_
    rw [ltT_iff,decide_eq_true_iff]
    simp [code,LtC]
   rw [e]
   exact h
 · exact (hd _ rfl).elim
theorem iK (I:Inv X pins σ H s):∀(n:Nat) {A:Around} {t u:Tr} {v w:V} {a b:Value},t.depth≤n→(t.pure∨u.pure)→Cm t u→TrAt H v t→TrAt H w u→RelV v a→RelV w b→A.units+n+1 < cLine→LtAt A s a b (ltT t u):=by
 intro n
 induction n with
 |zero=>
  intro A t u v w a b hd hp hc h1 h2 r1 r2 hu
  refine lX (fun ts e=> ?_) hc h1 h2 r1 r2
  subst e
  simp [Tr.depth] at hd
 |succ n ih=>
  intro A t u v w a b hd hp hc h1 h2 r1 r2 hu
  cases t with
  |tup ts=>
   cases u<;>first|(unfold Cm at hc;exact hc.elim)|skip
   rename_i us
   unfold Cm at hc
   unfold TrAt at h1 h2
   obtain ⟨r0,vs0,rfl,g0,k0⟩:=h1
   obtain ⟨r,vs,rfl,g1,k1⟩:=h2
   cases r1
   cases r2
   obtain ⟨as,q0,p0,_⟩:=I.tuple (SqT.of g0)
   obtain ⟨bs,q1,p1,_⟩:=I.tuple (SqT.of g1)
   unfold Tr.depth at hd
   have hp':Trs.pure ts∨Trs.pure us:=by
    rcases hp with hp|hp<;>unfold Tr.pure at hp
    · exact .inl hp
    · exact .inr hp
   have hu1:A.in1.units+n+1 < cLine:=by show A.units+1+n+1 < cLine;omega
   have hx:=gO (A:=A.in1) I hu1 (fun d pp cc a1 a2 b1 b2=>ih d pp cc a1 a2 b1 b2 hu1) (by omega) hp' hc k0 k1 q0 q1
   have:=kK (A:=A) (show s.heap.IsTuple r0 as.toArray from p0) (show s.heap.IsTuple r bs.toArray from p1) (by omega) (by simpa using hx)
   have e:lexV (decide (as.toArray.size < bs.toArray.size)) (qs ts us)=ltT (.tup ts) (.tup us):=by
    have l0:=k0.len
    have l1:=k1.len
    have l2:=q0.length
    have l3:=q1.length
    have e2:decide (as.toArray.size < bs.toArray.size)=decide (ts.length < us.length):=by
     rw [xc,xc,←l2,←l3,l0,l1]
    rw [e2]
    refine aW ?_
    rw [dY,ltT_iff]
    simp [code,LtC]
   rw [←e]
   exact this
  |_=>exact lX (fun ts e=>by cases e) hc h1 h2 r1 r2
end
end Tre
namespace Srt
open PySem PySem.W PySem.Calls PyProof.Rows
theorem cE {α:Type} (d:α):∀(vs:List α),(List.range vs.length).map (fun i=>vs.getD i d)=vs
 | []=>rfl
 |v::vs=>by
  rw [xh,List.range_succ_eq_map,xg,List.map_map]
  have:=cE d vs
  simp only [Function.comp_def]
  show v::List.map (fun i=>vs.getD i d) (List.range vs.length)=v::vs
  rw [this]
theorem lJ {α:Type}:∀(vs:List α),List.map (fun x=>x.snd) (vs.zip vs)=vs
 | []=>rfl
 |v::vs=>by
  rw [yd,xg,lJ vs]
section
variable {prog:Program} {w:World} {A:Around} {E:Value→Shared→Prop} {s:Shared} {lt:Nat→Nat→Bool} {κ:SortKind}
def Stay (s:Shared) (a:Addr) (h':Heap):Prop:=∀b o,b≠a→s.heap.get? b=some o→h'.get? b=some o
theorem dk {a:Addr} {vs:List Value} {n:Nat} {P:PySem.Fin→Shared→Prop} (O:Ord lt) (ho:s.heap.get? a=some (seqObj "list" vs.toArray n)) (h64:vs.length < 64)
 (hkind:2≤vs.length→∀h',Stay s a h'→∀R:SortKind→Shared→Prop,R κ {s with heap:=h'}→wpAny (model prog w) A (keyKind' vs.toArray) R E {s with heap:=h'})
 (hask:∀h',Stay s a h'→∀i j (R:Bool→Shared→Prop),i < vs.length→j < vs.length→R (lt i j) {s with heap:=h'}→kas_ask prog w A κ vs i j R {s with heap:=h'})
 (h:∀p:Array Nat,Pm vs.length p→Up lt p vs.length→P (.done (.ret .none)) {s with heap:=sortedHeap s.heap a vs (List.toArray (p.toList.map fun i=>vs.getD i Value.none))}):
 wpAny (model prog w) A (Builtin.«list.sort» ⟨[.ref a],[]⟩) P E s:=by
 have ha:a < s.heap.objs.size:=Heap.lt_size ho
 rw [list_sort_plain]
 refine wpAny_bind (listItems_at ho rfl ?_)
 refine wpAny_bind (listUpdate_at ho rfl ?_ (by rw [xc,sizeLine_eq];omega) (xz _))
 obtain ⟨e1,ho1⟩:∃e1,(s.heap.update a (Obj.mapSeq fun _=>(#[]:Array Value))).get? a=some (seqObj "list" #[] e1):=⟨_,get?_update_seq ho fun _=> #[]⟩
 refine wpAny_bind (seqEpoch_at ho1 rfl ?_)
 refine wpAny_bind (wpAny_newTuple ?_ (by show vs.length≤_;rw [sizeLine_eq];omega))
 refine wpAny_bind (wpAny_newList ?_ (xz _))
 refine wpAny_holding ?_
 have s1:=Heap.SameBut.update s.heap a (Obj.mapSeq fun _=>(#[]:Array Value))
 have st:Stay s a (((s.heap.update a (Obj.mapSeq fun _=>(#[]:Array Value))).push (seqObj "tuple" vs.toArray 0)).push (seqObj "list" #[] 0)):=fun b o hb e=>
  Heap.get?_push_of_some _ (Heap.get?_push_of_some _ ((s1.2 b hb).trans e))
 have ho6:(((s.heap.update a (Obj.mapSeq fun _=>(#[]:Array Value))).push (seqObj "tuple" vs.toArray 0)).push (seqObj "list" #[] 0)).get? a=some (seqObj "list" #[] e1):=Heap.get?_push_of_some _ (Heap.get?_push_of_some _ ho1)
 show wpAny (model prog w) A _ P E {s with heap:=((s.heap.update a (Obj.mapSeq fun _=>(#[]:Array Value))).push (seqObj "tuple" vs.toArray 0)).push (seqObj "list" #[] 0)}
 dsimp only
 have out:∀p:Array Nat,Pm vs.length p→(List.toArray (p.toList.map fun i=>vs.getD i Value.none)).size≤sizeLine:=fun p hp=>by
  rw [xc,wZ,xb,hp.size,sizeLine_eq]
  omega
 by_cases h2:vs.toArray.size < 2
 · rw [if_pos h2,if_pos h2]
   refine wpAny_bind (wpAny_pure ?_)
   rw [StateT.run_pure]
   refine wpAny_bind (wpAny_pure ?_)
   dsimp only
   refine wpAny_bind (seqEpoch_at ho6 rfl ?_)
   have h0:Pm vs.length (List.toArray (List.range vs.length)):=by
    unfold Pm
    simp
   have eo:(arrOf (SortSt.mk' general' (vs.toArray.zip vs.toArray) #[] 7 none)).map (·.2)=List.toArray ((List.toArray (List.range vs.length)).toList.map fun i=>vs.getD i Value.none):=by
    rw [yh,cE]
    show (vs.toArray.zip vs.toArray).map (·.2)=vs.toArray
    apply Array.toList_inj.mp
    simp
    exact lJ vs
   rw [eo]
   refine wpAny_bind (listUpdate_at ho6 rfl ?_ (xz _) (Nat.le_succ_of_le (out _ h0)))
   simp only [bne_self_eq_false,xp,if_false]
   refine wpAny_pure (h _ h0 fun i j hij hj=> ?_)
   have hv:vs.length < 2:=by simpa using h2
   have:i=j:=by omega
   subst this
   exact O.refl _
 · rw [if_neg h2,if_neg h2]
   have h2':2≤vs.length:=by
    rw [xc] at h2
    omega
   refine wpAny_bind (hkind h2' _ st _ ?_)
   have run:(kas_sort vs.length).kasWp (kas_ask prog w A κ vs) (fun p s'=>(Pm vs.length p∧Up lt p vs.length)∧s'= {s with heap:=((s.heap.update a (Obj.mapSeq fun _=>(#[]:Array Value))).push (seqObj "tuple" vs.toArray 0)).push (seqObj "list" #[] 0)})
    {s with heap:=((s.heap.update a (Obj.mapSeq fun _=>(#[]:Array Value))).push (seqObj "tuple" vs.toArray 0)).push (seqObj "list" #[] 0)}:=
    oz (lt:=lt) (N:=vs.length) (G:=fun s'=>s'= {s with heap:=((s.heap.update a (Obj.mapSeq fun _=>(#[]:Array Value))).push (seqObj "tuple" vs.toArray 0)).push (seqObj "list" #[] 0)})
     (fun i j R s' hi hj hg hR=>by subst hg;exact hask _ st i j R hi hj (hR _ rfl)) (fun p s' hp hg=>⟨hp,hg⟩) (ux O (by omega)) rfl
   refine wpAny_bind (wpAny_mono (kat_run (ks:=vs) (Q:=fun st' s'=>∃p:Array Nat,(Pm vs.length p∧Up lt p vs.length)∧arrOf st'=p.map (kas_item (vs.toArray.zip vs.toArray))∧failedOf st'=none∧s'= {s with heap:=((s.heap.update a (Obj.mapSeq fun _=>(#[]:Array Value))).push (seqObj "tuple" vs.toArray 0)).push (seqObj "list" #[] 0)})
    rfl h2' h64 (fun p st' s' a1 a2 a3 a4=>⟨p,a4.1,a2,a3,a4.2⟩) run) ?_ fun _ _ e=>e)
   rintro ⟨⟨⟩,st'⟩ s' ⟨p,hp,har,hf,rfl⟩
   dsimp only
   refine wpAny_bind (seqEpoch_at ho6 rfl ?_)
   rw [kat_snds rfl har]
   refine wpAny_bind (listUpdate_at ho6 rfl ?_ (xz _) (Nat.le_succ_of_le (out p hp.1)))
   rw [hf]
   simp only [bne_self_eq_false,xp,if_false]
   exact wpAny_pure (h p hp.1 hp.2)
end
end Srt
namespace Tre
open PySem PySem.Spec PyProof.Rows L2 Srt
theorem TrsAt.map {H:Hp} {vs:List V} {ts:List Tr} (h:TrsAt H vs ts):∀ {is:List Nat},(∀i∈is,i < ts.length)→TrsAt H (is.map fun i=>vs.getD i .non) (is.map fun i=>ts.getD i .non)
 | [],_=> .nil
 |i::is,hi=>by
  have h0:i < ts.length:=hi i x5
  have hl:=h.len
  obtain ⟨v,e1,e2⟩:=h.get (i:=i) (t:=ts[i]) (x4 h0)
  have ev:vs.getD i .non=v:=by rw [xB,e1];rfl
  have et:ts.getD i .non=ts[i]:=by rw [xB,x4 h0];rfl
  rw [xg,xg,ev,et]
  exact .cons e2 (TrsAt.map h fun j m=>hi j (x6 _ m))
theorem Vals.map {vs:List V} {as:List Value} (h:Vals vs as):∀ {is:List Nat},(∀i∈is,i < vs.length)→Vals (is.map fun i=>vs.getD i .non) (is.map fun i=>as.getD i Value.none)
 | [],_=> .nil
 |i::is,hi=>by
  have h0:i < vs.length:=hi i x5
  obtain ⟨u,e1,e2⟩:=h.get (i:=i) (x:=vs[i]) (x4 h0)
  have ev:vs.getD i .non=vs[i]:=by rw [xB,x4 h0];rfl
  have et:as.getD i Value.none=u:=by rw [xB,e1];rfl
  rw [xg,xg,ev,et]
  exact .cons e2 (Vals.map h fun j m=>hi j (x6 _ m))
section
variable {X:Cx} {pins:List (Addr×Obj)} {σ:L2.St} {H:Hp} {s:Shared}
theorem cK (I:Inv X pins σ H s) {r:Addr} {vs:List V} (h:H r=some (.tup vs)):∃(as:List Value) (o:Obj) (n:Nat),Vals vs as∧s.heap.get? r=some o∧o.cls= .type "tuple"∧o.data= .seq as.toArray n:=by
 obtain ⟨as,q,p,_⟩:=I.tuple (SqT.of h)
 obtain ⟨o,ho,hc,n,hd⟩:=(show s.heap.IsTuple r as.toArray from p)
 exact ⟨as,o,n,q,ho,hc,hd⟩
end
end Tre
namespace Tre
open PySem L2
inductive So where
 |tm|fr|pr|ws|lt
abbrev s_ (x:String):Tr:= .str (Str.ofString x)
inductive Ty:So→Tr→Prop
 |nm (x:Str):Ty .tm (.tup [s_ "name", .str x])
 |ap (x:Str) (ts:List Tr):ts.length≤3→(∀t∈ts,Ty .tm t)→Ty .tm (.tup [s_ "call", .str x, .tup ts])
 |fr (a b:Int):Ty .fr (.tup [.int a, .int b])
 |pr (t f:Tr):Ty .tm t→Ty .fr f→Ty .pr (.tup [t,f])
 |fl (x:Str):Ty .ws (.tup [s_ "flag", .str x])
 |mo (ps:List Tr) (f:Tr):(∀p∈ps,Ty .pr p)→Ty .fr f→Ty .ws (.tup [s_ "most", .tup ps,f])
 |li (t u:Tr):Ty .tm t→Ty .tm u→Ty .ws (.tup [s_ "like",t,u])
 |no (w:Tr):Ty .ws w→Ty .ws (.tup [s_ "not",w])
 |bo (l:List Tr):(∀w∈l,Ty .ws w)→Ty .ws (.tup [s_ "both", .tup l])
 |ei (l:List Tr):(∀w∈l,Ty .ws w)→Ty .ws (.tup [s_ "either", .tup l])
 |lt (w:Tr) (b:Bool):Ty .ws w→Ty .lt (.tup [w, .bl b])
theorem aH {t u:Tr} {ts us:List Tr} (h1:eqT t u=false→Cm t u) (h2:Cms ts us):Cms (t::ts) (u::us):=by
 unfold Cms
 cases e:eqT t u with
 |true=>exact .inl ⟨rfl,h2⟩
 |false=>exact .inr ⟨rfl,h1 e⟩
theorem vE {t u:Tr} {ts us:List Tr} (h0:eqT t u=false) (h1:Cm t u):Cms (t::ts) (u::us):=by
 unfold Cms
 exact .inr ⟨h0,h1⟩
theorem bE {us:List Tr}:Cms [] us:=by
 cases us<;>simp [Cms]
theorem c5 (x y:Str):Cm (.str x) (.str y):=by simp [Cm]
theorem rn (x y:Int):Cm (.int x) (.int y):=by simp [Cm]
theorem wU (x y:Bool):Cm (.bl x) (.bl y):=by simp [Cm]
theorem h7 {ts us:List Tr} (h:Cms ts us):Cm (.tup ts) (.tup us):=by
 unfold Cm
 exact h
theorem fR {ts us:List Tr} (h:∀t∈ts,∀u∈us,Cm t u):Cms ts us:=by
 induction ts generalizing us with
 |nil=>exact bE
 |cons t ts ih=>
  cases us with
  |nil=>simp [Cms]
  |cons u us=>exact aH (fun _=>h t x5 u x5) (ih fun a ma b mb=>h a (x6 _ ma) b (x6 _ mb))
theorem oq:∀(n:Nat) {k:So} {t u:Tr},t.depth≤n→Ty k t→Ty k u→Cm t u:=by
 intro n
 induction n with
 |zero=>
  intro k t u hd h1 h2
  cases h1<;>simp [Tr.depth] at hd
 |succ n ih=>
  intro k t u hd h1 h2
  have sub:∀ {ts:List Tr} {t:Tr},(Tr.tup ts).depth≤n+1→t∈ts→t.depth≤n:=fun h m=>by
   unfold Tr.depth at h
   have:=aK m
   omega
  have sub2:∀ {ts l:List Tr} {t:Tr},(Tr.tup ts).depth≤n+1→Tr.tup l∈ts→t∈l→t.depth≤n:=fun h m m2=>by
   have h3:=sub h m
   unfold Tr.depth at h3
   have:=aK m2
   omega
  cases h1<;>cases h2<;>refine h7 ?_
  all_goals first
   |exact vE (by decide +kernel) (c5 _ _)
   |skip
  · exact aH (fun _=>c5 _ _) (aH (fun _=>c5 _ _) bE)
  · rename_i x ts _ h1 y us _ h2
    exact aH (fun _=>c5 _ _) (aH (fun _=>c5 _ _) (aH (fun _=>h7 (fR fun a ma b mb=>ih (sub2 hd (by simp) ma) (h1 a ma) (h2 b mb))) bE))
  · exact aH (fun _=>rn _ _) (aH (fun _=>rn _ _) bE)
  · rename_i t1 f1 a1 b1 t2 f2 a2 b2
    exact aH (fun _=>ih (sub hd (by simp)) a1 a2) (aH (fun _=>ih (sub hd (by simp)) b1 b2) bE)
  · exact aH (fun _=>c5 _ _) (aH (fun _=>c5 _ _) bE)
  · rename_i p1 f1 a1 b1 p2 f2 a2 b2
    exact aH (fun _=>c5 _ _) (aH (fun _=>h7 (fR fun a ma b mb=>ih (sub2 hd (by simp) ma) (a1 a ma) (a2 b mb))) (aH (fun _=>ih (sub hd (by simp)) b1 b2) bE))
  · rename_i t1 u1 a1 b1 t2 u2 a2 b2
    exact aH (fun _=>c5 _ _) (aH (fun _=>ih (sub hd (by simp)) a1 a2) (aH (fun _=>ih (sub hd (by simp)) b1 b2) bE))
  · rename_i w1 a1 w2 a2
    exact aH (fun _=>c5 _ _) (aH (fun _=>ih (sub hd (by simp)) a1 a2) bE)
  · rename_i l1 a1 l2 a2
    exact aH (fun _=>c5 _ _) (aH (fun _=>h7 (fR fun a ma b mb=>ih (sub2 hd (by simp) ma) (a1 a ma) (a2 b mb))) bE)
  · rename_i l1 a1 l2 a2
    exact aH (fun _=>c5 _ _) (aH (fun _=>h7 (fR fun a ma b mb=>ih (sub2 hd (by simp) ma) (a1 a ma) (a2 b mb))) bE)
  · rename_i w1 b1 a1 w2 b2 a2
    exact aH (fun _=>ih (sub hd (by simp)) a1 a2) (aH (fun _=>wU _ _) bE)
theorem cY {ts:List Tr} (h:∀t∈ts,t.pure):Trs.pure ts:=by
 induction ts with
 |nil=>unfold Trs.pure;trivial
 |cons t ts ih=>
  unfold Trs.pure
  exact ⟨h t x5,ih fun u m=>h u (x6 _ m)⟩
theorem dH {k:So} {t:Tr} (h:Ty k t):t.pure:=by
 induction h with
 |nm x=>simp [Tr.pure,Trs.pure]
 |ap x ts _ _ ih=>simp only [Tr.pure,Trs.pure];exact ⟨trivial,trivial,cY ih,trivial⟩
 |fr a b=>simp [Tr.pure,Trs.pure]
 |pr t f _ _ h1 h2=>simp only [Tr.pure,Trs.pure];exact ⟨h1,h2,trivial⟩
 |fl x=>simp [Tr.pure,Trs.pure]
 |mo ps f _ _ h1 h2=>simp only [Tr.pure,Trs.pure];exact ⟨trivial,cY h1,h2,trivial⟩
 |li t u _ _ h1 h2=>simp only [Tr.pure,Trs.pure];exact ⟨trivial,h1,h2,trivial⟩
 |no w _ h1=>simp only [Tr.pure,Trs.pure];exact ⟨trivial,h1,trivial⟩
 |bo l _ h1=>simp only [Tr.pure,Trs.pure];exact ⟨trivial,cY h1,trivial⟩
 |ei l _ h1=>simp only [Tr.pure,Trs.pure];exact ⟨trivial,cY h1,trivial⟩
 |lt w b _ h1=>simp only [Tr.pure,Trs.pure];exact ⟨h1,trivial,trivial⟩
end Tre
namespace Mth
noncomputable def dv (t b:Int):Int:=if b < 0 then -(Int.gcd t b:Int) else (Int.gcd t b:Int)
noncomputable def fx (t b:Int):Int:=t.fdiv (dv t b)
noncomputable def fy (t b:Int):Int:=b.fdiv (dv t b)
def hJ (x y:Int):Prop:=0 < y∧Int.gcd x y=1
theorem ji {x y z:Int} (h1:Int.gcd x y=1) (h2:Int.gcd x z=1):Int.gcd x (y*z)=1:=by
 show Nat.gcd x.natAbs (y*z).natAbs=1
 rw [Int.natAbs_mul]
 exact Nat.Coprime.mul_right h1 h2
theorem kc {x y z:Int} (h1:Int.gcd y x=1) (h2:Int.gcd z x=1):Int.gcd (y*z) x=1:=by
 rw [yu]
 exact ji (by rw [yu];exact h1) (by rw [yu];exact h2)
theorem rj {x x' y:Int} (h:Int.gcd (x'*x) y=1):Int.gcd x' y=1:=by
 have e:Nat.gcd (x'*x).natAbs y.natAbs=1:=h
 rw [Int.natAbs_mul] at e
 exact Nat.Coprime.coprime_mul_right e
theorem f9 {x x' y:Int} (h:Int.gcd (x*x') y=1):Int.gcd x' y=1:=by
 rw [Int.mul_comm] at h
 exact rj h
theorem iB {x y y':Int} (h:Int.gcd x (y*y')=1):Int.gcd x y'=1:=by
 rw [yu] at h ⊢
 exact f9 h
theorem c9 {x y:Int} (h:y≠0):∃x' y':Int,x=(Int.gcd x y:Int)*x'∧y=(Int.gcd x y:Int)*y'∧Int.gcd x' y'=1∧x / (Int.gcd x y:Int)=x'∧y / (Int.gcd x y:Int)=y':=by
 have g:0 < Int.gcd x y:=ye x h
 obtain ⟨x',hx⟩:((Int.gcd x y:Nat):Int)∣x:=Int.gcd_dvd_left ..
 obtain ⟨y',hy⟩:((Int.gcd x y:Nat):Int)∣y:=Int.gcd_dvd_right ..
 have n:((Int.gcd x y:Nat):Int)≠0:=by omega
 refine ⟨x',y',hx,hy,?_,?_,?_⟩
 · have e:Int.gcd x y=Int.gcd x y*Int.gcd x' y':=by
    have:Int.gcd x y=Int.gcd ((Int.gcd x y:Int)*x') ((Int.gcd x y:Int)*y'):=by rw [←hx,←hy]
    rw [Int.gcd_mul_left,Int.natAbs_natCast] at this
    exact this
   have:=Nat.eq_of_mul_eq_mul_left g (show Int.gcd x y*1=Int.gcd x y*Int.gcd x' y' by rw [←e,Nat.mul_one])
   exact this.symm
 · generalize ((Int.gcd x y:Nat):Int)=k at*
   rw [hx]
   exact Int.mul_ediv_cancel_left _ n
 · generalize ((Int.gcd x y:Nat):Int)=k at*
   rw [hy]
   exact Int.mul_ediv_cancel_left _ n
theorem bV {k x:Int} (hk:0≤k) (h:0 < k*x):0 < x:=by
 by_cases q:0 < x
 · exact q
 · have:=Int.mul_nonpos_of_nonneg_of_nonpos hk (show x≤0 by omega)
   omega
noncomputable def pT (a b c d:Int):Int:=a*(d / (Int.gcd b d:Int))+c*(b / (Int.gcd b d:Int))
noncomputable def pE (a b c d:Int):Int:=(Int.gcd (pT a b c d) (Int.gcd b d:Int):Int)
noncomputable def pX (a b c d:Int):Int:=pT a b c d / pE a b c d
noncomputable def pY (a b c d:Int):Int:=b / (Int.gcd b d:Int)*(d / pE a b c d)
theorem m9 {a b c d:Int} (h1:hJ a b) (h2:hJ c d):hJ (pX a b c d) (pY a b c d)∧pX a b c d*(b*d)=(a*d+c*b)*pY a b c d:=by
 obtain ⟨b0,g1⟩:=h1
 obtain ⟨d0,g2⟩:=h2
 obtain ⟨b',d',eb,ed,g3,qb,qd⟩:=c9 (x:=b) (y:=d) (by omega)
 have s0:(0:Int) < (Int.gcd b d:Int):=by
  have:0 < Int.gcd b d:=ye b (by omega)
  omega
 have eT:pT a b c d=a*d'+c*b':=by unfold pT;rw [qb,qd]
 unfold pX pY
 have eE:pE a b c d=(Int.gcd (a*d'+c*b') (Int.gcd b d:Int):Int):=by unfold pE;rw [eT]
 rw [eE,eT,qb]
 generalize ((Int.gcd b d:Nat):Int)=s at*
 obtain ⟨t',s',et,es,g4,qt,qs⟩:=c9 (x:=a*d'+c*b') (y:=s) (by omega)
 have e0:(0:Int) < (Int.gcd (a*d'+c*b') s:Int):=by
  have:0 < Int.gcd (a*d'+c*b') s:=ye _ (by omega)
  omega
 have b0':0 < b':=bV (k:=s) (by omega) (by omega)
 have d0':0 < d':=bV (k:=s) (by omega) (by omega)
 have cT1:Int.gcd (a*d'+c*b') b'=1:=by
  have:Int.gcd (a*d'+c*b') b'=Int.gcd (a*d') b':=by
   rw [yu,yu (a*d')]
   have e:a*d'+c*b'=a*d'+b'*c:=by rw [Int.mul_comm c b']
   rw [e]
   exact Int.gcd_add_mul_left_right ..
  rw [this]
  refine kc ?_ (by rw [yu];exact g3)
  rw [eb] at g1
  exact iB g1
 have cT2:Int.gcd (a*d'+c*b') d'=1:=by
  have:Int.gcd (a*d'+c*b') d'=Int.gcd (c*b') d':=by
   rw [yu,yu (c*b')]
   have e:a*d'+c*b'=c*b'+d'*a:=by rw [Int.mul_comm a d',Int.add_comm]
   rw [e]
   exact Int.gcd_add_mul_left_right ..
  rw [this]
  refine kc ?_ g3
  rw [ed] at g2
  exact iB g2
 rw [qt]
 generalize ((Int.gcd (a*d'+c*b') s:Nat):Int)=e at*
 have s0':0 < s':=bV (k:=e) (by omega) (by omega)
 have qd2:d / e=d'*s':=by
  rw [ed,es,Int.mul_assoc,Int.mul_ediv_cancel_left _ (by omega),Int.mul_comm]
 rw [qd2]
 generalize ht:a*d'+c*b'=t at*
 refine ⟨⟨Int.mul_pos b0' (Int.mul_pos d0' s0'),?_⟩,?_⟩
 · rw [et] at cT1 cT2
   exact ji (f9 cT1) (ji (f9 cT2) g4)
 · have e1:a*d+c*b=s*t:=by
    rw [ed,eb,←ht,Int.mul_add]
    simp only [Int.mul_left_comm]
   rw [e1,et,eb,ed]
   have e2:s*(e*t')*(b'*(d'*s'))=s*t'*b'*d'*(e*s'):=by
    simp only [Int.mul_assoc,Int.mul_left_comm,Int.mul_comm]
   rw [e2,←es]
   simp only [Int.mul_assoc,Int.mul_left_comm,Int.mul_comm]
theorem tF (a b:Int):(a / b).natAbs≤a.natAbs:=Int.natAbs_ediv_le_natAbs a b
end Mth
namespace L2
section
open PySem
variable {prog:Program} {w:World} {A:Around} {R:Result→Shared→Prop} {s:Shared}
theorem lE {elt target iter:Expr} {ifs:List Expr} {scope:Scope} {pos:Pos} {it acc:Value} {env:Env} (I:Nat→Shared→Prop)
 (turn:∀n s,I n s→wpAny (model prog w) A (pyNext it) (fun r s₁=>match r with
  |none=>R (.ok .next) s₁
  |some v=>wpAny (model prog w) A (letOwnedTupleGo target it v) (fun _ s₁'=>wpAny (model prog w) A (assign target env v) (fun _ s₂=>
   wpAny (model prog w) A (forIn ifs true fun c r=>if r=true then do let ok←isTrue c env (eval c env);pure (ForInStep.yield ok) else pure (ForInStep.yield r)) (fun ok s₃=>
    if ok=true then wpAny (model prog w) A (eval elt env) (fun x s₄=>
     wpAny (model prog w) A (call (.builtin "list.append") [acc,x]) (fun _ s₅=>∃m,m < n∧I m s₅) (fun _ _=>False) s₄) (fun _ _=>False) s₃
    else∃m,m < n∧I m s₃) (fun _ _=>False) s₂) (fun _ _=>False) s₁') (fun _ _=>False) s₁) (fun _ _=>False) s)
 (n:Nat) (h:I n s):codeAny (model prog w) A (.compLoop (.ListComp elt [⟨target,iter,ifs,0⟩] scope pos) 0 it acc env) R s:=by
 refine codeAny_loop rfl I (fun n s hI=> ?_) n h
 show wpAny _ A ((compTurn (.ListComp elt [⟨target,iter,ifs,0⟩] scope pos) 0 it acc env).onRaise (fun x=>do noteFrame x env;theTreesLotGoes x)) _ _ s
 refine wpAny_noted ?_
 rw [compTurn_list]
 refine wpAny_bind (wpAny_standAt (wpAny_bind (wpAny_mono (turn n s hI) (fun r s₁ h₁=> ?_) fun _ _ z=>z.elim)))
 cases r with
 |none=>exact wpAny_pure h₁
 |some v=>
  refine wpAny_bind (wpAny_mono h₁ (fun _ s₁' h₁'=> ?_) fun _ _ z=>z.elim)
  refine wpAny_bind (wpAny_mono h₁' (fun _ s₂ h₂=>wpAny_bind (wpAny_mono h₂ (fun ok s₃ h₃=> ?_) fun _ _ z=>z.elim)) fun _ _ z=>z.elim)
  cases ok with
  |false=>exact wpAny_pure ⟨rfl,h₃⟩
  |true=>
   exact wpAny_bind (wpAny_bind (wpAny_mono h₃ (fun x s₄ h₄=>wpAny_bind (wpAny_mono h₄ (fun _ s₅ h₅=>wpAny_pure (wpAny_pure ⟨rfl,h₅⟩)) fun _ _ z=>z.elim)) fun _ _ z=>z.elim))
noncomputable def cy (names:List (Str×NameKind)) (cells:List (Str×Addr)):List (Str×Addr)→List (Str×Addr):=match names with
 | []=>fun cs=>cs
 |(n,k)::r=>fun cs=>cy r cells (if (k== .free)=true then (n,(cells.lookup n).getD 0)::cs else cs)
noncomputable def ci (names:List (Str×NameKind)) (cells:List (Str×Addr)):Bool:=names.all fun y=> !(y.2== .free) ||(cells.lookup y.1).isSome
theorem jk (env:Env):∀(names:List (Str×NameKind)) (cs:List (Str×Addr)),ci names env.cells=true→
 (forIn names cs fun (x:Str×NameKind) (r:List (Str×Addr))=>match x with
  |(name,kind)=>if (kind==NameKind.free)=true then do let __do_lift←cellOf env name;pure (ForInStep.yield ((name,__do_lift)::r)) else pure (ForInStep.yield r):Sem (List (Str×Addr)))=pure (cy names env.cells cs)
 | [],cs,_=>rfl
 |(n,k)::r,cs,h=>by
  unfold ci at h
  rw [List.all_cons,xV] at h
  rw [List.forIn_cons]
  unfold cy
  by_cases hk:(k==NameKind.free)=true
  · rw [if_pos hk]
    dsimp only
    rw [if_pos hk]
    have h1:(env.cells.lookup n).isSome=true:=by
     have:=h.1
     rw [hk] at this
     simpa using this
    obtain ⟨c,hc⟩:=Option.isSome_iff_exists.mp h1
    have e:cellOf env n=pure c:=by unfold cellOf;rw [hc]
    rw [e,hc]
    exact jk env r _ h.2
  · rw [if_neg hk]
    dsimp only
    rw [if_neg hk]
    exact jk env r _ h.2
theorem tH {scope:Scope} {env:Env} (h:ci scope.names env.cells=true):closureFor scope env=pure (cy scope.names env.cells []):=by
 unfold closureFor
 have:=jk env scope.names [] h
 simp only [bind_pure]
 exact this
theorem kh {cells:List (Str×Addr)}:∀(names:List (Str×NameKind)) (cs:List (Str×Addr)),ci names cells=true→(∀y c,cs.lookup y=some c→cells.lookup y=some c)→∀y c,(cy names cells cs).lookup y=some c→cells.lookup y=some c
 | [],cs,_,hc,y,c,e=>hc y c e
 |(n,k)::r,cs,h,hc,y,c,e=>by
  unfold ci at h
  rw [List.all_cons,xV] at h
  refine kh r _ h.2 (fun z d q=> ?_) y c e
  by_cases hk:(k==NameKind.free)=true
  · rw [if_pos hk,xU] at q
    cases zn:(z==n) with
    |true=>
     rw [zn] at q
     have h1:(cells.lookup n).isSome=true:=by
      have:=h.1
      rw [hk] at this
      simpa using this
     obtain ⟨c',hc'⟩:=Option.isSome_iff_exists.mp h1
     have zn':z=n:=by simpa using zn
     rw [zn',hc']
     have q':some ((cells.lookup n).getD 0)=some d:=q
     rw [hc'] at q'
     exact q'
    |false=>
     rw [zn] at q
     exact hc z d q
  · rw [if_neg hk] at q
    exact hc z d q
theorem iC {cells:List (Str×Addr)}:∀(names:List (Str×NameKind)) (cs:List (Str×Addr)) (y:Str),(∃c,cs.lookup y=some c)→∃c,(cy names cells cs).lookup y=some c
 | [],cs,y,h=>h
 |(n,k)::r,cs,y,h=>by
  refine iC r _ y ?_
  by_cases hk:(k==NameKind.free)=true
  · rw [if_pos hk,xU]
    cases zn:(y==n) with
    |true=>exact ⟨_,rfl⟩
    |false=>exact h
  · rw [if_neg hk]
    exact h
theorem h9 {cells:List (Str×Addr)}:∀(names:List (Str×NameKind)) (cs:List (Str×Addr)) (y:Str),(y,NameKind.free)∈names→∃c,(cy names cells cs).lookup y=some c
 | [],_,y,h=>by cases h
 |(n,k)::r,cs,y,h=>by
  rcases xi.mp h with e|h
  · obtain ⟨e1,e2⟩:=Prod.mk.inj e
    subst e1
    subst e2
    unfold cy
    refine iC r _ y ?_
    rw [if_pos (show (NameKind.free==NameKind.free)=true from rfl),xU]
    have:(y==y)=true:=by simp
    rw [this]
    exact ⟨_,rfl⟩
  · exact h9 r _ y h
end
open PySem PySem.Spec PyProof.Rows
noncomputable abbrev XC (X:Cx) (scope:Scope) (NC:List Str) (C:Addr) (s:Shared) (H:Hp) (fp:List Addr) (pn:List (Addr×Obj)):Cx:=
 {X with N:=NC,s₀:=s,H₀:=H,env:=compEnvC scope (cy scope.names X.env.cells []) C X.env,outer:=X.stack,stack:=X.stack,ex:=fp,fn:=fun _=>false,pn:=pn,xe:=fun _ _=>False}
noncomputable def subS (mp:List (Option Nat)) (σ:St):St:=mp.map fun o=>match o with
 |some i=>(σ[i]?).getD none
 |none=>none
noncomputable def mn (N NC:List Str) (mp:List (Option Nat)) (names outer:List (Str×NameKind)):Bool:=(List.range mp.length).all fun j=>match mp[j]? with
 |some (some i)=>(match NC[j]?,N[i]? with
  |some y,some z=>y==z&&names.lookup y==some NameKind.free&& (outer.lookup y==some NameKind.cell ||outer.lookup y==some NameKind.free)
  |_,_=>false)
 |_=>true
theorem qf {N NC:List Str} {mp:List (Option Nat)} {names outer:List (Str×NameKind)} (h:mn N NC mp names outer=true) {j i:Nat} (e:mp[j]?=some (some i)):∃y,NC[j]?=some y∧N[i]?=some y∧names.lookup y=some .free∧(outer.lookup y=some .cell∨outer.lookup y=some .free):=by
 unfold mn at h
 rw [List.all_eq_true] at h
 have hj:j < mp.length:=(xo.mp e).1
 have:=h j (xN.mpr hj)
 rw [e] at this
 dsimp only at this
 split at this
 · rename_i y z e1 e2
   simp only [xV,Bool.or_eq_true,beq_iff_eq] at this
   obtain ⟨⟨rfl,h2⟩,h3⟩:=this
   exact ⟨y,e1,e2,h2,h3⟩
 · cases this
def PTs (X:Cx) (ifs:List Expr) (t:TT):Prop:=
 ∀(pins:List (Addr×Obj)) (s:Shared) (σ:St) (H:Hp) (Q:Bool→Hp→Prop),Inv X pins σ H s→t σ H Q→
  wpAny (model X.prog X.w) X.A (forIn ifs true fun c r=>if r=true then do let ok←isTrue c X.env (eval c X.env);pure (ForInStep.yield ok) else pure (ForInStep.yield r)) (TP X pins σ Q) X.xe s
def dO:TT:=fun _ H Q=>Q true H
theorem bO {X:Cx}:PTs X [] dO:=fun _ _ σ H Q I h=>wpAny_tests_nil ⟨H,I,h⟩
theorem j0 {X:Cx} {c:Expr} {t:TT} (hc:PT X c t):PTs X [c] t:=fun pins s σ H Q I h=>wpAny_tests_one (hc pins s σ H Q I h)
def Ext (σ σ':St):Prop:=∀(j:Nat) (v:V),σ[j]?=some (some v)→σ'[j]?=some (some v)
theorem Ext.refl (σ:St):Ext σ σ:=fun _ _ e=>e
theorem ext1 {o:Option V} {r:St}:Ext (none::r) (o::r)
 |0,v,e=>by cases (xE (show some (none:Option V)=some (some v) from e))
 |j+1,v,e=>e
theorem ext2 {o p:Option V} {r:St}:Ext (none::none::r) (o::p::r)
 |0,v,e=>by cases (xE (show some (none:Option V)=some (some v) from e))
 |1,v,e=>by cases (xE (show some (none:Option V)=some (some v) from e))
 |j+2,v,e=>e
def fb (mp:List (Option Nat)) (wi:TI) (g:TG) (tc:TT) (te:TE):TE:=fun σ H Q=>wi σ H fun J H1=>∀D,H1 D=none→
 ∃W:Nat→Nat→List V→Hp→Prop,(∃m,W 0 m [] (upd H1 D (.lst [])))∧∀i m acc H2,W i m acc H2→
  (J.stop i H2∧Q (.ref D) H2)∨
  (J.go i H2∧∀x H3,J.yld i H2 x H3→g x (subS mp σ) H3 fun σ4 H4=>Ext (subS mp σ) σ4∧tc σ4 H4 fun b H5=>if b=true then te σ4 H5 fun v H6=>H6 D=some (.lst acc)∧acc.length < sizeLine∧∃m',m' < m∧W (i+1) m' (acc++ [v]) (upd H6 D (.lst (acc++ [v])))
   else∃m',m' < m∧W (i+1) m' acc H5)
open PySem PySem.Spec PyProof.Rows
theorem c6 {env:Env}:∀ {names:List (Str×NameKind)} {x:Str},names.lookup x=some .free→
 (names.map fun (n,k)=>if (k==NameKind.free&&env.scope.kind== .function&&env.kindOf n==some .cell) then (n,NameKind.cell) else (n,k)).lookup x=some .cell∨
 (names.map fun (n,k)=>if (k==NameKind.free&&env.scope.kind== .function&&env.kindOf n==some .cell) then (n,NameKind.cell) else (n,k)).lookup x=some .free
 | [],_,h=>by simp at h
 |(n,k)::r,x,h=>by
  have ih:= @c6 env r x
  show List.lookup x ((if (k==NameKind.free&&env.scope.kind== .function&&env.kindOf n==some .cell)=true then (n,NameKind.cell) else (n,k))::_)=_∨List.lookup x ((if (k==NameKind.free&&env.scope.kind== .function&&env.kindOf n==some .cell)=true then (n,NameKind.cell) else (n,k))::_)=_
  cases hx:x==n with
  |true=>
   simp only [xU,hx] at h
   cases h
   by_cases hc:(NameKind.free==NameKind.free&&env.scope.kind== .function&&env.kindOf n==some .cell)=true
   · rw [if_pos hc]
     left
     simp only [xU,hx]
   · rw [if_neg hc]
     right
     simp only [xU,hx]
  |false=>
   simp only [xU,hx] at h
   by_cases hc:(k==NameKind.free&&env.scope.kind== .function&&env.kindOf n==some .cell)=true
   · rw [if_pos hc]
     simp only [xU,hx]
     exact ih h
   · rw [if_neg hc]
     simp only [xU,hx]
     exact ih h
theorem fe {env:Env}:∀ {names:List (Str×NameKind)} {x:Str},(∀y∈names,y.2≠ .cell)→
 ((names.map fun (n,k)=>if (k==NameKind.free&&env.scope.kind== .function&&env.kindOf n==some .cell) then (n,NameKind.cell) else (n,k)).lookup x=some .cell∨
 (names.map fun (n,k)=>if (k==NameKind.free&&env.scope.kind== .function&&env.kindOf n==some .cell) then (n,NameKind.cell) else (n,k)).lookup x=some .free)→(x,NameKind.free)∈names
 | [],_,_,h=>by simp at h
 |(n,k)::r,x,hn,h=>by
  have ih:= @fe env r x (fun y hy=>hn y (x6 _ hy))
  have nk:k≠ .cell:=hn (n,k) x5
  rw [xg] at h
  dsimp only at h
  cases hx:x==n with
  |true=>
   have xn:x=n:=by simpa using hx
   subst xn
   by_cases hc:(k==NameKind.free&&env.scope.kind== .function&&env.kindOf x==some .cell)=true
   · have:k= .free:=by
      have:=hc
      rw [xV,xV] at this
      simpa using this.1.1
     rw [this]
     exact x5
   · rw [if_neg hc,xU,hx] at h
     rcases h with h|h
     · exact absurd (xE h) nk
     · cases (xE h)
       exact x5
  |false=>
   refine x6 _ (ih ?_)
   by_cases hc:(k==NameKind.free&&env.scope.kind== .function&&env.kindOf n==some .cell)=true
   · rw [if_pos hc,xU,hx] at h
     exact h
   · rw [if_neg hc,xU,hx] at h
     exact h
section
variable {X:Cx} {pins:List (Addr×Obj)} {σ:St} {H:Hp} {s:Shared}
theorem Inv.block {scope:Scope} {NC:List Str} {mp:List (Option Nat)} {fp:List Addr} {h1:Heap} {tk:Nat} {m:Str→Option Value} (I:Inv X pins σ H s) (hf:∀b∈fp,FpOk X pins H b) (hlt:∀b∈fp,b < s.heap.objs.size) (hk:scope.kind= .function) (hnc:∀y∈scope.names,y.2≠ .cell)
 (hc:ci scope.names X.env.cells=true) (hl:mp.length=NC.length) (hm:mn X.N NC mp scope.names X.env.scope.names=true) (kp:∀b o,s.heap.get? b=some o→h1.get? b=some o) (hn:h1.Ns s.heap.objs.size m):
 Inv (XC X scope NC s.heap.objs.size s H fp (X.pn++pins)) [] (subS mp σ) H {s with heap:=h1,toks:=tk}:=by
 have sub:=kh (cells:=X.env.cells) scope.names [] hc (fun y c e=>by cases e)
 have lt:∀b o,s.heap.get? b=some o→b≠s.heap.objs.size:=fun b o e=>xu (Heap.lt_size e)
 have nst:∀b,b≠X.env.locals→b∉X.fs→b∉frs X.stack:=fun b h1 h2 z=>by
  rcases xi.mp (I.stkSub b z) with e|e
  · exact h1 e
  · exact h2 e
 refine ⟨⟨I.ok.mod,hk,I.ok.glob,I.ok.blt,x9 _,fun x y c e1 e2=>I.ok.inj x y c (sub x c e1) (sub y c e2),fun x hx=> ?_,(fun _ _ z=>by cases z),I.ok.hd,I.ok.frames, .inl rfl,fun b hb=> ?_,fun b o e=> ?_,xI I.ok.bsz I.sz,fun b o e hb=> ?_,fun b hb=> ?_,I.stack,I.stkFree⟩,
  rfl,I.bare,Un.kept kp,⟨m,hn,fun j y v e1 e2 e3=> ?_⟩,fun y c e=> ?_,I.hok.fresh (x9 _),fun y c e=>I.freeC y c (sub y c e),fun p hp=> ?_,I.hok.kept kp,?_⟩
 · exact h9 scope.names [] x (fe hnc hx)
 · obtain ⟨f0,f1,f2,f3,f4,f5⟩:=hf b hb
   exact ⟨xu (hlt b hb),fun x c e=>f4 x c (sub x c e)⟩
 · obtain ⟨h1,h2⟩:=I.bs b o e
   exact ⟨h1,h2⟩
 · obtain ⟨f0,f1,f2,f3,f4,f5⟩:=hf b hb
   rcases f3 with z|z
   · exact I.ok.noex b o e z
   · exact absurd (xC (Heap.lt_size e) (xI I.ok.bsz z)) (yw _)
 · obtain ⟨f0,f1,f2,f3,f4,f5⟩:=hf b hb
   exact nst b f1 f2
 ·
  unfold subS at e2
  rw [xw] at e2
  cases q:mp[j]? with
  |none=>rw [q] at e2;cases e2
  |some o=>
   rw [q] at e2
   cases o with
   |none=>cases e2
   |some i=>
    have e2':some ((σ[i]?).getD none)=some (some v):=e2
    obtain ⟨z,y1,y2,y3,y4⟩:=qf hm q
    have yz:y=z:=xE ((show NC[j]?=some y from e1).symm.trans y1)
    subst yz
    have e4:σ[i]?=some (some v):=by
     cases w:σ[i]? with
     |none=>rw [w] at e2';cases e2'
     |some t=>rw [w] at e2';exact e2'
    obtain ⟨m0,hn0,hl0⟩:=I.loc
    obtain ⟨c,hcl⟩:=h9 (cells:=X.env.cells) scope.names [] y (PySem.mem_of_lookup y3)
    have hcx:=sub y c hcl
    have vis:Vis X.env.scope y:= .inr y4
    obtain ⟨u,ru,lk⟩:=hl0 i y v y2 e4 vis
    refine ⟨u,ru, .inr ⟨c6 y3,c,hcl,?_⟩⟩
    rcases lk with ⟨k1,_⟩|⟨_,c',k2,k3⟩
    · have k1':X.env.scope.names.lookup y=some .local:=k1
      rcases y4 with y4|y4<;>(rw [y4] at k1';cases k1')
    · rw [hcx] at k2
      cases k2
      obtain ⟨oc,q1,q2⟩:=k3
      exact ⟨oc,kp _ _ q1,q2⟩
 · obtain ⟨v,oc,q1,q2⟩:=I.cell y c (sub y c e)
   exact ⟨v,oc,kp _ _ q1,q2⟩
 · have hp':p∈X.pn++pins:=by simpa using hp
   obtain ⟨q1,q2,q3,q4,q5⟩:=I.pin p hp'
   exact ⟨kp _ _ q1,q2,lt _ _ q1,nst _ q3 q4,q5⟩
 · show (subS mp σ).length=NC.length
   unfold subS
   rw [wZ,hl]
variable {elt target iter:Expr} {ifs:List Expr} {scope:Scope} {NC:List Str} {mp:List (Option Nat)} {pos:Pos} {wi:TI} {g:TG} {tc:TT} {te:TE}
theorem br (hcalm:X.calm=true) (hi:PI X target iter wi) (hg:∀C s H fp pn,PG (XC X scope NC C s H fp pn) target g) (ht:∀C s H fp pn,PTs (XC X scope NC C s H fp pn) ifs tc) (he:∀C s H fp pn,PE (XC X scope NC C s H fp pn) elt te)
 (hl:mp.length=NC.length:=by rfl) (hm:mn X.N NC mp scope.names X.env.scope.names=true:=by rfl) (hc:ci scope.names X.env.cells=true:=by rfl) (hk:scope.kind= .function:=by rfl)
 (hnc:∀y∈scope.names,y.2≠ .cell:=by decide +kernel) (hnm:∀y∈scope.names,y.2= .local→scope.names.lookup y.1=some .local:=by decide +kernel) (hs:∀x,foldedSetIterable iter X.env x=pure x:=by intro _;rfl):
 PE X (.ListComp elt [⟨target,iter,ifs,0⟩] scope pos) (fb mp wi g tc te):=by
 intro pins s σ H Q I h
 rw [eval_ListComp]
 refine wpAny_comprehension_free (use:=none) rfl hs (tH hc) hk hnm (thn (hi pins s σ H _ I h) fun v s1 h1=>thn h1 fun itv s2 h2=> ?_)
 obtain ⟨it,fp,tn,J,H2,e,I2,T,st2,f2,W⟩:=h2
 subst e
 refine wpAny_newObj_type ?_ (by show 0≤sizeLine;decide)
 have nD:H2 s2.heap.objs.size=none:=I2.hok.fresh (x9 _)
 have I3:Inv X pins σ (upd H2 s2.heap.objs.size (.lst [])) {s2 with heap:=s2.heap.push {cls:= .type "list",data:= .seq ([]:List Value).toArray}}:=
  I2.laid (t':=s2.toks) (fun b u e=>Heap.get?_push_of_some _ e) (x9 _) ⟨by show 0≤sizeLine;decide,[],0, .nil,Heap.get?_push_size _ rfl⟩
 obtain ⟨W,⟨m0,w0⟩,turn⟩:=W _ nD
 have lt2:∀b∈fp,b < s2.heap.objs.size:=fun b hb=>by
  obtain ⟨o,e,_⟩:=T.obj 0 _ st2 b hb
  exact Heap.lt_size e
 have nDf:∀b∈fp,b≠s2.heap.objs.size:=fun b hb=>xu (lt2 b hb)
 have f3:∀b∈fp,FpOk X pins (upd H2 s2.heap.objs.size (.lst [])) b:=fun b hb=>by
  obtain ⟨g0,g1⟩:=f2 b hb
  exact ⟨by rw [aG (nDf b hb)];exact g0,g1⟩
 have st3:tn 0 (s2.heap.push {cls:= .type "list",data:= .seq ([]:List Value).toArray}):=T.keep 0 _ _ st2 fun b _ o e=>Heap.get?_push_of_some _ e
 have lt3:∀b∈fp,b < (s2.heap.push {cls:= .type "list",data:= .seq ([]:List Value).toArray}).objs.size:=fun b hb=>by
  rw [Heap.size_push]
  exact Nat.lt_succ_of_lt (lt2 b hb)
 generalize hD:s2.heap.objs.size=D at*
 generalize hs3:({s2 with heap:=s2.heap.push {cls:= .type "list",data:= .seq ([]:List Value).toArray}}:Shared)=s3 at*
 have hh3:s3.heap=s2.heap.push {cls:= .type "list",data:= .seq ([]:List Value).toArray}:=by rw [←hs3]
 rw [←hh3] at st3 lt3
 generalize hH3:upd H2 D (.lst [])=H3 at*
 refine wpAny_newFunctionEnv (around:=some X.env) hnc (by intro y hy;cases hy) (fun h4 hn4 hsb4=> ?_) hk
 have kp4:∀b o,s3.heap.get? b=some o→h4.get? b=some o:=fun b o e=>hsb4.extBut b o (xu (Heap.lt_size e)) (Heap.get?_push_of_some _ e)
 have I4:=I3.block (tk:=s3.toks+([]:List (Str×Value)).length) f3 lt3 hk hnc hc hl hm kp4 hn4
 have st4:tn 0 h4:=T.keep 0 _ _ st3 fun b _ o e=>kp4 b o e
 have fin:∀(s5:Shared) (σ5:St) (H5:Hp),Inv (XC X scope NC s3.heap.objs.size s3 H3 fp (X.pn++pins)) [] σ5 H5 s5→Q (.ref D) H5→compPost (model X.prog X.w) X.A X.xe none (EP X pins σ Q) (.ref D) s3.heap.objs.size (.ok .next) s5:=by
  intro s5 σ5 H5 I5 q5
  obtain ⟨m5,hn5,_⟩:=id I5.loc
  refine ⟨m5,hn5,fun h6 sb6=>⟨.ref D,H5,?_,rfl,q5⟩⟩
  have kp6:∀b o,b≠s3.heap.objs.size→s5.heap.get? b=some o→h6.get? b=some o:=fun b o hb e=>sb6.extBut b o hb e
  have nC:∀b o,s3.heap.get? b=some o→b≠s3.heap.objs.size:=fun b o e=>xu (Heap.lt_size e)
  have un:Un (frs X.stack) fp H3 H5 s3.heap s5.heap:=I5.base
  have hfree:H5 s3.heap.objs.size=none:=I5.free
  refine I3.call' (s':= {s5 with heap:=h6}) (ch:=fp) I5.os ⟨fun b o e n hb hx=>kp6 b o (nC b o e) (un.keep b o e n hb hx),fun b o e n hb hx=> ?_,un.free,fun b o e hx=> ?_,un.tups,un.frzs,un.tbls⟩ ?_ I5.bare (fun b hb=> ?_)
  · obtain ⟨sl,e1⟩:=un.slot b o e n hb hx
    exact ⟨sl,kp6 b _ (nC b o e) e1⟩
  · obtain ⟨o',e1⟩:=un.there b o e hx
    exact ⟨o',kp6 b o' (nC b o e) e1⟩
  · intro b o e
    have nb:b≠s3.heap.objs.size:=fun z=>by rw [z,hfree] at e;cases e
    refine (I5.hok b o e).stay (fun c v hc' r=>kp6 c v ?_ r) (fun _ r=>r) fun _ _ r=>r
    rcases hc' with z|z
    · rw [z];exact nb
    · intro y
      rw [y,hfree] at z
      cases z
  · obtain ⟨g0,g1,g2,g3,g4,g5⟩:=f3 b hb
    exact ⟨g3,g1,g4,g5⟩
 have loop:codeAny (model X.prog X.w) X.A (.compLoop (.ListComp elt [⟨target,iter,ifs,0⟩] scope pos) 0 (.ref it) (.ref D) (compEnvC scope (cy scope.names X.env.cells []) s3.heap.objs.size X.env)) (compPost (model X.prog X.w) X.A X.xe none (EP X pins σ Q) (.ref D) s3.heap.objs.size)
  {s3 with heap:=h4,toks:=s3.toks+([]:List (Str×Value)).length}:=by
  refine lE (fun n s'=>∃i acc σ' H',Inv (XC X scope NC s3.heap.objs.size s3 H3 fp (X.pn++pins)) [] σ' H' s'∧Ext (subS mp σ) σ'∧tn i s'.heap∧(∀b∈fp,H' b=none)∧W i n acc H') ?_ m0
   ⟨0,[],subS mp σ,H3,I4,fun _ _ e=>e,st4,fun b hb=>(f3 b hb).1,w0⟩
  rintro n s5 ⟨i,acc,σ5,H5,I5,hσ,st5,fr5,w5⟩
  have I5':Inv (XC X scope NC s3.heap.objs.size s3 H3 fp (X.pn++pins)) [] (subS mp σ) H5 s5:=I5.weak (by rw [I5.len];unfold subS;rw [wZ];exact hl) hσ
  have fpk:∀ {H':Hp},(∀b∈fp,H' b=none)→∀b∈fp,FpOk (XC X scope NC s3.heap.objs.size s3 H3 fp (X.pn++pins)) [] H' b:=fun hn b hb=>by
   obtain ⟨g0,g1,g2,g3,g4,g5⟩:=f3 b hb
   refine ⟨hn b hb,xu (lt3 b hb),?_, .inl hb,(I4.ok.exf b hb).2,fun p hp=>g5 p (by simpa using hp)⟩
   exact I4.ok.exfs b hb
  rcases turn i n acc H5 w5 with ⟨stop,q⟩|⟨go,step⟩
  · refine thn (T.done (XC X scope NC s3.heap.objs.size s3 H3 fp (X.pn++pins)) rfl rfl rfl hcalm i [] s5 _ H5 (fun _ _=>False) I5' (fpk fr5) st5 stop) fun r s6 ⟨hr,I6⟩=> ?_
    subst hr
    exact fin s6 _ H5 I6 q
  · refine thn (T.item (XC X scope NC s3.heap.objs.size s3 H3 fp (X.pn++pins)) rfl rfl rfl hcalm i [] s5 _ H5 (fun _ _=>False) I5' (fpk fr5) st5 go) fun r s6 ⟨u,hr,h6⟩=> ?_
    subst hr
    refine thn h6 fun _ s7 ⟨x,H7,I7,r7,y7,st7,fr7⟩=> ?_
    have I7':=I7.pinned (fpk fr7) (T.obj _ _ st7)
    refine thn (hg _ _ _ _ _ _ s7 _ H7 x u _ I7' r7 (step x H7 y7)) fun _ s8 ⟨σ8,H8,I8,ext8,q8⟩=> ?_
    refine thn (ht _ _ _ _ _ _ s8 σ8 H8 _ I8 q8) fun ok s9 ⟨H9,I9,q9⟩=> ?_
    have again:∀ {σ':St} {H':Hp} {s':Shared} {acc':List V} {m':Nat},Inv (XC X scope NC s3.heap.objs.size s3 H3 fp (X.pn++pins)) ([]++gy fp s7.heap) σ' H' s'→Ext (subS mp σ) σ'→m' < n→W (i+1) m' acc' H'→
     ∃m,m < n∧∃i acc σ' H',Inv (XC X scope NC s3.heap.objs.size s3 H3 fp (X.pn++pins)) [] σ' H' s'∧Ext (subS mp σ) σ'∧tn i s'.heap∧(∀b∈fp,H' b=none)∧W i m acc H':=by
     intro σ' H' s' acc' m' I' hσ' hm' w'
     refine ⟨m',hm',i+1,acc',σ',H',I'.unpinned,hσ',T.keep _ _ _ st7 fun b hb o e=>(I'.pin (b,o) (xL _ (xL _ (cN hb e)))).1,fun b hb=> ?_,w'⟩
     obtain ⟨o,e,d⟩:=T.obj _ _ st7 b hb
     exact (I'.pin (b,o) (xL _ (xL _ (cN hb e)))).2.1
    cases ok with
    |false=>
     rw [if_neg xv] at q9
     rw [if_neg xv]
     obtain ⟨m',hm',w'⟩:=q9
     exact again I9 ext8 hm' w'
    |true=>
     rw [if_pos rfl] at q9
     rw [if_pos rfl]
     refine thn (he _ _ _ _ _ _ s9 σ8 H9 _ I9 q9) fun v s10 ⟨y,H10,I10,r10,hD10,hz,m',hm',w'⟩=> ?_
     refine thn (bN (X:=XC X scope NC s3.heap.objs.size s3 H3 fp (X.pn++pins)) _ s10 σ8 H10 (.ref D) [y] (.ref D) [v] (fun _ H'=>H'=upd H10 D (.lst (acc++ [y]))) I10 rfl (.cons r10 .nil) ⟨D,acc,y,rfl,rfl,hD10,hz,rfl⟩) fun _ s11 ⟨_,H11,I11,_,e11⟩=> ?_
     subst e11
     exact again I11 ext8 hm' w'
 exact codeAny_compStart_list loop (T.self _ 0 _ _ _ st4 loop)
end
open PySem PySem.Spec PyProof.Rows
section
variable {X:Cx} {pins:List (Addr×Obj)} {σ:St} {H:Hp} {s:Shared}
variable {elt target iter:Expr} {ifs:List Expr} {scope:Scope} {NC:List Str} {mp:List (Option Nat)} {pos spos:Pos} {wi:TI} {g:TG} {tc:TT} {te:TE} {i:Nat} {x:Str} {px:Pos}
end
open PySem PySem.Spec PyProof.Rows
section
variable {κ:Type} [DecidableEq κ]
noncomputable def valV (kvs:List (κ×V)) (k:κ):Option V:=(kvs.find? fun kv=>decide (kv.1=k)).map (·.2)
noncomputable def putK (kvs:List (κ×V)) (k:κ) (v:V):List (κ×V):=
 if (kvs.any fun kv=>decide (kv.1=k))=true then kvs.map (fun kv=>if kv.1=k then (kv.1,v) else kv) else kvs++ [(k,v)]
theorem fZ {p:κ×V} {r:List (κ×V)} {k:κ} (e:p.1=k):valV (p::r) k=some p.2:=by simp [valV,yb,e]
theorem g6 {p:κ×V} {r:List (κ×V)} {k:κ} (e:¬p.1=k):valV (p::r) k=valV r k:=by simp [valV,yb,e]
theorem cR (k:κ):∀kvs:List (κ×V),(kvs.any fun kv=>decide (kv.1=k))=(valV kvs k).isSome
 | []=>rfl
 |p::r=>by
  rw [yk]
  by_cases e:p.1=k
  · simp only [fZ e,decide_eq_true e,Bool.true_or,Option.isSome_some]
  · rw [g6 e,decide_eq_false e,Bool.false_or];exact cR k r
theorem fh (kvs:List (κ×V)) (k:κ) (v:V):(putK kvs k v).length≤kvs.length+1:=by
 unfold putK
 split
 · rw [wZ];omega
 · rw [x3,xh,xP];omega
theorem gp {kvs:List (κ×V)} {k:κ} (v:V) (h:valV kvs k=none):putK kvs k v=kvs++ [(k,v)]:=by
 unfold putK
 rw [cR,h]
 exact if_neg (by decide)
theorem RelO.isSome_eq {o:Option V} {u:Option Value} (r:RelO o u):o.isSome=u.isSome:=by
 cases o with
 |none=>cases u with
  |none=>rfl
  |some _=>exact (show False from r).elim
 |some _=>cases u with
  |none=>exact (show False from r).elim
  |some _=>rfl
theorem RelO.getD {o:Option V} {u:Option Value} {d:V} {d':Value} (r:RelO o u) (rd:RelV d d'):RelV (o.getD d) (u.getD d'):=by
 cases o with
 |none=>cases u with
  |none=>exact rd
  |some _=>exact (show False from r).elim
 |some _=>cases u with
  |none=>exact (show False from r).elim
  |some _=>exact r
theorem KV.val {kvs:List (κ×V)} {vs:List (κ×Value)} (r:KV kvs vs) (k:κ):RelO (valV kvs k) (valueAt vs k):=by
 unfold KV at r
 induction r with
 |nil=>exact True.intro
 | @cons p q ps qs h t ih=>
  obtain ⟨h1,h2⟩:=h
  by_cases e:p.1=k
  · have e':q.1=k:=h1.symm.trans e
    have b:valueAt (q::qs) k=some q.2:=by simp [valueAt,yb,e']
    rw [fZ e,b];exact h2
  · have e':¬q.1=k:=fun z=>e (h1.trans z)
    have b:valueAt (q::qs) k=valueAt qs k:=by simp [valueAt,yb,e']
    rw [g6 e,b];exact ih
theorem KV.any {kvs:List (κ×V)} {vs:List (κ×Value)} (r:KV kvs vs) (k:κ):(kvs.any fun kv=>decide (kv.1=k))=vs.any fun kv=>decide (kv.1=k):=by
 unfold KV at r
 induction r with
 |nil=>rfl
 |cons h t ih=>rw [yk,yk,ih,h.1]
theorem KV.repl {kvs:List (κ×V)} {vs:List (κ×Value)} (r:KV kvs vs) (k:κ) {y:V} {u:Value} (ry:RelV y u):
 KV (kvs.map fun kv=>if kv.1=k then (kv.1,y) else kv) (vs.map fun kv=>if kv.1=k then (kv.1,u) else kv):=by
 unfold KV at r ⊢
 induction r with
 |nil=>exact .nil
 | @cons p q ps qs h t ih=>
  rw [xg,xg]
  refine .cons ?_ ih
  obtain ⟨h1,h2⟩:=h
  by_cases e:p.1=k
  · rw [if_pos e,if_pos (h1.symm.trans e)];exact ⟨h1,ry⟩
  · rw [if_neg e,if_neg (fun z=>e (h1.trans z))];exact ⟨h1,h2⟩
theorem KV.put {kvs:List (κ×V)} {vs:List (κ×Value)} (r:KV kvs vs) (k:κ) {y:V} {u:Value} (ry:RelV y u):KV (putK kvs k y) (stored vs k u):=by
 unfold putK stored
 rw [r.any k]
 by_cases e:(vs.any fun kv=>decide (kv.1=k))=true
 · rw [if_pos e,if_pos e];exact r.repl k ry
 · rw [if_neg e,if_neg e];exact Paired.snoc r ⟨rfl,ry⟩
theorem KV.length {kvs:List (κ×V)} {vs:List (κ×Value)} (r:KV kvs vs):kvs.length=vs.length:=Paired.length r
end
theorem mR {P:Program} {w:World} {k:Key} {u:Value} (r:RelV (kV k) u):(aR P w).is k u=true:=by
 cases k with
 |inl i=>obtain ⟨t,e⟩:=(show∃t,u=Value.int i t from r);subst e;exact jL P w i t
 |inr x=>obtain ⟨t,e⟩:=(show∃t,u=Value.str x t from r);subst e;exact jK P w x t
theorem iy {P:Program} {w:World}:∀ {ks:List Key} {us:List Value},Vals (ks.map kV) us→ItemsAre (aR P w) ks us
 | [],_,r=>by rw [List.map_nil] at r;cases r;exact .nil
 |k::ks,_,r=>by
  rw [xg] at r
  cases r with
  |cons h t=>exact .cons (mR h) (iy t)
abbrev KT (H:Hp):List (List Key×V)→List (List Key×Addr×Value)→Prop:=Paired fun p q=>p.1=q.1∧H q.2.1=some (.tup (p.1.map kV))∧RelV p.2 q.2.2
theorem KT.val {H:Hp} {kvs:List (List Key×V)} {xs:List (List Key×Addr×Value)} (r:KT H kvs xs) (k:List Key):RelO (valV kvs k) ((atKey xs k).map (·.2)):=by
 induction r with
 |nil=>exact True.intro
 | @cons p q ps qs h t ih=>
  obtain ⟨h1,_,h2⟩:=h
  by_cases e:p.1=k
  · have e':q.1=k:=h1.symm.trans e
    have b:atKey (q::qs) k=some q.2:=by simp [atKey,yb,e']
    rw [fZ e,b];exact h2
  · have e':¬q.1=k:=fun z=>e (h1.trans z)
    have b:atKey (q::qs) k=atKey qs k:=by simp [atKey,yb,e']
    rw [g6 e,b];exact ih
theorem KT.repl {H:Hp} {kvs:List (List Key×V)} {xs:List (List Key×Addr×Value)} (r:KT H kvs xs) (k:List Key) {y:V} {u:Value} (ry:RelV y u):
 KT H (kvs.map fun kv=>if kv.1=k then (kv.1,y) else kv) (xs.map (putAt k u)):=by
 induction r with
 |nil=>exact .nil
 | @cons p q ps qs h t ih=>
  rw [xg,xg]
  refine .cons ?_ ih
  obtain ⟨h1,h2,h3⟩:=h
  unfold putAt
  by_cases e:p.1=k
  · rw [if_pos e,if_pos (h1.symm.trans e)];exact ⟨h1,h2,ry⟩
  · rw [if_neg e,if_neg (fun z=>e (h1.trans z))];exact ⟨h1,h2,h3⟩
theorem KT.put {H:Hp} {kvs:List (List Key×V)} {xs:List (List Key×Addr×Value)} (r:KT H kvs xs) (k:List Key) {b:Addr} {y:V} {u:Value} (hb:H b=some (.tup (k.map kV))) (ry:RelV y u):
 KT H (putK kvs k y) (storedH xs k b u):=by
 have e:(kvs.any fun kv=>decide (kv.1=k))=(atKey xs k).isSome:=by
  rw [cR,(r.val k).isSome_eq,Option.isSome_map]
 unfold putK storedH
 rw [e]
 by_cases q:(atKey xs k).isSome=true
 · rw [if_pos q,if_pos q];exact r.repl k ry
 · rw [if_neg q,if_neg q];exact Paired.snoc r ⟨rfl,hb,ry⟩
theorem KT.keeps {H H':Hp} {kvs:List (List Key×V)} {xs:List (List Key×Addr×Value)} (r:KT H kvs xs) (ht:∀b ys,H b=some (.tup ys)→H' b=some (.tup ys)):KT H' kvs xs:=
 Paired.mapP r fun _ _ z=>⟨z.1,ht _ _ z.2.1,z.2.2⟩
section
variable {P:Program} {w:World} {H:Hp} {h:Heap} {a:Addr}
theorem tX {u:HO} (ok:HOk P w H h) (e:Rd H a u):ObjOk P w H h a u:=e.ok ok
theorem um {kvs:List (Key×V)} (ok:HOk P w H h) (e:Rd H a (.dK kvs)):kvs.length≤sizeLine∧(a==sysModules)=false∧∃vs,KV kvs vs∧h.DictOf (aR P w) a vs:=
 show ObjOk P w H h a (.dK kvs) from tX ok e
theorem k8 {kvs:List (Key×V)} (ok:HOk P w H h) (e:H a=some (.dK kvs)):kvs.length≤sizeLine∧(a==sysModules)=false∧∃vs,KV kvs vs∧h.DictOf (aR P w) a vs:=um ok (.inl e)
theorem lz {ks:List Key} (ok:HOk P w H h) (e:H a=some (.tup (ks.map kV))):(tupleKind (aR P w)).is h ks a:=by
 obtain ⟨_,its,r,o,h1,h2,n,h3⟩:=(show ObjOk P w H h a (.tup (ks.map kV)) from ok a _ e)
 exact ⟨o,its.toArray,n,h1,h2,h3,by simpa using iy r⟩
theorem uj {kvs:List (List Key×V)} (ok:HOk P w H h) (e:Rd H a (.dT kvs)):kvs.length≤sizeLine∧(a==sysModules)=false∧
 ∃xs,KT H kvs xs∧h.DictOfH (tupleKind (aR P w)) a xs:=by
 obtain ⟨z,y,xs,r,o,es,ep,h1,h2,h3,h4,h5⟩:=(show ObjOk P w H h a (.dT kvs) from tX ok e)
 refine ⟨z,y,xs,r,o,es,ep,h1,h2,h3,h4,fun x hx=> ?_,h5⟩
 have all:∀ {l:List (List Key×V)} {m:List (List Key×Addr×Value)},KT H l m→∀x∈m,(tupleKind (aR P w)).is h x.1 x.2.1:=by
  intro l m q
  induction q with
  |nil=>intro x hx;exact nomatch hx
  | @cons p q ps qs hq t ih=>
   intro x hx
   rcases xi.mp hx with e|hx
   · subst e
     exact lz ok (by rw [←hq.1];exact hq.2.1)
   · exact ih x hx
 exact all r x hx
theorem wT {kvs:List (List Key×V)} (ok:HOk P w H h) (e:H a=some (.dT kvs)):kvs.length≤sizeLine∧(a==sysModules)=false∧
 ∃xs,KT H kvs xs∧h.DictOfH (tupleKind (aR P w)) a xs:=uj ok (.inl e)
end
def DGet (H:Hp) (a:Addr) (y:V) (r:Option V):Prop:=
 (∃kvs k,Rd H a (.dK kvs)∧y=kV k∧r=valV kvs k)∨∃kvs k b,Rd H a (.dT kvs)∧y= .ref b∧H b=some (.tup (k.map kV))∧r=valV kvs k
def DPut (H:Hp) (a:Addr) (y v:V) (H':Hp):Prop:=
 (∃kvs k,H a=some (.dK kvs)∧y=kV k∧kvs.length < sizeLine∧H'=upd H a (.dK (putK kvs k v)))∨
 ∃kvs k b,H a=some (.dT kvs)∧y= .ref b∧H b=some (.tup (k.map kV))∧kvs.length < sizeLine∧H'=upd H a (.dT (putK kvs k v))
theorem DGet.k {H:Hp} {a:Addr} {kvs:List (Key×V)} {k:Key} (e:H a=some (.dK kvs)):DGet H a (kV k) (valV kvs k):= .inl ⟨kvs,k, .inl e,rfl,rfl⟩
theorem DGet.t {H:Hp} {a b:Addr} {kvs:List (List Key×V)} {k:List Key} (e:H a=some (.dT kvs)) (eb:H b=some (.tup (k.map kV))):DGet H a (.ref b) (valV kvs k):= .inr ⟨kvs,k,b, .inl e,rfl,eb,rfl⟩
theorem DPut.k {H:Hp} {a:Addr} {kvs:List (Key×V)} {k:Key} {v:V} (e:H a=some (.dK kvs)) (hl:kvs.length < sizeLine):DPut H a (kV k) v (upd H a (.dK (putK kvs k v))):= .inl ⟨kvs,k,e,rfl,hl,rfl⟩
theorem DPut.t {H:Hp} {a b:Addr} {kvs:List (List Key×V)} {k:List Key} {v:V} (e:H a=some (.dT kvs)) (eb:H b=some (.tup (k.map kV))) (hl:kvs.length < sizeLine):
 DPut H a (.ref b) v (upd H a (.dT (putK kvs k v))):= .inr ⟨kvs,k,b,e,rfl,eb,hl,rfl⟩
section
variable {X:Cx} {pins:List (Addr×Obj)} {σ:St} {H:Hp} {s:Shared} {a:Addr} {y v:V} {u r:Value} {o:Option V} {A:Around} {E:Value→Shared→Prop}
theorem Inv.big (I:Inv X pins σ H s):sysModules < s.heap.objs.size:=by
 have h:mainGlobals < s.heap.objs.size:=(I.mod.glob.keeps I.bk).lt
 exact Nat.lt_trans (by decide) h
theorem tG {Q:Value→Shared→Prop} (hu:A.units+1 < cLine) (I:Inv X pins σ H s) (g:DGet H a y o) (ry:RelV y u) (h:∀s',Inv X pins σ H s'→Q (.bool (!o.isSome)) s'):
 wpAny (model X.prog X.w) A (compareOp .NotIn u (.ref a)) Q E s:=by
 rcases g with ⟨kvs,k,e,ey,l⟩|⟨kvs,k,b,e,ey,eb,l⟩
 · subst ey
   obtain ⟨z,hd,vs,rel,dd⟩:=um I.hok e
   refine wpAny_notIn_of (mR ry) hd dd.mapOf ?_
   rw [←(rel.val k).isSome_eq,←l]
   exact h _ (I.tok _)
 · subst ey
   cases (show u=Value.ref b from ry)
   obtain ⟨z,hd,xs,rel,dd⟩:=uj I.hok e
   refine wpAny_notIn_heap (tupleKind_room_in1 hu) (lz I.hok eb) hd dd ?_
   have q:=(rel.val k).isSome_eq
   rw [Option.isSome_map] at q
   rw [←q,←l]
   exact h _ (I.tok _)
theorem fQ {h':Heap} {t':Nat} {ob:HO} (I:Inv X pins σ H s) (mu:Mut (H a)) (hs:Heap.SameBut a s.heap h') (he:∃q,h'.get? a=some q) (new:ObjOk X.prog X.w (upd H a ob) h' a ob):
 Inv X pins σ (upd H a ob) {s with heap:=h',toks:=t'}:=
 I.write (x:=a) (e:=a) mu (.inl rfl) (fun b q hb z=>(hs.2 b hb).trans z) he new
theorem qZ {P:Program} {w:World} {H':Hp} {h':Heap} {kvs:List (Key×V)} {vs:List (Key×Value)} (z:kvs.length≤sizeLine) (hd:(a==sysModules)=false) (rel:KV kvs vs) (dd:h'.DictOf (aR P w) a vs):
 ObjOk P w H' h' a (.dK kvs):=⟨z,hd,vs,rel,dd⟩
theorem o7 {H':Hp} {Q:Unit→Shared→Prop} (hu:A.units+1 < cLine) (I:Inv X pins σ H s) (g:DPut H a y v H') (ry:RelV y u) (rv:RelV v r) (h:∀s',Inv X pins σ H' s'→Q () s'):
 wpAny (model X.prog X.w) A (setItem (.ref a) u r) Q E s:=by
 rcases g with ⟨kvs,k,e,ey,l,eH⟩|⟨kvs,k,b,e,ey,eb,l,eH⟩
 · subst ey eH
   obtain ⟨z,hd,vs,rel,dd⟩:=k8 I.hok e
   have hz:vs.length≤sizeLine:=by rw [←rel.length];exact z
   have hl:(putK kvs k v).length≤sizeLine:=by have:=fh kvs k v;omega
   refine wpAny_setItem_pairs (hsz:=hz) (mR ry) dd fun h' dd' hs=>h _ ?_
   have he:∃q,h'.get? a=some q:=let ⟨q,_,_,hq,_⟩:=dd';⟨q,hq⟩
   exact fQ I (by rw [e];exact True.intro) hs he (qZ hl hd (rel.put k rv) dd')
 · subst ey eH
   cases (show u=Value.ref b from ry)
   obtain ⟨z,hd,xs,rel,dd⟩:=wT I.hok e
   have hz:xs.length≤sizeLine:=by rw [←Paired.length rel];exact z
   have hl:(putK kvs k v).length≤sizeLine:=by have:=fh kvs k v;omega
   refine wpAny_setItem_heap (hsz:=hz) (tupleKind_room_in1 hu) (lz I.hok eb) dd fun h' dd' hs=>h _ ?_
   obtain ⟨q,es,ep,hq,h2,h3,h4,_,h5⟩:=dd'
   refine fQ I (by rw [e];exact True.intro) hs ⟨q,hq⟩ ⟨hl,hd,_,(rel.put k eb rv).keeps fun c ys ec=> ?_,q,es,ep,hq,h2,h3,h4,h5⟩
   rw [aG (wN ec e (fun z=>nomatch z))]
   exact ec
end
section
variable {X:Cx} {pins:List (Addr×Obj)} {σ:St} {H:Hp} {s:Shared} {a:Addr} {kvs:List (Key×V)} {k:Key} {u:Value} {A:Around} {E:Value→Shared→Prop}
end
def NoSl (i:Expr):Prop:=∀ov iv,subscripted i false ov iv=operate [ov,iv] (getItem ov iv)
theorem rT {prog:Program} {w:World} {A:Around} {E:Value→Shared→Prop} {s:Shared} {env:Env} {value slice:Expr} {pos:Pos} {T id:String} {Q:Value→Shared→Prop}
 (hl:typeLookup (.type T) "__getitem__"=pure (some (.builtin id))) (hs:NoSl slice)
 (h:wpAny (model prog w) A (eval value env) (fun o s₁=>wpAny (model prog w) A (eval slice env) (fun i s₂=>s₂.TypeIs o T∧wpAny (model prog w) A (getItem o i) Q E s₂) E s₁) E s):
 wpAny (model prog w) A (eval (.Subscript value slice pos) env) Q E s:=by
 refine Subscript_ (wpAny_mono h (fun o s₁ h₁=>wpAny_mono h₁ (fun i s₂ h₂=> ?_) fun _ _ x=>x) fun _ _ x=>x)
 obtain ⟨hT,h₂⟩:=h₂
 unfold subscriptTail
 refine wpAny_bind ?_
 rw [getitemInPython_of_ne hT.not_modules]
 refine wpAny_bind (wpAny_specialOf hT hl ?_)
 have fin:wpAny (model prog w) A (subscripted slice false o i) (fun r s₃=>wpAny (model prog w) A (letTemporaryGo value o r >>=fun _=>pure r) Q E s₃) E s₂:=by
  rw [hs o i]
  exact wpAny_operating (wpAny_mono h₂ (fun r s₃ h₃=>wpAny_bind (wpAny_letTemporaryGo (wpAny_pure h₃))) fun _ _ x=>x)
 first
  |exact wpAny_pure (wpAny_bind fin)
  |exact wpAny_bind (wpAny_pure (wpAny_bind fin))
  |exact wpAny_bind fin
def rR (ty td:TE):TE:=fun σ H Q=>ty σ H fun y H1=>td σ H1 fun x H2=>∃a o,x= .ref a∧DGet H2 a y o∧Q (.bl (!o.isSome)) H2
def wq (td ty tv:TE):TS:=fun D σ H=>tv σ H fun v H1=>td σ H1 fun x H2=>ty σ H2 fun y H3=>∃a H4,x= .ref a∧DPut H3 a y v H4∧D.nx σ H4
section
variable {X:Cx} {o i e value:Expr} {pos pos' tpos:Pos} {td ty tv:TE}
theorem iq (hu:X.A.units+1 < cLine) (hi:PE X i ty) (ho:PE X o td):PC X .NotIn i o (rR ty td):=by
 intro pins s σ H Q I h
 refine thn (hi pins s σ H _ I h) fun iv s1 ⟨y,H1,I1,ry,q1⟩=>thn (ho pins s1 σ H1 _ I1 q1) fun u s2 ⟨x,H2,I2,rx,a,ov,ex,g,q2⟩=> ?_
 subst ex
 obtain rfl:u=Value.ref a:=rx
 exact tG hu I2 g ry fun s3 I3=>⟨.bl (!ov.isSome),H2,I3,rfl,q2⟩
theorem lZ (hu:X.A.units+1 < cLine) (ho:PE X o td) (hi:PE X i ty) (hv:PE X value tv) (hs:swapsWith value (some (.Subscript o i pos')) pos.line X.env=pure false):
 PS X (.Assign [.Subscript o i pos'] value pos) (wq td ty tv):=by
 intro pins s σ H D I h
 refine wpAny_Assign_Subscript (thn (hv pins s σ H _ I h) fun r s1 ⟨v,H1,I1,rv,q1⟩=>thn (ho pins s1 σ H1 _ I1 q1) fun u s2 ⟨x,H2,I2,rx,q2⟩=>thn (hi pins s2 σ H2 _ I2 q2) fun iv s3 ⟨y,H3,I3,ry,a,H4,ex,g,q3⟩=> ?_) hs
 subst ex
 obtain rfl:u=Value.ref a:=rx
 exact o7 hu I3 g ry rv fun s4 I4=>⟨σ,H4,I4,q3⟩
end
theorem r9 {P:Program} {w:World} {H:Hp} (h:Heap) (hb:sysModules < h.objs.size):ObjOk P w H (h.push {cls:= .type "dict",data:= .dict #[]}) h.objs.size (.dK []):=
 ⟨xz _,beq_eq_false_iff_ne.mpr (Ne.symm (xu hb)),[], .nil,Heap.DictOf.new h⟩
def uz:TE:=fun _ H Q=>∀p,H p=none→Q (.ref p) (upd H p (.dK []))
section
variable {X:Cx} {pos:Pos}
theorem dR:PE X (.Dict [] [] pos) uz:=fun pins s σ H Q I h=>
 wpAny_Dict_empty ⟨.ref s.heap.objs.size,_,I.laid (a:=s.heap.objs.size) (o:= .dK []) (t':=s.toks) (fun _ _ q=>Heap.get?_push_of_some _ q) (x9 _) (r9 s.heap I.big),rfl,h _ (I.hok.fresh (x9 _))⟩
end
structure M2 (X:Cx) (o:Expr) (m:Str) (apos:Pos) (e f:Expr) (cpos:Pos):Prop where
 base:attributeBase o m X.env (eval o X.env)=eval o X.env
 few:((backTo cpos (starEach [e,f] X.env)).all (fun x=> !x.1)&& (backToKw cpos (keywordEach [] X.env)).all (fun x=>x.1.isSome)
  &&decide (([e,f]:List Expr).length+([]:List Keyword).length+(if ([]:List Keyword).isEmpty then 0 else 1) < 30))=true
 line:(apos.endLine==cpos.line)=true
 trees:backTo cpos (starEach [e,f] X.env)= [(false,eval e X.env),(false,eval f X.env)]
section
variable {X:Cx} {pins:List (Addr×Obj)} {σ:St} {H:Hp} {s:Shared} {a:Addr} {y d:V} {u r:Value} {o:Option V} {A:Around} {E:Value→Shared→Prop}
end
section
variable {X:Cx} {o e f:Expr} {apos cpos:Pos} {td ty tx:TE}
end
section
variable {X:Cx} {pins:List (Addr×Obj)} {σ:St} {H:Hp} {s:Shared} {a:Addr} {kvs:List (Key×V)} {A:Around} {E:Value→Shared→Prop}
end
section
variable {X:Cx} {pins:List (Addr×Obj)} {σ:St} {H:Hp} {s:Shared} {a:Addr} {y:V} {u:Value} {A:Around} {E:Value→Shared→Prop}
end
open PySem PySem.Spec PyProof.Rows
def kz (J:It) (D:Addr) (te:TE) (rest:L2.St) (Q:VK) (H1:Hp):Prop:=
 ∃W:Nat→Nat→List V→Hp→Prop,(∃m,W 0 m [] (upd H1 D (.lst [])))∧∀i m acc H2,W i m acc H2→
  (J.stop i H2∧Q (.ref D) H2)∨
  (J.go i H2∧∀x H3,J.yld i H2 x H3→cF 0 x (none::rest) H3 fun σ4 H4=>Ext (none::rest) σ4∧dO σ4 H4 fun b H5=>if b=true then te σ4 H5 fun v H6=>H6 D=some (.lst acc)∧acc.length < sizeLine∧∃m',m' < m∧W (i+1) m' (acc++ [v]) (upd H6 D (.lst (acc++ [v])))
   else∃m',m' < m∧W (i+1) m' acc H5)
theorem bw {mp:List (Option Nat)} {wi:TI} {te:TE} {σ rest:L2.St} {H:Hp} {Q:VK} (e:subS mp σ=none::rest) (h:wi σ H fun J H1=>∀D,H1 D=none→kz J D te rest Q H1):fb mp wi (cF 0) dO te σ H Q:=by
 unfold fb
 rw [e]
 exact h
def CompN (n i:Nat) (D:Addr) (acc:List V) (Pv:Nat→List V→Hp→Prop):VK:=fun v H6=>H6 D=some (.lst acc)∧acc.length < sizeLine∧∃m',m' < n - i∧(m'=n - (i+1)∧i+1≤n∧Pv (i+1) (acc++ [v]) (upd H6 D (.lst (acc++ [v]))))
theorem CompN.mk {n i:Nat} {D:Addr} {acc:List V} {Pv:Nat→List V→Hp→Prop} {v:V} {H6:Hp} (hi:i < n) (hl:acc.length < sizeLine) (h1:H6 D=some (.lst acc)) (h2:Pv (i+1) (acc++ [v]) (upd H6 D (.lst (acc++ [v])))):CompN n i D acc Pv v H6:=
 ⟨h1,hl,n - (i+1),by omega,rfl,hi,h2⟩
theorem jj {J:It} {D:Addr} {te:TE} {rest:L2.St} {Q:VK} {H1:Hp} (n:Nat) (Pv:Nat→List V→Hp→Prop) (h0:Pv 0 [] (upd H1 D (.lst [])))
 (hgo:∀i acc H,i < n→Pv i acc H→J.go i H)
 (hs:∀i x acc H H',i < n→Pv i acc H→J.yld i H x H'→te (some x::rest) H' (CompN n i D acc Pv))
 (hd:∀acc H,Pv n acc H→J.stop n H∧Q (.ref D) H):kz J D te rest Q H1:=by
 refine ⟨fun i m acc H=>m=n - i∧i≤n∧Pv i acc H,⟨n,by simp,xz _,h0⟩,?_⟩
 rintro i m acc H ⟨rfl,hi,p⟩
 by_cases hlt:i < n
 · refine .inr ⟨hgo i acc H hlt p,fun x H' y=> ?_⟩
   refine ⟨ext1,?_⟩
   show (if true=true then te (some x::rest) H' (CompN n i D acc Pv) else∃m',m' < n - i∧(m'=n - (i+1)∧i+1≤n∧Pv (i+1) acc H'))
   exact iteT (hs i x acc H H' hlt p y)
 · have e:i=n:=by omega
   subst e
   exact .inl (hd acc H p)
theorem eD {K:PySem.W.Frag} {a D:Addr} {xs:List V} {te:TE} {rest:L2.St} {Q:VK} {H1:Hp} (Pv:Nat→List V→Hp→Prop) (h0:Pv 0 [] (upd H1 D (.lst [])))
 (hl:∀i acc H,Pv i acc H→SqT K H a xs)
 (hs:∀i x acc H,i < xs.length→xs[i]?=some x→Pv i acc H→te (some x::rest) H (CompN xs.length i D acc Pv))
 (hd:∀acc H,Pv xs.length acc H→Q (.ref D) H):kz (Itt K a) D te rest Q H1:=by
 refine jj xs.length Pv h0 (fun i acc H hi p=>⟨xs,xs[i],hl i acc H p,by simp [hi]⟩) (fun i x acc H H' hi p y=> ?_) fun acc H p=>⟨⟨xs,hl _ acc H p,x9 _⟩,hd acc H p⟩
 obtain ⟨e,y⟩:=y
 subst e
 exact hs i x acc _ hi (y xs (hl i acc _ p)) p
theorem o8 {K:PySem.W.Frag} {a D:Addr} {xs:List V} {te:TE} {rest:L2.St} {Q:VK} {H1:Hp} (Pv:Nat→List V→Hp→Prop) (h0:Pv 0 [] (upd H1 D (.lst [])))
 (hl:∀i acc H,Pv i acc H→SqL K H a xs)
 (hs:∀i x acc H,i < xs.length→xs[i]?=some x→Pv i acc H→te (some x::rest) H (CompN xs.length i D acc Pv))
 (hd:∀acc H,Pv xs.length acc H→Q (.ref D) H):kz (Itl K a) D te rest Q H1:=by
 refine jj xs.length Pv h0 (fun i acc H hi p=>⟨xs,xs[i],hl i acc H p,by simp [hi]⟩) (fun i x acc H H' hi p y=> ?_) fun acc H p=>⟨⟨xs,hl _ acc H p,x9 _⟩,hd acc H p⟩
 obtain ⟨e,y⟩:=y
 subst e
 exact hs i x acc _ hi (y xs (hl i acc _ p)) p
theorem cm {n:Nat} {D:Addr} {te:TE} {rest:L2.St} {Q:VK} {H1:Hp} (Pv:Nat→List V→Hp→Prop) (h0:Pv 0 [] (upd H1 D (.lst [])))
 (hs:∀(i:Nat) acc H,i < n→Pv i acc H→te (some (.int (0+(i:Int)))::rest) H (CompN n i D acc Pv))
 (hd:∀acc H,Pv n acc H→Q (.ref D) H):kz (Itr 0 n) D te rest Q H1:=by
 refine jj n Pv h0 (fun i acc H hi p=>hi) (fun i x acc H H' hi p y=> ?_) fun acc H p=>⟨x9 _,hd acc H p⟩
 obtain ⟨e,y⟩:=y
 subst e y
 exact hs i acc _ hi p
end L2
namespace Tk
open PySem PySem.Spec PyProof.Rows L2
inductive KT where
 |lf (k:Key)
 |tp (ts:List KT)
noncomputable instance:DecidableEq KT:=Classical.typeDecidableEq KT
mutual
noncomputable def KT.depth:KT→Nat
 | .lf _=>0
 | .tp ts=>KTs.depth ts+1
noncomputable def KTs.depth:List KT→Nat
 | []=>0
 |t::ts=>max (KT.depth t) (KTs.depth ts)
end
theorem dz:∀ {ts:List KT} {t:KT},t∈ts→t.depth≤KTs.depth ts
 |a::ts,t,h=>by
  unfold KTs.depth
  rcases xi.mp h with rfl|h
  · omega
  · have:=dz h
    omega
mutual
def KAt (h:Heap):Value→KT→Prop
 |v, .lf k=>dl k v=true
 |v, .tp ts=>∃a o items n,v= .ref a∧h.get? a=some o∧o.cls= .type "tuple"∧o.data= .seq items n∧KsAt h items.toList ts
def KsAt (h:Heap):List Value→List KT→Prop
 |vs,[]=>vs= []
 |vs,t::ts=>∃v r,vs=v::r∧KAt h v t∧KsAt h r ts
end
mutual
theorem KAt.keep {h h':Heap} (k:∀a o items n,h.get? a=some o→o.data= .seq items n→h'.get? a=some o):∀ {v:Value} {t:KT},KAt h v t→KAt h' v t
 |v, .lf k,x=>by unfold KAt at x ⊢;exact x
 |v, .tp ts,x=>by
  unfold KAt at x ⊢
  obtain ⟨a,o,items,n,e,g,c,d,r⟩:=x
  exact ⟨a,o,items,n,e,k a o items n g d,c,d,KsAt.keep k r⟩
theorem KsAt.keep {h h':Heap} (k:∀a o items n,h.get? a=some o→o.data= .seq items n→h'.get? a=some o):∀ {vs:List Value} {ts:List KT},KsAt h vs ts→KsAt h' vs ts
 |vs,[],x=>by unfold KsAt at x ⊢;exact x
 |vs,t::ts,x=>by
  unfold KsAt at x ⊢
  obtain ⟨v,r,e,x1,x2⟩:=x
  exact ⟨v,r,e,KAt.keep k x1,KsAt.keep k x2⟩
end
mutual
theorem KAt.det {h:Heap}:∀ {v:Value} {t u:KT},KAt h v t→KAt h v u→t=u
 |v, .lf k, .lf j,x,y=>by
  unfold KAt at x y
  rcases aF x with ⟨i,t,rfl,rfl⟩|⟨x',t,rfl,rfl⟩
  · rcases aF y with ⟨i',t',rfl,e⟩|⟨y',t',rfl,e⟩
    · injection e with e1 _
      rw [e1]
    · cases e
  · rcases aF y with ⟨i',t',rfl,e⟩|⟨y',t',rfl,e⟩
    · cases e
    · injection e with e1 _
      rw [e1]
 |v, .lf k, .tp us,x,y=>by
  unfold KAt at x y
  obtain ⟨a,o,items,n,rfl,_⟩:=y
  rcases aF x with ⟨i,t,rfl,e⟩|⟨x',t,rfl,e⟩<;>cases e
 |v, .tp ts, .lf k,x,y=>by
  unfold KAt at x y
  obtain ⟨a,o,items,n,rfl,_⟩:=x
  rcases aF y with ⟨i,t,rfl,e⟩|⟨x',t,rfl,e⟩<;>cases e
 |v, .tp ts, .tp us,x,y=>by
  unfold KAt at x y
  obtain ⟨a,o,items,n,rfl,g,c,d,r⟩:=x
  obtain ⟨a',o',items',n',e,g',c',d',r'⟩:=y
  injection e with e
  subst e
  rw [g] at g'
  cases g'
  rw [d] at d'
  injection d' with d1 _
  subst d1
  rw [KsAt.det r r']
theorem KsAt.det {h:Heap}:∀ {vs:List Value} {ts us:List KT},KsAt h vs ts→KsAt h vs us→ts=us
 |vs,[],[],_,_=>rfl
 |vs,[],u::us,x,y=>by
  unfold KsAt at x y
  obtain ⟨v,r,e,_⟩:=y
  rw [x] at e
  cases e
 |vs,t::ts,[],x,y=>by
  unfold KsAt at x y
  obtain ⟨v,r,e,_⟩:=x
  rw [y] at e
  cases e
 |vs,t::ts,u::us,x,y=>by
  unfold KsAt at x y
  obtain ⟨v,r,rfl,x1,x2⟩:=x
  obtain ⟨v',r',e,y1,y2⟩:=y
  cases e
  rw [KAt.det x1 y1,KsAt.det x2 y2]
end
theorem KsAt.len {h:Heap}:∀ {vs:List Value} {ts:List KT},KsAt h vs ts→vs.length=ts.length
 |vs,[],x=>by unfold KsAt at x;rw [x];rfl
 |vs,t::ts,x=>by
  unfold KsAt at x
  obtain ⟨v,r,rfl,_,x2⟩:=x
  rw [xh,xh,KsAt.len x2]
theorem KsAt.get {h:Heap}:∀ {vs:List Value} {ts:List KT} {j:Nat} {v:Value},KsAt h vs ts→vs[j]?=some v→∃t,ts[j]?=some t∧KAt h v t
 |vs,[],j,v,x,e=>by
  unfold KsAt at x
  rw [x] at e
  cases e
 |vs,t::ts,0,v,x,e=>by
  unfold KsAt at x
  obtain ⟨v',r,rfl,x1,_⟩:=x
  cases e
  exact ⟨t,rfl,x1⟩
 |vs,t::ts,j+1,v,x,e=>by
  unfold KsAt at x
  obtain ⟨v',r,rfl,_,x2⟩:=x
  exact KsAt.get (j:=j) x2 e
section
variable (prog:Program) (w:World)
mutual
noncomputable def KT.hash:KT→Int
 | .lf k=>(aR prog w).hash k
 | .tp ts=>reduceHash (Builtin.Tuple.tupleHashOf (KTs.hash ts))
noncomputable def KTs.hash:List KT→List Int
 | []=> []
 |t::ts=>KT.hash t::KTs.hash ts
end
end
mutual
noncomputable def KT.draws:KT→Nat
 | .lf _=>1
 | .tp ts=>KTs.draws ts+1
noncomputable def KTs.draws:List KT→Nat
 | []=>0
 |t::ts=>KT.draws t+KTs.draws ts
end
theorem jW (prog:Program) (w:World):∀(a b:List KT),KTs.hash prog w (a++b)=KTs.hash prog w a++KTs.hash prog w b
 | [],b=>by simp [KTs.hash]
 |t::a,b=>by simp [KTs.hash,jW prog w a b]
theorem iA:∀(a b:List KT),KTs.draws (a++b)=KTs.draws a+KTs.draws b
 | [],b=>by simp [KTs.draws]
 |t::a,b=>by simp [KTs.draws,iA a b,Nat.add_assoc]
section
variable {prog:Program} {w:World}
theorem n6:∀(n:Nat) {A:Around} {E:Value→Shared→Prop} {s:Shared} {t:KT} {v:Value} {Q:Int→Shared→Prop},t.depth≤n→A.units+n < cLine→KAt s.heap v t→Q (t.hash prog w) {s with toks:=s.toks+t.draws}→wpAny (model prog w) A (pyHash v) Q E s:=by
 intro n
 induction n with
 |zero=>
  intro A E s t v Q hd hu hk h
  cases t with
  |tp ts=>simp [KT.depth] at hd
  |lf k=>
   unfold KAt at hk
   simp only [KT.hash,KT.draws] at h
   exact (aR prog w).pyHash hk h
 |succ n ih=>
  intro A E s t v Q hd hu hk h
  cases t with
  |lf k=>
   unfold KAt at hk
   simp only [KT.hash,KT.draws] at h
   exact (aR prog w).pyHash hk h
  |tp ts=>
   unfold KAt at hk
   obtain ⟨a,o,items,m,rfl,g,c,d,r⟩:=hk
   have ty:s.TypeIs (.ref a) "tuple":=⟨o,g,c⟩
   have hd':KTs.depth ts≤n:=by
    unfold KT.depth at hd
    omega
   simp only [KT.hash,KT.draws] at h
   unfold pyHash
   unfold pyHashByItsType
   refine wpAny_bind (wpAny_cRoomFor_or (.inr (by omega)) (wpAny_bind (wpAny_specialOf ty F.slot_tuple_hash.lookup ?_)))
   show wpAny _ _ (if (some (Value.builtin "tuple.__hash__")==some Value.none)=true then _ else _) _ _ _
   rw [if_neg (fun z=>by rw [beq_builtin_none] at z;cases z)]
   refine wpAny_bind (wpAny_specialOf ty F.slot_tuple_hash.lookup ?_)
   show wpAny _ _ (do let y←callSpecialIfBoundUnlessNone? (.ref a) "__hash__" _;_) _ _ _
   refine wpAny_bind (wpAny_callSpecialIfBoundUnlessNone?_slot ty F.slot_tuple_hash (wpAny_call_entry F.slot_tuple_hash ty F.entry_tuple_hash ?_ (F.args_tuple_hash_1 _)))
   show wpAny _ _ (do let y←Builtin.Tuple.tupleItemsOf (.ref a);_) _ _ _
   refine wpAny_bind (wpAny_tupleItemsOf g d (wpAny_bind ?_))
   rw [←Array.forIn_toList]
   refine wpAny_forIn_list _ (fun rest (b:Array Int) s'=>∃done left,ts=done++left∧KsAt s.heap rest left∧b.toList=KTs.hash prog w done∧s'= {s with toks:=s.toks+KTs.draws done}) _ ?_ ?_ _ _ ⟨[],ts,rfl,r,rfl,by simp [KTs.draws]⟩
   · rintro x rest b s' ⟨done,left,rfl,hl,hb,rfl⟩
     cases left with
     |nil=>
      unfold KsAt at hl
      cases hl
     |cons t left=>
      unfold KsAt at hl
      obtain ⟨v,rr,e,h1,h2⟩:=hl
      cases e
      have dt:t.depth≤n:=by
       have:=dz (show t∈done++t::left by simp)
       omega
      refine wpAny_bind (ih (s:= {s with toks:=s.toks+KTs.draws done}) dt (by first|(show A.units+1+n < cLine;omega)|(show A.units+n < cLine;omega)) h1 ?_)
      have fin:∃done' left',done++t::left=done'++left'∧KsAt s.heap rest left'∧(b.push (KT.hash prog w t)).toList=KTs.hash prog w done'∧({s with toks:=s.toks+KTs.draws done+t.draws}:Shared)= {s with toks:=s.toks+KTs.draws done'}:=by
       refine ⟨done++ [t],left,by simp,h2,by rw [jW,Array.toList_push,hb];simp [KTs.hash],?_⟩
       rw [iA]
       simp [KTs.draws,Nat.add_assoc]
      first
       |exact wpAny_pure fin
       |exact wpAny_bind (wpAny_pure (wpAny_pure fin))
   · rintro b s' ⟨done,left,rfl,hl,hb,rfl⟩
     cases left with
     |cons t left=>
      unfold KsAt at hl
      obtain ⟨v,rr,e,_⟩:=hl
      cases e
     |nil=>
      rw [yg] at h
      show wpAny _ _ (retInt (Builtin.Tuple.tupleHashOf b.toList)) _ _ _
      rw [hb]
      refine wpAny_ret_mkInt ?_
      show wpAny _ _ (if (decide (-(2:Int)^63≤Builtin.Tuple.tupleHashOf (KTs.hash prog w done))&&decide (Builtin.Tuple.tupleHashOf (KTs.hash prog w done) < 2^63))=true then _ else _) _ _ _
      unfold reduceHash at h
      by_cases hr:(decide (-(2:Int)^63≤Builtin.Tuple.tupleHashOf (KTs.hash prog w done))&&decide (Builtin.Tuple.tupleHashOf (KTs.hash prog w done) < 2^63))=true
      · rw [if_pos hr] at h ⊢
        exact wpAny_pure (by simpa [Nat.add_assoc] using h)
      · rw [if_neg hr] at h ⊢
        exact wpAny_bind (wpAny_rule (wpAny_pure (by simpa [Nat.add_assoc] using h)))
end
open PySem PySem.Spec PyProof.Rows L2
theorem tK {ts us:List KT}:((List.range (min ts.length us.length)).all (fun j=>decide (ts[j]?=us[j]?))&&ts.length==us.length)=decide (ts=us):=by
 by_cases h:ts=us
 · subst h
   simp
 · rw [decide_eq_false h]
   by_cases hl:ts.length=us.length
   · have:∃j,j < ts.length∧ts[j]?≠us[j]?:=by
      refine Classical.byContradiction fun n=>h (yx fun j=> ?_)
      by_cases hj:j < ts.length
      · exact Classical.byContradiction fun z=>n ⟨j,hj,z⟩
      · rw [xK (by omega),xK (by omega)]
     obtain ⟨j,hj,ne⟩:=this
     rw [Bool.and_eq_false_iff]
     left
     refine List.all_eq_false.mpr ⟨j,xN.mpr (by omega),?_⟩
     simp [ne]
   · rw [Bool.and_eq_false_iff]
     right
     simp [hl]
theorem qQ:∀(n:Nat) {A:Around} {s:Shared} {t u:KT} {a b:Value},t.depth≤n→A.units+n+1 < cLine→KAt s.heap a t→KAt s.heap b u→SeqAt.EqAt A s a b (decide (t=u)):=by
 intro n
 induction n with
 |zero=>
  intro A s t u a b hd hu h1 h2
  cases t with
  |tp ts=>simp [KT.depth] at hd
  |lf k=>
   unfold KAt at h1
   cases u with
   |lf j=>
    unfold KAt at h2
    intro prog w E Q q
    refine (aR prog w).eqBool h1 h2 ?_
    have e:decide (k=j)=decide (KT.lf k=KT.lf j):=by simp
    rw [e]
    exact q
   |tp us=>
    unfold KAt at h2
    obtain ⟨r,o,items,m,rfl,g,c,d,_⟩:=h2
    rw [decide_eq_false (by intro z;cases z)]
    rcases aF h1 with ⟨i,t,rfl,rfl⟩|⟨x,t,rfl,rfl⟩
    · exact SeqAt.EqAt.int_tuple i t (items:=items) ⟨o,g,c,m,d⟩ (by omega)
    · exact SeqAt.EqAt.str_tuple x t (items:=items) ⟨o,g,c,m,d⟩ (by omega)
 |succ n ih=>
  intro A s t u a b hd hu h1 h2
  cases t with
  |lf k=>
   unfold KAt at h1
   cases u with
   |lf j=>
    unfold KAt at h2
    intro prog w E Q q
    refine (aR prog w).eqBool h1 h2 ?_
    have e:decide (k=j)=decide (KT.lf k=KT.lf j):=by simp
    rw [e]
    exact q
   |tp us=>
    unfold KAt at h2
    obtain ⟨r,o,items,m,rfl,g,c,d,_⟩:=h2
    rw [decide_eq_false (by intro z;cases z)]
    rcases aF h1 with ⟨i,t,rfl,rfl⟩|⟨x,t,rfl,rfl⟩
    · exact SeqAt.EqAt.int_tuple i t (items:=items) ⟨o,g,c,m,d⟩ (by omega)
    · exact SeqAt.EqAt.str_tuple x t (items:=items) ⟨o,g,c,m,d⟩ (by omega)
  |tp ts=>
   have h1':=h1
   have h2':=h2
   unfold KAt at h1
   obtain ⟨r,o,items,m,rfl,g,c,d,k1⟩:=h1
   cases u with
   |lf j=>
    unfold KAt at h2
    rw [decide_eq_false (by intro z;cases z)]
    rcases aF h2 with ⟨i,t,rfl,rfl⟩|⟨x,t,rfl,rfl⟩
    · exact SeqAt.EqAt.tuple_int i t (items:=items) ⟨o,g,c,m,d⟩ (by omega)
    · exact SeqAt.EqAt.tuple_str x t (items:=items) ⟨o,g,c,m,d⟩ (by omega)
   |tp us=>
    unfold KAt at h2
    obtain ⟨r',o',items',m',rfl,g',c',d',k2⟩:=h2
    by_cases z:r=r'
    · subst z
      rw [decide_eq_true (KAt.det h1' h2')]
      exact SeqAt.EqAt.same _
    · have hd':KTs.depth ts≤n:=by
       unfold KT.depth at hd
       omega
      have l1:=k1.len
      have l2:=k2.len
      have:=SeqAt.RcAt.tuples (A:=A) (e:=fun j=>decide (ts[j]?=us[j]?)) (show s.heap.IsTuple r items from ⟨o,g,c,m,d⟩) (show s.heap.IsTuple r' items' from ⟨o',g',c',m',d'⟩) (by omega) fun j g1 g2=>by
       obtain ⟨t1,e1,a1⟩:=k1.get (j:=j) (v:=items[j]) (by rw [xk];simp [g1])
       obtain ⟨t2,e2,a2⟩:=k2.get (j:=j) (v:=items'[j]) (by rw [xk];simp [g2])
       have e:decide (ts[j]?=us[j]?)=decide (t1=t2):=by rw [e1,e2];simp
       rw [e]
       refine ih (A:=A.in1) ?_ (by show A.units+1+n+1 < cLine;omega) a1 a2
       have:=dz (xa e1)
       omega
      have hs1:items.size=ts.length:=by rw [←l1,xb]
      have hs2:items'.size=us.length:=by rw [←l2,xb]
      rw [hs1,hs2,tK] at this
      have e:decide (KT.tp ts=KT.tp us)=decide (ts=us):=by simp
      rw [e]
      exact SeqAt.EqAt.of_refs z this
theorem gk:∀(n:Nat) {prog:Program} {w:World} {A:Around} {E:Value→Shared→Prop} {s:Shared} {t:KT} {v:Value} {Q:Bool→Shared→Prop},KAt s.heap v t→t.depth≤n→Q true s→wpAny (model prog w) A (eqIsQuiet n v) Q E s:=by
 have leaf:∀(n:Nat) {prog:Program} {w:World} {A:Around} {E:Value→Shared→Prop} {s:Shared} {k:Key} {v:Value} {Q:Bool→Shared→Prop},dl k v=true→Q true s→wpAny (model prog w) A (eqIsQuiet n v) Q E s:=by
  intro n prog w A E s k v Q h q
  rw [eqIsQuiet_byValue _ ((aR prog w).byValue k v h)]
  exact wpAny_pure q
 intro n
 induction n with
 |zero=>
  intro prog w A E s t v Q h hd q
  cases t with
  |tp ts=>simp [KT.depth] at hd
  |lf k=>
   unfold KAt at h
   exact leaf 0 h q
 |succ n ih=>
  intro prog w A E s t v Q h hd q
  cases t with
  |lf k=>
   unfold KAt at h
   exact leaf _ h q
  |tp ts=>
   unfold KAt at h
   obtain ⟨a,o,items,m,rfl,g,c,d,r⟩:=h
   have ty:s.TypeIs (.ref a) "tuple":=⟨o,g,c⟩
   have hd':KTs.depth ts≤n:=by
    unfold KT.depth at hd
    omega
   unfold eqIsQuiet
   refine wpAny_bind (wpAny_specialOf ty F.slot_tuple_eq.lookup ?_)
   show wpAny _ _ (do let y←isInstance (.ref a) (.type "tuple");_) _ _ _
   refine wpAny_bind (wpAny_isInstance ty isSubtype_tuple_tuple ?_)
   simp only [Bool.not_true,if_false,xp]
   refine wpAny_bind (wpAny_seqItems g d (wpAny_bind ?_))
   show wpAny _ _ (forIn items _ _) _ _ _
   rw [←Array.forIn_toList]
   refine wpAny_forIn_list _ (fun rest b s'=>b.1=none∧s'=s∧∃left,KsAt s.heap rest left∧KTs.depth left≤n) _ ?_ ?_ _ _ ⟨rfl,rfl,ts,r,hd'⟩
   · rintro x rest b s' ⟨hb,rfl,left,hl,hd2⟩
     cases left with
     |nil=>
      unfold KsAt at hl
      cases hl
     |cons t left=>
      unfold KsAt at hl
      obtain ⟨v,rr,e,h1,h2⟩:=hl
      cases e
      unfold KTs.depth at hd2
      refine wpAny_bind (ih h1 (by omega) ?_)
      simp only [Bool.not_true,if_false,xp]
      exact wpAny_pure ⟨rfl,rfl,left,h2,by omega⟩
   · rintro ⟨b1,b2⟩ s' ⟨hb,rfl,_⟩
     simp only at hb
     subst hb
     exact wpAny_pure q
noncomputable def treeKind (prog:Program) (w:World):HeapKind prog w (List KT) where
 is:=fun h ts a=>KAt h (.ref a) (.tp ts)∧(KT.tp ts).depth≤8
 hash:=fun ts=>(KT.tp ts).hash prog w
 draws:=fun ts=>(KT.tp ts).draws
 room:=fun A=>A.units+20 < cLine
 inj:=fun x y=>by
  have:=KAt.det x.1 y.1
  injection this
 keeps:=fun {h h' k a d o es ep} x g hd sb=>⟨x.1.keep fun b ob items n e dt=>by
  have ne:b≠d:=fun z=>by
   subst z
   rw [g] at e
   cases e
   rw [hd] at dt
   cases dt
  exact (sb.2 b ne).trans e,x.2⟩
 pyHash:=fun hu x q=>n6 8 x.2 (by omega) x.1 q
 eqBool:=fun {A E s x y a b Q} hu hx hy q=>by
  refine qQ 8 (t:= .tp x) (u:= .tp y) hx.2 (by omega) hx.1 hy.1 prog w E Q ?_
  have e:decide (KT.tp x=KT.tp y)=decide (x=y):=by simp
  rw [e]
  exact q
 quiet:=fun x q=>gk 8 x.1 x.2 q
end Tk
namespace Dj
open PySem PySem.Spec PyProof.Rows L2 Tre
def SqX (K:PySem.W.Frag) (H:Hp) (a:Addr) (xs:List V):Prop:=
 H a=some (.tup xs)∨∃(o:Obj) (its:Array Value) (n:Nat),K.lookup a=some o∧o.cls= .type "tuple"∧o.data= .seq its n∧its.size≤sizeLine∧Vals xs its.toList
theorem SqX.mono {K:PySem.W.Frag} {H H':Hp} {a:Addr} {xs:List V} (d:Kd H H') (h:SqX K H a xs):SqX K H' a xs:=h.elim (fun e=> .inl (d.tup _ _ e)) .inr
mutual
def KVt (K:PySem.W.Frag) (H:Hp):V→Tk.KT→Prop
 |v, .lf (.inl i)=>v= .int i
 |v, .lf (.inr x)=>v= .str x
 |v, .tp ts=>∃r vs,v= .ref r∧SqX K H r vs∧KVts K H vs ts
def KVts (K:PySem.W.Frag) (H:Hp):List V→List Tk.KT→Prop
 |vs,[]=>vs= []
 |vs,t::ts=>∃v r,vs=v::r∧KVt K H v t∧KVts K H r ts
end
section
variable {P:Program} {w:World} {K:PySem.W.Frag} {H H':Hp} {h:Heap}
mutual
theorem KVt.mono (d:Kd H H'):∀ {v:V} {t:Tk.KT},KVt K H v t→KVt K H' v t
 |v, .lf (.inl i),a=>by unfold KVt at a ⊢;exact a
 |v, .lf (.inr x),a=>by unfold KVt at a ⊢;exact a
 |v, .tp ts,a=>by
  unfold KVt at a ⊢
  obtain ⟨r,vs,e,s,q⟩:=a
  exact ⟨r,vs,e,s.mono d,KVts.mono d q⟩
theorem KVts.mono (d:Kd H H'):∀ {vs:List V} {ts:List Tk.KT},KVts K H vs ts→KVts K H' vs ts
 |vs,[],a=>by unfold KVts at a ⊢;exact a
 |vs,t::ts,a=>by
  unfold KVts at a ⊢
  obtain ⟨v,r,e,a1,a2⟩:=a
  exact ⟨v,r,e,KVt.mono d a1,KVts.mono d a2⟩
end
theorem uA (ok:HOk P w H h) (kin:K.In h) {q:Addr} {vs:List V} (e:SqX K H q vs):∃its:List Value,Vals vs its∧∃o n,h.get? q=some o∧o.cls= .type "tuple"∧o.data= .seq its.toArray n:=by
 rcases e with e|⟨o,its,n,hk,hc,hs,hz,r⟩
 · obtain ⟨_,its,rv,o,h1,h2,n,h3⟩:=(show ObjOk P w H h q (.tup vs) from ok q _ e)
   exact ⟨its,rv,o,n,h1,h2,h3⟩
 · exact ⟨its.toList,r,o,n,kin q o hk,hc,by simpa using hs⟩
mutual
theorem qH (ok:HOk P w H h) (kin:K.In h):∀ {v:V} {t:Tk.KT} {u:Value},KVt K H v t→RelV v u→Tk.KAt h u t
 |v, .lf (.inl i),u,a,r=>by
  unfold KVt at a
  subst a
  obtain ⟨t,rfl⟩:=r
  simp only [Tk.KAt]
  exact iw i t
 |v, .lf (.inr x),u,a,r=>by
  unfold KVt at a
  subst a
  obtain ⟨t,rfl⟩:=r
  simp only [Tk.KAt]
  exact iu x t
 |v, .tp ts,u,a,r=>by
  unfold KVt at a
  obtain ⟨q,vs,rfl,e,as⟩:=a
  obtain rfl:u=Value.ref q:=r
  obtain ⟨its,rv,o,n,h1,h2,h3⟩:=uA ok kin e
  simp only [Tk.KAt]
  exact ⟨q,o,its.toArray,n,rfl,h1,h2,h3,by simpa using kats_of ok kin as rv⟩
theorem kats_of (ok:HOk P w H h) (kin:K.In h):∀ {vs:List V} {ts:List Tk.KT} {us:List Value},KVts K H vs ts→Vals vs us→Tk.KsAt h us ts
 |vs,[],us,a,r=>by
  unfold KVts at a
  subst a
  cases r
  simp [Tk.KsAt]
 |vs,t::ts,us,a,r=>by
  unfold KVts at a
  obtain ⟨v,q,rfl,a1,a2⟩:=a
  cases r with
  |cons r1 r2=>
   simp only [Tk.KsAt]
   exact ⟨_,_,rfl,qH ok kin a1 r1,kats_of ok kin a2 r2⟩
end
end
def KeyAt (K:PySem.W.Frag) (H:Hp) (k:List Tk.KT) (b:Addr):Prop:=∃vs,SqX K H b vs∧KVts K H vs k∧(Tk.KT.tp k).depth≤8
theorem KeyAt.mono {K:PySem.W.Frag} {H H':Hp} {k:List Tk.KT} {b:Addr} (d:Kd H H') (h:KeyAt K H k b):KeyAt K H' k b:=by
 obtain ⟨ts,h1,h2,h3⟩:=h
 exact ⟨ts,h1.mono d,h2.mono d,h3⟩
theorem KeyAt.is {P:Program} {w:World} {K:PySem.W.Frag} {H:Hp} {h:Heap} {k:List Tk.KT} {b:Addr} (ok:HOk P w H h) (kin:K.In h) (x:KeyAt K H k b):(Tk.treeKind P w).is h k b:=by
 obtain ⟨vs,h1,h2,h4⟩:=x
 have:=qH ok kin (v:= .ref b) (t:= .tp k) (u:= .ref b) (by unfold KVt;exact ⟨b,vs,rfl,h1,h2⟩) rfl
 exact ⟨this,h4⟩
abbrev Ent:=List Tk.KT×Addr×V
abbrev RE:List Ent→List (List Tk.KT×Addr×Value)→Prop:=Paired fun p q=>p.1=q.1∧p.2.1=q.2.1∧RelV p.2.2 q.2.2
noncomputable def dJ (P:Program) (w:World) (a:Addr) (kvs:List Ent):HO:= .ext fun h=>kvs.length≤sizeLine∧(a==sysModules)=false∧
 ∃xs:List (List Tk.KT×Addr×Value),RE kvs xs∧∃o es ep,h.get? a=some o∧o.ExactDict∧o.data= .dict es ep∧es.toList=xs.map (entryOfKey (Tk.treeKind P w))∧(xs.map (·.1)).Nodup
structure DJ (P:Program) (w:World) (K:PySem.W.Frag) (H:Hp) (a:Addr) (kvs:List Ent):Prop where
 at_:H a=some (dJ P w a kvs)
 keys:∀p∈kvs,KeyAt K H p.1 p.2.1
noncomputable def valJ (kvs:List Ent) (k:List Tk.KT):Option V:=(kvs.find? fun p=>decide (p.1=k)).map (·.2.2)
noncomputable def putJ (kvs:List Ent) (k:List Tk.KT) (b:Addr) (v:V):List Ent:=
 if (valJ kvs k).isSome then kvs.map (fun p=>if p.1=k then (p.1,p.2.1,v) else p) else kvs++ [(k,b,v)]
theorem jt {p:Ent} {r:List Ent} {k:List Tk.KT} (e:p.1=k):valJ (p::r) k=some p.2.2:=by simp [valJ,yb,e]
theorem g7 {p:Ent} {r:List Ent} {k:List Tk.KT} (e:¬p.1=k):valJ (p::r) k=valJ r k:=by simp [valJ,yb,e]
theorem jP (kvs:List Ent) (k:List Tk.KT) (b:Addr) (v:V):(putJ kvs k b v).length≤kvs.length+1:=by
 unfold putJ
 split
 · rw [wZ];omega
 · rw [x3,xh,xP];omega
theorem RE.val {kvs:List Ent} {xs:List (List Tk.KT×Addr×Value)} (r:RE kvs xs) (k:List Tk.KT):RelO (valJ kvs k) ((atKey xs k).map (·.2)):=by
 induction r with
 |nil=>exact True.intro
 | @cons p q ps qs h t ih=>
  obtain ⟨h1,_,h2⟩:=h
  by_cases e:p.1=k
  · have e':q.1=k:=h1.symm.trans e
    have b:atKey (q::qs) k=some q.2:=by simp [atKey,yb,e']
    rw [jt e,b];exact h2
  · have e':¬q.1=k:=fun z=>e (h1.trans z)
    have b:atKey (q::qs) k=atKey qs k:=by simp [atKey,yb,e']
    rw [g7 e,b];exact ih
theorem RE.repl {kvs:List Ent} {xs:List (List Tk.KT×Addr×Value)} (r:RE kvs xs) (k:List Tk.KT) {y:V} {u:Value} (ry:RelV y u):
 RE (kvs.map fun p=>if p.1=k then (p.1,p.2.1,y) else p) (xs.map (putAt k u)):=by
 induction r with
 |nil=>exact .nil
 | @cons p q ps qs h t ih=>
  rw [xg,xg]
  refine .cons ?_ ih
  obtain ⟨h1,h2,h3⟩:=h
  unfold putAt
  by_cases e:p.1=k
  · rw [if_pos e,if_pos (h1.symm.trans e)];exact ⟨h1,h2,ry⟩
  · rw [if_neg e,if_neg (fun z=>e (h1.trans z))];exact ⟨h1,h2,h3⟩
theorem RE.put {kvs:List Ent} {xs:List (List Tk.KT×Addr×Value)} (r:RE kvs xs) (k:List Tk.KT) {b:Addr} {y:V} {u:Value} (ry:RelV y u):RE (putJ kvs k b y) (storedH xs k b u):=by
 have e:(valJ kvs k).isSome=(atKey xs k).isSome:=by
  rw [(r.val k).isSome_eq,Option.isSome_map]
 unfold putJ storedH
 rw [e]
 by_cases q:(atKey xs k).isSome=true
 · rw [if_pos q,if_pos q];exact r.repl k ry
 · rw [if_neg q,if_neg q];exact Paired.snoc r ⟨rfl,rfl,ry⟩
theorem pI {kvs:List Ent} {k:List Tk.KT} {b:Addr} {v:V} {p:Ent} (h:p∈putJ kvs k b v):(∃q∈kvs,p.1=q.1∧p.2.1=q.2.1)∨(p.1=k∧p.2.1=b):=by
 unfold putJ at h
 split at h
 · obtain ⟨q,m,e⟩:=xy.mp h
   split at e
   · subst e;exact .inl ⟨q,m,rfl,rfl⟩
   · subst e;exact .inl ⟨q,m,rfl,rfl⟩
 · rcases xj.mp h with m|m
   · exact .inl ⟨p,m,rfl,rfl⟩
   · rw [x8.mp m];exact .inr ⟨rfl,rfl⟩
theorem Kd.updJ {P:Program} {w:World} {H:Hp} {a:Addr} {kvs:List Ent} {o:HO} (h:H a=some (dJ P w a kvs)):Kd H (upd H a o):=by
 refine ⟨fun b zs e=> ?_,fun b zs e=>⟨zs,?_⟩⟩
 · rw [aG (fun z=>by rw [z,h] at e;cases e)];exact e
 · rw [aG (fun z=>by rw [z,h] at e;cases e)];exact e
theorem Kd.updK {H:Hp} {a:Addr} {kvs:List (Key×V)} {o:HO} (h:H a=some (.dK kvs)):Kd H (upd H a o):=by
 refine ⟨fun b zs e=> ?_,fun b zs e=>⟨zs,?_⟩⟩
 · rw [aG (fun z=>by rw [z,h] at e;cases e)];exact e
 · rw [aG (fun z=>by rw [z,h] at e;cases e)];exact e
theorem DJ.put {P:Program} {w:World} {K:PySem.W.Frag} {H:Hp} {a b:Addr} {kvs:List Ent} {k:List Tk.KT} {v:V} (d:DJ P w K H a kvs) (hk:KeyAt K H k b):DJ P w K (upd H a (dJ P w a (putJ kvs k b v))) a (putJ kvs k b v):=by
 refine ⟨ac,fun p m=> ?_⟩
 refine KeyAt.mono (Kd.updJ d.at_) ?_
 rcases pI m with ⟨q,mq,e1,e2⟩|⟨e1,e2⟩
 · rw [e1,e2];exact d.keys q mq
 · rw [e1,e2];exact hk
theorem DJ.kd {P:Program} {w:World} {K:PySem.W.Frag} {H H':Hp} {a:Addr} {kvs:List Ent} (d:DJ P w K H a kvs) (k:Kd H H') (e:H' a=some (dJ P w a kvs)):DJ P w K H' a kvs:=⟨e,fun p m=>(d.keys p m).mono k⟩
section
variable {P:Program} {w:World} {H:Hp} {h:Heap} {a:Addr}
theorem k9 {K:PySem.W.Frag} {kvs:List Ent} (ok:HOk P w H h) (kin:K.In h) (d:DJ P w K H a kvs):kvs.length≤sizeLine∧(a==sysModules)=false∧∃xs,RE kvs xs∧h.DictOfH (Tk.treeKind P w) a xs:=by
 obtain ⟨⟨z,y,xs,r,o,es,ep,h1,h2,h3,h4,h5⟩,_⟩:=(show ObjOk P w H h a (dJ P w a kvs) from ok a _ d.at_)
 refine ⟨z,y,xs,r,o,es,ep,h1,h2,h3,h4,?_,h5⟩
 have all:∀ {l:List Ent} {m:List (List Tk.KT×Addr×Value)},RE l m→(∀p∈l,KeyAt K H p.1 p.2.1)→∀x∈m,(Tk.treeKind P w).is h x.1 x.2.1:=by
  intro l m q
  induction q with
  |nil=>intro _ x hx;exact nomatch hx
  | @cons p q ps qs hq t ih=>
   intro kp x hx
   rcases xi.mp hx with e|hx
   · subst e
     rw [←hq.1,←hq.2.1]
     exact (kp p x5).is ok kin
   · exact ih (fun p m=>kp p (x6 _ m)) x hx
 exact all r d.keys
theorem re {kvs:List Ent} {xs:List (List Tk.KT×Addr×Value)} {H':Hp} {h':Heap} (z:kvs.length≤sizeLine) (y:(a==sysModules)=false) (r:RE kvs xs)
 (d:∃o es ep,h'.get? a=some o∧o.ExactDict∧o.data= .dict es ep∧es.toList=xs.map (entryOfKey (Tk.treeKind P w))∧(xs.map (·.1)).Nodup):ObjOk P w H' h' a (dJ P w a kvs):=by
 obtain ⟨o,es,ep,h1,h2⟩:=d
 refine ⟨⟨z,y,xs,r,o,es,ep,h1,h2⟩,⟨o,h1⟩,?_⟩
 rintro g1 g2 ⟨z,y,xs,r,o,es,ep,h1,h2⟩ st
 exact ⟨z,y,xs,r,o,es,ep,st _ h1,h2⟩
end
noncomputable def oM (P:Program) (w:World):TE:=fun _ H Q=>∀p,H p=none→Q (.ref p) (upd H p (dJ P w p []))
noncomputable def pw (P:Program) (w:World) (K:PySem.W.Frag) (td ty tv:TE):TS:=fun D σ H=>tv σ H fun v H1=>td σ H1 fun x H2=>ty σ H2 fun y H3=>∃a b k kvs,x= .ref a∧y= .ref b∧DJ P w K H3 a kvs∧KeyAt K H3 k b∧kvs.length < sizeLine∧D.nx σ (upd H3 a (dJ P w a (putJ kvs k b v)))
noncomputable def oN (P:Program) (w:World) (K:PySem.W.Frag) (td ty tx:TE):TE:=fun σ H Q=>td σ H fun x H1=>∃a kvs,x= .ref a∧DJ P w K H1 a kvs∧ty σ H1 fun y H2=>tx σ H2 fun z H3=>∃b k,y= .ref b∧DJ P w K H3 a kvs∧KeyAt K H3 k b∧Q ((valJ kvs k).getD z) H3
section
variable {X:Cx} {pos pos' apos cpos:Pos} {o i e f value:Expr} {td ty tv tx:TE}
theorem rg {P:Program} {w:World} {H:Hp} (h:Heap) (hb:sysModules < h.objs.size):ObjOk P w H (h.push {cls:= .type "dict",data:= .dict #[]}) h.objs.size (dJ P w h.objs.size []):=
 re (xz _) (beq_eq_false_iff_ne.mpr (Ne.symm (xu hb))) .nil ⟨_, #[],0,Heap.get?_push_size _ rfl,⟨rfl,rfl,rfl⟩,rfl,rfl,List.nodup_nil⟩
theorem pQ:PE X (.Dict [] [] pos) (oM X.prog X.w):=fun pins s σ H Q I h=>
 wpAny_Dict_empty ⟨.ref s.heap.objs.size,_,I.laid (a:=s.heap.objs.size) (o:=dJ X.prog X.w s.heap.objs.size []) (t':=s.toks) (fun _ _ q=>Heap.get?_push_of_some _ q) (x9 _) (rg s.heap I.big),rfl,h _ (I.hok.fresh (x9 _))⟩
theorem pK (hu:X.A.units+30 < cLine) (ho:PE X o td) (hi:PE X i ty) (hv:PE X value tv) (hs:swapsWith value (some (.Subscript o i pos')) pos.line X.env=pure false):
 PS X (.Assign [.Subscript o i pos'] value pos) (pw X.prog X.w X.K td ty tv):=by
 intro pins s σ H D I h
 refine wpAny_Assign_Subscript (thn (hv pins s σ H _ I h) fun r s1 ⟨v,H1,I1,rv,q1⟩=>thn (ho pins s1 σ H1 _ I1 q1) fun u s2 ⟨x,H2,I2,rx,q2⟩=>thn (hi pins s2 σ H2 _ I2 q2) fun iv s3 ⟨y,H3,I3,ry,a,b,k,kvs,ex,ey,d,kb,hl,q3⟩=> ?_) hs
 subst ex ey
 obtain rfl:u=Value.ref a:=rx
 obtain rfl:iv=Value.ref b:=ry
 obtain ⟨z,hd,xs,rel,dd⟩:=k9 I3.hok I3.kIn d
 have hz:xs.length≤sizeLine:=by rw [←Paired.length rel];exact z
 have hl2:(putJ kvs k b v).length≤sizeLine:=by have:=jP kvs k b v;omega
 refine wpAny_setItem_heap (hsz:=hz) (by show X.A.units+1+20 < cLine;omega) (kb.is I3.hok I3.kIn) dd fun h' dd' hs=>⟨σ,_,?_,q3⟩
 obtain ⟨q,es,ep,hq,h2,h3,h4,_,h5⟩:=dd'
 exact fQ I3 (by rw [d.at_];exact True.intro) hs ⟨q,hq⟩ (re hl2 hd (rel.put k rv) ⟨q,es,ep,hq,h2,h3,h4,h5⟩)
theorem pR (hu:X.A.units+30 < cLine) (ho:PE X o td) (he:PE X e ty) (hf:PE X f tx) (m:M2 X o "get" apos e f cpos):PE X (.Call (.Attribute o "get" apos) [e,f] [] cpos) (oN X.prog X.w X.K td ty tx):=by
 intro pins s σ H Q I h
 refine wpAny_Call_method m.base m.few m.line PySem.F.plainAttrs_dict PySem.F.slot_dict_get PySem.F.type_dict_get (thn (ho pins s σ H _ I h) fun u s1 ⟨x,H1,I1,rx,a,kvs,ex,d,q1⟩=> ?_)
 subst ex
 obtain rfl:u=Value.ref a:=rx
 have ty0:s1.TypeIs (.ref a) "dict"∧∀b,Value.ref a= .ref b→∃ob,s1.heap.get? b=some ob∧ob.dict=none:=by
  obtain ⟨_,_,xs,_,dd⟩:=k9 I1.hok I1.kIn d
  refine ⟨dd.typeIs,fun b q=> ?_⟩
  cases q
  obtain ⟨ob,_,_,h1,h2,_⟩:=dd
  exact ⟨ob,h1,h2.2.1⟩
 refine ⟨ty0.1,ty0.2,?_⟩
 rw [m.trees]
 refine Calls.callWith_builtin rfl (Calls.evalArgs_plain (Calls.spliced_cons (thn (he pins s1 σ H1 _ I1 q1) fun iv s2 ⟨y,H2,I2,ry,q2⟩=>
  Calls.spliced_cons (thn (hf pins s2 σ H2 _ I2 q2) fun fv s3 ⟨z,H3,I3,rz,b,k,ey,d3,kb,q3⟩=>Calls.spliced_nil ?_))))
 subst ey
 obtain rfl:iv=Value.ref b:=ry
 obtain ⟨_,hd,xs,rel,dd⟩:=k9 I3.hok I3.kIn d3
 exact call_meetsIn PySem.F.slot_dict_get dd.typeIs PySem.F.entry_dict_get (PySem.F.args_dict_get_3 _ _ _) (meetsH_dict_get_default (Tk.treeKind X.prog X.w) a b hd fv) ⟨by show X.A.units+1+20 < cLine;omega,k,xs,kb.is I3.hok I3.kIn,dd,⟨_,H3,I3.tok _,(rel.val k).getD rz,q3⟩⟩
variable {P:Program} {w:World} {K:PySem.W.Frag}
theorem sB (hP:X.prog=P) (hw:X.w=w):PE X (.Dict [] [] pos) (oM P w):=by
 subst hP hw
 exact pQ
theorem sx (hP:X.prog=P) (hw:X.w=w) (hK:X.K=K) (hu:X.A.units+30 < cLine) (ho:PE X o td) (hi:PE X i ty) (hv:PE X value tv) (hs:swapsWith value (some (.Subscript o i pos')) pos.line X.env=pure false):
 PS X (.Assign [.Subscript o i pos'] value pos) (pw P w K td ty tv):=by
 subst hP hw hK
 exact pK hu ho hi hv hs
theorem sD (hP:X.prog=P) (hw:X.w=w) (hK:X.K=K) (hu:X.A.units+30 < cLine) (ho:PE X o td) (he:PE X e ty) (hf:PE X f tx) (m:M2 X o "get" apos e f cpos):PE X (.Call (.Attribute o "get" apos) [e,f] [] cpos) (oN P w K td ty tx):=by
 subst hP hw hK
 exact pR hu ho he hf m
end
end Dj
namespace Tre
open PySem L2
theorem ge {x y:Str} (h:x.cps.toList=y.cps.toList):x=y:=by
 cases x
 cases y
 simp only [Str.mk.injEq]
 exact Array.toList_inj.mp h
theorem eF {ts us:List Tr} (h:∀t∈ts,∀u∈us,code t=code u→t=u) (e:codes ts=codes us):ts=us:=by
 induction ts generalizing us with
 |nil=>cases us with
  |nil=>rfl
  |cons u us=>simp [codes] at e
 |cons t ts ih=>
  cases us with
  |nil=>simp [codes] at e
  |cons u us=>
   simp only [codes,xF] at e
   rw [h t x5 u x5 e.1,ih (fun a ma b mb=>h a (x6 _ ma) b (x6 _ mb)) e.2]
theorem nl {x y:String} (h:(Str.ofString x).cps.toList≠(Str.ofString y).cps.toList) {r s:List Co}:Co.tup (.str (Str.ofString x).cps.toList::r)=Co.tup (.str (Str.ofString y).cps.toList::s)→False:=fun e=>by
 simp only [Co.tup.injEq,xF,Co.str.injEq] at e
 exact h e.1
theorem tR:∀(n:Nat) {k:So} {t u:Tr},t.depth≤n→Ty k t→Ty k u→code t=code u→t=u:=by
 intro n
 induction n with
 |zero=>
  intro k t u hd h1 h2
  cases h1<;>simp [Tr.depth] at hd
 |succ n ih=>
  intro k t u hd h1 h2 e
  have sub:∀ {ts:List Tr} {t:Tr},(Tr.tup ts).depth≤n+1→t∈ts→t.depth≤n:=fun h m=>by
   unfold Tr.depth at h
   have:=aK m
   omega
  have sub2:∀ {ts l:List Tr} {t:Tr},(Tr.tup ts).depth≤n+1→Tr.tup l∈ts→t∈l→t.depth≤n:=fun h m m2=>by
   have h3:=sub h m
   unfold Tr.depth at h3
   have:=aK m2
   omega
  cases h1<;>cases h2<;>simp only [code,codes] at e
  all_goals first
   |exact (nl (by decide +kernel) e).elim
   |skip
  all_goals simp only [Co.tup.injEq,xF,Co.str.injEq,Co.num.injEq,and_true,true_and] at e
  · rw [ge e]
  · rename_i x ts _ h1 y us _ h2
    rw [ge e.1,eF (fun a ma b mb=>ih (sub2 hd (by simp) ma) (h1 a ma) (h2 b mb)) e.2]
  · rw [e.1,e.2]
  · rename_i t1 f1 a1 b1 t2 f2 a2 b2
    rw [ih (sub hd (by simp)) a1 a2 e.1,ih (sub hd (by simp)) b1 b2 e.2]
  · rw [ge e]
  · rename_i p1 f1 a1 b1 p2 f2 a2 b2
    rw [eF (fun a ma b mb=>ih (sub2 hd (by simp) ma) (a1 a ma) (a2 b mb)) e.1,ih (sub hd (by simp)) b1 b2 e.2]
  · rename_i t1 u1 a1 b1 t2 u2 a2 b2
    rw [ih (sub hd (by simp)) a1 a2 e.1,ih (sub hd (by simp)) b1 b2 e.2]
  · rename_i w1 a1 w2 a2
    rw [ih (sub hd (by simp)) a1 a2 e]
  · rename_i l1 a1 l2 a2
    rw [eF (fun a ma b mb=>ih (sub2 hd (by simp) ma) (a1 a ma) (a2 b mb)) e]
  · rename_i l1 a1 l2 a2
    rw [eF (fun a ma b mb=>ih (sub2 hd (by simp) ma) (a1 a ma) (a2 b mb)) e]
  · rename_i w1 b1 a1 w2 b2 a2
    have e2:b1=b2:=by
     have:=e.2
     cases b1<;>cases b2<;>simp at this ⊢
    rw [ih (sub hd (by simp)) a1 a2 e.1,e2]
end Tre
namespace Wd
open PySem L2 Tre Mth Dj
def Lt2 (e:Nat) (x:Int):Prop:=x.natAbs < 2^e
theorem Lt2.mono {m n:Nat} {x:Int} (h:Lt2 m x) (hn:m≤n):Lt2 n x:=xC h (Nat.pow_le_pow_right (by decide) hn)
theorem Lt2.big {n:Nat} {x:Int} (h:Lt2 n x) (hn:n≤8000):Big x:=h.mono hn
theorem Lt2.div {e:Nat} {x y:Int} (h:Lt2 e x):Lt2 e (x / y):=xO (tF x y) h
theorem Lt2.mul {m n:Nat} {x y:Int} (h1:Lt2 m x) (h2:Lt2 n y):Lt2 (m+n) (x*y):=by
 unfold Lt2 at*
 rw [Int.natAbs_mul,Nat.pow_add]
 exact Nat.mul_lt_mul'' h1 h2
theorem Lt2.add {m:Nat} {x y:Int} (h1:Lt2 m x) (h2:Lt2 m y):Lt2 (m+1) (x+y):=by
 unfold Lt2 at*
 have:=Int.natAbs_add_le x y
 rw [ya]
 omega
abbrev Fr:=Int×Int
def frT (p:Fr):Tr:= .tup [.int p.1, .int p.2]
def frK (p:Fr):Tk.KT:= .tp [.lf (.inl p.1), .lf (.inl p.2)]
structure Gf (e:Nat) (p:Fr):Prop where
 pos:0 < p.2
 top:Lt2 e p.1
 bot:Lt2 e p.2
theorem Gf.mono {m n:Nat} {p:Fr} (h:Gf m p) (hn:m≤n):Gf n p:=⟨h.pos,h.top.mono hn,h.bot.mono hn⟩
def zero:Fr:=(0,1)
def Gv (p:Fr):Prop:=Gf 200 p∧hJ p.1 p.2
theorem t7:Gf 200 zero:=⟨by decide,by show (0:Nat) < 2^200;exact xZ (by decide),by show (1:Nat) < 2^200;decide +kernel⟩
theorem n8:Gv zero:=⟨t7,by decide,by decide⟩
noncomputable def me (p q:Fr):Fr:=(pX p.1 p.2 q.1 q.2,pY p.1 p.2 q.1 q.2)
structure Wld where
 fl:Str→Bool
 va:Str→Fr
 ca:List Tk.KT→Fr
structure Wld.Ok (W:Wld):Prop where
 va:∀x,Gv (W.va x)
 ca:∀k,Gv (W.ca k)
mutual
noncomputable def valT (W:Wld):Tr→Fr
 | .tup (_:: .str x::r)=>match r with
  | []=>W.va x
  |t::_=>W.ca [.lf (.inr x), .tp (keyT W t)]
 |_=>zero
noncomputable def keyT (W:Wld):Tr→List Tk.KT
 | .tup ts=>valsT W ts
 |_=> []
noncomputable def valsT (W:Wld):List Tr→List Tk.KT
 | []=> []
 |t::ts=>frK (valT W t)::valsT W ts
end
end Wd
namespace K09
open PySem L2 Mth
noncomputable def top (i:Nat):Stmt:=PySem.Challenge.pw_smallword_k09_parts_terms_atoms.main.body.getD i (.Pass ⟨0,0,0,0⟩)
noncomputable abbrev sFg:Stmt:=top 3
noncomputable abbrev sFt:Stmt:=top 4
noncomputable abbrev sBr:Stmt:=top 7
noncomputable abbrev sSt:Stmt:=top 8
noncomputable abbrev sSw:Stmt:=top 9
noncomputable abbrev sIn:Stmt:=top 10
noncomputable abbrev sTs:Stmt:=top 11
noncomputable abbrev sTri:Stmt:=top 13
noncomputable abbrev sWin:Stmt:=top 14
noncomputable abbrev sGat:Stmt:=top 15
noncomputable abbrev sWr:Stmt:=top 18
noncomputable abbrev sToa:Stmt:=top 19
noncomputable abbrev sPo:Stmt:=top 20
noncomputable abbrev sGp:Stmt:=top 21
noncomputable abbrev sAin:Stmt:=top 22
noncomputable abbrev sTin:Stmt:=top 23
noncomputable abbrev sAof:Stmt:=top 24
noncomputable abbrev sSiz:Stmt:=top 25
noncomputable abbrev im:Stmt:=top 27
noncomputable abbrev cV:Stmt:=top 28
noncomputable abbrev cU:Stmt:=top 29
noncomputable abbrev sLow:Stmt:=top 30
noncomputable abbrev eO:Stmt:=top 31
noncomputable abbrev eN:Stmt:=top 32
noncomputable abbrev eQ:Stmt:=top 33
noncomputable abbrev ii:Stmt:=top 34
noncomputable abbrev ik:Stmt:=top 35
noncomputable abbrev eP:Stmt:=top 36
noncomputable abbrev io:Stmt:=top 37
noncomputable abbrev ig:Stmt:=top 38
noncomputable abbrev eR:Stmt:=top 39
noncomputable abbrev eM:Stmt:=top 40
noncomputable abbrev ij:Stmt:=top 41
noncomputable abbrev sBlw:Stmt:=top 42
noncomputable abbrev sWlk:Stmt:=top 43
noncomputable abbrev sTwk:Stmt:=top 44
noncomputable abbrev sFst:Stmt:=top 45
noncomputable abbrev eL:Stmt:=top 46
noncomputable abbrev sLaw:Stmt:=top 47
section
variable {P:Program} {w:World} {K:PySem.W.Frag} {mg:Str→Option Value} {base:Heap}
structure Blt (mg:Str→Option Value):Prop where
 ab:mg "abs"=none
 le:mg "len"=none
 ra:mg "range"=none
 isi:mg "isinstance"=none
 tu:mg "tuple"=none
 it:mg "int"=none
 bo:mg "bool"=none
 li:mg "list"=none
 st:mg "str"=none
 al:mg "all"=none
 an:mg "any"=none
 su:mg "sum"=none
 zi:mg "zip"=none
 so:mg "sorted"=none
 ve:mg "ValueError"=none
 en:mg "enumerate"=none
 rv:mg "reversed"=none
theorem jo {t b:Int} (h:Big b) (z:b≠0):Big (Int.gcd t b:Int):=by
 have:Int.gcd t b≤b.natAbs:=Int.gcd_le_natAbs_right t (by omega)
 unfold Big at*
 omega
end
open PySem L2 Mth Tre
theorem af {H:Hp} {p:Addr} {o:HO} (h:H p=none):Same H (upd H p o):=fun b u e=>by
 rw [aG (aJ e h)]
 exact e
theorem aX {H H':Hp} {D:Addr} {o:HO} (h:H D=none) (s:Same H H'):Same H (upd H' D o):=fun b u e=>by
 rw [aG (aJ e h)]
 exact s b u e
open PySem L2 Mth Tre
def FeedAt (H:Hp) (f c:Addr):Prop:=∃(cells:List Int) (b n:Int),H f=some (.lst [.ref c, .int b, .int n])∧H c=some (.lst (cells.map V.int))∧0 < cells.length∧cells.length≤63∧f≠c
def Keep (f c:Addr) (H H':Hp):Prop:=∀x,x≠f→x≠c→H' x=H x
theorem Keep.refl {f c:Addr} {H:Hp}:Keep f c H H:=fun _ _ _=>rfl
theorem Keep.trans {f c:Addr} {H H1 H2:Hp} (a:Keep f c H H1) (b:Keep f c H1 H2):Keep f c H H2:=fun x h1 h2=>(b x h1 h2).trans (a x h1 h2)
theorem gZ (ns:List Int) (lo hi:Option Int):∃ms:List Int,cutV (ns.map V.int) lo hi=ms.map V.int∧ms.length≤ns.length:=by
 refine ⟨(ns.drop (HT.sIx (ns.map V.int).length 0 lo)).take (HT.sIx (ns.map V.int).length (ns.map V.int).length hi - HT.sIx (ns.map V.int).length 0 lo),?_,?_⟩
 · unfold cutV
   rw [List.map_take,List.map_drop]
 · rw [xM,List.length_drop]
   omega
theorem vG {ns:List Int} {i:Int} (h0:0≤i) (h1:i < ns.length):∃(j:Nat) (z:Int),i=(j:Int)∧j < ns.length∧atI (ns.map V.int) i=some (.int z)∧ixN (ns.map V.int).length i=some j:=by
 obtain ⟨j,rfl⟩:∃j:Nat,i=(j:Int):=⟨i.toNat,by omega⟩
 have hj:j < ns.length:=by omega
 refine ⟨j,ns[j],rfl,hj,bf (by simp [hj]),?_⟩
 unfold ixN
 rw [if_pos h0,wZ,if_pos h1,xT]
theorem FeedAt.keep {f c:Addr} {H H':Hp} (x:FeedAt H f c) (e1:H' f=H f) (e2:H' c=H c):FeedAt H' f c:=by
 obtain ⟨cells,b,n,h1,h2,r⟩:=x
 exact ⟨cells,b,n,e1.trans h1,e2.trans h2,r⟩
theorem FeedAt.same {f c:Addr} {H H':Hp} (x:FeedAt H f c) (s:Same H H'):FeedAt H' f c:=by
 obtain ⟨cells,b,n,h1,h2,r⟩:=x
 exact ⟨cells,b,n,s _ _ h1,s _ _ h2,r⟩
theorem FeedAt.ne {f c r:Addr} {H:Hp} (x:FeedAt H f c) (h:H r=none):r≠f∧r≠c:=by
 obtain ⟨cells,b,n,h1,h2,_⟩:=x
 exact ⟨(aJ h1 h).symm,(aJ h2 h).symm⟩
def But (f c:Addr) (H H':Hp):Prop:=∀x o,x≠f→x≠c→H x=some o→H' x=some o
theorem But.of_keep {f c:Addr} {H H':Hp} (k:Keep f c H H'):But f c H H':=fun x o h1 h2 e=>(k x h1 h2).trans e
theorem But.of_same {f c:Addr} {H H':Hp} (k:Same H H'):But f c H H':=fun x o _ _ e=>k x o e
theorem But.trans {f c:Addr} {H H1 H2:Hp} (a:But f c H H1) (b:But f c H1 H2):But f c H H2:=fun x o h1 h2 e=>b x o h1 h2 (a x o h1 h2 e)
theorem But.wr {f c D:Addr} {H H':Hp} {o:HO} (b:But f c H H') (h:H D=none):But f c H (upd H' D o):=fun x u n1 n2 e=>by
 rw [aG (aJ e h)]
 exact b x u n1 n2 e
theorem FeedAt.wr {f c D:Addr} {H:Hp} {o:HO} (x:FeedAt H f c) (h:D≠f∧D≠c):FeedAt (upd H D o) f c:=x.keep (aG h.1.symm) (aG h.2.symm)
theorem But.free {f c D:Addr} {H H':Hp} (b:But f c H H') (x:FeedAt H' f c) (h:H' D=none):H D=none:=by
 obtain ⟨n1,n2⟩:=x.ne h
 cases e:H D with
 |none=>rfl
 |some o=>
  rw [b D o n1 n2 e] at h
  cases h
theorem aV {m:Int} (h0:0≤m) (h:m≤1000000):Big m:=by
 unfold Big
 have:(1000000:Nat) < 2^8000:=by decide +kernel
 exact xO (by omega) this
theorem But.kd {f c:Addr} {H H':Hp} (b:But f c H H') (x:FeedAt H f c) (y:FeedAt H' f c):Kd H H':=by
 obtain ⟨cells,u,n,h1,h2,_⟩:=x
 obtain ⟨cells',u',n',h1',h2',_⟩:=y
 refine ⟨fun a zs h=>b a _ (fun z=> ?_) (fun z=> ?_) h,fun a zs h=> ?_⟩
 · rw [z,h1] at h
   cases h
 · rw [z,h2] at h
   cases h
 · by_cases z:a=f
   · subst z
     exact ⟨_,h1'⟩
   · by_cases z':a=c
     · subst z'
       exact ⟨_,h2'⟩
     · exact ⟨zs,b a _ z z' h⟩
section
variable {P:Program} {w:World} {K:PySem.W.Frag} {mg:Str→Option Value} {base:Heap}
def pb (K:PySem.W.Frag):Sp:=fun vs H Q _=>∃(a:Addr) (ns:List Int),vs= [.ref a]∧SqL K H a (ns.map V.int)∧ns.length≤63∧∀(f c:Addr) (H':Hp),H f=none→H c=none→Same H H'→FeedAt H' f c→Q (.ref f) H'
theorem scFd:ay ["_law_script","_law_cells"] ["_law_script"] (ai im):=⟨rfl,rfl,rfl,by decide +kernel,rfl,by decide +kernel,by decide +kernel⟩
theorem sM {f:Addr} {fd:FuncData} (F:Fun K "_law_feed" "_law_feed" im f fd) (B:Blt mg):FnOk P w K mg base CX0 1 f fd ["_law_script"] (pb K):=by
 refine F.ok scFd (fun vs H Q E h=> ?_) (fun cdv A outer s H vs Q E hr h=> ?_)
 · obtain ⟨a,ns,rfl,_⟩:=h
   rfl
 · obtain ⟨a,ns,rfl,hS,hl,k⟩:=h
   refine ⟨_,ag (ar (i:=1) scFd.nd rfl (Or.inl rfl) (aU bU rfl B.li PyProof.Rows.boot_list (a9 (cb iZ (pv 0) (cp ae) (cp ae)) aa)))
    (ag (aP (au aS (aE aY rfl B.le PySem.boot_len (a9 (pv 1) aa)) ae (aB _))
     (aj (ar (i:=1) scFd.nd rfl (Or.inl rfl) (aL (a9 (aw sI (aE (cJ rfl) rfl B.su d7 (a9 (cb iZ (pv 0) db (cp ae)) aa)) ae) aa)))) az)
    (aj (ao (aL (a9 (pv 1) (a9 (aw cf (aE (cJ rfl) rfl B.su d7 (a9 (cb iZ (pv 0) db (cp ae)) aa)) ae) (a9 ae aa))))))),?_⟩
   refine ⟨_,rfl,1,rfl,63,rfl,a,_,rfl,hS,fun p hp=> ?_⟩
   obtain ⟨ms,em,lm⟩:=gZ ns (some 1) (some 63)
   rw [em]
   refine ⟨p,_,rfl, .inl (SqL.of ac),fun c0 hc0=> ?_⟩
   have s1:Same H (upd (upd H p (.lst (ms.map V.int))) c0 (.lst (ms.map V.int))):=(af hp).trans (af hc0)
   have n1:H c0=none:=(af hp).free hc0
   have last:∀(H1:Hp) (c:Addr) (cells:List Int),Same H H1→H c=none→H1 c=some (.lst (cells.map V.int))→0 < cells.length→cells.length≤63→
    (tRet (tLst (bq (tVar 1) (bq (tOp (rI (fun _ j=>0 < j) fun i j=> .int (i%j)) (tCB (fun xs H Q=>∃(p:Addr) (ns:List Int),xs= [.ref p]∧SqL K H p (ns.map V.int)∧Q (.int ns.sum) H) (bq (tSl (rSlL K) (tVar 0) lP (tT (tC (.int 1)))) tNil)) (tC (.int 2))) (bq (tC (.int 0)) tNil)))))
     {nx:=fun _ H'=>Q .non H',rt:=Q} [some (.ref a),some (.ref c)] H1:=by
    intro H1 c cells sm nc hc h0 h63
    refine ⟨_,rfl,_,rfl,1,rfl,a,_,rfl,sm.seq hS,fun p2 hp2=> ?_⟩
    obtain ⟨ls,el,ll⟩:=gZ ns none (some 1)
    rw [el]
    refine ⟨p2,ls,rfl,SqL.of ac,_,_,rfl,rfl,(by show (0:Int) < 2;decide),by show 3≤sizeLine;decide,fun f hf=> ?_⟩
    have s2:Same H (upd (upd H1 p2 (.lst (ls.map V.int))) f (.lst [.ref c, .int (ls.sum%2), .int 0])):=sm.trans ((af hp2).trans (af hf))
    have s3:Same H (upd H1 p2 (.lst (ls.map V.int))):=sm.trans (af hp2)
    have hc2:(upd H1 p2 (.lst (ls.map V.int))) c=some (.lst (cells.map V.int)):=af hp2 _ _ hc
    refine k f c _ (s3.free hf) nc s2 ⟨cells,_,_,ac,?_,h0,h63,fun z=> ?_⟩
    · rw [aG (aJ hc2 hf)]
      exact hc2
    · rw [z,hc2] at hf
      cases hf
   refine ⟨_,rfl,c0,_,rfl, .inl (SqL.of ac),rfl,_,rfl,?_⟩
   rw [wZ]
   by_cases z:ms.length=0
   · have z':V.int ((ms.length:Nat):Int)=V.int 0:=by rw [z];rfl
     rw [decide_eq_true z']
     refine iteT ?_
     refine ⟨_,rfl,1,rfl,a,_,rfl,s1.seq hS,fun p2 hp2=> ?_⟩
     obtain ⟨ls,el,ll⟩:=gZ ns none (some 1)
     rw [el]
     refine ⟨p2,ls,rfl,SqL.of ac,_,_,rfl,rfl,⟨by decide,by decide⟩,by show 1≤sizeLine;decide,fun c hc=> ?_⟩
     have s3:=s1.trans (af (o:= .lst (ls.map V.int)) hp2)
     exact last _ c [ls.sum / 2] (s3.trans (af hc)) (s3.free hc) ac (by show 0 < 1;decide) (by show 1≤63;decide)
   · have z':¬V.int ((ms.length:Nat):Int)=V.int 0:=fun q=>z (by have:=V.int.inj q;omega)
     rw [decide_eq_false z']
     refine iteF ?_
     exact last _ c0 ms s1 n1 ac (by omega) (by omega)
def bZ:Sp:=fun vs H Q _=>∃(f c:Addr) (m:Int),vs= [.ref f, .int m]∧FeedAt H f c∧0 < m∧Big m∧∀(r:Int) (H':Hp),0≤r→r < m→FeedAt H' f c→Keep f c H H'→Q (.int r) H'
theorem scD:ay ["_law_feed_here","_law_many","_law_at","_law_k","_law_cell"] ["_law_feed_here","_law_many"] (ai cV):=⟨rfl,rfl,rfl,by decide +kernel,rfl,by decide +kernel,by decide +kernel⟩
theorem de {f:Addr} {fd:FuncData} (F:Fun K "_law_draw" "_law_draw" cV f fd) (B:Blt mg):FnOk P w K mg base CX0 1 f fd ["_law_feed_here","_law_many"] bZ:=by
 refine F.ok scD (fun vs H Q E h=> ?_) (fun cdv A outer s H vs Q E hr h=> ?_)
 · obtain ⟨f,c,m,rfl,_⟩:=h
   rfl
 · obtain ⟨f,c,m,rfl,⟨cells,b,n,hf,hc,l0,l63,nfc⟩,m0,mB,k⟩:=h
   refine ⟨_,ag (ar (i:=2) scD.nd rfl (Or.inl rfl) (aq ix_list (pv 0) ae fun _ _=>rfl))
    (ag (j1 (aw ba (pv 2) ae) (pN (pv 0) ae jC))
    (ag (ar (i:=3) scD.nd rfl (Or.inl rfl) (aw cf (pv 2) (aE aY rfl B.le PySem.boot_len (a9 (aq ix_list (pv 0) ae fun _ _=>rfl) aa))))
    (ag (ar (i:=4) scD.nd rfl (Or.inl rfl) (aq ix_list (aq ix_list (pv 0) ae fun _ _=>rfl) (pv 3) fun _ _=>rfl))
    (ag (aP (au aS (aq ix_list (pv 0) ae fun _ _=>rfl) ae (aB _))
     (ag (j1 (aw dX (pv 4) (pv 1)) (pN (aq ix_list (pv 0) ae fun _ _=>rfl) (pv 3) jC)) (aj (ao (aw cf (pv 4) (pv 1))))) az)
    (aj (ao (aw cf (aw cf (aw eX (aw cf (aw eX (aw ba (pv 4) (aw eX ae (pv 2))) ae) ae) ae) ae) (pv 1)))))))),?_⟩
   refine ⟨_,rfl,f,_,2, .int n,rfl,rfl,SqL.of hf,rfl,?_⟩
   refine ⟨_,rfl,_,_,rfl,rfl,_,rfl,f,_,2,2,rfl,rfl,hf,rfl,?_⟩
   have hf1:(upd H f (.lst ([V.ref c, .int b, .int n].set 2 (.int (n+1))))) f=some (.lst [.ref c, .int b, .int (n+1)]):=ac
   have hc1:(upd H f (.lst ([V.ref c, .int b, .int n].set 2 (.int (n+1))))) c=some (.lst (cells.map V.int)):=by rw [aG (Ne.symm nfc)];exact hc
   have k1:Keep f c H (upd H f (.lst ([V.ref c, .int b, .int n].set 2 (.int (n+1))))):=fun x h1 _=>aG h1
   generalize upd H f (.lst ([V.ref c, .int b, .int n].set 2 (.int (n+1))))=H1 at hf1 hc1 k1 ⊢
   refine ⟨_,rfl,_,rfl,f,_,0, .ref c,rfl,rfl,SqL.of hf1,rfl,c,_,rfl, .inl (SqL.of hc1),n,_,rfl,rfl,(by rw [wZ];omega),?_⟩
   rw [wZ]
   have q0:(0:Int)≤n%(cells.length:Int):=Int.emod_nonneg _ (by omega)
   have q1:n%(cells.length:Int) < (cells.length:Int):=Int.emod_lt_of_pos _ (by omega)
   obtain ⟨j,z,ek,hj,ha,hix⟩:=vG q0 q1
   refine ⟨_,rfl,f,_,0, .ref c,rfl,rfl,SqL.of hf1,rfl,_,rfl,c,_,n%(cells.length:Int), .int z,rfl,rfl,SqL.of hc1,ha,?_⟩
   refine ⟨_,rfl,f,_,1, .int b,rfl,rfl,SqL.of hf1,rfl,rfl,_,rfl,?_⟩
   refine ite2 (fun _=> ?_) (fun _=> ?_)
   · refine ⟨_,rfl,_,rfl,z,m,rfl,rfl,⟨m0,mB⟩,_,rfl,f,_,0, .ref c,rfl,rfl,SqL.of hf1,rfl,_,rfl,c,_,n%(cells.length:Int),j,rfl,rfl,hc1,hix,?_⟩
     refine ⟨_,rfl,_,rfl,z,m,rfl,rfl,m0,?_⟩
     refine k _ _ (Int.emod_nonneg _ (by omega)) (Int.emod_lt_of_pos _ m0) ⟨cells.set j (z / m),b,n+1,?_,?_,?_,?_,nfc⟩ (k1.trans fun x _ h2=>aG h2)
     · rw [aG nfc]
       exact hf1
     · rw [List.map_set]
       exact ac
     · rw [List.length_set]
       exact l0
     · rw [List.length_set]
       exact l63
   · refine ⟨_,rfl,_,rfl,31,n,rfl,rfl, .inl ⟨by decide,by decide⟩,z,31*n,rfl,rfl,_,48271,rfl,rfl, .inr ⟨by decide,by decide⟩,_,2147483647,rfl,rfl,(by show (0:Int) < 2147483647;decide),_,69621,rfl,rfl, .inr ⟨by decide,by decide⟩,_,2147483629,rfl,rfl,(by show (0:Int) < 2147483629;decide),_,rfl,_,m,rfl,rfl,m0,?_⟩
     exact k _ _ (Int.emod_nonneg _ (by omega)) (Int.emod_lt_of_pos _ m0) ⟨cells,b,n+1,hf1,hc1,l0,l63,nfc⟩ k1
end
end K09
namespace L2
open PySem PySem.Spec PyProof.Rows
section
variable {X:Cx}
def rZf:V→List V→Hp→VK→Prop:=fun x vs H Q=>∃z i,x= .str z∧vs= [.int i]∧PadOk i=true∧Q (.str (Txt.zfill z i)) H
theorem ql:MtM X "str.zfill" rZf:=by
 intro pins s σ H x vs v us Q I rx rv h
 obtain ⟨z,i,rfl,rfl,hp,q⟩:=h
 obtain ⟨t,rfl⟩:=rx
 obtain ⟨u,rfl,ru⟩:=rv.one
 obtain ⟨t',rfl⟩:=ru
 exact SC.zfill hp (fun t' k=>⟨.str _,H,I.tok k,⟨_,rfl⟩,q⟩)
end
open PySem PySem.Spec PyProof.Rows
section
variable {X:Cx} {tg:Expr}
end
section
variable {X:Cx} {tg:Expr}
end
open PySem PySem.Spec PyProof.Rows
theorem nZ:typeLookup (.type "list_reverseiterator") "__len__"=pure none:=by rw [typeLookup_type,builtinLookup_eq_fast];kernel_rfl
theorem qN:typeLookup (.type "list_reverseiterator") "__length_hint__"=pure (some (.builtin "list_reverseiterator.__length_hint__")):=by rw [typeLookup_type,builtinLookup_eq_fast];kernel_rfl
section
variable {prog:Program} {w:World} {A:Around} {E:Value→Shared→Prop} {s:Shared}
theorem ke {I l:Addr} {items:Array Value} {Q:List Value→Shared→Prop} (hh:A.handled=none) (hne:l≠I) (hit:s.heap.IsRevIter I l ((items.size:Int) - 1)) (hl:s.heap.IsList l items) (hn:items.size≤sizeLine)
 (hQ:∀s' acc,Moved [I] (fun a b=>b=a) s s'→ItemsOf (fun i v=>items[items.size - 1 - i]?=some v) acc items.size→Q acc.toList s'):wpAny (model prog w) A (collect (.ref I)) Q E s:=by
 have W:=(Walks.listRev (prog:=prog) (w:=w) (A:=A.in1) hh I l hne items).toS
 have ltI:I < s.heap.objs.size:=by obtain ⟨o,e,_⟩:=hit;exact Heap.lt_size e
 have ltl:l < s.heap.objs.size:=by obtain ⟨o,e,_⟩:=hl;exact Heap.lt_size e
 have st0:0≤items.size∧s.heap.IsRevIter I l ((items.size:Int) - 1 - ((0:Nat):Int))∧s.heap.IsList l items:=⟨xz _,by simpa using hit,hl⟩
 have new:∀b∈ [I,l],b≠s.heap.objs.size:=fun b hb=>by
  rcases xi.mp hb with rfl|hb
  · exact xu ltI
  · rw [x8.mp hb]
    exact xu ltl
 unfold collect
 refine wpAny_bind (wpAny_runValue (codeAny_builtin PySem.F.entry_proto_collect ?_))
 rw [Around.under_plainId PySem.F.plain_proto_collect _]
 show wpAny _ A.in1 (newList [] >>=fun x=>again (.builtin "list.__iadd__" ⟨[x, .ref I],[]⟩)) _ _ s
 refine wpAny_bind (wpAny_newObj_type ?_)
 refine wpAny_pure ⟨plainId_quiet PySem.F.plain_list_iadd _,codeAny_builtin PySem.F.entry_list_iadd ?_⟩
 rw [Around.under_plainId PySem.F.plain_list_iadd _]
 generalize hs1:({s with heap:=s.heap.push {cls:= .type "list",data:= .seq ([]:List Value).toArray}}:Shared)=s1
 have st1:0≤items.size∧s1.heap.IsRevIter I l ((items.size:Int) - 1 - ((0:Nat):Int))∧s1.heap.IsList l items:=by
  subst hs1
  exact ⟨xz _,st0.2.1.at fun o e=>Heap.get?_push_of_some _ e,st0.2.2.at fun o e=>Heap.get?_push_of_some _ e⟩
 have hT:s1.TypeIs (.ref I) "list_reverseiterator":=st1.2.1.typeIs
 have h1:Builtin.List.listSameRef (.ref s.heap.objs.size) (.ref I)=false:=by simp [Builtin.List.listSameRef,(xu ltI).symm]
 show wpAny _ A.in1 (Builtin.List.listExtendWith (.ref s.heap.objs.size) (.ref I) (.ref s.heap.objs.size)) _ _ s1
 unfold Builtin.List.listExtendWith
 refine wpAny_bind (wpAny_typeOf hT ?_)
 rw [if_neg (by rw [h1];decide)]
 refine wpAny_bind (wpAny_pyIter_revIter st1.2.1 ?_)
 refine wpAny_bind (wpAny_holding ?_)
 unfold Builtin.List.listLengthHint
 refine wpAny_bind (wpAny_specialOf hT nZ ?_)
 show wpAny _ A.in1 (specialOf (Value.ref I) (Str.ofString "__length_hint__") >>=_) _ _ _
 refine wpAny_bind (wpAny_specialOf hT qN ?_)
 generalize hid:("list_reverseiterator.__length_hint__":String)=nm
 (fail_if_success (clear hid nm))
 wp_delta
 rw [show splitId nm=some ("list_reverseiterator","__length_hint__") by subst hid;decide +kernel]
 subst hid
 refine wpAny_bind (wpAny_isInstance (b:=true) hT (by rw [isSubtype_type];kernel_rfl) ?_)
 refine wpAny_pure ?_
 rw [if_neg (by decide)]
 have hS1:s1.heap.get? s.heap.objs.size=some {cls:= .type "list",data:= .seq ([]:List Value).toArray}:=by
  subst hs1
  exact Heap.get?_push_size _ rfl
 refine wpAny_pure ⟨plainId_quiet PySem.F.plain_extend_loop _,codeAny_extend_loopS W hn _ (fun m=>new _ m rfl) _ items.size 0 _ _ _ rfl (xz _) st1 hS1 (ItemsOf.nil _) fun s' acc c' hm hS' hacc=> ?_⟩
 show wpAny _ A (load s.heap.objs.size >>=_) _ _ s'
 refine wpAny_bind (wpAny_load hS' ?_)
 refine wpAny_pure (hQ s' acc ?_ hacc)
 subst hs1
 exact Moved.drop_new (o:= {cls:= .type "list",data:= .seq ([]:List Value).toArray}) (tk:=s.toks) hm (x9 _)
end
section
variable {X:Cx}
theorem nP {items acc:Array Value} {ys:List Str} (r:Vals (ys.map V.str) items.toList) (h:ItemsOf (fun i v=>items[items.size - 1 - i]?=some v) acc items.size):∃l:List (Str×Tok),strValues l=acc.toList∧l.map (·.1)=ys.reverse:=by
 have e:acc.toList=items.toList.reverse:=by
  refine yx fun j=> ?_
  by_cases hj:j < items.size
  · have hj':j < acc.size:=by rw [h.1];exact hj
    have:=h.2 j _ (xq hj')
    rw [xk,xq hj',←this,List.getElem?_reverse (by simpa using hj),xk,xb]
  · rw [xK (by rw [xb,h.1];omega),xK (by rw [List.length_reverse,xb];omega)]
 rw [e]
 generalize items.toList=us at r
 clear e h
 induction ys generalizing us with
 |nil=>cases r;exact ⟨[],rfl,rfl⟩
 |cons y ys ih=>
  rw [xg] at r
  cases r with
  |cons r1 r2=>
   obtain ⟨t,rfl⟩:=r1
   obtain ⟨l,e1,e2⟩:=ih _ r2
   refine ⟨l++ [(y,t)],?_,?_⟩
   · rw [List.reverse_cons,←e1]
     unfold strValues
     rw [xD]
     rfl
   · rw [xD,e2,List.reverse_cons]
     rfl
theorem qI (hc:X.calm=true) {pins:List (Addr×Obj)} {σ:L2.St} {H:Hp} {s:Shared} {Q:VK} {sep:Str} {t:Tok} {p l:Addr} {ys:List Str} (I:Inv X pins σ H s) (fp:FpOk X pins H p) (hl:H l=some (.lst (ys.map V.str)))
 (hit:s.heap.IsRevIter p l ((ys.length:Int) - 1)) (hz:(ys.map (·.length)).sum+ys.length*sep.length≤16777216) (q:Q (.str (Txt.join sep ys.reverse)) H):
 wpAny (model X.prog X.w) X.A (call (.builtin "str.join") [.str sep t, .ref p]) (EP X pins σ Q) X.xe s:=by
 obtain ⟨f0,f1,f2,f3,f4,f5⟩:=fp
 obtain ⟨its,r,pl,hsz⟩:=I.list (SqL.of hl)
 have hne:l≠p:=fun e=>by rw [e,f0] at hl;cases hl
 have e:its.toArray.size=ys.length:=by rw [xc,←r.length,wZ]
 have hit':s.heap.IsRevIter p l ((its.toArray.size:Int) - 1):=by rw [e];exact hit
 have hn:ys.length≤sizeLine:=by
  have:=(show ObjOk X.prog X.w H s.heap l (.lst (ys.map V.str)) from I.hok l _ hl).1
  rw [wZ] at this
  exact this
 refine wpAny_call (codeAny_call_builtin PySem.F.slot_str_join.plain PySem.F.entry_str_join (PySem.F.slot_str_join.check _ _ _ _ _ _ _ _ (typeIs_str _ _ _) (PySem.F.args_str_join_2 _ _) ?_))
 rw [join_tree_other]
 refine wpAny_bind (wpAny_typeOf hit.typeIs ?_)
 show wpAny _ X.A.in1 ((pyIter (.ref p)).tryCatch _ >>=fun it=>collect it >>=fun items=>_) _ _ s
 refine wpAny_bind (wpAny_tryCatch (wpAny_pyIter_revIter hit ?_))
 refine wpAny_bind (ke (I.ok.hd hc) hne hit' pl.isList (by rw [e];exact hn) fun s' acc hm hacc=> ?_)
 obtain ⟨pr,e1,e2⟩:=nP (items:=its.toArray) (by simpa using r) hacc
 rw [←e1]
 have hok:JoinOk sep (pr.map (·.1))=true:=by
  rw [e2]
  refine joinOk_of ?_
  rw [List.map_reverse,List.sum_reverse,List.length_reverse]
  exact hz
 unfold JoinOk at hok
 rw [Bool.not_eq_true'] at hok
 have g:Gives (PySem.joinTail sep (strValues pr)) (joinMade sep pr):=by
  have g0:=gives_joinTail sep pr hok
  cases pr with
  |nil=>exact g0
  |cons a b=>cases b with
   |nil=>exact g0
   |cons c d=>exact g0
 refine g X.prog X.w X.A (wants (EP X pins σ Q) X.xe) s' (post_join pr ⟨joinFit_length hok,fun t' k=> ?_⟩)
 rw [e2]
 have I2:Inv X pins σ H {s with heap:=s'.heap,toks:=k}:=I.turned (fun b o hb e=>hm.heap b o (by simpa using hb) e) f0 f1 f3 f4 f5
 have es:({s' with toks:=k}:Shared)= {s with heap:=s'.heap,toks:=k}:=by
  rw [show s'.gens=s.gens from hm.gens,hm.drawn,hm.os]
 rw [es]
 exact ⟨.str _,H,I2,⟨_,rfl⟩,q⟩
def tJR (sep:Str) (te:TE):TE:=fun σ H Q=>te σ H fun x H1=>∃(l:Addr) (ys:List Str),x= .ref l∧H1 l=some (.lst (ys.map V.str))∧(ys.map (·.length)).sum+ys.length*sep.length≤16777216∧Q (.str (Txt.join sep ys.reverse)) H1
theorem rA:bootBuiltins "reversed"=some (.type "reversed"):=by decide +kernel
theorem pO {sep:Str} {e:Expr} {te:TE} {j:Nat} {p0 p1 pos apos cpos:Pos} (hc:X.calm=true) (hg:Gl X "reversed") (hm:X.mg "reversed"=none) (he:PE X e te)
 (hbase:attributeBase (.Constant (.str sep) j p0) "join" X.env (eval (.Constant (.str sep) j p0) X.env)=eval (.Constant (.str sep) j p0) X.env:=by rfl)
 (hfew:((backTo cpos (starEach [.Call (.Name "reversed" p1) [e] [] pos] X.env)).all (fun x=> !x.1)&& (backToKw cpos (keywordEach [] X.env)).all (fun x=>x.1.isSome)
  &&decide ([Expr.Call (.Name "reversed" p1) [e] [] pos].length+([]:List Keyword).length+(if ([]:List Keyword).isEmpty then 0 else 1) < 30))=true:=by rfl)
 (hline:(apos.endLine==cpos.line)=true:=by rfl) (hs:starEach [.Call (.Name "reversed" p1) [e] [] pos] X.env= [(false,eval (.Call (.Name "reversed" p1) [e] [] pos) X.env)]:=by rfl)
 (hs2:starEach [e] X.env= [(false,eval e X.env)]:=by rfl):
 PE X (.Call (.Attribute (.Constant (.str sep) j p0) "join" apos) [.Call (.Name "reversed" p1) [e] [] pos] [] cpos) (tJR sep te):=by
 intro pins s σ H Q I h
 refine wpAny_Call_method_late hbase hfew hline rfl (thn ((aC (X:=X)) pins s σ H (fun x H1=>x= .str sep∧H1=H) I ⟨rfl,rfl⟩) fun v s1 ⟨x,H1,I1,r1,ex,eH⟩=> ?_)
 subst ex eH
 obtain ⟨t,rfl⟩:=r1
 refine ⟨"str","str.join",PySem.F.plainAttrs_str,PySem.F.slot_str_join,PySem.F.type_str_join,typeIs_str _ _ _,fun a ea=>(by cases ea),?_⟩
 rw [hs]
 refine Calls.callWith_builtin rfl (Calls.evalArgs_plain ?_)
 show wpAny _ _ (spliced [(false,eval (.Call (.Name "reversed" p1) [e] [] pos) X.env)]) _ _ s1
 refine Calls.spliced_cons ?_
 refine wpAny_Call_Name_kw (gQ I1 hg hm rA ?_ (by decide) (by decide))
 refine PyProof.Rows.callWith_type1 (thn ((a9 he aa hs2) pos pins s1 σ H1 (fun vs H2=>match vs with| [x]=>∃(l:Addr) (ys:List Str),x= .ref l∧H2 l=some (.lst (ys.map V.str))∧(ys.map (·.length)).sum+ys.length*sep.length≤16777216∧Q (.str (Txt.join sep ys.reverse)) H2|_=>False) I1 h) fun us s2 ⟨vs,H2,I2,r2,q2⟩=> ?_) hs2 rfl
 match vs,r2,q2 with
 | [_],r2,⟨l,ys,ex,hl,hz,q⟩=>
  subst ex
  obtain ⟨u,rfl,ru⟩:=r2.one
  cases ru
  obtain ⟨its,rv,pl,_⟩:=I2.list (SqL.of hl)
  have el:its.toArray.size=ys.length:=by rw [xc,←rv.length,wZ]
  refine call_reversed_list pl.isList ?_
  refine Calls.spliced_nil ?_
  rw [el]
  have I3:Inv X pins σ H2 {s2 with heap:=s2.heap.push (revObj l ((ys.length:Int) - 1))}:=I2.kept (t':=s2.toks) fun b o e=>Heap.get?_push_of_some _ e
  exact qI hc I3 (I2.fpOk (x9 _) (I2.hok.fresh (x9 _))) hl ⟨_,Heap.get?_push_size _ rfl,rfl,rfl⟩ hz q
end
end L2
namespace Dec
open PySem PySem.NumText
def cl (x:Str):List Nat:=x.cps.toList
theorem bR (x y:Str):cl (x++y)=cl x++cl y:=by
 show (x.cps++y.cps).toList=_
 simp [cl]
theorem cl_inj {x y:Str} (h:cl x=cl y):x=y:=by
 cases x
 cases y
 simp only [Str.mk.injEq]
 exact Array.toList_inj.mp h
theorem aT (x:Str):(cl x).length=x.length:=by simp [cl,Str.length]
def ds (n:Nat):List Nat:=(Nat.toDigits 10 n).map Char.toNat
theorem lD:∀d:Nat,d < 10→(Nat.digitChar d).toNat=48+d:=by decide
theorem iz {n:Nat} (h:n < 10):ds n= [48+n]:=by
 unfold ds
 rw [Nat.toDigits_of_lt_base h]
 show [(Nat.digitChar n).toNat]=_
 rw [lD n h]
theorem fO {n:Nat} (h:10≤n):ds n=ds (n / 10)++ [48+n%10]:=by
 have hm:n%10 < 10:=Nat.mod_lt n (by decide)
 have t:Nat.toDigits 10 (n / 10)++Nat.toDigits 10 (n%10)=Nat.toDigits 10 (10*(n / 10)+n%10):=Nat.toDigits_append_toDigits (by decide) (by omega) hm
 rw [Nat.div_add_mod] at t
 have e:=iz hm
 unfold ds at e ⊢
 rw [←t,xD,e]
theorem lC (n:Nat):digitsVal (ds n)=n:=PySem.W.KIN.val_back n
theorem qW:∀n:Nat,AllDigits (ds n):=by
 intro n
 induction n using Nat.strongRecOn with
 |_ n ih=>
  by_cases h:n < 10
  · rw [iz h]
    intro c m
    rw [x8.mp m]
    omega
  · rw [fO (by omega)]
    intro c m
    rcases xj.mp m with m|m
    · exact ih (n / 10) (by omega) c m
    · rw [x8.mp m]
      omega
theorem dy:∀(k:Nat) {n:Nat},n < 10^(k+1)→(ds n).length≤k+1
 |0,n,h=>by rw [iz (by simpa using h)];simp
 |k+1,n,h=>by
  by_cases q:n < 10
  · rw [iz q]
    simp
  · rw [fO (by omega),x3]
    have:=dy k (n:=n / 10) (by rw [ya] at h;omega)
    simp only [xh,xP]
    omega
theorem qV {m n:Nat} (h:ds m=ds n):m=n:=by rw [←lC m,h,lC]
noncomputable def pad:Nat→Nat→List Nat
 |0,_=> []
 |k+1,r=>pad k (r / 10)++ [48+r%10]
theorem mh:∀k r,(pad k r).length=k
 |0,_=>rfl
 |k+1,r=>by simp [pad,mh k]
theorem jG:∀k,pad k 0=List.replicate k 48
 |0=>rfl
 |k+1=>by
  show pad k (0 / 10)++ [48+0%10]=_
  rw [Nat.zero_div,jG k,List.replicate_succ']
theorem qX {q:Nat} (hq:0 < q):∀(k:Nat) {r:Nat},r < 10^k→ds (q*10^k+r)=ds q++pad k r
 |0,r,h=>by
  have:r=0:=by simpa using h
  subst this
  simp [pad]
 |k+1,r,h=>by
  have e:q*10^(k+1)+r=10*(q*10^k)+r:=by rw [ya,←Nat.mul_assoc,Nat.mul_comm]
  have h10:10≤q*10^(k+1)+r:=by
   have:1≤q*10^k:=Nat.mul_pos hq (xZ (by decide))
   omega
  rw [fO h10]
  have e1:(q*10^(k+1)+r) / 10=q*10^k+r / 10:=by omega
  have e2:(q*10^(k+1)+r)%10=r%10:=by omega
  rw [e1,e2,qX hq k (r:=r / 10) (by rw [ya] at h;omega)]
  simp [pad]
theorem zf:∀(k:Nat) {r:Nat},r < 10^(k+1)→List.replicate (k+1 - (ds r).length) 48++ds r=pad (k+1) r
 |0,r,h=>by
  have h:r < 10:=by simpa using h
  rw [iz h]
  show [48+r]= [48+r%10]
  rw [Nat.mod_eq_of_lt h]
 |k+1,r,h=>by
  by_cases q:r < 10
  · rw [iz q]
    show List.replicate (k+1+1 - 1) 48++ [48+r]=pad (k+1) (r / 10)++ [48+r%10]
    rw [Nat.mod_eq_of_lt q,Nat.div_eq_of_lt q,jG]
    rfl
  · rw [fO (by omega)]
    have:=zf k (r:=r / 10) (by rw [ya] at h;omega)
    show _=pad (k+1) (r / 10)++ [48+r%10]
    rw [←this,x3]
    simp
open PySem PySem.NumText L2 Mth
theorem rp {z:Str} {r k:Nat} (h:cl z=ds r) (hr:r < 10^(k+1)):cl (Txt.zfill z ((k+1:Nat):Int))=pad (k+1) r:=by
 have hl:=dy k hr
 have hz:z.length=(ds r).length:=by rw [←aT,h]
 rw [←zf k hr]
 unfold Txt.zfill
 by_cases q:((k+1:Nat):Int)≤(z.length:Int)
 · rw [if_pos q,h,show k+1 - (ds r).length=0 by omega]
   rfl
 · rw [if_neg q]
   unfold zfilled
   have hd:∀c,z.cps[0]?=some c→48≤c∧c≤57:=fun c e=>by
    refine qW r c ?_
    rw [←h]
    exact yf.mpr (Array.mem_of_getElem? e)
   have hp:cl (Builtin.Str.padded z (((k+1:Nat):Int).toNat - z.length) 0 48)=List.replicate (k+1 - (ds r).length) 48++ds r:=by
    unfold Builtin.Str.padded cl
    simp only [Array.toList_append,Array.toList_replicate,List.replicate_zero,yg]
    rw [←hz,←h]
    rfl
   split
   · rename_i e
     have:=hd _ e
     omega
   · rename_i e
     have:=hd _ e
     omega
   · exact hp
def sl:Str:=Str.ofString "/"
open PySem PySem.NumText L2 Mth
def sg (x:Int):List Nat:=if x < 0 then [45] else []
noncomputable def low (x y:Int):List Nat:=ds x.natAbs++(if y=1 then [] else 47::ds y.natAbs)
noncomputable def txt (x y:Int):List Nat:=sg x++low x y
end Dec
namespace Su
open PySem L2 Tre Mth Wd
def rv (p:Fr):Rat:=(p.1:Rat) / (p.2:Rat)
abbrev Sh (p:Fr):Prop:=hJ p.1 p.2
theorem ne0 {b:Int} (h:0 < b):(b:Rat)≠0:=by
 simp only [ne_eq,Rat.intCast_eq_zero_iff]
 omega
theorem tW {p q:Fr} (h1:0 < p.2) (h2:0 < q.2):rv p=rv q↔p.1*q.2=q.1*p.2:=by
 have a:=ne0 h1
 have b:=ne0 h2
 unfold rv
 constructor
 · intro h
   have:(p.1:Rat)*q.2=q.1*p.2:=by grind
   exact_mod_cast this
 · intro h
   have:(p.1:Rat)*q.2=q.1*p.2:=by exact_mod_cast h
   grind
theorem pz {p q:Fr} (h1:Sh p) (h2:Sh q) (e:rv p=rv q):p=q:=by
 rw [tW h1.1 h2.1] at e
 obtain ⟨a,b⟩:=p
 obtain ⟨c,d⟩:=q
 obtain ⟨b0,g1⟩:=h1
 obtain ⟨d0,g2⟩:=h2
 dsimp only at*
 have n1:a.natAbs*d.natAbs=c.natAbs*b.natAbs:=by rw [←Int.natAbs_mul,←Int.natAbs_mul,e]
 have g1':Nat.Coprime b.natAbs a.natAbs:=by rw [Nat.coprime_comm];exact g1
 have g2':Nat.Coprime d.natAbs c.natAbs:=by rw [Nat.coprime_comm];exact g2
 have d1:b.natAbs∣d.natAbs:=g1'.dvd_of_dvd_mul_left ⟨c.natAbs,by rw [n1,Nat.mul_comm]⟩
 have d2:d.natAbs∣b.natAbs:=g2'.dvd_of_dvd_mul_left ⟨a.natAbs,by rw [←n1,Nat.mul_comm]⟩
 have e1:=Nat.dvd_antisymm d1 d2
 have e2:b=d:=by omega
 subst e2
 have e3:a=c:=Int.eq_of_mul_eq_mul_right (by omega) e
 rw [e3]
theorem rY {p q:Fr} (h1:Sh p) (h2:Sh q):Sh (me p q):=(m9 h1 h2).1
theorem sd {p q:Fr} (h1:Sh p) (h2:Sh q):rv (me p q)=rv p+rv q:=by
 obtain ⟨s,e⟩:=m9 h1 h2
 have a:=ne0 h1.1
 have b:=ne0 h2.1
 have c:=ne0 s.1
 have e':((pX p.1 p.2 q.1 q.2:Int):Rat)*(p.2*q.2)=(p.1*q.2+q.1*p.2)*(pY p.1 p.2 q.1 q.2:Int):=by exact_mod_cast e
 unfold rv me
 dsimp only
 grind
theorem lW:Sh zero:=⟨by decide,by decide⟩
theorem rv_zero:rv zero=0:=by
 show ((0:Int):Rat) / ((1:Int):Rat)=0
 have:((0:Int):Rat)=0:=by simp
 rw [this]
 grind
theorem py {p:Fr} (h:Sh p):rv p=0↔p=zero:=by
 constructor
 · intro e
   exact pz h lW (e.trans rv_zero.symm)
 · rintro rfl
   exact rv_zero
noncomputable def low (t b:Int):Fr:=(t / (Int.gcd t b:Int),b / (Int.gcd t b:Int))
theorem kY {t b:Int} (h:0 < b):Sh (low t b):=by
 obtain ⟨x',y',ex,ey,g1,qx,qy⟩:=c9 (x:=t) (y:=b) (by omega)
 unfold low
 rw [qx,qy]
 have y0:0 < y':=bV (k:=(Int.gcd t b:Int)) (by omega) (by omega)
 exact ⟨y0,g1⟩
theorem uB {t b:Int} (h:0 < b):rv (low t b)=(t:Rat) / (b:Rat):=by
 have s:=kY (t:=t) h
 obtain ⟨x',y',ex,ey,g1,qx,qy⟩:=c9 (x:=t) (y:=b) (by omega)
 have g0:0 < Int.gcd t b:=ye t (by omega)
 unfold low at s ⊢
 rw [qx,qy] at s ⊢
 have e:x'*b=t*y':=by
  generalize ((Int.gcd t b:Nat):Int)=g at*
  rw [ex,ey]
  simp only [Int.mul_assoc,Int.mul_left_comm,Int.mul_comm]
 exact (tW (p:=(x',y')) (q:=(t,b)) s.1 h).mpr e
theorem vw {e:Nat} {t b:Int} (h:0 < b) (h1:Lt2 e t) (h2:Lt2 e b):Gf e (low t b):=⟨(kY h).1,h1.div,h2.div⟩
abbrev Pq:=Tr×Fr
def prT (p:Pq):Tr:= .tup [p.1,frT p.2]
open Classical in
noncomputable def tot (t:Tr):List Pq→Rat
 | []=>0
 |p::r=>(if p.1=t then rv p.2 else 0)+tot t r
theorem fz (t:Tr) (a b:List Pq):tot t (a++b)=tot t a+tot t b:=by
 induction a with
 |nil=>simp only [List.nil_append,tot];grind
 |cons p r ih=>simp only [y8,tot,ih];grind
open Classical in
theorem fw (t:Tr) (p:Pq):tot t [p]=if p.1=t then rv p.2 else 0:=by
 simp only [tot]
 grind
theorem cS {t:Tr}:∀ {l:List Pq},(∀p∈l,p.1≠t)→tot t l=0
 | [],_=>rfl
 |p::r,h=>by
  simp only [tot]
  rw [if_neg (h p x5),cS fun q m=>h q (x6 _ m)]
  grind
abbrev Asc (us:List Pq):Prop:=us.Pairwise fun a b=>ltT a.1 b.1=true
theorem vf (t:Tr):ltT t t=false:=by
 cases e:ltT t t with
 |false=>rfl
 |true=>exact (d6 e).symm.trans e |>.symm
theorem lt_ne {t u:Tr} (h:ltT t u=true):t≠u:=fun z=>by
 rw [z,vf] at h
 cases h
theorem fV {us:List Pq} (h:Asc us) {p:Pq} (m:p∈us):tot p.1 us=rv p.2:=by
 induction us with
 |nil=>cases m
 |cons q r ih=>
  obtain ⟨h1,h2⟩:=List.pairwise_cons.mp h
  simp only [tot]
  rcases xi.mp m with e|m
  · subst e
    rw [if_pos rfl,cS fun x mx=>(lt_ne (h1 x mx)).symm]
    grind
  · rw [if_neg (lt_ne (h1 p m)),ih h2 m]
    grind
structure Can (ps us:List Pq):Prop where
 asc:Asc us
 sh:∀p∈us,Sh p.2∧p.2≠zero
 eq:∀t,tot t us=tot t ps
theorem Can.mem {ps us vs:List Pq} (h1:Can ps us) (h2:Can ps vs) {p:Pq} (m:p∈us):p∈vs:=by
 have e1:=fV h1.asc m
 rw [h1.eq,←h2.eq] at e1
 have n0:rv p.2≠0:=fun z=>(h1.sh p m).2 ((py (h1.sh p m).1).mp z)
 refine Classical.byContradiction fun no=> ?_
 by_cases q:∀x∈vs,x.1≠p.1
 · rw [cS q] at e1
   exact n0 e1.symm
 · obtain ⟨x,hx⟩:=Classical.not_forall.mp q
   obtain ⟨mx,ex⟩:=Classical.not_imp.mp hx
   have ex:=Classical.not_not.mp ex
   have e2:=fV h2.asc mx
   rw [ex,e1] at e2
   have e3:=pz (h1.sh p m).1 (h2.sh x mx).1 e2
   have:x=p:=Prod.ext ex e3.symm
   rw [this] at mx
   exact no mx
theorem Can.to {ps qs us:List Pq} (h:Can ps us) (e:∀t,tot t ps=tot t qs):Can qs us:=⟨h.asc,h.sh,fun t=>(h.eq t).trans (e t)⟩
structure Run (ds us:List Pq):Prop where
 asc:Asc us
 sh:∀p∈us,Sh p.2
 eq:∀t,tot t us=tot t ds
 key:∀p∈us,∃d∈ds,d.1=p.1
theorem Run.nil:Run [] []:=⟨.nil,(fun p m=>by cases m),fun t=>rfl,fun p m=>by cases m⟩
theorem Run.add {ds us:List Pq} {t:Tr} {f g:Fr} (h:Run ds (us++ [(t,f)])) (hs:Sh g):Run (ds++ [(t,g)]) (us++ [(t,me f g)]):=by
 have hf:Sh f:=h.sh (t,f) (xL _ x5)
 obtain ⟨a1,_,a3⟩:=List.pairwise_append.mp h.asc
 refine ⟨?_,fun p m=> ?_,fun u=> ?_,fun p m=> ?_⟩
 · refine List.pairwise_append.mpr ⟨a1,List.pairwise_singleton _ _,fun a ma b mb=> ?_⟩
   rw [x8.mp mb]
   exact a3 a ma (t,f) x5
 · rcases xj.mp m with m|m
   · exact h.sh p (List.mem_append_left _ m)
   · rw [x8.mp m]
     exact rY hf hs
 · have e:=h.eq u
   rw [fz,fw] at e
   rw [fz,fz,fw,fw,←e,sd hf hs]
   dsimp only
   by_cases z:t=u
   · simp only [if_pos z];grind
   · simp only [if_neg z];grind
 · rcases xj.mp m with m|m
   · obtain ⟨d,md,e⟩:=h.key p (List.mem_append_left _ m)
     exact ⟨d,List.mem_append_left _ md,e⟩
   · rw [x8.mp m]
     exact ⟨(t,g),xL _ x5,rfl⟩
theorem kN (t:Tr) {us:List Pq} (h:∀p∈us,Sh p.2):tot t (us.filter fun p=>decide (p.2≠zero))=tot t us:=by
 induction us with
 |nil=>rfl
 |cons p r ih=>
  have ih:=ih fun q m=>h q (x6 _ m)
  rw [yq]
  by_cases z:p.2=zero
  · have e:decide (p.2≠zero)=false:=by simp [z]
    rw [e,if_neg (by decide),ih]
    simp only [tot,z,rv_zero]
    grind
  · have e:decide (p.2≠zero)=true:=by simp [z]
    rw [e,if_pos rfl]
    simp only [tot,ih]
theorem Run.fin {ps us:List Pq} (h:Run ps us):Can ps (us.filter fun p=>decide (p.2≠zero)):=by
 refine ⟨h.asc.filter _,fun p m=> ?_,fun t=>(kN t h.sh).trans (h.eq t)⟩
 obtain ⟨m1,m2⟩:=xY.mp m
 exact ⟨h.sh p m1,by simpa using m2⟩
theorem lt_of {t u:Tr} (h1:ltT u t=false) (h2:eqT t u=false):ltT t u=true:=by
 cases e:ltT t u with
 |true=>rfl
 |false=>rw [vg e h1] at h2;cases h2
theorem vY {t u:Tr} (h1:Ty .tm t) (h2:Ty .tm u) (h:eqT t u=true):t=u:=tR t.depth (x9 _) h1 h2 ((cI t u).mp h)
end Su
namespace L2
open PySem PySem.Spec PyProof.Rows
def rH (J:It) (D:Addr) (tc:TT) (te:TE) (rest:L2.St) (Q:VK) (H1:Hp):Prop:=
 ∃W:Nat→Nat→List V→Hp→Prop,(∃m,W 0 m [] (upd H1 D (.lst [])))∧∀i m acc H2,W i m acc H2→
  (J.stop i H2∧Q (.ref D) H2)∨
  (J.go i H2∧∀x H3,J.yld i H2 x H3→cF 0 x (none::rest) H3 fun σ4 H4=>Ext (none::rest) σ4∧tc σ4 H4 fun b H5=>if b=true then te σ4 H5 fun v H6=>H6 D=some (.lst acc)∧acc.length < sizeLine∧∃m',m' < m∧W (i+1) m' (acc++ [v]) (upd H6 D (.lst (acc++ [v])))
   else∃m',m' < m∧W (i+1) m' acc H5)
theorem eK {mp:List (Option Nat)} {wi:TI} {tc:TT} {te:TE} {σ rest:L2.St} {H:Hp} {Q:VK} (e:subS mp σ=none::rest) (h:wi σ H fun J H1=>∀D,H1 D=none→rH J D tc te rest Q H1):fb mp wi (cF 0) tc te σ H Q:=by
 unfold fb
 rw [e]
 exact h
def CompS (n i:Nat) (acc:List V) (Pv:Nat→List V→Hp→Prop):Hp→Prop:=fun H5=>∃m',m' < n - i∧(m'=n - (i+1)∧i+1≤n∧Pv (i+1) acc H5)
theorem CompS.mk {n i:Nat} {acc:List V} {Pv:Nat→List V→Hp→Prop} {H5:Hp} (hi:i < n) (h:Pv (i+1) acc H5):CompS n i acc Pv H5:=⟨n - (i+1),by omega,rfl,hi,h⟩
theorem dE {K:PySem.W.Frag} {a D:Addr} {xs:List V} {tc:TT} {te:TE} {rest:L2.St} {Q:VK} {H1:Hp} (Pv:Nat→List V→Hp→Prop) (h0:Pv 0 [] (upd H1 D (.lst [])))
 (hl:∀i acc H,Pv i acc H→SqL K H a xs)
 (hs:∀i x acc H,i < xs.length→xs[i]?=some x→Pv i acc H→tc (some x::rest) H fun b H5=>if b=true then te (some x::rest) H5 (CompN xs.length i D acc Pv) else CompS xs.length i acc Pv H5)
 (hd:∀acc H,Pv xs.length acc H→Q (.ref D) H):rH (Itl K a) D tc te rest Q H1:=by
 refine ⟨fun i m acc H=>m=xs.length - i∧i≤xs.length∧Pv i acc H,⟨xs.length,by simp,xz _,h0⟩,?_⟩
 rintro i m acc H ⟨rfl,hi,p⟩
 by_cases hlt:i < xs.length
 · refine .inr ⟨⟨xs,xs[i],hl i acc H p,by simp [hlt]⟩,fun x H' y=>⟨ext1,?_⟩⟩
   obtain ⟨e,y⟩:=y
   subst e
   exact hs i x acc _ hlt (y xs (hl i acc _ p)) p
 · have e:i=xs.length:=by omega
   subst e
   exact .inl ⟨⟨xs,hl _ acc H p,x9 _⟩,hd acc H p⟩
end L2
namespace Zp
open PySem
inductive Src where
 |lst|tup
section
variable {prog:Program} {w:World} {A:Around} {E:Value→Shared→Prop} {s:Shared} {k:Src} {it l:Addr} {i:Nat} {xs:Array Value} {x:Value} {Q:Value→Shared→Prop}
end
open PySem
section
variable {prog:Program} {w:World} {A:Around} {E:Value→Shared→Prop} {s:Shared} {k:Src} {z TI TO i1 i2 l1 l2:Addr} {j:Nat} {xs ys:Array Value} {x y a b:Value}
end
open PySem
section
variable {prog:Program} {w:World} {A:Around} {E:Value→Shared→Prop} {s:Shared}
end
end Zp
namespace L2
open PySem PySem.Spec PyProof.Rows Zp
section
variable {X:Cx} {pins:List (Addr×Obj)} {σ:St} {H:Hp} {s:Shared}
end
section
variable {X:Cx}
end
open PySem PySem.Spec PyProof.Rows Zp
section
variable {X:Cx}
end
section
variable {X:Cx}
end
end L2
namespace Tre
open PySem L2 Zp
end Tre
namespace Tre
open PySem PySem.Spec PyProof.Rows L2
section
variable {X:Cx}
theorem rD {H:Hp} {t:Tr} {e:Value→Bool}:∀ {xs:List V} {us:List Value} {ts:List Tr},Vals xs us→TrsAt H xs ts→(∀v u s,RelV v u→TrAt H v s→e u=eqT s t)→us.any e=ts.any fun s=>eqT s t
 |_,_,[],r,h,_=>by
  unfold TrsAt at h
  subst h
  cases r
  rfl
 |_,_,s::ts,r,h,he=>by
  unfold TrsAt at h
  obtain ⟨v,q,rfl,h1,h2⟩:=h
  cases r with
  |cons r1 r2=>rw [yk,yk,rD r2 h2 he,he _ _ _ r1 h1]
end
open PySem PySem.Spec PyProof.Rows L2
section
variable {X:Cx}
def SqE (H:Hp) (p:Addr) (xs:List V):Prop:=H p=some (.lst xs)∨H p=some (.tup xs)
def rIn (b:Bool):R2:=fun x y H Q=>∃p xs ts t,y= .ref p∧SqE H p xs∧TrsAt H xs ts∧TrAt H x t∧(∀u∈ts,u.depth≤40)∧t.pure∧Q (.bl ((ts.any fun u=>eqT u t)==b)) H
theorem gR {pins:List (Addr×Obj)} {s:Shared} {σ:L2.St} {H:Hp} {xs:List V} {ts:List Tr} {t:Tr} {x:V} {v:Value} {its:List Value} (hu:X.A.units+50 < cLine) (I:Inv X pins σ H s) (rx:RelV x v) (r:Vals xs its) (hT:TrsAt H xs ts) (ht:TrAt H x t) (hd:∀u∈ts,u.depth≤40) (hpu:t.pure):
 ∃e:Value→Bool,(∀w,w∈its.toArray→SeqAt.EqAt X.A.in1 s w v (e w))∧its.toArray.any e=ts.any fun s=>eqT s t:=by
 classical
 have he:∀v' u' s',RelV v' u'→TrAt H v' s'→decide (∃v s,RelV v u'∧TrAt H v s∧eqT s t=true)=eqT s' t:=fun v' u' s' r' h'=>by
  cases e:eqT s' t with
  |true=>exact decide_eq_true ⟨v',s',r',h',e⟩
  |false=>
   refine decide_eq_false ?_
   rintro ⟨v2,s2,r2,h2,e2⟩
   cases r2.inj r'
   rw [TrAt.det h2 h',e] at e2
   cases e2
 refine ⟨fun u'=>decide (∃v s,RelV v u'∧TrAt H v s∧eqT s t=true),fun w hw=> ?_,?_⟩
 · have hw':w∈its:=by simpa using hw
   obtain ⟨j,hj,ej⟩:=yo hw'
   have l1:=r.length
   have l2:=hT.len
   have t1:ts[j]?=some (ts[j]'(by omega)):=x4 _
   obtain ⟨v',e1,a1⟩:=hT.get t1
   obtain ⟨u',e2,q2⟩:=r.get e1
   rw [x4 hj,ej] at e2
   cases e2
   dsimp only
   rw [he _ _ _ q2 a1]
   exact iL I 40 (hd _ (xa t1)) (.inr hpu) a1 ht q2 rx (by show X.A.units+1+40+1 < cLine;omega)
 · rw [List.any_toArray]
   exact rD r hT he
theorem rB (b:Bool):(b==true)=b:=by cases b<;>rfl
theorem uM (hu:X.A.units+50 < cLine):OpR X (compareOp .In) (rIn true):=by
 intro pins s σ H x y v u Q I rx ry h
 obtain ⟨p,xs,ts,t,rfl,hp,hT,ht,hd,hpu,q⟩:=h
 cases ry
 rcases hp with hp|hp
 · obtain ⟨its,r,pl,hz⟩:=I.list (SqL.of hp)
   obtain ⟨e,h1,h2⟩:=gR hu I rx r hT ht hd hpu
   refine SeqAt.in_listAt e pl.isList h1 ⟨.bl _,H,I,rfl,?_⟩
   rw [h2,←rB (ts.any fun s=>eqT s t)]
   exact q
 · obtain ⟨its,r,pl,hz⟩:=I.tuple (SqT.of hp)
   obtain ⟨e,h1,h2⟩:=gR hu I rx r hT ht hd hpu
   refine SeqAt.in_tupleAt e (show s.heap.IsTuple p its.toArray from pl) h1 ⟨.bl _,H,I,rfl,?_⟩
   rw [h2,←rB (ts.any fun s=>eqT s t)]
   exact q
end
end Tre
namespace L2
open PySem PySem.Spec PyProof.Rows
section
variable {X:Cx}
end
theorem rm {K K':PySem.W.Frag} {a:Addr} {mp:List (Option Nat)} {tl:TE} {te:TE} {Q:VK} {σ rest:L2.St} {H H1:Hp} {xs:List V} (e:subS mp σ=none::none::rest)
 (ha:∀Q:VK,Q (.ref a) H1→tl σ H Q) (h1:SqT K H1 a xs)
 (h:∀D,H1 D=none→∃Pv:Nat→List V→Hp→Prop,Pv 0 [] (upd H1 D (.lst []))∧(∀i acc H,Pv i acc H→SqT K H a xs)∧
  (∀i z acc H,i < xs.length→Pv i acc H→xs[i]?=some z→∃T x y,z= .ref T∧SqT K' H T [x,y]∧te (some x::some y::rest) H (CompN xs.length i D acc Pv))∧∀acc H,Pv xs.length acc H→Q (.ref D) H):
 fb mp (iTup K tl) (gTup K' 2 (jX (cF 0) (jX (cF 1) gNil))) dO te σ H Q:=by
 unfold fb
 rw [e]
 refine ha _ ⟨a,rfl,⟨xs,h1⟩,fun D nD=> ?_⟩
 obtain ⟨Pv,p0,pq,ps,pd⟩:=h D nD
 refine ⟨fun i m acc H=>m=xs.length - i∧i≤xs.length∧Pv i acc H,⟨xs.length,by simp,xz _,p0⟩,?_⟩
 rintro i m acc H ⟨rfl,hi,p⟩
 have q1:=pq i acc H p
 by_cases hlt:i < xs.length
 · refine .inr ⟨⟨xs,xs[i],q1,by simp [hlt]⟩,?_⟩
   rintro v H' ⟨rfl,y⟩
   have ev:=y xs q1
   obtain ⟨T,x,z,rfl,hT,hte⟩:=ps i v acc _ hlt p ev
   exact ⟨T,[x,z],rfl,hT,rfl,x,[z],rfl,z,[],rfl,rfl,ext2,hte⟩
 · have ei:i=xs.length:=by omega
   subst ei
   exact .inl ⟨⟨xs,q1,x9 _⟩,pd acc H p⟩
end L2
namespace Wd
open PySem L2 Tre Mth Dj
def FlG (kF:List (Key×V)):Prop:=∀x v,valV kF (.inr x)=some v→∃b,v=V.bl b
def VaG (H:Hp) (kV:List (Key×V)):Prop:=∀x v,valV kV (.inr x)=some v→∃p,TrAt H v (frT p)∧Gv p
def CaG (H:Hp) (kC:List Ent):Prop:=∀k v,valJ kC k=some v→∃p,TrAt H v (frT p)∧Gv p
structure WS (P:Program) (w:World) (K:PySem.W.Frag) (H:Hp) (F D C:Addr) (n:Nat):Prop where
 ne:F≠D
 fl:∃kF,H F=some (.dK kF)∧FlG kF∧kF.length≤n
 va:∃kV,H D=some (.dK kV)∧VaG H kV∧kV.length≤n
 ca:∃kC,DJ P w K H C kC∧CaG H kC∧kC.length≤n
section
variable {P:Program} {w:World} {K:PySem.W.Frag} {H H':Hp} {F D C:Addr} {n:Nat}
end
def WAt (P:Program) (w:World) (K:PySem.W.Frag) (H:Hp) (v:V) (W:Wld):Prop:=∃r F D C kF kV kC,v= .ref r∧H r=some (.tup [.ref F, .ref D, .ref C])∧
 (H F=some (.dK kF)∧∀x,(valV kF (.inr x)).getD (.bl false)= .bl (W.fl x))∧
 (H D=some (.dK kV)∧∀x,(∃u,valV kV (.inr x)=some u∧TrAt H u (frT (W.va x)))∨(valV kV (.inr x)=none∧W.va x=zero))∧
 (DJ P w K H C kC∧∀k,(∃u,valJ kC k=some u∧TrAt H u (frT (W.ca k)))∨(valJ kC k=none∧W.ca k=zero))
section
variable {P:Program} {w:World} {K:PySem.W.Frag} {H H':Hp} {F D C r:Addr} {n:Nat} {v:V} {W:Wld}
theorem WS.at_ (h:WS P w K H F D C n) (e:H r=some (.tup [.ref F, .ref D, .ref C])):∃W:Wld,W.Ok∧WAt P w K H (.ref r) W:=by
 obtain ⟨kF,f1,f2,f3⟩:=h.fl
 obtain ⟨kV,v1,v2,v3⟩:=h.va
 obtain ⟨kC,c1,c2,c3⟩:=h.ca
 have hF:∀x:Str,∃b,(valV kF (.inr x)).getD (.bl false)= .bl b:=fun x=>by
  cases q:valV kF (.inr x) with
  |none=>exact ⟨false,rfl⟩
  |some v=>
   obtain ⟨b,rfl⟩:=f2 x v q
   exact ⟨b,rfl⟩
 have hV:∀x:Str,∃p,Gv p∧((∃u,valV kV (.inr x)=some u∧TrAt H u (frT p))∨(valV kV (.inr x)=none∧p=zero)):=fun x=>by
  cases q:valV kV (.inr x) with
  |none=>exact ⟨zero,n8, .inr ⟨rfl,rfl⟩⟩
  |some v=>
   obtain ⟨p,h1,h2⟩:=v2 x v q
   exact ⟨p,h2, .inl ⟨v,rfl,h1⟩⟩
 have hC:∀k:List Tk.KT,∃p,Gv p∧((∃u,valJ kC k=some u∧TrAt H u (frT p))∨(valJ kC k=none∧p=zero)):=fun k=>by
  cases q:valJ kC k with
  |none=>exact ⟨zero,n8, .inr ⟨rfl,rfl⟩⟩
  |some v=>
   obtain ⟨p,h1,h2⟩:=c2 k v q
   exact ⟨p,h2, .inl ⟨v,rfl,h1⟩⟩
 exact ⟨⟨fun x=>Classical.choose (hF x),fun x=>Classical.choose (hV x),fun k=>Classical.choose (hC k)⟩,⟨fun x=>(Classical.choose_spec (hV x)).1,fun k=>(Classical.choose_spec (hC k)).1⟩,
  r,F,D,C,kF,kV,kC,rfl,e,⟨f1,fun x=>Classical.choose_spec (hF x)⟩,⟨v1,fun x=>(Classical.choose_spec (hV x)).2⟩,⟨c1,fun k=>(Classical.choose_spec (hC k)).2⟩⟩
end
def FrAt (K:PySem.W.Frag) (H:Hp) (v:V) (p:Fr):Prop:=∃r,v= .ref r∧SqX K H r [.int p.1, .int p.2]
def FrsAt (K:PySem.W.Frag) (H:Hp):List V→List Fr→Prop
 |vs,[]=>vs= []
 |vs,p::ps=>∃v r,vs=v::r∧FrAt K H v p∧FrsAt K H r ps
theorem FrsAt.snoc {K:PySem.W.Frag} {H:Hp} {u:V} {q:Fr} (hu:FrAt K H u q):∀ {vs:List V} {ps:List Fr},FrsAt K H vs ps→FrsAt K H (vs++ [u]) (ps++ [q])
 |vs,[],h=>by
  cases (show vs= [] from h)
  exact ⟨u,[],rfl,hu,rfl⟩
 |vs,p::ps,h=>by
  obtain ⟨v,r,rfl,h1,h2⟩:=h
  exact ⟨v,r++ [u],rfl,h1,FrsAt.snoc hu h2⟩
end Wd
namespace L2
open PySem Tre Wd
theorem c8 {t rest:TS} {Z:Ends} {σ:L2.St} {H:Hp} (R:L2.St→Hp→Prop) (hR:∀σ' H',R σ' H'→rest Z σ' H') (h:∀nx:L2.St→Hp→Prop,(∀σ' H',R σ' H'→nx σ' H')→t {Z with nx:=nx} σ H):tSeq t rest Z σ H:=h _ hR
theorem e8 {i:Nat} {v:V} {σ:L2.St} {H:Hp} {k:L2.St→Hp→Prop} (h:k (σ.set i (some v)) H):cF i v σ H k:=h
theorem oB {Z:Ends} {σ:L2.St} {H:Hp} (h:Z.nx σ H):oK Z σ H:=h
theorem rP {r:List V→Hp→VK→Prop} {te:TE} {Z:Ends} {σ:L2.St} {H:Hp} (h:te σ H fun v H1=>r [v] H1 Z.rt):tRet (tCB r (bq te tNil)) Z σ H:=h
theorem jw {r:List V→Hp→VK→Prop} {te:TE} {σ:L2.St} {H:Hp} {Q:List V→Hp→Prop} (h:te σ H fun v H1=>r [v] H1 fun u H2=>Q [u] H2):bq (tCB r (bq te tNil)) tNil σ H Q:=h
theorem iJ {r:R2} {v:V} {tb:TE} {Z:Ends} {σ:L2.St} {H:Hp} (h:tb σ H fun y H2=>r v y H2 Z.rt):tRet (tOp r (tC v) tb) Z σ H:=h
theorem lN {te:TE} {Z:Ends} {σ:L2.St} {H:Hp} (h:te σ H Z.rt):tRet te Z σ H:=h
theorem uw {te:TE} {σ:L2.St} {H:Hp} {Q:List V→Hp→Prop} (h:te σ H fun v H1=>Q [v] H1):bq te tNil σ H Q:=h
theorem cj {H:Hp} {v:V} {x:Str} {r:List Tr} (h:TrAt H v (.tup (.str x::r))):∃a vs,v= .ref a∧H a=some (.tup (.str x::vs))∧TrsAt H vs r:=by
 unfold TrAt at h
 obtain ⟨a,vs,e,h1,h2⟩:=h
 obtain ⟨y,r1,rfl,h3,h4⟩:=h2.inv
 unfold TrAt at h3
 subst h3
 exact ⟨a,r1,e,h1,h4⟩
theorem at2 {H:Hp} {v:V} {k:Str} {t:Tr} (h:TrAt H v (.tup [.str k,t])):∃a y,v= .ref a∧H a=some (.tup [.str k,y])∧TrAt H y t:=by
 obtain ⟨a,vs,e,h1,h2⟩:=cj h
 obtain ⟨y,r,rfl,h3,h4⟩:=h2.inv
 unfold TrsAt at h4
 subst h4
 exact ⟨a,y,e,h1,h3⟩
theorem at3 {H:Hp} {v:V} {k:Str} {t u:Tr} (h:TrAt H v (.tup [.str k,t,u])):∃a y z,v= .ref a∧H a=some (.tup [.str k,y,z])∧TrAt H y t∧TrAt H z u:=by
 obtain ⟨a,vs,e,h1,h2⟩:=cj h
 obtain ⟨y,r,rfl,h3,h4⟩:=h2.inv
 obtain ⟨z,r2,rfl,h5,h6⟩:=h4.inv
 unfold TrsAt at h6
 subst h6
 exact ⟨a,y,z,e,h1,h3,h5⟩
theorem at_s {H:Hp} {v:V} {x:Str} (h:TrAt H v (.str x)):v= .str x:=by
 unfold TrAt at h
 exact h
theorem at_t {H:Hp} {v:V} {ts:List Tr} (h:TrAt H v (.tup ts)):∃a vs,v= .ref a∧H a=some (.tup vs)∧TrsAt H vs ts:=by
 unfold TrAt at h
 exact h
theorem bK {H:Hp} {x:Str}:TrAt H (.str x) (.str x):=by unfold TrAt;rfl
theorem bX {H:Hp} {r:Addr} {vs:List V} {ts:List Tr} (h:H r=some (.tup vs)) (h1:TrsAt H vs ts):TrAt H (.ref r) (.tup ts):=by
 unfold TrAt
 exact ⟨r,vs,rfl,h,h1⟩
theorem dU {H:Hp} {v:V} {a b:Tr} (h:TrAt H v (.tup [a,b])):∃r x y,v= .ref r∧H r=some (.tup [x,y])∧TrAt H x a∧TrAt H y b:=by
 unfold TrAt at h
 obtain ⟨r,vs,e,h1,h2⟩:=h
 obtain ⟨x,r1,rfl,h3,h4⟩:=h2.inv
 obtain ⟨y,r2,rfl,h5,h6⟩:=h4.inv
 unfold TrsAt at h6
 subst h6
 exact ⟨r,x,y,e,h1,h3,h5⟩
theorem sZ {H:Hp} {v:V} {a b:Int} (h:TrAt H v (.tup [.int a, .int b])):∃r,v= .ref r∧H r=some (.tup [.int a, .int b]):=by
 obtain ⟨r,x,y,e,h1,h2,h3⟩:=dU h
 unfold TrAt at h2 h3
 subst h2 h3
 exact ⟨r,e,h1⟩
theorem jp {H:Hp} {r:Addr} {x y:V} {a b:Tr} (h:H r=some (.tup [x,y])) (h1:TrAt H x a) (h2:TrAt H y b):TrAt H (.ref r) (.tup [a,b]):=by
 unfold TrAt
 exact ⟨r,_,rfl,h, .cons h1 (.cons h2 .nil)⟩
theorem fU {H:Hp} {r:Addr} {a b:Int} (h:H r=some (.tup [.int a, .int b])):TrAt H (.ref r) (.tup [.int a, .int b]):=jp h (by unfold TrAt;rfl) (by unfold TrAt;rfl)
theorem ku {H:Hp} {v:V} {p:Fr} (h:TrAt H v (frT p)):∃r,v= .ref r∧H r=some (.tup [.int p.1, .int p.2]):=sZ h
theorem bc {n:Nat}:∀ {ts:List Tr},(∀t∈ts,t.depth≤n)→Trs.depth ts≤n
 | [],_=>by unfold Trs.depth;omega
 |t::ts,h=>by
  unfold Trs.depth
  have h1:=h t x5
  have h2:=bc fun u m=>h u (x6 t m)
  omega
end L2
namespace L2
open PySem PySem.Spec PyProof.Rows
section
variable {X:Cx}
end
end L2
namespace Tre
open PySem L2
theorem iM {t:Tr} (h:Ty .tm t):∃ts,t= .tup ts:=by
 cases h<;>exact ⟨_,rfl⟩
end Tre
namespace Su
open PySem L2 Tre Mth Wd
structure Gq (e:Nat) (p:Pq):Prop where
 ty:Ty .tm p.1
 dep:p.1.depth≤7
 gf:Gf e p.2
 sh:Sh p.2
theorem jx {α:Type} {us:List α} {i:Nat} {u:α} (e:us[i]?=some u):us.take (i+1)=us.take i++ [u]:=by
 rw [xQ,e]
 rfl
open PySem L2 Tre Mth Wd
def negF (f:Fr):Fr:=(-f.1,f.2)
def neg (p:Pq):Pq:=(p.1,negF p.2)
def m1:Fr:=(-1,1)
def p1:Fr:=(1,1)
end Su
namespace L2
theorem ne_int {a b:Int} (h:a=b):(!decide (V.int a=V.int b))=false:=by
 rw [h,decide_eq_true rfl]
 rfl
open PySem PySem.Spec PyProof.Rows
section
variable {X:Cx}
theorem gc:∀ {ys:List Str} {us:List Value},Vals (ys.map V.str) us→StrsAre us ys
 | [],_,r=>by cases r;exact .nil
 |y::ys,_,r=>by
  rw [xg] at r
  cases r with
  |cons r1 r2=>
   obtain ⟨t,rfl⟩:=r1
   exact .cons y t (gc r2)
def wz (K:PySem.W.Frag):V→List V→Hp→VK→Prop:=fun x vs H Q=>∃(sep:Str) (l:Addr) (ys:List Str),x= .str sep∧vs= [.ref l]∧SqL K H l (ys.map V.str)∧(ys.map (·.length)).sum+ys.length*sep.length≤16777216∧Q (.str (Txt.join sep ys)) H
theorem mv:MtM X "str.join" (wz X.K):=by
 intro pins s σ H x vs v us Q I rx rv h
 obtain ⟨sep,l,ys,rfl,rfl,hl,hz,q⟩:=h
 obtain ⟨t,rfl⟩:=rx
 obtain ⟨u,rfl,ru⟩:=rv.one
 cases ru
 obtain ⟨its,r,p,_⟩:=I.list hl
 exact PyProof.Rows.join_list p.isList (by simpa using gc r) hz fun t' k=>⟨.str _,H,I.tok k,⟨_,rfl⟩,q⟩
def rSlS:V→Option Int→Option Int→Hp→VK→Prop:=fun x lo hi H Q=>∃(z:Str),x= .str z∧z.length≤sizeLine∧Q (.str (Txt.slice z lo hi)) H
theorem iY:SlR X rSlS:=by
 intro pins s σ H x v vl vu lo hi sl Q I rx hs pl pu h
 obtain ⟨z,rfl,hz,q⟩:=h
 obtain ⟨t,rfl⟩:=rx
 obtain ⟨o,ho,hc,hd⟩:=hs
 refine ⟨"str",_,PySem.F.slot_str_getitem.lookup,typeIs_str _ _ _,?_⟩
 cases pl with
 |none=>
  cases pu with
  |none=>exact wpAny_getItem_str_slice (l:=none) (u:=none) (st:=none) ⟨o,ho,hc,hd⟩ rfl (post_val_or_str ⟨xI (Txt.slice_le z none none) hz,fun t' k=>⟨.str _,H,I.tok k,⟨_,rfl⟩,q⟩⟩)
  |int j tj=>exact wpAny_getItem_str_slice (l:=none) (u:=some (j,tj)) (st:=none) ⟨o,ho,hc,hd⟩ rfl (post_val_or_str ⟨xI (Txt.slice_le z none (some j)) hz,fun t' k=>⟨.str _,H,I.tok k,⟨_,rfl⟩,q⟩⟩)
 |int i ti=>
  cases pu with
  |none=>exact wpAny_getItem_str_slice (l:=some (i,ti)) (u:=none) (st:=none) ⟨o,ho,hc,hd⟩ rfl (post_val_or_str ⟨xI (Txt.slice_le z (some i) none) hz,fun t' k=>⟨.str _,H,I.tok k,⟨_,rfl⟩,q⟩⟩)
  |int j tj=>exact wpAny_getItem_str_slice (l:=some (i,ti)) (u:=some (j,tj)) (st:=none) ⟨o,ho,hc,hd⟩ rfl (post_val_or_str ⟨xI (Txt.slice_le z (some i) (some j)) hz,fun t' k=>⟨.str _,H,I.tok k,⟨_,rfl⟩,q⟩⟩)
end
section
variable {X:Cx}
def uD:R2:=fun x y H Q=>∃l b xs,x= .ref l∧y= .ref b∧H l=some (.lst xs)∧H b=some (.lst [])∧Q (.bl (!xs.isEmpty)) H
theorem pU (hu:X.A.units+1 < cLine):OpR X (compareOp .NotEq) uD:=by
 intro pins s σ H x y v u Q I rx ry h
 obtain ⟨l,b,xs,rfl,rfl,hH,hB,q⟩:=h
 cases rx
 cases ry
 obtain ⟨its,r,pl,_⟩:=I.list (SqL.of hH)
 obtain ⟨its2,r2,pl2,_⟩:=I.list (SqL.of hB)
 cases r2
 have fin:∀k:Bool,k= !xs.isEmpty→EP X pins σ Q (.bool k) s:=fun k e=>by subst e;exact ⟨.bl _,H,I,rfl,q⟩
 cases r with
 |nil=>exact SeqAt.RcNeAt.lists (e:=fun _=>true) pl.isList pl2.isList rfl (by omega) (fun j h1 _=>absurd h1 (by simp)) X.prog X.w X.xe _ (fin _ rfl)
 |cons r1 r2=>exact SeqAt.RcNeAt.lists_lengths pl.isList pl2.isList (by simp) (by omega) X.prog X.w X.xe _ (fin _ rfl)
theorem fo:∀ {bs:List Bool} {us:List Value},Vals (bs.map V.bl) us→us=bs.map Value.bool
 | [],_,r=>by cases r;rfl
 |b::bs,_,r=>by
  rw [xg] at r
  cases r with
  |cons r1 r2=>rw [fo r2,(show _=Value.bool b from r1)];rfl
theorem o9 (hc:X.calm=true):c7 X (.builtin "all") (fun xs H Q=>∃(p:Addr) (bs:List Bool),xs= [.ref p]∧SqL X.K H p (bs.map V.bl)∧Q (.bl (bs.all id)) H):=by
 intro pins s σ H xs us Q I r h
 obtain ⟨p,bs,rfl,hp,q⟩:=h
 obtain ⟨u,rfl,ru⟩:=cQ r
 cases ru
 obtain ⟨its,rv,pl,_⟩:=I.list hp
 have e:=fo rv
 subst e
 have hlt:p < s.heap.objs.size:=by obtain ⟨_,e,_⟩:=pl.isList;exact Heap.lt_size e
 refine call_all_walk (wpAny_pyIter_list pl.isList ⟨s.heap.objs.size,[s.heap.objs.size,p],[s.heap.objs.size],(bs.map Value.bool).toArray.size,_,_,fun i=>(bs[i]?).getD true,rfl,Walks.list (A:=X.A.in1) (I.ok.hd hc) _ p (xu hlt) _,
  ⟨⟨_,Heap.get?_push_size _ rfl,rfl,rfl⟩,pl.isList.push _⟩,fun i v s' Q' E' hP hQ=> ?_,fun h' tk hk=> ?_⟩)
 · have hP':(bs.map Value.bool)[i]?=some v:=by simpa using hP
   rw [xw] at hP'
   obtain ⟨b,e,rfl⟩:=xG.mp hP'
   dsimp only at hQ
   rw [e] at hQ
   exact wpAny_truthy_bool hQ
 · have e:((List.range (bs.map Value.bool).toArray.size).all fun i=>(bs[i]?).getD true)=bs.all id:=by
    rw [xc,wZ]
    exact PyProof.Rows.LSm.range_all bs
   rw [e]
   refine ⟨.bl _,H,I.kept (t':=tk) fun b x ex=>hk b x (fun hm=> ?_) (Heap.get?_push_of_some _ ex),rfl,q⟩
   rw [x8.mp hm] at ex
   exact yw _ (Heap.lt_size ex)
end
end L2
namespace Trm
open PySem
inductive Tm where
 |nm (x:Str)
 |ap (f:Str) (ts:List Tm)
def Ltr (c:Nat):Prop:=97≤c∧c≤122
structure Nm (x:Str):Prop where
 pos:0 < x.length
 le:x.length≤8
 ltr:∀c∈x.cps.toList,Ltr c
mutual
noncomputable def Tm.depth:Tm→Nat
 | .nm _=>0
 | .ap _ ts=>Tms.depth ts+1
noncomputable def Tms.depth:List Tm→Nat
 | []=>0
 |t::ts=>max (Tm.depth t) (Tms.depth ts)
end
open PySem
def cl (x:Str):List Nat:=x.cps.toList
theorem bR (x y:Str):cl (x++y)=cl x++cl y:=by
 show (x.cps++y.cps).toList=_
 simp [cl]
theorem aT (x:Str):(cl x).length=x.length:=by simp [cl,Str.length]
theorem nm_cl {x:Str} (h:Nm x):∃c l,cl x=c::l∧Ltr c:=by
 cases e:cl x with
 |nil=>
  have:=aT x
  rw [e] at this
  have:=h.pos
  simp at*
  omega
 |cons c l=>exact ⟨c,l,rfl,h.ltr c (by show c∈cl x;rw [e];exact x5)⟩
open Classical in
noncomputable def add (acc:List Tm) (t:Tm):List Tm:=if t∈acc then acc else acc++ [t]
noncomputable def firsts (acc ts:List Tm):List Tm:=ts.foldl add acc
theorem dw (acc:List Tm):firsts acc []=acc:=rfl
end Trm
namespace L2
open PySem PySem.Spec PyProof.Rows
section
variable {X:Cx}
def ww:V→List V→Hp→VK→Prop:=fun x vs H Q=>∃a kvs k v,x= .ref a∧vs= [kV k,v]∧H a=some (.dK kvs)∧kvs.length < sizeLine∧
 (∀z,valV kvs k=some z→Q z H)∧(valV kvs k=none→Q v (upd H a (.dK (kvs++ [(k,v)]))))
theorem di:MtM X "dict.setdefault" ww:=by
 intro pins s σ H x vs u us Q I rx rv h
 obtain ⟨a,kvs,k,v,rfl,rfl,hH,hz,h1,h2⟩:=h
 cases rx
 obtain ⟨u1,u2,rfl,r1,r2⟩:=rv.two
 obtain ⟨z,hd,ws,rel,dd⟩:=k8 I.hok hH
 refine call_meetsIn PySem.F.slot_dict_setdefault dd.typeIs PySem.F.entry_dict_setdefault (PySem.F.args_dict_setdefault_3 _ _ _) (kt_meets_setdefault (aR X.prog X.w) a (mR r1) hd u2)
  ⟨ws,dd,by rw [←rel.length];exact z,fun q hq=> ?_,fun hq h' dd' hs=> ?_⟩
 · have rk:=rel.val k
   rw [hq] at rk
   cases e:valV kvs k with
   |none=>rw [e] at rk;exact rk.elim
   |some y=>rw [e] at rk;exact ⟨y,H,I.tok _,rk,h1 y e⟩
 · have rk:=rel.val k
   rw [hq] at rk
   cases e:valV kvs k with
   |some y=>rw [e] at rk;exact rk.elim
   |none=>
    have he:∃q,h'.get? a=some q:=let ⟨q,_,_,hq,_⟩:=dd';⟨q,hq⟩
    have hp:=rel.put k r2
    rw [gp v e] at hp
    exact ⟨v,_,fQ I (by rw [hH];exact True.intro) hs he (qZ (by rw [x3,xm];omega) hd hp dd'),r2,h2 e⟩
def cv (v d:Addr):HO:= .ext fun h=>h.IsValuesView v d
theorem rM {P:Program} {w:World} {H:Hp} {h:Heap} {v d:Addr} (x:h.IsValuesView v d):ObjOk P w H h v (cv v d):=by
 obtain ⟨o,e,r⟩:=x
 exact ⟨⟨o,e,r⟩,⟨_,e⟩,fun _ _ ⟨o',y,c⟩ k=>⟨o',k _ y,c⟩⟩
def sk:V→List V→Hp→VK→Prop:=fun x vs H Q=>∃a kvs,x= .ref a∧vs= []∧H a=some (.dK kvs)∧∀v,H v=none→Q (.ref v) (upd H v (cv v a))
theorem df:MtM X "dict.values" sk:=by
 intro pins s σ H x vs u us Q I rx rv h
 obtain ⟨a,kvs,rfl,rfl,hH,q⟩:=h
 cases rx
 cases rv.zero
 obtain ⟨z,hd,ws,rel,dd⟩:=k8 I.hok hH
 refine call_meetsIn PySem.F.slot_dict_values dd.typeIs PySem.F.entry_dict_values (PySem.F.args_dict_values_1 _) (meets_dict_values (aR X.prog X.w) a hd) ⟨⟨ws,dd⟩,?_⟩
 exact ⟨.ref _,_,I.laid (t':=s.toks) (fun b ob e=>Heap.get?_push_of_some _ e) (x9 _) (rM ⟨_,Heap.get?_push_size _ rfl,rfl,rfl⟩),rfl,q _ (I.hok.fresh (x9 _))⟩
theorem dG (hc:X.calm=true):c7 X (.type "list") (fun xs H Q=>∃v a kvs,xs= [.ref v]∧H v=some (cv v a)∧H a=some (.dK kvs)∧∀l,H l=none→Q (.ref l) (upd H l (.lst (kvs.map (·.2))))):=by
 intro pins s σ H xs us Q I r h
 obtain ⟨v,a,kvs,rfl,hv,hH,q⟩:=h
 obtain ⟨u,rfl,ru⟩:=cQ r
 cases ru
 obtain ⟨z,hd,ws,rel,dd⟩:=k8 I.hok hH
 obtain ⟨hview,_⟩:=(show ObjOk X.prog X.w H s.heap v (cv v a) from I.hok v _ hv)
 obtain ⟨ep,hat⟩:=dd.dictAt
 refine PySem.W.kdl_call (PySem.W.kdl_values (knd:=aR X.prog X.w) (kvs:=ws) (ep:=ep)) (I.ok.hd hc) ⟨hview,hat⟩ (by rw [←rel.length];exact z) fun h' tk acc' c' hk hD hacc=> ?_
 have e:acc'.toList=ws.map (·.2):=PySem.W.kdl_vals_eq acc'.toList (by rw [xb];exact hacc.1) fun j x ex=>hacc.2 j x (by rw [←xk];exact ex)
 have rr:Vals (kvs.map (·.2)) acc'.toList:=by
  rw [e]
  clear e hacc hD hk hat dd z q hH
  induction rel with
  |nil=>exact .nil
  |cons r1 _ ih=>exact .cons r1.2 ih
 refine ⟨.ref _,_,I.laid (t':=tk) (o:= .lst (kvs.map (·.2))) hk (x9 _) ⟨by rw [wZ];exact z,acc'.toList,c',rr,by rw [Array.toArray_toList];exact hD⟩,rfl,q _ (I.hok.fresh (x9 _))⟩
end
open PySem PySem.Spec PyProof.Rows
section
variable {prog:Program} {w:World} {A:Around} {R:Result→Shared→Prop} {it S:Addr} {fp wr:List Addr} {n:Nat} {P:Nat→Value→Prop} {St:Nat→Heap→Prop} {kw:List (Str×Value)}
end
section
variable {X:Cx}
end
end L2
namespace Trm
open PySem PySem.Spec PyProof.Rows L2
mutual
def TmAt (H:Hp):V→Tm→Prop
 |v, .nm x=>∃r,v= .ref r∧H r=some (.tup [.str "name", .str x])
 |v, .ap f ts=>∃r q vs,v= .ref r∧H r=some (.tup [.str "call", .str f, .ref q])∧H q=some (.tup vs)∧TmsAt H vs ts
def TmsAt (H:Hp):List V→List Tm→Prop
 |vs,[]=>vs= []
 |vs,t::ts=>∃v r,vs=v::r∧TmAt H v t∧TmsAt H r ts
end
def Tup (H H':Hp):Prop:=∀a xs,H a=some (.tup xs)→H' a=some (.tup xs)
theorem Tup.refl (H:Hp):Tup H H:=fun _ _ e=>e
theorem TmsAt.inv {H:Hp} {t:Tm} {vs:List V} {ts:List Tm} (h:TmsAt H vs (t::ts)):∃v r,vs=v::r∧TmAt H v t∧TmsAt H r ts:=by
 unfold TmsAt at h
 exact h
theorem TmsAt.len {H:Hp}:∀ {vs:List V} {ts:List Tm},TmsAt H vs ts→vs.length=ts.length
 |vs,[],h=>by
  unfold TmsAt at h
  rw [h]
  rfl
 |vs,t::ts,h=>by
  obtain ⟨v,r,e,_,h2⟩:=h.inv
  rw [e,xh,xh,h2.len]
theorem TmAt.ref {H:Hp} {v:V} {t:Tm} (h:TmAt H v t):∃r,v= .ref r:=by
 cases t with
 |nm x=>unfold TmAt at h;obtain ⟨r,e,_⟩:=h;exact ⟨r,e⟩
 |ap f ts=>unfold TmAt at h;obtain ⟨r,_,_,e,_⟩:=h;exact ⟨r,e⟩
section
variable {X:Cx} {pins:List (Addr×Obj)} {σ:L2.St} {H:Hp} {s:Shared} {A:Around}
def e2 (x y:Str):Nat→Bool
 |0=>true
 |_=>x==y
def e3 (x y:Str) (k:Bool):Nat→Bool
 |0=>true
 |1=>x==y
 |_=>k
def e0 (k:Bool):Nat→Bool
 |0=>false
 |_=>k
end
end Trm
namespace Dec
open PySem PySem.NumText L2 Mth
theorem nt:∀(ys:List Str),cl (Txt.join (Str.ofString "") ys)=(ys.map cl).flatten:=by
 intro ys
 have e:Txt.join (Str.ofString "") ys=Str.join (Str.ofString "") ys:=StrLaws.glued_eq_join _ _
 have e0:cl (Str.ofString "")= []:=by decide +kernel
 rw [e]
 induction ys with
 |nil=>rfl
 |cons y ys ih=>
  cases ys with
  |nil=>
   show cl y= [cl y].flatten
   simp
  |cons z ys=>
   have e2:Str.join (Str.ofString "") (y::z::ys)=y++Str.ofString ""++Str.join (Str.ofString "") (z::ys):=rfl
   rw [e2,bR,bR,e0,ih (StrLaws.glued_eq_join _ _)]
   simp
theorem lF (m:Nat):cl (Str.ofString (toString ((m:Nat):Int)))=ds m:=PySem.W.KIN.signs_num m
theorem jZ:∀(ps:List Str),((ps.map cl).flatten).length=(ps.map (·.length)).sum
 | []=>rfl
 |p::ps=>by
  simp only [xg,List.flatten_cons,x3,List.sum_cons]
  rw [jZ ps,aT]
theorem jY (ps:List Str):((ps.reverse.map cl).flatten).length=(ps.map (·.length)).sum:=by
 rw [jZ,List.map_reverse,List.sum_reverse]
theorem oQ:∀ {ps:List Str},(∀p∈ps,0 < p.length)→ps.length≤(ps.map (·.length)).sum
 | [],_=>x9 _
 |p::ps,h=>by
  have h1:=h p x5
  have h2:=oQ fun q m=>h q (x6 p m)
  simp only [xg,List.sum_cons,xh]
  omega
theorem qz {m:Nat} (h:m < 10^200):((m:Nat):Int).natAbs.log2 < 1920:=by
 rw [Int.natAbs_natCast]
 by_cases z:m=0
 · subst z
   decide
 · rw [Nat.log2_lt z]
   exact xC h (by decide +kernel)
theorem vK (x:Int):(if x < 0 then -x else x)=(x.natAbs:Int):=by split<;>omega
theorem e_cl:cl (Str.ofString "")= []:=by decide +kernel
theorem m_cl:cl (Str.ofString "-")= [45]:=by decide +kernel
theorem s_cl:cl (Str.ofString "/")= [47]:=by decide +kernel
theorem len_app (x y:Str):(x++y).length=x.length+y.length:=by rw [←aT,bR,x3,aT,aT]
theorem rO {x y:Int} (hx:x.natAbs < 10^200) (hy:y.natAbs < 10^200):(txt x y).length≤402:=by
 unfold txt sg low
 have h1:=dy 199 hx
 have h2:=dy 199 hy
 simp only [x3]
 split<;>split<;>simp<;>omega
end Dec
namespace Tw
open PySem L2 Tre Wd Mth Dec Su
mutual
noncomputable def tmC:Tr→List Nat
 | .tup (_:: .str x::r)=>match r with
  | []=>cl x
  |t::_=>40::cl x++tmK t++ [41]
 |_=> []
noncomputable def tmK:Tr→List Nat
 | .tup ts=>tmsC ts
 |_=> []
noncomputable def tmsC:List Tr→List Nat
 | []=> []
 |t::ts=>32::tmC t++tmsC ts
end
theorem d9 (k x:Str):tmC (.tup [.str k, .str x])=cl x:=by rw [tmC]
theorem cL (k x:Str) (ts:List Tr):tmC (.tup [.str k, .str x, .tup ts])=40::cl x++tmsC ts++ [41]:=by rw [tmC,tmK]
noncomputable def spC (cs:List (List Nat)):List Nat:=(cs.map (32:: ·)).flatten
theorem d8:∀ts,tmsC ts=spC (ts.map tmC)
 | []=>by rw [tmsC];rfl
 |t::ts=>by
  rw [tmsC,d8 ts]
  rfl
theorem rX (a b:List (List Nat)):spC (a++b)=spC a++spC b:=by
 unfold spC
 rw [xD,List.flatten_append]
theorem rW (c:List Nat):spC [c]=32::c:=by simp [spC]
theorem da {B:Nat}:∀ {cs:List (List Nat)},(∀c∈cs,c.length≤B)→(spC cs).length≤cs.length*(B+1)
 | [],_=>xz _
 |c::cs,h=>by
  have h1:=h c x5
  have h2:=da fun d m=>h d (x6 c m)
  have e:spC (c::cs)=(32::c)++spC cs:=rfl
  rw [e,x3,xh,xh,Nat.succ_mul]
  omega
theorem name_len {k x:Str} {d:Nat} (h:x.length≤8):(tmC (.tup [.str k, .str x])).length≤13*4^d:=by
 rw [d9,aT]
 have:=xZ (n:=d) (show 0 < 4 by decide)
 omega
theorem call_len {k x:Str} {ts:List Tr} {d:Nat} (h:x.length≤8) (h3:ts.length≤3) (h0:0 < d) (hw:∀t∈ts,(tmC t).length≤13*4^(d - 1)):(tmC (.tup [.str k, .str x, .tup ts])).length≤13*4^d:=by
 obtain ⟨e,rfl⟩:∃e,d=e+1:=⟨d - 1,by omega⟩
 rw [cL,d8]
 rw [show e+1 - 1=e by omega] at hw
 have h2:=da (B:=13*4^e) (cs:=ts.map tmC) (fun c m=>by
  obtain ⟨t,mt,rfl⟩:=xy.mp m
  exact hw t mt)
 rw [wZ] at h2
 have h4:ts.length*(13*4^e+1)≤3*(13*4^e+1):=xJ _ h3
 have h5:=xZ (n:=e) (show 0 < 4 by decide)
 simp only [x3,xh,xP,aT]
 rw [ya]
 omega
theorem we:cl (Str.ofString " ")= [32]:=by decide +kernel
theorem wO:cl (Str.ofString "(")= [40]:=by decide +kernel
theorem wu:cl (Str.ofString ")")= [41]:=by decide +kernel
theorem ki (y:Str) (ys:List Str):cl (Txt.join (Str.ofString " ") (y::ys))=cl y++spC (ys.map cl):=by
 have e:Txt.join (Str.ofString " ") (y::ys)=Str.join (Str.ofString " ") (y::ys):=StrLaws.glued_eq_join _ _
 rw [e]
 clear e
 induction ys generalizing y with
 |nil=>
  show cl y=cl y++spC []
  simp [spC]
 |cons z ys ih=>
  have e2:Str.join (Str.ofString " ") (y::z::ys)=y++Str.ofString " "++Str.join (Str.ofString " ") (z::ys):=rfl
  rw [e2,bR,bR,we,ih z]
  simp [spC]
theorem oP {B:Nat}:∀ {ys:List Str},(∀y∈ys,y.length≤B)→(ys.map (·.length)).sum≤ys.length*B
 | [],_=>xz _
 |y::ys,h=>by
  have h1:=h y x5
  have h2:=oP fun z m=>h z (x6 y m)
  simp only [xg,List.sum_cons,xh]
  rw [Nat.succ_mul]
  omega
noncomputable def frC (p:Fr):List Nat:=txt p.1 p.2
theorem oF:(2:Nat)^200≤10^200:=Nat.pow_le_pow_left (by decide) _
theorem Gfl {p:Fr} (h:Gf 200 p):p.1.natAbs < 10^200∧p.2.natAbs < 10^200:=⟨xC h.top oF,xC h.bot oF⟩
theorem jg {p:Fr} (h:Gf 200 p):(frC p).length≤402:=rO (Gfl h).1 (Gfl h).2
inductive Gm:Tr→Prop
 |nm (x:Str):Trm.Nm x→Gm (.tup [s_ "name", .str x])
 |ap (f:Str) (ts:List Tr):Trm.Nm f→0 < ts.length→ts.length≤3→(∀t∈ts,Gm t)→Gm (.tup [s_ "call", .str f, .tup ts])
theorem Gm.ty {t:Tr} (h:Gm t):Ty .tm t:=by
 induction h with
 |nm x hx=>exact .nm x
 |ap f ts hf h0 h3 _ ih=>exact .ap f ts h3 ih
structure Tb (t:Tr):Prop where
 ty:Ty .tm t
 dep:t.depth≤7
 len:(tmC t).length≤1000
 gm:Gm t
structure Pb (p:Pq):Prop where
 tb:Tb p.1
 gf:Gf 200 p.2
 sh:Sh p.2
 d5:p.1.depth≤5
noncomputable def prC (p:Pq):List (List Nat):= [frC p.2,tmC p.1]
def hd (k:Str):List Nat:=40::cl k
inductive Wx:Nat→Tr→List Nat→Prop
 |fl (n:Nat) (x:Str):Trm.Nm x→Wx n (.tup [s_ "flag", .str x]) (cl x)
 |mo (n:Nat) (ps:List Pq) (f:Fr):ps.length≤3→(∀p∈ps,Pb p)→Gf 200 f→Can ps ps→Sh f→Wx n (.tup [s_ "most", .tup (ps.map prT),frT f]) (hd "most"++spC (ps.flatMap prC++ [frC f])++ [41])
 |li (n:Nat) (t u:Tr):Tb t→Tb u→Wx n (.tup [s_ "like",t,u]) (hd "like"++spC [tmC t,tmC u]++ [41])
 |no (n:Nat) (t:Tr) (c:List Nat):Wx n t c→Wx (n+1) (.tup [s_ "not",t]) (hd "not"++spC [c]++ [41])
 |bo (n:Nat) (l:List (Tr×List Nat)):l.length≤3→(∀p∈l,Wx n p.1 p.2)→Wx (n+1) (.tup [s_ "both", .tup (l.map (·.1))]) (hd "all"++spC (l.map (·.2))++ [41])
 |ei (n:Nat) (l:List (Tr×List Nat)):l.length≤3→(∀p∈l,Wx n p.1 p.2)→Wx (n+1) (.tup [s_ "either", .tup (l.map (·.1))]) (hd "any"++spC (l.map (·.2))++ [41])
theorem vv:(hd "most").length=5∧(hd "like").length=5∧(hd "not").length=4∧(hd "all").length=4∧(hd "any").length=4:=by decide +kernel
theorem m4 {ps:List Pq} (h:∀p∈ps,Pb p):∀c∈ps.flatMap prC,c.length≤1000:=fun c m=>by
 obtain ⟨p,mp,mc⟩:=xA.mp m
 have hp:=h p mp
 rcases xi.mp mc with rfl|mc
 · have:=jg hp.gf
   omega
 · rw [x8.mp mc]
   exact hp.tb.len
theorem gr (ps:List Pq):(ps.flatMap prC).length=2*ps.length:=by
 induction ps with
 |nil=>rfl
 |cons p ps ih=>
  rw [xS,x3,ih,xh]
  show 2+_=_
  omega
theorem Wx.len {n:Nat} {t:Tr} {c:List Nat} (h:Wx n t c):c.length≤8000*4^n:=by
 have hh:=vv
 induction h with
 |fl n x h=>
  rw [aT]
  have:=h.le
  have:=xZ (n:=n) (show 0 < 4 by decide)
  omega
 |mo n ps f h1 h2 h3 _ _=>
  have h4:=da (B:=1000) (cs:=ps.flatMap prC++ [frC f]) (fun c m=>by
   rcases xj.mp m with m|m
   · exact m4 h2 c m
   · rw [x8.mp m]
     have:=jg h3
     omega)
  rw [x3,gr,xm] at h4
  have h5:(2*ps.length+1)*(1000+1)≤7*1001:=xJ _ (by omega)
  have:=xZ (n:=n) (show 0 < 4 by decide)
  simp only [x3,xm,hh.1]
  omega
 |li n t u h1 h2=>
  have h3:=h1.len
  have h4:=h2.len
  have:=xZ (n:=n) (show 0 < 4 by decide)
  simp only [x3,xm,hh.2.1,spC,xg,List.map_nil,List.flatten_cons,List.flatten_nil,xh,xP]
  omega
 |no n t c _ ih=>
  have:=xZ (n:=n) (show 0 < 4 by decide)
  rw [rW,ya]
  simp only [x3,xm,hh.2.2.1,xh,xP]
  omega
 |bo n l h1 h2 ih=>
  have h4:=da (B:=8000*4^n) (cs:=l.map (·.2)) (fun c m=>by
   obtain ⟨p,mp,rfl⟩:=xy.mp m
   exact ih p mp)
  rw [wZ] at h4
  have h5:l.length*(8000*4^n+1)≤3*(8000*4^n+1):=xJ _ h1
  have:=xZ (n:=n) (show 0 < 4 by decide)
  rw [ya]
  simp only [x3,xm,hh.2.2.2.1]
  omega
 |ei n l h1 h2 ih=>
  have h4:=da (B:=8000*4^n) (cs:=l.map (·.2)) (fun c m=>by
   obtain ⟨p,mp,rfl⟩:=xy.mp m
   exact ih p mp)
  rw [wZ] at h4
  have h5:l.length*(8000*4^n+1)≤3*(8000*4^n+1):=xJ _ h1
  have:=xZ (n:=n) (show 0 < 4 by decide)
  rw [ya]
  simp only [x3,xm,hh.2.2.2.2]
  omega
theorem l6 {n:Nat} (h:n≤3):8000*4^n≤512000:=by
 have:4^n≤4^3:=Nat.pow_le_pow_right (by decide) h
 omega
end Tw
namespace K09
open PySem PySem.NumText L2 Mth Dec Tre Wd
abbrev PW:Nat:=10^64
section
variable {P:Program} {w:World} {K:PySem.W.Frag} {mg:Str→Option Value} {base:Heap}
def spFg:Sp:=fun vs H Q _=>∃(n:Nat),vs= [.int (n:Int)]∧n < 10^200∧∀(z:Str) (H':Hp),Same H H'→cl z=ds n→Q (.str z) H'
theorem scFg:ay ["number","pieces"] ["number"] (ai sFg):=⟨rfl,rfl,rfl,by decide +kernel,rfl,by decide +kernel,by decide +kernel⟩
theorem wM {f:Addr} {fd:FuncData} {tp tw:Tok} (F:Fun K "figures_of" "figures_of" sFg f fd) (B:Blt mg) (mP:mg "PIECE"=some (.int 64 tp)) (mW:mg "PIECE_WORTH"=some (.int ((PW:Nat):Int) tw)):FnOk P w K mg base CX0 1 f fd ["number"] spFg:=by
 refine F.ok scFg (fun vs H Q E h=> ?_) (fun cdv A outer s H vs Q E hr h=> ?_)
 · obtain ⟨n,rfl,_⟩:=h
   rfl
 obtain ⟨n,rfl,hn,k⟩:=h
 refine ⟨_,ag (ar (i:=1) scFg.nd rfl (Or.inl rfl) (aL aa))
  (ag (jE PassesOwn.never (au wD (pv 0) (dc (v:= .int ((PW:Nat):Int)) rfl mW ⟨_,rfl⟩) (aB _))
   (ag (aZ (cq PySem.F.plainAttrs_list PySem.F.slot_list_append PySem.F.type_list_append bN (pv 1) (a9
    (cq PySem.F.plainAttrs_str PySem.F.slot_str_zfill PySem.F.type_str_zfill ql (aU eI rfl B.st PyProof.Rows.boot_str (a9 (aw cf (pv 0) (dc (v:= .int ((PW:Nat):Int)) rfl mW ⟨_,rfl⟩)) aa)) (a9 (dc (v:= .int 64) rfl mP ⟨_,rfl⟩) aa)) aa)))
   (aj (ar (i:=0) scFg.nd rfl (Or.inl rfl) (aw dX (pv 0) (dc (v:= .int ((PW:Nat):Int)) rfl mW ⟨_,rfl⟩))))))
  (aj (ao (aw bv (aU eI rfl B.st PyProof.Rows.boot_str (a9 (pv 0) aa)) (pO rfl rfl B.rv (pv 1)))))),?_⟩
 have hL:(20000:Nat)≤sizeLine:=by decide +kernel
 refine ⟨by show 0≤sizeLine;decide,fun L nL=> ?_⟩
 refine js (fun σ H'=>Same H H'∧∃(m:Nat) (ps:List Str),σ= [some (.int (m:Int)),some (.ref L)]∧H' L=some (.lst (ps.map V.str))∧(∀p∈ps,0 < p.length)∧m≤n∧ds n=ds m++(ps.reverse.map cl).flatten)
  (fun σ _=>match σ with| [some (.int y),_]=>y.natAbs|_=>0) ⟨af nL,n,[],rfl,ac,(fun p m=>by cases m),x9 _,by simp⟩ ?_ ?_
 · rintro σ H' ⟨sH,m,ps,rfl,hLs,hp,hm,e⟩
   have hm200:m < 10^200:=xO hm hn
   have hlen:=congrArg List.length e
   rw [x3,jY] at hlen
   have hn2:=dy 199 hn
   have hps:=oQ hp
   refine ⟨_,rfl,_,_,rfl,rfl,_,rfl,?_⟩
   by_cases z:((PW:Nat):Int)≤(m:Int)
   · have zN:PW≤m:=by omega
     rw [decide_eq_true z]
     refine iteT ?_
     have er:(m:Int)%((PW:Nat):Int)=((m%PW:Nat):Int):=(Int.natCast_emod m PW).symm
     have ed:(m:Int) / ((PW:Nat):Int)=((m / PW:Nat):Int):=(Int.natCast_ediv m PW).symm
     have hr64:m%PW < PW:=Nat.mod_lt _ (xZ (by decide))
     have key:cl (Str.ofString (toString ((m:Int)%((PW:Nat):Int))))=ds (m%PW):=by rw [er];exact lF _
     have hlog:((m:Int)%((PW:Nat):Int)).natAbs.log2 < 1920:=by rw [er];exact qz (xC hr64 (by decide +kernel))
     have hz:=rp (k:=63) key hr64
     refine ⟨_,rfl, .inl ⟨rfl,_,SqL.of hLs⟩,_,rfl,_,_,rfl,rfl,by show (0:Int) < ((PW:Nat):Int);decide +kernel,_,rfl,hlog,rfl,_,64,rfl,rfl,by decide +kernel,L,_,_,rfl,rfl,hLs,by rw [wZ];omega,?_⟩
     refine ⟨_,rfl,_,_,rfl,rfl,⟨by show (0:Int) < ((PW:Nat):Int);decide +kernel,by show (((PW:Nat):Int)).natAbs < 2^8000;decide +kernel⟩,?_⟩
     refine ⟨⟨aX nL sH,m / PW,ps++ [Txt.zfill (Str.ofString (toString ((m:Int)%((PW:Nat):Int)))) 64],?_,?_,fun p mp=> ?_,xI (Nat.div_le_self _ _) hm,?_⟩,?_⟩
     · rw [←ed]
       rfl
     · rw [ac,xD]
       rfl
     · rcases xj.mp mp with mp|mp
       · exact hp p mp
       · rw [x8.mp mp,←aT]
         show 0 < (cl (Txt.zfill _ ((63+1:Nat):Int))).length
         rw [hz,mh]
         decide
     · have e2:=qX (q:=m / PW) (Nat.div_pos zN (xZ (by decide))) 64 (r:=m%PW) hr64
       rw [Nat.div_add_mod'] at e2
       rw [e,e2,List.reverse_append,yy]
       show _=ds (m / PW)++((Txt.zfill _ ((63+1:Nat):Int)::ps.reverse).map cl).flatten
       rw [xg,List.flatten_cons,hz]
     · show ((m:Int) / ((PW:Nat):Int)).natAbs < ((m:Int)).natAbs
       rw [ed,Int.natAbs_natCast,Int.natAbs_natCast]
       exact Nat.div_lt_self (by omega) (by decide +kernel)
   · rw [decide_eq_false z]
     refine iteF ?_
     have hj:(Txt.join (Str.ofString "") ps.reverse).length=(ps.map (·.length)).sum:=by rw [←aT,nt,jY]
     have hs:(Str.ofString (toString (m:Int))).length=(ds m).length:=by rw [←aT,lF]
     have e0:(Str.ofString "").length=0:=by decide +kernel
     refine ⟨_,rfl,_,rfl,qz hm200,_,rfl,L,ps,rfl,hLs,by rw [e0];omega,_,_,rfl,rfl,by rw [hj,hs];omega,?_⟩
     refine k _ H' sH ?_
     rw [bR,nt,lF,e]
 · intro σ H' R R' hR h
   obtain ⟨v,e1,a,b,e2,e3,q,e4,h⟩:=h
   exact ⟨v,e1,a,b,e2,e3,q,e4,hR _ _ h⟩
def spFt (K:PySem.W.Frag):Sp:=fun vs H Q _=>∃(p:Addr) (x y:Int),vs= [.ref p]∧SqT K H p [.int x, .int y]∧0 < y∧x.natAbs < 10^200∧y.natAbs < 10^200∧∀(z:Str) (H':Hp),Same H H'→cl z=txt x y→Q (.str z) H'
theorem scFt:ay ["one","top","bottom","sign","share"] ["one"] (ai sFt):=⟨rfl,rfl,rfl,by decide +kernel,rfl,by decide +kernel,by decide +kernel⟩
theorem wL {f fG:Addr} {fd fdG:FuncData} (F:Fun K "fraction_text" "fraction_text" sFt f fd) (B:Blt mg) (GG:FnOk P w K mg base CX0 1 fG fdG ["number"] spFg) (kG:PySem.W.keepIn K (.ref fG)=true) (bG:Binds K fdG ["number"] []) (mG:mg "figures_of"=some (.ref fG)):FnOk P w K mg base CX0 2 f fd ["one"] (spFt K):=by
 refine F.ok scFt (fun vs H Q E h=> ?_) (fun cdv A outer s H vs Q E hr h=> ?_)
 · obtain ⟨p,x,y,rfl,_⟩:=h
   rfl
 obtain ⟨p,x,y,rfl,hp,y0,hx,hy,k⟩:=h
 refine ⟨_,ag (j1 (pv 0) (gE rfl (bx (aA (i:=1) scFt.nd rfl (Or.inl rfl)) (bx (aA (i:=2) scFt.nd rfl (Or.inl rfl)) dQ))))
  (ag (ar (i:=3) scFt.nd rfl (Or.inl rfl) (gG (au pV (pv 1) ae (aB _)) aC aC))
  (ag (ar (i:=4) scFt.nd rfl (Or.inl rfl) (gG (au aS (pv 2) ae (aB _)) aC (aw bv aC (ah GG hr rfl mG kG bG .nil am (a9 (pv 2) aa)))))
  (aj (ao (aw bv (aw bv (pv 3) (ah GG hr rfl mG kG bG .nil am (a9 (aE km rfl B.ab ko (a9 (pv 1) aa)) aa))) (pv 4)))))),?_⟩
 have hL:(20000:Nat)≤sizeLine:=by decide +kernel
 have l1:=dy 199 hx
 have l2:=dy 199 hy
 have ey:((y.natAbs:Nat):Int)=y:=by omega
 refine ⟨_,rfl,p,_,rfl,hp,rfl,_,_,rfl,_,_,rfl,rfl,?_⟩
 have last:∀(H1:Hp) (sT hT:Str),Same H H1→cl sT=sg x→cl hT=(if y=1 then [] else 47::ds y.natAbs)→
  (tRet (tOp (fun x y H Q=>∃i j,x= .str i∧y= .str j∧i.length+j.length≤sizeLine∧Q (.str (i++j)) H) (tOp (fun x y H Q=>∃i j,x= .str i∧y= .str j∧i.length+j.length≤sizeLine∧Q (.str (i++j)) H) (tVar 3) (g9 spFg [] E0 (bq (tCB (fun xs H Q=>∃i,xs= [.int i]∧Q (.int (if i < 0 then -i else i)) H) (bq (tVar 1) tNil)) tNil))) (tVar 4)))
   {nx:=fun _ H'=>Q .non H',rt:=Q} [some (.ref p),some (.int x),some (.int y),some (.str sT),some (.str hT)] H1:=by
  intro H1 sT hT s1 es eh
  have a1:sT.length≤1:=by
   rw [←aT,es]
   unfold sg
   split<;>simp
  have a2:hT.length≤201:=by
   rw [←aT,eh]
   split<;>simp<;>omega
  refine ⟨_,rfl,_,rfl,x,rfl,x.natAbs,by rw [vK];rfl,hx,fun z H2 s2 ez=> ?_⟩
  have a3:z.length≤200:=by rw [←aT,ez];exact l1
  refine ⟨_,_,rfl,rfl,by omega,_,rfl,_,_,rfl,rfl,by rw [len_app];omega,?_⟩
  refine k _ H2 (s1.trans s2) ?_
  rw [bR,bR,es,ez,eh]
  unfold txt low
  rw [yy]
 have share:∀sT:Str,cl sT=sg x→(tSeq (tAsg (tIf (tB (tOp rEq (tVar 2) (tC (.int 1)))) (tC (.str (Str.ofString ""))) (tOp (fun x y H Q=>∃i j,x= .str i∧y= .str j∧i.length+j.length≤sizeLine∧Q (.str (i++j)) H) (tC (.str (Str.ofString "/"))) (g9 spFg [] E0 (bq (tVar 2) tNil)))) (cF 4))
  (tRet (tOp (fun x y H Q=>∃i j,x= .str i∧y= .str j∧i.length+j.length≤sizeLine∧Q (.str (i++j)) H) (tOp (fun x y H Q=>∃i j,x= .str i∧y= .str j∧i.length+j.length≤sizeLine∧Q (.str (i++j)) H) (tVar 3) (g9 spFg [] E0 (bq (tCB (fun xs H Q=>∃i,xs= [.int i]∧Q (.int (if i < 0 then -i else i)) H) (bq (tVar 1) tNil)) tNil))) (tVar 4))))
   {nx:=fun _ H'=>Q .non H',rt:=Q} [some (.ref p),some (.int x),some (.int y),some (.str sT),none] H:=by
  intro sT es
  refine ⟨_,rfl,rfl,_,rfl,?_⟩
  by_cases e:y=1
  · rw [decide_eq_true (show V.int y=V.int 1 by rw [e])]
    refine iteT ?_
    exact last H sT _ (Same.refl H) es (by rw [if_pos e];exact e_cl)
  · rw [decide_eq_false (show¬V.int y=V.int 1 from fun q=>e (V.int.inj q))]
    refine iteF ?_
    refine ⟨_,rfl,y.natAbs,by rw [ey];rfl,hy,fun z H2 s2 ez=> ?_⟩
    have a3:z.length≤200:=by rw [←aT,ez];exact l2
    have a4:(Str.ofString "/").length=1:=by decide +kernel
    refine ⟨_,_,rfl,rfl,by omega,?_⟩
    exact last H2 sT _ s2 es (by rw [if_neg e,bR,s_cl,ez];rfl)
 refine ⟨_,rfl,_,_,rfl,rfl,_,rfl,?_⟩
 by_cases e:x < 0
 · rw [decide_eq_true e]
   refine iteT ?_
   exact share _ (by unfold sg;rw [if_pos e];exact m_cl)
 · rw [decide_eq_false e]
   refine iteF ?_
   exact share _ (by unfold sg;rw [if_neg e];exact e_cl)
end
end K09
namespace K09
open PySem L2 Mth Dec Tre Wd Tw
section
variable {P:Program} {w:World} {K:PySem.W.Frag} {mg:Str→Option Value} {base:Heap}
def spBr (K:PySem.W.Frag):Sp:=fun vs H Q _=>∃(l:Addr) (y:Str) (ys:List Str),vs= [.ref l]∧SqL K H l ((y::ys).map V.str)∧y.length≤1000∧ys.length≤10∧(∀z∈ys,z.length≤600000)∧∀z,cl z=40::cl y++spC (ys.map cl)++ [41]→Q (.str z) H
theorem scBr:ay ["words"] ["words"] (ai sBr):=⟨rfl,rfl,rfl,by decide +kernel,rfl,by decide +kernel,by decide +kernel⟩
theorem ud {f:Addr} {fd:FuncData} (F:Fun K "bracketed" "bracketed" sBr f fd):FnOk P w K mg base CX0 1 f fd ["words"] (spBr K):=by
 refine F.ok scBr (fun vs H Q E h=> ?_) (fun cdv A outer s H vs Q E hr h=> ?_)
 · obtain ⟨l,y,ys,rfl,_⟩:=h
   rfl
 obtain ⟨l,y,ys,rfl,hl,hy,hn,hz,k⟩:=h
 refine ⟨_,aj (ao (aw bv (aw bv aC (cq PySem.F.plainAttrs_str PySem.F.slot_str_join PySem.F.type_str_join mv aC (a9 (pv 0) aa))) aC)),?_⟩
 have e1:(Str.ofString " ").length=1:=by decide +kernel
 have e2:(Str.ofString "(").length=1:=by decide +kernel
 have e3:(Str.ofString ")").length=1:=by decide +kernel
 have hs:=oP hz
 have hm:ys.length*600000≤10*600000:=xJ _ hn
 have hj:(Txt.join (Str.ofString " ") (y::ys)).length≤6002000:=by
  have h2:=da (B:=600000) (cs:=ys.map cl) (fun c m=>by
   obtain ⟨z,mz,rfl⟩:=xy.mp m
   rw [aT]
   exact hz z mz)
  rw [wZ] at h2
  have h3:ys.length*(600000+1)≤10*600001:=xJ _ hn
  rw [←aT,ki,x3,aT]
  omega
 have hL:(16000000:Nat)≤sizeLine:=by decide +kernel
 refine ⟨rfl,_,rfl,_,l,y::ys,rfl,rfl,hl,by rw [e1];simp only [xg,List.sum_cons,xh];omega,_,_,rfl,rfl,by rw [e2];omega,_,_,rfl,rfl,by rw [Dec.len_app,e2,e3];omega,k _ ?_⟩
 rw [bR,bR,wO,wu,ki]
 simp
def spSt (n:Nat):Sp:=fun vs H Q _=>∃(v:V) (t:Tr),vs= [v]∧TrAt H v t∧Ty .tm t∧t.depth < n∧(tmC t).length≤1000∧∀z H',Same H H'→cl z=tmC t→Q (.str z) H'
theorem scSt:ay ["term"] ["term"] (ai sSt):=⟨rfl,rfl,rfl,by decide +kernel,rfl,by decide +kernel,by decide +kernel⟩
theorem oD {ts:List Tr} {t:Tr} (m:t∈ts):(tmC t).length≤(tmsC ts).length:=by
 rw [d8]
 obtain ⟨a,b,rfl⟩:=List.append_of_mem m
 rw [xD,rX,xg]
 show _≤(_++((32::tmC t)++spC (b.map tmC))).length
 simp only [x3,xh]
 omega
theorem wG {f fB:Addr} {fd fdB:FuncData} (F:Fun K "shown_term" "shown_term" sSt f fd) (bF:Binds K fd ["term"] []) (mF:mg "shown_term"=some (.ref f)) (FB:Fun K "bracketed" "bracketed" sBr fB fdB) (bB:Binds K fdB ["words"] []) (mB:mg "bracketed"=some (.ref fB)):
 ∀n,FnOk P w K mg base CX0 (n+1) f fd ["term"] (spSt n):=by
 have GB:FnOk P w K mg base CX0 1 fB fdB ["words"] (spBr K):=ud FB
 intro n
 induction n with
 |zero=>exact ⟨fun vs H Q E ⟨_,_,_,_,_,h,_⟩=>absurd h (by omega),fun A outer s H args us vs Q E _ _ _ _ ⟨_,_,_,_,_,h,_⟩=>absurd h (by omega)⟩
 |succ n ih=>
  refine F.ok scSt (fun vs H Q E h=> ?_) (fun cdv A outer s H vs Q E hr h=> ?_)
  · obtain ⟨v,t,rfl,_⟩:=h
    rfl
  obtain ⟨v,t,rfl,hv,hw,hd,hl,k⟩:=h
  have hr1:Room 1 _:=hr.mono (by omega)
  refine ⟨_,ag (aP (au aS (aq ix_tup (pv 0) ae fun _ _=>rfl) aC (aB _)) (aj (ao (aq ix_tup (pv 0) ae fun _ _=>rfl))) az)
   (aj (ao (ah GB hr1 rfl mB FB.kp bB .nil am (a9 (aw cg (aL (a9 (aq ix_tup (pv 0) ae fun _ _=>rfl) aa))
    (br (NC:= ["inner"]) (mp:= [none]) rfl (cZ (aq ix_tup (pv 0) ae fun _ _=>rfl)) (fun _ _ _ _ _=>aA (i:=0) (show (["inner"]:List Str).Nodup by decide +kernel) rfl (Or.inl rfl)) (fun _ _ _ _ _=>bO) (fun _ _ _ _ _=>ah ih hr rfl mF F.kp bF .nil am (a9 (pv 0) aa)))) aa)))),?_⟩
  cases hw with
  |nm x=>
   obtain ⟨r,y,rfl,h1,h2⟩:=at2 hv
   have h3:=at_s h2
   subst h3
   refine ⟨_,rfl,r,_,0, .str "name",rfl,rfl,SqT.of h1,rfl,rfl,_,rfl,?_⟩
   rw [decide_eq_true rfl]
   refine iteT ⟨_,rfl,r,_,1, .str x,rfl,rfl,SqT.of h1,rfl,?_⟩
   exact k _ H (Same.refl H) (d9 _ _).symm
  |ap g ts ht3 hty=>
   obtain ⟨r,y,z,rfl,h1,h2,h3⟩:=at3 hv
   have e2:=at_s h2
   subst e2
   obtain ⟨q,vs,rfl,h4,h5⟩:=at_t h3
   refine ⟨_,rfl,r,_,0, .str "call",rfl,rfl,SqT.of h1,rfl,rfl,_,rfl,?_⟩
   rw [decide_eq_false (show¬V.str "call"=V.str "name" by decide +kernel)]
   refine iteF ?_
   refine ⟨_,rfl,r,_,1, .str g,rfl,rfl,SqT.of h1,rfl,by show 1≤sizeLine;decide,fun l nl=> ?_⟩
   have s1:Same H (upd H l (.lst [.str g])):=af nl
   refine bw rfl ?_
   refine ⟨_,rfl,r,_,2, .ref q,rfl,rfl,SqT.of (s1 _ _ h1),rfl,q,rfl,⟨vs,SqT.of (s1 _ _ h4)⟩,fun D nD=> ?_⟩
   have hlen:=h5.len
   have hL:(100000:Nat)≤sizeLine:=by decide +kernel
   have hl':=hl
   unfold s_ at hl'
   rw [cL] at hl'
   simp only [x3,xh,aT] at hl'
   refine eD (xs:=vs) (fun i acc H'=>Same (upd H l (.lst [.str g])) H'∧H' D=some (.lst acc)∧∃ys:List Str,acc=ys.map V.str∧ys.map cl=(ts.take i).map tmC) ⟨af nD,ac,[],rfl,rfl⟩ (fun i acc H' p=>SqT.of (p.1 _ _ (s1 _ _ h4))) ?_ ?_
   · rintro i x acc H' hi ex ⟨sH,hD,ys,rfl,ey⟩
     obtain ⟨t,et,htt⟩:=h5.get' ex
     have mt:=xa et
     have hsub:=oD mt
     have yl:=congrArg List.length ey
     rw [wZ,wZ,xM] at yl
     refine ⟨_,rfl,x,t,rfl,htt.mono (Kd.of_same (s1.trans sH)),hty t mt,?_,by omega,fun z H6 s6 ez=>CompN.mk hi ?_ (s6 _ _ hD) ⟨aX nD (sH.trans s6),ac,ys++ [z],by rw [xD];rfl,?_⟩⟩
     · have hd2:=hd
       simp only [Tr.depth,Trs.depth] at hd2
       have:=aK mt
       omega
     · rw [wZ]
       omega
     · rw [xD,ey,xQ,et]
       simp [ez]
   · rintro acc H' ⟨sH,hD,ys,rfl,ey⟩
     rw [hlen,xH] at ey
     have hl2:H' l=some (.lst [.str g]):=sH _ _ ac
     have yl:=congrArg List.length ey
     rw [wZ,wZ] at yl
     refine ⟨l,D,[.str g],_,rfl,rfl,hl2,hD,by simp only [wZ,xh,xP];omega,fun p np=> ?_⟩
     refine ⟨p,g,ys,rfl,SqL.of ?_,by omega,by omega,fun y my=> ?_,fun z ez=> ?_⟩
     · rw [ac]
       rfl
     · have:cl y∈ts.map tmC:=by rw [←ey];exact yn my
       obtain ⟨t,mt,e⟩:=xy.mp this
       have:=oD mt
       rw [←aT,←e]
       omega
     · refine k z _ (s1.trans (sH.trans (af np))) ?_
       unfold s_
       rw [ez,cL,d8,ey]
end
end K09
namespace Tw
open PySem PyProof.Rows L2 Tre Wd Mth Dec Su
inductive Wi:Nat→Str→Tr→List (List Nat)→Prop
 |mo (n:Nat) (ps:List Pq) (f:Fr):ps.length≤3→(∀p∈ps,Pb p)→Gf 200 f→Wi n "most" (.tup [s_ "most", .tup (ps.map prT),frT f]) (ps.flatMap prC++ [frC f])
 |li (n:Nat) (t u:Tr):Tb t→Tb u→Wi n "like" (.tup [s_ "like",t,u]) [tmC t,tmC u]
 |no (n:Nat) (t:Tr) (c:List Nat):Wx n t c→Wi (n+1) "not" (.tup [s_ "not",t]) [c]
 |bo (n:Nat) (l:List (Tr×List Nat)):l.length≤3→(∀p∈l,Wx n p.1 p.2)→Wi (n+1) "both" (.tup [s_ "both", .tup (l.map (·.1))]) (l.map (·.2))
 |ei (n:Nat) (l:List (Tr×List Nat)):l.length≤3→(∀p∈l,Wx n p.1 p.2)→Wi (n+1) "either" (.tup [s_ "either", .tup (l.map (·.1))]) (l.map (·.2))
def FwP (k k':Str):Prop:=(k= "not"∧k'= "not")∨(k= "both"∧k'= "all")∨(k= "either"∧k'= "any")∨(k= "like"∧k'= "like")∨(k= "most"∧k'= "most")
theorem FwP.len {k k':Str} (h:FwP k k'):k'.length≤10:=by
 rcases h with ⟨_,rfl⟩|⟨_,rfl⟩|⟨_,rfl⟩|⟨_,rfl⟩|⟨_,rfl⟩<;>decide +kernel
theorem Wx.inner {n:Nat} {t:Tr} {c:List Nat} (h:Wx n t c):(∃x:Str,t= .tup [s_ "flag", .str x]∧c=cl x∧x.length≤8)∨∃k k' cs,Wi n k t cs∧FwP k k'∧c=hd k'++spC cs++ [41]:=by
 cases h with
 |fl _ x h=>exact .inl ⟨x,rfl,rfl,h.le⟩
 |mo _ ps f h1 h2 h3 _ _=>exact .inr ⟨_,_,_, .mo n ps f h1 h2 h3, .inr (.inr (.inr (.inr ⟨rfl,rfl⟩))),rfl⟩
 |li _ t u h1 h2=>exact .inr ⟨_,_,_, .li n t u h1 h2, .inr (.inr (.inr (.inl ⟨rfl,rfl⟩))),rfl⟩
 |no m t c h=>exact .inr ⟨_,_,_, .no m t c h, .inl ⟨rfl,rfl⟩,rfl⟩
 |bo m l h1 h2=>exact .inr ⟨_,_,_, .bo m l h1 h2, .inr (.inl ⟨rfl,rfl⟩),rfl⟩
 |ei m l h1 h2=>exact .inr ⟨_,_,_, .ei m l h1 h2, .inr (.inr (.inl ⟨rfl,rfl⟩)),rfl⟩
theorem Wi.head {n:Nat} {k:Str} {t:Tr} {cs:List (List Nat)} (h:Wi n k t cs):(∃r,t= .tup (.str k::r))∧k≠"flag":=by
 cases h with
 |mo _ ps f h1 h2 h3=>exact ⟨⟨_,rfl⟩,by decide +kernel⟩
 |li _ t u h1 h2=>exact ⟨⟨_,rfl⟩,by decide +kernel⟩
 |no m t c h=>exact ⟨⟨_,rfl⟩,by decide +kernel⟩
 |bo m l h1 h2=>exact ⟨⟨_,rfl⟩,by decide +kernel⟩
 |ei m l h1 h2=>exact ⟨⟨_,rfl⟩,by decide +kernel⟩
theorem Wi.small {n:Nat} {k:Str} {t:Tr} {cs:List (List Nat)} (h:Wi n k t cs) (hn:n≤4):cs.length≤10∧∀c∈cs,c.length≤600000:=by
 cases h with
 |mo _ ps f h1 h2 h3=>
  refine ⟨by rw [x3,gr,xm];omega,fun c m=> ?_⟩
  rcases xj.mp m with m|m
  · have:=m4 h2 c m
    omega
  · rw [x8.mp m]
    have:=jg h3
    omega
 |li _ t u h1 h2=>
  have:=h1.len
  have:=h2.len
  refine ⟨by simp,fun c m=> ?_⟩
  rcases xi.mp m with rfl|m
  · omega
  · rw [x8.mp m]
    omega
 |no m t c h=>
  refine ⟨by simp,fun d md=> ?_⟩
  rw [x8.mp md]
  have:=h.len
  have:=l6 (n:=m) (by omega)
  omega
 |bo m l h1 h2=>
  refine ⟨by rw [wZ];omega,fun d md=> ?_⟩
  obtain ⟨p,mp,rfl⟩:=xy.mp md
  have:=(h2 p mp).len
  have:=l6 (n:=m) (by omega)
  omega
 |ei m l h1 h2=>
  refine ⟨by rw [wZ];omega,fun d md=> ?_⟩
  obtain ⟨p,mp,rfl⟩:=xy.mp md
  have:=(h2 p mp).len
  have:=l6 (n:=m) (by omega)
  omega
def rIxF (D:Addr):R2:=fun x y H Q=>∃k k',x= .ref D∧y= .str k∧FwP k k'∧Q (.str k') H
structure FwK (w:World) (K:PySem.W.Frag) (D:Addr):Prop where
 lk:∃es n,K.lookup D=some ⟨.type "dict",none, .dict es n, #[]⟩∧PySem.W.KeysLit w.params es.toList
 at_:∀k k',FwP k k'→∃t,PySem.W.nsIn K D k=some (some (.str k' t))
section
variable {X:Cx} {D:Addr}
theorem qK (h:FwK X.w X.K D):IxR X (rIxF D):=by
 intro value slice pins s σ H x y v u Q I rx ry hq hs
 obtain ⟨k,k',rfl,rfl,hf,q⟩:=hq
 cases rx
 obtain ⟨t,rfl⟩:=ry
 obtain ⟨es,n,hl,hk⟩:=h.lk
 obtain ⟨t',hn⟩:=h.at_ k k' hf
 have hm:=PySem.W.mapOf_K (prog:=X.prog) I.kIn hl hk
 exact subscriptTail_builtinR (x:= .str k' t') hm.typeIs slot_dict_getitem.lookup
  (wpAny_getItem_of (Q:=fun r s'=>r= .str k' t'∧EP X pins σ Q r s') (strKind_is X.prog X.w k t) hm (PySem.W.find_K hl hn) ⟨rfl, .str k',H,I.tok _,⟨t',rfl⟩,q⟩) hs
end
end Tw
namespace K09
open PySem L2 Mth Dec Tre Wd Su Tw
section
variable {P:Program} {w:World} {K:PySem.W.Frag} {mg:Str→Option Value} {base:Heap}
def spTs:Sp:=fun vs H Q _=>∃(v:V) (ps:List Pq),vs= [v]∧TrAt H v (.tup (ps.map prT))∧ps.length≤3∧(∀p∈ps,Pb p)∧∀(l:Addr) (ys:List Str) (H':Hp),Same H H'→H' l=some (.lst (ys.map V.str))→ys.map cl=ps.flatMap prC→Q (.ref l) H'
theorem scTs:ay ["pairs","texts","term","share"] ["pairs"] (ai sTs):=⟨rfl,rfl,rfl,by decide +kernel,rfl,by decide +kernel,by decide +kernel⟩
theorem wF {f fT fF:Addr} {fd dT dF:FuncData} (F:Fun K "sum_texts" "sum_texts" sTs f fd)
 (gT:FnOk P w K mg base CX0 9 fT dT ["term"] (spSt 8)) (kT:PySem.W.keepIn K (.ref fT)=true) (bT:Binds K dT ["term"] []) (mT:mg "shown_term"=some (.ref fT))
 (gF:FnOk P w K mg base CX0 2 fF dF ["one"] (spFt K)) (kF:PySem.W.keepIn K (.ref fF)=true) (bF:Binds K dF ["one"] []) (mF:mg "fraction_text"=some (.ref fF)):FnOk P w K mg base CX0 10 f fd ["pairs"] spTs:=by
 refine F.ok scTs (fun vs H Q E h=> ?_) (fun cdv A outer s H vs Q E hr h=> ?_)
 · obtain ⟨v,ps,rfl,_⟩:=h
   rfl
 obtain ⟨v,ps,rfl,hv,h3,hP,k⟩:=h
 have hr2:Room 2 _:=hr.mono (by decide)
 refine ⟨_,ag (ar (i:=1) scTs.nd rfl (Or.inl rfl) (aL aa))
  (ag (b9 PassesOwn.never rfl (cZ (pv 0)) (gE rfl (bx (aA (i:=2) scTs.nd rfl (Or.inl rfl)) (bx (aA (i:=3) scTs.nd rfl (Or.inl rfl)) dQ)))
   (ag (aZ (cq PySem.F.plainAttrs_list PySem.F.slot_list_append PySem.F.type_list_append bN (pv 1) (a9 (ah gF hr2 rfl mF kF bF .nil am (a9 (pv 3) aa)) aa)))
   (aj (aZ (cq PySem.F.plainAttrs_list PySem.F.slot_list_append PySem.F.type_list_append bN (pv 1) (a9 (ah gT hr rfl mT kT bT .nil am (a9 (pv 2) aa)) aa))))))
  (aj (ao (pv 1)))),?_⟩
 have hL:(20000:Nat)≤sizeLine:=by decide +kernel
 obtain ⟨q,ws,rfl,hq,hT⟩:=at_t hv
 have wl:=hT.len
 rw [wZ] at wl
 refine ⟨by show 0≤sizeLine;decide,fun L nL=> ?_⟩
 have s1:=af (o:= .lst []) nL
 refine ⟨_,rfl,q,rfl,⟨_,SqT.of (s1 _ _ hq)⟩,?_⟩
 refine jh (xs:=ws) (fun i σ H'=>Same H H'∧∃(v2 v3:Option V) (ys:List Str),σ= [some (.ref q),some (.ref L),v2,v3]∧H' L=some (.lst (ys.map V.str))∧ys.map cl=(ps.take i).flatMap prC∧ys.length=2*i)
  ⟨s1,none,none,[],rfl,ac,rfl,rfl⟩ (fun i σ H' _ p=>SqT.of (p.1 _ _ hq)) ?_ ?_
 · rintro i x σ H1 ex ⟨sH,v2,v3,ys,rfl,hL1,ey,yl⟩
   obtain ⟨u,eu,hu⟩:=(hT.mono (Kd.of_same sH)).get' ex
   rw [xw] at eu
   obtain ⟨⟨tm,fr⟩,ep,rfl⟩:=xG.mp eu
   have hb:=hP _ (xa ep)
   have ilt:i < ps.length:=(xo.mp ep).1
   obtain ⟨r,xt,xf,rfl,hr',hxt,hxf⟩:=dU hu
   obtain ⟨rf,rfl,hrf⟩:=ku hxf
   dsimp only at hxt hrf
   have gf:=hb.gf
   have tb:=hb.tb
   dsimp only at gf tb
   refine ⟨r,_,rfl,SqT.of hr',rfl,_,_,rfl,_,_,rfl,rfl,?_⟩
   refine ⟨_,rfl, .inl ⟨rfl,_,SqL.of hL1⟩,_,rfl,rf,_,_,rfl,SqT.of hrf,gf.pos,(Gfl gf).1,(Gfl gf).2,fun z H2 s2 ez=> ?_⟩
   refine ⟨L,_,_,rfl,rfl,s2 _ _ hL1,by rw [wZ];omega,?_⟩
   have s2':Same H (upd H2 L (.lst (ys.map V.str++ [.str z]))):=aX nL (sH.trans s2)
   have kd2:Kd H1 (upd H2 L (.lst (ys.map V.str++ [.str z]))):=(Kd.of_same s2).trans (Kd.upd (s2 _ _ hL1))
   refine ⟨_,rfl, .inl ⟨rfl,_,SqL.of ac⟩,_,rfl,xt,tm,rfl,hxt.mono kd2,tb.ty,by have:=tb.dep;omega,tb.len,fun z2 H3 s3 ez2=> ?_⟩
   refine ⟨L,_,_,rfl,rfl,s3 _ _ ac,by rw [x3,wZ,xm];omega,?_⟩
   refine ⟨aX nL (s2'.trans s3),_,_,ys++ [z,z2],rfl,?_,?_,by simp [yl];omega⟩
   · rw [ac]
     simp
   · rw [xD,ey,xQ,ep,xW]
     show _++ [cl z,cl z2]=_++prC (tm,fr)
     rw [ez,ez2]
     rfl
 · rintro σ H1 ⟨sH,v2,v3,ys,rfl,hL1,ey,yl⟩
   rw [wl,xH] at ey
   exact ⟨_,rfl,k L ys H1 sH hL1 ey⟩
def spIn (n:Nat):Sp:=fun vs H Q _=>∃(v:V) (t:Tr) (kd:Str) (cs:List (List Nat)) (m:Nat),vs= [v]∧TrAt H v t∧Wi m kd t cs∧m < n∧n≤5∧∀(l:Addr) (ys:List Str) (H':Hp),Same H H'→H' l=some (.lst (ys.map V.str))→ys.map cl=cs→Q (.ref l) H'
def spSw (n:Nat):Sp:=fun vs H Q _=>∃(v:V) (t:Tr) (c:List Nat) (m:Nat),vs= [v]∧TrAt H v t∧Wx m t c∧m < n∧n≤5∧∀z H',Same H H'→cl z=c→Q (.str z) H'
theorem scIn:ay ["wish"] ["wish"] (ai sIn):=⟨rfl,rfl,rfl,by decide +kernel,rfl,by decide +kernel,by decide +kernel⟩
theorem scSw:ay ["wish"] ["wish"] (ai sSw):=⟨rfl,rfl,rfl,by decide +kernel,rfl,by decide +kernel,by decide +kernel⟩
theorem wJ {f fW fT fF fS:Addr} {fd dW dT dF dS:FuncData} {n:Nat} (F:Fun K "inner_texts" "inner_texts" sIn f fd)
 (gW:FnOk P w K mg base CX0 (2*n+12) fW dW ["wish"] (spSw n)) (kW:PySem.W.keepIn K (.ref fW)=true) (bW:Binds K dW ["wish"] []) (mW:mg "shown_wish"=some (.ref fW))
 (gT:FnOk P w K mg base CX0 9 fT dT ["term"] (spSt 8)) (kT:PySem.W.keepIn K (.ref fT)=true) (bT:Binds K dT ["term"] []) (mT:mg "shown_term"=some (.ref fT))
 (gF:FnOk P w K mg base CX0 2 fF dF ["one"] (spFt K)) (kF:PySem.W.keepIn K (.ref fF)=true) (bF:Binds K dF ["one"] []) (mF:mg "fraction_text"=some (.ref fF))
 (gS:FnOk P w K mg base CX0 10 fS dS ["pairs"] spTs) (kS:PySem.W.keepIn K (.ref fS)=true) (bS:Binds K dS ["pairs"] []) (mS:mg "sum_texts"=some (.ref fS)):FnOk P w K mg base CX0 (2*n+13) f fd ["wish"] (spIn (n+1)):=by
 refine F.ok scIn (fun vs H Q E h=> ?_) (fun cdv A outer s H vs Q E hr h=> ?_)
 · obtain ⟨v,t,kd,cs,m,rfl,_⟩:=h
   rfl
 obtain ⟨v,t,kd,cs,m,rfl,hv,hw,hm,hn,k⟩:=h
 have hr2:Room 2 _:=hr.mono (by omega)
 have hr9:Room 9 _:=hr.mono (by omega)
 have hr10:Room 10 _:=hr.mono (by omega)
 refine ⟨_,ag (aP (au aS (aq ix_tup (pv 0) ae fun _ _=>rfl) aC (aB _)) (aj (ao (aL (a9 (ah gW hr rfl mW kW bW .nil am (a9 (aq ix_tup (pv 0) ae fun _ _=>rfl) aa)) aa)))) az)
  (ag (aP (au aS (aq ix_tup (pv 0) ae fun _ _=>rfl) aC (aB _)) (aj (ao (aL (a9 (ah gT hr9 rfl mT kT bT .nil am (a9 (aq ix_tup (pv 0) ae fun _ _=>rfl) aa)) (a9 (ah gT hr9 rfl mT kT bT .nil am (a9 (aq ix_tup (pv 0) ae fun _ _=>rfl) aa)) aa))))) az)
  (ag (aP (au aS (aq ix_tup (pv 0) ae fun _ _=>rfl) aC (aB _)) (aj (ao (aw cg (ah gS hr10 rfl mS kS bS .nil am (a9 (aq ix_tup (pv 0) ae fun _ _=>rfl) aa)) (aL (a9 (ah gF hr2 rfl mF kF bF .nil am (a9 (aq ix_tup (pv 0) ae fun _ _=>rfl) aa)) aa))))) az)
  (aj (ao (br (NC:= ["inner"]) (mp:= [none]) rfl (cZ (aq ix_tup (pv 0) ae fun _ _=>rfl)) (fun _ _ _ _ _=>aA (i:=0) (show (["inner"]:List Str).Nodup by decide +kernel) rfl (Or.inl rfl)) (fun _ _ _ _ _=>bO) (fun _ _ _ _ _=>ah gW hr rfl mW kW bW .nil am (a9 (pv 0) aa))))))),?_⟩
 have hL:(20000:Nat)≤sizeLine:=by decide +kernel
 have many:∀(r:Addr) (kk:Str) (y:V) (l:List (Tr×List Nat)) (m:Nat),v= .ref r→H r=some (.tup [.str kk,y])→TrAt H y (.tup (l.map (·.1)))→(∀p∈l,Wx m p.1 p.2)→l.length≤3→m < n→cs=l.map (·.2)→
  (tRet (fb [none] (iTup K (tOp (rIxT K) (tVar 0) (tC (.int 1)))) (cF 0) dO (g9 (spSw n) [] E0 (bq (tVar 0) tNil)))) {nx:=fun _ H'=>Q .non H',rt:=Q} [some v] H:=by
  rintro r kk y l m rfl h1 hy hw' l3 hm' rfl
  obtain ⟨q,ws,rfl,h4,h5⟩:=at_t hy
  have wl:=h5.len
  rw [wZ] at wl
  refine lN ?_
  refine bw rfl ?_
  refine ⟨_,rfl,r,_,1, .ref q,rfl,rfl,SqT.of h1,rfl,q,rfl,⟨ws,SqT.of h4⟩,fun D nD=> ?_⟩
  refine eD (xs:=ws) (fun i acc H'=>Same H H'∧H' D=some (.lst acc)∧∃ys:List Str,acc=ys.map V.str∧ys.map cl=(l.take i).map (·.2)) ⟨af nD,ac,[],rfl,rfl⟩ (fun i acc H' p=>SqT.of (p.1 _ _ h4)) ?_ ?_
  · rintro i x acc H' hi ex ⟨sH,hD,ys,rfl,ey⟩
    obtain ⟨t',et,htt⟩:=h5.get' ex
    rw [xw] at et
    obtain ⟨p,ep,rfl⟩:=xG.mp et
    have mp:=xa ep
    have yl:=congrArg List.length ey
    rw [wZ,wZ,xM] at yl
    refine ⟨_,rfl,x,p.1,p.2,m,rfl,htt.mono (Kd.of_same sH),hw' p mp,hm',by omega,fun z H6 s6 ez=>CompN.mk hi ?_ (s6 _ _ hD) ⟨aX nD (sH.trans s6),ac,ys++ [z],by rw [xD];rfl,?_⟩⟩
    · rw [wZ]
      omega
    · rw [xD,ey,xQ,ep]
      simp [ez]
  · rintro acc H' ⟨sH,hD,ys,rfl,ey⟩
    rw [wl,xH] at ey
    exact k D ys H' sH hD ey
 cases hw with
 |no m t c hx=>
  obtain ⟨r,y,rfl,h1,h2⟩:=at2 hv
  refine ⟨_,rfl,r,_,0, .str "not",rfl,rfl,SqT.of h1,rfl,rfl,_,rfl,?_⟩
  rw [decide_eq_true rfl]
  refine iteT ⟨_,rfl,r,_,1,y,rfl,rfl,SqT.of h1,rfl,y,t,c,m,rfl,h2,hx,by omega,by omega,fun z H1 s1 ez=> ?_⟩
  refine ⟨by show 1≤sizeLine;decide,fun l nl=>k l [z] _ (s1.trans (af nl)) ac ?_⟩
  rw [←ez]
  rfl
 |li _ t u ht hu=>
  obtain ⟨r,y,y2,rfl,h1,h2,h3⟩:=at3 hv
  refine ⟨_,rfl,r,_,0, .str "like",rfl,rfl,SqT.of h1,rfl,rfl,_,rfl,?_⟩
  rw [decide_eq_false (show¬V.str "like"=V.str "not" by decide +kernel)]
  refine iteF ?_
  refine ⟨_,rfl,r,_,0, .str "like",rfl,rfl,SqT.of h1,rfl,rfl,_,rfl,?_⟩
  rw [decide_eq_true rfl]
  refine iteT ⟨_,rfl,r,_,1,y,rfl,rfl,SqT.of h1,rfl,y,t,rfl,h2,ht.ty,by have:=ht.dep;omega,ht.len,fun z H1 s1 ez=> ?_⟩
  refine ⟨_,rfl,r,_,2,y2,rfl,rfl,SqT.of (s1 _ _ h1),rfl,y2,u,rfl,h3.mono (Kd.of_same s1),hu.ty,by have:=hu.dep;omega,hu.len,fun z2 H2 s2 ez2=> ?_⟩
  refine ⟨by show 2≤sizeLine;decide,fun l nl=>k l [z,z2] _ (s1.trans (s2.trans (af nl))) ac ?_⟩
  rw [←ez,←ez2]
  rfl
 |mo _ ps fr hp3 hP hf=>
  obtain ⟨r,y,y2,rfl,h1,h2,h3⟩:=at3 hv
  obtain ⟨rf,rfl,hrf⟩:=ku h3
  refine ⟨_,rfl,r,_,0, .str "most",rfl,rfl,SqT.of h1,rfl,rfl,_,rfl,?_⟩
  rw [decide_eq_false (show¬V.str "most"=V.str "not" by decide +kernel)]
  refine iteF ?_
  refine ⟨_,rfl,r,_,0, .str "most",rfl,rfl,SqT.of h1,rfl,rfl,_,rfl,?_⟩
  rw [decide_eq_false (show¬V.str "most"=V.str "like" by decide +kernel)]
  refine iteF ?_
  refine ⟨_,rfl,r,_,0, .str "most",rfl,rfl,SqT.of h1,rfl,rfl,_,rfl,?_⟩
  rw [decide_eq_true rfl]
  refine iteT ⟨_,rfl,r,_,1,y,rfl,rfl,SqT.of h1,rfl,y,ps,rfl,h2,hp3,hP,fun l ys H1 s1 hl1 ey=> ?_⟩
  refine ⟨_,rfl,r,_,2, .ref rf,rfl,rfl,SqT.of (s1 _ _ h1),rfl,rf,_,_,rfl,SqT.of (s1 _ _ hrf),hf.pos,(Gfl hf).1,(Gfl hf).2,fun z H2 s2 ez=> ?_⟩
  refine ⟨by show 1≤sizeLine;decide,fun l2 nl2=> ?_⟩
  have s3:=af (o:= .lst [.str z]) nl2
  have yl:=congrArg List.length ey
  rw [wZ,gr] at yl
  refine ⟨l,l2,_,_,rfl,rfl,s3 _ _ (s2 _ _ hl1),ac,by rw [wZ,xm];omega,fun p np=> ?_⟩
  refine k p (ys++ [z]) _ (s1.trans (s2.trans (s3.trans (af np)))) (by rw [ac,xD];rfl) ?_
  rw [xD,ey]
  show _++ [cl z]=_
  rw [ez]
  rfl
 |bo m l l3 hl=>
  obtain ⟨r,y,e,h1,h2⟩:=at2 hv
  subst e
  refine ⟨_,rfl,r,_,0, .str "both",rfl,rfl,SqT.of h1,rfl,rfl,_,rfl,?_⟩
  rw [decide_eq_false (show¬V.str "both"=V.str "not" by decide +kernel)]
  refine iteF ?_
  refine ⟨_,rfl,r,_,0, .str "both",rfl,rfl,SqT.of h1,rfl,rfl,_,rfl,?_⟩
  rw [decide_eq_false (show¬V.str "both"=V.str "like" by decide +kernel)]
  refine iteF ?_
  refine ⟨_,rfl,r,_,0, .str "both",rfl,rfl,SqT.of h1,rfl,rfl,_,rfl,?_⟩
  rw [decide_eq_false (show¬V.str "both"=V.str "most" by decide +kernel)]
  refine iteF ?_
  exact many r _ y l m rfl h1 h2 hl l3 (by omega) rfl
 |ei m l l3 hl=>
  obtain ⟨r,y,e,h1,h2⟩:=at2 hv
  subst e
  refine ⟨_,rfl,r,_,0, .str "either",rfl,rfl,SqT.of h1,rfl,rfl,_,rfl,?_⟩
  rw [decide_eq_false (show¬V.str "either"=V.str "not" by decide +kernel)]
  refine iteF ?_
  refine ⟨_,rfl,r,_,0, .str "either",rfl,rfl,SqT.of h1,rfl,rfl,_,rfl,?_⟩
  rw [decide_eq_false (show¬V.str "either"=V.str "like" by decide +kernel)]
  refine iteF ?_
  refine ⟨_,rfl,r,_,0, .str "either",rfl,rfl,SqT.of h1,rfl,rfl,_,rfl,?_⟩
  rw [decide_eq_false (show¬V.str "either"=V.str "most" by decide +kernel)]
  refine iteF ?_
  exact many r _ y l m rfl h1 h2 hl l3 (by omega) rfl
theorem uU {f fI fB D:Addr} {fd dI dB:FuncData} {n:Nat} (F:Fun K "shown_wish" "shown_wish" sSw f fd)
 (gI:FnOk P w K mg base CX0 (2*n+13) fI dI ["wish"] (spIn (n+1))) (kI:PySem.W.keepIn K (.ref fI)=true) (bI:Binds K dI ["wish"] []) (mI:mg "inner_texts"=some (.ref fI))
 (gB:FnOk P w K mg base CX0 1 fB dB ["words"] (spBr K)) (kB:PySem.W.keepIn K (.ref fB)=true) (bB:Binds K dB ["words"] []) (mB:mg "bracketed"=some (.ref fB))
 (mD:mg "FIRST_WORDS"=some (.ref D)) (hD:FwK w K D):FnOk P w K mg base CX0 (2*n+14) f fd ["wish"] (spSw (n+1)):=by
 refine F.ok scSw (fun vs H Q E h=> ?_) (fun cdv A outer s H vs Q E hr h=> ?_)
 · obtain ⟨v,t,c,m,rfl,_⟩:=h
   rfl
 obtain ⟨v,t,c,m,rfl,hv,hw,hm,hn,k⟩:=h
 have hr1:Room 1 _:=hr.mono (by omega)
 refine ⟨_,ag (aP (au aS (aq ix_tup (pv 0) ae fun _ _=>rfl) aC (aB _)) (aj (ao (aq ix_tup (pv 0) ae fun _ _=>rfl))) az)
  (aj (ao (ah gB hr1 rfl mB kB bB .nil am (a9 (aw cg (aL (a9 (aq (qK hD) (dc (v:= .ref D) rfl mD rfl) (aq ix_tup (pv 0) ae fun _ _=>rfl) fun _ _=>rfl) aa))
   (ah gI hr rfl mI kI bI .nil am (a9 (pv 0) aa))) aa)))),?_⟩
 have hL:(20000:Nat)≤sizeLine:=by decide +kernel
 rcases hw.inner with ⟨x,rfl,rfl,hx⟩|⟨kk,kk',cs,hi,hf,rfl⟩
 · obtain ⟨r,y,rfl,h1,h2⟩:=at2 hv
   have h3:=at_s h2
   subst h3
   refine ⟨_,rfl,r,_,0, .str "flag",rfl,rfl,SqT.of h1,rfl,rfl,_,rfl,?_⟩
   rw [decide_eq_true rfl]
   refine iteT ⟨_,rfl,r,_,1, .str x,rfl,rfl,SqT.of h1,rfl,?_⟩
   exact k _ H (Same.refl H) rfl
 · obtain ⟨⟨rr,rfl⟩,hk⟩:=hi.head
   obtain ⟨r,vs,rfl,h1,h2⟩:=cj hv
   refine ⟨_,rfl,r,_,0, .str kk,rfl,rfl,SqT.of h1,bf (j:=0) rfl,rfl,_,rfl,?_⟩
   rw [decide_eq_false (show¬V.str kk=V.str "flag" from fun e=>hk (V.str.inj e))]
   refine iteF ?_
   refine ⟨_,rfl,r,_,0, .str kk,rfl,rfl,SqT.of h1,bf (j:=0) rfl,kk,kk',rfl,rfl,hf,by show 1≤sizeLine;decide,fun l nl=> ?_⟩
   have s1:=af (o:= .lst [.str kk']) nl
   refine ⟨_,rfl, .ref r,_,kk,cs,m,rfl,hv.mono (Kd.of_same s1),hi,hm,hn,fun l2 ys H2 s2 hl2 ey=> ?_⟩
   have hsm:=hi.small (by omega)
   have yl:=congrArg List.length ey
   rw [wZ] at yl
   refine ⟨l,l2,[.str kk'],_,rfl,rfl,s2 _ _ ac,hl2,by rw [wZ,xm];omega,fun p np=> ?_⟩
   refine ⟨p,kk',ys,rfl,SqL.of (by rw [ac];rfl),by have:=hf.len;omega,by omega,fun y my=> ?_,fun z ez=> ?_⟩
   · rw [←aT]
     exact hsm.2 _ (by rw [←ey];exact yn my)
   · exact k z _ (s1.trans (s2.trans (af np))) (by rw [ez,ey];rfl)
theorem uc {f fI fB fT fF fS D:Addr} {fd dI dB dT dF dS:FuncData} (F:Fun K "shown_wish" "shown_wish" sSw f fd) (kF':PySem.W.keepIn K (.ref f)=true) (bF':Binds K fd ["wish"] []) (mF':mg "shown_wish"=some (.ref f))
 (FI:Fun K "inner_texts" "inner_texts" sIn fI dI) (kI:PySem.W.keepIn K (.ref fI)=true) (bI:Binds K dI ["wish"] []) (mI:mg "inner_texts"=some (.ref fI))
 (gB:FnOk P w K mg base CX0 1 fB dB ["words"] (spBr K)) (kB:PySem.W.keepIn K (.ref fB)=true) (bB:Binds K dB ["words"] []) (mB:mg "bracketed"=some (.ref fB))
 (gT:FnOk P w K mg base CX0 9 fT dT ["term"] (spSt 8)) (kT:PySem.W.keepIn K (.ref fT)=true) (bT:Binds K dT ["term"] []) (mT:mg "shown_term"=some (.ref fT))
 (gF:FnOk P w K mg base CX0 2 fF dF ["one"] (spFt K)) (kF:PySem.W.keepIn K (.ref fF)=true) (bF:Binds K dF ["one"] []) (mF:mg "fraction_text"=some (.ref fF))
 (gS:FnOk P w K mg base CX0 10 fS dS ["pairs"] spTs) (kS:PySem.W.keepIn K (.ref fS)=true) (bS:Binds K dS ["pairs"] []) (mS:mg "sum_texts"=some (.ref fS))
 (mD:mg "FIRST_WORDS"=some (.ref D)) (hD:FwK w K D):∀n,FnOk P w K mg base CX0 (2*n+12) f fd ["wish"] (spSw n)
 |0=>⟨fun vs H Q E ⟨_,_,_,_,_,_,_,h,_⟩=>absurd h (by omega),fun A outer s H args us vs Q E _ _ _ _ ⟨_,_,_,_,_,_,_,h,_⟩=>absurd h (by omega)⟩
 |n+1=>uU F (wJ FI (uc F kF' bF' mF' FI kI bI mI gB kB bB mB gT kT bT mT gF kF bF mF gS kS bS mS mD hD n) kF' bF' mF' gT kT bT mT gF kF bF mF gS kS bS mS) kI bI mI gB kB bB mB mD hD
end
end K09
namespace Tw
open PySem L2 Tre Wd Mth Dec Su
abbrev Nm:=Trm.Nm
abbrev Ltr:=Trm.Ltr
inductive Lt:Tr→Prop
 |nm (x:Str):Nm x→Lt (.tup [s_ "name", .str x])
 |ap (f:Str) (ts:List Tr):Nm f→0 < ts.length→(∀t∈ts,Lt t)→Lt (.tup [s_ "call", .str f, .tup ts])
inductive Lw:Tr→Prop
 |fl (x:Str):Nm x→Lw (.tup [s_ "flag", .str x])
 |mo (ps:List Pq) (f:Fr):(∀p∈ps,Lt p.1)→Lw (.tup [s_ "most", .tup (ps.map prT),frT f])
 |li (t u:Tr):Lt t→Lt u→Lw (.tup [s_ "like",t,u])
 |no (t:Tr):Lw t→Lw (.tup [s_ "not",t])
 |bo (l:List Tr):(∀t∈l,Lw t)→Lw (.tup [s_ "both", .tup l])
 |ei (l:List Tr):(∀t∈l,Lw t)→Lw (.tup [s_ "either", .tup l])
def St (Q:Nat→Prop) (r:List Nat):Prop:=∀c l,r=c::l→¬Q c
theorem dq {Q:Nat→Prop}:∀ {x y r s:List Nat},(∀c∈x,Q c)→(∀c∈y,Q c)→St Q r→St Q s→x++r=y++s→x=y∧r=s
 | [],[],_,_,_,_,_,_,e=>⟨rfl,e⟩
 | [],b::y,r,s,_,hy,hr,_,e=>absurd (hy b x5) (hr b _ e)
 |a::x,[],r,s,hx,_,_,hs,e=>absurd (hx a x5) (hs a _ e.symm)
 |a::x,b::y,r,s,hx,hy,hr,hs,e=>by
  rw [y8,y8] at e
  obtain ⟨e1,e2⟩:=List.cons.inj e
  obtain ⟨q1,q2⟩:=dq (fun c m=>hx c (x6 _ m)) (fun c m=>hy c (x6 _ m)) hr hs e2
  exact ⟨by rw [e1,q1],q2⟩
theorem rV {Q:Nat→Prop} {c:Nat} {l:List Nat} (h:¬Q c):St Q (c::l):=fun d m e=>by
 cases e
 exact h
def En (r:List Nat):Prop:=∀c l,r=c::l→c=32∨c=41
theorem En.st {Q:Nat→Prop} {r:List Nat} (h:En r) (h1:¬Q 32) (h2:¬Q 41):St Q r:=fun c l e=>by
 rcases h c l e with rfl|rfl
 · exact h1
 · exact h2
theorem En.nil:En []:=fun c l e=>by cases e
theorem En.b (l:List Nat):En (32::l):=fun c m e=>by cases e;exact .inl rfl
theorem En.k (l:List Nat):En (41::l):=fun c m e=>by cases e;exact .inr rfl
theorem cT (cs:List (List Nat)) (r:List Nat):En (spC cs++41::r):=by
 cases cs with
 |nil=>exact En.k r
 |cons c cs=>exact En.b _
theorem nl32:¬Ltr 32:=by unfold Ltr Trm.Ltr;omega
theorem nl41:¬Ltr 41:=by unfold Ltr Trm.Ltr;omega
theorem iQ {α:Type} (c:α→List Nat) {Q:α→Prop}:∀ {ts us:List α} {r s:List Nat},(∀t∈ts,∀u,Q u→∀r s,En r→En s→c t++r=c u++s→t=u∧r=s)→(∀u∈us,Q u)→
 spC (ts.map c)++41::r=spC (us.map c)++41::s→ts=us∧r=s
 | [],[],r,s,_,_,e=>by
  simp only [spC,List.map_nil,List.flatten_nil,List.nil_append] at e
  exact ⟨rfl,(List.cons.inj e).2⟩
 | [],u::us,r,s,_,_,e=>by
  have e':41::r=32::(c u++spC (us.map c)++41::s):=by simpa [spC] using e
  cases e'
 |t::ts,[],r,s,_,_,e=>by
  have e':32::(c t++spC (ts.map c)++41::r)=41::s:=by simpa [spC] using e
  cases e'
 |t::ts,u::us,r,s,ht,hu,e=>by
  have e':32::(c t++(spC (ts.map c)++41::r))=32::(c u++(spC (us.map c)++41::s)):=by simpa [spC] using e
  obtain ⟨e1,e2⟩:=ht t x5 u (hu u x5) _ _ (cT _ _) (cT _ _) (List.cons.inj e').2
  obtain ⟨e3,e4⟩:=iQ c (fun t m=>ht t (x6 _ m)) (fun u m=>hu u (x6 _ m)) e2
  exact ⟨by rw [e1,e3],e4⟩
theorem nm_cl {x:Str} (h:Nm x):∃c l,cl x=c::l∧Ltr c:=Trm.nm_cl h
theorem eY {x:Str} (h:Nm x):∀c∈cl x,Ltr c:=h.ltr
theorem iN {t:Tr} (h:Lt t):∀(u:Tr),Lt u→∀(r s:List Nat),En r→En s→tmC t++r=tmC u++s→t=u∧r=s:=by
 induction h with
 |nm x hx=>
  intro u hu r s hr hs e
  cases hu with
  |nm y hy=>
   unfold s_ at e ⊢
   rw [d9,d9] at e
   obtain ⟨e1,e2⟩:=dq (eY hx) (eY hy) (hr.st nl32 nl41) (hs.st nl32 nl41) e
   exact ⟨by rw [cl_inj e1],e2⟩
  |ap g us hg h0 hu=>
   unfold s_ at e
   rw [d9,cL] at e
   obtain ⟨c,l,q,hc⟩:=nm_cl hx
   rw [q,y8] at e
   have:c=40:=(List.cons.inj e).1
   subst this
   unfold Ltr Trm.Ltr at hc
   omega
 |ap f ts hf h0 ht ih=>
  intro u hu r s hr hs e
  cases hu with
  |nm y hy=>
   unfold s_ at e
   rw [d9,cL] at e
   obtain ⟨c,l,q,hc⟩:=nm_cl hy
   rw [q,y8] at e
   have:40=c:=(List.cons.inj e).1
   subst this
   unfold Ltr Trm.Ltr at hc
   omega
  |ap g us hg h0' hu=>
   unfold s_ at e ⊢
   rw [cL,cL,d8,d8] at e
   have e':cl f++(spC (ts.map tmC)++41::r)=cl g++(spC (us.map tmC)++41::s):=by simpa using e
   obtain ⟨e1,e2⟩:=dq (eY hf) (eY hg) ((cT _ _).st nl32 nl41) ((cT _ _).st nl32 nl41) e'
   obtain ⟨e3,e4⟩:=iQ tmC ih hu e2
   exact ⟨by rw [cl_inj e1,e3],e4⟩
def Dg (c:Nat):Prop:=48≤c∧c≤57
theorem k6 (n:Nat):∀c∈ds n,Dg c:=fun c m=>qW n c m
theorem nd32:¬Dg 32:=by unfold Dg;omega
theorem nd41:¬Dg 41:=by unfold Dg;omega
theorem nd47:¬Dg 47:=by unfold Dg;omega
theorem uk (n:Nat):∃c l,ds n=c::l∧Dg c:=by
 cases e:ds n with
 |nil=>
  have:=lC n
  have h1:ds n≠ []:=by
   unfold ds
   intro z
   have:(Nat.toDigits 10 n)= []:=by simpa using z
   have:=Nat.length_toDigits_pos (b:=10) (n:=n)
   simp_all
  exact absurd e h1
 |cons c l=>exact ⟨c,l,rfl,k6 n c (by rw [e];exact x5)⟩
theorem jf {p q:Fr} {r s:List Nat} (hp:0 < p.2) (hq:0 < q.2) (hr:En r) (hs:En s) (e:frC p++r=frC q++s):p=q∧r=s:=by
 obtain ⟨x,y⟩:=p
 obtain ⟨x',y'⟩:=q
 dsimp only at hp hq
 unfold frC txt Dec.low at e
 dsimp only at e
 have low_inj:∀ {r s:List Nat},En r→En s→ds x.natAbs++((if y=1 then [] else 47::ds y.natAbs)++r)=ds x'.natAbs++((if y'=1 then [] else 47::ds y'.natAbs)++s)→x.natAbs=x'.natAbs∧y=y'∧r=s:=by
  intro r s hr hs e
  have st:∀ {y:Int} {r:List Nat},En r→St Dg ((if y=1 then [] else 47::ds y.natAbs)++r):=fun {y r} hr=>by
   split
   · exact hr.st nd32 nd41
   · exact rV nd47
  obtain ⟨e1,e2⟩:=dq (k6 _) (k6 _) (st hr) (st hs) e
  refine ⟨qV e1,?_⟩
  by_cases z:y=1
  · by_cases z':y'=1
    · rw [if_pos z,if_pos z'] at e2
      exact ⟨by omega,e2⟩
    · rw [if_pos z,if_neg z',List.nil_append,y8] at e2
      rcases hr _ _ e2 with h|h<;>omega
  · by_cases z':y'=1
    · rw [if_neg z,if_pos z',List.nil_append,y8] at e2
      rcases hs _ _ e2.symm with h|h<;>omega
    · rw [if_neg z,if_neg z',y8,y8] at e2
      obtain ⟨e3,e4⟩:=dq (k6 _) (k6 _) (hr.st nd32 nd41) (hs.st nd32 nd41) (List.cons.inj e2).2
      have:=qV e3
      exact ⟨by omega,e4⟩
 obtain ⟨c,l,ec,hc⟩:=uk x.natAbs
 obtain ⟨c',l',ec',hc'⟩:=uk x'.natAbs
 unfold sg at e
 by_cases z:x < 0
 · by_cases z':x' < 0
   · rw [if_pos z,if_pos z'] at e
     obtain ⟨e1,e2,e3⟩:=low_inj hr hs (by simpa using e)
     exact ⟨by rw [show x=x' by omega,e2],e3⟩
   · rw [if_pos z,if_neg z',ec'] at e
     have:45=c':=(List.cons.inj (by simpa using e)).1
     unfold Dg at hc'
     omega
 · by_cases z':x' < 0
   · rw [if_neg z,if_pos z',ec] at e
     have:c=45:=(List.cons.inj (by simpa using e)).1
     unfold Dg at hc
     omega
   · rw [if_neg z,if_neg z'] at e
     obtain ⟨e1,e2,e3⟩:=low_inj hr hs (by simpa using e)
     exact ⟨by rw [show x=x' by omega,e2],e3⟩
theorem qm:∀ {ps qs:List Pq} {f g:Fr} {r s:List Nat},(∀p∈ps,Lt p.1∧0 < p.2.2)→(∀p∈qs,Lt p.1∧0 < p.2.2)→0 < f.2→0 < g.2→
 spC (ps.flatMap prC++ [frC f])++41::r=spC (qs.flatMap prC++ [frC g])++41::s→ps=qs∧f=g∧r=s
 | [],[],f,g,r,s,_,_,hf,hg,e=>by
  have e':32::(frC f++41::r)=32::(frC g++41::s):=by simpa [spC] using e
  obtain ⟨e1,e2⟩:=jf hf hg (En.k r) (En.k s) (List.cons.inj e').2
  exact ⟨rfl,e1,(List.cons.inj e2).2⟩
 | [],q::qs,f,g,r,s,_,hq,hf,hg,e=>by
  have e':32::(frC f++41::r)=32::(frC q.2++32::(tmC q.1++(spC (qs.flatMap prC++ [frC g])++41::s))):=by simpa [spC,prC] using e
  obtain ⟨_,e2⟩:=jf hf (hq q x5).2 (En.k r) (En.b _) (List.cons.inj e').2
  cases e2
 |p::ps,[],f,g,r,s,hp,_,hf,hg,e=>by
  have e':32::(frC p.2++32::(tmC p.1++(spC (ps.flatMap prC++ [frC f])++41::r)))=32::(frC g++41::s):=by simpa [spC,prC] using e
  obtain ⟨_,e2⟩:=jf (hp p x5).2 hg (En.b _) (En.k s) (List.cons.inj e').2
  cases e2
 |p::ps,q::qs,f,g,r,s,hp,hq,hf,hg,e=>by
  have e':32::(frC p.2++32::(tmC p.1++(spC (ps.flatMap prC++ [frC f])++41::r)))=32::(frC q.2++32::(tmC q.1++(spC (qs.flatMap prC++ [frC g])++41::s))):=by simpa [spC,prC] using e
  obtain ⟨e1,e2⟩:=jf (hp p x5).2 (hq q x5).2 (En.b _) (En.b _) (List.cons.inj e').2
  obtain ⟨e3,e4⟩:=iN (hp p x5).1 _ (hq q x5).1 _ _ (cT _ _) (cT _ _) (List.cons.inj e2).2
  obtain ⟨e5,e6,e7⟩:=qm (fun p m=>hp p (x6 _ m)) (fun p m=>hq p (x6 _ m)) hf hg e4
  exact ⟨by rw [e5,Prod.ext e3 e1],e6,e7⟩
theorem n9 {f g:Fr} (h:frT f=frT g):f=g:=by
 obtain ⟨a,b⟩:=f
 obtain ⟨c,d⟩:=g
 unfold frT at h
 simp only [Tr.tup.injEq,xF,Tr.int.injEq,and_true] at h
 exact Prod.ext h.1 h.2
theorem sy {p q:Pq} (h:prT p=prT q):p=q:=by
 obtain ⟨a,b⟩:=p
 obtain ⟨c,d⟩:=q
 unfold prT at h
 simp only [Tr.tup.injEq,xF,and_true] at h
 exact Prod.ext h.1 (n9 h.2)
theorem j3:∀ {ps qs:List Pq},ps.map prT=qs.map prT→ps=qs
 | [],[],_=>rfl
 | [],_::_,h=>by cases h
 |_::_,[],h=>by cases h
 |p::ps,q::qs,h=>by
  rw [xg,xg] at h
  obtain ⟨h1,h2⟩:=List.cons.inj h
  rw [sy h1,j3 h2]
theorem s_ne {a b:Str} {x y:List Tr} (h:a≠b):Tr.tup (.str a::x)≠Tr.tup (.str b::y):=fun e=>by
 simp only [Tr.tup.injEq,xF,Tr.str.injEq] at e
 exact h e.1
theorem gK {x:Str} (h:Lw (.tup [s_ "flag", .str x])):Nm x:=by
 generalize e:Tr.tup [s_ "flag", .str x]=t at h
 cases h with
 |fl y hy=>
  simp only [Tr.tup.injEq,xF,Tr.str.injEq,and_true,true_and] at e
  rw [e]
  exact hy
 |mo qs g hq=>exact absurd e (s_ne (by decide +kernel))
 |li t u ht hu=>exact absurd e (s_ne (by decide +kernel))
 |no t ht=>exact absurd e (s_ne (by decide +kernel))
 |bo l hl=>exact absurd e (s_ne (by decide +kernel))
 |ei l hl=>exact absurd e (s_ne (by decide +kernel))
theorem ue {ps:List Pq} {f:Fr} (h:Lw (.tup [s_ "most", .tup (ps.map prT),frT f])):∀p∈ps,Lt p.1:=by
 generalize e:Tr.tup [s_ "most", .tup (ps.map prT),frT f]=t at h
 cases h with
 |mo qs g hq=>
  simp only [Tr.tup.injEq,xF,and_true,true_and] at e
  rw [j3 e.1]
  exact hq
 |fl x hx=>exact absurd e (s_ne (by decide +kernel))
 |li t u ht hu=>exact absurd e (s_ne (by decide +kernel))
 |no t ht=>exact absurd e (s_ne (by decide +kernel))
 |bo l hl=>exact absurd e (s_ne (by decide +kernel))
 |ei l hl=>exact absurd e (s_ne (by decide +kernel))
theorem mw {a b:Tr} (h:Lw (.tup [s_ "like",a,b])):Lt a∧Lt b:=by
 generalize e:Tr.tup [s_ "like",a,b]=t at h
 cases h with
 |li t u ht hu=>
  simp only [Tr.tup.injEq,xF,and_true,true_and] at e
  rw [e.1,e.2]
  exact ⟨ht,hu⟩
 |fl x hx=>exact absurd e (s_ne (by decide +kernel))
 |mo qs g hq=>exact absurd e (s_ne (by decide +kernel))
 |no t ht=>exact absurd e (s_ne (by decide +kernel))
 |bo l hl=>exact absurd e (s_ne (by decide +kernel))
 |ei l hl=>exact absurd e (s_ne (by decide +kernel))
theorem qo {a:Tr} (h:Lw (.tup [s_ "not",a])):Lw a:=by
 generalize e:Tr.tup [s_ "not",a]=t at h
 cases h with
 |no t ht=>
  simp only [Tr.tup.injEq,xF,and_true,true_and] at e
  rw [e]
  exact ht
 |fl x hx=>exact absurd e (s_ne (by decide +kernel))
 |mo qs g hq=>exact absurd e (s_ne (by decide +kernel))
 |li t u ht hu=>exact absurd e (s_ne (by decide +kernel))
 |bo l hl=>exact absurd e (s_ne (by decide +kernel))
 |ei l hl=>exact absurd e (s_ne (by decide +kernel))
theorem qq {l:List Tr} (h:Lw (.tup [s_ "both", .tup l])):∀t∈l,Lw t:=by
 generalize e:Tr.tup [s_ "both", .tup l]=t at h
 cases h with
 |bo l' hl=>
  simp only [Tr.tup.injEq,xF,and_true,true_and] at e
  rw [e]
  exact hl
 |fl x hx=>exact absurd e (s_ne (by decide +kernel))
 |mo qs g hq=>exact absurd e (s_ne (by decide +kernel))
 |li t u ht hu=>exact absurd e (s_ne (by decide +kernel))
 |no t ht=>exact absurd e (s_ne (by decide +kernel))
 |ei l' hl=>exact absurd e (s_ne (by decide +kernel))
theorem qp {l:List Tr} (h:Lw (.tup [s_ "either", .tup l])):∀t∈l,Lw t:=by
 generalize e:Tr.tup [s_ "either", .tup l]=t at h
 cases h with
 |ei l' hl=>
  simp only [Tr.tup.injEq,xF,and_true,true_and] at e
  rw [e]
  exact hl
 |fl x hx=>exact absurd e (s_ne (by decide +kernel))
 |mo qs g hq=>exact absurd e (s_ne (by decide +kernel))
 |li t u ht hu=>exact absurd e (s_ne (by decide +kernel))
 |no t ht=>exact absurd e (s_ne (by decide +kernel))
 |bo l' hl=>exact absurd e (s_ne (by decide +kernel))
theorem brk {k l:Str} {cs ds:List (List Nat)} {r s:List Nat} (hk:∀c∈cl k,Ltr c) (hl:∀c∈cl l,Ltr c) (e:(hd k++spC cs++ [41])++r=(hd l++spC ds++ [41])++s):k=l∧spC cs++41::r=spC ds++41::s:=by
 have e':cl k++(spC cs++41::r)=cl l++(spC ds++41::s):=by simpa [hd] using e
 obtain ⟨e1,e2⟩:=dq hk hl ((cT _ _).st nl32 nl41) ((cT _ _).st nl32 nl41) e'
 exact ⟨cl_inj e1,e2⟩
theorem brk0 {x l:Str} {ds:List (List Nat)} {r s:List Nat} (hx:Nm x) (e:cl x++r=(hd l++spC ds++ [41])++s):False:=by
 obtain ⟨c,m,q,hc⟩:=nm_cl hx
 rw [q,y8] at e
 have:c=40:=by
  have:=(List.cons.inj (show c::(m++r)=40::(cl l++spC ds++ [41]++s) by simpa [hd] using e)).1
  exact this
 subst this
 unfold Ltr Trm.Ltr at hc
 omega
theorem w_mo:∀c∈cl (Str.ofString "most"),Ltr c:=by show∀c∈cl (Str.ofString "most"),97≤c∧c≤122;decide +kernel
theorem w_li:∀c∈cl (Str.ofString "like"),Ltr c:=by show∀c∈cl (Str.ofString "like"),97≤c∧c≤122;decide +kernel
theorem w_no:∀c∈cl (Str.ofString "not"),Ltr c:=by show∀c∈cl (Str.ofString "not"),97≤c∧c≤122;decide +kernel
theorem w_al:∀c∈cl (Str.ofString "all"),Ltr c:=by show∀c∈cl (Str.ofString "all"),97≤c∧c≤122;decide +kernel
theorem w_an:∀c∈cl (Str.ofString "any"),Ltr c:=by show∀c∈cl (Str.ofString "any"),97≤c∧c≤122;decide +kernel
theorem uq {n:Nat} {t:Tr} {c:List Nat} (h:Wx n t c):Lw t→∀(m:Nat) (u:Tr) (d:List Nat),Wx m u d→Lw u→∀r s,En r→En s→c++r=d++s→t=u∧c=d∧r=s:=by
 have fin:∀ {t u:Tr} {c d r s:List Nat},t=u→r=s→c++r=d++s→t=u∧c=d∧r=s:=fun h1 h2 e=>⟨h1,by subst h2;exact List.append_cancel_right e,h2⟩
 have many:∀ {l l':List (Tr×List Nat)} {r s:List Nat} {m':Nat},(∀p∈l,Lw p.1→∀(m:Nat) (u:Tr) (d:List Nat),Wx m u d→Lw u→∀r s,En r→En s→p.2++r=d++s→p.1=u∧p.2=d∧r=s)→(∀p∈l,Lw p.1)→(∀p∈l',Wx m' p.1 p.2)→(∀p∈l',Lw p.1)→
  spC (l.map (·.2))++41::r=spC (l'.map (·.2))++41::s→l=l'∧r=s:=fun {l l' r s m'} ih h1 h2 h3 e=>
  iQ (fun p:Tr×List Nat=>p.2) (Q:=fun p=>Wx m' p.1 p.2∧Lw p.1) (fun p mp q hq r s hr hs e=>by
   obtain ⟨e1,e2,e3⟩:=ih p mp (h1 p mp) m' q.1 q.2 hq.1 hq.2 r s hr hs e
   exact ⟨Prod.ext e1 e2,e3⟩) (fun q mq=>⟨h2 q mq,h3 q mq⟩) e
 induction h with
 |fl n x hx=>
  intro ht m u d hu hlu r s hr hs e
  have hx:=gK ht
  cases hu with
  |fl _ y hy=>
   obtain ⟨e1,e2⟩:=dq (eY hx) (eY (gK hlu)) (hr.st nl32 nl41) (hs.st nl32 nl41) e
   exact fin (by rw [cl_inj e1]) e2 e
  |mo=>exact (brk0 hx e).elim
  |li=>exact (brk0 hx e).elim
  |no=>exact (brk0 hx e).elim
  |bo=>exact (brk0 hx e).elim
  |ei=>exact (brk0 hx e).elim
 |mo n ps f h3 hp hf _ _=>
  intro ht m u d hu hlu r s hr hs e
  cases hu with
  |fl _ y hy=>exact (brk0 (gK hlu) e.symm).elim
  |mo _ qs g h3' hq hg _ _=>
   obtain ⟨_,e2⟩:=brk w_mo w_mo e
   obtain ⟨e3,e4,e5⟩:=qm (fun p m=>⟨ue ht p m,(hp p m).gf.pos⟩) (fun p m=>⟨ue hlu p m,(hq p m).gf.pos⟩) hf.pos hg.pos e2
   exact fin (by rw [e3,e4]) e5 e
  |li=>exact absurd (brk w_mo w_li e).1 (by decide +kernel)
  |no=>exact absurd (brk w_mo w_no e).1 (by decide +kernel)
  |bo=>exact absurd (brk w_mo w_al e).1 (by decide +kernel)
  |ei=>exact absurd (brk w_mo w_an e).1 (by decide +kernel)
 |li n t1 t2 h1 h2=>
  intro ht m u d hu hlu r s hr hs e
  cases hu with
  |fl _ y hy=>exact (brk0 (gK hlu) e.symm).elim
  |mo=>exact absurd (brk w_li w_mo e).1 (by decide +kernel)
  |li _ u1 u2 h1' h2'=>
   obtain ⟨_,e2⟩:=brk w_li w_li e
   obtain ⟨e3,e4⟩:=iQ tmC (ts:= [t1,t2]) (us:= [u1,u2]) (Q:=Lt) (fun t m=>by
    rcases xi.mp m with rfl|m
    · exact iN (mw ht).1
    · rw [x8.mp m]
      exact iN (mw ht).2) (fun t m=>by
    rcases xi.mp m with rfl|m
    · exact (mw hlu).1
    · rw [x8.mp m]
      exact (mw hlu).2) e2
   simp only [xF,and_true] at e3
   exact fin (by rw [e3.1,e3.2]) e4 e
  |no=>exact absurd (brk w_li w_no e).1 (by decide +kernel)
  |bo=>exact absurd (brk w_li w_al e).1 (by decide +kernel)
  |ei=>exact absurd (brk w_li w_an e).1 (by decide +kernel)
 |no n t c hx ih=>
  intro ht m u d hu hlu r s hr hs e
  cases hu with
  |fl _ y hy=>exact (brk0 (gK hlu) e.symm).elim
  |mo=>exact absurd (brk w_no w_mo e).1 (by decide +kernel)
  |li=>exact absurd (brk w_no w_li e).1 (by decide +kernel)
  |no m' u' d' hx'=>
   obtain ⟨_,e2⟩:=brk w_no w_no e
   obtain ⟨e3,e4⟩:=many (l:= [(t,c)]) (l':= [(u',d')]) (m':=m') (fun p mp=>by rw [x8.mp mp];exact ih) (fun p mp=>by rw [x8.mp mp];exact qo ht) (fun p mp=>by rw [x8.mp mp];exact hx') (fun p mp=>by rw [x8.mp mp];exact qo hlu) e2
   simp only [xF,and_true,Prod.mk.injEq] at e3
   exact fin (by rw [e3.1]) e4 e
  |bo=>exact absurd (brk w_no w_al e).1 (by decide +kernel)
  |ei=>exact absurd (brk w_no w_an e).1 (by decide +kernel)
 |bo n l h3 hl ih=>
  intro ht m u d hu hlu r s hr hs e
  cases hu with
  |fl _ y hy=>exact (brk0 (gK hlu) e.symm).elim
  |mo=>exact absurd (brk w_al w_mo e).1 (by decide +kernel)
  |li=>exact absurd (brk w_al w_li e).1 (by decide +kernel)
  |no=>exact absurd (brk w_al w_no e).1 (by decide +kernel)
  |bo m' l' h3' hl'=>
   obtain ⟨_,e2⟩:=brk w_al w_al e
   obtain ⟨e3,e4⟩:=many ih (fun p mp=>qq ht _ (yn mp)) hl' (fun p mp=>qq hlu _ (yn mp)) e2
   exact fin (by rw [e3]) e4 e
  |ei=>exact absurd (brk w_al w_an e).1 (by decide +kernel)
 |ei n l h3 hl ih=>
  intro ht m u d hu hlu r s hr hs e
  cases hu with
  |fl _ y hy=>exact (brk0 (gK hlu) e.symm).elim
  |mo=>exact absurd (brk w_an w_mo e).1 (by decide +kernel)
  |li=>exact absurd (brk w_an w_li e).1 (by decide +kernel)
  |no=>exact absurd (brk w_an w_no e).1 (by decide +kernel)
  |bo=>exact absurd (brk w_an w_al e).1 (by decide +kernel)
  |ei m' l' h3' hl'=>
   obtain ⟨_,e2⟩:=brk w_an w_an e
   obtain ⟨e3,e4⟩:=many ih (fun p mp=>qp ht _ (yn mp)) hl' (fun p mp=>qp hlu _ (yn mp)) e2
   exact fin (by rw [e3]) e4 e
structure Wy (n:Nat) (t:Tr) (c:List Nat):Prop where
 wx:Wx n t c
 lw:Lw t
theorem Wy.inj {n m:Nat} {t u:Tr} {c:List Nat} (h1:Wy n t c) (h2:Wy m u c):t=u:=(uq h1.wx h1.lw m u c h2.wx h2.lw [] [] En.nil En.nil rfl).1
end Tw
namespace Fs
section
variable {α:Type}
open Classical in
noncomputable def add (acc:List α) (t:α):List α:=if t∈acc then acc else acc++ [t]
noncomputable def firsts (acc ts:List α):List α:=ts.foldl add acc
theorem add_in {acc:List α} {t:α} (h:t∈acc):add acc t=acc:=by unfold add;rw [if_pos h]
theorem add_out {acc:List α} {t:α} (h:¬t∈acc):add acc t=acc++ [t]:=by unfold add;rw [if_neg h]
theorem firsts_app (acc a b:List α):firsts acc (a++b)=firsts (firsts acc a) b:=by
 unfold firsts
 rw [List.foldl_append]
theorem dw (acc:List α):firsts acc []=acc:=rfl
theorem bY (acc:List α) (t:α) (ts:List α):firsts acc (t::ts)=firsts (add acc t) ts:=rfl
theorem firsts_one (acc:List α) (t:α):firsts acc [t]=add acc t:=rfl
theorem sR {acc:List α} {t u:α}:u∈add acc t↔u∈acc∨u=t:=by
 by_cases m:t∈acc
 · rw [add_in m]
   exact ⟨.inl,fun h=>h.elim id fun e=>by rw [e];exact m⟩
 · rw [add_out m]
   simp
theorem mem_fst:∀ {ts acc:List α} {u:α},u∈firsts acc ts↔u∈acc∨u∈ts
 | [],acc,u=>by simp [dw]
 |t::ts,acc,u=>by
  rw [bY,mem_fst,sR,xi]
  constructor
  · rintro ((h|h)|h)
    · exact .inl h
    · exact .inr (.inl h)
    · exact .inr (.inr h)
  · rintro (h|h|h)
    · exact .inl (.inl h)
    · exact .inl (.inr h)
    · exact .inr h
theorem firsts_sub:∀ {ts acc:List α},(∀u∈ts,u∈acc)→firsts acc ts=acc
 | [],acc,_=>rfl
 |t::ts,acc,h=>by
  rw [bY,add_in (h t x5)]
  exact firsts_sub fun u m=>h u (x6 _ m)
theorem tN (acc:List α) (t:α):(add acc t).length≤acc.length+1:=by
 unfold add
 split<;>simp
theorem firsts_len:∀(ts acc:List α),(firsts acc ts).length≤acc.length+ts.length
 | [],acc=>by simp [dw]
 |t::ts,acc=>by
  rw [bY]
  have h1:=firsts_len ts (add acc t)
  have h2:=tN acc t
  rw [xh]
  omega
theorem firsts_idem (acc l:List α):firsts acc (firsts [] l)=firsts acc l:=by
 have key:∀(r acc:List α),firsts acc (firsts [] r.reverse)=firsts acc r.reverse:=by
  intro r
  induction r with
  |nil=>intro acc;rfl
  |cons x r ih=>
   intro acc
   rw [List.reverse_cons,firsts_app [] r.reverse [x],firsts_one,firsts_app acc r.reverse [x],firsts_one]
   by_cases m:x∈firsts [] r.reverse
   · rw [add_in m,ih,add_in]
     rcases mem_fst.mp m with h|h
     · cases h
     · exact mem_fst.mpr (.inr h)
   · rw [add_out m,firsts_app,firsts_one,ih]
 have:=key l.reverse acc
 rwa [List.reverse_reverse] at this
end
end Fs
namespace Tw
open PySem L2 Tre Wd Mth Dec Su
theorem vS {n:Nat} {x:Str} {c:List Nat} (h:Wx n (.tup [s_ "flag", .str x]) c):c=cl x:=by
 generalize e:Tr.tup [s_ "flag", .str x]=t at h
 cases h with
 |fl _ y hy=>
  simp only [Tr.tup.injEq,xF,Tr.str.injEq,and_true,true_and] at e
  rw [e]
 |mo=>exact absurd e (s_ne (by decide +kernel))
 |li=>exact absurd e (s_ne (by decide +kernel))
 |no=>exact absurd e (s_ne (by decide +kernel))
 |bo=>exact absurd e (s_ne (by decide +kernel))
 |ei=>exact absurd e (s_ne (by decide +kernel))
theorem vO {n:Nat} {ps:List Pq} {f:Fr} {c:List Nat} (h:Wx n (.tup [s_ "most", .tup (ps.map prT),frT f]) c):c=hd "most"++spC (ps.flatMap prC++ [frC f])++ [41]:=by
 generalize e:Tr.tup [s_ "most", .tup (ps.map prT),frT f]=t at h
 cases h with
 |mo _ qs g h3 hq hg _ _=>
  simp only [Tr.tup.injEq,xF,and_true,true_and] at e
  rw [j3 e.1,n9 e.2]
 |fl=>exact absurd e (s_ne (by decide +kernel))
 |li=>exact absurd e (s_ne (by decide +kernel))
 |no=>exact absurd e (s_ne (by decide +kernel))
 |bo=>exact absurd e (s_ne (by decide +kernel))
 |ei=>exact absurd e (s_ne (by decide +kernel))
theorem vQ {n:Nat} {a b:Tr} {c:List Nat} (h:Wx n (.tup [s_ "like",a,b]) c):c=hd "like"++spC [tmC a,tmC b]++ [41]:=by
 generalize e:Tr.tup [s_ "like",a,b]=t at h
 cases h with
 |li _ t u ht hu=>
  simp only [Tr.tup.injEq,xF,and_true,true_and] at e
  rw [e.1,e.2]
 |fl=>exact absurd e (s_ne (by decide +kernel))
 |mo=>exact absurd e (s_ne (by decide +kernel))
 |no=>exact absurd e (s_ne (by decide +kernel))
 |bo=>exact absurd e (s_ne (by decide +kernel))
 |ei=>exact absurd e (s_ne (by decide +kernel))
theorem vN {n:Nat} {a:Tr} {c:List Nat} (h:Wx n (.tup [s_ "not",a]) c):∃m d,n=m+1∧Wx m a d∧c=hd "not"++spC [d]++ [41]:=by
 generalize e:Tr.tup [s_ "not",a]=t at h
 cases h with
 |no m t d hd=>
  simp only [Tr.tup.injEq,xF,and_true,true_and] at e
  rw [e]
  exact ⟨m,d,rfl,hd,rfl⟩
 |fl=>exact absurd e (s_ne (by decide +kernel))
 |mo=>exact absurd e (s_ne (by decide +kernel))
 |li=>exact absurd e (s_ne (by decide +kernel))
 |bo=>exact absurd e (s_ne (by decide +kernel))
 |ei=>exact absurd e (s_ne (by decide +kernel))
theorem vV {n:Nat} {l:List Tr} {c:List Nat} (h:Wx n (.tup [s_ "both", .tup l]) c):∃m,∃ps:List (Tr×List Nat),n=m+1∧l=ps.map (·.1)∧ps.length≤3∧(∀p∈ps,Wx m p.1 p.2)∧c=hd "all"++spC (ps.map (·.2))++ [41]:=by
 generalize e:Tr.tup [s_ "both", .tup l]=t at h
 cases h with
 |bo m ps h3 hp=>
  simp only [Tr.tup.injEq,xF,and_true,true_and] at e
  exact ⟨m,ps,rfl,e,h3,hp,rfl⟩
 |fl=>exact absurd e (s_ne (by decide +kernel))
 |mo=>exact absurd e (s_ne (by decide +kernel))
 |li=>exact absurd e (s_ne (by decide +kernel))
 |no=>exact absurd e (s_ne (by decide +kernel))
 |ei=>exact absurd e (s_ne (by decide +kernel))
theorem vU {n:Nat} {l:List Tr} {c:List Nat} (h:Wx n (.tup [s_ "either", .tup l]) c):∃m,∃ps:List (Tr×List Nat),n=m+1∧l=ps.map (·.1)∧ps.length≤3∧(∀p∈ps,Wx m p.1 p.2)∧c=hd "any"++spC (ps.map (·.2))++ [41]:=by
 generalize e:Tr.tup [s_ "either", .tup l]=t at h
 cases h with
 |ei m ps h3 hp=>
  simp only [Tr.tup.injEq,xF,and_true,true_and] at e
  exact ⟨m,ps,rfl,e,h3,hp,rfl⟩
 |fl=>exact absurd e (s_ne (by decide +kernel))
 |mo=>exact absurd e (s_ne (by decide +kernel))
 |li=>exact absurd e (s_ne (by decide +kernel))
 |no=>exact absurd e (s_ne (by decide +kernel))
 |bo=>exact absurd e (s_ne (by decide +kernel))
theorem ur {n:Nat} {t:Tr} {c:List Nat} (h:Wx n t c):∀ {m:Nat} {d:List Nat},Wx m t d→c=d:=by
 have many:∀ {l l':List (Tr×List Nat)} {m:Nat},(∀p∈l,∀ {m:Nat} {d:List Nat},Wx m p.1 d→p.2=d)→(∀p∈l',Wx m p.1 p.2)→l.map (·.1)=l'.map (·.1)→l.map (·.2)=l'.map (·.2):=by
  intro l
  induction l with
  |nil=>
   intro l' m _ _ e
   cases l' with
   |nil=>rfl
   |cons _ _=>cases e
  |cons p l ih=>
   intro l' m h1 h2 e
   cases l' with
   |nil=>cases e
   |cons q l'=>
    rw [xg,xg] at e ⊢
    obtain ⟨e1,e2⟩:=List.cons.inj e
    have:=h1 p x5 (m:=m) (d:=q.2) (by rw [e1];exact h2 q x5)
    rw [this,ih (fun p m=>h1 p (x6 _ m)) (fun p m=>h2 p (x6 _ m)) e2]
 induction h with
 |fl n x hx=>intro m d h;exact (vS h).symm
 |mo n ps f h3 hp hf _ _=>intro m d h;exact (vO h).symm
 |li n t u h1 h2=>intro m d h;exact (vQ h).symm
 |no n t c hx ih=>
  intro m d h
  obtain ⟨m',d',_,h1,rfl⟩:=vN h
  rw [ih h1]
 |bo n l h3 hl ih=>
  intro m d h
  obtain ⟨m',ps,_,e,_,h1,rfl⟩:=vV h
  rw [many (fun p mp=>ih p mp) h1 e]
 |ei n l h3 hl ih=>
  intro m d h
  obtain ⟨m',ps,_,e,_,h1,rfl⟩:=vU h
  rw [many (fun p mp=>ih p mp) h1 e]
inductive Kn:Nat→Tr→List Tr→Prop
 |at_ (n:Nat) (k:Str) (r:List Tr):(k= "flag"∨k= "most"∨k= "like")→Kn n (.tup (.str k::r)) []
 |no (n:Nat) (t:Tr):Kn (n+1) (.tup [s_ "not",t]) [t]
 |be (n:Nat) (k:Str) (l:List Tr):(k= "both"∨k= "either")→l.length≤3→Kn (n+1) (.tup [.str k, .tup l]) l
theorem vL {n:Nat} {t:Tr} {c:List Nat} (h:Wy n t c):∃l,Kn n t l∧∀u∈l,∃m d,n=m+1∧Wy m u d∧u.depth < t.depth:=by
 obtain ⟨hx,hl⟩:=h
 cases hx with
 |fl _ x hx=>exact ⟨[], .at_ n _ _ (.inl rfl),fun u m=>by cases m⟩
 |mo _ ps f h1 h2 h3 _ _=>exact ⟨[], .at_ n _ _ (.inr (.inl rfl)),fun u m=>by cases m⟩
 |li _ t u h1 h2=>exact ⟨[], .at_ n _ _ (.inr (.inr rfl)),fun u m=>by cases m⟩
 |no m t d hx=>
  refine ⟨[t], .no m t,fun u mu=> ?_⟩
  rw [x8.mp mu]
  exact ⟨m,d,rfl,⟨hx,qo hl⟩,by simp only [Tr.depth,Trs.depth];omega⟩
 |bo m l h3 hp=>
  refine ⟨_, .be m _ _ (.inl rfl) (by rw [wZ];exact h3),fun u mu=> ?_⟩
  obtain ⟨p,mp,rfl⟩:=xy.mp mu
  refine ⟨m,p.2,rfl,⟨hp p mp,qq hl _ mu⟩,?_⟩
  have:=aK mu
  simp only [Tr.depth,Trs.depth]
  omega
 |ei m l h3 hp=>
  refine ⟨_, .be m _ _ (.inr rfl) (by rw [wZ];exact h3),fun u mu=> ?_⟩
  obtain ⟨p,mp,rfl⟩:=xy.mp mu
  refine ⟨m,p.2,rfl,⟨hp p mp,qp hl _ mu⟩,?_⟩
  have:=aK mu
  simp only [Tr.depth,Trs.depth]
  omega
noncomputable def aQ:Tr→List Tr
 | .tup [.str k,u]=>if k= "not" then [u] else if k= "both"∨k= "either" then (match u with| .tup l=>l|_=> []) else []
 |_=> []
theorem fJ {n:Nat} {t:Tr} {l:List Tr} (h:Kn n t l):aQ t=l:=by
 cases h with
 |at_ n k r hk=>
  unfold aQ
  split
  · rename_i k' u e
    have ek:k=k':=by
     simp only [Tr.tup.injEq,xF,Tr.str.injEq] at e
     exact e.1
    subst ek
    have a1:k≠"not":=by rcases hk with rfl|rfl|rfl<;>decide +kernel
    have a2:¬(k= "both"∨k= "either"):=by rcases hk with rfl|rfl|rfl<;>decide +kernel
    rw [if_neg a1,if_neg a2]
  · rfl
 |no n t=>
  unfold aQ s_
  dsimp only
  rw [if_pos rfl]
 |be n k l hk h3=>
  unfold aQ
  dsimp only
  have a1:k≠"not":=by rcases hk with rfl|rfl<;>decide +kernel
  rw [if_neg a1,if_pos hk]
noncomputable def allN:Nat→Tr→List Tr
 |0,t=> [t]
 |n+1,t=>(aQ t).flatMap (allN n)++ [t]
theorem ky:∀(n:Nat) (t:Tr),t∈allN n t
 |0,t=>x8.mpr rfl
 |n+1,t=>xj.mpr (.inr (x8.mpr rfl))
theorem bp {n:Nat} {t:Tr} {c:List Nat} (h:Wy n t c):Kn n t (aQ t)∧∀u∈aQ t,∃m d,n=m+1∧Wy m u d∧u.depth < t.depth:=by
 obtain ⟨l,hk,hl⟩:=vL h
 rw [fJ hk]
 exact ⟨hk,hl⟩
theorem lH {n:Nat} {t:Tr} {c:List Nat} (h:Wy n t c):allN n t=(aQ t).flatMap (allN (n - 1))++ [t]:=by
 cases n with
 |succ n=>rfl
 |zero=>
  have:aQ t= []:=by
   cases e:aQ t with
   |nil=>rfl
   |cons u l=>
    obtain ⟨m,d,z,_⟩:=(bp h).2 u (by rw [e];exact x5)
    omega
  rw [this]
  rfl
theorem cA:∀ {n:Nat} {t:Tr} {c:List Nat},Wy n t c→∀u∈allN n t,∃m d,m≤n∧Wy m u d∧u.depth≤t.depth:=by
 intro n
 induction n with
 |zero=>
  intro t c h u m
  rw [x8.mp m]
  exact ⟨0,c,x9 _,h,x9 _⟩
 |succ n ih=>
  intro t c h u m
  rcases xj.mp m with m|m
  · obtain ⟨k,mk,mu⟩:=xA.mp m
    obtain ⟨m',d,e,hk,hd⟩:=(bp h).2 k mk
    have:m'=n:=by omega
    subst this
    obtain ⟨a,b,h1,h2,h3⟩:=ih hk u mu
    exact ⟨a,b,by omega,h2,by omega⟩
  · rw [x8.mp m]
    exact ⟨n+1,c,x9 _,h,x9 _⟩
theorem nA:∀ {n:Nat} {t:Tr} {c:List Nat},Wy n t c→∀u∈allN n t,∀x∈aQ u,x∈allN n t:=by
 intro n
 induction n with
 |zero=>
  intro t c h u m x mx
  rw [x8.mp m] at mx
  obtain ⟨m',d,e,_⟩:=(bp h).2 x mx
  omega
 |succ n ih=>
  intro t c h u m x mx
  refine xj.mpr (.inl ?_)
  rcases xj.mp m with m|m
  · obtain ⟨k,mk,mu⟩:=xA.mp m
    obtain ⟨m',d,e,hk,hd⟩:=(bp h).2 k mk
    have:m'=n:=by omega
    subst this
    exact xA.mpr ⟨k,mk,ih hk u mu x mx⟩
  · rw [x8.mp m] at mx
    exact xA.mpr ⟨x,mx,ky n x⟩
def Clo (acc:List Tr):Prop:=∀u∈acc,∀x∈aQ u,x∈acc
theorem Clo.all {acc:List Tr} (hc:Clo acc):∀ {n:Nat} {t:Tr},t∈acc→∀u∈allN n t,u∈acc:=by
 intro n
 induction n with
 |zero=>intro t ht u m;rw [x8.mp m];exact ht
 |succ n ih=>
  intro t ht u m
  rcases xj.mp m with m|m
  · obtain ⟨k,mk,mu⟩:=xA.mp m
    exact ih (hc t ht k mk) u mu
  · rw [x8.mp m];exact ht
theorem Clo.kids {acc l:List Tr} {n:Nat} (hc:Clo acc) (hl:∀t∈l,∃c,Wy n t c):Clo (Fs.firsts acc (l.flatMap (allN n))):=fun u hu x hx=>by
 rcases Fs.mem_fst.mp hu with h|h
 · exact Fs.mem_fst.mpr (.inl (hc u h x hx))
 · obtain ⟨k,mk,mu⟩:=xA.mp h
   obtain ⟨c,hw⟩:=hl k mk
   exact Fs.mem_fst.mpr (.inr (xA.mpr ⟨k,mk,nA hw u mu x hx⟩))
theorem pk {n:Nat} {t:Tr} {c:List Nat} (h:Wy n t c):¬t∈(aQ t).flatMap (allN (n - 1)):=fun m=>by
 obtain ⟨k,mk,mu⟩:=xA.mp m
 obtain ⟨m',d,e,hk,hd⟩:=(bp h).2 k mk
 subst e
 obtain ⟨_,_,_,_,h3⟩:=cA hk t mu
 omega
theorem lj {n:Nat} {t:Tr} {l:List Tr} (h:Kn n t l):l.length≤3:=by
 cases h with
 |at_=>simp
 |no=>simp
 |be n k l hk h3=>exact h3
theorem cu:∀ {n:Nat} {t:Tr} {c:List Nat},Wy n t c→(allN n t).length≤4^n:=by
 intro n
 induction n with
 |zero=>intro t c h;exact x9 _
 |succ n ih=>
  intro t c h
  have h3:=lj (bp h).1
  have:∀ {l:List Tr},(∀u∈l,∃d,Wy n u d)→(l.flatMap (allN n)).length≤l.length*4^n:=by
   intro l
   induction l with
   |nil=>intro _;simp
   |cons a l ih2=>
    intro hl
    obtain ⟨d,hd⟩:=hl a x5
    have i1:=ih hd
    have i2:=ih2 fun u m=>hl u (x6 _ m)
    rw [xS,x3,xh,Nat.succ_mul]
    omega
  have i3:=this (l:=aQ t) fun u mu=>by
   obtain ⟨m,d,e,hk,_⟩:=(bp h).2 u mu
   have:m=n:=by omega
   subst this
   exact ⟨d,hk⟩
  have i4:(aQ t).length*4^n≤3*4^n:=xJ _ h3
  have i5:=xZ (n:=n) (show 0 < 4 by decide)
  show ((aQ t).flatMap (allN n)++ [t]).length≤_
  rw [x3,xm,ya]
  omega
open PySem L2 Tre Wd Mth Dec Su
theorem lK {n:Nat} {t:Tr} {c:List Nat} (h:Wx n t c):Ty .ws t∧t.depth≤2*n+10:=by
 induction h with
 |fl n x _=>exact ⟨.fl x,by simp only [Tr.depth,Trs.depth];omega⟩
 |mo n ps f h1 h2 h3 _ _=>
  have hp:∀p∈ps.map prT,Ty .pr p∧p.depth≤8:=fun p m=>by
   obtain ⟨q,mq,rfl⟩:=xy.mp m
   have hq:=h2 q mq
   refine ⟨.pr _ _ hq.tb.ty (.fr _ _),?_⟩
   have:=hq.tb.dep
   unfold prT frT
   simp only [Tr.depth,Trs.depth]
   omega
  refine ⟨.mo _ _ (fun p m=>(hp p m).1) (.fr _ _),?_⟩
  have:=bc fun p m=>(hp p m).2
  unfold frT
  simp only [Tr.depth,Trs.depth]
  omega
 |li n t u h1 h2=>
  refine ⟨.li t u h1.ty h2.ty,?_⟩
  have:=h1.dep
  have:=h2.dep
  simp only [Tr.depth,Trs.depth]
  omega
 |no n t c _ ih=>
  refine ⟨.no t ih.1,?_⟩
  have:=ih.2
  simp only [Tr.depth,Trs.depth]
  omega
 |bo n l h3 hl ih=>
  have hp:∀t∈l.map (·.1),Ty .ws t∧t.depth≤2*n+10:=fun t m=>by
   obtain ⟨q,mq,rfl⟩:=xy.mp m
   exact ih q mq
  refine ⟨.bo _ fun t m=>(hp t m).1,?_⟩
  have:=bc fun t m=>(hp t m).2
  simp only [Tr.depth,Trs.depth]
  omega
 |ei n l h3 hl ih=>
  have hp:∀t∈l.map (·.1),Ty .ws t∧t.depth≤2*n+10:=fun t m=>by
   obtain ⟨q,mq,rfl⟩:=xy.mp m
   exact ih q mq
  refine ⟨.ei _ fun t m=>(hp t m).1,?_⟩
  have:=bc fun t m=>(hp t m).2
  simp only [Tr.depth,Trs.depth]
  omega
theorem lL {k:So} {t u:Tr} (h1:Ty k t) (h2:Ty k u) (e:eqT t u=true):t=u:=tR t.depth (x9 _) h1 h2 ((cI t u).mp e)
end Tw
namespace Fs
variable {α β:Type}
open Classical in
theorem firsts_flat (f:α→List β):∀(L D:List α) (acc:List β),firsts acc ((firsts D L).flatMap f)=firsts (firsts acc (D.flatMap f)) (L.flatMap f)
 | [],D,acc=>rfl
 |x::L,D,acc=>by
  rw [bY,firsts_flat f L,xS,firsts_app]
  by_cases m:x∈D
  · rw [add_in m,firsts_sub (ts:=f x)]
    intro u mu
    exact mem_fst.mpr (.inr (xA.mpr ⟨x,m,mu⟩))
  · rw [add_out m,xW,firsts_app]
    simp only [xS,List.flatMap_nil,yg]
open Classical in
theorem vI {acc:List α} {t:α} (h:acc.Nodup):(add acc t).Nodup:=by
 by_cases m:t∈acc
 · rw [add_in m];exact h
 · rw [add_out m,List.nodup_append]
   exact ⟨h,by simp,fun a ma b mb=>by rw [x8.mp mb];exact fun q=>m (q▸ma)⟩
theorem firsts_nd:∀ {ts acc:List α},acc.Nodup→(firsts acc ts).Nodup
 | [],acc,h=>h
 |t::ts,acc,h=>by rw [bY];exact firsts_nd (vI h)
theorem firsts_take {ts:List α} {acc:List α} {i:Nat} {t:α} (e:ts[i]?=some t):firsts acc (ts.take (i+1))=add (firsts acc (ts.take i)) t:=by
 rw [xQ,e,firsts_app]
 rfl
end Fs
namespace Tw
open PySem L2 Tre Wd Mth Dec Su
theorem vM {n:Nat} {t:Tr} {c:List Nat} (h:Wx n t c):Wx (n+1) t c:=by
 induction h with
 |fl n x hx=>exact .fl _ x hx
 |mo n ps f h1 h2 h3 h4 h5=>exact .mo _ ps f h1 h2 h3 h4 h5
 |li n t u h1 h2=>exact .li _ t u h1 h2
 |no n t c _ ih=>exact .no _ t c ih
 |bo n l h3 _ ih=>exact .bo _ l h3 ih
 |ei n l h3 _ ih=>exact .ei _ l h3 ih
theorem rJ {n m:Nat} {t:Tr} {c:List Nat} (h:Wx n t c) (e:n≤m):Wx m t c:=by
 induction e with
 |refl=>exact h
 |step _ ih=>exact vM ih
theorem Gm.lt {t:Tr} (h:Gm t):Lt t:=by
 induction h with
 |nm x hx=>exact .nm x hx
 |ap f ts hf h0 h3 _ ih=>exact .ap f ts hf h0 ih
theorem vP {n:Nat} {t:Tr} {c:List Nat} (h:Wx n t c):Lw t:=by
 induction h with
 |fl n x hx=>exact .fl x hx
 |mo n ps f h1 h2 h3 h4 h5=>exact .mo ps f fun p m=>(h2 p m).tb.gm.lt
 |li n t u h1 h2=>exact .li t u h1.gm.lt h2.gm.lt
 |no n t c _ ih=>exact .no t ih
 |bo n l h3 _ ih=>
  refine .bo _ fun t m=> ?_
  obtain ⟨p,mp,rfl⟩:=xy.mp m
  exact ih p mp
 |ei n l h3 _ ih=>
  refine .ei _ fun t m=> ?_
  obtain ⟨p,mp,rfl⟩:=xy.mp m
  exact ih p mp
theorem Wx.wy {n m:Nat} {t:Tr} {c:List Nat} (h:Wx n t c) (e:n≤m):Wy m t c:=⟨rJ h e,vP h⟩
inductive Gn:Nat→Tr→Prop
 |nm (n:Nat) (x:Str):Trm.Nm x→Gn n (.tup [s_ "name", .str x])
 |ap (n:Nat) (f:Str) (ts:List Tr):Trm.Nm f→0 < ts.length→ts.length≤3→(∀t∈ts,Gn n t)→Gn (n+1) (.tup [s_ "call", .str f, .tup ts])
theorem Gm.gn {t:Tr} (h:Gm t):∀ {n:Nat},t.depth≤2*n+1→Gn n t:=by
 induction h with
 |nm x hx=>intro n _;exact .nm n x hx
 |ap f ts hf h0 h3 _ ih=>
  intro n hd
  simp only [Tr.depth,Trs.depth] at hd
  cases n with
  |zero=>omega
  |succ n=>exact .ap n f ts hf h0 h3 fun t m=>ih t m (by have:=aK m;omega)
theorem Gn.gm {n:Nat} {t:Tr} (h:Gn n t):Gm t:=by
 induction h with
 |nm n x hx=>exact .nm x hx
 |ap n f ts hf h0 h3 _ ih=>exact .ap f ts hf h0 h3 ih
theorem Gn.up {n:Nat} {t:Tr} (h:Gn n t):Gn (n+1) t:=by
 induction h with
 |nm n x hx=>exact .nm _ x hx
 |ap n f ts hf h0 h3 _ ih=>exact .ap _ f ts hf h0 h3 ih
theorem Gn.mono {n m:Nat} {t:Tr} (h:Gn n t) (e:n≤m):Gn m t:=by
 induction e with
 |refl=>exact h
 |step _ ih=>exact ih.up
theorem Gn.dep {n:Nat} {t:Tr} (h:Gn n t):t.depth≤2*n+1:=by
 induction h with
 |nm n x hx=>simp only [Tr.depth,Trs.depth];omega
 |ap n f ts hf h0 h3 _ ih=>
  have:=bc ih
  simp only [Tr.depth,Trs.depth]
  omega
theorem Gn.len {n:Nat} {t:Tr} (h:Gn n t):(tmC t).length≤13*4^n:=by
 induction h with
 |nm n x hx=>exact name_len hx.le
 |ap n f ts hf h0 h3 _ ih=>exact call_len hf.le h3 (Nat.succ_pos n) (by rw [Nat.add_sub_cancel];exact ih)
def tkT:Tr→List Tr
 | .tup [_,_, .tup ts]=>ts
 |_=> []
theorem Gn.kids {n:Nat} {t:Tr} (h:Gn n t):∀u∈tkT t,∃m,n=m+1∧Gn m u∧u.depth < t.depth:=by
 cases h with
 |nm n x hx=>intro u m;cases m
 |ap n f ts hf h0 h3 hh=>
  intro u m
  have m:u∈ts:=m
  refine ⟨n,rfl,hh u m,?_⟩
  have:=aK m
  simp only [Tr.depth,Trs.depth]
  omega
theorem Gn.klen {n:Nat} {t:Tr} (h:Gn n t):(tkT t).length≤3:=by
 cases h with
 |nm n x hx=>exact xz _
 |ap n f ts hf h0 h3 hh=>exact h3
noncomputable def allT:Nat→Tr→List Tr
 |0,t=> [t]
 |n+1,t=>(tkT t).flatMap (allT n)++ [t]
theorem og:∀(n:Nat) (t:Tr),t∈allT n t
 |0,t=>x8.mpr rfl
 |n+1,t=>xj.mpr (.inr (x8.mpr rfl))
theorem nB {n:Nat} {t:Tr} (h:Gn n t):allT n t=(tkT t).flatMap (allT (n - 1))++ [t]:=by
 cases n with
 |succ n=>rfl
 |zero=>
  have:tkT t= []:=by
   cases e:tkT t with
   |nil=>rfl
   |cons u l=>
    obtain ⟨m,z,_⟩:=h.kids u (by rw [e];exact x5)
    omega
  rw [this]
  rfl
theorem fY:∀ {n:Nat} {t:Tr},Gn n t→∀u∈allT n t,Gn n u∧u.depth≤t.depth:=by
 intro n
 induction n with
 |zero=>
  intro t h u m
  rw [x8.mp m]
  exact ⟨h,x9 _⟩
 |succ n ih=>
  intro t h u m
  rcases xj.mp m with m|m
  · obtain ⟨k,mk,mu⟩:=xA.mp m
    obtain ⟨m',e,hk,hd⟩:=h.kids k mk
    have:m'=n:=by omega
    subst this
    obtain ⟨h2,h3⟩:=ih hk u mu
    exact ⟨h2.up,by omega⟩
  · rw [x8.mp m]
    exact ⟨h,x9 _⟩
theorem rF:∀ {n:Nat} {t:Tr},Gn n t→∀u∈allT n t,∀x∈tkT u,x∈allT n t:=by
 intro n
 induction n with
 |zero=>
  intro t h u m x mx
  rw [x8.mp m] at mx
  obtain ⟨m',e,_⟩:=h.kids x mx
  omega
 |succ n ih=>
  intro t h u m x mx
  refine xj.mpr (.inl ?_)
  rcases xj.mp m with m|m
  · obtain ⟨k,mk,mu⟩:=xA.mp m
    obtain ⟨m',e,hk,hd⟩:=h.kids k mk
    have:m'=n:=by omega
    subst this
    exact xA.mpr ⟨k,mk,ih hk u mu x mx⟩
  · rw [x8.mp m] at mx
    exact xA.mpr ⟨x,mx,og n x⟩
def CloT (acc:List Tr):Prop:=∀u∈acc,∀x∈tkT u,x∈acc
theorem CloT.all {acc:List Tr} (hc:CloT acc):∀ {n:Nat} {t:Tr},t∈acc→∀u∈allT n t,u∈acc:=by
 intro n
 induction n with
 |zero=>intro t ht u m;rw [x8.mp m];exact ht
 |succ n ih=>
  intro t ht u m
  rcases xj.mp m with m|m
  · obtain ⟨k,mk,mu⟩:=xA.mp m
    exact ih (hc t ht k mk) u mu
  · rw [x8.mp m];exact ht
theorem CloT.kids {acc l:List Tr} {n:Nat} (hc:CloT acc) (hl:∀t∈l,Gn n t):CloT (Fs.firsts acc (l.flatMap (allT n))):=fun u hu x hx=>by
 rcases Fs.mem_fst.mp hu with h|h
 · exact Fs.mem_fst.mpr (.inl (hc u h x hx))
 · obtain ⟨k,mk,mu⟩:=xA.mp h
   exact Fs.mem_fst.mpr (.inr (xA.mpr ⟨k,mk,rF (hl k mk) u mu x hx⟩))
theorem nK {n:Nat} {t:Tr} (h:Gn n t):¬t∈(tkT t).flatMap (allT (n - 1)):=fun m=>by
 obtain ⟨k,mk,mu⟩:=xA.mp m
 obtain ⟨m',e,hk,hd⟩:=h.kids k mk
 subst e
 have:=(fY hk t mu).2
 omega
theorem cr {α β:Type} {f:α→List β} {B:Nat}:∀ {l:List α},(∀u∈l,(f u).length≤B)→(l.flatMap f).length≤l.length*B
 | [],_=>by simp
 |a::l,h=>by
  have h1:=h a x5
  have h2:=cr fun u m=>h u (x6 _ m)
  rw [xS,x3,xh,Nat.succ_mul]
  omega
theorem hG:∀ {n:Nat} {t:Tr},Gn n t→(allT n t).length≤4^n:=by
 intro n
 induction n with
 |zero=>intro t h;exact x9 _
 |succ n ih=>
  intro t h
  have h3:=h.klen
  have i3:=cr (B:=4^n) (l:=tkT t) (f:=allT n) fun u mu=>by
   obtain ⟨m,e,hk,_⟩:=h.kids u mu
   have:m=n:=by omega
   subst this
   exact ih hk
  have i4:(tkT t).length*4^n≤3*4^n:=xJ _ h3
  have i5:=xZ (n:=n) (show 0 < 4 by decide)
  show ((tkT t).flatMap (allT n)++ [t]).length≤_
  rw [x3,xm,ya]
  omega
theorem Gn.inj {n m:Nat} {t u:Tr} (h:Gn n t) (h':Gn m u) (e:tmC t=tmC u):t=u:=(iN h.gm.lt u h'.gm.lt [] [] En.nil En.nil (by rw [e])).1
noncomputable def isAt:Tr→Bool
 | .tup (.str k::_)=>k=="flag" ||k=="most" ||k=="like"
 |_=>false
noncomputable def toA3:Tr→Tr→Tr→List Tr
 | .str k,a,f=>if k= "most" then (match a with| .tup ps=>ps.map (fun p=>match p with| .tup (t::_)=>t|_=>p)|_=> []) else if k= "like" then [a,f] else []
 |_,_,_=> []
noncomputable def toA:Tr→List Tr
 | .tup [k,a,f]=>toA3 k a f
 |_=> []
noncomputable def tA (t:Tr):List Tr:=(toA t).flatMap (allT 3)
theorem kO (ps:List Pq) (f:Fr):toA (.tup [s_ "most", .tup (ps.map prT),frT f])=ps.map (·.1):=by
 show (if Str.ofString "most"=Str.ofString "most" then (ps.map prT).map (fun p=>match p with| .tup (t::_)=>t|_=>p) else if Str.ofString "most"=Str.ofString "like" then [.tup (ps.map prT),frT f] else [])=_
 rw [if_pos rfl,List.map_map]
 rfl
theorem kQ {t u:Tr} (ht:Gm t):toA (.tup [s_ "like",t,u])= [t,u]:=by
 show (if Str.ofString "like"=Str.ofString "most" then (match t with| .tup ps=>ps.map (fun p=>match p with| .tup (t::_)=>t|_=>p)|_=> []) else if Str.ofString "like"=Str.ofString "like" then [t,u] else [])=_
 rw [if_neg (by decide +kernel),if_pos rfl]
inductive Ak:Tr→Prop
 |fl (x:Str):Trm.Nm x→Ak (.tup [s_ "flag", .str x])
 |mo (ps:List Pq) (f:Fr):ps.length≤3→(∀p∈ps,Gn 3 p.1)→Ak (.tup [s_ "most", .tup (ps.map prT),frT f])
 |li (t u:Tr):Gn 3 t→Gn 3 u→Ak (.tup [s_ "like",t,u])
theorem Tb.gn {t:Tr} (h:Tb t):Gn 3 t:=h.gm.gn (by have:=h.dep;omega)
theorem fu {n:Nat} {t:Tr} {c:List Nat} (h:Wx n t c):(Ak t∧isAt t=true)∨(isAt t=false∧toA t= []∧∃(k:Str) (u:Tr),t= .tup [.str k,u]∧(k= "not"∨k= "both"∨k= "either")):=by
 cases h with
 |fl _ x hx=>exact .inl ⟨.fl x hx,rfl⟩
 |mo _ ps f h1 h2 h3 _ _=>exact .inl ⟨.mo ps f h1 fun p m=>(h2 p m).tb.gn,rfl⟩
 |li _ t u h1 h2=>exact .inl ⟨.li t u h1.gn h2.gn,rfl⟩
 |no m t c hx=>exact .inr ⟨rfl,rfl,_,_,rfl, .inl rfl⟩
 |bo m l h3 hl=>exact .inr ⟨rfl,rfl,_,_,rfl, .inr (.inl rfl)⟩
 |ei m l h3 hl=>exact .inr ⟨rfl,rfl,_,_,rfl, .inr (.inr rfl)⟩
theorem Ak.kids {t:Tr} (h:Ak t):aQ t= []:=by
 cases h with
 |fl x hx=>exact fJ (.at_ 0 _ _ (.inl rfl))
 |mo=>exact fJ (.at_ 0 _ _ (.inr (.inl rfl)))
 |li=>exact fJ (.at_ 0 _ _ (.inr (.inr rfl)))
theorem Ak.toA {t:Tr} (h:Ak t):(toA t).length≤3∧∀u∈toA t,Gn 3 u:=by
 cases h with
 |fl x hx=>exact ⟨xz _,fun u m=>by cases m⟩
 |mo ps f h1 h2=>
  rw [kO]
  refine ⟨by rw [wZ];exact h1,fun u m=> ?_⟩
  obtain ⟨p,mp,rfl⟩:=xy.mp m
  exact h2 p mp
 |li t u h1 h2=>
  rw [kQ h1.gm]
  refine ⟨by show 2≤3;decide,fun x m=> ?_⟩
  simp only [xi,yi,or_false] at m
  rcases m with rfl|rfl
  · exact h1
  · exact h2
theorem rC:∀ {n:Nat} {t:Tr} {c:List Nat},Wy n t c→((allN n t).filter isAt).length≤3^n:=by
 intro n
 induction n with
 |zero=>
  intro t c h
  exact xI (yc _ _) (x9 _)
 |succ n ih=>
  intro t c h
  have h3:=lj (bp h).1
  have i3:=cr (B:=3^n) (l:=aQ t) (f:=fun u=>(allN n u).filter isAt) fun u mu=>by
   obtain ⟨m,d,e,hk,_⟩:=(bp h).2 u mu
   have:m=n:=by omega
   subst this
   exact ih hk
  have i4:(aQ t).length*3^n≤3*3^n:=xJ _ h3
  have i5:=xZ (n:=n) (show 0 < 3 by decide)
  show (((aQ t).flatMap (allN n)++ [t]).filter isAt).length≤_
  rw [List.filter_append,x3,ya,List.filter_flatMap]
  rcases fu h.wx with ⟨a,e⟩|⟨e,_⟩
  · rw [a.kids]
    rw [yq,e]
    simp
    omega
  · rw [yq,e]
    simp only [xp,if_false,List.filter_nil,xP]
    omega
theorem nF {a b:List Tr} (ta:∀t∈a,Ty .ws t) (na:a.Nodup) (nb:b.Nodup) (mem:∀t,t∈a↔t∈b)
 (sa:∀(i j:Nat) (t u:Tr),i≤j→a[i]?=some t→a[j]?=some u→ltT u t=false) (sb:∀(i j:Nat) (t u:Tr),i≤j→b[i]?=some t→b[j]?=some u→ltT u t=false):a=b:=by
 have key:∀ {l:List Tr},(∀t∈l,Ty .ws t)→l.Nodup→(∀(i j:Nat) (t u:Tr),i≤j→l[i]?=some t→l[j]?=some u→ltT u t=false)→l.Pairwise fun x y=>ltT x y=true:=by
  intro l ty nd srt
  refine y9.mpr fun i j hi hj hij=> ?_
  have h1:=srt i j l[i] l[j] (by omega) (x4 hi) (x4 hj)
  refine Su.lt_of h1 ?_
  cases e:eqT l[i] l[j] with
  |false=>rfl
  |true=>exact absurd (lL (ty _ (y6 hi)) (ty _ (y6 hj)) e) ((y9.mp nd) i j hi hj hij)
 have irr:∀x:Tr,ltT x x=true→False:=fun x h=>Su.lt_ne h rfl
 have go:∀ {a b:List Tr},a.Pairwise (fun x y=>ltT x y=true)→b.Pairwise (fun x y=>ltT x y=true)→(∀t,t∈a↔t∈b)→a=b:=by
  intro a
  induction a with
  |nil=>
   intro b _ _ h
   cases b with
   |nil=>rfl
   |cons y b=>exact absurd ((h y).mpr x5) (by simp)
  |cons x a ih=>
   intro b ha hb h
   cases b with
   |nil=>exact absurd ((h x).mp x5) (by simp)
   |cons y b=>
    have a1:=List.pairwise_cons.mp ha
    have b1:=List.pairwise_cons.mp hb
    have e:x=y:=by
     rcases xi.mp ((h x).mp x5) with e|m
     · exact e
     · rcases xi.mp ((h y).mpr x5) with e|m'
       · exact e.symm
       · exact absurd (b1.1 x m) (by rw [d6 (a1.1 y m')];simp)
    subst e
    congr 1
    refine ih a1.2 b1.2 fun t=>⟨fun m=> ?_,fun m=> ?_⟩
    · rcases xi.mp ((h t).mp (x6 _ m)) with e|m'
      · exact (irr x (by have:=a1.1 t m;rw [e] at this;exact this)).elim
      · exact m'
    · rcases xi.mp ((h t).mpr (x6 _ m)) with e|m'
      · exact (irr x (by have:=b1.1 t m;rw [e] at this;exact this)).elim
      · exact m'
 exact go (key ta na sa) (key (fun t m=>ta t ((mem t).mpr m)) nb sb) mem
end Tw
namespace K09
open PySem L2 Mth Tre Wd Su Tw
def Wk (t:Tr):Prop:=∃n c,n≤3∧Wy n t c
def Rk (H:Hp) (e:Key×V) (t:Tr):Prop:=∃(z:Str) (n:Nat),e.1=Sum.inr z∧n≤3∧Wy n t (Dec.cl z)∧TrAt H e.2 t
def DictW (H:Hp) (kvs:List (Key×V)) (acc:List Tr):Prop:=Paired (Rk H) kvs acc
def But1 (d:Addr) (H H':Hp):Prop:=∀x o,x≠d→H x=some o→H' x=some o
theorem But1.trans {d:Addr} {H H1 H2:Hp} (a:But1 d H H1) (b:But1 d H1 H2):But1 d H H2:=fun x o n e=>b x o n (a x o n e)
theorem But1.of_same {d:Addr} {H H':Hp} (s:Same H H'):But1 d H H':=fun x o _ e=>s x o e
theorem But1.kd {d:Addr} {H H':Hp} {kvs:List (Key×V)} (hd:H d=some (.dK kvs)) (b:But1 d H H'):Kd H H':=by
 have ne:∀ {a:Addr} {o:HO},H a=some o→(∀z,o≠ .dK z)→a≠d:=fun e h z=>by
  rw [z,hd] at e
  exact h _ (xE e).symm
 exact ⟨fun a xs e=>b a _ (ne e fun z t=>by cases t) e,fun a xs e=>⟨xs,b a _ (ne e fun z t=>by cases t) e⟩⟩
theorem DictW.mono {H H':Hp} {kvs:List (Key×V)} {acc:List Tr} (h:DictW H kvs acc) (k:Kd H H'):DictW H' kvs acc:=Paired.imp' (fun e t ⟨z,n,a,b,c,d⟩=>⟨z,n,a,b,c,d.mono k⟩) h
theorem DictW.len {H:Hp} {kvs:List (Key×V)} {acc:List Tr} (h:DictW H kvs acc):kvs.length=acc.length:=Paired.length h
theorem DictW.vals {H:Hp} {kvs:List (Key×V)} {acc:List Tr} (h:DictW H kvs acc):TrsAt H (kvs.map (·.2)) acc:=by
 unfold DictW at h
 induction h with
 |nil=>exact .nil
 |cons h1 _ ih=>
  obtain ⟨z,n,_,_,_,d⟩:=h1
  exact .cons d ih
theorem DictW.wk {H:Hp} {kvs:List (Key×V)} {acc:List Tr} (h:DictW H kvs acc):∀t∈acc,Wk t:=by
 unfold DictW at h
 induction h with
 |nil=>intro t m;cases m
 |cons h1 _ ih=>
  intro t m
  rcases xi.mp m with rfl|m
  · obtain ⟨z,n,_,a,b,_⟩:=h1
    exact ⟨n,_,a,b⟩
  · exact ih t m
theorem DictW.none_iff {H:Hp} {kvs:List (Key×V)} {acc:List Tr} {t:Tr} {n:Nat} {z:Str} (h:DictW H kvs acc) (hw:Wy n t (Dec.cl z)):valV kvs (Sum.inr z)=none↔¬t∈acc:=by
 have e:=cR (Sum.inr z:Key) kvs
 have e2:(kvs.any fun kv=>decide (kv.1=(Sum.inr z:Key)))=true↔t∈acc:=by
  clear e
  unfold DictW at h
  induction h with
  |nil=>simp
  | @cons kv u kvs us h1 _ ih=>
   rw [yk,Bool.or_eq_true,xi,ih]
   have:decide (kv.1=(Sum.inr z:Key))=true↔t=u:=by
    obtain ⟨z',n',a,_,b,_⟩:=h1
    rw [decide_eq_true_iff,a]
    constructor
    · intro q
      have q':=Sum.inr.inj q
      subst q'
      exact hw.inj b
    · rintro rfl
      have:=ur b.wx hw.wx
      rw [Dec.cl_inj this]
   rw [this]
 rw [←e2,e]
 cases valV kvs (Sum.inr z:Key)<;>simp
section
variable {P:Program} {w:World} {K:PySem.W.Frag} {mg:Str→Option Value} {base:Heap}
def spWr:Sp:=fun vs H Q _=>∃(v:V) (t:Tr) (n:Nat) (l:List Tr),vs= [v]∧TrAt H v t∧Kn n t l∧∀L ws,H L=none→TrsAt H ws l→Q (.ref L) (upd H L (.lst ws))
theorem scWr:ay ["wish"] ["wish"] (ai sWr):=⟨rfl,rfl,rfl,by decide +kernel,rfl,by decide +kernel,by decide +kernel⟩
theorem wE {f:Addr} {fd:FuncData} (F:Fun K "wishes_right_in" "wishes_right_in" sWr f fd) (B:Blt mg):FnOk P w K mg base CX0 1 f fd ["wish"] spWr:=by
 refine F.ok scWr (fun vs H Q E h=> ?_) (fun cdv A outer s H vs Q E hr h=> ?_)
 · obtain ⟨v,t,n,l,rfl,_⟩:=h
   rfl
 obtain ⟨v,t,n,l,rfl,hv,hk,k⟩:=h
 refine ⟨_,ag (aP (au aS (aq ix_tup (pv 0) ae fun _ _=>rfl) aC (aB _)) (aj (ao (aL (a9 (aq ix_tup (pv 0) ae fun _ _=>rfl) aa)))) az)
  (ag (aP (PW.pt (ff (au aS (aq ix_tup (pv 0) ae fun _ _=>rfl) aC (aB _)) (cW (au aS (aq ix_tup (pv 0) ae fun _ _=>rfl) aC (aB _))))) (aj (ao (aU bU rfl B.li PyProof.Rows.boot_list (a9 (aq ix_tup (pv 0) ae fun _ _=>rfl) aa)))) az)
  (aj (ao (aL aa)))),?_⟩
 have step:∀ {r:Addr} {kk:Str} {vs:List V},H r=some (.tup (.str kk::vs))→atI (.str kk::vs) 0=some (.str kk):=fun _=>bf (j:=0) rfl
 cases hk with
 |at_ n kk r hk=>
  obtain ⟨r',vs,rfl,h1,h2⟩:=cj hv
  have a1:kk≠"not":=by rcases hk with rfl|rfl|rfl<;>decide +kernel
  have a2:kk≠"both":=by rcases hk with rfl|rfl|rfl<;>decide +kernel
  have a3:kk≠"either":=by rcases hk with rfl|rfl|rfl<;>decide +kernel
  refine ⟨_,rfl,r',_,0, .str kk,rfl,rfl,SqT.of h1,step h1,rfl,_,rfl,?_⟩
  rw [decide_eq_false (fun e=>a1 (V.str.inj e))]
  refine iteF ?_
  refine ⟨_,rfl,r',_,0, .str kk,rfl,rfl,SqT.of h1,step h1,rfl,_,rfl,?_⟩
  rw [decide_eq_false (fun e=>a2 (V.str.inj e))]
  refine iteF ?_
  refine ⟨_,rfl,r',_,0, .str kk,rfl,rfl,SqT.of h1,step h1,rfl,_,rfl,?_⟩
  rw [decide_eq_false (fun e=>a3 (V.str.inj e))]
  refine iteF ?_
  exact ⟨by show 0≤sizeLine;decide,fun L nL=>k L [] nL .nil⟩
 |no n t=>
  obtain ⟨r,y,rfl,h1,h2⟩:=at2 hv
  refine ⟨_,rfl,r,_,0, .str "not",rfl,rfl,SqT.of h1,rfl,rfl,_,rfl,?_⟩
  rw [decide_eq_true rfl]
  exact iteT ⟨_,rfl,r,_,1,y,rfl,rfl,SqT.of h1,rfl,by show 1≤sizeLine;decide,fun L nL=>k L [y] nL (.cons h2 .nil)⟩
 |be n kk l hk h3=>
  obtain ⟨r,y,rfl,h1,h2⟩:=at2 hv
  obtain ⟨q,vs,rfl,h4,h5⟩:=at_t h2
  have a1:kk≠"not":=by rcases hk with rfl|rfl<;>decide +kernel
  refine ⟨_,rfl,r,_,0, .str kk,rfl,rfl,SqT.of h1,rfl,rfl,_,rfl,?_⟩
  rw [decide_eq_false (fun e=>a1 (V.str.inj e))]
  refine iteF ?_
  refine ⟨_,rfl,r,_,0, .str kk,rfl,rfl,SqT.of h1,rfl,rfl,_,rfl,?_⟩
  by_cases z:kk= "both"
  · rw [decide_eq_true (congrArg V.str z)]
    refine iteT ?_
    exact iteT ⟨_,rfl,r,_,1, .ref q,rfl,rfl,SqT.of h1,rfl,q,vs,rfl, .inr (SqT.of h4),fun L nL=>k L vs nL h5⟩
  · have z2:kk= "either":=hk.resolve_left z
    rw [decide_eq_false (fun e=>z (V.str.inj e))]
    refine iteF ?_
    refine ⟨_,rfl,r,_,0, .str kk,rfl,rfl,SqT.of h1,rfl,rfl,_,rfl,?_⟩
    rw [decide_eq_true (congrArg V.str z2)]
    exact iteT ⟨_,rfl,r,_,1, .ref q,rfl,rfl,SqT.of h1,rfl,q,vs,rfl, .inr (SqT.of h4),fun L nL=>k L vs nL h5⟩
def spGp (n:Nat):Sp:=fun vs H Q _=>∃(v:V) (t:Tr) (c:List Nat) (m:Nat) (d:Addr) (kvs:List (Key×V)) (acc:List Tr),vs= [v, .ref d]∧TrAt H v t∧Wy m t c∧m < n∧n≤4∧H d=some (.dK kvs)∧DictW H kvs acc∧Clo acc∧acc.length+(allN m t).length≤10000∧
 ∀H' kvs',But1 d H H'→H' d=some (.dK kvs')→DictW H' kvs' (Fs.firsts acc (allN m t))→Q .non H'
theorem scGp:ay ["wish","found","text","inner"] ["wish","found"] (ai sGp):=⟨rfl,rfl,rfl,by decide +kernel,rfl,by decide +kernel,by decide +kernel⟩
theorem dg {l:List Tr} {i n:Nat} {t:Tr} (e:l[i]?=some t):(l.take (i+1)).flatMap (allN n)=(l.take i).flatMap (allN n)++allN n t:=by
 rw [xQ,e,xW]
 simp
theorem eA (l:List Tr) (i n:Nat):((l.take i).flatMap (allN n)).length≤(l.flatMap (allN n)).length:=by
 have:l.flatMap (allN n)=(l.take i).flatMap (allN n)++(l.drop i).flatMap (allN n):=by rw [←xW,yj]
 rw [this,x3]
 omega
theorem wK {f fT fS:Addr} {fd fdT fdS:FuncData} (F:Fun K "gather_parts" "gather_parts" sGp f fd) (bF:Binds K fd ["wish","found"] []) (mF:mg "gather_parts"=some (.ref f))
 (GT:FnOk P w K mg base CX0 1 fT fdT ["wish"] spWr) (kT:PySem.W.keepIn K (.ref fT)=true) (bT:Binds K fdT ["wish"] []) (mT:mg "wishes_right_in"=some (.ref fT))
 (GS:FnOk P w K mg base CX0 20 fS fdS ["wish"] (spSw 4)) (kS:PySem.W.keepIn K (.ref fS)=true) (bS:Binds K fdS ["wish"] []) (mS:mg "shown_wish"=some (.ref fS)):
 ∀n,FnOk P w K mg base CX0 (n+20) f fd ["wish","found"] (spGp n):=by
 intro n
 induction n with
 |zero=>exact ⟨fun vs H Q E ⟨_,_,_,_,_,_,_,_,_,_,h,_⟩=>absurd h (by omega),fun A outer s H args us vs Q E _ _ _ _ ⟨_,_,_,_,_,_,_,_,_,_,h,_⟩=>absurd h (by omega)⟩
 |succ n ih=>
  refine F.ok scGp (fun vs H Q E h=> ?_) (fun cdv A outer s H vs Q E hr h=> ?_)
  · obtain ⟨v,t,c,m,d,kvs,acc,rfl,_⟩:=h
    rfl
  obtain ⟨v,t,c,m,d,kvs,acc,rfl,hv,hw,hm,hn,hd,hD,hcl,hsz,k⟩:=h
  have hr1:Room 1 _:=hr.mono (by omega)
  have hrS:Room 20 _:=hr.mono (by omega)
  have hu1:=mZ hr
  refine ⟨_,ag (ar (i:=2) scGp.nd rfl (Or.inl rfl) (ah GS hrS rfl mS kS bS .nil am (a9 (pv 0) aa)))
   (aj (aP (pJ (iq hu1 (pv 2) (pv 1)))
    (ag (b9 PassesOwn.never rfl (b8 (ah GT hr1 rfl mT kT bT .nil am (a9 (pv 0) aa))) (aA (i:=3) scGp.nd rfl (Or.inl rfl)) (aj (aZ (ah ih hr rfl mF F.kp bF .nil am (a9 (pv 3) (a9 (pv 1) aa))))))
    (aj (lZ hu1 (pv 1) (pv 2) (pv 0) rfl))) az)),?_⟩
  have hL:(20000:Nat)≤sizeLine:=by decide +kernel
  obtain ⟨hkn,hkids⟩:=bp hw
  have eall:=lH hw
  refine ⟨_,rfl,v,t,c,m,rfl,hv,hw.wx,by omega,by omega,fun z H0 s0 ez=> ?_⟩
  subst ez
  have hd0:=s0 _ _ hd
  have hD0:=hD.mono (Kd.of_same s0)
  refine ⟨_,rfl,_,rfl,d,_,rfl,DGet.k (k:=Sum.inr z) hd0,_,rfl,?_⟩
  by_cases mt:t∈acc
  · have nz:valV kvs (Sum.inr z:Key)≠none:=fun q=>(hD0.none_iff hw).mp q mt
    have e:(!(valV kvs (Sum.inr z:Key)).isSome)=false:=by
     cases q:valV kvs (Sum.inr z:Key) with
     |none=>exact absurd q nz
     |some y=>rfl
    rw [e]
    refine iteF ?_
    refine k H0 kvs (But1.of_same s0) hd0 ?_
    rw [Fs.firsts_sub (hcl.all mt)]
    exact hD0
  · have e:(!(valV kvs (Sum.inr z:Key)).isSome)=true:=by rw [(hD0.none_iff hw).mpr mt];rfl
    rw [e]
    refine iteT ?_
    refine ⟨_,rfl,v,t,m,_,rfl,hv.mono (Kd.of_same s0),hkn,fun l ws nl hws=>⟨l,rfl,⟨ws,SqL.of ac⟩,?_⟩⟩
    have ldn:l≠d:=fun q=>by rw [q,hd0] at nl;cases nl
    have s1:Same H (upd H0 l (.lst ws)):=s0.trans (af nl)
    have hd1:(upd H0 l (.lst ws)) d=some (.dK kvs):=s1 _ _ hd
    have hlen:=hws.len
    have hlenA:(allN m t).length=((aQ t).flatMap (allN (m - 1))).length+1:=by rw [eall,x3,xm]
    have hkw:∀u∈aQ t,∃c,Wy (m - 1) u c:=fun u mu=>by
     obtain ⟨m',d',e',h',_⟩:=hkids u mu
     subst e'
     exact ⟨d',h'⟩
    refine bh (xs:=ws) (fun i σ H'=>(∃vi,σ= [some v,some (.ref d),some (.str z),vi])∧But1 d (upd H0 l (.lst ws)) H'∧∃kvs',H' d=some (.dK kvs')∧DictW H' kvs' (Fs.firsts acc (((aQ t).take i).flatMap (allN (m - 1)))))
     ⟨⟨none,rfl⟩,fun x o _ e=>e,kvs,hd1,hD.mono (Kd.of_same s1)⟩ (fun i σ H' _ p=>SqL.of (p.2.1 _ _ ldn ac)) ?_ ?_
    · rintro i x σ H' ex ⟨⟨vi,rfl⟩,b1,kvs',hd',hD'⟩
      obtain ⟨u,eu,hu⟩:=hws.get' ex
      have mu:=xa eu
      obtain ⟨m',d',e',h',_⟩:=hkids u mu
      subst e'
      have tp0:Kd H0 H':=(Kd.of_same (af nl)).trans (b1.kd hd1)
      have hle:=eA (aQ t) (i+1) (m'+1 - 1)
      rw [dg eu,x3] at hle
      have hfl:=Fs.firsts_len (((aQ t).take i).flatMap (allN (m'+1 - 1))) acc
      refine ⟨_,rfl,_,rfl,x,u,d',m',d,kvs',_,rfl,hu.mono tp0,h',by omega,by omega,hd',hD',hcl.kids fun y my=>hkw y (List.mem_of_mem_take my),?_,fun H2 kvs2 b2 hd2 hD2=> ?_⟩
      · have e3:m'+1 - 1=m':=by omega
        rw [e3] at hle hfl hlenA ⊢
        omega
      · refine ⟨⟨_,rfl⟩,b1.trans b2,kvs2,hd2,?_⟩
        rw [dg eu,Fs.firsts_app]
        exact hD2
    · rintro σ H' ⟨⟨vi,rfl⟩,b1,kvs',hd',hD'⟩
      rw [hlen,xH] at hD'
      have tp:Kd H H':=(Kd.of_same s1).trans (b1.kd hd1)
      have hfl:=Fs.firsts_len ((aQ t).flatMap (allN (m - 1))) acc
      have e0:Fs.firsts acc (allN m t)=Fs.add (Fs.firsts acc ((aQ t).flatMap (allN (m - 1)))) t:=by rw [eall,Fs.firsts_app,Fs.firsts_one]
      have bb:But1 d H H':=(But1.of_same s1).trans b1
      have mo:¬t∈Fs.firsts acc ((aQ t).flatMap (allN (m - 1))):=fun q=>(Fs.mem_fst.mp q).elim mt (pk hw)
      have ez:=(hD'.none_iff hw).mpr mo
      refine ⟨_,rfl,_,rfl,_,rfl,d,_,rfl,DPut.k (k:=Sum.inr z) hd' (by rw [hD'.len];omega),?_⟩
      rw [gp _ ez]
      refine k _ _ (bb.trans fun x o nx e=>by rw [aG nx];exact e) ac ?_
      rw [e0,Fs.add_out mo]
      have tp2:Kd H' (upd H' d (.dK (kvs'++ [(Sum.inr z,v)]))):=Dj.Kd.updK hd'
      exact Paired.snoc (hD'.mono tp2) ⟨z,m,rfl,by omega,hw,hv.mono (tp.trans tp2)⟩
def spPo:Sp:=fun vs H Q _=>∃(v:V) (t:Tr) (c:List Nat),vs= [v]∧TrAt H v t∧Wy 3 t c∧∀r H' ws,H r=none→Same H H'→H' r=some (.lst ws)→TrsAt H' ws (Fs.firsts [] (allN 3 t))→Q (.ref r) H'
theorem scPo:ay ["wish","found"] ["wish"] (ai sPo):=⟨rfl,rfl,rfl,by decide +kernel,rfl,by decide +kernel,by decide +kernel⟩
theorem wI {f fG:Addr} {fd fdG:FuncData} (F:Fun K "parts_of" "parts_of" sPo f fd) (GG:FnOk P w K mg base CX0 24 fG fdG ["wish","found"] (spGp 4)) (kG:PySem.W.keepIn K (.ref fG)=true) (bG:Binds K fdG ["wish","found"] []) (mG:mg "gather_parts"=some (.ref fG)) (B:Blt mg):
 FnOk P w K mg base CX0 25 f fd ["wish"] spPo:=by
 refine F.ok scPo (fun vs H Q E h=> ?_) (fun cdv A outer s H vs Q E hr h=> ?_)
 · obtain ⟨v,t,c,rfl,_⟩:=h
   rfl
 obtain ⟨v,t,c,rfl,hv,hw,k⟩:=h
 refine ⟨_,ag (ar (i:=1) scPo.nd rfl (Or.inl rfl) dR)
  (ag (aZ (ah GG hr rfl mG kG bG .nil am (a9 (pv 0) (a9 (pv 1) aa))))
  (aj (ao (aU (dG rfl) rfl B.li PyProof.Rows.boot_list (a9 (eV PySem.F.plainAttrs_dict PySem.F.slot_dict_values PySem.F.type_dict_values df (pv 1)) aa))))),?_⟩
 intro d nd
 have s1:Same H (upd H d (.dK [])):=af nd
 have hal:=cu hw
 have e16:4^3=64:=by decide
 refine ⟨_,rfl,_,rfl,v,t,c,3,d,[],[],rfl,hv.mono (Kd.of_same s1),hw,by decide,by decide,ac,Paired.nil,(fun u m=>by cases m),by simp only [xP];omega,fun H2 kvs2 b2 hd2 hD2=> ?_⟩
 refine ⟨_,rfl, .inr (.inr (.inl ⟨rfl, .inl ⟨kvs2,hd2⟩⟩)),d,kvs2,rfl,rfl,hd2,fun x nx=> ?_⟩
 have s3:Same H2 (upd H2 x (cv x d)):=af nx
 refine ⟨x,d,kvs2,rfl,ac,s3 _ _ hd2,fun l nl=> ?_⟩
 have sH:Same H (upd (upd H2 x (cv x d)) l (.lst (kvs2.map (·.2)))):=fun y o e=>af nl _ _ (s3 _ _ (b2 y o (aJ e nd) (s1 _ _ e)))
 refine k l _ _ ?_ sH ac (hD2.vals.mono (Kd.of_same (s3.trans (af nl))))
 have n2:=s3.free nl
 cases e:H l with
 |none=>rfl
 |some o=>rw [b2 l o (aJ e nd) (s1 _ _ e)] at n2;cases n2
end
open PySem L2 Mth Tre Wd Su Tw
def Rt (H:Hp) (e:Key×V) (t:Tr):Prop:=∃z:Str,e.1=Sum.inr z∧Gn 3 t∧Dec.cl z=tmC t∧TrAt H e.2 t
def DictT (H:Hp) (kvs:List (Key×V)) (acc:List Tr):Prop:=Paired (Rt H) kvs acc
theorem DictT.mono {H H':Hp} {kvs:List (Key×V)} {acc:List Tr} (h:DictT H kvs acc) (k:Kd H H'):DictT H' kvs acc:=Paired.imp' (fun e t ⟨z,a,b,c,d⟩=>⟨z,a,b,c,d.mono k⟩) h
theorem DictT.len {H:Hp} {kvs:List (Key×V)} {acc:List Tr} (h:DictT H kvs acc):kvs.length=acc.length:=Paired.length h
theorem DictT.vals {H:Hp} {kvs:List (Key×V)} {acc:List Tr} (h:DictT H kvs acc):TrsAt H (kvs.map (·.2)) acc:=by
 unfold DictT at h
 induction h with
 |nil=>exact .nil
 |cons h1 _ ih=>
  obtain ⟨z,_,_,_,d⟩:=h1
  exact .cons d ih
theorem DictT.none_iff {H:Hp} {kvs:List (Key×V)} {acc:List Tr} {t:Tr} {z:Str} (h:DictT H kvs acc) (hg:Gn 3 t) (hz:Dec.cl z=tmC t):valV kvs (Sum.inr z)=none↔¬t∈acc:=by
 have e:=cR (Sum.inr z:Key) kvs
 have e2:(kvs.any fun kv=>decide (kv.1=(Sum.inr z:Key)))=true↔t∈acc:=by
  clear e
  unfold DictT at h
  induction h with
  |nil=>simp
  | @cons kv u kvs us h1 _ ih=>
   rw [yk,Bool.or_eq_true,xi,ih]
   have:decide (kv.1=(Sum.inr z:Key))=true↔t=u:=by
    obtain ⟨z',a,g,b,_⟩:=h1
    rw [decide_eq_true_iff,a]
    constructor
    · intro q
      have q':=Sum.inr.inj q
      subst q'
      exact hg.inj g (hz.symm.trans b)
    · rintro rfl
      rw [Dec.cl_inj (b.trans hz.symm)]
   rw [this]
 rw [←e2,e]
 cases valV kvs (Sum.inr z:Key)<;>simp
section
variable {P:Program} {w:World} {K:PySem.W.Frag} {mg:Str→Option Value} {base:Heap}
def oX:Sp:=fun vs H Q _=>∃(v:V) (t:Tr) (n:Nat),vs= [v]∧TrAt H v t∧Gn n t∧∀L ws,H L=none→TrsAt H ws (tkT t)→Q (.ref L) (upd H L (.lst ws))
theorem wf:ay ["term"] ["term"] (ai sTri):=⟨rfl,rfl,rfl,by decide +kernel,rfl,by decide +kernel,by decide +kernel⟩
theorem uR {f:Addr} {fd:FuncData} (F:Fun K "terms_right_in" "terms_right_in" sTri f fd) (B:Blt mg):FnOk P w K mg base CX0 1 f fd ["term"] oX:=by
 refine F.ok wf (fun vs H Q E h=> ?_) (fun cdv A outer s H vs Q E hr h=> ?_)
 · obtain ⟨v,t,n,rfl,_⟩:=h
   rfl
 obtain ⟨v,t,n,rfl,hv,hg,k⟩:=h
 refine ⟨_,aj (ao (gG (au aS (aq ix_tup (pv 0) ae fun _ _=>rfl) aC (aB _)) (aU bU rfl B.li PyProof.Rows.boot_list (a9 (aq ix_tup (pv 0) ae fun _ _=>rfl) aa)) (aL aa))),?_⟩
 cases hg with
 |nm _ x hx=>
  obtain ⟨r,y,rfl,h1,h2⟩:=at2 hv
  refine ⟨_,rfl,r,_,0, .str "name",rfl,rfl,SqT.of h1,rfl,rfl,_,rfl,?_⟩
  rw [decide_eq_false (show¬V.str "name"=V.str "call" by decide +kernel)]
  exact iteF ⟨by show 0≤sizeLine;decide,fun L nL=>k L [] nL .nil⟩
 |ap _ f ts hf h0 h3 hh=>
  obtain ⟨r,y,z,rfl,h1,h2,h4⟩:=at3 hv
  obtain ⟨q,vs,rfl,h5,h6⟩:=at_t h4
  refine ⟨_,rfl,r,_,0, .str "call",rfl,rfl,SqT.of h1,rfl,rfl,_,rfl,?_⟩
  rw [decide_eq_true rfl]
  exact iteT ⟨_,rfl,r,_,2, .ref q,rfl,rfl,SqT.of h1,rfl,q,vs,rfl, .inr (SqT.of h5),fun L nL=>k L vs nL h6⟩
def p9 (n:Nat):Sp:=fun vs H Q _=>∃(v:V) (t:Tr) (m:Nat) (d:Addr) (kvs:List (Key×V)) (acc:List Tr),vs= [v, .ref d]∧TrAt H v t∧Gn m t∧m < n∧n≤4∧H d=some (.dK kvs)∧DictT H kvs acc∧CloT acc∧acc.length+(allT m t).length≤10000∧
 ∀H' kvs',But1 d H H'→H' d=some (.dK kvs')→DictT H' kvs' (Fs.firsts acc (allT m t))→Q .non H'
theorem scGat:ay ["term","found","text","inner"] ["term","found"] (ai sGat):=⟨rfl,rfl,rfl,by decide +kernel,rfl,by decide +kernel,by decide +kernel⟩
theorem cO {l:List Tr} {i n:Nat} {t:Tr} (e:l[i]?=some t):(l.take (i+1)).flatMap (allT n)=(l.take i).flatMap (allT n)++allT n t:=by
 rw [xQ,e,xW]
 simp
theorem dn (l:List Tr) (i n:Nat):((l.take i).flatMap (allT n)).length≤(l.flatMap (allT n)).length:=by
 have:l.flatMap (allT n)=(l.take i).flatMap (allT n)++(l.drop i).flatMap (allT n):=by rw [←xW,yj]
 rw [this,x3]
 omega
theorem uY {f fT fS:Addr} {fd fdT fdS:FuncData} (F:Fun K "gather_terms" "gather_terms" sGat f fd) (bF:Binds K fd ["term","found"] []) (mF:mg "gather_terms"=some (.ref f))
 (GT:FnOk P w K mg base CX0 1 fT fdT ["term"] oX) (kT:PySem.W.keepIn K (.ref fT)=true) (bT:Binds K fdT ["term"] []) (mT:mg "terms_right_in"=some (.ref fT))
 (GS:FnOk P w K mg base CX0 9 fS fdS ["term"] (spSt 8)) (kS:PySem.W.keepIn K (.ref fS)=true) (bS:Binds K fdS ["term"] []) (mS:mg "shown_term"=some (.ref fS)):
 ∀n,FnOk P w K mg base CX0 (n+9) f fd ["term","found"] (p9 n):=by
 intro n
 induction n with
 |zero=>exact ⟨fun vs H Q E ⟨_,_,_,_,_,_,_,_,_,h,_⟩=>absurd h (by omega),fun A outer s H args us vs Q E _ _ _ _ ⟨_,_,_,_,_,_,_,_,_,h,_⟩=>absurd h (by omega)⟩
 |succ n ih=>
  refine F.ok scGat (fun vs H Q E h=> ?_) (fun cdv A outer s H vs Q E hr h=> ?_)
  · obtain ⟨v,t,m,d,kvs,acc,rfl,_⟩:=h
    rfl
  obtain ⟨v,t,m,d,kvs,acc,rfl,hv,hw,hm,hn,hd,hD,hcl,hsz,k⟩:=h
  have hr1:Room 1 _:=hr.mono (by omega)
  have hrS:Room 9 _:=hr.mono (by omega)
  have hu1:=mZ hr
  refine ⟨_,ag (ar (i:=2) scGat.nd rfl (Or.inl rfl) (ah GS hrS rfl mS kS bS .nil am (a9 (pv 0) aa)))
   (aj (aP (pJ (iq hu1 (pv 2) (pv 1)))
    (ag (b9 PassesOwn.never rfl (b8 (ah GT hr1 rfl mT kT bT .nil am (a9 (pv 0) aa))) (aA (i:=3) scGat.nd rfl (Or.inl rfl)) (aj (aZ (ah ih hr rfl mF F.kp bF .nil am (a9 (pv 3) (a9 (pv 1) aa))))))
    (aj (lZ hu1 (pv 1) (pv 2) (pv 0) rfl))) az)),?_⟩
  have hL:(20000:Nat)≤sizeLine:=by decide +kernel
  have hkids:=hw.kids
  have eall:=nB hw
  have hw3:Gn 3 t:=hw.mono (by omega)
  have hde:=hw3.dep
  have hle0:=hw3.len
  have h64:13*4^3=832:=by decide
  refine ⟨_,rfl,v,t,rfl,hv,hw.gm.ty,by omega,by omega,fun z H0 s0 ez=> ?_⟩
  have hd0:=s0 _ _ hd
  have hD0:=hD.mono (Kd.of_same s0)
  refine ⟨_,rfl,_,rfl,d,_,rfl,DGet.k (k:=Sum.inr z) hd0,_,rfl,?_⟩
  by_cases mt:t∈acc
  · have nz:valV kvs (Sum.inr z:Key)≠none:=fun q=>(hD0.none_iff hw3 ez).mp q mt
    have e:(!(valV kvs (Sum.inr z:Key)).isSome)=false:=by
     cases q:valV kvs (Sum.inr z:Key) with
     |none=>exact absurd q nz
     |some y=>rfl
    rw [e]
    refine iteF ?_
    refine k H0 kvs (But1.of_same s0) hd0 ?_
    rw [Fs.firsts_sub (hcl.all mt)]
    exact hD0
  · have e:(!(valV kvs (Sum.inr z:Key)).isSome)=true:=by rw [(hD0.none_iff hw3 ez).mpr mt];rfl
    rw [e]
    refine iteT ?_
    refine ⟨_,rfl,v,t,m,rfl,hv.mono (Kd.of_same s0),hw,fun l ws nl hws=>⟨l,rfl,⟨ws,SqL.of ac⟩,?_⟩⟩
    have ldn:l≠d:=fun q=>by rw [q,hd0] at nl;cases nl
    have s1:Same H (upd H0 l (.lst ws)):=s0.trans (af nl)
    have hd1:(upd H0 l (.lst ws)) d=some (.dK kvs):=s1 _ _ hd
    have hlen:=hws.len
    have hlenA:(allT m t).length=((tkT t).flatMap (allT (m - 1))).length+1:=by rw [eall,x3,xm]
    have hkw:∀u∈tkT t,Gn (m - 1) u:=fun u mu=>by
     obtain ⟨m',e',h',_⟩:=hkids u mu
     subst e'
     exact h'
    refine bh (xs:=ws) (fun i σ H'=>(∃vi,σ= [some v,some (.ref d),some (.str z),vi])∧But1 d (upd H0 l (.lst ws)) H'∧∃kvs',H' d=some (.dK kvs')∧DictT H' kvs' (Fs.firsts acc (((tkT t).take i).flatMap (allT (m - 1)))))
     ⟨⟨none,rfl⟩,fun x o _ e=>e,kvs,hd1,hD.mono (Kd.of_same s1)⟩ (fun i σ H' _ p=>SqL.of (p.2.1 _ _ ldn ac)) ?_ ?_
    · rintro i x σ H' ex ⟨⟨vi,rfl⟩,b1,kvs',hd',hD'⟩
      obtain ⟨u,eu,hu⟩:=hws.get' ex
      have mu:=xa eu
      obtain ⟨m',e',h',_⟩:=hkids u mu
      subst e'
      have tp0:Kd H0 H':=(Kd.of_same (af nl)).trans (b1.kd hd1)
      have hle:=dn (tkT t) (i+1) (m'+1 - 1)
      rw [cO eu,x3] at hle
      have hfl:=Fs.firsts_len (((tkT t).take i).flatMap (allT (m'+1 - 1))) acc
      refine ⟨_,rfl,_,rfl,x,u,m',d,kvs',_,rfl,hu.mono tp0,h',by omega,by omega,hd',hD',hcl.kids fun y my=>hkw y (List.mem_of_mem_take my),?_,fun H2 kvs2 b2 hd2 hD2=> ?_⟩
      · have e3:m'+1 - 1=m':=by omega
        rw [e3] at hle hfl hlenA ⊢
        omega
      · refine ⟨⟨_,rfl⟩,b1.trans b2,kvs2,hd2,?_⟩
        rw [cO eu,Fs.firsts_app]
        exact hD2
    · rintro σ H' ⟨⟨vi,rfl⟩,b1,kvs',hd',hD'⟩
      rw [hlen,xH] at hD'
      have tp:Kd H H':=(Kd.of_same s1).trans (b1.kd hd1)
      have hfl:=Fs.firsts_len ((tkT t).flatMap (allT (m - 1))) acc
      have e0:Fs.firsts acc (allT m t)=Fs.add (Fs.firsts acc ((tkT t).flatMap (allT (m - 1)))) t:=by rw [eall,Fs.firsts_app,Fs.firsts_one]
      have bb:But1 d H H':=(But1.of_same s1).trans b1
      have mo:¬t∈Fs.firsts acc ((tkT t).flatMap (allT (m - 1))):=fun q=>(Fs.mem_fst.mp q).elim mt (nK hw)
      have ez2:=(hD'.none_iff hw3 ez).mpr mo
      refine ⟨_,rfl,_,rfl,_,rfl,d,_,rfl,DPut.k (k:=Sum.inr z) hd' (by rw [hD'.len];omega),?_⟩
      rw [gp _ ez2]
      refine k _ _ (bb.trans fun x o nx e=>by rw [aG nx];exact e) ac ?_
      rw [e0,Fs.add_out mo]
      have tp2:Kd H' (upd H' d (.dK (kvs'++ [(Sum.inr z,v)]))):=Dj.Kd.updK hd'
      exact Paired.snoc (hD'.mono tp2) ⟨z,rfl,hw3,ez,hv.mono (tp.trans tp2)⟩
def oV:Sp:=fun vs H Q _=>∃(v:V) (t:Tr),vs= [v]∧TrAt H v t∧Gn 3 t∧∀r H' ws,H r=none→Same H H'→H' r=some (.lst ws)→TrsAt H' ws (Fs.firsts [] (allT 3 t))→Q (.ref r) H'
theorem scWin:ay ["term","found"] ["term"] (ai sWin):=⟨rfl,rfl,rfl,by decide +kernel,rfl,by decide +kernel,by decide +kernel⟩
theorem uP {f fG:Addr} {fd fdG:FuncData} (F:Fun K "within" "within" sWin f fd) (GG:FnOk P w K mg base CX0 13 fG fdG ["term","found"] (p9 4)) (kG:PySem.W.keepIn K (.ref fG)=true) (bG:Binds K fdG ["term","found"] []) (mG:mg "gather_terms"=some (.ref fG)) (B:Blt mg):
 FnOk P w K mg base CX0 14 f fd ["term"] oV:=by
 refine F.ok scWin (fun vs H Q E h=> ?_) (fun cdv A outer s H vs Q E hr h=> ?_)
 · obtain ⟨v,t,rfl,_⟩:=h
   rfl
 obtain ⟨v,t,rfl,hv,hw,k⟩:=h
 refine ⟨_,ag (ar (i:=1) scWin.nd rfl (Or.inl rfl) dR)
  (ag (aZ (ah GG hr rfl mG kG bG .nil am (a9 (pv 0) (a9 (pv 1) aa))))
  (aj (ao (aU (dG rfl) rfl B.li PyProof.Rows.boot_list (a9 (eV PySem.F.plainAttrs_dict PySem.F.slot_dict_values PySem.F.type_dict_values df (pv 1)) aa))))),?_⟩
 intro d nd
 have s1:Same H (upd H d (.dK [])):=af nd
 have hal:=hG hw
 have e16:4^3=64:=by decide
 refine ⟨_,rfl,_,rfl,v,t,3,d,[],[],rfl,hv.mono (Kd.of_same s1),hw,by decide,by decide,ac,Paired.nil,(fun u m=>by cases m),by simp only [xP];omega,fun H2 kvs2 b2 hd2 hD2=> ?_⟩
 refine ⟨_,rfl, .inr (.inr (.inl ⟨rfl, .inl ⟨kvs2,hd2⟩⟩)),d,kvs2,rfl,rfl,hd2,fun x nx=> ?_⟩
 have s3:Same H2 (upd H2 x (cv x d)):=af nx
 refine ⟨x,d,kvs2,rfl,ac,s3 _ _ hd2,fun l nl=> ?_⟩
 have sH:Same H (upd (upd H2 x (cv x d)) l (.lst (kvs2.map (·.2)))):=fun y o e=>af nl _ _ (s3 _ _ (b2 y o (aJ e nd) (s1 _ _ e)))
 refine k l _ _ ?_ sH ac (hD2.vals.mono (Kd.of_same (s3.trans (af nl))))
 have n2:=s3.free nl
 cases e:H l with
 |none=>rfl
 |some o=>rw [b2 l o (aJ e nd) (s1 _ _ e)] at n2;cases n2
end
end K09
namespace L2
open PySem PySem.Spec PyProof.Rows Zp
section
variable {X:Cx}
end
end L2
namespace L2
section
open PySem
variable {prog:Program} {w:World} {A:Around} {R:Result→Shared→Prop} {s:Shared}
end
open PySem PySem.Spec PyProof.Rows
section
variable {X:Cx} {pins:List (Addr×Obj)} {σ:St} {H:Hp} {s:Shared}
variable {kx vx target iter:Expr} {ifs:List Expr} {scope:Scope} {NC:List Str} {mp:List (Option Nat)} {pos:Pos} {wi:TI} {g:TG} {tc:TT} {tk te:TE}
end
end L2
namespace L2
section
open PySem
variable {prog:Program} {w:World} {A:Around} {R:Result→Shared→Prop} {s:Shared}
end
open PySem PySem.Spec PyProof.Rows
section
variable {X:Cx} {pins:List (Addr×Obj)} {σ:St} {H:Hp} {s:Shared}
variable {elt target iter t2 i2:Expr} {scope:Scope} {NC:List Str} {mp:List (Option Nat)} {pos:Pos} {wi:TI} {g:TG} {wi2:TI} {g2:TG} {te:TE}
end
end L2
namespace Dj
open PySem PySem.Spec PySem.W PyProof.Rows L2 Tre
def RawD (h:Heap) (d:Addr) (es:Array DictEntry) (ep:Nat):Prop:=∃o,h.get? d=some o∧o.ExactDict∧o.data= .dict es ep
theorem RawD.kp {h h':Heap} {d:Addr} {es:Array DictEntry} {ep:Nat} (x:RawD h d es ep) (e:∀o,h.get? d=some o→h'.get? d=some o):RawD h' d es ep:=by
 obtain ⟨o,h1,h2⟩:=x
 exact ⟨o,e o h1,h2⟩
theorem RawD.lt {h:Heap} {d:Addr} {es:Array DictEntry} {ep:Nat} (x:RawD h d es ep):d < h.objs.size:=by
 obtain ⟨o,h1,_⟩:=x
 exact Heap.lt_size h1
section
variable {prog:Program} {w:World} {A:Around} {E:Value→Shared→Prop} {s:Shared} {d it:Addr} {es:Array DictEntry} {ep:Nat}
theorem RawD.ty (x:RawD s.heap d es ep):s.TypeIs (.ref d) "dict":=by
 obtain ⟨o,h1,h2,_⟩:=x
 exact ⟨o,h1,h2.1⟩
theorem pC {Q:Value→Shared→Prop} (hd:(d==sysModules)=false) (hm:RawD s.heap d es ep)
 (hQ:Q (.ref s.heap.objs.size) {s with heap:=s.heap.push {cls:= .type "dict_keyiterator",data:= .fields #[.ref d, .int 0 0, .int es.size 0, .int ep 0]}}):wpAny (model prog w) A (pyIter (.ref d)) Q E s:=by
 have hT:=hm.ty
 obtain ⟨o,ho,hc,hdat⟩:=hm
 refine wpAny_pyIter_slot hT F.slot_dict_iter (wpAny_call_entry F.slot_dict_iter hT F.entry_dict_iter (A:=A) ?_ (F.args_dict_iter_1 _))
 unfold Builtin.«dict.__iter__»;refine wpAny_bind ?_;unfold Builtin.Dict.dictSlotNone;refine wpAny_bind (wpAny_notOrdered_dict hT ?_)
 show wpAny _ _ (pure (Value.ref d)) _ _ s;refine wpAny_pure ?_;show wpAny _ _ (Builtin.Dict.showsAll d >>=_) _ _ s
 unfold Builtin.Dict.showsAll;rw [if_neg (by rw [hd];exact xv)];refine wpAny_bind (wpAny_pure ?_)
 refine wpAny_bind (wpAny_dictEntries ho hdat (wpAny_bind (wpAny_dictEpoch ho hdat ?_)))
 refine wpAny_bind (wpAny_newObj_type (wpAny_pure ⟨_,rfl,"dict_keyiterator",_,⟨_,Heap.get?_push_size _ rfl,rfl⟩,F.slot_dict_keyiterator_next.lookup,by simpa [rawInt] using hQ⟩))
theorem pB {i:Nat} {Q:Option Value→Shared→Prop} (hit:s.heap.IsKeyIter it d i es.size ep) (hm:RawD s.heap d es ep) (hi:i < es.size)
 (hQ:∀h',h'.IsKeyIter it d (i+1) es.size ep→Heap.SameBut it s.heap h'→Q (some es[i].key) {s with heap:=h'}):wpAny (model prog w) A (pyNext (.ref it)) Q E s:=by
 obtain ⟨o,ho,hc,hd⟩:=id hit;obtain ⟨od,hod,hcd,hdd⟩:=id hm;have hown:Builtin.Dict_items.ownsTuple "dict_keyiterator"=false:=by decide
 unfold pyNext;refine wpAny_bind (wpAny_attempt (wpAny_callSpecial?_slot (name:=Str.ofString "__next__") hit.typeIs F.slot_dict_keyiterator_next (wpAny_call_entry F.slot_dict_keyiterator_next hit.typeIs F.entry_dict_keyiterator_next ?_ (F.args_dict_keyiterator_next_1 _))))
 refine wpAny_bind (wpAny_pure (wpAny_bind (wpAny_bind ?_)))
 first|refine wpAny_bind (wpAny_typeNameOfWhole_keyiter hit.typeIs (wpAny_pure (wpAny_bind (wpAny_fieldsOf ho hd ?_))))|refine wpAny_bind (wpAny_typeNameOf_keyiter hit.typeIs (wpAny_pure (wpAny_bind (wpAny_fieldsOf ho hd ?_))))
 simp only [hown,xp,if_false];show wpAny _ _ (if (Value.ref d==Value.none)=true then _ else _) _ _ s
 rw [if_neg (show¬((Value.ref d==Value.none)=true) from xv)];refine wpAny_bind (wpAny_pure (wpAny_bind (wpAny_dictEntries hod hdd ?_)))
 rw [if_neg (by simp)];refine wpAny_bind (wpAny_pure (wpAny_bind (wpAny_dictEpoch hod hdd ?_)));rw [if_neg (by simp)];refine wpAny_pure ?_
 simp only [show¬((i:Int) < 0) from by omega,if_false,xT,xq hi];refine wpAny_bind ?_
 first|refine wpAny_bind (wpAny_typeNameOfWhole_keyiter hit.typeIs (wpAny_pure (wpAny_bind (wpAny_isOneOf_keyiter hit.typeIs ?_))))|refine wpAny_bind (wpAny_typeNameOf_keyiter hit.typeIs (wpAny_pure (wpAny_bind (wpAny_isOneOf_keyiter hit.typeIs ?_))))
 show wpAny _ _ (setField (.ref it) 1 (rawInt ((i:Int)+1)) >>=_) _ _ s;refine wpAny_bind (wpAny_setField ho hd (by simp) ?_)
 have hit':(s.heap.update it (Obj.mapFields (·.setIfInBounds 1 (rawInt ((i:Int)+1))))).IsKeyIter it d (i+1) es.size ep:=⟨_,Heap.get?_update_self _ ho (Obj.isFreed_of_fields (Obj.data_mapFields hd _)),(Obj.cls_mapFields ..).trans hc,by rw [Obj.data_mapFields hd];simp [rawInt]⟩
 refine wpAny_bind (wpAny_holding (wpAny_bind (wpAny_isOneOf_keyiter (s:= {s with heap:=s.heap.update it (Obj.mapFields (·.setIfInBounds 1 (rawInt ((i:Int)+1))))}) hit'.typeIs ?_)))
 show wpAny _ _ (pure es[i].key) _ _ _;exact wpAny_pure (wpAny_pure ⟨_,rfl,wpAny_pure (hQ _ hit' (Heap.SameBut.update ..))⟩)
theorem sj {i:Nat} {Q:Option Value→Shared→Prop} (hh:A.handled=none) (hit:s.heap.IsKeyIter it d i es.size ep) (hm:RawD s.heap d es ep) (hi:es.size≤i)
 (hQ:∀h',Heap.ExtBut it s.heap h'→Q none {s with heap:=h'}):wpAny (model prog w) A (pyNext (.ref it)) Q E s:=by
 obtain ⟨o,ho,hc,hd⟩:=id hit;obtain ⟨od,hod,hcd,hdd⟩:=id hm;have hown:Builtin.Dict_items.ownsTuple "dict_keyiterator"=false:=by decide
 unfold pyNext;refine wpAny_bind (wpAny_attempt (wpAny_callSpecial?_slot (name:=Str.ofString "__next__") hit.typeIs F.slot_dict_keyiterator_next (wpAny_call_entry F.slot_dict_keyiterator_next hit.typeIs F.entry_dict_keyiterator_next ?_ (F.args_dict_keyiterator_next_1 _))))
 refine wpAny_bind (wpAny_pure (wpAny_bind (wpAny_bind ?_)))
 first|refine wpAny_bind (wpAny_typeNameOfWhole_keyiter hit.typeIs (wpAny_pure (wpAny_bind (wpAny_fieldsOf ho hd ?_))))|refine wpAny_bind (wpAny_typeNameOf_keyiter hit.typeIs (wpAny_pure (wpAny_bind (wpAny_fieldsOf ho hd ?_))))
 simp only [hown,xp,if_false];show wpAny _ _ (if (Value.ref d==Value.none)=true then _ else _) _ _ s
 rw [if_neg (show¬((Value.ref d==Value.none)=true) from xv)];refine wpAny_bind (wpAny_pure (wpAny_bind (wpAny_dictEntries hod hdd ?_)))
 rw [if_neg (by simp)];refine wpAny_bind (wpAny_pure (wpAny_bind (wpAny_dictEpoch hod hdd ?_)));rw [if_neg (by simp)];refine wpAny_pure ?_
 simp only [show¬((i:Int) < 0) from by omega,if_false,xT,Array.getElem?_eq_none hi];refine wpAny_bind ?_
 first|refine wpAny_bind (wpAny_typeNameOfWhole_keyiter hit.typeIs (wpAny_pure ?_))|refine wpAny_bind (wpAny_typeNameOf_keyiter hit.typeIs (wpAny_pure (A:=A.in1) ?_))
 show wpAny _ _ (setField (.ref it) 0 .none >>=_) _ _ s;refine wpAny_bind (wpAny_setField ho hd (by simp) ?_)
 show wpAny _ _ (newExc (.type "StopIteration") [] >>=_) _ _ _;refine wpAny_bind ?_;simp only [newExc,newTuple]
 refine wpAny_bind (wpAny_newObj_type (wpAny_bind (m:=firstArgMember _ _) (wpAny_of_eq (a:=Value.none) (by first|rfl|(simp only [firstArgMember];rfl)) (wpAny_newObj_type ?_ (by size_fits)))) (by size_fits))
 simp only [raiseNew];refine wpAny_bind (wpAny_handled ?_);rw [show A.in1.handled=none from hh]
 refine wpAny_bind (wpAny_pure (wpAny_throw ?_));refine wpAny_bind (wpAny_isInstance (T:="StopIteration") (b:=true) ⟨_,Heap.get?_push_size _ rfl,rfl⟩ isSubtype_stop ?_);exact wpAny_pure (hQ _ (((Heap.SameBut.update ..).extBut.push _).push _))
theorem nR (hh:A.handled=none) (I:Addr) (hne:d≠I):Walks prog w A I [I,d] [I] es.size (fun i v=>∃e,es[i]?=some e∧v=e.key) (fun i h=>h.IsKeyIter I d i es.size ep∧RawD h d es ep) where
 sub:=fun b hb=>by simp at hb;simp [hb]
 frame:=fun _ _ _ st hk=>⟨st.1.at fun o e=>hk I (by simp) o e,st.2.kp fun o e=>hk d (by simp) o e⟩
 item:=fun i s Q E hi st hQ=>by
  refine pB st.1 st.2 hi fun h' hit' hs'=> ?_
  exact hQ _ h' s.toks ⟨es[i],by simp [hi],rfl⟩ ⟨hit',st.2.kp fun o e=>hs'.extBut d o hne e⟩ fun b o hb e=>hs'.extBut b o (fun h=>hb (by simp [h])) e
 done:=fun s Q E st hQ=>sj hh st.1 st.2 (x9 _) fun h' he'=>hQ h' s.toks fun b o hb e=>he' b o (fun h=>hb (by simp [h])) e
 self:=fun _ _ _ _ st hQ=>wpAny_pyIter_keyiter st.1 hQ
theorem si (lo:(d==sysModules)=false):KdlSrc prog w "dict" d d es.size (fun i v=>∃e,es[i]?=some e∧v=e.key) (fun h=>RawD h d es ep) where
 type:=fun _ hm=>hm.ty
 there:=fun _ hm=>⟨hm.lt,hm.lt⟩
 keep:=fun _ _ hm hk=>hm.kp fun o e=>hk d (.inl rfl) o e
 notList:=by decide
 notTuple:=by decide
 hint:=fun _ _ _ _ hm hq=>kdl_hint_dict hm.ty hq
 iter:=fun _ _ hh hm=>⟨_,_,(fun _ _ hq=>pC lo hm hq),nR hh _ (xu hm.lt),⟨⟨_,Heap.get?_push_size _ rfl,rfl,rfl⟩,hm.kp fun o e=>Heap.get?_push_of_some _ e⟩⟩
end
open PySem PySem.Spec PySem.W PyProof.Rows L2 Tre Srt
section
variable {prog:Program} {w:World} {A:Around} {E:Value→Shared→Prop} {s:Shared} {T:String} {r d:Addr} {n:Nat} {P:Nat→Value→Prop} {OK:Heap→Prop}
theorem fm {Q:List Value→Shared→Prop} (K:KdlSrc prog w T r d n P OK) (hh:A.handled=none) (hok:OK s.heap) (hn:n≤sizeLine)
 (hQ:∀h' tk (acc:Array Value),(∀b o,s.heap.get? b=some o→h'.get? b=some o)→s.heap.objs.size < h'.objs.size→ItemsOf P acc n→Q acc.toList {s with heap:=h',toks:=tk}):wpAny (model prog w) A (collect (.ref r)) Q E s:=by
 have hlt:=K.there _ hok
 unfold collect
 refine wpAny_bind (wpAny_runValue (codeAny_builtin PySem.F.entry_proto_collect ?_))
 rw [Around.under_plainId PySem.F.plain_proto_collect _]
 show wpAny _ A.in1 (newList [] >>=fun l=>again (.builtin "list.__iadd__" ⟨[l, .ref r],[]⟩)) _ _ s
 refine wpAny_bind (wpAny_newObj_type (wpAny_pure ⟨plainId_quiet PySem.F.plain_list_iadd _,codeAny_builtin PySem.F.entry_list_iadd ?_⟩))
 rw [Around.under_plainId PySem.F.plain_list_iadd _]
 have hS:(s.heap.push {cls:= .type "list",data:= .seq ([]:List Value).toArray}).get? s.heap.objs.size=some {cls:= .type "list",data:= .seq ([]:List Value).toArray}:=Heap.get?_push_size _ rfl
 show wpAny _ A.in1 (Builtin.List.listExtendWith (.ref s.heap.objs.size) (.ref r) (.ref s.heap.objs.size)) _ _ _
 refine kdl_extend (R:=fun r' s'=>match r' with
  | .ok (.ret v)=>wpAny (model prog w) A (match v with
   | .ref a=>do match (←load a).data with
    | .seq xs _=>pure xs.toList
    |_=>unsupported "internal:collect"
   |_=>unsupported "internal:collect") Q E s'
  | .ok _=>False
  | .error e=>E e s') (s:= {s with heap:=s.heap.push {cls:= .type "list",data:= .seq ([]:List Value).toArray}}) K hh (K.keep _ _ hok fun b _ o e=>Heap.get?_push_of_some _ e) _ (Nat.ne_of_gt hlt.1) (Nat.ne_of_gt hlt.2) _ _ hS (fun h' tk acc' c' hk hS' hacc=> ?_) hn
 show wpAny _ A (load s.heap.objs.size >>=_) _ _ _
 refine wpAny_bind (wpAny_load hS' (wpAny_pure (hQ h' tk acc' (fun b o e=>hk b o (xu (Heap.lt_size e)) (Heap.get?_push_of_some _ e)) (Heap.lt_size hS') hacc)))
end
section
variable {prog:Program} {w:World} {A:Around} {E:Value→Shared→Prop} {s:Shared} {lt:Nat→Nat→Bool} {κ:SortKind}
theorem i9 {l:Addr} {vs:List Value} {Q:Value→Shared→Prop} (O:Ord lt) (h64:vs.length < 64)
 (hcol:∀Q':List Value→Shared→Prop,(∀h' tk,(∀b o,s.heap.get? b=some o→h'.get? b=some o)→s.heap.objs.size < h'.objs.size→Q' vs {s with heap:=h',toks:=tk})→wpAny (model prog w) A.in1 (collect (.ref l)) Q' E s)
 (hkind:2≤vs.length→∀h' tk,(∀b o,s.heap.get? b=some o→h'.get? b=some o)→∀(E':Value→Shared→Prop) (R:SortKind→Shared→Prop),R κ {s with heap:=h',toks:=tk}→wpAny (model prog w) A.in1.in1 (keyKind' vs.toArray) R E' {s with heap:=h',toks:=tk})
 (hask:∀h' tk,(∀b o,s.heap.get? b=some o→h'.get? b=some o)→∀i j (R:Bool→Shared→Prop),i < vs.length→j < vs.length→R (lt i j) {s with heap:=h',toks:=tk}→kas_ask prog w A.in1.in1 κ vs i j R {s with heap:=h',toks:=tk})
 (h:∀p:Array Nat,Pm vs.length p→Up lt p vs.length→∀h' tk D e,(∀b o,s.heap.get? b=some o→h'.get? b=some o)→s.heap.objs.size≤D→h'.get? D=some (seqObj "list" (List.toArray (p.toList.map fun i=>vs.getD i Value.none)) e)→Q (.ref D) {s with heap:=h',toks:=tk}):
 wpAny (model prog w) A (call (.builtin "sorted") [.ref l]) Q E s:=by
 refine Calls.call_function_entry kind_sorted plain_sorted entry_sorted (args_sorted1 _) ?_
 unfold Builtin.«sorted»
 refine wpAny_bind (m:=checkCount "sorted" 1 1 _) (wpAny_pure (wpAny_bind (hcol _ fun h1 tk k1 sz=> ?_)))
 refine wpAny_bind (wpAny_newList (s:= {s with heap:=h1,toks:=tk}) ?_ (by rw [sizeLine_eq];omega))
 have hoL:(h1.push (seqObj "list" vs.toArray 0)).get? h1.objs.size=some (seqObj "list" vs.toArray 0):=Heap.get?_push_size _ rfl
 have keep:∀b o,s.heap.get? b=some o→(h1.push (seqObj "list" vs.toArray 0)).get? b=some o∧b≠h1.objs.size:=fun b o q=>⟨Heap.get?_push_of_some _ (k1 b o q),xu (Heap.lt_size (k1 b o q))⟩
 show wpAny _ _ _ _ _ {s with heap:=h1.push (seqObj "list" vs.toArray 0),toks:=tk}
 refine wpAny_bind (wpAny_holding (wpAny_call_entry slot_list_sort ⟨_,hoL,rfl⟩ entry_list_sort (dk (s:= {s with heap:=h1.push (seqObj "list" vs.toArray 0),toks:=tk}) (lt:=lt) (κ:=κ) O hoL h64 (fun h2 h' st R hR=>hkind h2 h' tk (fun b o e=>st b o (keep b o e).2 (keep b o e).1) _ R hR)
  (fun h' st i j R hi hj hR=>hask h' tk (fun b o e=>st b o (keep b o e).2 (keep b o e).1) i j R hi hj hR) fun p a1 a2=>⟨_,rfl,?_⟩) (args_list_sort _)))
 obtain ⟨e,he⟩:=sortedHeap_at (out:=List.toArray (p.toList.map fun i=>vs.getD i Value.none)) hoL
 refine wpAny_pure ⟨_,rfl,h p a1 a2 _ tk _ e (fun b o q=> ?_) (Nat.le_of_lt sz) he⟩
 rw [sortedHeap_old (keep b o q).2 (Heap.lt_size (keep b o q).1)]
 exact (keep b o q).1
end
theorem mQ {prog:Program} {w:World} {A:Around} {s:Shared} {fin:Bool} {Q:Bool→Shared→Prop}:∀ {as bs:List Value} {q:List (Bool×Bool)} {i:Nat},0 < i→cw A s as bs q→Q (lexV fin q) s→KatLex prog w A true fin Q (as.zip bs) i s
 | [],_,q,i,_,h,hq=>by
  unfold cw at h
  subst h
  rw [List.zip_nil_left]
  exact kat_nil hq
 |_::_,[],q,i,_,h,hq=>by
  unfold cw at h
  subst h
  rw [List.zip_nil_right]
  exact kat_nil hq
 |a::as,b::bs,[],i,_,h,hq=>h.elim
 |a::as,b::bs,(e,l)::q,i,h0,h,hq=>by
  obtain ⟨h1,h2,h3⟩:=h
  rw [yd]
  refine kat_cons (h1 prog w _ _ ?_)
  cases e with
  |true=>exact kat_yes (mQ (by omega) (h3 rfl) hq)
  |false=>
   refine kat_no ?_
   have e0:(true&&i==0)=false:=by
    cases i with
    |zero=>omega
    |succ i=>rfl
   rw [e0]
   exact kat_one a b (h2 rfl prog w _ _ hq)
theorem je {prog:Program} {w:World} {A:Around} {s:Shared} {fin:Bool} {Q:Bool→Shared→Prop} {x y:Str} {t u:Tok} {as bs:List Value} {q:List (Bool×Bool)} (h:cw A s as bs q)
 (hq:Q (lexV fin ((x==y,decide (x.cps.toList < y.cps.toList))::q)) s):KatLex prog w A true fin Q ((Value.str x t::as).zip (Value.str y u::bs)) 0 s:=by
 rw [yd]
 refine kat_cons (SeqAt.EqAt.str_str x t y u prog w _ _ ?_)
 cases e:(x==y) with
 |true=>
  rw [e] at hq
  exact kat_yes (mQ (by decide) h hq)
 |false=>
  rw [e] at hq
  refine kat_no ?_
  exact oneLt_str hq
def Hs (t:Tr):Prop:=∃x r,t= .tup (.str x::r)
section
variable {X:Cx} {pins:List (Addr×Obj)} {σ:L2.St} {H:Hp} {s:Shared}
theorem fK (I:Inv X pins σ H s):∀ {vs:List V} {ts:List Tr} {as:List Value},TrsAt H vs ts→Vals vs as→(∀t∈ts,Hs t)→∃fs,KatTups s.heap as fs∧fs.length=as.length∧∀v∈fs,∃(x:Str) (t:Tok),v= .str x t
 |vs,[],as,h,r,_=>by
  unfold TrsAt at h
  subst h
  cases r
  exact ⟨[], .nil,rfl,fun v m=>by cases m⟩
 |vs,t::ts,as,h,r,hh=>by
  obtain ⟨v,vr,rfl,h1,h2⟩:=h.inv
  cases r with
  |cons r1 r2=>
   obtain ⟨fs,f1,f2,f3⟩:=fK I h2 r2 fun u m=>hh u (x6 _ m)
   obtain ⟨x,rr,rfl⟩:=hh t x5
   unfold TrAt at h1
   obtain ⟨a,ws,rfl,g,k⟩:=h1
   cases r1
   obtain ⟨y,yr,rfl,k1,k2⟩:=k.inv
   unfold TrAt at k1
   subst k1
   obtain ⟨bs,o,n,q1,ho,hc,hd⟩:=cK I g
   cases q1 with
   |cons q1 q2=>
    obtain ⟨tk,rfl⟩:=q1
    refine ⟨_,KatTups.cons ho hc hd rfl f1,by simp [f2],fun v m=> ?_⟩
    rcases xi.mp m with e|m
    · exact ⟨x,tk,e⟩
    · exact f3 v m
def jD (P:Program) (w:World) (K:PySem.W.Frag):List V→Hp→VK→Prop:=fun xs H Q=>∃(a:Addr) (kvs:List Ent) (ts:List Tr),xs= [.ref a]∧DJ P w K H a kvs∧TrsAt H (kvs.map fun e=>V.ref e.2.1) ts∧ts.length < 64∧(∀t∈ts,Hs t∧t.pure∧t.depth≤40)∧(∀t∈ts,∀u∈ts,Cm t u)∧
 ∀(D:Addr) (ws:List V) (us:List Tr),H D=none→us.Perm ts→TrsAt H ws us→(∀(i j:Nat) (t u:Tr),i≤j→us[i]?=some t→us[j]?=some u→ltT u t=false)→Q (.ref D) (upd H D (.lst ws))
theorem se {kvs:List Ent} {xs:List (List Tk.KT×Addr×Value)} (r:RE kvs xs):(kvs.map fun e=>V.ref e.2.1)=xs.map fun x=>V.ref x.2.1:=by
 induction r with
 |nil=>rfl
 |cons h _ ih=>rw [xg,xg,ih,h.2.1]
theorem nG (xs:List (List Tk.KT×Addr×Value)):Vals (xs.map fun x=>V.ref x.2.1) (xs.map fun x=>Value.ref x.2.1):=by
 induction xs with
 |nil=>exact .nil
 |cons x r ih=>exact .cons rfl ih
theorem jn (hc:X.calm=true) (hu:X.A.units+60 < cLine):c7 X (.builtin "sorted") (jD X.prog X.w X.K):=by
 intro pins s σ H xs us Q I r h
 obtain ⟨a,kvs,ts,rfl,dj,hT,hlen,hts,hcm,q⟩:=h
 obtain ⟨u,rfl,ru⟩:=cQ r
 cases ru
 obtain ⟨z,hd,ws,rel,dd⟩:=k9 I.hok I.kIn dj
 obtain ⟨o,es,ep,ho,hx,hdat,hes,_⟩:=dd
 rw [se rel] at hT
 obtain ⟨as,eas⟩:∃as,as=ws.map fun x=>Value.ref x.2.1:=⟨_,rfl⟩
 obtain ⟨vs,evs⟩:∃vs,vs=ws.map fun x=>V.ref x.2.1:=⟨_,rfl⟩
 have rv:Vals vs as:=by rw [eas,evs];exact nG ws
 rw [←evs] at hT
 have l1:=hT.len
 have l2:=rv.length
 have wl:ws.length=vs.length:=by rw [evs,wZ]
 have esz:es.size=as.length:=by rw [←xb,hes,wZ,eas,wZ]
 have O:Srt.Ord fun i j=>ltT (ts.getD i .non) (ts.getD j .non):=⟨fun a b h=>d6 h,fun a b c h1 h2=>lh h1 h2⟩
 have at_:∀i,i < as.length→∃t v a,ts.getD i .non=t∧t∈ts∧TrAt H v t∧RelV v a∧as.getD i Value.none=a:=fun i hi=>by
  have hi':i < ts.length:=by omega
  obtain ⟨v,e1,e2⟩:=hT.get (i:=i) (t:=ts[i]) (x4 hi')
  obtain ⟨a,e3,e4⟩:=rv.get e1
  exact ⟨ts[i],v,a,by rw [xB,x4 hi'];rfl,y6 hi',e2,e4,by rw [xB,e3];rfl⟩
 refine i9 (κ:=tuples' true) (vs:=as) O (by omega) (fun Q' hQ'=> ?_) (fun h2 h' tk kp E' R hR=> ?_) (fun h' tk kp i j R hi hj hR=> ?_) fun p hp hup h' tk D e kp sz he=> ?_
 · have h64:(64:Nat)≤sizeLine:=by decide +kernel
   refine fm (A:=X.A.in1) (si (es:=es) (ep:=ep) hd) (I.ok.hd hc) ⟨o,ho,hx,hdat⟩ (by omega) fun h' tk acc k1 sz hacc=> ?_
   have e:acc.toList=as:=by
    refine yx fun j=> ?_
    by_cases hj:j < es.size
    · have hj':j < acc.size:=by rw [hacc.1];exact hj
      obtain ⟨en,e1,e2⟩:=hacc.2 j acc[j] (by simp [hj'])
      have e3:es.toList[j]?=some en:=by rw [xk];exact e1
      rw [hes,xw] at e3
      obtain ⟨x,ex,rfl⟩:=xG.mp e3
      rw [eas,xw,ex,xk,xq hj',e2]
      rfl
    · rw [xK (by rw [xb,hacc.1];omega),xK (by omega)]
   rw [e]
   exact hQ' h' tk k1 sz
 · have I':Inv X pins σ H {s with heap:=h',toks:=tk}:=I.kept (t':=tk) kp
   obtain ⟨fs,k1,k2,k3⟩:=fK I' hT rv fun t m=>(hts t m).1
   refine kat_kind (T:=Value.type "str") k1 (by omega) (fun v m=> ?_) (by decide +kernel) ?_
   · obtain ⟨x,t,rfl⟩:=k3 v m
     exact .now
   · rw [show (Value.type "str" !=Value.type "tuple")=true by decide +kernel]
     exact hR
 · have I':Inv X pins σ H {s with heap:=h',toks:=tk}:=I.kept (t':=tk) kp
   obtain ⟨t,v,a,et,mt,ht,ra,ea⟩:=at_ i hi
   obtain ⟨u,v',b,eu,mu,hu',rb,eb⟩:=at_ j hj
   have hc':=hcm t mt u mu
   obtain ⟨⟨x1,r1,rfl⟩,p1,d1⟩:=hts t mt
   obtain ⟨⟨x2,r2,rfl⟩,p2,d2⟩:=hts u mu
   unfold TrAt at ht hu'
   obtain ⟨x0,vs0,rfl,g0,g1⟩:=ht
   obtain ⟨y0,ws0,rfl,g2,g3⟩:=hu'
   cases ra
   cases rb
   obtain ⟨as0,o,n,q3,ho,hcl,hd'⟩:=cK I' g0
   obtain ⟨bs0,o',n',q4,ho',hcl',hd2⟩:=cK I' g2
   have z0:=g1.len
   have z1:=g3.len
   have z2:=q3.length
   have z3:=q4.length
   obtain ⟨y1,yr1,rfl,w1,w2⟩:=g1.inv
   obtain ⟨y2,yr2,rfl,w3,w4⟩:=g3.inv
   unfold TrAt at w1 w3
   subst w1 w3
   cases q3 with
   |cons q3 q3'=>
    cases q4 with
    |cons q4 q4'=>
     obtain ⟨tk1,rfl⟩:=q3
     obtain ⟨tk2,rfl⟩:=q4
     unfold Tr.depth at d1
     unfold Trs.depth at d1
     unfold Tr.pure at p1
     unfold Trs.pure at p1
     unfold kas_ask
     rw [ea,eb]
     refine kat_lt (b:=true) ho hd' ho' hd2 ?_
     rw [yh,yh]
     have hu1:X.A.in1.in1.units+40+1 < cLine:=by show X.A.units+1+1+40+1 < cLine;omega
     have e:∀q,lexV (decide ((Value.str x1 tk1::_).toArray.size < (Value.str x2 tk2::_).toArray.size)) ((x1==x2,decide (x1.cps.toList < x2.cps.toList))::q)=lexV (decide ((Tr.str x1::r1).length < (Tr.str x2::r2).length)) ((x1==x2,decide (x1.cps.toList < x2.cps.toList))::q):=fun q=>by
      rw [xc,xc,←z2,←z3,z0,z1]
     by_cases ex:(x1==x2)=true
     · unfold Cm at hc'
       unfold Cms at hc'
       have hc2:Cms r1 r2:=by
        rcases hc' with ⟨_,c⟩|⟨n,_⟩
        · exact c
        · unfold Tre.eqT at n
          rw [ex] at n
          cases n
       have hx':=gO (A:=X.A.in1.in1) I' hu1 (fun d pp cc a1 a2 b1 b2=>iK I' 40 d pp cc a1 a2 b1 b2 hu1) (by omega) (.inl p1.2) hc2 w2 w4 q3' q4'
       refine je hx' ?_
       rw [e]
       have e2:lexV (decide ((Tr.str x1::r1).length < (Tr.str x2::r2).length)) ((x1==x2,decide (x1.cps.toList < x2.cps.toList))::qs r1 r2)=ltT (ts.getD i .non) (ts.getD j .non):=by
        rw [et,eu]
        refine aW ?_
        rw [ltT_iff]
        have el:decide ((Tr.str x1::r1).length < (Tr.str x2::r2).length)=decide (r1.length < r2.length):=by simp
        have e4:=(cM x1 x2).mp ex
        simp only [lexV,ex,if_true,el,dY,Tre.code,Tre.codes,LtC,LtCs,e4]
        constructor
        · intro h;exact .inr ⟨trivial,h⟩
        · rintro (h|h)
          · exact absurd h (List.lt_irrefl _)
          · exact h.2
       rw [e2]
       exact hR
     · have exf:(x1==x2)=false:=by simpa using ex
       rw [yd]
       refine kat_cons (SeqAt.EqAt.str_str x1 tk1 x2 tk2 X.prog X.w _ _ ?_)
       rw [exf]
       refine kat_no ?_
       refine oneLt_str ?_
       have e2:decide (x1.cps.toList < x2.cps.toList)=ltT (ts.getD i .non) (ts.getD j .non):=by
        rw [et,eu]
        refine aW ?_
        rw [ltT_iff,decide_eq_true_iff]
        have ne:x1.cps.toList≠x2.cps.toList:=fun z=>ex ((cM x1 x2).mpr z)
        simp only [Tre.code,Tre.codes,LtC,LtCs,Co.str.injEq]
        constructor
        · intro h;exact .inl h
        · rintro (h|h)
          · exact h
          · exact absurd h.1 ne
       rw [e2]
       exact hR
 · have hin:∀i∈p.toList,i < ts.length:=fun i m=>by
    have:=xN.mp (List.Perm.mem_iff hp |>.mp m)
    omega
   refine ⟨.ref D,upd H D (.lst (p.toList.map fun i=>vs.getD i .non)),I.laid (t':=tk) kp sz ?_,rfl,?_⟩
   · refine ⟨?_,p.toList.map fun i=>as.getD i Value.none,e,Vals.map rv fun i m=>by have:=hin i m;omega,he⟩
     rw [wZ,xb,hp.size]
     have:(64:Nat)≤sizeLine:=by decide +kernel
     omega
   · refine q _ _ (p.toList.map fun i=>ts.getD i .non) (I.hok.fresh sz) ?_ (TrsAt.map hT hin) fun i j t u hij e1 e2=> ?_
     · have:=List.Perm.map (fun i=>ts.getD i Tr.non) hp
       rw [show as.length=ts.length by omega,cE] at this
       exact this
     · rw [xw] at e1 e2
       obtain ⟨a,ea,rfl⟩:=xG.mp e1
       obtain ⟨b,eb,rfl⟩:=xG.mp e2
       have hj:j < as.length:=by
        have:=(xo.mp eb).1
        rw [xb,hp.size] at this
        exact this
       have:=hup i j hij hj
       rw [c4,c4,←xk,←xk,ea,eb] at this
       exact this
end
open PySem PySem.Spec PySem.W PyProof.Rows L2 Tre Srt
section
variable {X:Cx} {pins:List (Addr×Obj)} {σ:L2.St} {H:Hp} {s:Shared}
def SrQ (H:Hp) (ts:List Tr) (Q:VK):Prop:=∀(D:Addr) (ws:List V) (us:List Tr),H D=none→us.Perm ts→TrsAt H ws us→(∀(i j:Nat) (t u:Tr),i≤j→us[i]?=some t→us[j]?=some u→ltT u t=false)→Q (.ref D) (upd H D (.lst ws))
theorem jB {Q:VK} {a:Addr} {as:List Value} {vs:List V} {ts:List Tr} (hu:X.A.units+60 < cLine) (I:Inv X pins σ H s) (rv:Vals vs as) (hT:TrsAt H vs ts) (hlen:ts.length < 64) (hts:∀t∈ts,Hs t∧t.pure∧t.depth≤40) (hcm:∀t∈ts,∀u∈ts,Cm t u)
 (hcol:∀(E:Value→Shared→Prop) (Q':List Value→Shared→Prop),(∀h' tk,(∀b o,s.heap.get? b=some o→h'.get? b=some o)→s.heap.objs.size < h'.objs.size→Q' as {s with heap:=h',toks:=tk})→wpAny (model X.prog X.w) X.A.in1 (collect (.ref a)) Q' E s)
 (q:SrQ H ts Q):wpAny (model X.prog X.w) X.A (call (.builtin "sorted") [.ref a]) (EP X pins σ Q) X.xe s:=by
 have l1:=hT.len
 have l2:=rv.length
 have O:Srt.Ord fun i j=>ltT (ts.getD i .non) (ts.getD j .non):=⟨fun a b h=>d6 h,fun a b c h1 h2=>lh h1 h2⟩
 have at_:∀i,i < as.length→∃t v a,ts.getD i .non=t∧t∈ts∧TrAt H v t∧RelV v a∧as.getD i Value.none=a:=fun i hi=>by
  have hi':i < ts.length:=by omega
  obtain ⟨v,e1,e2⟩:=hT.get (i:=i) (t:=ts[i]) (x4 hi')
  obtain ⟨a,e3,e4⟩:=rv.get e1
  exact ⟨ts[i],v,a,by rw [xB,x4 hi'];rfl,y6 hi',e2,e4,by rw [xB,e3];rfl⟩
 refine i9 (κ:=tuples' true) (vs:=as) O (by omega) (fun Q' hQ'=> ?_) (fun h2 h' tk kp E' R hR=> ?_) (fun h' tk kp i j R hi hj hR=> ?_) fun p hp hup h' tk D e kp sz he=> ?_
 · exact hcol _ Q' hQ'
 · have I':Inv X pins σ H {s with heap:=h',toks:=tk}:=I.kept (t':=tk) kp
   obtain ⟨fs,k1,k2,k3⟩:=fK I' hT rv fun t m=>(hts t m).1
   refine kat_kind (T:=Value.type "str") k1 (by omega) (fun v m=> ?_) (by decide +kernel) ?_
   · obtain ⟨x,t,rfl⟩:=k3 v m
     exact .now
   · rw [show (Value.type "str" !=Value.type "tuple")=true by decide +kernel]
     exact hR
 · have I':Inv X pins σ H {s with heap:=h',toks:=tk}:=I.kept (t':=tk) kp
   obtain ⟨t,v,a,et,mt,ht,ra,ea⟩:=at_ i hi
   obtain ⟨u,v',b,eu,mu,hu',rb,eb⟩:=at_ j hj
   have hc':=hcm t mt u mu
   obtain ⟨⟨x1,r1,rfl⟩,p1,d1⟩:=hts t mt
   obtain ⟨⟨x2,r2,rfl⟩,p2,d2⟩:=hts u mu
   unfold TrAt at ht hu'
   obtain ⟨x0,vs0,rfl,g0,g1⟩:=ht
   obtain ⟨y0,ws0,rfl,g2,g3⟩:=hu'
   cases ra
   cases rb
   obtain ⟨as0,o,n,q3,ho,hcl,hd'⟩:=cK I' g0
   obtain ⟨bs0,o',n',q4,ho',hcl',hd2⟩:=cK I' g2
   have z0:=g1.len
   have z1:=g3.len
   have z2:=q3.length
   have z3:=q4.length
   obtain ⟨y1,yr1,rfl,w1,w2⟩:=g1.inv
   obtain ⟨y2,yr2,rfl,w3,w4⟩:=g3.inv
   unfold TrAt at w1 w3
   subst w1 w3
   cases q3 with
   |cons q3 q3'=>
    cases q4 with
    |cons q4 q4'=>
     obtain ⟨tk1,rfl⟩:=q3
     obtain ⟨tk2,rfl⟩:=q4
     unfold Tr.depth at d1
     unfold Trs.depth at d1
     unfold Tr.pure at p1
     unfold Trs.pure at p1
     unfold kas_ask
     rw [ea,eb]
     refine kat_lt (b:=true) ho hd' ho' hd2 ?_
     rw [yh,yh]
     have hu1:X.A.in1.in1.units+40+1 < cLine:=by show X.A.units+1+1+40+1 < cLine;omega
     have e:∀q,lexV (decide ((Value.str x1 tk1::_).toArray.size < (Value.str x2 tk2::_).toArray.size)) ((x1==x2,decide (x1.cps.toList < x2.cps.toList))::q)=lexV (decide ((Tr.str x1::r1).length < (Tr.str x2::r2).length)) ((x1==x2,decide (x1.cps.toList < x2.cps.toList))::q):=fun q=>by
      rw [xc,xc,←z2,←z3,z0,z1]
     by_cases ex:(x1==x2)=true
     · unfold Cm at hc'
       unfold Cms at hc'
       have hc2:Cms r1 r2:=by
        rcases hc' with ⟨_,c⟩|⟨n,_⟩
        · exact c
        · unfold Tre.eqT at n
          rw [ex] at n
          cases n
       have hx':=gO (A:=X.A.in1.in1) I' hu1 (fun d pp cc a1 a2 b1 b2=>iK I' 40 d pp cc a1 a2 b1 b2 hu1) (by omega) (.inl p1.2) hc2 w2 w4 q3' q4'
       refine je hx' ?_
       rw [e]
       have e2:lexV (decide ((Tr.str x1::r1).length < (Tr.str x2::r2).length)) ((x1==x2,decide (x1.cps.toList < x2.cps.toList))::qs r1 r2)=ltT (ts.getD i .non) (ts.getD j .non):=by
        rw [et,eu]
        refine aW ?_
        rw [ltT_iff]
        have el:decide ((Tr.str x1::r1).length < (Tr.str x2::r2).length)=decide (r1.length < r2.length):=by simp
        have e4:=(cM x1 x2).mp ex
        simp only [lexV,ex,if_true,el,dY,Tre.code,Tre.codes,LtC,LtCs,e4]
        constructor
        · intro h;exact .inr ⟨trivial,h⟩
        · rintro (h|h)
          · exact absurd h (List.lt_irrefl _)
          · exact h.2
       rw [e2]
       exact hR
     · have exf:(x1==x2)=false:=by simpa using ex
       rw [yd]
       refine kat_cons (SeqAt.EqAt.str_str x1 tk1 x2 tk2 X.prog X.w _ _ ?_)
       rw [exf]
       refine kat_no ?_
       refine oneLt_str ?_
       have e2:decide (x1.cps.toList < x2.cps.toList)=ltT (ts.getD i .non) (ts.getD j .non):=by
        rw [et,eu]
        refine aW ?_
        rw [ltT_iff,decide_eq_true_iff]
        have ne:x1.cps.toList≠x2.cps.toList:=fun z=>ex ((cM x1 x2).mpr z)
        simp only [Tre.code,Tre.codes,LtC,LtCs,Co.str.injEq]
        constructor
        · intro h;exact .inl h
        · rintro (h|h)
          · exact h
          · exact absurd h.1 ne
       rw [e2]
       exact hR
 · have hin:∀i∈p.toList,i < ts.length:=fun i m=>by
    have:=xN.mp (List.Perm.mem_iff hp |>.mp m)
    omega
   refine ⟨.ref D,upd H D (.lst (p.toList.map fun i=>vs.getD i .non)),I.laid (t':=tk) kp sz ?_,rfl,?_⟩
   · refine ⟨?_,p.toList.map fun i=>as.getD i Value.none,e,Vals.map rv fun i m=>by have:=hin i m;omega,he⟩
     rw [wZ,xb,hp.size]
     have:(64:Nat)≤sizeLine:=by decide +kernel
     omega
   · refine q _ _ (p.toList.map fun i=>ts.getD i .non) (I.hok.fresh sz) ?_ (TrsAt.map hT hin) fun i j t u hij e1 e2=> ?_
     · have:=List.Perm.map (fun i=>ts.getD i Tr.non) hp
       rw [show as.length=ts.length by omega,cE] at this
       exact this
     · rw [xw] at e1 e2
       obtain ⟨a,ea,rfl⟩:=xG.mp e1
       obtain ⟨b,eb,rfl⟩:=xG.mp e2
       have hj:j < as.length:=by
        have:=(xo.mp eb).1
        rw [xb,hp.size] at this
        exact this
       have:=hup i j hij hj
       rw [c4,c4,←xk,←xk,ea,eb] at this
       exact this
def pG:List V→Hp→VK→Prop:=fun xs H Q=>∃(v a:Addr) (kvs:List (Key×V)) (ts:List Tr),xs= [.ref v]∧H v=some (cv v a)∧H a=some (.dK kvs)∧TrsAt H (kvs.map (·.2)) ts∧ts.length < 64∧(∀t∈ts,Hs t∧t.pure∧t.depth≤40)∧(∀t∈ts,∀u∈ts,Cm t u)∧SrQ H ts Q
theorem call_sortedV (hc:X.calm=true) (hu:X.A.units+60 < cLine):c7 X (.builtin "sorted") pG:=by
 intro pins s σ H xs us Q I r h
 obtain ⟨v,a,kvs,ts,rfl,hv,hH,hT,hlen,hts,hcm,q⟩:=h
 obtain ⟨u,rfl,ru⟩:=cQ r
 cases ru
 obtain ⟨z,hd,ws,rel,dd⟩:=k8 I.hok hH
 obtain ⟨hview,_⟩:=(show ObjOk X.prog X.w H s.heap v (cv v a) from I.hok v _ hv)
 obtain ⟨ep,hat⟩:=dd.dictAt
 have rr:Vals (kvs.map (·.2)) (ws.map (·.2)):=by
  clear hat dd z q hH hT
  induction rel with
  |nil=>exact .nil
  |cons r1 _ ih=>exact .cons r1.2 ih
 refine jB hu I rr hT hlen hts hcm (fun E Q' hQ'=> ?_) q
 refine fm (A:=X.A.in1) (PySem.W.kdl_values (knd:=aR X.prog X.w) (kvs:=ws) (ep:=ep)) (I.ok.hd hc) ⟨hview,hat⟩ (by rw [←rel.length];exact z) fun h' tk acc k1 sz hacc=> ?_
 have e:acc.toList=ws.map (·.2):=PySem.W.kdl_vals_eq acc.toList (by rw [xb];exact hacc.1) fun j x ex=>hacc.2 j x (by rw [←xk];exact ex)
 rw [e]
 exact hQ' h' tk k1 sz
end
end Dj
namespace K09
open PySem L2 Mth Tre Wd Su Tw
abbrev aks:List V:= [.str "flag", .str "most", .str "like"]
theorem sU {n:Nat} {t:Tr} {c:List Nat} (h:Wx n t c):∃kk r,t= .tup (.str kk::r)∧L2.inV (.str kk) aks=isAt t:=by
 cases h with
 |fl _ x hx=>exact ⟨_,_,rfl,by rfl⟩
 |mo _ ps f _ _ _ _ _=>exact ⟨_,_,rfl,by rfl⟩
 |li _ t u _ _=>exact ⟨_,_,rfl,by rfl⟩
 |no _ t c _=>exact ⟨_,_,rfl,by rfl⟩
 |bo _ l _ _=>exact ⟨_,_,rfl,by rfl⟩
 |ei _ l _ _=>exact ⟨_,_,rfl,by rfl⟩
theorem dh {n:Nat} {t:Tr} {c:List Nat} (h:Wy n t c):∀u∈Fs.firsts [] (allN n t),∃m d,m≤n∧Wy m u d:=fun u m=>by
 rcases Fs.mem_fst.mp m with h'|h'
 · cases h'
 · obtain ⟨a,b,h1,h2,_⟩:=cA h u h'
   exact ⟨a,b,h1,h2⟩
theorem cn {p:Tr→Bool} {l:List Tr} {i:Nat} {t:Tr} (e:l[i]?=some t):(l.take (i+1)).filter p=(l.take i).filter p++if p t then [t] else []:=by
 rw [xQ,e,List.filter_append]
 simp [yq]
section
variable {P:Program} {w:World} {K:PySem.W.Frag} {mg:Str→Option Value} {base:Heap}
theorem nd2:(["term","share"]:List Str).Nodup:=by decide +kernel
def oY:Sp:=fun vs H Q _=>∃(v:V) (t:Tr),vs= [v]∧TrAt H v t∧Ak t∧∀L H' ws,H L=none→Same H H'→H' L=some (.lst ws)→TrsAt H' ws (toA t)→Q (.ref L) H'
theorem wj:ay ["atom"] ["atom"] (ai sToa):=⟨rfl,rfl,rfl,by decide +kernel,rfl,by decide +kernel,by decide +kernel⟩
theorem uS {f:Addr} {fd:FuncData} (F:Fun K "terms_of_atom" "terms_of_atom" sToa f fd):FnOk P w K mg base CX0 1 f fd ["atom"] oY:=by
 refine F.ok wj (fun vs H Q E h=> ?_) (fun cdv A outer s H vs Q E hr h=> ?_)
 · obtain ⟨v,t,rfl,_⟩:=h
   rfl
 obtain ⟨v,t,rfl,hv,hk,k⟩:=h
 refine ⟨_,ag (aP (au aS (aq ix_tup (pv 0) ae fun _ _=>rfl) aC (aB _)) (aj (ao (br (NC:= ["term","share"]) (mp:= [none,none]) (g:=gTup K 2 (jX (cF 0) (jX (cF 1) gNil))) rfl (cZ (aq ix_tup (pv 0) ae fun _ _=>rfl)) (fun _ _ _ _ _=>gE (n:=2) rfl (bx (aA (i:=0) nd2 rfl (Or.inl rfl)) (bx (aA (i:=1) nd2 rfl (Or.inl rfl)) dQ))) (fun _ _ _ _ _=>bO) (fun _ _ _ _ _=>pv 0)))) az)
  (ag (aP (au aS (aq ix_tup (pv 0) ae fun _ _=>rfl) aC (aB _)) (aj (ao (aL (a9 (aq ix_tup (pv 0) ae fun _ _=>rfl) (a9 (aq ix_tup (pv 0) ae fun _ _=>rfl) aa))))) az)
  (aj (ao (aL aa)))),?_⟩
 have hL20:(20000:Nat)≤sizeLine:=by decide +kernel
 cases hk with
 |fl x hx=>
  obtain ⟨r,y,rfl,h1,h2⟩:=at2 hv
  refine ⟨_,rfl,r,_,0, .str "flag",rfl,rfl,SqT.of h1,rfl,rfl,_,rfl,?_⟩
  rw [decide_eq_false (show¬V.str "flag"=V.str "most" by decide +kernel)]
  refine iteF ?_
  refine ⟨_,rfl,r,_,0, .str "flag",rfl,rfl,SqT.of h1,rfl,rfl,_,rfl,?_⟩
  rw [decide_eq_false (show¬V.str "flag"=V.str "like" by decide +kernel)]
  refine iteF ?_
  exact ⟨by show 0≤sizeLine;decide,fun L nL=>k L _ [] nL (af nL) ac .nil⟩
 |mo ps fr h3 hg=>
  obtain ⟨r,y,z,rfl,h1,h2,h4⟩:=at3 hv
  obtain ⟨q,xs,rfl,hq,hxs⟩:=at_t h2
  refine ⟨_,rfl,r,_,0, .str "most",rfl,rfl,SqT.of h1,rfl,rfl,_,rfl,?_⟩
  rw [decide_eq_true rfl]
  refine iteT ?_
  have xl:=hxs.len
  rw [wZ] at xl
  refine rm (K':=K) (xs:=xs) (rest:= []) (a:=q) rfl (fun Q q'=>⟨_,rfl,r,_,1, .ref q,rfl,rfl,SqT.of h1,rfl,q'⟩) (SqT.of hq) fun D nD=> ?_
  refine ⟨fun i acc H'=>Same H H'∧H' D=some (.lst acc)∧TrsAt H' acc ((ps.take i).map (·.1)),⟨af nD,ac,by rw [yp];exact .nil⟩,fun i acc H' p=>SqT.of (p.1 _ _ hq),?_,?_⟩
  · rintro i z acc H' hi ⟨sH,hD,hA⟩ ez
    obtain ⟨u,eu,hu⟩:=hxs.get' ez
    obtain ⟨p,ep,rfl⟩:∃p,ps[i]?=some p∧u=prT p:=by
     rw [xw] at eu
     cases e:ps[i]? with
     |none=>rw [e] at eu;cases eu
     |some p=>rw [e] at eu;exact ⟨p,rfl,(xE eu).symm⟩
    obtain ⟨T,vs2,rfl,hT,hvs2⟩:=at_t (show TrAt H z (.tup [p.1,frT p.2]) from hu)
    obtain ⟨x,rest,rfl,hx,hrest⟩:=hvs2.inv
    obtain ⟨y,rest,rfl,hy,hrest⟩:=hrest.inv
    have e0:rest= []:=List.eq_nil_of_length_eq_zero (by have:=hrest.len;simpa using this)
    subst e0
    refine ⟨T,x,y,rfl,SqT.of (sH _ _ hT),_,rfl,?_⟩
    have al:=hA.len
    rw [wZ,xM] at al
    have kd:=Kd.upd (ys:=acc++ [x]) hD
    refine CompN.mk hi (by omega) hD ⟨aX nD sH,ac,?_⟩
    rw [xQ,ep,xD]
    exact TrsAt.app (.cons ((hx.mono (Kd.of_same sH)).mono kd) .nil) (hA.mono kd)
  · rintro acc H' ⟨sH,hD,hA⟩
    rw [xl,xH] at hA
    exact k D H' acc nD sH hD (by rw [kO];exact hA)
 |li a b ha hb=>
  obtain ⟨r,y,z,rfl,h1,h2,h4⟩:=at3 hv
  refine ⟨_,rfl,r,_,0, .str "like",rfl,rfl,SqT.of h1,rfl,rfl,_,rfl,?_⟩
  rw [decide_eq_false (show¬V.str "like"=V.str "most" by decide +kernel)]
  refine iteF ?_
  refine ⟨_,rfl,r,_,0, .str "like",rfl,rfl,SqT.of h1,rfl,rfl,_,rfl,?_⟩
  rw [decide_eq_true rfl]
  refine iteT ?_
  refine ⟨_,rfl,r,_,1,y,rfl,rfl,SqT.of h1,rfl,_,rfl,r,_,2,z,rfl,rfl,SqT.of h1,rfl,by show 2≤sizeLine;decide,fun L nL=>k L _ [y,z] nL (af nL) ac ?_⟩
  rw [kQ ha.gm]
  exact (TrsAt.cons h2 (.cons h4 .nil)).mono (Kd.of_same (af nL))
def lU:Sp:=fun vs H Q _=>∃(v:V) (t:Tr) (c:List Nat),vs= [v]∧TrAt H v t∧Wy 3 t c∧∀L H' ws,H L=none→Same H H'→H' L=some (.lst ws)→TrsAt H' ws ((Fs.firsts [] (allN 3 t)).filter isAt)→Q (.ref L) H'
theorem wo:ay ["wish"] ["wish"] (ai sAin):=⟨rfl,rfl,rfl,by decide +kernel,rfl,by decide +kernel,by decide +kernel⟩
theorem v9 {f fG AK:Addr} {fd fdG:FuncData} (F:Fun K "atoms_in" "atoms_in" sAin f fd) (GG:FnOk P w K mg base CX0 25 fG fdG ["wish"] spPo) (kG:PySem.W.keepIn K (.ref fG)=true) (bG:Binds K fdG ["wish"] []) (mG:mg "parts_of"=some (.ref fG))
 (mA:mg "ATOM_KINDS"=some (.ref AK)) (hA:∀H:Hp,SqT K H AK aks):FnOk P w K mg base CX0 26 f fd ["wish"] lU:=by
 refine F.ok wo (fun vs H Q E h=> ?_) (fun cdv A outer s H vs Q E hr h=> ?_)
 · obtain ⟨v,t,c,rfl,_⟩:=h
   rfl
 obtain ⟨v,t,c,rfl,hv,hw,k⟩:=h
 refine ⟨_,aj (ao (br (NC:= ["part"]) (mp:= [none]) rfl (b8 (ah GG hr rfl mG kG bG .nil am (a9 (pv 0) aa))) (fun _ _ _ _ _=>aA (i:=0) (show (["part"]:List Str).Nodup by decide +kernel) rfl (Or.inl rfl)) (fun _ _ _ _ _=>j0 (au (r:=L2.rIn K false) nX (aq (r:=rIxT K) ix_tup (pv 0) ae fun _ _=>rfl) (dc (v:= .ref AK) rfl mA rfl) (by with_unfolding_all rfl))) (fun _ _ _ _ _=>pv 0))),?_⟩
 have hL20:(20000:Nat)≤sizeLine:=by decide +kernel
 refine eK rfl ?_
 refine ⟨_,rfl,v,t,c,rfl,hv,hw,fun r H1 xs nr s1 hr1 hxs=>⟨r,rfl,⟨xs,SqL.of hr1⟩,fun D nD=> ?_⟩⟩
 have xl:=hxs.len
 have fl:=Fs.firsts_len (allN 3 t) []
 have al3:=cu hw
 have e64:4^3=64:=by decide
 refine dE (xs:=xs) (fun i acc H'=>Same H1 H'∧H' D=some (.lst acc)∧TrsAt H' acc (((Fs.firsts [] (allN 3 t)).take i).filter isAt)) ⟨af nD,ac,by rw [yp];exact .nil⟩ (fun i acc H' p=>SqL.of (p.1 _ _ hr1)) ?_ ?_
 · rintro i x acc H' hi ex ⟨sH,hD,hA'⟩
   obtain ⟨u,eu,hu⟩:=hxs.get' ex
   obtain ⟨m',d',_,hwu⟩:=dh hw u (xa eu)
   obtain ⟨kk,rr,rfl,ein⟩:=sU hwu.wx
   have hu':=hu.mono (Kd.of_same sH)
   obtain ⟨a,vs2,rfl,h1,h2⟩:=cj hu'
   refine ⟨_,rfl,a,_,0, .str kk,rfl,rfl,SqT.of h1,bf (j:=0) rfl,AK,aks,rfl, .inr (hA H'),rfl,rfl,_,rfl,?_⟩
   show if L2.inV (.str kk) aks=true then _ else _
   rw [ein]
   have al:=hA'.len
   have fl2:=yc isAt ((Fs.firsts [] (allN 3 t)).take i)
   rw [xM] at fl2
   cases ea:isAt (.tup (.str kk::rr)) with
   |true=>
    refine iteT ?_
    have kd:=Kd.upd (ys:=acc++ [.ref a]) hD
    refine ⟨_,rfl,CompN.mk hi (by simp only [xP] at fl;omega) hD ⟨aX nD sH,ac,?_⟩⟩
    rw [cn eu,ea]
    exact TrsAt.app (.cons (hu'.mono kd) .nil) (hA'.mono kd)
   |false=>
    refine iteF ?_
    refine CompS.mk hi ⟨sH,hD,?_⟩
    rw [cn eu,ea]
    simpa using hA'
 · rintro acc H' ⟨sH,hD,hA'⟩
   rw [xl,xH] at hA'
   exact k D H' acc (s1.free nD) (s1.trans sH) hD hA'
end
open PySem L2 Mth Tre Wd Su Tw
theorem aN {β:Type} {l:List Tr} {f:Tr→List β} {i:Nat} {t:Tr} (e:l[i]?=some t):(l.take (i+1)).flatMap f=(l.take i).flatMap f++f t:=by
 rw [xQ,e,xW]
 simp
theorem cH {β:Type} (l:List Tr) (f:Tr→List β) (i:Nat):((l.take i).flatMap f).length≤(l.flatMap f).length:=by
 have:l.flatMap f=(l.take i).flatMap f++(l.drop i).flatMap f:=by rw [←xW,yj]
 rw [this,x3]
 omega
theorem oh {t:Tr} (h:Gn 3 t):(allT 3 t).length≤64:=xI (hG h) (by decide)
theorem oO {t:Tr} (h:Ak t):(tA t).length≤192:=by
 have h1:=cr (B:=64) (l:=toA t) (f:=allT 3) fun u m=>oh (h.toA.2 u m)
 have:=h.toA.1
 unfold tA
 have:(toA t).length*64≤3*64:=xJ _ this
 omega
theorem jy {t:Tr} {n:Nat} {c:List Nat} (h:Wx n t c) (e:isAt t=false):tA t= []:=by
 rcases fu h with ⟨_,e'⟩|⟨_,e',_⟩
 · rw [e] at e';cases e'
 · unfold tA;rw [e'];rfl
theorem ny {n:Nat} {t:Tr} {c:List Nat} (h:Wx n t c) (e:isAt t=true):Ak t:=by
 rcases fu h with ⟨a,_⟩|⟨e',_⟩
 · exact a
 · rw [e] at e';cases e'
theorem cP {t:Tr} {c:List Nat} (h:Wy 3 t c):((allN 3 t).flatMap tA).length≤12288:=by
 have h1:=cr (B:=192) (l:=allN 3 t) (f:=tA) fun u m=>by
  obtain ⟨a,b,_,hu,_⟩:=cA h u m
  cases e:isAt u with
  |true=>exact oO (ny hu.wx e)
  |false=>rw [jy hu.wx e];exact xz _
 have h2:=cu h
 have e:4^3=64:=by decide
 have:(allN 3 t).length*192≤64*192:=xJ _ (by omega)
 omega
theorem kr {t:Tr} {c:List Nat} (h:Wy 3 t c):Fs.firsts [] (((Fs.firsts [] (allN 3 t)).filter isAt).flatMap tA)=Fs.firsts [] ((allN 3 t).flatMap tA):=by
 have e1:((Fs.firsts [] (allN 3 t)).filter isAt).flatMap tA=(Fs.firsts [] (allN 3 t)).flatMap tA:=by
  have:∀L:List Tr,(∀u∈L,isAt u=false→tA u= [])→(L.filter isAt).flatMap tA=L.flatMap tA:=by
   intro L
   induction L with
   |nil=>intro _;rfl
   |cons x L ih=>
    intro hL
    have i1:=ih fun u m=>hL u (x6 _ m)
    rw [yq]
    cases e:isAt x with
    |true=>simp only [if_true,xS,i1]
    |false=>simp only [xp,if_false,xS,i1,hL x x5 e,List.nil_append]
  refine this _ fun u m e=> ?_
  obtain ⟨a,b,_,hu⟩:=dh h u m
  exact jy hu.wx e
 rw [e1,Fs.firsts_flat]
 rfl
section
variable {P:Program} {w:World} {K:PySem.W.Frag} {mg:Str→Option Value} {base:Heap}
def oZ:Sp:=fun vs H Q _=>∃(v:V) (t:Tr) (c:List Nat),vs= [v]∧TrAt H v t∧Wy 3 t c∧∀L H' ws,H L=none→Same H H'→H' L=some (.lst ws)→TrsAt H' ws (Fs.firsts [] ((allN 3 t).flatMap tA))→Q (.ref L) H'
theorem scTin:ay ["wish","found","atom","term","inner"] ["wish"] (ai sTin):=⟨rfl,rfl,rfl,by decide +kernel,rfl,by decide +kernel,by decide +kernel⟩
theorem uT {f fA fT fW fS:Addr} {fd dA dT dW dS:FuncData} (F:Fun K "terms_in" "terms_in" sTin f fd) (B:Blt mg)
 (gA:FnOk P w K mg base CX0 26 fA dA ["wish"] lU) (kA:PySem.W.keepIn K (.ref fA)=true) (bA:Binds K dA ["wish"] []) (mA:mg "atoms_in"=some (.ref fA))
 (gT:FnOk P w K mg base CX0 1 fT dT ["atom"] oY) (kT:PySem.W.keepIn K (.ref fT)=true) (bT:Binds K dT ["atom"] []) (mT:mg "terms_of_atom"=some (.ref fT))
 (gW:FnOk P w K mg base CX0 14 fW dW ["term"] oV) (kW:PySem.W.keepIn K (.ref fW)=true) (bW:Binds K dW ["term"] []) (mW:mg "within"=some (.ref fW))
 (gS:FnOk P w K mg base CX0 9 fS dS ["term"] (spSt 8)) (kS:PySem.W.keepIn K (.ref fS)=true) (bS:Binds K dS ["term"] []) (mS:mg "shown_term"=some (.ref fS)):
 FnOk P w K mg base CX0 27 f fd ["wish"] oZ:=by
 refine F.ok scTin (fun vs H Q E h=> ?_) (fun cdv A outer s H vs Q E hr h=> ?_)
 · obtain ⟨v,t,c,rfl,_⟩:=h
   rfl
 obtain ⟨v,t,c,rfl,hv,hw,k⟩:=h
 have hr1:Room 1 _:=hr.mono (by decide)
 have hr9:Room 9 _:=hr.mono (by decide)
 have hr14:Room 14 _:=hr.mono (by decide)
 have hr26:Room 26 _:=hr.mono (by decide)
 refine ⟨_,ag (ar (i:=1) scTin.nd rfl (Or.inl rfl) dR)
  (ag (b9 PassesOwn.never rfl (b8 (ah gA hr26 rfl mA kA bA .nil am (a9 (pv 0) aa))) (aA (i:=2) scTin.nd rfl (Or.inl rfl))
   (aj (b9 PassesOwn.never rfl (b8 (ah gT hr1 rfl mT kT bT .nil am (a9 (pv 2) aa))) (aA (i:=3) scTin.nd rfl (Or.inl rfl))
    (aj (b9 PassesOwn.never rfl (b8 (ah gW hr14 rfl mW kW bW .nil am (a9 (pv 3) aa))) (aA (i:=4) scTin.nd rfl (Or.inl rfl))
     (aj (aZ (cq PySem.F.plainAttrs_dict PySem.F.slot_dict_setdefault PySem.F.type_dict_setdefault di (pv 1) (a9 (ah gS hr9 rfl mS kS bS .nil am (a9 (pv 4) aa)) (a9 (pv 4) aa))))))))))
  (aj (ao (aU (dG rfl) rfl B.li PyProof.Rows.boot_list (a9 (eV PySem.F.plainAttrs_dict PySem.F.slot_dict_values PySem.F.type_dict_values df (pv 1)) aa))))),?_⟩
 have hL20:(20000:Nat)≤sizeLine:=by decide +kernel
 have hbig:=cP hw
 intro d nd
 have s1:Same H (upd H d (.dK [])):=af nd
 have hd1:(upd H d (.dK [])) d=some (.dK []):=ac
 generalize upd H d (.dK [])=H1 at s1 hd1 ⊢
 refine ⟨_,rfl,v,t,c,rfl,hv.mono (Kd.of_same s1),hw,fun la H2 as nla s2 hla has=>⟨la,rfl,⟨as,SqL.of hla⟩,?_⟩⟩
 have hd2:=s2 _ _ hd1
 have lad:la≠d:=fun q=>by rw [q,hd1] at nla;cases nla
 have asl:=has.len
 generalize hAts:(Fs.firsts [] (allN 3 t)).filter isAt=ats at has asl
 have hak:∀u∈ats,Ak u:=fun u m=>by
  rw [←hAts] at m
  obtain ⟨m1,m2⟩:=xY.mp m
  obtain ⟨_,_,_,hu⟩:=dh hw u m1
  exact ny hu.wx m2
 have hatl:ats.length≤64:=by
  have h1:=yc isAt (Fs.firsts [] (allN 3 t))
  have h2:=Fs.firsts_len (allN 3 t) []
  have h3:=cu hw
  have e:4^3=64:=by decide
  rw [hAts] at h1
  simp only [xP] at h2
  omega
 have hbig2:(ats.flatMap tA).length≤12288:=by
  have h1:=cr (B:=192) (l:=ats) (f:=tA) fun u m=>oO (hak u m)
  have:ats.length*192≤64*192:=xJ _ hatl
  omega
 have fsl:∀l:List Tr,(Fs.firsts ([]:List Tr) l).length≤l.length:=fun l=>by have:=Fs.firsts_len l [];simpa using this
 refine bh (xs:=as) (fun i σ H'=>(∃v2 v3 v4,σ= [some v,some (.ref d),v2,v3,v4])∧But1 d H2 H'∧∃kvs,H' d=some (.dK kvs)∧DictT H' kvs (Fs.firsts [] ((ats.take i).flatMap tA)))
  ⟨⟨none,none,none,rfl⟩,fun x o _ e=>e,[],hd2, .nil⟩ (fun i σ H' _ p=>SqL.of (p.2.1 _ _ lad hla)) ?_ ?_
 · rintro i x σ H3 ex ⟨⟨v2,v3,v4,rfl⟩,b3,kvs3,hd3,hD3⟩
   obtain ⟨u,eu,hu⟩:=has.get' ex
   have mu:=xa eu
   have hu3:=hu.mono (b3.kd hd2)
   have hle:=cH ats tA (i+1)
   rw [aN eu,x3] at hle
   refine ⟨_,rfl,x,u,rfl,hu3,hak u mu,fun lt H4 ts nlt s4 hlt hts=>⟨lt,rfl,⟨ts,SqL.of hlt⟩,?_⟩⟩
   have hd4:=s4 _ _ hd3
   have ltd:lt≠d:=fun q=>by rw [q,hd3] at nlt;cases nlt
   have tsl:=hts.len
   have hgn:=(hak u mu).toA.2
   refine bh (xs:=ts) (fun j σ H'=>(∃v3 v4,σ= [some v,some (.ref d),some x,v3,v4])∧But1 d H4 H'∧∃kvs,H' d=some (.dK kvs)∧DictT H' kvs (Fs.firsts (Fs.firsts [] ((ats.take i).flatMap tA)) (((toA u).take j).flatMap (allT 3))))
    ⟨⟨v3,v4,rfl⟩,fun x o _ e=>e,kvs3,hd4,hD3.mono (Kd.of_same s4)⟩ (fun j σ H' _ p=>SqL.of (p.2.1 _ _ ltd hlt)) ?_ ?_
   · rintro j y σ H5 ey ⟨⟨v3,v4,rfl⟩,b5,kvs5,hd5,hD5⟩
     obtain ⟨z,ez,hz⟩:=hts.get' ey
     have mz:=xa ez
     have gz:=hgn z mz
     have hz5:=hz.mono (b5.kd hd4)
     have hle2:=cH (toA u) (allT 3) (j+1)
     rw [aN ez,x3] at hle2
     have hle3:((toA u).flatMap (allT 3)).length=(tA u).length:=rfl
     refine ⟨_,rfl,y,z,rfl,hz5,gz,fun li H6 is nli s6 hli his=>⟨li,rfl,⟨is,SqL.of hli⟩,?_⟩⟩
     have hd6:=s6 _ _ hd5
     have lid:li≠d:=fun q=>by rw [q,hd5] at nli;cases nli
     have isl:=his.len
     have gin:∀u∈Fs.firsts [] (allT 3 z),Gn 3 u:=fun u m=>by
      rcases Fs.mem_fst.mp m with h|h
      · cases h
      · exact (fY gz u h).1
     refine bh (xs:=is) (fun l σ H'=>(∃v4,σ= [some v,some (.ref d),some x,some y,v4])∧But1 d H6 H'∧∃kvs,H' d=some (.dK kvs)∧DictT H' kvs (Fs.firsts (Fs.firsts (Fs.firsts [] ((ats.take i).flatMap tA)) (((toA u).take j).flatMap (allT 3))) ((Fs.firsts [] (allT 3 z)).take l)))
      ⟨⟨v4,rfl⟩,fun x o _ e=>e,kvs5,hd6,hD5.mono (Kd.of_same s6)⟩ (fun l σ H' _ p=>SqL.of (p.2.1 _ _ lid hli)) ?_ ?_
     · rintro l q σ H7 eq' ⟨⟨v4,rfl⟩,b7,kvs7,hd7,hD7⟩
       obtain ⟨g,eg,hg⟩:=his.get' eq'
       have gg:=gin g (xa eg)
       have hg7:=hg.mono (b7.kd hd6)
       have gd:=gg.dep
       have gl:=gg.len
       have e832:13*4^3=832:=by decide
       have acl:(Fs.firsts (Fs.firsts (Fs.firsts [] ((ats.take i).flatMap tA)) (((toA u).take j).flatMap (allT 3))) ((Fs.firsts [] (allT 3 z)).take l)).length < 20000:=by
        have a1:=Fs.firsts_len ((Fs.firsts [] (allT 3 z)).take l) (Fs.firsts (Fs.firsts [] ((ats.take i).flatMap tA)) (((toA u).take j).flatMap (allT 3)))
        have a2:=Fs.firsts_len (((toA u).take j).flatMap (allT 3)) (Fs.firsts [] ((ats.take i).flatMap tA))
        have a3:=fsl ((ats.take i).flatMap tA)
        have a4:=fsl (allT 3 z)
        rw [xM] at a1
        omega
       refine ⟨_,rfl, .inr (.inr (.inl ⟨rfl, .inl ⟨kvs7,hd7⟩⟩)),_,rfl,q,g,rfl,hg7,gg.gm.ty,by omega,by omega,fun zs H8 s8 ezs=>⟨_,rfl,?_⟩⟩
       have hd8:=s8 _ _ hd7
       have hD8:=hD7.mono (Kd.of_same s8)
       have hg8:=hg7.mono (Kd.of_same s8)
       have bb:But1 d H6 H8:=b7.trans (But1.of_same s8)
       refine ⟨d,kvs7,Sum.inr zs,q,rfl,rfl,hd8,by rw [hD8.len];omega,fun y' hy=> ?_,fun hy=> ?_⟩
       · have mt:g∈_:=Classical.byContradiction fun no=>by rw [(hD8.none_iff gg ezs).mpr no] at hy;cases hy
         refine ⟨⟨_,rfl⟩,bb,kvs7,hd8,?_⟩
         rw [Fs.firsts_take eg,Fs.add_in mt]
         exact hD8
       · have mo:=(hD8.none_iff gg ezs).mp hy
         have tp2:Kd H8 (upd H8 d (.dK (kvs7++ [(Sum.inr zs,q)]))):=Dj.Kd.updK hd8
         refine ⟨⟨_,rfl⟩,bb.trans fun x o nx e=>by rw [aG nx];exact e,_,ac,?_⟩
         rw [Fs.firsts_take eg,Fs.add_out mo]
         exact Paired.snoc (hD8.mono tp2) ⟨zs,rfl,gg,ezs,hg8.mono tp2⟩
     · rintro σ H7 ⟨⟨v4,rfl⟩,b7,kvs7,hd7,hD7⟩
       rw [isl,xH,Fs.firsts_idem] at hD7
       refine ⟨⟨_,_,rfl⟩,(b5.trans (But1.of_same s6)).trans b7,kvs7,hd7,?_⟩
       rw [aN ez,Fs.firsts_app]
       exact hD7
   · rintro σ H5 ⟨⟨v3,v4,rfl⟩,b5,kvs5,hd5,hD5⟩
     rw [tsl,xH] at hD5
     refine ⟨⟨_,_,_,rfl⟩,(b3.trans (But1.of_same s4)).trans b5,kvs5,hd5,?_⟩
     rw [aN eu,Fs.firsts_app]
     exact hD5
 · rintro σ H3 ⟨⟨v2,v3,v4,rfl⟩,b3,kvs3,hd3,hD3⟩
   rw [asl,xH,←hAts,kr hw] at hD3
   refine ⟨_,rfl, .inr (.inr (.inl ⟨rfl, .inl ⟨kvs3,hd3⟩⟩)),d,kvs3,rfl,rfl,hd3,fun x nx=> ?_⟩
   have s3:Same H3 (upd H3 x (cv x d)):=af nx
   refine ⟨x,d,kvs3,rfl,ac,s3 _ _ hd3,fun l nl=> ?_⟩
   have bH:∀y o,H y=some o→H3 y=some o:=fun y o e=>b3 y o (aJ e nd) (s2 _ _ (s1 _ _ e))
   have sH:Same H (upd (upd H3 x (cv x d)) l (.lst (kvs3.map (·.2)))):=fun y o e=>af nl _ _ (s3 _ _ (bH y o e))
   refine k l _ _ ?_ sH ac (hD3.vals.mono (Kd.of_same (s3.trans (af nl))))
   have n2:=s3.free nl
   cases e:H l with
   |none=>rfl
   |some o=>rw [bH l o e] at n2;cases n2
end
end K09
namespace K09
open PySem L2 Mth Tre Wd
section
variable {P:Program} {w:World} {K:PySem.W.Frag} {mg:Str→Option Value} {base:Heap}
def T59:Int:=10^59
def iU:Sp:=fun vs H Q _=>∃(f c:Addr) (m:Int),vs= [.ref f, .int m]∧FeedAt H f c∧0≤m∧m≤2*T59∧∀(r:Int) (H':Hp),0≤r→r≤m→FeedAt H' f c→Keep f c H H'→Q (.int r) H'
theorem scG:ay ["_law_feed_here","_law_most","_law_number","_law_k"] ["_law_feed_here","_law_most"] (ai cU):=⟨rfl,rfl,rfl,by decide +kernel,rfl,by decide +kernel,by decide +kernel⟩
theorem wV {m:Int} (h0:0≤m) (h1:m≤2*T59):Big (m+1):=by
 have e:(2*T59+1).natAbs < 2^8000:=by decide +kernel
 unfold Big
 have:(m+1).natAbs≤(2*T59+1).natAbs:=by omega
 exact xO this e
theorem jH {f fD:Addr} {fd fdD:FuncData} (F:Fun K "_law_great" "_law_great" cU f fd) (FD:Fun K "_law_draw" "_law_draw" cV fD fdD) (bD:Binds K fdD ["_law_feed_here","_law_many"] []) (mD:mg "_law_draw"=some (.ref fD)) (B:Blt mg):
 FnOk P w K mg base CX0 2 f fd ["_law_feed_here","_law_most"] iU:=by
 have GD:FnOk P w K mg base CX0 1 fD fdD ["_law_feed_here","_law_many"] bZ:=de FD B
 refine F.ok scG (fun vs H Q E h=> ?_) (fun cdv A outer s H vs Q E hr h=> ?_)
 · obtain ⟨f,c,m,rfl,_⟩:=h
   rfl
 · obtain ⟨f,c,m,rfl,hF,m0,m1,k⟩:=h
   obtain ⟨cells,b,n,hf,hc,l0,l63,nfc⟩:=id hF
   refine ⟨_,ag (aP (au aS (aq ix_list (pv 0) ae fun _ _=>rfl) ae (aB _)) (aj (ao (ah GD hr rfl mD FD.kp bD .nil am (a9 (pv 0) (a9 (aw ba (pv 1) ae) aa))))) az)
    (ag (ar (i:=2) scG.nd rfl (Or.inl rfl) ae)
    (ag (b9 PassesOwn.never rfl (bn rfl B.ra (a9 ae aa)) (aA (i:=3) scG.nd rfl (Or.inl rfl))
     (aj (ar (i:=2) scG.nd rfl (Or.inl rfl) (aw ba (aw eX (pv 2) (aw j6 ae ae)) (ah GD hr rfl mD FD.kp bD .nil am (a9 (pv 0) (a9 (aw j6 ae ae) aa)))))))
    (aj (ao (aw cf (pv 2) (aw ba (pv 1) ae)))))),?_⟩
   refine ⟨_,rfl,f,_,1, .int b,rfl,rfl,SqL.of hf,rfl,rfl,_,rfl,?_⟩
   refine ite2 (fun _=> ?_) (fun _=> ?_)
   · refine ⟨_,rfl,_,rfl,m,1,rfl,rfl,f,c,m+1,rfl,hF,by omega,wV m0 m1,fun r H' r0 r1 hF' kp=> ?_⟩
     exact k r H' r0 (by omega) hF' kp
   · refine ⟨7,rfl,by decide,by decide,cG (lo:=0) (n:=7) (fun _ σ H'=>FeedAt H' f c∧Keep f c H H'∧∃(x:Int) (v:Option V),σ= [some (.ref f),some (.int m),some (.int x),v]) ⟨hF,Keep.refl,0,none,rfl⟩ ?_ ?_⟩
     · rintro i σ H1 hi ⟨hF1,kp1,x,v,rfl⟩
       refine ⟨_,rfl,10,9,rfl,rfl,⟨by decide,by decide,by decide⟩,x,_,rfl,rfl, .inr ⟨by decide,by decide⟩,_,rfl,10,9,rfl,rfl,⟨by decide,by decide,by decide⟩,f,c,_,rfl,hF1,by decide,by show ((10:Int)^(9:Int).toNat).natAbs < 2^8000;decide +kernel,fun r H2 r0 r1 hF2 kp2=> ?_⟩
       exact ⟨_,_,rfl,rfl,hF2,kp1.trans kp2,_,_,rfl⟩
     · rintro σ H1 ⟨hF1,kp1,x,v,rfl⟩
       refine ⟨_,rfl,_,rfl,m,1,rfl,rfl,x,m+1,rfl,rfl,by omega,?_⟩
       have q1:x%(m+1) < m+1:=Int.emod_lt_of_pos _ (by omega)
       exact k _ _ (Int.emod_nonneg _ (by omega)) (by omega) hF1 kp1
def gh:Sp:=fun vs H Q _=>∃(t b:Int),vs= [.int t, .int b]∧0 < b∧Big (Int.gcd t b:Int)∧∀(r:Addr) (H':Hp),H r=none→H'=upd H r (.tup [.int (t / (Int.gcd t b:Int)), .int (b / (Int.gcd t b:Int))])→Q (.ref r) H'
theorem scLo:ay ["_law_top","_law_bottom","_law_one","_law_other","_law_rest"] ["_law_top","_law_bottom"] (ai sLow):=⟨rfl,rfl,rfl,by decide +kernel,rfl,by decide +kernel,by decide +kernel⟩
theorem l8 {f:Addr} {fd:FuncData} (F:Fun K "_law_lowest" "_law_lowest" sLow f fd) (B:Blt mg):FnOk P w K mg base CX0 1 f fd ["_law_top","_law_bottom"] gh:=by
 refine F.ok scLo (fun vs H Q E h=> ?_) (fun cdv A outer s H vs Q E hr h=> ?_)
 · obtain ⟨t,b,rfl,_⟩:=h
   rfl
 · obtain ⟨t,b,rfl,b0,bg,k⟩:=h
   refine ⟨_,ag (ar (i:=2) scLo.nd rfl (Or.inl rfl) (aE km rfl B.ab ko (a9 (pv 0) aa)))
    (ag (ar (i:=3) scLo.nd rfl (Or.inl rfl) (pv 1))
    (ag (jE PassesOwn.never (au ub (pv 3) ae (aB _))
     (ag (ar (i:=4) scLo.nd rfl (Or.inl rfl) (aw cf (pv 2) (pv 3)))
     (ag (ar (i:=2) scLo.nd rfl (Or.inl rfl) (pv 3)) (aj (ar (i:=3) scLo.nd rfl (Or.inl rfl) (pv 4))))))
    (aj (ao (bJ (a9 (aw dX (pv 0) (pv 2)) (a9 (aw dX (pv 1) (pv 2)) aa))))))),?_⟩
   refine ⟨_,rfl,t,rfl,_,rfl,?_⟩
   have ea:(if t < 0 then -t else t)=(t.natAbs:Int):=by split<;>omega
   rw [ea]
   have g0:0 < Int.gcd t b:=ye t (by omega)
   refine js (fun σ H'=>H'=H∧∃(x y:Nat) (v:Option V),σ= [some (.int t),some (.int b),some (.int x),some (.int y),v]∧Nat.gcd x y=Int.gcd t b) (fun σ _=>match σ with| [_,_,_,some (.int y),_]=>y.natAbs|_=>0)
    ⟨rfl,t.natAbs,b.natAbs,none,by rw [show ((b.natAbs:Nat):Int)=b by omega];rfl,rfl⟩ ?_ ?_
   · rintro σ H' ⟨rfl,x,y,v,rfl,e⟩
     refine ⟨_,rfl,_,0,rfl,rfl,_,rfl,?_⟩
     by_cases z:(0:Int) < (y:Int)
     · rw [decide_eq_true z]
       refine iteT ?_
       refine ⟨_,rfl,_,rfl,x,y,rfl,rfl,z,_,rfl,_,rfl,?_⟩
       have hm:((x:Int)%(y:Int))=((x%y:Nat):Int):=by simp
       refine ⟨⟨rfl,y,x%y,some (.int ((x%y:Nat):Int)),?_,?_⟩,?_⟩
       · show [some (V.int t),some (V.int b),some (V.int (y:Int)),some (V.int ((x:Int)%(y:Int))),some (V.int ((x:Int)%(y:Int)))]=_
         rw [hm]
       · rw [←e,Nat.gcd_comm x y,Nat.gcd_rec y x,Nat.gcd_comm]
       · show ((x:Int)%(y:Int)).natAbs < (y:Int).natAbs
         rw [hm]
         have:=Nat.mod_lt x (show 0 < y by omega)
         omega
     · rw [decide_eq_false z]
       refine iteF ?_
       have y0:y=0:=by omega
       subst y0
       rw [Nat.gcd_zero_right] at e
       subst e
       refine ⟨_,rfl,_,rfl,t,_,rfl,rfl,⟨by omega,bg⟩,_,rfl,_,rfl,b,_,rfl,rfl,⟨by omega,bg⟩,by show 2≤sizeLine;decide,fun r hr'=> ?_⟩
       exact k r _ hr' rfl
   · intro σ H' R R' hR h
     obtain ⟨v,e1,i,j,e2,e3,q,e4,h⟩:=h
     exact ⟨v,e1,i,j,e2,e3,q,e4,hR _ _ h⟩
end
open PySem L2 Mth Tre Wd
section
variable {P:Program} {w:World} {K:PySem.W.Frag} {mg:Str→Option Value} {base:Heap}
def p4:Sp:=fun vs H Q _=>∃(f c:Addr),vs= [.ref f]∧FeedAt H f c∧∀(v:V) (H':Hp) (p:Fr),FeedAt H' f c→But f c H H'→TrAt H' v (frT p)→Gf 30 p→hJ p.1 p.2→Q v H'
theorem scSml:ay ["_law_feed_here","_law_most","_law_top"] ["_law_feed_here"] (ai eN):=⟨rfl,rfl,rfl,by decide +kernel,rfl,by decide +kernel,by decide +kernel⟩
def TSml:Int:=10^6
theorem tSml:(60:Int)≤TSml∧TSml≤T59∧(TSml+10).natAbs < 2^30:=by decide +kernel
theorem vb {f fD fG fL:Addr} {fd fdD fdG fdL:FuncData} (F:Fun K "_law_small" "_law_small" eN f fd) (FD:Fun K "_law_draw" "_law_draw" cV fD fdD) (bD:Binds K fdD ["_law_feed_here","_law_many"] []) (mD:mg "_law_draw"=some (.ref fD))
 (FG:Fun K "_law_great" "_law_great" cU fG fdG) (bG:Binds K fdG ["_law_feed_here","_law_most"] []) (mG:mg "_law_great"=some (.ref fG)) (FL:Fun K "_law_lowest" "_law_lowest" sLow fL fdL) (bL:Binds K fdL ["_law_top","_law_bottom"] []) (mL:mg "_law_lowest"=some (.ref fL)) (B:Blt mg):
 FnOk P w K mg base CX0 3 f fd ["_law_feed_here"] p4:=by
 have GD:FnOk P w K mg base CX0 1 fD fdD ["_law_feed_here","_law_many"] bZ:=de FD B
 have GG:FnOk P w K mg base CX0 2 fG fdG ["_law_feed_here","_law_most"] iU:=jH FG FD bD mD B
 have GL:FnOk P w K mg base CX0 1 fL fdL ["_law_top","_law_bottom"] gh:=l8 FL B
 refine F.ok scSml (fun vs H Q E h=> ?_) (fun cdv A outer s H vs Q E hr h=> ?_)
 · obtain ⟨f,c,rfl,_⟩:=h
   rfl
 obtain ⟨f,c,rfl,hF,k⟩:=h
 have hr1:Room 1 _:=hr.mono (by decide)
 refine ⟨_,ag (ar (i:=1) scSml.nd rfl (Or.inl rfl) (aq ix_list (aL (a9 ae (a9 ae (a9 ae (a9 ae (a9 (aw j6 ae ae) aa)))))) (ah GD hr1 rfl mD FD.kp bD .nil am (a9 (pv 0) (a9 ae aa))) fun _ _=>rfl))
  (ag (ar (i:=2) scSml.nd rfl (Or.inl rfl) (aw eW (ah GG hr rfl mG FG.kp bG .nil am (a9 (pv 0) (a9 (aw eX ae (pv 1)) aa))) (pv 1)))
  (aj (ao (ah GL hr1 rfl mL FL.kp bL .nil am (a9 (pv 2) (a9 (aq ix_list (aL (a9 ae (a9 (aw ba ae (ah GG hr rfl mG FG.kp bG .nil am (a9 (pv 0) (a9 (aw eW (pv 1) ae) aa)))) aa)))
   (ah GD hr1 rfl mD FD.kp bD .nil am (a9 (pv 0) (a9 ae aa))) fun _ _=>rfl) aa)))))),?_⟩
 obtain ⟨t60,t589,tbig⟩:=tSml
 refine c8 (fun σ' H'=>∃most:Int,0 < most∧most≤TSml∧FeedAt H' f c∧But f c H H'∧σ'= [some (.ref f),some (.int most),none]) ?_ fun nx hnx=> ?_
 rotate_left
 · refine ⟨10,6,rfl,rfl,⟨by decide,by decide,by decide⟩,by show 5≤sizeLine;decide,fun p hp=> ?_⟩
   obtain ⟨npf,npc⟩:=hF.ne hp
   refine ⟨_,rfl,f,c,5,rfl,hF.same (af hp),by decide,aV (by decide) (by decide),fun r H1 r0 r1 hF1 kp1=> ?_⟩
   have hp1:H1 p=some (.lst [.int 3, .int 3, .int 3, .int 60, .int ((10:Int)^(6:Int).toNat)]):=(kp1 p npf npc).trans ac
   have b1:But f c H H1:=(But.of_same (af hp)).trans (But.of_keep kp1)
   have r3:r=0∨r=1∨r=2∨r=3∨r=4:=by omega
   rcases r3 with rfl|rfl|rfl|rfl|rfl
   · exact ⟨p,_,0, .int 3,rfl,rfl,SqL.of hp1,rfl,hnx _ _ ⟨3,by decide,by omega,hF1,b1,rfl⟩⟩
   · exact ⟨p,_,1, .int 3,rfl,rfl,SqL.of hp1,rfl,hnx _ _ ⟨3,by decide,by omega,hF1,b1,rfl⟩⟩
   · exact ⟨p,_,2, .int 3,rfl,rfl,SqL.of hp1,rfl,hnx _ _ ⟨3,by decide,by omega,hF1,b1,rfl⟩⟩
   · exact ⟨p,_,3, .int 60,rfl,rfl,SqL.of hp1,rfl,hnx _ _ ⟨60,by decide,by omega,hF1,b1,rfl⟩⟩
   · exact ⟨p,_,4, .int TSml,rfl,rfl,SqL.of hp1,rfl,hnx _ _ ⟨TSml,by omega,by omega,hF1,b1,rfl⟩⟩
 rintro σ' H1 ⟨most,h0,h1,hF1,b1,rfl⟩
 refine ⟨_,rfl,_,rfl,2,most,rfl,rfl, .inl ⟨by decide,by decide⟩,f,c,2*most,rfl,hF1,by omega,by omega,fun r2 H2 s0 s1 hF2 kp2=> ?_⟩
 refine ⟨_,rfl,r2,most,rfl,rfl,?_⟩
 refine ⟨_,rfl,_,rfl,_,rfl,_,_,rfl,rfl,f,c,most - 1,rfl,hF2,by omega,by omega,fun r3 H3 u0 u1 hF3 kp3=> ?_⟩
 refine ⟨1,r3,rfl,rfl,by show 2≤sizeLine;decide,fun p3 hp3=> ?_⟩
 obtain ⟨np3,nc3⟩:=hF3.ne hp3
 refine ⟨_,rfl,f,c,2,rfl,hF3.same (af hp3),by decide,aV (by decide) (by decide),fun r4 H4 w0 w1 hF4 kp4=> ?_⟩
 have hp4:H4 p3=some (.lst [.int 1, .int (1+r3)]):=(kp4 p3 np3 nc3).trans ac
 have b4:But f c H H4:=b1.trans ((But.of_keep kp2).trans ((But.of_keep kp3).trans ((But.of_same (af hp3)).trans (But.of_keep kp4))))
 have fin:∀y:Int,0 < y→y≤TSml+1→(gh [.int (r2 - most), .int y] H4 Q E0):=by
  intro y y0 y1
  have lx:Lt2 30 (r2 - most):=xO (show (r2 - most).natAbs≤(TSml+10).natAbs by omega) tbig
  have ly:Lt2 30 y:=xO (show y.natAbs≤(TSml+10).natAbs by omega) tbig
  have bg:Big (Int.gcd (r2 - most) y:Int):=jo (ly.big (by decide)) (by omega)
  refine ⟨_,y,rfl,y0,bg,fun r' H5 hr' e5=> ?_⟩
  subst e5
  obtain ⟨x',y',ex,ey,g1,qx,qy⟩:=c9 (x:=r2 - most) (y:=y) (by omega)
  have s5:=af (o:= .tup [.int ((r2 - most) / (Int.gcd (r2 - most) y:Int)), .int (y / (Int.gcd (r2 - most) y:Int))]) hr'
  have lx':=lx.div (y:=(Int.gcd (r2 - most) y:Int))
  have ly':=ly.div (y:=(Int.gcd (r2 - most) y:Int))
  rw [qx] at lx'
  rw [qy] at ly'
  rw [qx,qy] at s5 ⊢
  have y0':0 < y':=bV (k:=(Int.gcd (r2 - most) y:Int)) (by omega) (by omega)
  exact k (.ref r') _ (x',y') (hF4.same s5) (b4.trans (But.of_same s5)) (fU ac) ⟨y0',lx',ly'⟩ ⟨y0',g1⟩
 have r2c:r4=0∨r4=1:=by omega
 rcases r2c with rfl|rfl
 · exact ⟨p3,_,0, .int 1,rfl,rfl,SqL.of hp4,rfl,fin 1 (by decide) (by omega)⟩
 · exact ⟨p3,_,1, .int (1+r3),rfl,rfl,SqL.of hp4,rfl,fin (1+r3) (by omega) (by omega)⟩
end
end K09
namespace K09
open PySem L2 Trm Tre Wd
def Wd (n:Nat) (x:Str):Prop:=x.length=n∧∀c∈cl x,Ltr c
abbrev abc:Str:=Str.ofString "abcdefghijklmnopqrstuvwxyz"
theorem rG {i:Int} (h0:0≤i) (h1:i < 26):∃c,atI abc.cps.toList i=some c∧Ltr c:=by
 obtain ⟨j,rfl⟩:∃j:Nat,i=(j:Int):=⟨i.toNat,by omega⟩
 have e:abc.cps.toList=(List.range 26).map (97+ ·):=by decide +kernel
 refine ⟨97+j,bf ?_,?_⟩
 · rw [e,xw,List.getElem?_range (by omega)]
   rfl
 · unfold Ltr
   omega
theorem nE:abc.length≤sizeLine:=by decide +kernel
theorem kE {c:Nat} (h:Ltr c):Wd 1 ⟨#[c]⟩:=⟨rfl,fun d m=>by
 have m:d∈ [c]:=m
 rw [x8.mp m]
 exact h⟩
theorem len_app (x y:Str):(x++y).length=x.length+y.length:=by rw [←aT,bR,x3,aT,aT]
theorem iH {m n:Nat} {x y:Str} (a:Wd m x) (b:Wd n y):Wd (m+n) (x++y):=by
 refine ⟨by rw [len_app,a.1,b.1],fun c h=> ?_⟩
 rw [bR] at h
 rcases xj.mp h with h|h
 · exact a.2 c h
 · exact b.2 c h
theorem ie {x:Str} {l u:Option Int} {c:Nat} (h:c∈cl (Txt.slice x l u)):c∈cl x:=by
 unfold Txt.slice at h
 split at h
 · exact h
 · have h':c∈List.filterMap (fun i=>x.cps[i]?) (Builtin.Str.strSliceIndices l u 1 x.length):=by simpa [cl] using h
   obtain ⟨i,_,e⟩:=List.mem_filterMap.mp h'
   unfold cl
   exact yf.mpr (Array.mem_of_getElem? e)
theorem om {n:Nat} {x:Str} {j:Int} (a:Wd n x) (h0:0≤j) (h:j≤n):Wd j.toNat (Txt.slice x none (some j)):=by
 refine ⟨?_,fun c m=>a.2 c (ie m)⟩
 have:=(PyProof.Rows.fact_slice_ns x j).1 h0 (by have:=a.1;omega)
 omega
theorem rL {n:Nat} {x:Str} {j:Int} (a:Wd n x) (h0:0≤j) (h:j≤n):Wd (n - j.toNat) (Txt.slice x (some j) none):=by
 refine ⟨?_,fun c m=>a.2 c (ie m)⟩
 have:=(PyProof.Rows.fact_slice_sn x j).1 h0 (by have:=a.1;omega)
 have:=a.1
 omega
theorem tP {n:Nat} {x:Str} (a:Wd n x) (h0:0 < n) (h8:n≤8):Nm x:=⟨by rw [a.1];exact h0,by rw [a.1];exact h8,a.2⟩
theorem rK:∀ {ys:List Str},(∀y∈ys,Wd 1 y)→Wd ys.length (Txt.join (Str.ofString "") ys)
 |ys,h=>by
  have e:Txt.join (Str.ofString "") ys=Str.join (Str.ofString "") ys:=StrLaws.glued_eq_join _ _
  rw [e]
  clear e
  induction ys with
  |nil=>exact ⟨rfl,fun c m=>by cases m⟩
  |cons y ys ih=>
   have h1:=h y x5
   have ih:=ih fun z m=>h z (x6 _ m)
   cases ys with
   |nil=>exact h1
   |cons z ys=>
    have e2:Str.join (Str.ofString "") (y::z::ys)=y++Str.ofString ""++Str.join (Str.ofString "") (z::ys):=rfl
    rw [e2,xh (a:=y),Nat.add_comm]
    exact iH (m:=1) (iH (n:=0) h1 ⟨by decide +kernel,fun c m=>by
     have e3:cl (Str.ofString "")= []:=by decide +kernel
     rw [e3] at m
     cases m⟩) ih
theorem jz:∀ {ys:List Str},(∀y∈ys,Wd 1 y)→(ys.map (·.length)).sum=ys.length
 | [],_=>rfl
 |y::ys,h=>by
  simp only [xg,List.sum_cons,xh]
  rw [jz fun z m=>h z (x6 _ m),(h y x5).1]
  omega
def Names (H:Hp) (nl:Addr):Prop:=∃ns:List Str,H nl=some (.lst (ns.map V.str))∧ns.length=6∧∀x∈ns,Nm x
theorem Names.at {H:Hp} {nl:Addr} (h:Names H nl) {i:Int} (h0:0≤i) (h6:i < 6):∃xs x,H nl=some (.lst xs)∧atI xs i=some (.str x)∧Nm x:=by
 obtain ⟨ns,e,l,w⟩:=h
 obtain ⟨j,rfl⟩:∃j:Nat,i=(j:Int):=⟨i.toNat,by omega⟩
 have hj:j < ns.length:=by omega
 exact ⟨_,ns[j],e,bf (by simp [hj]),w _ (y6 hj)⟩
theorem ut:∀x∈([Str.ofString "all",Str.ofString "not",Str.ofString "like",Str.ofString "most",Str.ofString "any",Str.ofString "equal"]:List Str),Nm x:=by
 have h:∀x∈([Str.ofString "all",Str.ofString "not",Str.ofString "like",Str.ofString "most",Str.ofString "any",Str.ofString "equal"]:List Str),0 < x.length∧x.length≤8∧∀c∈cl x,97≤c∧c≤122:=by decide +kernel
 exact fun x m=>⟨(h x m).1,(h x m).2.1,(h x m).2.2⟩
section
variable {P:Program} {w:World} {K:PySem.W.Frag} {mg:Str→Option Value} {base:Heap}
def lR:Sp:=fun vs H Q _=>∃(f c:Addr),vs= [.ref f]∧FeedAt H f c∧∀(r:Addr) (H':Hp),FeedAt H' f c→But f c H H'→H r=none→Names H' r→Q (.ref r) H'
noncomputable def nNm:List Str:= ["_law_feed_here","_law_letters","_law_base","_law_way","_law_at","_law_first","_law_size","_law_found","_law_k","_law_sign"]
theorem scNm:ay nNm ["_law_feed_here"] (ai eQ):=⟨rfl,rfl,rfl,by decide +kernel,rfl,by decide +kernel,by decide +kernel⟩
theorem qc {f fD:Addr} {fd fdD:FuncData} (F:Fun K "_law_names" "_law_names" eQ f fd) (B:Blt mg) (FD:Fun K "_law_draw" "_law_draw" cV fD fdD) (bD:Binds K fdD ["_law_feed_here","_law_many"] []) (mD:mg "_law_draw"=some (.ref fD)):
 FnOk P w K mg base CX0 2 f fd ["_law_feed_here"] lR:=by
 have GD:FnOk P w K mg base CX0 1 fD fdD ["_law_feed_here","_law_many"] bZ:=de FD B
 refine F.ok scNm (fun vs H Q E h=> ?_) (fun cdv A outer s H vs Q E hr h=> ?_)
 · obtain ⟨f,c,rfl,_⟩:=h
   rfl
 obtain ⟨f,c,rfl,hF,k⟩:=h
 refine ⟨_,ag (ar (i:=1) scNm.nd rfl (Or.inr rfl) aC)
  (ag (ar (i:=2) scNm.nd rfl (Or.inr rfl) (cq PySem.F.plainAttrs_str PySem.F.slot_str_join PySem.F.type_str_join mv aC (a9
   (br (NC:= ["_law_k","_law_feed_here","_law_letters"]) (mp:= [none,some 0,some 1]) rfl (bn rfl B.ra (a9 ae aa)) (fun _ _ _ _ _=>aA (i:=0) (show (["_law_k","_law_feed_here","_law_letters"]:List Str).Nodup by decide +kernel) rfl (Or.inl rfl)) (fun _ _ _ _ _=>bO)
    (fun _ _ _ _ _=>aq lA (pv 2) (ah GD hr rfl mD FD.kp bD .nil am (a9 (pv 1) (a9 ae aa))) fun _ _=>rfl)) aa)))
  (ag (ar (i:=3) scNm.nd rfl (Or.inl rfl) (ah GD hr rfl mD FD.kp bD .nil am (a9 (pv 0) (a9 ae aa))))
  (ag (aP (au aS (pv 3) ae (aB _)) (aj (ao
   (br (NC:= ["_law_k","_law_base"]) (mp:= [none,some 2]) rfl (bn rfl B.ra (a9 ae aa)) (fun _ _ _ _ _=>aA (i:=0) (show (["_law_k","_law_base"]:List Str).Nodup by decide +kernel) rfl (Or.inl rfl)) (fun _ _ _ _ _=>bO)
    (fun _ _ _ _ _=>cb iY (pv 1) db (cp (aw ba (pv 0) ae)))))) az)
  (ag (aP (au aS (pv 3) ae (aB _)) (aj (ao (aL (a9 aC (a9 aC (a9 aC (a9 aC (a9 aC (a9 aC aa))))))))) az)
  (ag (ar (i:=4) scNm.nd rfl (Or.inl rfl) (ah GD hr rfl mD FD.kp bD .nil am (a9 (pv 0) (a9 ae aa))))
  (ag (ar (i:=5) scNm.nd rfl (Or.inl rfl) (ah GD hr rfl mD FD.kp bD .nil am (a9 (pv 0) (a9 ae aa))))
  (ag (ar (i:=6) scNm.nd rfl (Or.inl rfl) (aq ix_list (aL (a9 ae (a9 (aw ba (pv 4) ae) aa))) (ah GD hr rfl mD FD.kp bD .nil am (a9 (pv 0) (a9 ae aa))) fun _ _=>rfl))
  (ag (ar (i:=7) scNm.nd rfl (Or.inl rfl) (aL aa))
  (ag (b9 PassesOwn.never rfl (bn rfl B.ra (a9 ae aa)) (aA (i:=8) scNm.nd rfl (Or.inl rfl))
   (ag (ar (i:=9) scNm.nd rfl (Or.inl rfl) (aq lA (pv 1) (aw cf (aw ba (pv 5) (pv 8)) ae) fun _ _=>rfl))
   (aj (aZ (cq PySem.F.plainAttrs_list PySem.F.slot_list_append PySem.F.type_list_append bN (pv 7) (a9 (cb iY (aw bv (aw bv (cb iY (pv 2) db (cp (pv 4))) (pv 9)) (cb iY (pv 2) (cp (pv 4)) db)) db (cp (pv 6))) aa))))))
  (aj (ao (pv 7)))))))))))),?_⟩
 have hL:(20000:Nat)≤sizeLine:=by decide +kernel
 refine ⟨rfl,?_⟩
 refine uw ?_
 refine bw rfl ?_
 refine ⟨7,rfl,by decide,by decide,fun D nD=> ?_⟩
 have nfD:=hF.ne nD
 refine cm (n:=7) (fun i acc H'=>FeedAt H' f c∧But f c H H'∧H' D=some (.lst acc)∧∃ys:List Str,acc=ys.map V.str∧ys.length=i∧∀y∈ys,Wd 1 y)
  ⟨hF.wr nfD,(But.of_same (Same.refl H)).wr nD,ac,[],rfl,rfl,fun y m=>by cases m⟩ ?_ ?_
 · rintro i acc H' hi ⟨hF',bt,hD,ys,rfl,hy,hw⟩
   refine ⟨_,rfl,_,rfl,f,c,26,rfl,hF',by decide,aV (by decide) (by decide),fun r H2 h0 h1 hF2 kp=> ?_⟩
   obtain ⟨d,ed,ld⟩:=rG h0 h1
   have hD2:H2 D=some (.lst (ys.map V.str)):=(kp D nfD.1 nfD.2).trans hD
   refine ⟨_,r,d,rfl,rfl,nE,ed,CompN.mk hi (by rw [wZ];omega) hD2 ⟨hF2.wr nfD,(bt.trans (But.of_keep kp)).wr nD,ac,ys++ [⟨#[d]⟩],by simp,by simp [hy],fun y m=> ?_⟩⟩
   rcases xj.mp m with m|m
   · exact hw y m
   · rw [x8.mp m]
     exact kE ld
 rintro acc H1 ⟨hF1,bt1,hD,ys,rfl,hy,hw⟩
 have hb:=rK hw
 rw [hy] at hb
 have e0:(Str.ofString "").length=0:=by decide +kernel
 refine ⟨_,D,ys,rfl,rfl,SqL.of hD,by rw [jz hw,hy,e0];decide,?_⟩
 generalize Txt.join (Str.ofString "") ys=bs at hb
 refine ⟨_,rfl,f,c,5,rfl,hF1,by decide,aV (by decide) (by decide),fun way H2 w0 w5 hF2 kp2=> ?_⟩
 have bt2:=bt1.trans (But.of_keep kp2)
 have hbs:bs.length≤sizeLine:=by rw [hb.1];omega
 refine ⟨_,rfl,rfl,_,rfl,?_⟩
 refine ite2 (fun _=> ?_) (fun _=> ?_)
 · refine lN ?_
   refine bw rfl ?_
   refine ⟨6,rfl,by decide,by decide,fun D2 nD2=> ?_⟩
   have nf2:=hF2.ne nD2
   have n0:=bt2.free hF2 nD2
   refine cm (n:=6) (fun i acc H'=>FeedAt H' f c∧But f c H H'∧H' D2=some (.lst acc)∧∃ys:List Str,acc=ys.map V.str∧ys.length=i∧∀y∈ys,Nm y)
    ⟨hF2.wr nf2,bt2.wr n0,ac,[],rfl,rfl,fun y m=>by cases m⟩ ?_ ?_
   · rintro i acc H' hi ⟨hF',bt,hD,ys,rfl,hy,hw⟩
     refine ⟨_,rfl,_,rfl,_,_,rfl,rfl,_,rfl,bs,rfl,hbs,CompN.mk hi (by rw [wZ];omega) hD ⟨hF'.wr nf2,bt.wr n0,ac,ys++ [Txt.slice bs none (some (0+(i:Int)+1))],by rw [xD];rfl,by simp [hy],fun y m=> ?_⟩⟩
     rcases xj.mp m with m|m
     · exact hw y m
     · rw [x8.mp m]
       exact tP (om hb (by omega) (by omega)) (by omega) (by omega)
   · rintro acc H3 ⟨hF3,bt3,hD3,ys,rfl,hy,hw⟩
     exact k D2 H3 hF3 bt3 n0 ⟨ys,hD3,hy,hw⟩
 refine ⟨_,rfl,rfl,_,rfl,?_⟩
 refine ite2 (fun _=> ?_) (fun _=> ?_)
 · refine ⟨by show 6≤sizeLine;decide,fun p np=> ?_⟩
   exact k p _ (hF2.wr (hF2.ne np)) (bt2.wr (bt2.free hF2 np)) (bt2.free hF2 np) ⟨_,ac,rfl,ut⟩
 refine ⟨_,rfl,f,c,8,rfl,hF2,by decide,aV (by decide) (by decide),fun at_ H3 a0 a8 hF3 kp3=> ?_⟩
 refine ⟨_,rfl,f,c,26,rfl,hF3,by decide,aV (by decide) (by decide),fun fi H4 f0 f26 hF4 kp4=> ?_⟩
 have bt4:=bt2.trans ((But.of_keep kp3).trans (But.of_keep kp4))
 refine ⟨_,rfl,_,_,rfl,rfl,by show 2≤sizeLine;decide,fun p np=> ?_⟩
 have nfp:=hF4.ne np
 have n0p:=bt4.free hF4 np
 refine ⟨_,rfl,f,c,2,rfl,hF4.wr nfp,by decide,aV (by decide) (by decide),fun wh H5 h0 h2 hF5 kp5=> ?_⟩
 have hp5:H5 p=some (.lst [.int 8, .int (at_+1)]):=(kp5 p nfp.1 nfp.2).trans ac
 have bt5:=(bt4.wr n0p (o:= .lst [.int 8, .int (at_+1)])).trans (But.of_keep kp5)
 obtain ⟨sz,e5,s0,s8⟩:∃sz:Int,atI [V.int 8, .int (at_+1)] wh=some (.int sz)∧0 < sz∧sz≤8:=by
  by_cases z:wh=0
  · subst z
    exact ⟨8,rfl,by decide,by decide⟩
  · have z:wh=1:=by omega
    subst z
    exact ⟨at_+1,rfl,by omega,by omega⟩
 refine ⟨p,_,wh,_,rfl,rfl,SqL.of hp5,e5,?_⟩
 refine ⟨by show 0≤sizeLine;decide,fun L nL=> ?_⟩
 have nfL:=hF5.ne nL
 have n0L:=bt5.free hF5 nL
 refine ⟨6,rfl,by decide,by decide,?_⟩
 refine cG (n:=6) (fun i σ H'=>FeedAt H' f c∧But f c H H'∧∃kk sg,∃ys:List Str,σ= [some (.ref f),some (.str abc),some (.str bs),some (.int way),some (.int at_),some (.int fi),some (.int sz),some (.ref L),kk,sg]∧H' L=some (.lst (ys.map V.str))∧ys.length=i∧∀y∈ys,Nm y)
  ⟨hF5.wr nfL,bt5.wr n0L,none,none,[],rfl,ac,rfl,fun y m=>by cases m⟩ ?_ ?_
 · rintro i σ H' hi ⟨hF',bt,kk,sg,ys,rfl,hL',hy,hw⟩
   have q0:(0:Int)≤(fi+(0+(i:Int)))%26:=Int.emod_nonneg _ (by omega)
   have q1:(fi+(0+(i:Int)))%26 < 26:=Int.emod_lt_of_pos _ (by omega)
   obtain ⟨d,ed,ld⟩:=rG q0 q1
   have w1:=om (j:=at_) hb a0 (by omega)
   have w2:=rL (j:=at_) hb a0 (by omega)
   have w3:=iH w1 (kE ld)
   have w4:=iH w3 w2
   have hsz:at_.toNat+1+(7 - at_.toNat)=8:=by omega
   rw [hsz] at w4
   refine ⟨_,rfl,_,rfl,_,rfl,_,_,rfl,rfl,_,26,rfl,rfl,(by show (0:Int) < 26;decide),_,_,d,rfl,rfl,nE,ed,?_⟩
   refine ⟨_,rfl, .inl ⟨rfl,_,SqL.of hL'⟩,_,rfl,_,rfl,_,rfl,bs,rfl,hbs,_,rfl,_,_,rfl,rfl,by rw [w1.1,(kE ld).1];omega,_,rfl,_,rfl,_,rfl,bs,rfl,hbs,_,_,rfl,rfl,by rw [w3.1,w2.1];omega,_,rfl,_,rfl,_,rfl,by rw [w4.1];omega,L,_,_,rfl,rfl,hL',by rw [wZ];omega,?_⟩
   refine ⟨hF'.wr nfL,bt.wr n0L,_,_,ys++ [Txt.slice (Txt.slice bs none (some at_)++(⟨#[d]⟩:Str)++Txt.slice bs (some at_) none) none (some sz)],rfl,?_,by simp [hy],fun y m=> ?_⟩
   · rw [ac,xD]
     rfl
   · rcases xj.mp m with m|m
     · exact hw y m
     · rw [x8.mp m]
       exact tP (om w4 (by omega) (by omega)) (by omega) (by omega)
 · rintro σ H' ⟨hF',bt,kk,sg,ys,rfl,hL',hy,hw⟩
   exact ⟨_,rfl,k L H' hF' bt n0L ⟨ys,hL',hy,hw⟩⟩
end
end K09
namespace K09
open PySem L2 Mth Tre Wd
theorem Names.but {f c nl:Addr} {H H':Hp} (h:Names H nl) (n1:nl≠f) (n2:nl≠c) (b:But f c H H'):Names H' nl:=by
 obtain ⟨ns,e,r⟩:=h
 exact ⟨ns,b _ _ n1 n2 e,r⟩
theorem wC {r:Int} (h0:0≤r) (h4:r < 4):∃m:Nat,atI [V.int 1, .int 1, .int 2, .int 3] r=some (.int (m:Int))∧0 < m∧m≤3:=by
 have:r=0∨r=1∨r=2∨r=3:=by omega
 rcases this with rfl|rfl|rfl|rfl
 · exact ⟨1,rfl,by decide,by decide⟩
 · exact ⟨1,rfl,by decide,by decide⟩
 · exact ⟨2,rfl,by decide,by decide⟩
 · exact ⟨3,rfl,by decide,by decide⟩
section
variable {P:Program} {w:World} {K:PySem.W.Frag} {mg:Str→Option Value} {base:Heap}
def iR (n:Nat):Sp:=fun vs H Q _=>∃(f c nl:Addr) (d:Nat),vs= [.ref f, .ref nl, .int (d:Int)]∧FeedAt H f c∧Names H nl∧nl≠f∧nl≠c∧d < n∧
 ∀v t H',FeedAt H' f c→But f c H H'→TrAt H' v t→Ty .tm t→t.depth≤2*d+1→(Tw.tmC t).length≤13*4^d→Tw.Gm t→Q v H'
theorem scTe:ay ["_law_feed_here","_law_names_here","_law_deep","_law_many","_law_f"] ["_law_feed_here","_law_names_here","_law_deep"] (ai ii):=⟨rfl,rfl,rfl,by decide +kernel,rfl,by decide +kernel,by decide +kernel⟩
theorem sK {f fD:Addr} {fd fdD:FuncData} (F:Fun K "_law_term" "_law_term" ii f fd) (bF:Binds K fd ["_law_feed_here","_law_names_here","_law_deep"] []) (mF:mg "_law_term"=some (.ref f)) (B:Blt mg) (FD:Fun K "_law_draw" "_law_draw" cV fD fdD) (bD:Binds K fdD ["_law_feed_here","_law_many"] []) (mD:mg "_law_draw"=some (.ref fD)):
 ∀n,FnOk P w K mg base CX0 (n+1) f fd ["_law_feed_here","_law_names_here","_law_deep"] (iR n):=by
 have GD:FnOk P w K mg base CX0 1 fD fdD ["_law_feed_here","_law_many"] bZ:=de FD B
 intro n
 induction n with
 |zero=>exact ⟨fun vs H Q E ⟨_,_,_,_,_,_,_,_,_,h,_⟩=>absurd h (by omega),fun A outer s H args us vs Q E _ _ _ _ ⟨_,_,_,_,_,_,_,_,_,h,_⟩=>absurd h (by omega)⟩
 |succ n ih=>
  refine F.ok scTe (fun vs H Q E h=> ?_) (fun cdv A outer s H vs Q E hr h=> ?_)
  · obtain ⟨f,c,nl,d,rfl,_⟩:=h
    rfl
  obtain ⟨f,c,nl,d,rfl,hF,hN,nf,nc,hd,k⟩:=h
  have hr1:Room 1 _:=hr.mono (by omega)
  refine ⟨_,ag (aP (PW.pt (ff (au aS (pv 2) ae (aB _)) (cW (au pV (ah GD hr1 rfl mD FD.kp bD .nil am (a9 (pv 0) (a9 ae aa))) ae (aB _)))))
   (aj (ao (bJ (a9 aC (a9 (aq ix_list (pv 1) (ah GD hr1 rfl mD FD.kp bD .nil am (a9 (pv 0) (a9 ae aa))) fun _ _=>rfl) aa))))) az)
   (ag (ar (i:=3) scTe.nd rfl (Or.inl rfl) (aq ix_list (aL (a9 ae (a9 ae (a9 ae (a9 ae aa))))) (ah GD hr1 rfl mD FD.kp bD .nil am (a9 (pv 0) (a9 ae aa))) fun _ _=>rfl))
   (ag (ar (i:=4) scTe.nd rfl (Or.inl rfl) (aq ix_list (pv 1) (aw ba ae (ah GD hr1 rfl mD FD.kp bD .nil am (a9 (pv 0) (a9 ae aa)))) fun _ _=>rfl))
   (aj (ao (bJ (a9 aC (a9 (pv 4) (a9 (aU cz rfl B.tu PyProof.Rows.boot_tuple (a9
    (br (NC:= ["_law_k","_law_deep","_law_feed_here","_law_names_here"]) (mp:= [none,some 2,some 0,some 1]) rfl (bn rfl B.ra (a9 (pv 3) aa)) (fun _ _ _ _ _=>aA (i:=0) (show (["_law_k","_law_deep","_law_feed_here","_law_names_here"]:List Str).Nodup by decide +kernel) rfl (Or.inl rfl)) (fun _ _ _ _ _=>bO)
     (fun _ _ _ _ _=>ah ih hr rfl mF F.kp bF .nil am (a9 (pv 2) (a9 (pv 3) (a9 (aw eW (pv 1) ae) aa))))) aa)) aa)))))))),?_⟩
  have hL:(20000:Nat)≤sizeLine:=by decide +kernel
  have name:∀H1,FeedAt H1 f c→But f c H H1→(tRet (tTup (bq (tC (.str "name")) (bq (tOp (rIxL K) (tVar 1) (g9 bZ [] E0 (bq (tVar 0) (bq (tC (.int 3)) tNil)))) tNil)))) {nx:=fun _ H'=>Q .non H',rt:=Q} [some (.ref f),some (.ref nl),some (.int (d:Int)),none,none] H1:=by
   intro H1 hF1 b1
   refine ⟨_,rfl,_,rfl,f,c,3,rfl,hF1,by decide,aV (by decide) (by decide),fun r H2 h0 h3 hF2 kp2=> ?_⟩
   have b2:=b1.trans (But.of_keep kp2)
   obtain ⟨xs,x,e1,e2,wx⟩:=(hN.but nf nc b2).at h0 (by omega)
   refine ⟨nl,xs,r,_,rfl,rfl,SqL.of e1,e2,by show 2≤sizeLine;decide,fun p np=> ?_⟩
   refine k (.ref p) _ _ (hF2.wr (hF2.ne np)) (b2.wr (b2.free hF2 np)) (bX ac (.cons bK (.cons bK .nil))) (.nm x) ?_ (Tw.name_len wx.le) (.nm x wx)
   simp only [Tr.depth,Trs.depth]
   omega
  refine ⟨_,rfl,rfl,_,rfl,?_⟩
  refine ite2 (fun _=>name H hF (But.of_same (Same.refl H))) (fun hd0=> ?_)
  have d0:d≠0:=fun z=>hd0 (by rw [z];decide)
  refine ⟨_,rfl,f,c,5,rfl,hF,by decide,aV (by decide) (by decide),fun r1 H1 _ _ hF1 kp1=> ?_⟩
  have b1:But f c H H1:=But.of_keep kp1
  refine ⟨_,_,rfl,rfl,_,rfl,?_⟩
  refine ite2 (fun _=>name H1 hF1 b1) (fun _=> ?_)
  refine ⟨by show 4≤sizeLine;decide,fun p np=> ?_⟩
  have nfp:=hF1.ne np
  have n0p:=b1.free hF1 np
  refine ⟨_,rfl,f,c,4,rfl,hF1.wr nfp,by decide,aV (by decide) (by decide),fun r2 H2 h0 h4 hF2 kp2=> ?_⟩
  have hp2:H2 p=some (.lst [.int 1, .int 1, .int 2, .int 3]):=(kp2 p nfp.1 nfp.2).trans ac
  have b2:=(b1.wr n0p (o:= .lst [.int 1, .int 1, .int 2, .int 3])).trans (But.of_keep kp2)
  obtain ⟨m,em,m0,m3⟩:=wC h0 h4
  refine ⟨p,_,r2,_,rfl,rfl,SqL.of hp2,em,?_⟩
  refine ⟨_,rfl,_,rfl,f,c,3,rfl,hF2,by decide,aV (by decide) (by decide),fun r3 H3 g0 g3 hF3 kp3=> ?_⟩
  have b3:=b2.trans (But.of_keep kp3)
  obtain ⟨xs,g,e1,e2,wg⟩:=(hN.but nf nc b3).at (i:=2+r3) (by omega) (by omega)
  refine ⟨_,_,rfl,rfl,nl,xs,_,_,rfl,rfl,SqL.of e1,e2,?_⟩
  refine ⟨_,rfl,?_⟩
  refine jw ?_
  refine bw rfl ?_
  refine ⟨_,rfl,m,rfl,by omega,by omega,fun D nD=> ?_⟩
  have nfD:=hF3.ne nD
  have n0D:=b3.free hF3 nD
  refine cm (n:=m) (fun i acc H'=>FeedAt H' f c∧But f c H H'∧H' D=some (.lst acc)∧∃ts:List Tr,TrsAt H' acc ts∧ts.length=i∧∀t∈ts,Ty .tm t∧t.depth≤2*(d - 1)+1∧(Tw.tmC t).length≤13*4^(d - 1)∧Tw.Gm t)
   ⟨hF3.wr nfD,b3.wr n0D,ac,[], .nil,rfl,fun y m=>by cases m⟩ ?_ ?_
  · rintro i acc H' hi ⟨hF',bt,hD,ts,hT,hl,hw⟩
    refine ⟨_,rfl,_,rfl,_,rfl,_,_,rfl,rfl,f,c,nl,d - 1,?_,hF',hN.but nf nc bt,nf,nc,by omega,fun v t H6 hF6 b6 hv wt dt lt gt=> ?_⟩
    · show [V.ref f, .ref nl, .int ((d:Int) - 1)]=_
      rw [show ((d:Int) - 1)=((d - 1:Nat):Int) by omega]
    · have hD6:H6 D=some (.lst acc):=b6 D _ nfD.1 nfD.2 hD
      have kd6:=b6.kd hF' hF6
      have tp:=Kd.upd (ys:=acc++ [v]) hD6
      have hl2:=hT.len
      refine CompN.mk hi (by omega) hD6 ⟨hF6.wr nfD,(bt.trans b6).wr n0D,ac,ts++ [t],TrsAt.app (.cons (hv.mono tp) .nil) (hT.mono (kd6.trans tp)),by simp [hl],fun u mu=> ?_⟩
      rcases xj.mp mu with mu|mu
      · exact hw u mu
      · rw [x8.mp mu]
        exact ⟨wt,dt,lt,gt⟩
  · rintro acc H4 ⟨hF4,b4,hD,ts,hT,hl,hw⟩
    refine ⟨D,acc,rfl, .inl ⟨SqL.of hD,fun l nl'=> ?_⟩⟩
    refine ⟨by show 3≤sizeLine;decide,fun q nq=> ?_⟩
    have s1:Same H4 (upd H4 l (.tup acc)):=af nl'
    have s2:Same (upd H4 l (.tup acc)) (upd (upd H4 l (.tup acc)) q (.tup [.str (Str.ofString "call"), .str g, .ref l])):=af nq
    refine k (.ref q) _ _ (hF4.same (s1.trans s2)) (b4.trans (But.of_same (s1.trans s2))) (bX ac (.cons bK (.cons bK (.cons (bX (s2 _ _ ac) (hT.mono (Kd.of_same (s1.trans s2)))) .nil)))) (.ap g ts (by omega) fun t m=>(hw t m).1) ?_ (Tw.call_len wg.le (by omega) (by omega) fun t m=>(hw t m).2.2.1) (.ap g ts wg (by omega) (by omega) fun t m=>(hw t m).2.2.2)
    have:=bc fun t m=>(hw t m).2.1
    simp only [Tr.depth,Trs.depth]
    omega
end
end K09
namespace Tre
open PySem PySem.Spec PyProof.Rows L2
section
variable {X:Cx}
theorem qL {pins:List (Addr×Obj)} {σ:L2.St} {H:Hp} {s:Shared} {A:Around} {ts us:List Tr} {vs ws:List V} {as bs:List Value} (I:Inv X pins σ H s) (hu:A.units+42 < cLine) (h1:TrsAt H vs ts) (h2:TrsAt H ws us) (hp:Trs.pure ts∨Trs.pure us) (hd:Trs.depth ts≤40) (r1:Vals vs as) (r2:Vals ws bs)
 (j:Nat) (g1:j < as.toArray.size) (g2:j < bs.toArray.size):SeqAt.EqAt A s as.toArray[j] bs.toArray[j] (eqJ ts us j):=by
 have l1:=h1.len
 have l2:=h2.len
 have l3:=r1.length
 have l4:=r2.length
 have h1':j < as.length:=by simpa using g1
 have h2':j < bs.length:=by simpa using g2
 have t1:ts[j]?=some (ts[j]'(by omega)):=x4 _
 have t2:us[j]?=some (us[j]'(by omega)):=x4 _
 obtain ⟨v,e1,a1⟩:=h1.get t1
 obtain ⟨w,e2,a2⟩:=h2.get t2
 obtain ⟨u1,e3,q1⟩:=r1.get e1
 obtain ⟨u2,e4,q2⟩:=r2.get e2
 have z1:as.toArray[j]=u1:=by rw [List.getElem_toArray];rw [x4 h1'] at e3;exact xE e3
 have z2:bs.toArray[j]=u2:=by rw [List.getElem_toArray];rw [x4 h2'] at e4;exact xE e4
 rw [z1,z2,qT t1 t2]
 refine iL I 40 ?_ ?_ a1 a2 q1 q2 (by omega)
 · have:=aK (xa t1)
   omega
 · rcases hp with hp|hp
   · exact .inl (cX hp (xa t1))
   · exact .inr (cX hp (xa t2))
end
end Tre
namespace K09
open PySem L2 Mth Tre Wd Su
section
variable {P:Program} {w:World} {K:PySem.W.Frag} {mg:Str→Option Value} {base:Heap}
def PsAt (H:Hp) (l:Addr) (ps:List Pq):Prop:=∃ws,H l=some (.lst ws)∧TrsAt H ws (ps.map prT)
structure Dq (p:Pq):Prop where
 gq:Gq 30 p
 dep:p.1.depth≤5
 len:(Tw.tmC p.1).length≤1000
 gm:Tw.Gm p.1
def iT:Sp:=fun vs H Q _=>∃(f c nl:Addr) (d m:Nat),vs= [.ref f, .ref nl, .int (d:Int), .int (m:Int)]∧FeedAt H f c∧Names H nl∧nl≠f∧nl≠c∧d < 3∧m≤20∧
 ∀(l:Addr) (ps:List Pq) (H':Hp),H l=none→FeedAt H' f c→But f c H H'→PsAt H' l ps→ps.length≤m→(∀p∈ps,Dq p)→Q (.ref l) H'
theorem scPa:ay ["_law_feed_here","_law_names_here","_law_deep","_law_most","_law_found","_law_k","_law_term_here"] ["_law_feed_here","_law_names_here","_law_deep","_law_most"] (ai eP):=⟨rfl,rfl,rfl,by decide +kernel,rfl,by decide +kernel,by decide +kernel⟩
theorem pZ {f fD fT fS:Addr} {fd dD dT dS:FuncData} (F:Fun K "_law_pairs" "_law_pairs" eP f fd) (B:Blt mg)
 (gD:FnOk P w K mg base CX0 1 fD dD ["_law_feed_here","_law_many"] bZ) (kD:PySem.W.keepIn K (.ref fD)=true) (bD:Binds K dD ["_law_feed_here","_law_many"] []) (mD:mg "_law_draw"=some (.ref fD))
 (gT:FnOk P w K mg base CX0 4 fT dT ["_law_feed_here","_law_names_here","_law_deep"] (iR 3)) (kT:PySem.W.keepIn K (.ref fT)=true) (bT:Binds K dT ["_law_feed_here","_law_names_here","_law_deep"] []) (mT:mg "_law_term"=some (.ref fT))
 (gS:FnOk P w K mg base CX0 3 fS dS ["_law_feed_here"] p4) (kS:PySem.W.keepIn K (.ref fS)=true) (bS:Binds K dS ["_law_feed_here"] []) (mS:mg "_law_small"=some (.ref fS)):
 FnOk P w K mg base CX0 5 f fd ["_law_feed_here","_law_names_here","_law_deep","_law_most"] iT:=by
 refine F.ok scPa (fun vs H Q E h=> ?_) (fun cdv A outer s H vs Q E hr h=> ?_)
 · obtain ⟨f,c,nl,d,m,rfl,_⟩:=h
   rfl
 obtain ⟨f,c,nl,d,m,rfl,hF,hN,nf,nc,hd,hm,k⟩:=h
 have hr1:Room 1 _:=hr.mono (by decide)
 have hr3:Room 3 _:=hr.mono (by decide)
 have hu1:=mZ hr
 refine ⟨_,ag (ar (i:=4) scPa.nd rfl (Or.inl rfl) (aL aa))
  (ag (b9 PassesOwn.never rfl (bn rfl B.ra (a9 (ah gD hr1 rfl mD kD bD .nil am (a9 (pv 0) (a9 (aw ba (pv 3) ae) aa))) aa)) (aA (i:=5) scPa.nd rfl (Or.inl rfl))
   (ag (ar (i:=6) scPa.nd rfl (Or.inl rfl) (ah gT hr rfl mT kT bT .nil am (a9 (pv 0) (a9 (pv 1) (a9 (pv 2) aa)))))
   (ag (aP (PW.pt (uF (au (pU hu1) (pv 4) (aL aa) (aB _)) (sw (au aS (ah gD hr1 rfl mD kD bD .nil am (a9 (pv 0) (a9 ae aa))) ae (aB _)))))
    (aj (ar (i:=6) scPa.nd rfl (Or.inl rfl) (aq ix_tup (aq ix_list (pv 4) ae fun _ _=>rfl) ae fun _ _=>rfl))) az)
   (aj (aZ (cq PySem.F.plainAttrs_list PySem.F.slot_list_append PySem.F.type_list_append bN (pv 4) (a9 (bJ (a9 (pv 6) (a9 (ah gS hr3 rfl mS kS bS .nil am (a9 (pv 0) aa)) aa))) aa)))))))
  (aj (ao (pv 4)))),?_⟩
 have hL:(20000:Nat)≤sizeLine:=by decide +kernel
 refine ⟨by show 0≤sizeLine;decide,fun L nL=> ?_⟩
 have s1:=af (o:= .lst []) nL
 have nLt:=hF.ne nL
 refine ⟨_,rfl,_,rfl,_,_,rfl,rfl,f,c,(m:Int)+1,rfl,hF.same s1,by omega,aV (by omega) (by omega),fun r H1 r0 r1 hF1 kp1=> ?_⟩
 have b1:But f c H H1:=(But.of_same s1).trans (But.of_keep kp1)
 have hL1:H1 L=some (.lst []):=(kp1 L nLt.1 nLt.2).trans ac
 refine ⟨r,rfl,by omega,by omega,?_⟩
 obtain ⟨j,ej⟩:∃j:Nat,r.toNat=j:=⟨_,rfl⟩
 have jm:j≤m:=by omega
 rw [ej]
 refine cG (n:=j) (fun i σ H'=>FeedAt H' f c∧But f c H H'∧∃(ws:List V) (ps:List Pq) (v5 v6:Option V),σ= [some (.ref f),some (.ref nl),some (.int (d:Int)),some (.int (m:Int)),some (.ref L),v5,v6]∧H' L=some (.lst ws)∧TrsAt H' ws (ps.map prT)∧ps.length=i∧∀p∈ps,Dq p)
  ⟨hF1,b1,[],[],none,none,rfl,hL1, .nil,rfl,fun p m=>by cases m⟩ ?_ ?_
 · rintro i σ H2 hi ⟨hF2,b2,ws,ps,v5,v6,rfl,hL2,hT2,hl2,hg2⟩
   have wl:=hT2.len
   rw [wZ] at wl
   refine ⟨_,rfl,_,rfl,_,rfl,f,c,nl,d,rfl,hF2,hN.but nf nc b2,nf,nc,hd,fun v t H3 hF3 b3 hv ty dt lt0 gm=> ?_⟩
   have lt:(Tw.tmC t).length≤1000:=by
    have:4^d≤4^2:=Nat.pow_le_pow_right (by decide) (by omega)
    omega
   have kd3:=b3.kd hF2 hF3
   have hL3:=b3 L _ nLt.1 nLt.2 hL2
   have hT3:=hT2.mono kd3
   have b03:=b2.trans b3
   refine e8 ?_
   dsimp only
   refine c8 (fun σ' H'=>FeedAt H' f c∧But f c H H'∧H' L=some (.lst ws)∧TrsAt H' ws (ps.map prT)∧∃v t,σ'= [some (.ref f),some (.ref nl),some (.int (d:Int)),some (.int (m:Int)),some (.ref L),some (.int (0+(i:Int))),some v]∧TrAt H' v t∧Ty .tm t∧t.depth≤5∧(Tw.tmC t).length≤1000∧Tw.Gm t) ?_ fun nx hnx=> ?_
   rotate_left
   · refine ⟨_,rfl,by show 0≤sizeLine;decide,fun z nz=> ?_⟩
     have sz:=af (o:= .lst []) nz
     have nzt:=hF3.ne nz
     refine ⟨L,z,ws,rfl,rfl,sz _ _ hL3,ac,_,rfl,?_⟩
     have hF4:=hF3.same sz
     have b4:=b03.trans (But.of_same sz)
     have hL4:=sz _ _ hL3
     have hT4:=hT3.mono (Kd.of_same sz)
     have hv4:=hv.mono (Kd.of_same sz)
     generalize upd H3 z (.lst [])=H4 at*
     by_cases zn:ws= []
     · rw [zn]
       refine iteF ?_
       refine iteF ?_
       refine oB ?_
       exact hnx _ _ ⟨hF4,b4,hL4,hT4,v,t,rfl,hv4,ty,by omega,lt,gm⟩
     · have z':ws.isEmpty=false:=by simpa using zn
       rw [z']
       refine iteT ?_
       refine ⟨_,rfl,f,c,4,rfl,hF4,by decide,aV (by decide) (by decide),fun r5 H5 _ _ hF5 kp5=> ?_⟩
       have kd5:=(But.of_keep kp5).kd hF4 hF5
       have hL5:=(kp5 L nLt.1 nLt.2).trans hL4
       have hT5:=hT4.mono kd5
       have hv5:=hv4.mono kd5
       have b5:=b4.trans (But.of_keep kp5)
       refine ⟨rfl,_,rfl,?_⟩
       refine ite2 (fun _=> ?_) (fun _=>hnx _ _ ⟨hF5,b5,hL5,hT5,v,t,rfl,hv5,ty,by omega,lt,gm⟩)
       obtain ⟨w0,wr,rfl⟩:=List.exists_cons_of_ne_nil zn
       obtain ⟨t0,et0,ht0⟩:=hT5.get' (i:=0) (v:=w0) rfl
       rw [xw] at et0
       obtain ⟨p0,ep0,rfl⟩:=xG.mp et0
       have g0:=hg2 p0 (xa ep0)
       obtain ⟨r0',x0,y0,rfl,hr0,hx0,hy0⟩:=dU ht0
       refine ⟨_,rfl,L,_,0, .ref r0',rfl,rfl,SqL.of hL5,bf (j:=0) rfl,r0',_,0,x0,rfl,rfl,SqT.of hr0,rfl,?_⟩
       exact hnx _ _ ⟨hF5,b5,hL5,hT5,x0,p0.1,rfl,hx0,g0.gq.ty,g0.dep,g0.len,g0.gm⟩
   rintro σ' H4 ⟨hF4,b4,hL4,hT4,v,t,rfl,hv4,ty,dt,lt,gm⟩
   refine ⟨_,rfl, .inl ⟨rfl,_,SqL.of hL4⟩,_,rfl,_,rfl,f,c,rfl,hF4,fun y H5 q hF5 b5 hy gq sq=> ?_⟩
   have kd5:=b5.kd hF4 hF5
   have hL5:=b5 L _ nLt.1 nLt.2 hL4
   refine ⟨by show 2≤sizeLine;decide,fun p np=> ?_⟩
   have sp:=af (o:= .tup [v,y]) np
   have hL6:=sp _ _ hL5
   refine ⟨L,ws,_,rfl,rfl,hL6,by omega,?_⟩
   have kd6:=(Kd.of_same sp).trans (Kd.upd (ys:=ws++ [.ref p]) hL6)
   have nLp:p≠L:=fun z=>by rw [z,hL5] at np;cases np
   have bb:=b4.trans (b5.trans (But.of_same sp))
   refine ⟨(hF5.same sp).wr nLt,bb.wr nL,ws++ [.ref p],ps++ [(t,q)],_,_,rfl,ac,?_,by simp [hl2],fun u mu=> ?_⟩
   · rw [xD]
     exact TrsAt.app (.cons (jp ((aG nLp).trans ac) (hv4.mono (kd5.trans kd6)) (hy.mono kd6)) .nil) (hT4.mono (kd5.trans kd6))
   · rcases xj.mp mu with mu|mu
     · exact hg2 u mu
     · rw [x8.mp mu]
       exact ⟨⟨ty,by dsimp only;omega,gq,sq⟩,dt,lt,gm⟩
 · rintro σ H2 ⟨hF2,b2,ws,ps,v5,v6,rfl,hL2,hT2,hl2,hg2⟩
   exact ⟨_,rfl,k L ps H2 nL hF2 b2 ⟨ws,hL2,hT2⟩ (by omega) hg2⟩
end
end K09
namespace Su
open PySem L2 Tre Mth Wd
theorem Can.key {ps us:List Pq} (h:Can ps us) {p:Pq} (m:p∈us):∃q∈ps,q.1=p.1:=by
 refine Classical.byContradiction fun no=> ?_
 have e:=fV h.asc m
 rw [h.eq,cS fun q mq ez=>no ⟨q,mq,ez⟩] at e
 exact (h.sh p m).2 ((py (h.sh p m).1).mp e.symm)
noncomputable def vl (W:Wld) (t:Tr):Rat:=rv (valT W t)
end Su
namespace Dj
open PySem PySem.Spec PyProof.Rows L2 Tre Wd Su
noncomputable def tU (P:Program) (w:World) (K:PySem.W.Frag) (td ty:TE):TE:=fun σ H Q=>td σ H fun x H1=>ty σ H1 fun y H2=>∃a b k kvs v,x= .ref a∧y= .ref b∧DJ P w K H2 a kvs∧KeyAt K H2 k b∧valJ kvs k=some v∧Q v H2
section
variable {X:Cx} {pos:Pos} {o i:Expr} {td ty:TE} {P:Program} {w:World} {K:PySem.W.Frag}
theorem sF (hu:X.A.units+30 < cLine) (ho:PE X o td) (hi:PE X i ty) (hs:NoSl i):PE X (.Subscript o i pos) (tU X.prog X.w X.K td ty):=by
 intro pins s σ H Q I h
 refine rT PySem.F.slot_dict_getitem.lookup hs (thn (ho pins s σ H _ I h) fun u s1 ⟨x,H1,I1,rx,q1⟩=>thn (hi pins s1 σ H1 _ I1 q1) fun iv s2 ⟨y,H2,I2,ry,a,b,k,kvs,v,ex,ey,d,kb,e,q2⟩=> ?_)
 subst ex ey
 obtain rfl:u=Value.ref a:=rx
 obtain rfl:iv=Value.ref b:=ry
 obtain ⟨z,hd,xs,rel,dd⟩:=k9 I2.hok I2.kIn d
 have rr:=rel.val k
 rw [e] at rr
 cases ea:atKey xs k with
 |none=>rw [ea] at rr;exact rr.elim
 |some p=>
  rw [ea] at rr
  exact ⟨dd.typeIs,wpAny_getItem_heap (by show X.A.units+1+20 < cLine;omega) (kb.is I2.hok I2.kIn) dd ea ⟨v,H2,I2.tok _,rr,q2⟩⟩
theorem pP (hP:X.prog=P) (hw:X.w=w) (hK:X.K=K) (hu:X.A.units+30 < cLine) (ho:PE X o td) (hi:PE X i ty) (hs:NoSl i):PE X (.Subscript o i pos) (tU P w K td ty):=by
 subst hP hw hK
 exact sF hu ho hi hs
theorem lG (hP:X.prog=P) (hw:X.w=w) (hK:X.K=K) (hc:X.calm=true) (hu:X.A.units+60 < cLine):c7 X (.builtin "sorted") (jD P w K):=by
 subst hP hw hK
 exact jn hc hu
end
mutual
noncomputable def ktT:Tr→Tk.KT
 | .int i=> .lf (.inl i)
 | .str x=> .lf (.inr x)
 | .tup ts=> .tp (ktTs ts)
 |_=> .tp []
noncomputable def ktTs:List Tr→List Tk.KT
 | []=> []
 |t::ts=>ktT t::ktTs ts
end
noncomputable def ktL:Tr→List Tk.KT
 | .tup ts=>ktTs ts
 |_=> []
mutual
def Kp:Tr→Prop
 | .int _=>True
 | .str _=>True
 | .tup ts=>Kps ts
 |_=>False
def Kps:List Tr→Prop
 | []=>True
 |t::ts=>Kp t∧Kps ts
end
theorem kps_all {ts:List Tr} (h:∀t∈ts,Kp t):Kps ts:=by
 induction ts with
 |nil=>trivial
 |cons t ts ih=>exact ⟨h t x5,ih fun u m=>h u (x6 _ m)⟩
theorem tm_kp {t:Tr} (h:Ty .tm t):Kp t:=by
 generalize e:So.tm=k at h
 induction h with
 |nm x=>simp only [Kp,Kps,and_self]
 |ap x ts _ _ ih=>simp only [Kp,Kps,and_true,true_and];exact kps_all fun t m=>ih t m e
 |fr=>cases e
 |pr=>cases e
 |fl=>cases e
 |mo=>cases e
 |li=>cases e
 |no=>cases e
 |bo=>cases e
 |ei=>cases e
 |lt=>cases e
mutual
theorem qD:∀ {t u:Tr},Kp t→Kp u→ktT t=ktT u→t=u
 | .int i, .int j,_,_,e=>by simp only [ktT,Tk.KT.lf.injEq,Sum.inl.injEq] at e;rw [e]
 | .int i, .str y,_,_,e=>by simp [ktT] at e
 | .int i, .tup us,_,_,e=>by simp [ktT] at e
 | .str x, .int j,_,_,e=>by simp [ktT] at e
 | .str x, .str y,_,_,e=>by simp only [ktT,Tk.KT.lf.injEq,Sum.inr.injEq] at e;rw [e]
 | .str x, .tup us,_,_,e=>by simp [ktT] at e
 | .tup ts, .int j,_,_,e=>by simp [ktT] at e
 | .tup ts, .str y,_,_,e=>by simp [ktT] at e
 | .tup ts, .tup us,h1,h2,e=>by
  simp only [ktT,Tk.KT.tp.injEq] at e
  rw [kts_inj h1 h2 e]
theorem kts_inj:∀ {ts us:List Tr},Kps ts→Kps us→ktTs ts=ktTs us→ts=us
 | [],[],_,_,_=>rfl
 | [],_::_,_,_,e=>by simp [ktTs] at e
 |_::_,[],_,_,e=>by simp [ktTs] at e
 |t::ts,u::us,h1,h2,e=>by
  simp only [ktTs,xF] at e
  rw [qD h1.1 h2.1 e.1,kts_inj h1.2 h2.2 e.2]
end
theorem mO {t u:Tr} (h1:Ty .tm t) (h2:Ty .tm u) (e:ktL t=ktL u):t=u:=by
 have k1:=tm_kp h1
 have k2:=tm_kp h2
 obtain ⟨ts,rfl⟩:=iM h1
 obtain ⟨us,rfl⟩:=iM h2
 rw [kts_inj k1 k2 e]
mutual
theorem qE:∀ {t:Tr},Kp t→(ktT t).depth=t.depth
 | .int i,_=>by simp [ktT,Tk.KT.depth,Tr.depth]
 | .str x,_=>by simp [ktT,Tk.KT.depth,Tr.depth]
 | .tup ts,k=>by
  simp only [ktT,Tk.KT.depth,Tr.depth]
  rw [kts_dep k]
theorem kts_dep:∀ {ts:List Tr},Kps ts→Tk.KTs.depth (ktTs ts)=Trs.depth ts
 | [],_=>by simp [ktTs,Tk.KTs.depth,Trs.depth]
 |t::ts,k=>by
  simp only [ktTs,Tk.KTs.depth,Trs.depth]
  rw [qE k.1,kts_dep k.2]
end
section
variable {K:PySem.W.Frag} {H:Hp}
mutual
theorem vk:∀ {v:V} {t:Tr},Kp t→TrAt H v t→KVt K H v (ktT t)
 |v, .int i,_,h=>by unfold TrAt at h;simp only [ktT,KVt];exact h
 |v, .str x,_,h=>by unfold TrAt at h;simp only [ktT,KVt];exact h
 |v, .tup ts,k,h=>by
  unfold TrAt at h
  obtain ⟨r,vs,e,h1,h2⟩:=h
  simp only [ktT,KVt]
  exact ⟨r,vs,e, .inl h1,kvts_of k h2⟩
theorem kvts_of:∀ {vs:List V} {ts:List Tr},Kps ts→TrsAt H vs ts→KVts K H vs (ktTs ts)
 |vs,[],_,h=>by unfold TrsAt at h;simp only [ktTs,KVts];exact h
 |vs,t::ts,k,h=>by
  obtain ⟨v,r,e,h1,h2⟩:=h.inv
  simp only [ktTs,KVts]
  exact ⟨v,r,e,vk k.1 h1,kvts_of k.2 h2⟩
end
theorem jd {b:Addr} {t:Tr} (ty:Ty .tm t) (hd:t.depth≤7) (h:TrAt H (.ref b) t):KeyAt K H (ktL t) b:=by
 have kp:=tm_kp ty
 obtain ⟨ts,rfl⟩:=iM ty
 unfold TrAt at h
 obtain ⟨r,vs,e,h1,h2⟩:=h
 cases e
 refine ⟨vs, .inl h1,kvts_of kp h2,?_⟩
 have:= @kts_dep ts kp
 simp only [Tr.depth] at hd
 simp only [ktL,Tk.KT.depth]
 omega
end
theorem oE {H:Hp} {v:V} {t:Tr} (ty:Ty .tm t) (h:TrAt H v t):∃b,v= .ref b:=by
 obtain ⟨ts,rfl⟩:=iM ty
 unfold TrAt at h
 obtain ⟨r,vs,e,_⟩:=h
 exact ⟨r,e⟩
theorem vX {t:Tr} (h:Ty .tm t):Hs t:=by
 cases h<;>exact ⟨_,_,rfl⟩
def En (H:Hp) (g:Tr→Fr) (e:Ent) (t:Tr):Prop:=e.1=ktL t∧TrAt H (.ref e.2.1) t∧TrAt H e.2.2 (frT (g t))
structure DAt (P:Program) (w:World) (K:PySem.W.Frag) (H:Hp) (a:Addr) (ks:List Tr) (g:Tr→Fr):Prop where
 ex:∃kvs,DJ P w K H a kvs∧Paired (En H g) kvs ks
 ty:∀t∈ks,Ty .tm t∧t.depth≤7
 nd:ks.Nodup
section
variable {P:Program} {w:World} {K:PySem.W.Frag} {H H':Hp} {a:Addr} {ks:List Tr} {g:Tr→Fr}
theorem ng {kvs:List Ent} (k:Kd H H') (h:Paired (En H g) kvs ks):Paired (En H' g) kvs ks:=Paired.imp' (fun e t x=>⟨x.1,x.2.1.mono k,x.2.2.mono k⟩) h
theorem DAt.kd (x:DAt P w K H a ks g) (k:Kd H H') (hs:∀o,(∀xs,o≠ .lst xs)→H a=some o→H' a=some o):DAt P w K H' a ks g:=by
 obtain ⟨kvs,d,p⟩:=x.ex
 exact ⟨⟨kvs,d.kd k (hs _ (fun _ z=>by cases z) d.at_),ng k p⟩,x.ty,x.nd⟩
theorem DAt.same (x:DAt P w K H a ks g) (s:Same H H'):DAt P w K H' a ks g:=x.kd (Kd.of_same s) fun o _ e=>s _ _ e
theorem qU {kvs:List Ent} (h:Paired (En H g) kvs ks) (ty:∀t∈ks,Ty .tm t) {t:Tr} (tt:Ty .tm t):(t∈ks→∃v,valJ kvs (ktL t)=some v∧TrAt H v (frT (g t)))∧(t∉ks→valJ kvs (ktL t)=none):=by
 induction h with
 |nil=>exact ⟨fun m=>(by cases m),fun _=>rfl⟩
 | @cons e u es us h1 _ ih=>
  obtain ⟨i1,i2⟩:=ih fun x m=>ty x (x6 _ m)
  by_cases z:u=t
  · subst z
    exact ⟨fun _=>⟨e.2.2,jt h1.1,h1.2.2⟩,fun n=>absurd x5 n⟩
  · have ne:¬e.1=ktL t:=fun q=>z (mO (ty u x5) tt (h1.1.symm.trans q))
    refine ⟨fun m=> ?_,fun n=> ?_⟩
    · rw [g7 ne]
      rcases xi.mp m with e'|m
      · exact absurd e'.symm z
      · exact i1 m
    · rw [g7 ne]
      exact i2 fun m=>n (x6 _ m)
theorem DAt.val (x:DAt P w K H a ks g) {t:Tr} (tt:Ty .tm t):∃kvs,DJ P w K H a kvs∧kvs.length=ks.length∧(t∈ks→∃v,valJ kvs (ktL t)=some v∧TrAt H v (frT (g t)))∧(t∉ks→valJ kvs (ktL t)=none):=by
 obtain ⟨kvs,d,p⟩:=x.ex
 exact ⟨kvs,d,Paired.length p,qU p (fun t m=>(x.ty t m).1) tt⟩
open Classical in
noncomputable def setG (g:Tr→Fr) (t:Tr) (f:Fr):Tr→Fr:=fun u=>if u=t then f else g u
open Classical in
noncomputable def addK (ks:List Tr) (t:Tr):List Tr:=if t∈ks then ks else ks++ [t]
theorem vD {kvs:List Ent} {t:Tr} {f:Fr} {v:V} (hv:TrAt H v (frT f)) (tt:Ty .tm t) (h:Paired (En H g) kvs ks) (ty:∀t∈ks,Ty .tm t):Paired (En H (setG g t f)) (kvs.map fun p=>if p.1=ktL t then (p.1,p.2.1,v) else p) ks:=by
 induction h with
 |nil=>exact .nil
 | @cons e u es us h1 _ ih=>
  rw [xg]
  refine .cons ?_ (ih fun x m=>ty x (x6 _ m))
  by_cases z:u=t
  · subst z
    rw [if_pos h1.1]
    refine ⟨h1.1,h1.2.1,?_⟩
    unfold setG
    rw [if_pos rfl]
    exact hv
  · have ne:¬e.1=ktL t:=fun q=>z (mO (ty u x5) tt (h1.1.symm.trans q))
    rw [if_neg ne]
    refine ⟨h1.1,h1.2.1,?_⟩
    unfold setG
    rw [if_neg z]
    exact h1.2.2
theorem vC {kvs:List Ent} {t:Tr} {f:Fr} (n:t∉ks) (h:Paired (En H g) kvs ks):Paired (En H (setG g t f)) kvs ks:=by
 induction h with
 |nil=>exact .nil
 | @cons e u es us h1 _ ih=>
  refine .cons ⟨h1.1,h1.2.1,?_⟩ (ih fun m=>n (x6 _ m))
  unfold setG
  rw [if_neg (fun z=>n (by rw [←z];exact x5))]
  exact h1.2.2
theorem DAt.put (x:DAt P w K H a ks g) {t:Tr} {b:Addr} {v:V} {f:Fr} (tt:Ty .tm t) (hd:t.depth≤7) (hb:TrAt H (.ref b) t) (hv:TrAt H v (frT f)) {kvs:List Ent} (d:DJ P w K H a kvs) (hk:DAt P w K H a ks g→Paired (En H g) kvs ks):
 DAt P w K (upd H a (dJ P w a (putJ kvs (ktL t) b v))) a (addK ks t) (setG g t f):=by
 have p:=hk x
 have kd:=Kd.updJ (o:=dJ P w a (putJ kvs (ktL t) b v)) d.at_
 have ev:=qU p (fun t m=>(x.ty t m).1) tt
 refine ⟨⟨_,d.put (jd tt hd hb),?_⟩,fun u m=> ?_,?_⟩
 · refine ng kd ?_
   unfold putJ addK
   by_cases m:t∈ks
   · obtain ⟨v',e',_⟩:=ev.1 m
     rw [e',if_pos m,if_pos (show (some v').isSome=true from rfl)]
     exact vD hv tt p fun t m=>(x.ty t m).1
   · rw [ev.2 m,if_neg m,if_neg (by simp)]
     refine Paired.snoc (vC m p) ⟨rfl,hb,?_⟩
     unfold setG
     rw [if_pos rfl]
     exact hv
 · unfold addK at m
   split at m
   · exact x.ty u m
   · rcases xj.mp m with m|m
     · exact x.ty u m
     · rw [x8.mp m]
       exact ⟨tt,hd⟩
 · unfold addK
   split
   · exact x.nd
   · rename_i n
     exact List.nodup_append.mpr ⟨x.nd,(by simp),fun u mu y my=>by rw [x8.mp my];exact fun z=>n (by rw [←z];exact mu)⟩
theorem DAt.keys (x:DAt P w K H a ks g):∃kvs,DJ P w K H a kvs∧TrsAt H (kvs.map fun e=>V.ref e.2.1) ks:=by
 obtain ⟨kvs,d,p⟩:=x.ex
 refine ⟨kvs,d,?_⟩
 clear d x
 induction p with
 |nil=>exact .nil
 |cons h1 _ ih=>exact .cons h1.2.1 ih
end
open Classical in
structure Sd (ds:List Pq) (ks:List Tr) (g:Tr→Fr):Prop where
 sh:∀t∈ks,Sh (g t)
 eq:∀t,tot t ds=if t∈ks then rv (g t) else 0
theorem Sd.nil (g:Tr→Fr):Sd [] [] g:=⟨fun t m=>(by cases m),fun t=>(by rw [if_neg (by simp)];rfl)⟩
open Classical in
theorem Sd.add {ds:List Pq} {ks:List Tr} {g:Tr→Fr} (h:Sd ds ks g) {p:Pq} {f:Fr} (hf:Sh f) (e:rv f=(if p.1∈ks then rv (g p.1) else 0)+rv p.2):Sd (ds++ [p]) (addK ks p.1) (setG g p.1 f):=by
 refine ⟨fun t m=> ?_,fun t=> ?_⟩
 · unfold setG
   by_cases z:t=p.1
   · rw [if_pos z];exact hf
   · rw [if_neg z]
     unfold addK at m
     split at m
     · exact h.sh t m
     · rcases xj.mp m with m|m
       · exact h.sh t m
       · exact absurd (x8.mp m) z
 · rw [fz,fw,h.eq]
   unfold addK setG
   by_cases z:t=p.1
   · subst z
     rw [if_pos rfl]
     by_cases m:p.1∈ks
     · rw [if_pos m,if_pos m,if_pos m,if_pos rfl,e,if_pos m]
     · have m2:p.1∈ks++ [p.1]:=xL _ x5
       rw [if_neg m,if_neg m,if_pos m2,if_pos rfl,e,if_neg m]
   · have z':¬p.1=t:=fun q=>z q.symm
     have ek:(t∈(if p.1∈ks then ks else ks++ [p.1]))↔t∈ks:=by
      split
      · exact Iff.rfl
      · rw [xj,x8]
        exact ⟨fun q=>q.elim id fun q=>absurd q z, .inl⟩
     simp only [ek,z,z',if_false]
     grind
noncomputable def outP (g:Tr→Fr) (ts:List Tr):List Pq:=(ts.filter fun t=>decide ((g t).1≠0)).map fun t=>(t,g t)
open Classical in
theorem lO (g:Tr→Fr) (u:Tr):∀ {ts:List Tr},ts.Nodup→(∀t∈ts,Sh (g t))→tot u (outP g ts)=if u∈ts then rv (g u) else 0
 | [],_,_=>by rw [if_neg (by simp)];rfl
 |t::ts,nd,hs=>by
  obtain ⟨n1,n2⟩:=yv.mp nd
  have ih:=lO g u n2 fun x m=>hs x (x6 _ m)
  unfold outP at ih ⊢
  rw [yq]
  have hsame:∀(q:Rat),(if u=t then q else 0)+(if u∈ts then rv (g u) else 0)=(if u∈t::ts then (if u=t then q else rv (g u)) else 0):=by
   intro q
   by_cases z:u=t
   · have nu:u∉ts:=fun m=>n1 (by rw [←z];exact m)
     rw [if_pos z,if_neg nu,if_pos (by rw [z];exact x5),if_pos z]
     grind
   · rw [if_neg z]
     by_cases m:u∈ts
     · rw [if_pos m,if_pos (x6 _ m),if_neg z]
       grind
     · rw [if_neg m,if_neg (fun q=>(xi.mp q).elim z m)]
       grind
  by_cases z0:(g t).1=0
  · have e:decide ((g t).1≠0)=false:=by simp [z0]
    rw [e,if_neg (by decide),ih]
    have gz:rv (g t)=0:=by
     unfold rv
     rw [z0]
     have:((0:Int):Rat)=0:=by simp
     rw [this]
     grind
    have:=hsame 0
    by_cases z:u=t
    · subst z
      rw [if_neg n1,if_pos x5,gz]
    · rw [if_neg z] at this
      by_cases m:u∈ts
      · rw [if_pos m,if_pos (x6 _ m)]
      · rw [if_neg m,if_neg (fun q=>(xi.mp q).elim z m)]
  · have e:decide ((g t).1≠0)=true:=by simp [z0]
    rw [e,if_pos rfl,xg]
    simp only [tot]
    rw [ih]
    by_cases z:u=t
    · subst z
      rw [if_pos rfl,if_neg n1,if_pos x5]
      grind
    · rw [if_neg (fun q=>z q.symm)]
      by_cases m:u∈ts
      · rw [if_pos m,if_pos (x6 _ m)]
        grind
      · rw [if_neg m,if_neg (fun q=>(xi.mp q).elim z m)]
        grind
theorem Sd.can {ds:List Pq} {ks ts:List Tr} {g:Tr→Fr} (h:Sd ds ks g) (nd:ks.Nodup) (ty:∀t∈ks,Ty .tm t) (pm:ts.Perm ks) (hr:∀(i j:Nat) (t u:Tr),i≤j→ts[i]?=some t→ts[j]?=some u→ltT u t=false):Can ds (outP g ts):=by
 have ndt:ts.Nodup:=pm.nodup_iff.mpr nd
 have hs:∀t∈ts,Sh (g t):=fun t m=>h.sh t (pm.mem_iff.mp m)
 refine ⟨?_,fun p m=> ?_,fun t=> ?_⟩
 · unfold outP Asc
   rw [List.pairwise_map]
   refine List.Pairwise.filter _ ?_
   rw [y9]
   intro i j hi hj hij
   have e1:ts[i]?=some ts[i]:=x4 hi
   have e2:ts[j]?=some ts[j]:=x4 hj
   have le:=hr i j _ _ (by omega) e1 e2
   refine lt_of le ?_
   cases q:eqT ts[i] ts[j] with
   |false=>rfl
   |true=>
    have:=vY (ty _ (pm.mem_iff.mp (y6 hi))) (ty _ (pm.mem_iff.mp (y6 hj))) q
    have:=(List.nodup_iff_pairwise_ne.mp ndt)
    rw [y9] at this
    exact absurd ‹ts[i]=ts[j]› (this i j hi hj hij)
 · obtain ⟨t,mt,rfl⟩:=xy.mp m
   obtain ⟨m1,m2⟩:=xY.mp mt
   refine ⟨hs t m1,fun z=> ?_⟩
   have:(g t).1≠0:=by simpa using m2
   exact this (by rw [show g t=zero from z];rfl)
 · rw [lO g t ndt hs,h.eq]
   by_cases m:t∈ks
   · rw [if_pos m,if_pos (pm.mem_iff.mpr m)]
   · rw [if_neg m,if_neg (fun q=>m (pm.mem_iff.mp q))]
end Dj
namespace K09
open PySem L2 Mth Tre Wd Su Dj
section
variable {P:Program} {w:World} {K:PySem.W.Frag} {mg:Str→Option Value} {base:Heap}
def kU:Sp:=fun vs H Q _=>∃(l:Addr) (ps:List Pq) (n e:Nat),vs= [.ref l]∧PsAt H l ps∧ps.length≤n∧n < 64∧1+n*(e+1)≤8000∧(∀p∈ps,Gq e p)∧
 ∀(v:V) (H':Hp) (us:List Pq),Same H H'→TrAt H' v (.tup (us.map prT))→Can ps us→us.length≤ps.length→(∀u∈us,Gq (1+n*(e+1)) u)→Q v H'
theorem scLSm:ay ["_law_pairs_here","_law_found","_law_term_here","_law_many","_law_top","_law_bottom"] ["_law_pairs_here"] (ai ik):=⟨rfl,rfl,rfl,by decide +kernel,rfl,by decide +kernel,by decide +kernel⟩
open Classical in
theorem vy {ks:List Tr} {g:Tr→Fr} {m:Nat} (hg:∀t∈ks,Gf (1+m) (g t)) (t:Tr):Gf (1+m) (if t∈ks then g t else zero):=by
 split
 · rename_i h
   exact hg t h
 · refine ⟨by decide,?_,?_⟩
   · show (0:Nat) < 2^(1+m)
     exact xZ (by decide)
   · show (1:Nat) < 2^(1+m)
     exact Nat.one_lt_two_pow (by omega)
open Classical in
theorem sL {f fL:Addr} {fd dL:FuncData} (F:Fun K "_law_sum" "_law_sum" ik f fd) (B:Blt mg)
 (gL:FnOk P w K mg base CX0 1 fL dL ["_law_top","_law_bottom"] gh) (kL:PySem.W.keepIn K (.ref fL)=true) (bL:Binds K dL ["_law_top","_law_bottom"] []) (mL:mg "_law_lowest"=some (.ref fL)):FnOk P w K mg base CX0 3 f fd ["_law_pairs_here"] kU:=by
 refine F.ok scLSm (fun vs H Q E h=> ?_) (fun cdv A outer s H vs Q E hr h=> ?_)
 · obtain ⟨l,ps,n,e,rfl,_⟩:=h
   rfl
 obtain ⟨l,ps,n,e,rfl,⟨ws,hl,hT⟩,hn,n64,h8,hg,k⟩:=h
 have hun:=hr.units
 have hu1:=mZ hr
 have hr1:Room 1 _:=hr.mono (by decide)
 have hu30:=xO (ym (show 30≤64 by decide) _) hun
 have hu60:=xO (ym (show 60≤64 by decide) _) hun
 refine ⟨_,ag (ar (i:=1) scLSm.nd rfl (Or.inr rfl) (sB (P:=P) (w:=w) rfl rfl))
  (ag (b9 PassesOwn.never rfl (b8 (pv 0)) (gE rfl (bx (aA (i:=2) scLSm.nd rfl (Or.inl rfl)) (bx (aA (i:=3) scLSm.nd rfl (Or.inl rfl)) dQ)))
   (ag (j1 (sD (P:=P) (w:=w) (K:=K) rfl rfl rfl hu30 (pv 1) (pv 2) (bJ (a9 ae (a9 ae aa))) ⟨rfl,rfl,rfl,rfl⟩) (gE rfl (bx (aA (i:=4) scLSm.nd rfl (Or.inl rfl)) (bx (aA (i:=5) scLSm.nd rfl (Or.inl rfl)) dQ))))
   (aj (sx (P:=P) (w:=w) (K:=K) rfl rfl rfl hu30 (pv 1) (pv 2) (ah gL hr1 rfl mL kL bL .nil am (a9 (aw ba (aw j7 (pv 4) (aq ix_tup (pv 3) ae fun _ _=>rfl)) (aw j7 (aq ix_tup (pv 3) ae fun _ _=>rfl) (pv 5))) (a9 (aw j7 (pv 5) (aq ix_tup (pv 3) ae fun _ _=>rfl)) aa))) rfl))))
  (aj (ao (aU cz rfl B.tu PyProof.Rows.boot_tuple (a9
   (br (NC:= ["_law_term_here","_law_found"]) (mp:= [none,some 1]) rfl (b8 (aE (lG (P:=P) (w:=w) (K:=K) rfl rfl rfl rfl hu60) rfl B.so PyProof.Rows.boot_sorted (a9 (pv 1) aa))) (fun _ _ _ _ _=>aA (i:=0) (show (["_law_term_here","_law_found"]:List Str).Nodup by decide +kernel) rfl (Or.inl rfl))
    (fun _ _ _ _ _=>j0 (au ml (aq (r:=rIxT K) ix_tup (pP (P:=P) (w:=w) (K:=K) rfl rfl rfl hu30 (pv 1) (pv 0) (fun _ _=>rfl)) ae fun _ _=>rfl) ae (aB _)))
    (fun _ _ _ _ _=>bJ (a9 (pv 0) (a9 (pP (P:=P) (w:=w) (K:=K) rfl rfl rfl hu30 (pv 1) (pv 0) (fun _ _=>rfl)) aa)))) aa))))),?_⟩
 have hL:(20000:Nat)≤sizeLine:=by decide +kernel
 intro D nD
 have s1:Same H (upd H D (dJ P w D [])):=af nD
 have d0:DAt P w K (upd H D (dJ P w D [])) D [] (fun _=>zero):=⟨⟨[],⟨ac,fun p m=>(by cases m)⟩, .nil⟩,fun t m=>(by cases m),List.nodup_nil⟩
 have wl:=hT.len
 rw [wZ] at wl
 refine ⟨_,rfl,l,rfl,⟨_,SqL.of (s1 _ _ hl)⟩,?_⟩
 refine bh (xs:=ws) (fun i σ H'=>Same H H'∧∃(ks:List Tr) (g:Tr→Fr) (v2 v3 v4 v5:Option V),σ= [some (.ref l),some (.ref D),v2,v3,v4,v5]∧DAt P w K H' D ks g∧Sd (ps.take i) ks g∧(∀t∈ks,Gf (1+i*(e+1)) (g t))∧ks.length≤i)
  ⟨s1,[],_,none,none,none,none,rfl,d0,by rw [yp];exact Sd.nil _,(fun t m=>by cases m),x9 _⟩ (fun i σ H' _ p=>SqL.of (p.1 _ _ hl)) ?_ ?_
 · rintro i x σ H1 ex ⟨sH,ks,g,v2,v3,v4,v5,rfl,hD,hSd,hgk,hkl⟩
   obtain ⟨u,eu,hu⟩:=(hT.mono (Kd.of_same sH)).get' ex
   rw [xw] at eu
   obtain ⟨⟨tm,fr⟩,eq,rfl⟩:=xG.mp eu
   have gu:=hg _ (xa eq)
   have ilt:i < ps.length:=(xo.mp eq).1
   obtain ⟨r,xt,xf,rfl,hr',hxt,hxf⟩:=dU hu
   obtain ⟨rf,rfl,hrf⟩:=ku hxf
   have tyt:=gu.ty
   have dpt:=gu.dep
   have gfr:=gu.gf
   have shr:=gu.sh
   dsimp only at hxt tyt dpt gfr shr
   obtain ⟨bt,rfl⟩:=oE tyt hxt
   have ei:1+(i+1)*(e+1)=1+i*(e+1)+e+1:=by rw [Nat.succ_mul];omega
   have ib:1+(i+1)*(e+1)≤8000:=by
    have:(i+1)*(e+1)≤n*(e+1):=xJ _ (by omega)
    omega
   refine ⟨r,_,rfl,SqT.of hr',rfl,_,_,rfl,_,_,rfl,rfl,?_⟩
   obtain ⟨kvs,dj,kl,vin,vout⟩:=hD.val tyt
   refine ⟨_,rfl,D,kvs,rfl,dj,_,rfl,by show 2≤sizeLine;decide,fun p np=> ?_⟩
   have sp:=af (o:= .tup [.int 0, .int 1]) np
   have hD2:=hD.same sp
   have dj2:=dj.kd (Kd.of_same sp) (sp _ _ dj.at_)
   refine ⟨bt,ktL tm,rfl,dj2,jd tyt dpt (hxt.mono (Kd.of_same sp)),?_⟩
   obtain ⟨z,ez,hz⟩:∃z,(valJ kvs (ktL tm)).getD (.ref p)=z∧TrAt (upd H1 p (.tup [.int 0, .int 1])) z (frT (if tm∈ks then g tm else zero)):=by
    by_cases m:tm∈ks
    · obtain ⟨v,e1,e2⟩:=vin m
      rw [e1,if_pos m]
      exact ⟨v,rfl,e2.mono (Kd.of_same sp)⟩
    · rw [vout m,if_neg m]
      exact ⟨_,rfl,fU ac⟩
   rw [ez]
   have gq:=vy hgk tm
   have sq:Sh (if tm∈ks then g tm else zero):=by
    split
    · rename_i m
      exact hSd.sh tm m
    · exact lW
   have rq:rv (if tm∈ks then g tm else zero)=if tm∈ks then rv (g tm) else 0:=by
    split
    · rfl
    · exact rv_zero
   obtain ⟨rz,rfl,hrz⟩:=ku hz
   have sH2:=sH.trans sp
   have hrf2:=sp _ _ hrf
   have hxt2:=hxt.mono (Kd.of_same sp)
   generalize upd H1 p (.tup [.int 0, .int 1])=H2 at sp hD2 dj2 hrz sH2 hrf2 hxt2 ⊢
   generalize (if tm∈ks then g tm else zero)=q at gq sq rq hrz
   refine ⟨rz,_,rfl,SqT.of hrz,rfl,_,_,rfl,_,_,rfl,rfl,?_⟩
   have bq1:Big q.1:=gq.top.big (by omega)
   have bq2:Big q.2:=gq.bot.big (by omega)
   have bf1:Big fr.1:=gfr.top.big (by omega)
   have bf2:Big fr.2:=gfr.bot.big (by omega)
   refine ⟨_,rfl,_,rfl,rf,_,1, .int fr.2,rfl,rfl,SqT.of hrf2,rfl,_,_,rfl,rfl,⟨bq1,bf2⟩,_,rfl,rf,_,0, .int fr.1,rfl,rfl,SqT.of hrf2,rfl,_,rfl,_,_,rfl,rfl,⟨bf1,bq2⟩,_,_,rfl,rfl,_,rfl,_,rfl,rf,_,1, .int fr.2,rfl,rfl,SqT.of hrf2,rfl,_,_,rfl,rfl,⟨bq2,bf2⟩,?_⟩
   have y0:0 < q.2*fr.2:=Int.mul_pos gq.pos gfr.pos
   have lx:Lt2 (1+(i+1)*(e+1)) (q.1*fr.2+fr.1*q.2):=by
    rw [ei]
    refine Lt2.add (gq.top.mul gfr.bot) ?_
    rw [Nat.add_comm]
    exact gfr.top.mul gq.bot
   have ly:Lt2 (1+(i+1)*(e+1)) (q.2*fr.2):=by
    rw [ei]
    exact (gq.bot.mul gfr.bot).mono (by omega)
   have erv:rv (low (q.1*fr.2+fr.1*q.2) (q.2*fr.2))=rv q+rv fr:=by
    rw [uB y0]
    have n1:=ne0 gq.pos
    have n2:=ne0 gfr.pos
    unfold rv
    simp only [Rat.intCast_mul,Rat.intCast_add]
    grind
   refine ⟨_,_,rfl,y0,jo (ly.big ib) (by omega),fun r' H3 hr3 e3=> ?_⟩
   subst e3
   have s3:=af (o:= .tup [.int (low (q.1*fr.2+fr.1*q.2) (q.2*fr.2)).1, .int (low (q.1*fr.2+fr.1*q.2) (q.2*fr.2)).2]) hr3
   have hv3:TrAt (upd H2 r' (.tup [.int (low (q.1*fr.2+fr.1*q.2) (q.2*fr.2)).1, .int (low (q.1*fr.2+fr.1*q.2) (q.2*fr.2)).2])) (.ref r') (frT (low (q.1*fr.2+fr.1*q.2) (q.2*fr.2))):=fU ac
   have hD3:=hD2.same s3
   have hxt3:=hxt2.mono (Kd.of_same s3)
   have sH3:=sH2.trans s3
   have sl:=kY (t:=q.1*fr.2+fr.1*q.2) y0
   have gl:=vw y0 lx ly
   have e00:(q.1*fr.2+fr.1*q.2) / (Int.gcd (q.1*fr.2+fr.1*q.2) (q.2*fr.2):Int)=(low (q.1*fr.2+fr.1*q.2) (q.2*fr.2)).1:=rfl
   have e01:(q.2*fr.2) / (Int.gcd (q.1*fr.2+fr.1*q.2) (q.2*fr.2):Int)=(low (q.1*fr.2+fr.1*q.2) (q.2*fr.2)).2:=rfl
   dsimp only
   rw [e00,e01]
   generalize low (q.1*fr.2+fr.1*q.2) (q.2*fr.2)=nw at*
   generalize upd H2 r' (.tup [.int nw.1, .int nw.2])=H3 at*
   obtain ⟨kvs3,dj3,pr3⟩:=hD3.ex
   have kl3:kvs3.length=ks.length:=Paired.length pr3
   refine ⟨_,rfl,_,rfl,D,bt,ktL tm,kvs3,rfl,rfl,dj3,jd tyt dpt hxt3,by omega,?_⟩
   refine ⟨aX nD sH3,addK ks tm,setG g tm nw,_,_,_,_,rfl,hD3.put tyt dpt hxt3 hv3 dj3 (fun _=>pr3),?_,fun t m=> ?_,?_⟩
   · rw [jx eq]
     exact hSd.add (p:=(tm,fr)) sl (by rw [erv,rq])
   · unfold setG
     by_cases z:t=tm
     · rw [if_pos z];exact gl
     · rw [if_neg z]
       have mt:t∈ks:=by
        unfold addK at m
        split at m
        · exact m
        · rcases xj.mp m with m|m
          · exact m
          · exact absurd (x8.mp m) z
       exact (hgk t mt).mono (by omega)
   · unfold addK
     split
     · omega
     · rw [x3,xm]
       omega
 · rintro σ H1 ⟨sH,ks,g,v2,v3,v4,v5,rfl,hD,hSd,hgk,hkl⟩
   rw [wl] at hkl hgk
   rw [wl,xH] at hSd
   obtain ⟨kvs,dj,hK⟩:=hD.keys
   dsimp only
   refine rP ?_
   refine eK rfl ?_
   refine ⟨_,rfl,D,kvs,ks,rfl,dj,hK,by omega,fun t m=>⟨vX (hD.ty t m).1,dH (hD.ty t m).1,by have:=(hD.ty t m).2;omega⟩,fun t m u mu=>oq 30 (by have:=(hD.ty t m).2;omega) (hD.ty t m).1 (hD.ty u mu).1,fun S ws' us nS pm hT' srt=> ?_⟩
   have sS:=af (o:= .lst ws') nS
   have hS2:(upd H1 S (.lst ws')) S=some (.lst ws'):=ac
   have hD2:=hD.same sS
   have hT2:=hT'.mono (Kd.of_same sS)
   have sH2:=sH.trans sS
   generalize upd H1 S (.lst ws')=H2 at sS hS2 hD2 hT2 sH2 ⊢
   have wl2:=hT2.len
   have ul:us.length=ks.length:=pm.length_eq
   refine ⟨S,rfl,⟨ws',SqL.of hS2⟩,fun D2 nD2=> ?_⟩
   have hcan:=hSd.can hD.nd (fun t m=>(hD.ty t m).1) pm srt
   refine dE (xs:=ws') (fun i acc H''=>Same H2 H''∧H'' D2=some (.lst acc)∧TrsAt H'' acc ((outP g (us.take i)).map prT)) ⟨af nD2,ac,by rw [yp];exact .nil⟩ (fun i acc H'' p=>SqL.of (p.1 _ _ hS2)) ?_ ?_
   · rintro i x acc H3 hi ex ⟨s3,hD3,hA⟩
     obtain ⟨t,et,ht⟩:=(hT2.mono (Kd.of_same s3)).get' ex
     have mt:t∈ks:=pm.mem_iff.mp (xa et)
     obtain ⟨tyt,dpt⟩:=hD.ty t mt
     obtain ⟨b,rfl⟩:=oE tyt ht
     have hDD:=hD2.same s3
     obtain ⟨kvs3,dj3,kl3,vin,_⟩:=hDD.val tyt
     obtain ⟨v,ev,hv⟩:=vin mt
     obtain ⟨rv',rfl,hrv⟩:=ku hv
     have kb:=jd (K:=K) tyt dpt ht
     have al:=hA.len
     rw [wZ] at al
     have al2:(outP g (us.take i)).length≤us.length:=by
      unfold outP
      rw [wZ]
      refine xI (yc _ _) ?_
      rw [xM]
      omega
     refine ⟨_,rfl,_,rfl,D,b,ktL t,kvs3, .ref rv',rfl,rfl,dj3,kb,ev,rv',_,0, .int (g t).1,rfl,rfl,SqT.of hrv,rfl,rfl,_,rfl,?_⟩
     have ef:outP g (us.take (i+1))=outP g (us.take i)++(if decide ((g t).1≠0)=true then [(t,g t)] else []):=by
      unfold outP
      rw [jx et,List.filter_append,xD,yq]
      split<;>rfl
     have ee:(!decide (V.int (g t).1=V.int 0))=decide ((g t).1≠0):=by
      by_cases z:(g t).1=0
      · simp [z]
      · simp [z]
     rw [ee]
     refine ite2 (fun y=> ?_) (fun y=>CompS.mk hi ⟨s3,hD3,?_⟩)
     · refine ⟨_,rfl,_,rfl,_,rfl,D,b,ktL t,kvs3, .ref rv',rfl,rfl,dj3,kb,ev,by show 2≤sizeLine;decide,fun p np=> ?_⟩
       have sp:=af (o:= .tup [.ref b, .ref rv']) np
       have hD4:=sp _ _ hD3
       have kd:=(Kd.of_same sp).trans (Kd.upd (ys:=acc++ [.ref p]) hD4)
       have nDp:p≠D2:=fun z=>by rw [z,hD3] at np;cases np
       refine CompN.mk hi (by omega) hD4 ⟨aX nD2 (s3.trans sp),ac,?_⟩
       rw [ef,if_pos y,xD]
       exact TrsAt.app (.cons (jp ((aG nDp).trans ac) (ht.mono kd) (hv.mono kd)) .nil) (hA.mono kd)
     · rw [ef,if_neg y,yg]
       exact hA
   · rintro acc H3 ⟨s3,hD3,hA⟩
     rw [wl2,xH] at hA
     refine ⟨D2,acc,rfl, .inl ⟨SqL.of hD3,fun p np=> ?_⟩⟩
     have sp:=af (o:= .tup acc) np
     refine k (.ref p) _ _ (sH2.trans (s3.trans sp)) (bX ac (hA.mono (Kd.of_same sp))) hcan ?_ fun u m=> ?_
     · unfold outP
       rw [wZ]
       have:=yc (fun t=>decide ((g t).1≠0)) us
       omega
     · unfold outP at m
       obtain ⟨t,mt,rfl⟩:=xy.mp m
       have mt:=pm.mem_iff.mp (xY.mp mt).1
       exact ⟨(hD.ty t mt).1,(hD.ty t mt).2,(hgk t mt).mono (by have:=xJ (e+1) hn;omega),hSd.sh t mt⟩
end
end K09
namespace K09
open PySem L2 Mth Tre Wd
section
variable {P:Program} {w:World} {K:PySem.W.Frag} {mg:Str→Option Value} {base:Heap}
def p6:Sp:=fun vs H Q _=>∃(f c:Addr),vs= [.ref f]∧FeedAt H f c∧∀(v:V) (H':Hp) (p:Fr),FeedAt H' f c→But f c H H'→TrAt H' v (frT p)→Gf 200 p→hJ p.1 p.2→Q v H'
theorem scShr:ay ["_law_feed_here","_law_most","_law_top"] ["_law_feed_here"] (ai eO):=⟨rfl,rfl,rfl,by decide +kernel,rfl,by decide +kernel,by decide +kernel⟩
def TShr:Int:=10^58
theorem tShr:(60:Int)≤TShr∧TShr≤T59∧(TShr+10).natAbs < 2^200:=by decide +kernel
theorem vc {f fD fG fL:Addr} {fd fdD fdG fdL:FuncData} (F:Fun K "_law_share" "_law_share" eO f fd) (FD:Fun K "_law_draw" "_law_draw" cV fD fdD) (bD:Binds K fdD ["_law_feed_here","_law_many"] []) (mD:mg "_law_draw"=some (.ref fD))
 (FG:Fun K "_law_great" "_law_great" cU fG fdG) (bG:Binds K fdG ["_law_feed_here","_law_most"] []) (mG:mg "_law_great"=some (.ref fG)) (FL:Fun K "_law_lowest" "_law_lowest" sLow fL fdL) (bL:Binds K fdL ["_law_top","_law_bottom"] []) (mL:mg "_law_lowest"=some (.ref fL)) (B:Blt mg):
 FnOk P w K mg base CX0 3 f fd ["_law_feed_here"] p6:=by
 have GD:FnOk P w K mg base CX0 1 fD fdD ["_law_feed_here","_law_many"] bZ:=de FD B
 have GG:FnOk P w K mg base CX0 2 fG fdG ["_law_feed_here","_law_most"] iU:=jH FG FD bD mD B
 have GL:FnOk P w K mg base CX0 1 fL fdL ["_law_top","_law_bottom"] gh:=l8 FL B
 refine F.ok scShr (fun vs H Q E h=> ?_) (fun cdv A outer s H vs Q E hr h=> ?_)
 · obtain ⟨f,c,rfl,_⟩:=h
   rfl
 obtain ⟨f,c,rfl,hF,k⟩:=h
 have hr1:Room 1 _:=hr.mono (by decide)
 refine ⟨_,ag (ar (i:=1) scShr.nd rfl (Or.inl rfl) (aq ix_list (aL (a9 ae (a9 ae (a9 ae (a9 ae (a9 (aw j6 ae ae) aa)))))) (ah GD hr1 rfl mD FD.kp bD .nil am (a9 (pv 0) (a9 ae aa))) fun _ _=>rfl))
  (ag (ar (i:=2) scShr.nd rfl (Or.inl rfl) (aw eW (ah GG hr rfl mG FG.kp bG .nil am (a9 (pv 0) (a9 (aw eX ae (pv 1)) aa))) (pv 1)))
  (aj (ao (ah GL hr1 rfl mL FL.kp bL .nil am (a9 (pv 2) (a9 (aq ix_list (aL (a9 ae (a9 (aw ba ae (ah GG hr rfl mG FG.kp bG .nil am (a9 (pv 0) (a9 (pv 1) aa)))) aa)))
   (ah GD hr1 rfl mD FD.kp bD .nil am (a9 (pv 0) (a9 ae aa))) fun _ _=>rfl) aa)))))),?_⟩
 obtain ⟨t60,t589,tbig⟩:=tShr
 refine c8 (fun σ' H'=>∃most:Int,0 < most∧most≤TShr∧FeedAt H' f c∧But f c H H'∧σ'= [some (.ref f),some (.int most),none]) ?_ fun nx hnx=> ?_
 rotate_left
 · refine ⟨10,58,rfl,rfl,⟨by decide,by decide,by decide⟩,by show 5≤sizeLine;decide,fun p hp=> ?_⟩
   obtain ⟨npf,npc⟩:=hF.ne hp
   refine ⟨_,rfl,f,c,5,rfl,hF.same (af hp),by decide,aV (by decide) (by decide),fun r H1 r0 r1 hF1 kp1=> ?_⟩
   have hp1:H1 p=some (.lst [.int 3, .int 3, .int 3, .int 60, .int ((10:Int)^(58:Int).toNat)]):=(kp1 p npf npc).trans ac
   have b1:But f c H H1:=(But.of_same (af hp)).trans (But.of_keep kp1)
   have r3:r=0∨r=1∨r=2∨r=3∨r=4:=by omega
   rcases r3 with rfl|rfl|rfl|rfl|rfl
   · exact ⟨p,_,0, .int 3,rfl,rfl,SqL.of hp1,rfl,hnx _ _ ⟨3,by decide,by omega,hF1,b1,rfl⟩⟩
   · exact ⟨p,_,1, .int 3,rfl,rfl,SqL.of hp1,rfl,hnx _ _ ⟨3,by decide,by omega,hF1,b1,rfl⟩⟩
   · exact ⟨p,_,2, .int 3,rfl,rfl,SqL.of hp1,rfl,hnx _ _ ⟨3,by decide,by omega,hF1,b1,rfl⟩⟩
   · exact ⟨p,_,3, .int 60,rfl,rfl,SqL.of hp1,rfl,hnx _ _ ⟨60,by decide,by omega,hF1,b1,rfl⟩⟩
   · exact ⟨p,_,4, .int TShr,rfl,rfl,SqL.of hp1,rfl,hnx _ _ ⟨TShr,by omega,by omega,hF1,b1,rfl⟩⟩
 rintro σ' H1 ⟨most,h0,h1,hF1,b1,rfl⟩
 refine ⟨_,rfl,_,rfl,2,most,rfl,rfl, .inl ⟨by decide,by decide⟩,f,c,2*most,rfl,hF1,by omega,by omega,fun r2 H2 s0 s1 hF2 kp2=> ?_⟩
 refine ⟨_,rfl,r2,most,rfl,rfl,?_⟩
 refine ⟨_,rfl,_,rfl,_,rfl,f,c,most,rfl,hF2,by omega,by omega,fun r3 H3 u0 u1 hF3 kp3=> ?_⟩
 refine ⟨1,r3,rfl,rfl,by show 2≤sizeLine;decide,fun p3 hp3=> ?_⟩
 obtain ⟨np3,nc3⟩:=hF3.ne hp3
 refine ⟨_,rfl,f,c,2,rfl,hF3.same (af hp3),by decide,aV (by decide) (by decide),fun r4 H4 w0 w1 hF4 kp4=> ?_⟩
 have hp4:H4 p3=some (.lst [.int 1, .int (1+r3)]):=(kp4 p3 np3 nc3).trans ac
 have b4:But f c H H4:=b1.trans ((But.of_keep kp2).trans ((But.of_keep kp3).trans ((But.of_same (af hp3)).trans (But.of_keep kp4))))
 have fin:∀y:Int,0 < y→y≤TShr+1→(gh [.int (r2 - most), .int y] H4 Q E0):=by
  intro y y0 y1
  have lx:Lt2 200 (r2 - most):=xO (show (r2 - most).natAbs≤(TShr+10).natAbs by omega) tbig
  have ly:Lt2 200 y:=xO (show y.natAbs≤(TShr+10).natAbs by omega) tbig
  have bg:Big (Int.gcd (r2 - most) y:Int):=jo (ly.big (by decide)) (by omega)
  refine ⟨_,y,rfl,y0,bg,fun r' H5 hr' e5=> ?_⟩
  subst e5
  obtain ⟨x',y',ex,ey,g1,qx,qy⟩:=c9 (x:=r2 - most) (y:=y) (by omega)
  have s5:=af (o:= .tup [.int ((r2 - most) / (Int.gcd (r2 - most) y:Int)), .int (y / (Int.gcd (r2 - most) y:Int))]) hr'
  have lx':=lx.div (y:=(Int.gcd (r2 - most) y:Int))
  have ly':=ly.div (y:=(Int.gcd (r2 - most) y:Int))
  rw [qx] at lx'
  rw [qy] at ly'
  rw [qx,qy] at s5 ⊢
  have y0':0 < y':=bV (k:=(Int.gcd (r2 - most) y:Int)) (by omega) (by omega)
  exact k (.ref r') _ (x',y') (hF4.same s5) (b4.trans (But.of_same s5)) (fU ac) ⟨y0',lx',ly'⟩ ⟨y0',g1⟩
 have r2c:r4=0∨r4=1:=by omega
 rcases r2c with rfl|rfl
 · exact ⟨p3,_,0, .int 1,rfl,rfl,SqL.of hp4,rfl,fin 1 (by decide) (by omega)⟩
 · exact ⟨p3,_,1, .int (1+r3),rfl,rfl,SqL.of hp4,rfl,fin (1+r3) (by omega) (by omega)⟩
end
open PySem L2 Mth Tre Wd Su Tw
theorem tI {ps us:List Pq} (h:Can ps us) {u:Pq} (m:u∈us):∃p∈ps,p.1=u.1:=by
 have e1:=fV h.asc m
 rw [h.eq] at e1
 have n0:rv u.2≠0:=fun z=>(h.sh u m).2 ((py (h.sh u m).1).mp z)
 refine Classical.byContradiction fun no=>n0 ?_
 rw [←e1]
 exact cS fun p mp e=>no ⟨p,mp,e⟩
theorem wB {r:Int} (h0:0≤r) (h4:r < 5):∃m:Nat,atI [V.int 0, .int 1, .int 2, .int 2, .int 3] r=some (.int (m:Int))∧m≤3:=by
 have:r=0∨r=1∨r=2∨r=3∨r=4:=by omega
 rcases this with rfl|rfl|rfl|rfl|rfl
 · exact ⟨0,rfl,by decide⟩
 · exact ⟨1,rfl,by decide⟩
 · exact ⟨2,rfl,by decide⟩
 · exact ⟨2,rfl,by decide⟩
 · exact ⟨3,rfl,by decide⟩
theorem wA (r:Int):(atI [V.str (Str.ofString "both"), .str (Str.ofString "either")] (r%2)=some (.str (Str.ofString "both")))∨(atI [V.str (Str.ofString "both"), .str (Str.ofString "either")] (r%2)=some (.str (Str.ofString "either"))):=by
 have:r%2=0∨r%2=1:=by omega
 rcases this with e|e<;>rw [e]
 · exact .inl rfl
 · exact .inr rfl
section
variable {P:Program} {w:World} {K:PySem.W.Frag} {mg:Str→Option Value} {base:Heap}
def iW:Sp:=fun vs H Q _=>∃(f c nl:Addr),vs= [.ref f, .ref nl]∧FeedAt H f c∧Names H nl∧nl≠f∧nl≠c∧
 ∀v t cc H',FeedAt H' f c→But f c H H'→TrAt H' v t→(∀n,Wx n t cc)→Q v H'
theorem scAt:ay ["_law_feed_here","_law_names_here","_law_way"] ["_law_feed_here","_law_names_here"] (ai io):=⟨rfl,rfl,rfl,by decide +kernel,rfl,by decide +kernel,by decide +kernel⟩
theorem sN {f fT fS fM fD fP:Addr} {fd dT dS dM dD dP:FuncData} (F:Fun K "_law_atom" "_law_atom" io f fd)
 (gT:FnOk P w K mg base CX0 4 fT dT ["_law_feed_here","_law_names_here","_law_deep"] (iR 3)) (kT:PySem.W.keepIn K (.ref fT)=true) (bT:Binds K dT ["_law_feed_here","_law_names_here","_law_deep"] []) (mT:mg "_law_term"=some (.ref fT))
 (gS:FnOk P w K mg base CX0 3 fS dS ["_law_feed_here"] p6) (kS:PySem.W.keepIn K (.ref fS)=true) (bS:Binds K dS ["_law_feed_here"] []) (mS:mg "_law_share"=some (.ref fS))
 (gM:FnOk P w K mg base CX0 3 fM dM ["_law_pairs_here"] kU) (kM:PySem.W.keepIn K (.ref fM)=true) (bM:Binds K dM ["_law_pairs_here"] []) (mM:mg "_law_sum"=some (.ref fM))
 (gP:FnOk P w K mg base CX0 5 fP dP ["_law_feed_here","_law_names_here","_law_deep","_law_most"] iT) (kP:PySem.W.keepIn K (.ref fP)=true) (bP:Binds K dP ["_law_feed_here","_law_names_here","_law_deep","_law_most"] []) (mP:mg "_law_pairs"=some (.ref fP))
 (gD:FnOk P w K mg base CX0 1 fD dD ["_law_feed_here","_law_many"] bZ) (kD:PySem.W.keepIn K (.ref fD)=true) (bD:Binds K dD ["_law_feed_here","_law_many"] []) (mD:mg "_law_draw"=some (.ref fD)):
 FnOk P w K mg base CX0 6 f fd ["_law_feed_here","_law_names_here"] iW:=by
 refine F.ok scAt (fun vs H Q E h=> ?_) (fun cdv A outer s H vs Q E hr h=> ?_)
 · obtain ⟨f,c,nl,rfl,_⟩:=h
   rfl
 obtain ⟨f,c,nl,rfl,hF,hN,nf,nc,k⟩:=h
 have hr1:Room 1 _:=hr.mono (by decide)
 have hr3:Room 3 _:=hr.mono (by decide)
 have hr4:Room 4 _:=hr.mono (by decide)
 refine ⟨_,ag (ar (i:=2) scAt.nd rfl (Or.inl rfl) (ah gD hr1 rfl mD kD bD .nil am (a9 (pv 0) (a9 ae aa))))
  (ag (aP (au aS (pv 2) ae (aB _)) (aj (ao (bJ (a9 aC (a9 (aq ix_list (pv 1) (ah gD hr1 rfl mD kD bD .nil am (a9 (pv 0) (a9 ae aa))) fun _ _=>rfl) aa))))) az)
  (ag (aP (au pV (pv 2) ae (aB _)) (aj (ao (bJ (a9 aC (a9 (ah gM hr3 rfl mM kM bM .nil am (a9 (ah gP hr rfl mP kP bP .nil am (a9 (pv 0) (a9 (pv 1) (a9 ae (a9 ae aa))))) aa)) (a9 (ah gS hr3 rfl mS kS bS .nil am (a9 (pv 0) aa)) aa)))))) az)
  (aj (ao (bJ (a9 aC (a9 (ah gT hr4 rfl mT kT bT .nil am (a9 (pv 0) (a9 (pv 1) (a9 ae aa)))) (a9 (ah gT hr4 rfl mT kT bT .nil am (a9 (pv 0) (a9 (pv 1) (a9 ae aa)))) aa)))))))),?_⟩
 refine ⟨_,rfl,f,c,4,rfl,hF,by decide,aV (by decide) (by decide),fun r H1 _ _ hF1 kp1=> ?_⟩
 have b1:But f c H H1:=But.of_keep kp1
 refine ⟨_,rfl,rfl,_,rfl,?_⟩
 refine ite2 (fun _=> ?_) (fun _=> ?_)
 · refine ⟨_,rfl,_,rfl,f,c,6,rfl,hF1,by decide,aV (by decide) (by decide),fun r2 H2 h0 h6 hF2 kp2=> ?_⟩
   have b2:=b1.trans (But.of_keep kp2)
   obtain ⟨xs,x,e1,e2,wx⟩:=(hN.but nf nc b2).at h0 (by omega)
   refine ⟨nl,xs,r2,_,rfl,rfl,SqL.of e1,e2,by show 2≤sizeLine;decide,fun p np=> ?_⟩
   exact k (.ref p) _ _ _ (hF2.wr (hF2.ne np)) (b2.wr (b2.free hF2 np)) (bX ac (.cons bK (.cons bK .nil))) fun n=> .fl n x wx
 refine ⟨_,rfl,_,_,rfl,rfl,_,rfl,?_⟩
 refine ite2 (fun _=> ?_) (fun _=> ?_)
 · refine ⟨_,rfl,_,rfl,f,c,nl,1,3,rfl,hF1,hN.but nf nc b1,nf,nc,by decide,by decide,fun l ps H2 nl2 hF2 b2 hps hl3 hq=> ?_⟩
   refine ⟨l,ps,3,30,rfl,hps,hl3,by decide,by decide,fun p m=>(hq p m).gq,fun v H3 us s3 hv hcan hul hg=> ?_⟩
   have hF3:=hF2.same s3
   have b3:But f c H2 H3:=But.of_same s3
   refine ⟨_,rfl,f,c,rfl,hF3,fun v2 H4 fr hF4 b4 hv2 gf sf=> ?_⟩
   refine ⟨by show 3≤sizeLine;decide,fun p np=> ?_⟩
   have bb:=b1.trans (b2.trans (b3.trans b4))
   have sp:=af (o:= .tup [.str (Str.ofString "most"),v,v2]) np
   refine k (.ref p) _ _ _ (hF4.wr (hF4.ne np)) (bb.wr (bb.free hF4 np)) (bX ac (.cons bK (.cons (hv.mono ((b4.kd hF3 hF4).trans (Kd.of_same sp))) (.cons (hv2.mono (Kd.of_same sp)) .nil)))) fun n=> .mo n us fr (by omega) (fun u m=> ?_) gf ⟨hcan.asc,hcan.sh,fun _=>rfl⟩ sf
   have gu:=hg u m
   obtain ⟨p',mp',ep'⟩:=tI hcan m
   exact ⟨⟨gu.ty,gu.dep,by rw [←ep'];exact (hq p' mp').len,by rw [←ep'];exact (hq p' mp').gm⟩,gu.gf.mono (by decide),gu.sh,by rw [←ep'];exact (hq p' mp').dep⟩
 · refine ⟨_,rfl,_,rfl,f,c,nl,2,rfl,hF1,hN.but nf nc b1,nf,nc,by decide,fun v t H2 hF2 b2 hv ty dt lt gm=> ?_⟩
   refine ⟨_,rfl,_,rfl,f,c,nl,2,rfl,hF2,hN.but nf nc (b1.trans b2),nf,nc,by decide,fun v2 t2 H3 hF3 b3 hv2 ty2 dt2 lt2 gm2=> ?_⟩
   refine ⟨by show 3≤sizeLine;decide,fun p np=> ?_⟩
   have bb:=b1.trans (b2.trans b3)
   have sp:=af (o:= .tup [.str (Str.ofString "like"),v,v2]) np
   exact k (.ref p) _ _ _ (hF3.wr (hF3.ne np)) (bb.wr (bb.free hF3 np)) (bX ac (.cons bK (.cons (hv.mono ((b3.kd hF2 hF3).trans (Kd.of_same sp))) (.cons (hv2.mono (Kd.of_same sp)) .nil)))) fun n=> .li n t t2 ⟨ty,by omega,by omega,gm⟩ ⟨ty2,by omega,by omega,gm2⟩
def kR (n:Nat):Sp:=fun vs H Q _=>∃(f c nl:Addr) (d:Nat),vs= [.ref f, .ref nl, .int (d:Int)]∧FeedAt H f c∧Names H nl∧nl≠f∧nl≠c∧d < n∧
 ∀v t cc H',FeedAt H' f c→But f c H H'→TrAt H' v t→Wx d t cc→Q v H'
theorem scWi:ay ["_law_feed_here","_law_names_here","_law_deep","_law_way","_law_many"] ["_law_feed_here","_law_names_here","_law_deep"] (ai ig):=⟨rfl,rfl,rfl,by decide +kernel,rfl,by decide +kernel,by decide +kernel⟩
theorem sJ {f fD fA:Addr} {fd dD dA:FuncData} (F:Fun K "_law_wish" "_law_wish" ig f fd) (bF:Binds K fd ["_law_feed_here","_law_names_here","_law_deep"] []) (mF:mg "_law_wish"=some (.ref f)) (B:Blt mg)
 (gD:FnOk P w K mg base CX0 1 fD dD ["_law_feed_here","_law_many"] bZ) (kD:PySem.W.keepIn K (.ref fD)=true) (bD:Binds K dD ["_law_feed_here","_law_many"] []) (mD:mg "_law_draw"=some (.ref fD))
 (gA:FnOk P w K mg base CX0 6 fA dA ["_law_feed_here","_law_names_here"] iW) (kA:PySem.W.keepIn K (.ref fA)=true) (bA:Binds K dA ["_law_feed_here","_law_names_here"] []) (mA:mg "_law_atom"=some (.ref fA)):
 ∀n,FnOk P w K mg base CX0 (n+7) f fd ["_law_feed_here","_law_names_here","_law_deep"] (kR n):=by
 intro n
 induction n with
 |zero=>exact ⟨fun vs H Q E ⟨_,_,_,_,_,_,_,_,_,h,_⟩=>absurd h (by omega),fun A outer s H args us vs Q E _ _ _ _ ⟨_,_,_,_,_,_,_,_,_,h,_⟩=>absurd h (by omega)⟩
 |succ n ih=>
  refine F.ok scWi (fun vs H Q E h=> ?_) (fun cdv A outer s H vs Q E hr h=> ?_)
  · obtain ⟨f,c,nl,d,rfl,_⟩:=h
    rfl
  obtain ⟨f,c,nl,d,rfl,hF,hN,nf,nc,hd,k⟩:=h
  have hr1:Room 1 _:=hr.mono (by omega)
  have hr6:Room 6 _:=hr.mono (by omega)
  refine ⟨_,ag (aP (PW.pt (ff (au aS (pv 2) ae (aB _)) (cW (au aS (ah gD hr1 rfl mD kD bD .nil am (a9 (pv 0) (a9 ae aa))) ae (aB _)))))
   (aj (ao (ah gA hr6 rfl mA kA bA .nil am (a9 (pv 0) (a9 (pv 1) aa))))) az)
   (ag (ar (i:=3) scWi.nd rfl (Or.inl rfl) (ah gD hr1 rfl mD kD bD .nil am (a9 (pv 0) (a9 ae aa))))
   (ag (aP (au aS (pv 3) ae (aB _)) (aj (ao (bJ (a9 aC (a9 (ah ih hr rfl mF F.kp bF .nil am (a9 (pv 0) (a9 (pv 1) (a9 (aw eW (pv 2) ae) aa)))) aa))))) az)
   (ag (ar (i:=4) scWi.nd rfl (Or.inl rfl) (aq ix_list (aL (a9 ae (a9 ae (a9 ae (a9 ae (a9 ae aa)))))) (ah gD hr1 rfl mD kD bD .nil am (a9 (pv 0) (a9 ae aa))) fun _ _=>rfl))
   (aj (ao (bJ (a9 (aq ix_list (aL (a9 aC (a9 aC aa))) (aw cf (pv 3) ae) fun _ _=>rfl) (a9 (aU cz rfl B.tu PyProof.Rows.boot_tuple (a9
    (br (NC:= ["_law_k","_law_deep","_law_feed_here","_law_names_here"]) (mp:= [none,some 2,some 0,some 1]) rfl (bn rfl B.ra (a9 (pv 4) aa)) (fun _ _ _ _ _=>aA (i:=0) (show (["_law_k","_law_deep","_law_feed_here","_law_names_here"]:List Str).Nodup by decide +kernel) rfl (Or.inl rfl)) (fun _ _ _ _ _=>bO)
     (fun _ _ _ _ _=>ah ih hr rfl mF F.kp bF .nil am (a9 (pv 2) (a9 (pv 3) (a9 (aw eW (pv 1) ae) aa))))) aa)) aa)))))))),?_⟩
  have hL:(20000:Nat)≤sizeLine:=by decide +kernel
  have atom:∀H1,FeedAt H1 f c→But f c H H1→(tRet (g9 iW [] E0 (bq (tVar 0) (bq (tVar 1) tNil)))) {nx:=fun _ H'=>Q .non H',rt:=Q} [some (.ref f),some (.ref nl),some (.int (d:Int)),none,none] H1:=by
   intro H1 hF1 b1
   exact ⟨_,rfl,_,rfl,f,c,nl,rfl,hF1,hN.but nf nc b1,nf,nc,fun v t cc H2 hF2 b2 hv hx=>k v t cc H2 hF2 (b1.trans b2) hv (hx d)⟩
  refine ⟨_,rfl,rfl,_,rfl,?_⟩
  refine ite2 (fun _=>atom H hF (But.of_same (Same.refl H))) (fun hd0=> ?_)
  have d0:d≠0:=fun z=>hd0 (by rw [z];decide)
  refine ⟨_,rfl,f,c,4,rfl,hF,by decide,aV (by decide) (by decide),fun r1 H1 _ _ hF1 kp1=> ?_⟩
  have b1:But f c H H1:=But.of_keep kp1
  refine ⟨rfl,_,rfl,?_⟩
  refine ite2 (fun _=>atom H1 hF1 b1) (fun _=> ?_)
  obtain ⟨e,rfl⟩:∃e,d=e+1:=⟨d - 1,by omega⟩
  have ed:(((e+1:Nat):Int) - 1)=(e:Int):=by omega
  refine ⟨_,rfl,f,c,4,rfl,hF1,by decide,aV (by decide) (by decide),fun r2 H2 r20 r24 hF2 kp2=> ?_⟩
  have b2:=b1.trans (But.of_keep kp2)
  refine ⟨_,rfl,rfl,_,rfl,?_⟩
  refine ite2 (fun _=> ?_) (fun _=> ?_)
  · refine ⟨_,rfl,_,rfl,_,rfl,_,_,rfl,rfl,f,c,nl,e,?_,hF2,hN.but nf nc b2,nf,nc,by omega,fun v t cc H3 hF3 b3 hv hx=> ?_⟩
    · show [V.ref f, .ref nl, .int (((e+1:Nat):Int) - 1)]=_
      rw [ed]
    refine ⟨by show 2≤sizeLine;decide,fun p np=> ?_⟩
    have bb:=b2.trans b3
    have sp:=af (o:= .tup [.str (Str.ofString "not"),v]) np
    exact k (.ref p) _ _ _ (hF3.wr (hF3.ne np)) (bb.wr (bb.free hF3 np)) (bX ac (.cons bK (.cons (hv.mono (Kd.of_same sp)) .nil))) (.no e t cc hx)
  refine ⟨by show 5≤sizeLine;decide,fun p np=> ?_⟩
  have nfp:=hF2.ne np
  have n0p:=b2.free hF2 np
  refine ⟨_,rfl,f,c,5,rfl,hF2.wr nfp,by decide,aV (by decide) (by decide),fun r3 H3 h0 h5 hF3 kp3=> ?_⟩
  have hp3:H3 p=some (.lst [.int 0, .int 1, .int 2, .int 2, .int 3]):=(kp3 p nfp.1 nfp.2).trans ac
  have b3:=(b2.wr n0p (o:= .lst [.int 0, .int 1, .int 2, .int 2, .int 3])).trans (But.of_keep kp3)
  obtain ⟨m,em,m3⟩:=wB h0 h5
  refine ⟨p,_,r3,_,rfl,rfl,SqL.of hp3,em,?_⟩
  refine ⟨by show 2≤sizeLine;decide,fun p2 np2=> ?_⟩
  have s4:=af (o:= .lst [.str (Str.ofString "both"), .str (Str.ofString "either")]) np2
  have hF4:=hF3.same s4
  have b4:=b3.trans (But.of_same s4)
  have hp4:(upd H3 p2 (.lst [.str (Str.ofString "both"), .str (Str.ofString "either")])) p2=some (.lst [.str (Str.ofString "both"), .str (Str.ofString "either")]):=ac
  generalize upd H3 p2 (.lst [.str (Str.ofString "both"), .str (Str.ofString "either")])=H4 at hF4 b4 hp4
  obtain ⟨kk,ek,hk⟩:∃kk:Str,atI [V.str (Str.ofString "both"), .str (Str.ofString "either")] (r2%2)=some (.str kk)∧∀l:List (Tr×List Nat),l.length≤3→(∀p∈l,Wx e p.1 p.2)→∃cc,Wx (e+1) (.tup [.str kk, .tup (l.map (·.1))]) cc:=by
   rcases wA r2 with h|h
   · exact ⟨_,h,fun l h1 h2=>⟨_, .bo e l h1 h2⟩⟩
   · exact ⟨_,h,fun l h1 h2=>⟨_, .ei e l h1 h2⟩⟩
  refine ⟨_,rfl,_,_,rfl,rfl,by show (0:Int) < 2;decide,p2,_,_,_,rfl,rfl,SqL.of hp4,ek,?_⟩
  refine jw ?_
  refine bw rfl ?_
  refine ⟨_,rfl,m,rfl,by omega,by omega,fun D nD=> ?_⟩
  have nfD:=hF4.ne nD
  have n0D:=b4.free hF4 nD
  refine cm (n:=m) (fun i acc H'=>FeedAt H' f c∧But f c H H'∧H' D=some (.lst acc)∧∃l:List (Tr×List Nat),TrsAt H' acc (l.map (·.1))∧l.length=i∧∀p∈l,Wx e p.1 p.2)
   ⟨hF4.wr nfD,b4.wr n0D,ac,[], .nil,rfl,fun y m=>by cases m⟩ ?_ ?_
  · rintro i acc H' hi ⟨hF',bt,hD,l,hT,hl,hw⟩
    refine ⟨_,rfl,_,rfl,_,rfl,_,_,rfl,rfl,f,c,nl,e,?_,hF',hN.but nf nc bt,nf,nc,by omega,fun v t cc H6 hF6 b6 hv hx=> ?_⟩
    · show [V.ref f, .ref nl, .int (((e+1:Nat):Int) - 1)]=_
      rw [ed]
    · have hD6:H6 D=some (.lst acc):=b6 D _ nfD.1 nfD.2 hD
      have kd6:=b6.kd hF' hF6
      have tp:=Kd.upd (ys:=acc++ [v]) hD6
      have hl2:=hT.len
      rw [wZ] at hl2
      refine CompN.mk hi (by omega) hD6 ⟨hF6.wr nfD,(bt.trans b6).wr n0D,ac,l++ [(t,cc)],by rw [xD];exact TrsAt.app (.cons (hv.mono tp) .nil) (hT.mono (kd6.trans tp)),by simp [hl],fun u mu=> ?_⟩
      rcases xj.mp mu with mu|mu
      · exact hw u mu
      · rw [x8.mp mu]
        exact hx
  · rintro acc H5 ⟨hF5,b5,hD,l,hT,hl,hw⟩
    refine ⟨D,acc,rfl, .inl ⟨SqL.of hD,fun q nq'=> ?_⟩⟩
    refine ⟨by show 2≤sizeLine;decide,fun q2 nq=> ?_⟩
    have s1:Same H5 (upd H5 q (.tup acc)):=af nq'
    have s2:Same (upd H5 q (.tup acc)) (upd (upd H5 q (.tup acc)) q2 (.tup [.str kk, .ref q])):=af nq
    obtain ⟨cc,hx⟩:=hk l (by omega) hw
    exact k (.ref q2) _ cc _ (hF5.same (s1.trans s2)) (b5.trans (But.of_same (s1.trans s2))) (bX ac (.cons bK (.cons (bX (s2 _ _ ac) (hT.mono (Kd.of_same (s1.trans s2)))) .nil))) hx
end
open PySem L2 Mth Tre Wd Su Tw
theorem tcb1 {r:List V→Hp→VK→Prop} {te:TE} {σ:L2.St} {H:Hp} {Q:VK} (h:te σ H fun v H1=>r [v] H1 Q):tCB r (bq te tNil) σ H Q:=h
def Cn (t:Tr):Prop:=Ty .tm t∨∃m c,Wx m t c
theorem pS {p:Pq} (h:Pb p):(prT p).depth≤8:=by
 have:=h.tb.dep
 unfold prT frT
 simp only [Tr.depth,Trs.depth]
 omega
theorem oi {m:Nat} {t:Tr} {c:List Nat} (h:Wx m t c):t.depth≤2*m+10:=by
 induction h with
 |fl n x h=>simp only [Tr.depth,Trs.depth];omega
 |mo n ps f h1 h2 h3=>
  have:Trs.depth (ps.map prT)≤8:=bc fun t mt=>by
   obtain ⟨p,mp,rfl⟩:=xy.mp mt
   exact pS (h2 p mp)
  unfold frT
  simp only [Tr.depth,Trs.depth]
  omega
 |li n t u h1 h2=>
  have:=h1.dep
  have:=h2.dep
  simp only [Tr.depth,Trs.depth]
  omega
 |no n t c _ ih=>
  simp only [Tr.depth,Trs.depth]
  omega
 |bo n l h1 h2 ih=>
  have:Trs.depth (l.map (·.1))≤2*n+10:=bc fun t mt=>by
   obtain ⟨p,mp,rfl⟩:=xy.mp mt
   exact ih p mp
  simp only [Tr.depth,Trs.depth]
  omega
 |ei n l h1 h2 ih=>
  have:Trs.depth (l.map (·.1))≤2*n+10:=bc fun t mt=>by
   obtain ⟨p,mp,rfl⟩:=xy.mp mt
   exact ih p mp
  simp only [Tr.depth,Trs.depth]
  omega
section
variable {P:Program} {w:World} {K:PySem.W.Frag} {mg:Str→Option Value} {base:Heap}
def iV (n:Nat):Sp:=fun vs H Q _=>∃(v:V) (t:Tr),vs= [v]∧TrAt H v t∧Cn t∧t.depth < n∧∀(i:Int) (H':Hp),Same H H'→Q (.int i) H'
theorem scCo:ay ["_law_thing"] ["_law_thing"] (ai eR):=⟨rfl,rfl,rfl,by decide +kernel,rfl,by decide +kernel,by decide +kernel⟩
theorem qe {f:Addr} {fd:FuncData} (F:Fun K "_law_count" "_law_count" eR f fd) (bF:Binds K fd ["_law_thing"] []) (mF:mg "_law_count"=some (.ref f)) (B:Blt mg):
 ∀n,FnOk P w K mg base CX0 (n+1) f fd ["_law_thing"] (iV n):=by
 intro n
 induction n with
 |zero=>exact ⟨fun vs H Q E ⟨_,_,_,_,_,h,_⟩=>absurd h (by omega),fun A outer s H args us vs Q E _ _ _ _ ⟨_,_,_,_,_,h,_⟩=>absurd h (by omega)⟩
 |succ n ih=>
  refine F.ok scCo (fun vs H Q E h=> ?_) (fun cdv A outer s H vs Q E hr h=> ?_)
  · obtain ⟨v,t,rfl,_⟩:=h
    rfl
  obtain ⟨v,t,rfl,hv,hc,hd,k⟩:=h
  refine ⟨_,ag (aP (PW.pt (ff (au aS (aq ix_tup (pv 0) ae fun _ _=>rfl) aC (aB _)) (cW (au aS (aq ix_tup (pv 0) ae fun _ _=>rfl) aC (aB _))))) (aj (ao ae)) az)
   (ag (aP (au aS (aq ix_tup (pv 0) ae fun _ _=>rfl) aC (aB _)) (aj (ao (aw ba ae (aE (cJ rfl) rfl B.su d7 (a9
    (br (NC:= ["_law_pair"]) (mp:= [none]) rfl (cZ (aq ix_tup (pv 0) ae fun _ _=>rfl)) (fun _ _ _ _ _=>aA (i:=0) (show (["_law_pair"]:List Str).Nodup by decide +kernel) rfl (Or.inl rfl)) (fun _ _ _ _ _=>bO) (fun _ _ _ _ _=>ah ih hr rfl mF F.kp bF .nil am (a9 (aq (r:=rIxT K) ix_tup (pv 0) ae fun _ _=>rfl) aa))) aa))))) az)
   (ag (aP (au aS (aq ix_tup (pv 0) ae fun _ _=>rfl) aC (aB _)) (aj (ao (aw ba (aw ba ae (ah ih hr rfl mF F.kp bF .nil am (a9 (aq ix_tup (pv 0) ae fun _ _=>rfl) aa))) (ah ih hr rfl mF F.kp bF .nil am (a9 (aq ix_tup (pv 0) ae fun _ _=>rfl) aa))))) az)
   (ag (aP (au aS (aq ix_tup (pv 0) ae fun _ _=>rfl) aC (aB _)) (aj (ao (aw ba ae (ah ih hr rfl mF F.kp bF .nil am (a9 (aq ix_tup (pv 0) ae fun _ _=>rfl) aa))))) az)
   (aj (ao (aw ba ae (aE (cJ rfl) rfl B.su d7 (a9
    (br (NC:= ["_law_one"]) (mp:= [none]) rfl (cZ (aq ix_tup (pv 0) (u6 oo ae) fun _ _=>rfl)) (fun _ _ _ _ _=>aA (i:=0) (show (["_law_one"]:List Str).Nodup by decide +kernel) rfl (Or.inl rfl)) (fun _ _ _ _ _=>bO) (fun _ _ _ _ _=>ah ih hr rfl mF F.kp bF .nil am (a9 (pv 0) aa))) aa)))))))),?_⟩
  have hL:(20000:Nat)≤sizeLine:=by decide +kernel
  by_cases hb:∃(kk:Str) (r q:Addr) (xs ws:List V) (ts:List Tr),v= .ref r∧H r=some (.tup xs)∧atI xs 0=some (.str kk)∧atI xs (-1)=some (.ref q)∧H q=some (.tup ws)∧TrsAt H ws ts∧ts.length≤3∧(∀t∈ts,Cn t∧t.depth < n)∧kk≠"flag"∧kk≠"name"∧kk≠"most"∧kk≠"like"∧kk≠"not"
  · obtain ⟨kk,r,q,xs,ws,ts,rfl,h1,x0,x1,h4,h5,t3,ht,n1,n2,n3,n4,n5⟩:=hb
    have wl:=h5.len
    refine ⟨_,rfl,r,_,0, .str kk,rfl,rfl,SqT.of h1,x0,rfl,_,rfl,?_⟩
    rw [decide_eq_false (show¬V.str kk=V.str "flag" from fun e=>n1 (V.str.inj e))]
    refine iteF ?_
    refine ⟨_,rfl,r,_,0, .str kk,rfl,rfl,SqT.of h1,x0,rfl,_,rfl,?_⟩
    rw [decide_eq_false (show¬V.str kk=V.str "name" from fun e=>n2 (V.str.inj e))]
    refine iteF ?_
    refine ⟨_,rfl,r,_,0, .str kk,rfl,rfl,SqT.of h1,x0,rfl,_,rfl,?_⟩
    rw [decide_eq_false (show¬V.str kk=V.str "most" from fun e=>n3 (V.str.inj e))]
    refine iteF ?_
    refine ⟨_,rfl,r,_,0, .str kk,rfl,rfl,SqT.of h1,x0,rfl,_,rfl,?_⟩
    rw [decide_eq_false (show¬V.str kk=V.str "like" from fun e=>n4 (V.str.inj e))]
    refine iteF ?_
    refine ⟨_,rfl,r,_,0, .str kk,rfl,rfl,SqT.of h1,x0,rfl,_,rfl,?_⟩
    rw [decide_eq_false (show¬V.str kk=V.str "not" from fun e=>n5 (V.str.inj e))]
    refine iteF ?_
    refine oB ?_
    dsimp only
    refine iJ ?_
    refine tcb1 ?_
    refine bw rfl ?_
    refine ⟨_,rfl,_,rfl,r,_,-1, .ref q,rfl,rfl,SqT.of h1,x1,q,rfl,⟨ws,SqT.of h4⟩,fun D nD=> ?_⟩
    refine eD (xs:=ws) (fun i acc H'=>Same H H'∧H' D=some (.lst acc)∧∃ns:List Int,acc=ns.map V.int∧ns.length=i) ⟨af nD,ac,[],rfl,rfl⟩ (fun i acc H' p=>SqT.of (p.1 _ _ h4)) ?_ ?_
    · rintro i x acc H' hi ex ⟨sH,hD,ns,rfl,nl⟩
      obtain ⟨t',et,htt⟩:=h5.get' ex
      have mt:=xa et
      refine ⟨_,rfl,x,t',rfl,htt.mono (Kd.of_same sH),(ht t' mt).1,(ht t' mt).2,fun j H6 s6=>CompN.mk hi (by rw [wZ];omega) (s6 _ _ hD) ⟨aX nD (sH.trans s6),ac,ns++ [j],by rw [xD];rfl,by simp [nl]⟩⟩
    · rintro acc H' ⟨sH,hD,ns,rfl,nl⟩
      exact ⟨D,ns,rfl,SqL.of hD,_,_,rfl,rfl,k _ H' sH⟩
  rcases hc with hc|⟨m,c,hc⟩
  · cases hc with
    |nm x=>
     obtain ⟨r,y,rfl,h1,h2⟩:=at2 hv
     refine ⟨_,rfl,r,_,0, .str "name",rfl,rfl,SqT.of h1,rfl,rfl,_,rfl,?_⟩
     rw [decide_eq_false (show¬V.str "name"=V.str "flag" by decide +kernel)]
     refine iteF ?_
     refine ⟨_,rfl,r,_,0, .str "name",rfl,rfl,SqT.of h1,rfl,rfl,_,rfl,?_⟩
     rw [decide_eq_true rfl]
     exact iteT (k _ H (Same.refl H))
    |ap g ts t3 hty=>
     obtain ⟨r,y,z,rfl,h1,h2,h3⟩:=at3 hv
     obtain ⟨q,ws,rfl,h4,h5⟩:=at_t h3
     refine absurd ⟨"call",r,q,_,ws,ts,rfl,h1,rfl,rfl,h4,h5,t3,fun t mt=>⟨.inl (hty t mt),?_⟩,by decide +kernel,by decide +kernel,by decide +kernel,by decide +kernel,by decide +kernel⟩ hb
     have hd2:=hd
     simp only [Tr.depth,Trs.depth] at hd2
     have:=aK mt
     omega
  · cases hc with
    |fl _ x hx=>
     obtain ⟨r,y,rfl,h1,h2⟩:=at2 hv
     refine ⟨_,rfl,r,_,0, .str "flag",rfl,rfl,SqT.of h1,rfl,rfl,_,rfl,?_⟩
     rw [decide_eq_true rfl]
     exact iteT (k _ H (Same.refl H))
    |no m t c hx=>
     obtain ⟨r,y,rfl,h1,h2⟩:=at2 hv
     have hd2:=hd
     simp only [Tr.depth,Trs.depth] at hd2
     refine ⟨_,rfl,r,_,0, .str "not",rfl,rfl,SqT.of h1,rfl,rfl,_,rfl,?_⟩
     rw [decide_eq_false (show¬V.str "not"=V.str "flag" by decide +kernel)]
     refine iteF ?_
     refine ⟨_,rfl,r,_,0, .str "not",rfl,rfl,SqT.of h1,rfl,rfl,_,rfl,?_⟩
     rw [decide_eq_false (show¬V.str "not"=V.str "name" by decide +kernel)]
     refine iteF ?_
     refine ⟨_,rfl,r,_,0, .str "not",rfl,rfl,SqT.of h1,rfl,rfl,_,rfl,?_⟩
     rw [decide_eq_false (show¬V.str "not"=V.str "most" by decide +kernel)]
     refine iteF ?_
     refine ⟨_,rfl,r,_,0, .str "not",rfl,rfl,SqT.of h1,rfl,rfl,_,rfl,?_⟩
     rw [decide_eq_false (show¬V.str "not"=V.str "like" by decide +kernel)]
     refine iteF ?_
     refine ⟨_,rfl,r,_,0, .str "not",rfl,rfl,SqT.of h1,rfl,rfl,_,rfl,?_⟩
     rw [decide_eq_true rfl]
     refine iteT ?_
     refine ⟨_,rfl,r,_,1,y,rfl,rfl,SqT.of h1,rfl,y,t,rfl,h2, .inr ⟨m,c,hx⟩,by omega,fun j H1 s1=> ?_⟩
     exact ⟨_,_,rfl,rfl,k _ H1 s1⟩
    |li _ t u ht hu=>
     obtain ⟨r,y,y2,rfl,h1,h2,h3⟩:=at3 hv
     have hd2:=hd
     simp only [Tr.depth,Trs.depth] at hd2
     refine ⟨_,rfl,r,_,0, .str "like",rfl,rfl,SqT.of h1,rfl,rfl,_,rfl,?_⟩
     rw [decide_eq_false (show¬V.str "like"=V.str "flag" by decide +kernel)]
     refine iteF ?_
     refine ⟨_,rfl,r,_,0, .str "like",rfl,rfl,SqT.of h1,rfl,rfl,_,rfl,?_⟩
     rw [decide_eq_false (show¬V.str "like"=V.str "name" by decide +kernel)]
     refine iteF ?_
     refine ⟨_,rfl,r,_,0, .str "like",rfl,rfl,SqT.of h1,rfl,rfl,_,rfl,?_⟩
     rw [decide_eq_false (show¬V.str "like"=V.str "most" by decide +kernel)]
     refine iteF ?_
     refine ⟨_,rfl,r,_,0, .str "like",rfl,rfl,SqT.of h1,rfl,rfl,_,rfl,?_⟩
     rw [decide_eq_true rfl]
     refine iteT ?_
     refine ⟨_,rfl,r,_,1,y,rfl,rfl,SqT.of h1,rfl,y,t,rfl,h2, .inl ht.ty,by omega,fun j H1 s1=> ?_⟩
     refine ⟨_,_,rfl,rfl,_,rfl,r,_,2,y2,rfl,rfl,SqT.of (s1 _ _ h1),rfl,y2,u,rfl,h3.mono (Kd.of_same s1), .inl hu.ty,by omega,fun j2 H2 s2=> ?_⟩
     exact ⟨_,_,rfl,rfl,k _ H2 (s1.trans s2)⟩
    |mo _ ps fr hp3 hP hf _ _=>
     obtain ⟨r,y,y2,rfl,h1,h2,h3⟩:=at3 hv
     obtain ⟨q,ws,rfl,h4,h5⟩:=at_t h2
     have wl:=h5.len
     rw [wZ] at wl
     have hd2:=hd
     unfold frT at hd2
     simp only [Tr.depth,Trs.depth] at hd2
     refine ⟨_,rfl,r,_,0, .str "most",rfl,rfl,SqT.of h1,rfl,rfl,_,rfl,?_⟩
     rw [decide_eq_false (show¬V.str "most"=V.str "flag" by decide +kernel)]
     refine iteF ?_
     refine ⟨_,rfl,r,_,0, .str "most",rfl,rfl,SqT.of h1,rfl,rfl,_,rfl,?_⟩
     rw [decide_eq_false (show¬V.str "most"=V.str "name" by decide +kernel)]
     refine iteF ?_
     refine ⟨_,rfl,r,_,0, .str "most",rfl,rfl,SqT.of h1,rfl,rfl,_,rfl,?_⟩
     rw [decide_eq_true rfl]
     refine iteT ?_
     refine iJ ?_
     refine tcb1 ?_
     refine bw rfl ?_
     refine ⟨_,rfl,r,_,1, .ref q,rfl,rfl,SqT.of h1,rfl,q,rfl,⟨ws,SqT.of h4⟩,fun D nD=> ?_⟩
     refine eD (xs:=ws) (fun i acc H'=>Same H H'∧H' D=some (.lst acc)∧∃ns:List Int,acc=ns.map V.int∧ns.length=i) ⟨af nD,ac,[],rfl,rfl⟩ (fun i acc H' p=>SqT.of (p.1 _ _ h4)) ?_ ?_
     · rintro i x acc H' hi ex ⟨sH,hD,ns,rfl,nl⟩
       obtain ⟨t',et,htt⟩:=h5.get' ex
       have mt:=aK (xa et)
       rw [xw] at et
       obtain ⟨p,ep,rfl⟩:=xG.mp et
       have hp:=hP p (xa ep)
       obtain ⟨r',xt,xf,rfl,hr',hxt,hxf⟩:=dU (htt.mono (Kd.of_same sH))
       have hdp:p.1.depth < (prT p).depth:=by
        unfold prT
        simp only [Tr.depth,Trs.depth]
        omega
       refine ⟨_,rfl,r',_,0,xt,rfl,rfl,SqT.of hr',rfl,xt,p.1,rfl,hxt, .inl hp.tb.ty,by omega,fun j H6 s6=>CompN.mk hi (by rw [wZ];omega) (s6 _ _ hD) ⟨aX nD (sH.trans s6),ac,ns++ [j],by rw [xD];rfl,by simp [nl]⟩⟩
     · rintro acc H' ⟨sH,hD,ns,rfl,nl⟩
       exact ⟨D,ns,rfl,SqL.of hD,_,_,rfl,rfl,k _ H' sH⟩
    |bo m l l3 hl=>
     obtain ⟨r,y,rfl,h1,h2⟩:=at2 hv
     obtain ⟨q,ws,rfl,h4,h5⟩:=at_t h2
     refine absurd ⟨"both",r,q,_,ws,_,rfl,h1,rfl,rfl,h4,h5,by rw [wZ];exact l3,fun t mt=> ?_,by decide +kernel,by decide +kernel,by decide +kernel,by decide +kernel,by decide +kernel⟩ hb
     have hd2:=hd
     simp only [Tr.depth,Trs.depth] at hd2
     have hdm:=aK mt
     obtain ⟨p,mp,rfl⟩:=xy.mp mt
     exact ⟨.inr ⟨m,p.2,hl p mp⟩,by omega⟩
    |ei m l l3 hl=>
     obtain ⟨r,y,rfl,h1,h2⟩:=at2 hv
     obtain ⟨q,ws,rfl,h4,h5⟩:=at_t h2
     refine absurd ⟨"either",r,q,_,ws,_,rfl,h1,rfl,rfl,h4,h5,by rw [wZ];exact l3,fun t mt=> ?_,by decide +kernel,by decide +kernel,by decide +kernel,by decide +kernel,by decide +kernel⟩ hb
     have hd2:=hd
     simp only [Tr.depth,Trs.depth] at hd2
     have hdm:=aK mt
     obtain ⟨p,mp,rfl⟩:=xy.mp mt
     exact ⟨.inr ⟨m,p.2,hl p mp⟩,by omega⟩
def iS:Sp:=fun vs H Q _=>∃(f c nl:Addr) (d:Nat),vs= [.ref f, .ref nl, .int (d:Int)]∧FeedAt H f c∧Names H nl∧nl≠f∧nl≠c∧0 < d∧d < 4∧
 ∀v t cc H',FeedAt H' f c→But f c H H'→TrAt H' v t→Wx d t cc→Q v H'
theorem scSW:ay ["_law_feed_here","_law_names_here","_law_deep","_law_wish_here"] ["_law_feed_here","_law_names_here","_law_deep"] (ai eM):=⟨rfl,rfl,rfl,by decide +kernel,rfl,by decide +kernel,by decide +kernel⟩
theorem pW {f fW fC:Addr} {fd dW dC:FuncData} (F:Fun K "_law_some_wish" "_law_some_wish" eM f fd)
 (gW:FnOk P w K mg base CX0 11 fW dW ["_law_feed_here","_law_names_here","_law_deep"] (kR 4)) (kW:PySem.W.keepIn K (.ref fW)=true) (bW:Binds K dW ["_law_feed_here","_law_names_here","_law_deep"] []) (mW:mg "_law_wish"=some (.ref fW))
 (gC:FnOk P w K mg base CX0 18 fC dC ["_law_thing"] (iV 17)) (kC:PySem.W.keepIn K (.ref fC)=true) (bC:Binds K dC ["_law_thing"] []) (mC:mg "_law_count"=some (.ref fC)):FnOk P w K mg base CX0 19 f fd ["_law_feed_here","_law_names_here","_law_deep"] iS:=by
 refine F.ok scSW (fun vs H Q E h=> ?_) (fun cdv A outer s H vs Q E hr h=> ?_)
 · obtain ⟨f,c,nl,d,rfl,_⟩:=h
   rfl
 obtain ⟨f,c,nl,d,rfl,hF,hN,nf,nc,d0,d4,k⟩:=h
 have hr11:Room 11 _:=hr.mono (by decide)
 refine ⟨_,ag (ar (i:=3) scSW.nd rfl (Or.inl rfl) (ah gW hr11 rfl mW kW bW .nil am (a9 (pv 0) (a9 (pv 1) (a9 (pv 2) aa)))))
  (ag (aP (au ub (ah gC hr rfl mC kC bC .nil am (a9 (pv 3) aa)) ae (aB _)) (aj (ao (bJ (a9 aC (a9 (bJ (a9 aC (a9 (aq ix_list (pv 1) ae fun _ _=>rfl) aa))) aa))))) az)
  (aj (ao (pv 3)))),?_⟩
 refine ⟨_,rfl,_,rfl,_,rfl,f,c,nl,d,rfl,hF,hN,nf,nc,d4,fun v t cc H1 hF1 b1 hv hx=> ?_⟩
 have hdp:=oi hx
 refine ⟨_,rfl,v,t,rfl,hv, .inr ⟨d,cc,hx⟩,by omega,fun i H2 s2=> ?_⟩
 have hF2:=hF1.same s2
 have b2:=b1.trans (But.of_same s2)
 refine ⟨_,_,rfl,rfl,_,rfl,?_⟩
 refine ite2 (fun _=> ?_) (fun _=> ?_)
 · obtain ⟨xs,x,e1,e2,wx⟩:=(hN.but nf nc b2).at (i:=0) (by decide) (by decide)
   refine ⟨_,rfl,nl,xs,0,_,rfl,rfl,SqL.of e1,e2,by show 2≤sizeLine;decide,fun p np=> ?_⟩
   have s3:=af (o:= .tup [.str (Str.ofString "flag"), .str x]) np
   have h3:(upd H2 p (.tup [.str (Str.ofString "flag"), .str x])) p=some (.tup [.str (Str.ofString "flag"), .str x]):=ac
   have hF3:=hF2.same s3
   have b3:=b2.trans (But.of_same s3)
   generalize upd H2 p (.tup [.str (Str.ofString "flag"), .str x])=H3 at s3 h3 hF3 b3 ⊢
   refine ⟨by show 2≤sizeLine;decide,fun p2 np2=> ?_⟩
   have s4:=af (o:= .tup [.str (Str.ofString "not"), .ref p]) np2
   obtain ⟨e,rfl⟩:∃e,d=e+1:=⟨d - 1,by omega⟩
   exact k (.ref p2) _ _ _ (hF3.same s4) (b3.trans (But.of_same s4)) (bX ac (.cons bK (.cons (bX (s4 _ _ h3) (.cons bK (.cons bK .nil))) .nil))) (.no e _ _ (.fl e x wx))
 · exact ⟨_,rfl,k v t cc H2 hF2 b2 (hv.mono (Kd.of_same s2)) hx⟩
end
end K09
namespace Fm
open PySem L2 Tre Wd Mth Dec Su Tw
inductive Gt:Tr→Prop
 |nm (x:Str):Nm x→Gt (.tup [s_ "name", .str x])
 |ap (f:Str) (ts:List Tr):Nm f→0 < ts.length→ts.length≤3→(∀t∈ts,Gt t)→Gt (.tup [s_ "call", .str f, .tup ts])
def tk:Tr→List Tr
 | .tup [_,_, .tup ts]=>ts
 |_=> []
theorem vZ (x:Str):tk (.tup [s_ "name", .str x])= []:=rfl
theorem w6 (f:Str) (ts:List Tr):tk (.tup [s_ "call", .str f, .tup ts])=ts:=rfl
inductive Sb:Tr→Tr→Prop
 |refl (t:Tr):Sb t t
 |step {x u t:Tr}:u∈tk t→Sb x u→Sb x t
theorem Gt.tk {t u:Tr} (h:Gt t) (m:u∈tk t):Gt u∧u.depth < t.depth:=by
 cases h with
 |nm x hx=>rw [vZ] at m;cases m
 |ap f ts hf h0 h3 hh=>
  rw [w6] at m
  refine ⟨hh u m,?_⟩
  have:=aK m
  simp only [Tr.depth,Trs.depth]
  omega
theorem Sb.tk {x t y:Tr} (h:Sb x t) (m:y∈tk x):Sb y t:=by
 induction h with
 |refl=>exact .step m (.refl _)
 |step m' _ ih=>exact .step m' ih
def Clt (acc:List Tr):Prop:=∀x∈acc,∀y∈tk x,y∈acc
theorem Clt.sb {acc:List Tr} (c:Clt acc) {x t:Tr} (h:Sb x t):t∈acc→x∈acc:=by
 induction h with
 |refl=>exact fun m=>m
 |step m _ ih=>exact fun ha=>ih (c _ ha _ m)
theorem sub_len {α:Type}:∀ {l U:List α},l.Nodup→(∀x∈l,x∈U)→l.length≤U.length
 | [],U,_,_=>xz _
 |x::l,U,h,hs=>by
  obtain ⟨h1,h2⟩:=yv.mp h
  obtain ⟨a,b,rfl⟩:=List.append_of_mem (hs x x5)
  have:l.length≤(a++b).length:=sub_len h2 fun y my=>by
   have:=hs y (x6 _ my)
   simp only [xj,xi] at this ⊢
   rcases this with h|rfl|h
   · exact .inl h
   · exact absurd my h1
   · exact .inr h
  simp only [x3,xh] at this ⊢
  omega
open Classical in
noncomputable def ix (us:List Tr) (t:Tr):Nat:=us.findIdx fun x=>decide (x=t)
noncomputable def cnt (n:Nat) (rs:List Nat):Nat:=((List.range n).filter fun r=>decide (r∈rs)).length
end Fm
namespace Dj
open PySem PySem.Spec PySem.W PyProof.Rows L2 Tre Srt
section
variable {X:Cx}
end
end Dj
namespace K09
open PySem L2 Mth Tre Wd Su Tw
theorem ui {t:Tr} (h:Ty .ws t):Dj.Hs t:=by cases h<;>exact ⟨_,_,rfl⟩
def Up (us:List Tr):Prop:=∀(i j:Nat) (t u:Tr),i≤j→us[i]?=some t→us[j]?=some u→ltT u t=false
noncomputable def atP (t:Tr):List Tr:=(Fs.firsts [] (allN 3 t)).filter isAt
theorem sQ {t u:Tr}:u∈atP t↔u∈allN 3 t∧isAt u=true:=by
 unfold atP
 rw [xY,Fs.mem_fst]
 simp
section
variable {P:Program} {w:World} {K:PySem.W.Frag} {mg:Str→Option Value} {base:Heap}
def pe:Sp:=fun vs H Q _=>∃(l:Addr) (xs:List V) (ts U:List Tr),vs= [.ref l]∧H l=some (.lst xs)∧TrsAt H xs ts∧(∀t∈ts,∃c,Wy 3 t c)∧ts.length≤4∧(∀t∈ts,∀u∈atP t,u∈U)∧U.length < 64∧
 ∀D ws us H',H D=none→Same H H'→H' D=some (.lst ws)→TrsAt H' ws us→us.Nodup→Up us→(∀u,u∈us↔∃t∈ts,u∈atP t)→Q (.ref D) H'
theorem scAof:ay ["wishes","found","wish","atom"] ["wishes"] (ai sAof):=⟨rfl,rfl,rfl,by decide +kernel,rfl,by decide +kernel,by decide +kernel⟩
theorem v8 {f fA fS:Addr} {fd dA dS:FuncData} (F:Fun K "atoms_of" "atoms_of" sAof f fd) (B:Blt mg)
 (gA:FnOk P w K mg base CX0 26 fA dA ["wish"] lU) (kA:PySem.W.keepIn K (.ref fA)=true) (bA:Binds K dA ["wish"] []) (mA:mg "atoms_in"=some (.ref fA))
 (gS:FnOk P w K mg base CX0 20 fS dS ["wish"] (spSw 4)) (kS:PySem.W.keepIn K (.ref fS)=true) (bS:Binds K dS ["wish"] []) (mS:mg "shown_wish"=some (.ref fS)):
 FnOk P w K mg base CX0 60 f fd ["wishes"] pe:=by
 refine F.ok scAof (fun vs H Q E h=> ?_) (fun cdv A outer s H vs Q E hr h=> ?_)
 · obtain ⟨l,xs,ts,U,rfl,_⟩:=h
   rfl
 obtain ⟨l,xs,ts,U,rfl,hl,hT,hwy,ht4,hU,hU64,k⟩:=h
 have hr20:Room 20 _:=hr.mono (by decide)
 have hr26:Room 26 _:=hr.mono (by decide)
 have hu60:(A.deeper (PyProof.Rows.envOfC (Str.ofString "atoms_of") (ai sAof) s.heap.objs.size f cdv)).units+60 < cLine:=by have:=hr.units;omega
 refine ⟨_,ag (ar (i:=1) scAof.nd rfl (Or.inl rfl) dR)
  (ag (b9 PassesOwn.never rfl (b8 (pv 0)) (aA (i:=2) scAof.nd rfl (Or.inl rfl))
   (aj (b9 PassesOwn.never rfl (b8 (ah gA hr26 rfl mA kA bA .nil am (a9 (pv 2) aa))) (aA (i:=3) scAof.nd rfl (Or.inl rfl))
    (aj (aZ (cq PySem.F.plainAttrs_dict PySem.F.slot_dict_setdefault PySem.F.type_dict_setdefault di (pv 1) (a9 (ah gS hr20 rfl mS kS bS .nil am (a9 (pv 3) aa)) (a9 (pv 3) aa))))))))
  (aj (ao (aE (Dj.call_sortedV rfl hu60) rfl B.so PyProof.Rows.boot_sorted (a9 (eV PySem.F.plainAttrs_dict PySem.F.slot_dict_values PySem.F.type_dict_values df (pv 1)) aa))))),?_⟩
 have hL20:(20000:Nat)≤sizeLine:=by decide +kernel
 intro d nd
 have s1:Same H (upd H d (.dK [])):=af nd
 have hd1:(upd H d (.dK [])) d=some (.dK []):=ac
 have ldn:l≠d:=fun q=>by rw [q,nd] at hl;cases hl
 generalize upd H d (.dK [])=H1 at s1 hd1 ⊢
 have xl:=hT.len
 have fsl:∀l:List Tr,(Fs.firsts ([]:List Tr) l).length≤l.length:=fun l=>by have:=Fs.firsts_len l [];simpa using this
 have atl:∀t∈ts,(atP t).length≤64:=fun t m=>by
  obtain ⟨c,hw⟩:=hwy t m
  have h1:=yc isAt (Fs.firsts [] (allN 3 t))
  have h2:=fsl (allN 3 t)
  have h3:=cu hw
  have e:4^3=64:=by decide
  unfold atP
  omega
 have hbig:(ts.flatMap atP).length≤256:=by
  have h1:=cr (B:=64) (l:=ts) (f:=atP) atl
  have:ts.length*64≤4*64:=xJ _ ht4
  omega
 refine ⟨_,rfl,l,rfl,⟨xs,SqL.of (s1 _ _ hl)⟩,?_⟩
 refine bh (xs:=xs) (fun i σ H'=>(∃v2 v3,σ= [some (.ref l),some (.ref d),v2,v3])∧But1 d H1 H'∧∃kvs,H' d=some (.dK kvs)∧DictW H' kvs (Fs.firsts [] ((ts.take i).flatMap atP)))
  ⟨⟨none,none,rfl⟩,fun x o _ e=>e,[],hd1, .nil⟩ (fun i σ H' _ p=>SqL.of (p.2.1 _ _ ldn (s1 _ _ hl))) ?_ ?_
 · rintro i x σ H3 ex ⟨⟨v2,v3,rfl⟩,b3,kvs3,hd3,hD3⟩
   obtain ⟨u,eu,hu⟩:=hT.get' ex
   have mu:=xa eu
   obtain ⟨c,hw⟩:=hwy u mu
   have hu3:=hu.mono ((Kd.of_same s1).trans (b3.kd hd1))
   have hle:=cH ts atP (i+1)
   rw [aN eu,x3] at hle
   refine ⟨_,rfl,x,u,c,rfl,hu3,hw,fun la H4 as nla s4 hla has=>⟨la,rfl,⟨as,SqL.of hla⟩,?_⟩⟩
   have has:TrsAt H4 as (atP u):=has
   have hd4:=s4 _ _ hd3
   have lad:la≠d:=fun q=>by rw [q,hd3] at nla;cases nla
   have asl:=has.len
   refine bh (xs:=as) (fun j σ H'=>(∃v3,σ= [some (.ref l),some (.ref d),some x,v3])∧But1 d H4 H'∧∃kvs,H' d=some (.dK kvs)∧DictW H' kvs (Fs.firsts (Fs.firsts [] ((ts.take i).flatMap atP)) ((atP u).take j)))
    ⟨⟨v3,rfl⟩,fun x o _ e=>e,kvs3,hd4,hD3.mono (Kd.of_same s4)⟩ (fun j σ H' _ p=>SqL.of (p.2.1 _ _ lad hla)) ?_ ?_
   · rintro j q σ H7 eq' ⟨⟨v4,rfl⟩,b7,kvs7,hd7,hD7⟩
     obtain ⟨g,eg,hg⟩:=has.get' eq'
     have mg':=xa eg
     obtain ⟨m',c',hm',hwg⟩:=dh hw g (xY.mp mg').1
     have hg7:=hg.mono (b7.kd hd4)
     have acl:(Fs.firsts (Fs.firsts [] ((ts.take i).flatMap atP)) ((atP u).take j)).length < 20000:=by
      have a1:=Fs.firsts_len ((atP u).take j) (Fs.firsts [] ((ts.take i).flatMap atP))
      have a3:=fsl ((ts.take i).flatMap atP)
      have a4:=atl u mu
      rw [xM] at a1
      omega
     refine ⟨_,rfl, .inr (.inr (.inl ⟨rfl, .inl ⟨kvs7,hd7⟩⟩)),_,rfl,q,g,c',m',rfl,hg7,hwg.wx,by omega,by omega,fun zs H8 s8 ezs=>⟨_,rfl,?_⟩⟩
     subst ezs
     have hd8:=s8 _ _ hd7
     have hD8:=hD7.mono (Kd.of_same s8)
     have hg8:=hg7.mono (Kd.of_same s8)
     have bb:But1 d H4 H8:=b7.trans (But1.of_same s8)
     refine ⟨d,kvs7,Sum.inr zs,q,rfl,rfl,hd8,by rw [hD8.len];omega,fun y' hy=> ?_,fun hy=> ?_⟩
     · have mt:g∈_:=Classical.byContradiction fun no=>by rw [(hD8.none_iff hwg).mpr no] at hy;cases hy
       refine ⟨⟨_,rfl⟩,bb,kvs7,hd8,?_⟩
       rw [Fs.firsts_take eg,Fs.add_in mt]
       exact hD8
     · have mo:=(hD8.none_iff hwg).mp hy
       have tp2:Kd H8 (upd H8 d (.dK (kvs7++ [(Sum.inr zs,q)]))):=Dj.Kd.updK hd8
       refine ⟨⟨_,rfl⟩,bb.trans fun x o nx e=>by rw [aG nx];exact e,_,ac,?_⟩
       rw [Fs.firsts_take eg,Fs.add_out mo]
       exact Paired.snoc (hD8.mono tp2) ⟨zs,m',rfl,hm',hwg,hg8.mono tp2⟩
   · rintro σ H7 ⟨⟨v4,rfl⟩,b7,kvs7,hd7,hD7⟩
     rw [asl,xH] at hD7
     refine ⟨⟨_,_,rfl⟩,(b3.trans (But1.of_same s4)).trans b7,kvs7,hd7,?_⟩
     rw [aN eu,Fs.firsts_app]
     exact hD7
 · rintro σ H3 ⟨⟨v2,v3,rfl⟩,b3,kvs3,hd3,hD3⟩
   rw [xl,xH] at hD3
   have memA:∀u,u∈Fs.firsts [] (ts.flatMap atP)↔∃t∈ts,u∈atP t:=fun u=>by
    rw [Fs.mem_fst,xA]
    simp
   have ndA:(Fs.firsts [] (ts.flatMap atP)).Nodup:=Fs.firsts_nd List.nodup_nil
   have lenA:(Fs.firsts [] (ts.flatMap atP)).length≤U.length:=Fm.sub_len ndA fun u m=>by
    obtain ⟨t,mt,mu⟩:=(memA u).mp m
    exact hU t mt u mu
   generalize Fs.firsts [] (ts.flatMap atP)=acc at hD3 memA ndA lenA
   have tyA:∀u∈acc,Ty .ws u∧u.depth≤16:=fun u m=>by
    obtain ⟨n,c,hn,hw⟩:=hD3.wk u m
    have:=lK hw.wx
    exact ⟨this.1,by omega⟩
   refine ⟨_,rfl, .inr (.inr (.inl ⟨rfl, .inl ⟨kvs3,hd3⟩⟩)),d,kvs3,rfl,rfl,hd3,fun x nx=> ?_⟩
   have s3:Same H3 (upd H3 x (cv x d)):=af nx
   refine ⟨x,d,kvs3,acc,rfl,ac,s3 _ _ hd3,hD3.vals.mono (Kd.of_same s3),by omega,fun t m=>⟨ui (tyA t m).1,dH (tyA t m).1,by have:=(tyA t m).2;omega⟩,fun t m u m'=>oq 40 (by have:=(tyA t m).2;omega) (tyA t m).1 (tyA u m').1,fun D ws us nD hp hws hup=> ?_⟩
   have bH:∀y o,H y=some o→H3 y=some o:=fun y o e=>b3 y o (aJ e nd) (s1 _ _ e)
   have sH:Same H (upd (upd H3 x (cv x d)) D (.lst ws)):=fun y o e=>af nD _ _ (s3 _ _ (bH y o e))
   refine k D ws us _ ?_ sH ac (hws.mono (Kd.of_same (af nD))) (hp.nodup_iff.mpr ndA) hup fun u=>by rw [hp.mem_iff,memA]
   have n2:=s3.free nD
   cases e:H D with
   |none=>rfl
   |some o=>rw [bH D o e] at n2;cases n2
def p5 (n:Nat):Sp:=fun vs H Q _=>∃(v:V) (t:Tr) (c:List Nat) (m:Nat),vs= [v]∧TrAt H v t∧Wy m t c∧m < n∧n≤4∧∀H',Same H H'→Q (.int ((allN m t).length:Int)) H'
theorem wm:ay ["wish"] ["wish"] (ai sSiz):=⟨rfl,rfl,rfl,by decide +kernel,rfl,by decide +kernel,by decide +kernel⟩
theorem rS {ts:List Tr} {m:Nat}:(ts.map fun u=>((allN m u).length:Int)).sum=((ts.flatMap (allN m)).length:Int):=by
 induction ts with
 |nil=>rfl
 |cons t ts ih=>
  rw [xg,List.sum_cons,ih,xS,x3]
  omega
theorem uV {f fW:Addr} {fd dW:FuncData} (F:Fun K "size_of" "size_of" sSiz f fd) (bF:Binds K fd ["wish"] []) (mF:mg "size_of"=some (.ref f)) (B:Blt mg)
 (gW:FnOk P w K mg base CX0 1 fW dW ["wish"] spWr) (kW:PySem.W.keepIn K (.ref fW)=true) (bW:Binds K dW ["wish"] []) (mW:mg "wishes_right_in"=some (.ref fW)):∀n,FnOk P w K mg base CX0 (n+1) f fd ["wish"] (p5 n):=by
 intro n
 induction n with
 |zero=>exact ⟨fun vs H Q E ⟨_,_,_,_,_,_,_,h,_⟩=>absurd h (by omega),fun A outer s H args us vs Q E _ _ _ _ ⟨_,_,_,_,_,_,_,h,_⟩=>absurd h (by omega)⟩
 |succ n ih=>
  refine F.ok wm (fun vs H Q E h=> ?_) (fun cdv A outer s H vs Q E hr h=> ?_)
  · obtain ⟨v,t,c,m,rfl,_⟩:=h
    rfl
  obtain ⟨v,t,c,m,rfl,hv,hw,hm,hn,k⟩:=h
  have hr1:Room 1 _:=hr.mono (by omega)
  refine ⟨_,aj (ao (aw ba ae (aE (cJ rfl) rfl B.su d7 (a9
   (br (NC:= ["inner"]) (mp:= [none]) rfl (b8 (ah gW hr1 rfl mW kW bW .nil am (a9 (pv 0) aa))) (fun _ _ _ _ _=>aA (i:=0) (show (["inner"]:List Str).Nodup by decide +kernel) rfl (Or.inl rfl)) (fun _ _ _ _ _=>bO) (fun _ _ _ _ _=>ah ih hr rfl mF F.kp bF .nil am (a9 (pv 0) aa))) aa)))),?_⟩
  have hL:(20000:Nat)≤sizeLine:=by decide +kernel
  obtain ⟨hkn,hkids⟩:=bp hw
  have h3:=lj hkn
  have eall:=lH hw
  refine iJ ?_
  refine tcb1 ?_
  refine bw rfl ?_
  refine ⟨_,rfl,v,t,m,_,rfl,hv,hkn,fun l ws nl hws=>⟨l,rfl,⟨ws,SqL.of ac⟩,fun D nD=> ?_⟩⟩
  have s1:Same H (upd H l (.lst ws)):=af nl
  have hl1:(upd H l (.lst ws)) l=some (.lst ws):=ac
  have hws1:=hws.mono (Kd.of_same s1)
  generalize upd H l (.lst ws)=H1 at s1 hl1 hws1 nD ⊢
  have wl:=hws.len
  refine o8 (xs:=ws) (fun i acc H'=>Same H1 H'∧H' D=some (.lst acc)∧acc=(((aQ t).take i).map fun u=>V.int ((allN (m - 1) u).length:Int))) ⟨af nD,ac,rfl⟩ (fun i acc H' p=>SqL.of (p.1 _ _ hl1)) ?_ ?_
  · rintro i x acc H' hi ex ⟨sH,hD,rfl⟩
    obtain ⟨u,eu,hu⟩:=hws1.get' ex
    have mu:=xa eu
    obtain ⟨m',d',e',h',_⟩:=hkids u mu
    subst e'
    refine ⟨_,rfl,x,u,d',m',rfl,hu.mono (Kd.of_same sH),h',by omega,by omega,fun H6 s6=>CompN.mk hi (by rw [wZ,xM];omega) (s6 _ _ hD) ⟨aX nD (sH.trans s6),ac,?_⟩⟩
    rw [xQ,eu,xD]
    rfl
  · rintro acc H' ⟨sH,hD,rfl⟩
    rw [wl,xH] at hD
    refine ⟨D,(aQ t).map (fun u=>((allN (m - 1) u).length:Int)),rfl,SqL.of (by rw [List.map_map];exact hD),_,_,rfl,rfl,?_⟩
    have:=k H' (s1.trans sH)
    rw [rS]
    rw [eall,x3,xm] at this
    show Q (V.int ((1:Int)+(((aQ t).flatMap (allN (m - 1))).length:Int))) H'
    rw [show (1:Int)+(((aQ t).flatMap (allN (m - 1))).length:Int)=((((aQ t).flatMap (allN (m - 1))).length+1:Nat):Int) by omega]
    exact this
end
end K09
namespace Tre
open PySem PySem.Spec PyProof.Rows L2
section
variable {X:Cx}
def ss:V→List V→Hp→VK→Prop:=fun x vs H Q=>∃l ws ts v t,x= .ref l∧vs= [v]∧H l=some (.lst ws)∧TrsAt H ws ts∧TrAt H v t∧(∀u∈ts,u.depth≤40)∧t.pure∧(∀c:Int,(c=0↔(ts.any fun u=>eqT u t)=false)→Q (.int c) H)
theorem o1 (hu:X.A.units+50 < cLine):MtM X "list.count" ss:=by
 intro pins s σ H x vs v us Q I rx rv h
 obtain ⟨l,ws,ts,y,t,rfl,rfl,hH,hT,ht,hd,hp,q⟩:=h
 cases rx
 obtain ⟨b,rfl,rb⟩:=rv.one
 obtain ⟨z,its,n,r,hl,e⟩:=I.lstM hH
 obtain ⟨f,h1,h2⟩:=gR hu I rb r hT ht hd hp
 refine call_meets PySem.F.slot_list_count ⟨_,e,rfl⟩ PySem.F.entry_list_count (PySem.F.args_list_count_2 _ _) (SeqAt.list_countAt l its.toArray n _ _ b f) ⟨e,fun y hy=>h1 y hy,?_⟩
 refine ⟨.int _,H,I.tok _,⟨_,rfl⟩,q _ ?_⟩
 have el:its.toArray.toList=its:=by simp
 rw [←h2,List.any_toArray,el]
 have:its.countP f=0↔its.any f=false:=by rw [List.countP_eq_zero,List.any_eq_false]
 rw [←this]
 omega
end
end Tre
namespace K09
open PySem L2 Mth Tre Wd Su Tw
open Classical in
theorem wX {k:So} {ts:List Tr} {t:Tr} (h1:∀u∈ts,Ty k u) (h2:Ty k t):(ts.any fun u=>eqT u t)=false↔¬t∈ts:=by
 rw [List.any_eq_false]
 constructor
 · intro h m
   exact h t m (gY t)
 · intro h u m e
   exact h (lL (h1 u m) h2 e▸m)
section
variable {P:Program} {w:World} {K:PySem.W.Frag} {mg:Str→Option Value} {base:Heap}
def pc:Sp:=fun vs H Q _=>∃(v:V) (t:Tr) (n:Nat) (l:List Tr),vs= [v]∧TrAt H v t∧Kn n t l∧∀L ws,H L=none→TrsAt H ws l→Q (.ref L) (upd H L (.lst ws))
theorem wn:ay ["_law_wish_here"] ["_law_wish_here"] (ai sBlw):=⟨rfl,rfl,rfl,by decide +kernel,rfl,by decide +kernel,by decide +kernel⟩
theorem v7 {f:Addr} {fd:FuncData} (F:Fun K "_law_below" "_law_below" sBlw f fd) (B:Blt mg):FnOk P w K mg base CX0 1 f fd ["_law_wish_here"] pc:=by
 refine F.ok wn (fun vs H Q E h=> ?_) (fun cdv A outer s H vs Q E hr h=> ?_)
 · obtain ⟨v,t,n,l,rfl,_⟩:=h
   rfl
 obtain ⟨v,t,n,l,rfl,hv,hk,k⟩:=h
 refine ⟨_,ag (aP (au aS (aq ix_tup (pv 0) ae fun _ _=>rfl) aC (aB _)) (aj (ao (aL (a9 (aq ix_tup (pv 0) ae fun _ _=>rfl) aa)))) az)
  (ag (aP (PW.pt (ff (au aS (aq ix_tup (pv 0) ae fun _ _=>rfl) aC (aB _)) (cW (au aS (aq ix_tup (pv 0) ae fun _ _=>rfl) aC (aB _))))) (aj (ao (aU bU rfl B.li PyProof.Rows.boot_list (a9 (aq ix_tup (pv 0) ae fun _ _=>rfl) aa)))) az)
  (aj (ao (aL aa)))),?_⟩
 have step:∀ {r:Addr} {kk:Str} {vs:List V},H r=some (.tup (.str kk::vs))→atI (.str kk::vs) 0=some (.str kk):=fun _=>bf (j:=0) rfl
 cases hk with
 |at_ n kk r hk=>
  obtain ⟨r',vs,rfl,h1,h2⟩:=cj hv
  have a1:kk≠"not":=by rcases hk with rfl|rfl|rfl<;>decide +kernel
  have a2:kk≠"both":=by rcases hk with rfl|rfl|rfl<;>decide +kernel
  have a3:kk≠"either":=by rcases hk with rfl|rfl|rfl<;>decide +kernel
  refine ⟨_,rfl,r',_,0, .str kk,rfl,rfl,SqT.of h1,step h1,rfl,_,rfl,?_⟩
  rw [decide_eq_false (fun e=>a1 (V.str.inj e))]
  refine iteF ?_
  refine ⟨_,rfl,r',_,0, .str kk,rfl,rfl,SqT.of h1,step h1,rfl,_,rfl,?_⟩
  rw [decide_eq_false (fun e=>a2 (V.str.inj e))]
  refine iteF ?_
  refine ⟨_,rfl,r',_,0, .str kk,rfl,rfl,SqT.of h1,step h1,rfl,_,rfl,?_⟩
  rw [decide_eq_false (fun e=>a3 (V.str.inj e))]
  refine iteF ?_
  exact ⟨by show 0≤sizeLine;decide,fun L nL=>k L [] nL .nil⟩
 |no n t=>
  obtain ⟨r,y,rfl,h1,h2⟩:=at2 hv
  refine ⟨_,rfl,r,_,0, .str "not",rfl,rfl,SqT.of h1,rfl,rfl,_,rfl,?_⟩
  rw [decide_eq_true rfl]
  exact iteT ⟨_,rfl,r,_,1,y,rfl,rfl,SqT.of h1,rfl,by show 1≤sizeLine;decide,fun L nL=>k L [y] nL (.cons h2 .nil)⟩
 |be n kk l hk h3=>
  obtain ⟨r,y,rfl,h1,h2⟩:=at2 hv
  obtain ⟨q,vs,rfl,h4,h5⟩:=at_t h2
  have a1:kk≠"not":=by rcases hk with rfl|rfl<;>decide +kernel
  refine ⟨_,rfl,r,_,0, .str kk,rfl,rfl,SqT.of h1,rfl,rfl,_,rfl,?_⟩
  rw [decide_eq_false (fun e=>a1 (V.str.inj e))]
  refine iteF ?_
  refine ⟨_,rfl,r,_,0, .str kk,rfl,rfl,SqT.of h1,rfl,rfl,_,rfl,?_⟩
  by_cases z:kk= "both"
  · rw [decide_eq_true (congrArg V.str z)]
    refine iteT ?_
    exact iteT ⟨_,rfl,r,_,1, .ref q,rfl,rfl,SqT.of h1,rfl,q,vs,rfl, .inr (SqT.of h4),fun L nL=>k L vs nL h5⟩
  · have z2:kk= "either":=hk.resolve_left z
    rw [decide_eq_false (fun e=>z (V.str.inj e))]
    refine iteF ?_
    refine ⟨_,rfl,r,_,0, .str kk,rfl,rfl,SqT.of h1,rfl,rfl,_,rfl,?_⟩
    rw [decide_eq_true (congrArg V.str z2)]
    exact iteT ⟨_,rfl,r,_,1, .ref q,rfl,rfl,SqT.of h1,rfl,q,vs,rfl, .inr (SqT.of h4),fun L nL=>k L vs nL h5⟩
def lQ (n:Nat):Sp:=fun vs H Q _=>∃(v:V) (t:Tr) (c:List Nat) (m:Nat),vs= [v]∧TrAt H v t∧Wy m t c∧m < n∧n≤4∧∀r H' ws,H r=none→Same H H'→H' r=some (.lst ws)→TrsAt H' ws (allN m t)→Q (.ref r) H'
theorem scWlk:ay ["_law_wish_here","_law_found","_law_one"] ["_law_wish_here"] (ai sWlk):=⟨rfl,rfl,rfl,by decide +kernel,rfl,by decide +kernel,by decide +kernel⟩
theorem uO {f fB:Addr} {fd dB:FuncData} (F:Fun K "_law_walk" "_law_walk" sWlk f fd) (bF:Binds K fd ["_law_wish_here"] []) (mF:mg "_law_walk"=some (.ref f))
 (gB:FnOk P w K mg base CX0 1 fB dB ["_law_wish_here"] pc) (kB:PySem.W.keepIn K (.ref fB)=true) (bB:Binds K dB ["_law_wish_here"] []) (mB:mg "_law_below"=some (.ref fB)):∀n,FnOk P w K mg base CX0 (n+1) f fd ["_law_wish_here"] (lQ n):=by
 intro n
 induction n with
 |zero=>exact ⟨fun vs H Q E ⟨_,_,_,_,_,_,_,h,_⟩=>absurd h (by omega),fun A outer s H args us vs Q E _ _ _ _ ⟨_,_,_,_,_,_,_,h,_⟩=>absurd h (by omega)⟩
 |succ n ih=>
  refine F.ok scWlk (fun vs H Q E h=> ?_) (fun cdv A outer s H vs Q E hr h=> ?_)
  · obtain ⟨v,t,c,m,rfl,_⟩:=h
    rfl
  obtain ⟨v,t,c,m,rfl,hv,hw,hm,hn,k⟩:=h
  have hr1:Room 1 _:=hr.mono (by omega)
  refine ⟨_,ag (ar (i:=1) scWlk.nd rfl (Or.inl rfl) (aL aa))
   (ag (b9 PassesOwn.never rfl (b8 (ah gB hr1 rfl mB kB bB .nil am (a9 (pv 0) aa))) (aA (i:=2) scWlk.nd rfl (Or.inl rfl)) (aj (ar (i:=1) scWlk.nd rfl (Or.inl rfl) (aw cg (pv 1) (ah ih hr rfl mF F.kp bF .nil am (a9 (pv 2) aa))))))
   (aj (ao (aw cg (pv 1) (aL (a9 (pv 0) aa)))))),?_⟩
  have hL:(20000:Nat)≤sizeLine:=by decide +kernel
  obtain ⟨hkn,hkids⟩:=bp hw
  have eall:=lH hw
  have h64:(allN m t).length≤64:=xI (cu hw) (xI (Nat.pow_le_pow_right (by decide) (show m≤3 by omega)) (by decide))
  have hlenA:(allN m t).length=((aQ t).flatMap (allN (m - 1))).length+1:=by rw [eall,x3,xm]
  refine ⟨by show 0≤sizeLine;decide,fun l0 nl0=> ?_⟩
  have s0:Same H (upd H l0 (.lst [])):=af nl0
  have hl0:(upd H l0 (.lst [])) l0=some (.lst []):=ac
  generalize upd H l0 (.lst [])=H0 at s0 hl0 ⊢
  refine ⟨_,rfl,v,t,m,_,rfl,hv.mono (Kd.of_same s0),hkn,fun l ws nl hws=>⟨l,rfl,⟨ws,SqL.of ac⟩,?_⟩⟩
  have s1:Same H0 (upd H0 l (.lst ws)):=af nl
  have hl1:(upd H0 l (.lst ws)) l=some (.lst ws):=ac
  have hws1:=hws.mono (Kd.of_same s1)
  generalize upd H0 l (.lst ws)=H1 at s1 hl1 hws1 ⊢
  have wl:=hws1.len
  refine bh (xs:=ws) (fun i σ H'=>Same H1 H'∧∃l1 zs vi,σ= [some v,some (.ref l1),vi]∧H' l1=some (.lst zs)∧TrsAt H' zs (((aQ t).take i).flatMap (allN (m - 1)))) ⟨fun _ _ e=>e,l0,[],none,rfl,s1 _ _ hl0, .nil⟩ (fun i σ H' _ p=>SqL.of (p.1 _ _ hl1)) ?_ ?_
  · rintro i x σ H' ex ⟨sH,l1,zs,vi,rfl,hl1',hT⟩
    obtain ⟨u,eu,hu⟩:=hws1.get' ex
    have mu:=xa eu
    obtain ⟨m',d',e',h',_⟩:=hkids u mu
    subst e'
    have hle:=eA (aQ t) (i+1) m'
    rw [dg eu,x3] at hle
    have e3:m'+1 - 1=m':=by omega
    rw [e3] at hT hlenA ⊢
    refine ⟨_,rfl,_,rfl,x,u,d',m',rfl,hu.mono (Kd.of_same sH),h',by omega,by omega,fun r2 H2 ws2 nr2 s2 hr2 hT2=> ?_⟩
    have l1':=hT.len
    have l2':=hT2.len
    refine ⟨l1,r2,zs,ws2,rfl,rfl,s2 _ _ hl1',hr2,by omega,fun p np=> ?_⟩
    refine ⟨sH.trans (s2.trans (af np)),p,zs++ws2,_,rfl,ac,?_⟩
    rw [dg eu]
    exact TrsAt.app (hT2.mono (Kd.of_same (af np))) (hT.mono (Kd.of_same (s2.trans (af np))))
  · rintro σ H' ⟨sH,l1,zs,vi,rfl,hl1',hT⟩
    rw [wl,xH] at hT
    have l1':=hT.len
    refine ⟨_,rfl,_,rfl,by show 1≤sizeLine;decide,fun p np=> ?_⟩
    have s2:Same H' (upd H' p (.lst [v])):=af np
    have sA:Same H H':=s0.trans (s1.trans sH)
    refine ⟨l1,p,zs,[v],rfl,rfl,s2 _ _ hl1',ac,by simp only [xh,xP];omega,fun q nq=> ?_⟩
    have s3:=sA.trans (s2.trans (af nq (o:= .lst (zs++ [v]))))
    refine k q _ _ ((sA.trans s2).free nq) s3 ac ?_
    rw [eall]
    exact TrsAt.app (.cons (hv.mono (Kd.of_same s3)) .nil) (hT.mono (Kd.of_same (s2.trans (af nq))))
def oW (n:Nat):Sp:=fun vs H Q _=>∃(v:V) (t:Tr) (m:Nat),vs= [v]∧TrAt H v t∧Gn m t∧m < n∧n≤4∧∀r H' ws,H r=none→Same H H'→H' r=some (.lst ws)→TrsAt H' ws (allT m t)→Q (.ref r) H'
theorem scTwk:ay ["_law_term_here","_law_found","_law_one"] ["_law_term_here"] (ai sTwk):=⟨rfl,rfl,rfl,by decide +kernel,rfl,by decide +kernel,by decide +kernel⟩
theorem uQ {f:Addr} {fd:FuncData} (F:Fun K "_law_term_walk" "_law_term_walk" sTwk f fd) (bF:Binds K fd ["_law_term_here"] []) (mF:mg "_law_term_walk"=some (.ref f)):∀n,FnOk P w K mg base CX0 (n+1) f fd ["_law_term_here"] (oW n):=by
 intro n
 induction n with
 |zero=>exact ⟨fun vs H Q E ⟨_,_,_,_,_,_,h,_⟩=>absurd h (by omega),fun A outer s H args us vs Q E _ _ _ _ ⟨_,_,_,_,_,_,h,_⟩=>absurd h (by omega)⟩
 |succ n ih=>
  refine F.ok scTwk (fun vs H Q E h=> ?_) (fun cdv A outer s H vs Q E hr h=> ?_)
  · obtain ⟨v,t,m,rfl,_⟩:=h
    rfl
  obtain ⟨v,t,m,rfl,hv,hw,hm,hn,k⟩:=h
  refine ⟨_,ag (ar (i:=1) scTwk.nd rfl (Or.inl rfl) (aL aa))
   (ag (aP (au aS (aq ix_tup (pv 0) ae fun _ _=>rfl) aC (aB _))
    (aj (b9 PassesOwn.never rfl (cZ (aq ix_tup (pv 0) ae fun _ _=>rfl)) (aA (i:=2) scTwk.nd rfl (Or.inl rfl)) (aj (ar (i:=1) scTwk.nd rfl (Or.inl rfl) (aw cg (pv 1) (ah ih hr rfl mF F.kp bF .nil am (a9 (pv 2) aa))))))) az)
   (aj (ao (aw cg (pv 1) (aL (a9 (pv 0) aa)))))),?_⟩
  have hL:(20000:Nat)≤sizeLine:=by decide +kernel
  have eall:=nB hw
  have hkids:=hw.kids
  have h64:(allT m t).length≤64:=xI (hG hw) (xI (Nat.pow_le_pow_right (by decide) (show m≤3 by omega)) (by decide))
  have hlenA:(allT m t).length=((tkT t).flatMap (allT (m - 1))).length+1:=by rw [eall,x3,xm]
  refine ⟨by show 0≤sizeLine;decide,fun l0 nl0=> ?_⟩
  have s0:Same H (upd H l0 (.lst [])):=af nl0
  have hl0:(upd H l0 (.lst [])) l0=some (.lst []):=ac
  have hv0:=hv.mono (Kd.of_same s0)
  generalize upd H l0 (.lst [])=H0 at s0 hl0 hv0 ⊢
  have fin:∀(H1:Hp) (l1:Addr) (ws:List V) (vi:Option V),Same H H1→H1 l1=some (.lst ws)→TrsAt H1 ws ((tkT t).flatMap (allT (m - 1)))→
   (tRet (tOp rCat (tVar 1) (tLst (bq (tVar 0) tNil)))) {nx:=fun _ H'=>Q .non H',rt:=Q} [some v,some (.ref l1),vi] H1:=by
   intro H1 l1 ws vi sm h1 h2
   refine ⟨_,rfl,_,rfl,by show 1≤sizeLine;decide,fun p np=> ?_⟩
   have s2:Same H1 (upd H1 p (.lst [v])):=af np
   have hl:=h2.len
   refine ⟨l1,p,ws,[v],rfl,rfl,s2 _ _ h1,ac,by simp only [xh,xP];omega,fun q nq=> ?_⟩
   have s3:=sm.trans (s2.trans (af nq (o:= .lst (ws++ [v]))))
   refine k q _ _ ((sm.trans s2).free nq) s3 ac ?_
   rw [eall]
   exact TrsAt.app (.cons (hv.mono (Kd.of_same s3)) .nil) (h2.mono (Kd.of_same (s2.trans (af nq))))
  cases hw with
  |nm _ x hx=>
   obtain ⟨r,y,rfl,h1,h2⟩:=at2 hv0
   refine ⟨_,rfl,r,_,0, .str "name",rfl,rfl,SqT.of h1,rfl,rfl,_,rfl,?_⟩
   rw [decide_eq_false (show¬V.str "name"=V.str "call" by decide +kernel)]
   exact iteF (fin _ l0 [] none s0 hl0 .nil)
  |ap m0 g ts hf h0 h3 hh=>
   obtain ⟨r,y,z,rfl,h1,h2,h4⟩:=at3 hv0
   obtain ⟨q,vs,rfl,h5,h6⟩:=at_t h4
   refine ⟨_,rfl,r,_,0, .str "call",rfl,rfl,SqT.of h1,rfl,rfl,_,rfl,?_⟩
   rw [decide_eq_true rfl]
   refine iteT ⟨_,rfl,r,_,2, .ref q,rfl,rfl,SqT.of h1,rfl,q,rfl,⟨vs,SqT.of h5⟩,?_⟩
   have hlen:=h6.len
   refine jh (xs:=vs) (fun i σ H'=>Same H0 H'∧∃l1 ws vi,σ= [some (.ref r),some (.ref l1),vi]∧H' l1=some (.lst ws)∧TrsAt H' ws ((ts.take i).flatMap (allT m0))) ⟨fun _ _ e=>e,l0,[],none,rfl,hl0, .nil⟩ (fun i σ H' _ p=>SqT.of (p.1 _ _ h5)) ?_ ?_
   · rintro i x σ H' ex ⟨sH,l1,ws,vi,rfl,hl1,hT⟩
     obtain ⟨u,eu,hu⟩:=h6.get' ex
     have mu:=xa eu
     have hle:=dn ts (i+1) m0
     rw [cO eu,x3] at hle
     have hlenB:(Tw.allT (m0+1) (.tup [s_ "call", .str g, .tup ts])).length=(ts.flatMap (Tw.allT m0)).length+1:=hlenA
     refine ⟨_,rfl,_,rfl,x,u,m0,rfl,hu.mono (Kd.of_same sH),hh u mu,by omega,by omega,fun r2 H2 ws2 nr2 s2 hr2 hT2=> ?_⟩
     have a1:=hT.len
     have a2:=hT2.len
     refine ⟨l1,r2,ws,ws2,rfl,rfl,s2 _ _ hl1,hr2,by omega,fun p np=> ?_⟩
     refine ⟨sH.trans (s2.trans (af np)),p,ws++ws2,_,rfl,ac,?_⟩
     rw [cO eu]
     exact TrsAt.app (hT2.mono (Kd.of_same (af np))) (hT.mono (Kd.of_same (s2.trans (af np))))
   · rintro σ H' ⟨sH,l1,ws,vi,rfl,hl1,hT⟩
     rw [hlen,xH] at hT
     exact fin H' l1 ws vi (s0.trans sH) hl1 hT
def lT:Sp:=fun vs H Q _=>∃(l:Addr) (ws:List V) (ts:List Tr) (kd:So),vs= [.ref l]∧H l=some (.lst ws)∧TrsAt H ws ts∧(∀u∈ts,Ty kd u∧u.depth≤40)∧ts.length≤20000∧∀r H' ws',H r=none→Same H H'→H' r=some (.lst ws')→TrsAt H' ws' (Fs.firsts [] ts)→Q (.ref r) H'
theorem scFst:ay ["_law_things","_law_found","_law_one"] ["_law_things"] (ai sFst):=⟨rfl,rfl,rfl,by decide +kernel,rfl,by decide +kernel,by decide +kernel⟩
theorem uZ {f:Addr} {fd:FuncData} (F:Fun K "_law_firsts" "_law_firsts" sFst f fd):FnOk P w K mg base CX0 1 f fd ["_law_things"] lT:=by
 refine F.ok scFst (fun vs H Q E h=> ?_) (fun cdv A outer s H vs Q E hr h=> ?_)
 · obtain ⟨l,ws,ts,kd,rfl,_⟩:=h
   rfl
 obtain ⟨l,ws,ts,kd,rfl,hl,hT,hty,hsz,k⟩:=h
 have hun:=hr.units
 refine ⟨_,ag (ar (i:=1) scFst.nd rfl (Or.inl rfl) (aL aa))
  (ag (b9 PassesOwn.never rfl (b8 (pv 0)) (aA (i:=2) scFst.nd rfl (Or.inl rfl))
   (aj (aP (au aS (cq PySem.F.plainAttrs_list PySem.F.slot_list_count PySem.F.type_list_count (o1 (xO (ym (show 50≤64 by decide) _) hun)) (pv 1) (a9 (pv 2) aa)) ae (aB _))
    (aj (aZ (cq PySem.F.plainAttrs_list PySem.F.slot_list_append PySem.F.type_list_append bN (pv 1) (a9 (pv 2) aa)))) az)))
  (aj (ao (pv 1)))),?_⟩
 have hL:(30000:Nat)≤sizeLine:=by decide +kernel
 refine ⟨by show 0≤sizeLine;decide,fun D nD=> ?_⟩
 have s1:Same H (upd H D (.lst [])):=af nD
 have hlen:=hT.len
 refine ⟨_,rfl,l,rfl,⟨ws,SqL.of (s1 _ _ hl)⟩,?_⟩
 refine bh (xs:=ws) (fun i σ H'=>Same H H'∧∃ws' vi,σ= [some (.ref l),some (.ref D),vi]∧H' D=some (.lst ws')∧TrsAt H' ws' (Fs.firsts [] (ts.take i))) ⟨s1,[],none,rfl,ac, .nil⟩ (fun i σ H' _ p=>SqL.of (p.1 _ _ hl)) ?_ ?_
 · rintro i x σ H' ex ⟨sH,ws',vi,rfl,hD,hT'⟩
   obtain ⟨u,eu,hu⟩:=hT.get' ex
   have mu:=xa eu
   have hu':=hu.mono (Kd.of_same sH)
   have hfl:=Fs.firsts_len (ts.take i) []
   have hfl2:(ts.take i).length≤ts.length:=by rw [xM];omega
   have hin:∀y∈Fs.firsts [] (ts.take i),y∈ts:=fun y hy=>by
    rcases Fs.mem_fst.mp hy with h|h
    · cases h
    · exact List.mem_of_mem_take h
   have ak:=wX (k:=kd) (fun y my=>(hty y (hin y my)).1) (hty u mu).1
   refine ⟨_,rfl, .inl ⟨rfl,_,SqL.of hD⟩,_,rfl,D,ws',_,x,u,rfl,rfl,hD,hT',hu',fun y hy=>(hty y (hin y hy)).2,dH (hty u mu).1,fun c hc=> ?_⟩
   · refine ⟨rfl,_,rfl,?_⟩
     by_cases z:c=0
     · have m:=ak.mp (hc.mp z)
       subst z
       rw [decide_eq_true rfl]
       have hl':=hT'.len
       refine iteT ⟨_,rfl, .inl ⟨rfl,_,SqL.of hD⟩,_,rfl,D,ws',x,rfl,rfl,hD,by simp only [xP] at hfl;omega,?_⟩
       have tp:Kd H' (upd H' D (.lst (ws'++ [x]))):=Kd.upd hD
       refine ⟨aX nD sH,_,_,rfl,ac,?_⟩
       rw [Fs.firsts_take eu,Fs.add_out m]
       exact TrsAt.app (.cons (hu'.mono tp) .nil) (hT'.mono tp)
     · have m:u∈Fs.firsts [] (ts.take i):=Classical.byContradiction fun h=>z (hc.mpr (ak.mpr h))
       rw [decide_eq_false (show¬V.int c=V.int 0 from fun q=>z (V.int.inj q))]
       refine iteF ⟨sH,ws',_,rfl,hD,?_⟩
       rw [Fs.firsts_take eu,Fs.add_in m]
       exact hT'
 · rintro σ H' ⟨sH,ws',vi,rfl,hD,hT'⟩
   rw [hlen,xH] at hT'
   exact ⟨_,rfl,k D H' ws' nD sH hD hT'⟩
end
open PySem L2 Mth Tre Wd Su Tw
theorem qF {a b:Tr} (ha:Dj.Kp a) (hb:Dj.Kp b):Dj.Kp (.tup [a,b]):=by
 show Dj.Kps [a,b]
 exact ⟨ha,hb,trivial⟩
theorem uh (f:Fr):Dj.Kp (frT f):=by
 show Dj.Kps [.int f.1, .int f.2]
 exact ⟨trivial,trivial,trivial⟩
theorem vR {n:Nat} {t:Tr} {c:List Nat} (h:Wx n t c) (e:isAt t=true):Dj.Kp t∧t.depth≤8∧∃zs,t= .tup zs:=by
 cases h with
 |fl _ x hx=>exact ⟨qF trivial trivial,by simp only [Tr.depth,Trs.depth];omega,_,rfl⟩
 |mo _ ps f h1 h2 _ _ _=>
  have hp:∀t∈ps.map prT,Dj.Kp t∧t.depth≤6:=fun t m=>by
   obtain ⟨p,mp,rfl⟩:=xy.mp m
   refine ⟨qF (Dj.tm_kp (h2 p mp).tb.ty) (uh _),?_⟩
   have:=(h2 p mp).d5
   unfold prT frT
   simp only [Tr.depth,Trs.depth]
   omega
  refine ⟨?_,?_,_,rfl⟩
  · show Dj.Kps [s_ "most", .tup (ps.map prT),frT f]
    exact ⟨trivial,Dj.kps_all fun t m=>(hp t m).1,uh f,trivial⟩
  · have:=bc fun t m=>(hp t m).2
    unfold frT
    simp only [Tr.depth,Trs.depth]
    omega
 |li _ t u h1 h2=>
  refine ⟨?_,?_,_,rfl⟩
  · show Dj.Kps [s_ "like",t,u]
    exact ⟨trivial,Dj.tm_kp h1.ty,Dj.tm_kp h2.ty,trivial⟩
  · have:=h1.dep
    have:=h2.dep
    simp only [Tr.depth,Trs.depth]
    omega
 |no _ t c _=>cases e
 |bo _ l _ _=>cases e
 |ei _ l _ _=>cases e
section
variable {P:Program} {w:World} {K:PySem.W.Frag} {mg:Str→Option Value} {base:Heap}
def p8:Sp:=fun vs H Q _=>∃(v:V) (t:Tr) (c:List Nat),vs= [v]∧TrAt H v t∧Wy 3 t c∧∀r H' ws,H r=none→Same H H'→H' r=some (.lst ws)→TrsAt H' ws (Fs.firsts [] ((allN 3 t).flatMap tA))→Q (.ref r) H'
theorem scLtm:ay ["_law_wish_here","_law_found","_law_part","_law_pair"] ["_law_wish_here"] (ai eL):=⟨rfl,rfl,rfl,by decide +kernel,rfl,by decide +kernel,by decide +kernel⟩
theorem uW {f fW fT fF:Addr} {fd dW dT dF:FuncData} (F:Fun K "_law_terms" "_law_terms" eL f fd)
 (gW:FnOk P w K mg base CX0 5 fW dW ["_law_wish_here"] (lQ 4)) (kW:PySem.W.keepIn K (.ref fW)=true) (bW:Binds K dW ["_law_wish_here"] []) (mW:mg "_law_walk"=some (.ref fW))
 (gT:FnOk P w K mg base CX0 5 fT dT ["_law_term_here"] (oW 4)) (kT:PySem.W.keepIn K (.ref fT)=true) (bT:Binds K dT ["_law_term_here"] []) (mT:mg "_law_term_walk"=some (.ref fT))
 (gF:FnOk P w K mg base CX0 1 fF dF ["_law_things"] lT) (kF:PySem.W.keepIn K (.ref fF)=true) (bF:Binds K dF ["_law_things"] []) (mF:mg "_law_firsts"=some (.ref fF)):
 FnOk P w K mg base CX0 6 f fd ["_law_wish_here"] p8:=by
 refine F.ok scLtm (fun vs H Q E h=> ?_) (fun cdv A outer s H vs Q E hr h=> ?_)
 · obtain ⟨v,t,c,rfl,_⟩:=h
   rfl
 obtain ⟨v,t,c,rfl,hv,hw,k⟩:=h
 have hr1:Room 1 _:=hr.mono (by decide)
 have hr5:Room 5 _:=hr.mono (by decide)
 refine ⟨_,ag (ar (i:=1) scLtm.nd rfl (Or.inl rfl) (aL aa))
  (ag (b9 PassesOwn.never rfl (b8 (ah gW hr5 rfl mW kW bW .nil am (a9 (pv 0) aa))) (aA (i:=2) scLtm.nd rfl (Or.inl rfl))
   (ag (aP (au aS (aq ix_tup (pv 2) ae fun _ _=>rfl) aC (aB _)) (aj (b9 PassesOwn.never rfl (cZ (aq ix_tup (pv 2) ae fun _ _=>rfl)) (aA (i:=3) scLtm.nd rfl (Or.inl rfl)) (aj (ar (i:=1) scLtm.nd rfl (Or.inl rfl) (aw cg (pv 1) (ah gT hr5 rfl mT kT bT .nil am (a9 (aq ix_tup (pv 3) ae fun _ _=>rfl) aa))))))) az)
   (aj (aP (au aS (aq ix_tup (pv 2) ae fun _ _=>rfl) aC (aB _)) (aj (ar (i:=1) scLtm.nd rfl (Or.inl rfl) (aw cg (aw cg (pv 1) (ah gT hr5 rfl mT kT bT .nil am (a9 (aq ix_tup (pv 2) ae fun _ _=>rfl) aa))) (ah gT hr5 rfl mT kT bT .nil am (a9 (aq ix_tup (pv 2) ae fun _ _=>rfl) aa))))) az))))
  (aj (ao (ah gF hr1 rfl mF kF bF .nil am (a9 (pv 1) aa))))),?_⟩
 have hL:(30000:Nat)≤sizeLine:=by decide +kernel
 have hbig:=cP hw
 refine ⟨by show 0≤sizeLine;decide,fun l0 nl0=> ?_⟩
 have s0:Same H (upd H l0 (.lst [])):=af nl0
 have hl0:(upd H l0 (.lst [])) l0=some (.lst []):=ac
 generalize upd H l0 (.lst [])=H0 at s0 hl0 ⊢
 refine ⟨_,rfl,v,t,c,3,rfl,hv.mono (Kd.of_same s0),hw,by decide,by decide,fun L H1 ws nL s1 hL1 hws=>⟨L,rfl,⟨ws,SqL.of hL1⟩,?_⟩⟩
 have wl:=hws.len
 refine bh (xs:=ws) (fun i σ H'=>Same H1 H'∧∃l1 zs v2 v3,σ= [some v,some (.ref l1),v2,v3]∧H' l1=some (.lst zs)∧TrsAt H' zs (((allN 3 t).take i).flatMap tA)) ⟨fun _ _ e=>e,l0,[],none,none,rfl,s1 _ _ hl0, .nil⟩ (fun i σ H' _ p=>SqL.of (p.1 _ _ hL1)) ?_ ?_
 · rintro i x σ H2 ex ⟨sH,l1,zs,v2,v3,rfl,hl1,hT⟩
   obtain ⟨u,eu,hu⟩:=hws.get' ex
   have mu:=xa eu
   obtain ⟨mm,d,hm3,hwu,_⟩:=cA hw u mu
   have hu2:=hu.mono (Kd.of_same sH)
   have hle:=cH (allN 3 t) tA (i+1)
   rw [aN eu,x3] at hle
   have zl:=hT.len
   rcases fu hwu.wx with ⟨ak,_⟩|⟨e1,e2,kk,y,rfl,hkk⟩
   · cases ak with
     |fl y hy=>
      obtain ⟨r,y',rfl,h1,h2⟩:=at2 hu2
      refine ⟨_,rfl,r,_,0, .str "flag",rfl,rfl,SqT.of h1,rfl,rfl,_,rfl,?_⟩
      rw [decide_eq_false (show¬V.str "flag"=V.str "most" by decide +kernel)]
      refine iteF ?_
      refine ⟨_,rfl,r,_,0, .str "flag",rfl,rfl,SqT.of h1,rfl,rfl,_,rfl,?_⟩
      rw [decide_eq_false (show¬V.str "flag"=V.str "like" by decide +kernel)]
      refine iteF ?_
      refine ⟨sH,l1,zs,_,_,rfl,hl1,?_⟩
      rw [aN eu]
      have:tA (.tup [s_ "flag", .str y])= []:=rfl
      rw [this,yg]
      exact hT
     |mo ps fr h3 hg=>
      obtain ⟨r,y',z',rfl,h1,h2,h4⟩:=at3 hu2
      obtain ⟨q,xs,rfl,hq,hxs⟩:=at_t h2
      have xl:=hxs.len
      rw [wZ] at xl
      have etA:tA (.tup [s_ "most", .tup (ps.map prT),frT fr])=(ps.map (·.1)).flatMap (Tw.allT 3):=by unfold tA;rw [kO]
      rw [etA] at hle
      refine ⟨_,rfl,r,_,0, .str "most",rfl,rfl,SqT.of h1,rfl,rfl,_,rfl,?_⟩
      rw [decide_eq_true rfl]
      refine iteT ?_
      refine ⟨_,rfl,r,_,1, .ref q,rfl,rfl,SqT.of h1,rfl,q,rfl,⟨xs,SqT.of hq⟩,?_⟩
      refine jh (xs:=xs) (fun j σ H'=>Same H2 H'∧∃l1 zs v3,σ= [some v,some (.ref l1),some (.ref r),v3]∧H' l1=some (.lst zs)∧TrsAt H' zs (((allN 3 t).take i).flatMap tA++((ps.map (·.1)).take j).flatMap (Tw.allT 3))) ⟨fun _ _ e=>e,l1,zs,v3,rfl,hl1,by rw [yp];simpa using hT⟩ (fun j σ H' _ p=>SqT.of (p.1 _ _ hq)) ?_ ?_
      · rintro j z σ H3 ez ⟨s3,l3,zs3,v3',rfl,hl3,hT3⟩
        obtain ⟨uu,euu,huu⟩:=hxs.get' ez
        obtain ⟨p,ep,rfl⟩:∃p,ps[j]?=some p∧uu=prT p:=by
         rw [xw] at euu
         cases e:ps[j]? with
         |none=>rw [e] at euu;cases euu
         |some p=>rw [e] at euu;exact ⟨p,rfl,(xE euu).symm⟩
        obtain ⟨T,vs2,rfl,hTT,hvs2⟩:=at_t (show TrAt H2 z (.tup [p.1,frT p.2]) from huu)
        obtain ⟨xx,rest,rfl,hxx,hrest⟩:=hvs2.inv
        have ep1:(ps.map (·.1))[j]?=some p.1:=by rw [xw,ep];rfl
        have hle2:=cH (ps.map (·.1)) (Tw.allT 3) (j+1)
        rw [aN ep1,x3] at hle2
        have zl3:=hT3.len
        rw [x3] at zl3
        refine ⟨_,rfl,_,rfl,T,_,0,xx,rfl,rfl,SqT.of (s3 _ _ hTT),bf (j:=0) rfl,xx,p.1,3,rfl,hxx.mono (Kd.of_same s3),hg p (xa ep),by decide,by decide,fun r2 H4 ws2 nr2 s4 hr2 hT4=> ?_⟩
        have zl4:=hT4.len
        refine ⟨l3,r2,zs3,ws2,rfl,rfl,s4 _ _ hl3,hr2,by omega,fun pp npp=> ?_⟩
        refine ⟨s3.trans (s4.trans (af npp)),pp,zs3++ws2,_,rfl,ac,?_⟩
        rw [aN ep1,←yy]
        exact TrsAt.app (hT4.mono (Kd.of_same (af npp))) (hT3.mono (Kd.of_same (s4.trans (af npp))))
      · rintro σ H3 ⟨s3,l3,zs3,v3',rfl,hl3,hT3⟩
        have e9:xs.length=(ps.map (·.1)).length:=by rw [wZ];exact xl
        rw [e9,xH] at hT3
        refine ⟨_,rfl,r,_,0, .str "most",rfl,rfl,SqT.of (s3 _ _ h1),rfl,rfl,_,rfl,?_⟩
        rw [decide_eq_false (show¬V.str "most"=V.str "like" by decide +kernel)]
        refine iteF ?_
        refine ⟨sH.trans s3,l3,zs3,_,_,rfl,hl3,?_⟩
        rw [aN eu,etA]
        exact hT3
     |li a b ha hb=>
      obtain ⟨r,y',z',rfl,h1,h2,h4⟩:=at3 hu2
      have etA:tA (.tup [s_ "like",a,b])=Tw.allT 3 a++Tw.allT 3 b:=by
       unfold tA
       rw [kQ ha.gm]
       simp
      rw [etA,x3] at hle
      refine ⟨_,rfl,r,_,0, .str "like",rfl,rfl,SqT.of h1,rfl,rfl,_,rfl,?_⟩
      rw [decide_eq_false (show¬V.str "like"=V.str "most" by decide +kernel)]
      refine iteF ?_
      refine ⟨_,rfl,r,_,0, .str "like",rfl,rfl,SqT.of h1,rfl,rfl,_,rfl,?_⟩
      rw [decide_eq_true rfl]
      refine iteT ?_
      refine ⟨_,rfl,_,rfl,r,_,1,y',rfl,rfl,SqT.of h1,rfl,y',a,3,rfl,h2,ha,by decide,by decide,fun r2 H4 ws2 nr2 s4 hr2 hT4=> ?_⟩
      have zl4:=hT4.len
      refine ⟨l1,r2,zs,ws2,rfl,rfl,s4 _ _ hl1,hr2,by omega,fun pp npp=> ?_⟩
      have s5:Same H4 (upd H4 pp (.lst (zs++ws2))):=af npp
      have h5:(upd H4 pp (.lst (zs++ws2))) pp=some (.lst (zs++ws2)):=ac
      have hT5:TrsAt (upd H4 pp (.lst (zs++ws2))) (zs++ws2) (((allN 3 t).take i).flatMap tA++Tw.allT 3 a):=TrsAt.app (hT4.mono (Kd.of_same s5)) (hT.mono (Kd.of_same (s4.trans s5)))
      generalize upd H4 pp (.lst (zs++ws2))=H5 at s5 h5 hT5 ⊢
      refine ⟨_,rfl,r,_,2,z',rfl,rfl,SqT.of (s5 _ _ (s4 _ _ h1)),rfl,z',b,3,rfl,h4.mono (Kd.of_same (s4.trans s5)),hb,by decide,by decide,fun r6 H6 ws6 nr6 s6 hr6 hT6=> ?_⟩
      have zl6:=hT6.len
      refine ⟨pp,r6,zs++ws2,ws6,rfl,rfl,s6 _ _ h5,hr6,by rw [x3];omega,fun p7 np7=> ?_⟩
      refine ⟨sH.trans (s4.trans (s5.trans (s6.trans (af np7)))),p7,zs++ws2++ws6,_,_,rfl,ac,?_⟩
      rw [aN eu,etA,←yy]
      exact TrsAt.app (hT6.mono (Kd.of_same (af np7))) (hT5.mono (Kd.of_same (s6.trans (af np7))))
   · obtain ⟨r,y',rfl,h1,h2⟩:=at2 hu2
     have n1:kk≠"most":=by rcases hkk with rfl|rfl|rfl<;>decide +kernel
     have n2:kk≠"like":=by rcases hkk with rfl|rfl|rfl<;>decide +kernel
     refine ⟨_,rfl,r,_,0, .str kk,rfl,rfl,SqT.of h1,rfl,rfl,_,rfl,?_⟩
     rw [decide_eq_false (fun e=>n1 (V.str.inj e))]
     refine iteF ?_
     refine ⟨_,rfl,r,_,0, .str kk,rfl,rfl,SqT.of h1,rfl,rfl,_,rfl,?_⟩
     rw [decide_eq_false (fun e=>n2 (V.str.inj e))]
     refine iteF ?_
     refine ⟨sH,l1,zs,_,_,rfl,hl1,?_⟩
     rw [aN eu,jy hwu.wx e1,yg]
     exact hT
 · rintro σ H2 ⟨sH,l1,zs,v2,v3,rfl,hl1,hT⟩
   rw [wl,xH] at hT
   refine ⟨_,rfl,l1,zs,_, .tm,rfl,hl1,hT,fun u m=> ?_,by omega,fun r H3 ws' nr s3 hr3 hT3=> ?_⟩
   · obtain ⟨x,mx,mu⟩:=xA.mp m
     obtain ⟨a,b,_,hx,_⟩:=cA hw x mx
     cases e:isAt x with
     |false=>rw [jy hx.wx e] at mu;cases mu
     |true=>
      obtain ⟨y,my,mu⟩:=xA.mp mu
      have g:=((ny hx.wx e).toA.2 y my)
      have g2:=(fY g u mu).1
      exact ⟨g2.gm.ty,by have:=g2.dep;omega⟩
   · have sA:=s0.trans (s1.trans sH)
     exact k r H3 ws' (sA.free nr) (sA.trans s3) hr3 hT3
end
end K09
namespace K09
open PySem L2
theorem oC {Z:Ends} {σ:L2.St} {H:Hp} (h:Z.nx σ H):oK Z σ H:=h
theorem oA {r:List V→Hp→VK→Prop} {te:TE} {Z:Ends} {σ:L2.St} {H:Hp} (h:te σ H fun v H1=>r [v] H1 Z.rt):tRet (tCB r (bq te tNil)) Z σ H:=h
def Sm (H:Hp):Nat→V→V→Prop
 |0,_,_=>False
 |n+1,v,w=>(∃x,v= .str x∧w= .str x)∨(∃i,v= .int i∧w= .int i)∨
  ∃a b xs ys,v= .ref a∧w= .ref b∧((H a=some (.lst xs)∧H b=some (.lst ys))∨(H a=some (.tup xs)∧H b=some (.tup ys)))∧xs.length=ys.length∧xs.length≤20000∧∀(j:Nat) x y,xs[j]?=some x→ys[j]?=some y→Sm H n x y
theorem Sm.mono {H H':Hp} (s:Same H H'):∀ {n:Nat} {v w:V},Sm H n v w→Sm H' n v w
 |0,_,_,h=>h.elim
 |n+1,v,w,h=>by
  rcases h with h|h|⟨a,b,xs,ys,e1,e2,h1,h2,h3,h4⟩
  · exact .inl h
  · exact .inr (.inl h)
  · refine .inr (.inr ⟨a,b,xs,ys,e1,e2,?_,h2,h3,fun j x y q1 q2=>Sm.mono s (h4 j x y q1 q2)⟩)
    rcases h1 with ⟨q1,q2⟩|⟨q1,q2⟩
    · exact .inl ⟨s _ _ q1,s _ _ q2⟩
    · exact .inr ⟨s _ _ q1,s _ _ q2⟩
theorem lq (K:PySem.W.Frag):PySem.W.kitAny K (.type "str") [.type "tuple", .type "list"]=some false:=by kernel_rfl
theorem lu (K:PySem.W.Frag):PySem.W.kitAny K (.type "int") [.type "tuple", .type "list"]=some false:=by kernel_rfl
theorem ln (K:PySem.W.Frag):PySem.W.kitAny K (.type "tuple") [.type "tuple", .type "list"]=some true:=by kernel_rfl
theorem lr (K:PySem.W.Frag):PySem.W.kitAny K (.type "list") [.type "tuple", .type "list"]=some true:=by kernel_rfl
theorem jU (K:PySem.W.Frag):PySem.W.kitOne K (.type "list") (.type "tuple")=some false:=by kernel_rfl
theorem jV (K:PySem.W.Frag):PySem.W.kitOne K (.type "list") (.type "list")=some true:=by kernel_rfl
theorem jR (K:PySem.W.Frag):PySem.W.kitOne K (.type "tuple") (.type "list")=some false:=by kernel_rfl
theorem jc (K:PySem.W.Frag):PySem.W.kitOne K (.type "str") (.type "bool")=some false:=by kernel_rfl
theorem jT (K:PySem.W.Frag):PySem.W.kitOne K (.type "str") (.type "int")=some false:=by kernel_rfl
theorem jS (K:PySem.W.Frag):PySem.W.kitOne K (.type "str") (.type "str")=some true:=by kernel_rfl
section
variable {P:Program} {w:World} {K:PySem.W.Frag} {mg:Str→Option Value} {base:Heap}
def spSm (n:Nat):Sp:=fun vs H Q _=>∃(v w:V),vs= [v,w]∧Sm H n v w∧∀H',Same H H'→Q (.bl true) H'
theorem scSm:ay ["_law_found","_law_due"] ["_law_found","_law_due"] (ai ij):=⟨rfl,rfl,rfl,by decide +kernel,rfl,by decide +kernel,by decide +kernel⟩
theorem rE:∀ {bs:List Bool},(∀b∈bs,b=true)→bs.all id=true:=fun h=>List.all_eq_true.mpr fun b m=>h b m
theorem wH {f:Addr} {fd:FuncData} (F:Fun K "_law_same" "_law_same" ij f fd) (bF:Binds K fd ["_law_found","_law_due"] []) (mF:mg "_law_same"=some (.ref f)) (B:Blt mg):∀n,FnOk P w K mg base CX0 (n+1) f fd ["_law_found","_law_due"] (spSm n):=by
 intro n
 induction n with
 |zero=>exact ⟨fun vs H Q E ⟨_,_,_,h,_⟩=>h.elim,fun A outer s H args us vs Q E _ _ _ _ ⟨_,_,_,h,_⟩=>h.elim⟩
 |succ n ih=>
  refine F.ok scSm (fun vs H Q E h=> ?_) (fun cdv A outer s H vs Q E hr h=> ?_)
  · obtain ⟨v,w',rfl,_⟩:=h
    rfl
  obtain ⟨v,w',rfl,hs,k⟩:=h
  refine ⟨_,ag (aP (eU (aE (r:=rIsi K) bz rfl B.isi aM (a9 (pv 1) (a9 (bJ (a9 (bQ (v:= .ty "tuple") rfl B.tu PyProof.Rows.boot_tuple rfl) (a9 (bQ (v:= .ty "list") rfl B.li PyProof.Rows.boot_list rfl) aa))) aa))))
   (ag (aP (PW.pt (ff (au ml (aE (r:=rIsi K) bz rfl B.isi aM (a9 (pv 0) (a9 (bQ (v:= .ty "tuple") rfl B.tu PyProof.Rows.boot_tuple rfl) aa))) (aE (r:=rIsi K) bz rfl B.isi aM (a9 (pv 1) (a9 (bQ (v:= .ty "tuple") rfl B.tu PyProof.Rows.boot_tuple rfl) aa))) (aB _))
    (cW (au ml (aE (r:=rIsi K) bz rfl B.isi aM (a9 (pv 0) (a9 (bQ (v:= .ty "list") rfl B.li PyProof.Rows.boot_list rfl) aa))) (aE (r:=rIsi K) bz rfl B.isi aM (a9 (pv 1) (a9 (bQ (v:= .ty "list") rfl B.li PyProof.Rows.boot_list rfl) aa))) (aB _))))) (aj (ao mf)) az)
   (ag (aP (au ml (aE aY rfl B.le PySem.boot_len (a9 (pv 0) aa)) (aE aY rfl B.le PySem.boot_len (a9 (pv 1) aa)) (aB _)) (aj (ao mf)) az)
   (aj (ao (aE (o9 rfl) rfl B.al PyProof.Rows.boot_all (a9 (br (NC:= ["_law_k","_law_due","_law_found"]) (mp:= [none,some 1,some 0]) rfl (bn rfl B.ra (a9 (aE aY rfl B.le PySem.boot_len (a9 (pv 1) aa)) aa)) (fun _ _ _ _ _=>aA (i:=0) (show (["_law_k","_law_due","_law_found"]:List Str).Nodup by decide +kernel) rfl (Or.inl rfl)) (fun _ _ _ _ _=>bO)
    (fun _ _ _ _ _=>ah ih hr rfl mF F.kp bF .nil am (a9 (aq (r:=rIx K) qJ (pv 2) (pv 0) fun _ _=>rfl) (a9 (aq (r:=rIx K) qJ (pv 1) (pv 0) fun _ _=>rfl) aa)))) aa)))))) az)
   (ag (aP (PW.pt (ff (au uL (pv 1) uJ (aB _)) (cW (eU (aE (r:=rIsi K) bz rfl B.isi aM (a9 (pv 1) (a9 (bQ (v:= .ty "bool") rfl B.bo PyProof.Rows.boot_bool rfl) aa)))))))
    nT az)
   (ag (aP (eU (aE (r:=rIsi K) bz rfl B.isi aM (a9 (pv 1) (a9 (bQ (v:= .ty "int") rfl B.it PyProof.Rows.boot_int rfl) aa))))
    (aj (ao (j5 (aE (r:=rIsi K) bz rfl B.isi aM (a9 (pv 0) (a9 (bQ (v:= .ty "int") rfl B.it PyProof.Rows.boot_int rfl) aa))) (j5 (uI (aE (r:=rIsi K) bz rfl B.isi aM (a9 (pv 0) (a9 (bQ (v:= .ty "bool") rfl B.bo PyProof.Rows.boot_bool rfl) aa)))) (l7 (j4 aS (pv 0) (pv 1) (aB _))))))) az)
   (aj (ao (j5 (aE (r:=rIsi K) bz rfl B.isi aM (a9 (pv 0) (a9 (bQ (v:= .ty "str") rfl B.st PyProof.Rows.boot_str rfl) aa))) (l7 (j4 aS (pv 0) (pv 1) (aB _)))))))),?_⟩
  rcases hs with ⟨x,rfl,rfl⟩|⟨i,rfl,rfl⟩|⟨a,b,xs,ys,rfl,rfl,hab,hlen,hsz,hit⟩
  · refine ⟨_,rfl,by show 2≤sizeLine;decide,fun p np=> ?_⟩
    have s1:Same H (upd H p (.tup [.ty "tuple", .ty "list"])):=af np
    refine ⟨.str x, .ref p,_,false,rfl, .of (.str x), .inr ⟨p,_,rfl,ac,rfl,lq K⟩,false,rfl,iteF ?_⟩
    refine ⟨_,rfl,rfl,_,rfl,iteF ⟨_,rfl, .str x, .ty "bool",_,false,rfl, .of (.str x), .inl ⟨rfl,jc K⟩,false,rfl,iteF ?_⟩⟩
    refine ⟨_,rfl, .str x, .ty "int",_,false,rfl, .of (.str x), .inl ⟨rfl,jT K⟩,false,rfl,iteF ?_⟩
    refine ⟨_,rfl, .str x, .ty "str",_,true,rfl, .of (.str x), .inl ⟨rfl,jS K⟩,true,rfl,iteT ⟨_,rfl,_,rfl,rfl,?_⟩⟩
    rw [decide_eq_true rfl]
    exact k _ s1
  · refine ⟨_,rfl,by show 2≤sizeLine;decide,fun p np=> ?_⟩
    have s1:Same H (upd H p (.tup [.ty "tuple", .ty "list"])):=af np
    refine ⟨.int i, .ref p,_,false,rfl, .of (.int i), .inr ⟨p,_,rfl,ac,rfl,lu K⟩,false,rfl,iteF ?_⟩
    refine ⟨_,rfl,rfl,_,rfl,iteF ⟨_,rfl, .int i, .ty "bool",_,false,rfl, .of (.int i), .inl ⟨rfl,dZ K⟩,false,rfl,iteF ?_⟩⟩
    refine ⟨_,rfl, .int i, .ty "int",_,true,rfl, .of (.int i), .inl ⟨rfl,fj K⟩,true,rfl,iteT ?_⟩
    refine ⟨_,rfl, .int i, .ty "int",_,true,rfl, .of (.int i), .inl ⟨rfl,fj K⟩,true,rfl,iteT ⟨_,rfl, .int i, .ty "bool",_,false,rfl, .of (.int i), .inl ⟨rfl,dZ K⟩,false,rfl,true,rfl,iteT ⟨_,rfl,_,rfl,rfl,?_⟩⟩⟩
    rw [decide_eq_true rfl]
    exact k _ s1
  · obtain ⟨T,bt,bl,hTy,kA,kT,kL,hSq⟩:∃(T:String) (bt bl:Bool),(∀H',Same H H'→TyX K H' (.ref a) (.type T)∧TyX K H' (.ref b) (.type T))∧PySem.W.kitAny K (.type T) [.type "tuple", .type "list"]=some true∧PySem.W.kitOne K (.type T) (.type "tuple")=some bt∧PySem.W.kitOne K (.type T) (.type "list")=some bl∧
     (∀H',Same H H'→(SqL K H' a xs∨SqT K H' a xs)∧(SqL K H' b ys∨SqT K H' b ys)):=by
     rcases hab with ⟨ha,hb⟩|⟨ha,hb⟩
     · exact ⟨"list",false,true,fun H' s=>⟨.of (.lst (s _ _ ha)), .of (.lst (s _ _ hb))⟩,lr K,jU K,jV K,fun H' s=>⟨.inl (SqL.of (s _ _ ha)), .inl (SqL.of (s _ _ hb))⟩⟩
     · exact ⟨"tuple",true,false,fun H' s=>⟨.of (.tup (s _ _ ha)), .of (.tup (s _ _ hb))⟩,ln K,fq K,jR K,fun H' s=>⟨.inr (SqT.of (s _ _ ha)), .inr (SqT.of (s _ _ hb))⟩⟩
    have ix:∀ {H':Hp} {p:Addr} {zs:List V} {i:Nat} {z:V} {R:VK},(SqL K H' p zs∨SqT K H' p zs)→zs[i]?=some z→R z H'→rIx K (.ref p) (.int (i:Int)) H' R:=fun h e q=>by
     rcases h with h|h
     · exact .inl ⟨_,_,_,_,rfl,rfl,h,bf e,q⟩
     · exact .inr (.inl ⟨_,_,_,_,rfl,rfl,h,bf e,q⟩)
    refine ⟨_,rfl,by show 2≤sizeLine;decide,fun p np=> ?_⟩
    have s1:Same H (upd H p (.tup [.ty "tuple", .ty "list"])):=af np
    obtain ⟨ta,tb⟩:=hTy _ s1
    obtain ⟨qa,qb⟩:=hSq _ s1
    have hL:(20000:Nat)≤sizeLine:=by decide +kernel
    refine ⟨.ref b, .ref p,_,true,rfl,tb, .inr ⟨p,_,rfl,ac,rfl,kA⟩,true,rfl,iteT ?_⟩
    refine ⟨_,rfl, .ref a, .ty "tuple",_,bt,rfl,ta, .inl ⟨rfl,kT⟩,_,rfl, .ref b, .ty "tuple",_,bt,rfl,tb, .inl ⟨rfl,kT⟩,rfl,_,rfl,?_⟩
    rw [decide_eq_true rfl]
    refine iteF ⟨_,rfl, .ref a, .ty "list",_,bl,rfl,ta, .inl ⟨rfl,kL⟩,_,rfl, .ref b, .ty "list",_,bl,rfl,tb, .inl ⟨rfl,kL⟩,rfl,_,rfl,?_⟩
    rw [decide_eq_true rfl]
    refine iteF ⟨_,rfl,a,xs,rfl,qa,_,rfl,b,ys,rfl,qb,rfl,_,rfl,?_⟩
    rw [decide_eq_true (show V.int (xs.length:Int)=V.int (ys.length:Int) by rw [hlen])]
    refine iteF ?_
    refine oC ?_
    dsimp only
    refine oA ?_
    refine bw (rest:= [some (.ref b),some (.ref a)]) rfl ?_
    refine ⟨_,rfl,b,ys,rfl,qb,(ys.length:Int),rfl,by omega,by omega,fun D nD=> ?_⟩
    refine cm (n:=ys.length) (fun i acc H'=>Same (upd H p (.tup [.ty "tuple", .ty "list"])) H'∧H' D=some (.lst acc)∧acc=List.replicate i (V.bl true)) ⟨af nD,ac,rfl⟩ ?_ ?_
    · rintro i acc H' hi ⟨sH,hD,rfl⟩
      rw [Int.zero_add]
      have sA:=s1.trans sH
      obtain ⟨qa',qb'⟩:=hSq _ sA
      have e1:xs[i]?=some (xs[i]'(by omega)):=x4 _
      have e2:ys[i]?=some (ys[i]'hi):=x4 _
      refine ⟨_,rfl,_,rfl,ix qa' e1 ⟨_,rfl,_,rfl,ix qb' e2 ⟨_,_,rfl,(hit i _ _ e1 e2).mono sA,fun H6 s6=>CompN.mk hi ?_ (s6 _ _ hD) ⟨aX nD (sH.trans s6),ac,?_⟩⟩⟩⟩
      · rw [List.length_replicate]
        omega
      · rw [List.replicate_succ']
    · rintro acc H' ⟨sH,hD,rfl⟩
      refine ⟨D,List.replicate ys.length true,rfl,SqL.of (by rw [List.map_replicate];exact hD),?_⟩
      rw [rE fun b m=>(List.mem_replicate.mp m).2]
      exact k _ (s1.trans sH)
end
open Tre Wd Su Tw
mutual
def Pq9:Tr→Prop
 | .int _=>True
 | .str _=>True
 | .tup ts=>ts.length≤20000∧Pqs9 ts
 |_=>False
def Pqs9:List Tr→Prop
 | []=>True
 |t::ts=>Pq9 t∧Pqs9 ts
end
theorem pM:∀ {ts:List Tr} {t:Tr},Pqs9 ts→t∈ts→Pq9 t
 |a::ts,t,p,h=>by
  rcases xi.mp h with rfl|h
  · exact p.1
  · exact pM p.2 h
theorem m6 {ts:List Tr} (h:∀t∈ts,Pq9 t):Pqs9 ts:=by
 induction ts with
 |nil=>trivial
 |cons t ts ih=>exact ⟨h t x5,ih fun u m=>h u (x6 _ m)⟩
theorem gx {ts:List Tr} (hl:ts.length≤20000) (h:∀t∈ts,Pq9 t):Pq9 (.tup ts):=by
 simp only [Pq9]
 exact ⟨hl,m6 h⟩
theorem m8 {t:Tr} (h:Gm t):Pq9 t:=by
 induction h with
 |nm x _=>simp [Pq9,Pqs9]
 |ap f ts _ _ h3 _ ih=>
  have:Pqs9 ts:=m6 ih
  simp only [Pq9,Pqs9,and_true,true_and]
  exact ⟨by show 3≤20000;decide,by omega,this⟩
theorem tZ (f:Fr):Pq9 (frT f):=by
 unfold frT
 simp only [Pq9,Pqs9,and_true]
 show 2≤20000
 decide
theorem gv {a b:Tr} (ha:Pq9 a) (hb:Pq9 b):Pq9 (.tup [a,b]):=gx (by show 2≤20000;decide) fun t m=>by
 simp only [xi,yi,or_false] at m
 rcases m with rfl|rfl
 · exact ha
 · exact hb
theorem jF {a b c:Tr} (ha:Pq9 a) (hb:Pq9 b) (hc:Pq9 c):Pq9 (.tup [a,b,c]):=gx (by show 3≤20000;decide) fun t m=>by
 simp only [xi,yi,or_false] at m
 rcases m with rfl|rfl|rfl
 · exact ha
 · exact hb
 · exact hc
theorem dr (x:Str):Pq9 (.str x):=by unfold Pq9;trivial
theorem tY {n:Nat} {t:Tr} {c:List Nat} (h:Wx n t c):Pq9 t:=by
 induction h with
 |fl n x _=>exact gv (dr _) (dr _)
 |mo n ps f h1 h2 _ _ _=>
  refine jF (dr _) (gx (by rw [wZ];omega) fun t m=> ?_) (tZ f)
  obtain ⟨p,mp,rfl⟩:=xy.mp m
  exact gv (m8 (h2 p mp).tb.gm) (tZ _)
 |li n t u h1 h2=>exact jF (dr _) (m8 h1.gm) (m8 h2.gm)
 |no n t c _ ih=>exact gv (dr _) ih
 |bo n l h3 _ ih=>
  refine gv (dr _) (gx (by rw [wZ];omega) fun t m=> ?_)
  obtain ⟨p,mp,rfl⟩:=xy.mp m
  exact ih p mp
 |ei n l h3 _ ih=>
  refine gv (dr _) (gx (by rw [wZ];omega) fun t m=> ?_)
  obtain ⟨p,mp,rfl⟩:=xy.mp m
  exact ih p mp
theorem ia {H:Hp} {n:Nat} {vs ws:List V} {ts:List Tr} (h1:TrsAt H vs ts) (h2:TrsAt H ws ts) (h:∀v w t,t∈ts→TrAt H v t→TrAt H w t→K09.Sm H n v w):vs.length=ws.length∧∀(j:Nat) x y,vs[j]?=some x→ws[j]?=some y→K09.Sm H n x y:=by
 have l1:=h1.len
 have l2:=h2.len
 refine ⟨by omega,fun j x y e1 e2=> ?_⟩
 have hj:j < ts.length:=by
  have:=(xo.mp e1).1
  omega
 have t1:ts[j]?=some ts[j]:=x4 _
 obtain ⟨v,f1,a1⟩:=h1.get t1
 obtain ⟨w,f2,a2⟩:=h2.get t1
 rw [e1] at f1
 rw [e2] at f2
 cases f1
 cases f2
 exact h x y _ (xa t1) a1 a2
theorem pf {H:Hp}:∀(n:Nat) {v w:V} {t:Tr},TrAt H v t→TrAt H w t→Pq9 t→t.depth < n→K09.Sm H n v w
 |0,v,w,t,_,_,_,h=>absurd h (by omega)
 |n+1,v,w, .non,_,_,hp,_=>by unfold Pq9 at hp;exact hp.elim
 |n+1,v,w, .bl b,_,_,hp,_=>by unfold Pq9 at hp;exact hp.elim
 |n+1,v,w, .ls,_,_,hp,_=>by unfold Pq9 at hp;exact hp.elim
 |n+1,v,w, .int i,h1,h2,_,_=>by
  unfold TrAt at h1 h2
  exact .inr (.inl ⟨i,h1,h2⟩)
 |n+1,v,w, .str x,h1,h2,_,_=>by
  unfold TrAt at h1 h2
  exact .inl ⟨x,h1,h2⟩
 |n+1,v,w, .tup ts,h1,h2,hp,hd=>by
  unfold TrAt at h1 h2
  unfold Pq9 at hp
  unfold Tr.depth at hd
  obtain ⟨r,vs,rfl,g1,k1⟩:=h1
  obtain ⟨r',ws,rfl,g2,k2⟩:=h2
  obtain ⟨hl,hi⟩:=ia (n:=n) k1 k2 fun v w t m a b=>pf n a b (pM hp.2 m) (by have:=aK m;omega)
  have:=k1.len
  exact .inr (.inr ⟨r,r',vs,ws,rfl,rfl, .inr ⟨g1,g2⟩,hl,by have:=hp.1;omega,hi⟩)
theorem gj {H:Hp} {n:Nat} {a b:Addr} {vs ws:List V} {ts:List Tr} (ha:H a=some (.lst vs)) (hb:H b=some (.lst ws)) (h1:TrsAt H vs ts) (h2:TrsAt H ws ts) (hz:ts.length≤20000) (hp:∀t∈ts,Pq9 t) (hd:∀t∈ts,t.depth < n):K09.Sm H (n+1) (.ref a) (.ref b):=by
 obtain ⟨hl,hi⟩:=ia (n:=n) h1 h2 fun v w t m a b=>pf n a b (hp t m) (hd t m)
 have:=h1.len
 exact .inr (.inr ⟨a,b,vs,ws,rfl,rfl, .inl ⟨ha,hb⟩,hl,by omega,hi⟩)
end K09
namespace L2
open PySem PySem.Spec PyProof.Rows
section
variable {X:Cx}
def sr:V→List V→Hp→VK→Prop:=fun x vs H Q=>∃(l:Addr) (xs:List V) (i:Nat) (y:V),x= .ref l∧vs= [.int (i:Int),y]∧H l=some (.lst xs)∧i≤xs.length∧i≤100000∧xs.length < sizeLine∧Q .non (upd H l (.lst (xs.take i++y::xs.drop i)))
theorem tz {i:Nat} (h:i≤100000):¬(!Builtin.List.listFitsIndex (i:Int))=true:=by
 have:Builtin.List.listFitsIndex (i:Int)=true:=by
  unfold Builtin.List.listFitsIndex
  rw [xV,decide_eq_true_eq,decide_eq_true_eq]
  omega
 rw [this]
 decide
theorem vt {its:List Value} {u:Value} {i:Nat} {j:Int} (e:(i:Int)=j) (h:i≤its.length):((its.toArray.extract 0 (if j < 0 then (j+(its.toArray.size:Int)).toNat else min j.toNat its.toArray.size)).push u++its.toArray.extract (if j < 0 then (j+(its.toArray.size:Int)).toNat else min j.toNat its.toArray.size))=(its.take i++u::its.drop i).toArray:=by
 subst e
 have h1:¬((i:Int) < 0):=by omega
 rw [if_neg h1]
 have h2:min ((i:Int)).toNat its.toArray.size=i:=by
  rw [xc]
  omega
 rw [h2]
 simp
 exact List.take_of_length_le (by rw [List.length_drop];omega)
theorem mt_insert:MtM X "list.insert" sr:=by
 intro pins s σ H x vs v us Q I rx rv h
 obtain ⟨l,xs,i,y,rfl,rfl,hH,hi,hi5,hz,q⟩:=h
 cases rx
 have fit:=tz hi5
 obtain ⟨u1,u2,rfl,⟨tk,rfl⟩,r2⟩:=rv.two
 obtain ⟨z,its,n,r,hl,e⟩:=I.lstM hH
 have hsz:its.toArray.size≤sizeLine:=by rw [xc];omega
 have rl:=r.length
 generalize ej:(i:Int)=j at*
 have m:=AutoListH.list_insert_list_int_val_1 l its.toArray n j tk u2 fit hsz
 refine call_meets F.slot_list_insert ⟨_,e,rfl⟩ F.entry_list_insert (F.args_list_insert_3 _ _ _) m ⟨e,?_⟩
 refine ⟨.non,_,I.lset (its':=its.take i++u2::its.drop i) (ys:=xs.take i++y::xs.drop i) hH e (vt ej (by omega)) ((r.take i).append (.cons r2 (r.drop i))) ?_,rfl,q⟩
 rw [x3,xM,xh,List.length_drop]
 omega
end
end L2
namespace L2
open PySem Tre
noncomputable def fg (f:Expr→Option Tr):List Expr→Option (List Tr)
 | []=>some []
 |e::es=>match f e,fg f es with
  |some t,some ts=>some (t::ts)
  |_,_=>none
noncomputable def litE:Nat→Expr→Option Tr
 |0,_=>none
 |n+1,e=>match e with
  | .Constant (.str x) _ _=>some (.str x)
  | .Constant (.int i) _ _=>some (.int i)
  | .UnaryOp .USub (.Constant (.int i) _ _) _=>some (.int (-i))
  | .Tuple es _ _=>if es.length≤100 then (fg (litE n) es).map .tup else none
  |_=>none
def tLit (t:Tr):TE:=fun _ H Q=>∀v H',Same H H'→TrAt H' v t→Q v H'
def wb (ts:List Tr):TA:=fun _ H Q=>∀vs H',Same H H'→TrsAt H' vs ts→Q vs H'
section
variable {X:Cx}
theorem PE.imp {e:Expr} {t u:TE} (h:PE X e t) (k:∀σ H Q,u σ H Q→t σ H Q):PE X e u:=fun pins s σ H Q I q=>h pins s σ H Q I (k σ H Q q)
theorem PA.imp {es:List Expr} {t u:TA} (h:PA X es t) (k:∀σ H Q,u σ H Q→t σ H Q):PA X es u:=fun pos pins s σ H Q I q=>h pos pins s σ H Q I (k σ H Q q)
theorem rZ {H:Hp} {p:Addr} {o:HO} (h:H p=none):Same H (upd H p o):=fun b u e=>by
 rw [aG (aJ e h)]
 exact e
theorem Same.none {H H':Hp} {p:Addr} (s:Same H H') (h:H' p=none):H p=none:=by
 cases e:H p with
 |none=>rfl
 |some o=>rw [s p o e] at h;cases h
theorem jO:∀ {n:Nat} {es:List Expr} {ts:List Tr},fg (litE n) es=some ts→ts.length=es.length
 |n,[],ts,h=>by
  rw [fg] at h
  cases h
  rfl
 |n,e::es,ts,h=>by
  rw [fg] at h
  split at h
  · rename_i t us h1 h2
    cases h
    rw [xh,xh,jO h2]
  · cases h
theorem sC:∀n,∀e t,litE n e=some t→PE X e (tLit t)∧∀es,starEach (e::es) X.env=(false,eval e X.env)::starEach es X.env:=by
 intro n
 induction n with
 |zero=>
  intro e t h
  rw [litE] at h
  cases h
 |succ n ih=>
  have many:∀es ts,fg (litE n) es=some ts→PA X es (wb ts):=by
   intro es
   induction es with
   |nil=>
    intro ts h
    rw [fg] at h
    cases h
    exact PA.imp aa fun σ H Q q=>q [] H (Same.refl H) .nil
   |cons e es ih2=>
    intro ts h
    rw [fg] at h
    split at h
    · rename_i t us h1 h2
      cases h
      obtain ⟨a1,a2⟩:=ih e t h1
      refine PA.imp (a9 a1 (ih2 us h2) (a2 es)) fun σ H Q q=> ?_
      intro v H1 s1 hv ws H2 s2 hw
      exact q (v::ws) H2 (s1.trans s2) (.cons (hv.mono (Kd.of_same s2)) hw)
    · cases h
  intro e t h
  unfold litE at h
  split at h
  · cases h
    exact ⟨PE.imp aC fun σ H Q q=>q _ H (Same.refl H) bK,fun es=>rfl⟩
  · cases h
    exact ⟨PE.imp ae fun σ H Q q=>q _ H (Same.refl H) (by unfold TrAt;rfl),fun es=>rfl⟩
  · cases h
    exact ⟨PE.imp (u6 oo ae) fun σ H Q q=>⟨_,rfl,q _ H (Same.refl H) (by unfold TrAt;rfl)⟩,fun es=>rfl⟩
  · rename_i es k pos
    split at h
    · rename_i hl
      obtain ⟨ts,h1,h2⟩:=xG.mp h
      cases h2
      refine ⟨PE.imp (bJ (many es ts h1)) fun σ H Q q=> ?_,fun es=>rfl⟩
      intro vs H1 s1 hv
      have l1:=hv.len
      have l2:=jO h1
      refine ⟨by have:(100:Nat)≤sizeLine:=by decide +kernel
                 omega,fun p np=> ?_⟩
      have s2:=rZ (o:= .tup vs) np
      exact q (.ref p) _ (s1.trans s2) (bX ac (hv.mono (Kd.of_same s2)))
    · cases h
  · cases h
theorem uK (n:Nat) {e:Expr} {t:Tr} (h:litE n e=some t):PE X e (tLit t):=(sC n e t h).1
end
end L2
namespace St8
open PySem
theorem nd_ix {l:List Nat} (h:l.Nodup) {i j:Nat} {x:Nat} (h1:l[i]?=some x) (h2:l[j]?=some x):i=j:=by
 obtain ⟨hi,e1⟩:=xo.mp h1
 obtain ⟨hj,e2⟩:=xo.mp h2
 have n:=List.nodup_iff_pairwise_ne.mp h
 rw [y9] at n
 rcases Nat.lt_trichotomy i j with q|q|q
 · exact absurd (e1.trans e2.symm) (n i j hi hj q)
 · exact q
 · exact absurd (e2.trans e1.symm) (n j i hj hi q)
open PySem PySem.Spec PyProof.Rows L2 Tk
theorem eG:∀(n:Nat) {prog:Program} {w:World} {A:Around} {E:Value→Shared→Prop} {s:Shared} {t:KT} {v:Value} {Q:Bool→Shared→Prop},KAt s.heap v t→t.depth≤n→Q false s→wpAny (model prog w) A (ofAClassStatement n v) Q E s:=by
 have leaf:∀(n:Nat) {prog:Program} {w:World} {A:Around} {E:Value→Shared→Prop} {s:Shared} {k:Key} {v:Value} {Q:Bool→Shared→Prop},dl k v=true→Q false s→wpAny (model prog w) A (ofAClassStatement n v) Q E s:=by
  intro n prog w A E s k v Q h q
  rcases aF h with ⟨i,t,_,rfl⟩|⟨x,t,_,rfl⟩<;>(unfold ofAClassStatement;exact wpAny_pure q)
 intro n
 induction n with
 |zero=>
  intro prog w A E s t v Q h hd q
  cases t with
  |tp ts=>simp [KT.depth] at hd
  |lf k=>
   unfold KAt at h
   exact leaf 0 h q
 |succ n ih=>
  intro prog w A E s t v Q h hd q
  cases t with
  |lf k=>
   unfold KAt at h
   exact leaf _ h q
  |tp ts=>
   unfold KAt at h
   obtain ⟨a,o,items,m,rfl,g,c,d,r⟩:=h
   have ty:s.TypeIs (.ref a) "tuple":=⟨o,g,c⟩
   have hd':KTs.depth ts≤n:=by
    unfold KT.depth at hd
    omega
   unfold ofAClassStatement
   refine wpAny_bind (wpAny_typeOf ty ?_)
   simp only [beq_self_eq_true,if_true]
   refine wpAny_bind (wpAny_pure ?_)
   simp only [Bool.not_true,if_false,xp]
   refine wpAny_bind (wpAny_seqItems g d ?_)
   refine wpAny_bind ?_
   show wpAny _ _ (forIn items _ _) _ _ _
   rw [←Array.forIn_toList]
   refine wpAny_forIn_list _ (fun rest b s'=>b.1=none∧s'=s∧∃left,KsAt s.heap rest left∧KTs.depth left≤n) _ ?_ ?_ _ _ ⟨rfl,rfl,ts,r,hd'⟩
   · rintro x rest b s' ⟨hb,rfl,left,hl,hd2⟩
     cases left with
     |nil=>
      unfold KsAt at hl
      cases hl
     |cons t left=>
      unfold KsAt at hl
      obtain ⟨v,rr,e,h1,h2⟩:=hl
      cases e
      unfold KTs.depth at hd2
      refine wpAny_bind (ih h1 (by omega) ?_)
      simp only [if_false,xp]
      exact wpAny_pure ⟨rfl,rfl,left,h2,by omega⟩
   · rintro ⟨b1,b2⟩ s' ⟨hb,rfl,_⟩
     simp only at hb
     subst hb
     exact wpAny_pure q
theorem hbv_at:∀(n:Nat) {prog:Program} {w:World} {A:Around} {E:Value→Shared→Prop} {s:Shared} {t:KT} {v:Value} {Q:Bool→Shared→Prop},KAt s.heap v t→(∀b,Q b s)→wpAny (model prog w) A (hashByValue n v) Q E s:=by
 have leaf:∀(n:Nat) {prog:Program} {w:World} {A:Around} {E:Value→Shared→Prop} {s:Shared} {k:Key} {v:Value} {Q:Bool→Shared→Prop},dl k v=true→(∀b,Q b s)→wpAny (model prog w) A (hashByValue n v) Q E s:=by
  intro n prog w A E s k v Q h q
  rcases aF h with ⟨i,t,_,rfl⟩|⟨x,t,_,rfl⟩<;>(cases n<;>(unfold hashByValue;exact wpAny_pure (q _)))
 intro n
 induction n with
 |zero=>
  intro prog w A E s t v Q h q
  cases t with
  |tp ts=>
   unfold KAt at h
   obtain ⟨a,o,items,m,rfl,g,c,d,r⟩:=h
   unfold hashByValue
   exact wpAny_pure (q _)
  |lf k=>
   unfold KAt at h
   exact leaf 0 h q
 |succ n ih=>
  intro prog w A E s t v Q h q
  cases t with
  |lf k=>
   unfold KAt at h
   exact leaf _ h q
  |tp ts=>
   unfold KAt at h
   obtain ⟨a,o,items,m,rfl,g,c,d,r⟩:=h
   have ty:s.TypeIs (.ref a) "tuple":=⟨o,g,c⟩
   unfold hashByValue
   refine wpAny_bind (wpAny_specialOf ty F.slot_tuple_hash.lookup ?_)
   refine wpAny_bind (wpAny_seqItems g d (wpAny_bind ?_))
   show wpAny _ _ (forIn items _ _) _ _ _
   rw [←Array.forIn_toList]
   refine wpAny_forIn_list _ (fun rest b s'=>b.1=none∧s'=s∧∃left,KsAt s.heap rest left) _ ?_ ?_ _ _ ⟨rfl,rfl,ts,r⟩
   · rintro x rest b s' ⟨hb,rfl,left,hl⟩
     cases left with
     |nil=>
      unfold KsAt at hl
      cases hl
     |cons t left=>
      unfold KsAt at hl
      obtain ⟨v,rr,e,h1,h2⟩:=hl
      cases e
      refine wpAny_bind (ih h1 fun bb=> ?_)
      cases bb with
      |true=>
       simp only [Bool.not_true,if_false,xp]
       exact wpAny_pure ⟨rfl,rfl,left,h2⟩
      |false=>
       simp only [Bool.not_false,if_true]
       exact wpAny_pure (wpAny_pure (q _))
   · rintro ⟨b1,b2⟩ s' ⟨hb,rfl,_⟩
     simp only at hb
     subst hb
     exact wpAny_pure (q _)
section
variable {prog:Program} {w:World} {A:Around} {X:Value→Shared→Prop} {s:Shared} {a:Addr} {m:Nat} {E:Nat→Int×Value} {kf:Nat→KT} {o:Obj} {es:Array (Int×Value)} {ep:Nat} {t:SetTable} {b0:Bool}
theorem scs_at {x:Value} {kt:KT} (hxr:∃c,x= .ref c) (hx:KAt s.heap x kt) (hd:kt.depth≤8) {l:List Value} {Q:Bool→Shared→Prop} (hl:∀y∈l,∃t,KAt s.heap y t∧t.depth≤8∧∃b,y= .ref b) (q:Q false s):wpAny (model prog w) A (searchCouldBeSeen x l) Q X s:=by
 unfold searchCouldBeSeen
 refine wpAny_bind ?_
 refine wpAny_forIn_list _ (fun rest b s'=>b.1=none∧s'=s∧∀y∈rest,y∈l) _ ?_ ?_ _ _ ⟨rfl,rfl,fun y m=>m⟩
 · rintro y rest b s' ⟨hb,rfl,hm⟩
   obtain ⟨t,h1,h2,⟨b',rfl⟩⟩:=hl y (hm y x5)
   obtain ⟨c,rfl⟩:=hxr
   have go:∀y∈rest,y∈l:=fun y m=>hm y (x6 _ m)
   dsimp only
   split
   · exact wpAny_pure ⟨rfl,rfl,go⟩
   · refine wpAny_bind (gk 8 hx hd ?_)
     simp only [Bool.not_true,xp,if_false]
     refine wpAny_bind (gk 8 h1 h2 ?_)
     simp only [Bool.not_true,xp,if_false]
     refine wpAny_bind (eG 8 hx hd ?_)
     simp only [xp,if_false]
     refine wpAny_bind (eG 8 h1 h2 ?_)
     simp only [xp,if_false]
     exact wpAny_pure ⟨rfl,rfl,go⟩
 · rintro ⟨b1,b2⟩ s' ⟨hb,rfl,_⟩
   simp only at hb
   subst hb
   exact wpAny_pure q
end
open PySem PySem.Spec PyProof.Rows L2 Tk
noncomputable def setE {α:Type} (E:Nat→α) (j:Nat) (x:α):Nat→α:=fun i=>if i=j then x else E i
section
variable {prog:Program} {w:World} {A:Around} {X:Value→Shared→Prop} {s:Shared} {a:Addr} {m:Nat} {E:Nat→Int×Value} {kf:Nat→KT} {o:Obj} {es:Array (Int×Value)} {ep:Nat} {t:SetTable} {b0:Bool}
end
open PySem PySem.Spec PyProof.Rows L2 Tk
theorem qY {prog:Program} {w:World} {A:Around} {X:Value→Shared→Prop} {s:Shared} {src:Source} {n:Nat} {Q:Nat→Shared→Prop} (hn:n≠0) (q:∀i d,i < n→Q i {s with drawn:=d}):wpAny (model prog w) A (choose src n) Q X s:=by
 intro Γ p h
 show Sem.wp _ _ (.choose src n .pure) _ _ _ _
 rw [Sem.wp_choose]
 refine ⟨hn,?_⟩
 rw [Sem.wp_pure]
 exact q _ _ (Nat.mod_lt _ (by omega))
theorem gU {α:Type}:∀(l:List α) (i:Nat) (h:i < l.length),(l[i]::l.eraseIdx i).Perm l
 | [],i,h=>by cases h
 |x::l,0,h=>List.Perm.refl _
 |x::l,i+1,h=>by
  have ih:=gU l i (Nat.lt_of_succ_lt_succ h)
  exact (List.Perm.swap _ _ _).trans (ih.cons x)
theorem order_any {α:Type} {prog:Program} {w:World} {A:Around} {X:Value→Shared→Prop}:∀(n:Nat) (xs:List α) {s:Shared} {Q:List α→Shared→Prop},xs.length=n→(∀ys d,ys.Perm xs→Q ys {s with drawn:=d})→wpAny (model prog w) A (drawOrder n xs) Q X s
 |0,xs,s,Q,hl,q=>by
  unfold drawOrder
  have:xs= []:=List.length_eq_zero_iff.mp hl
  subst this
  exact wpAny_pure (q [] s.drawn (List.Perm.refl _))
 |n+1,[],s,Q,hl,q=>by cases hl
 |n+1,x::xs,s,Q,hl,q=>by
  unfold drawOrder
  refine wpAny_bind (qY (by simp) fun i d hi=> ?_)
  rw [x4 hi]
  dsimp only
  have el:((x::xs).eraseIdx i).length=n:=by rw [List.length_eraseIdx,if_pos hi,hl];rfl
  refine wpAny_bind (order_any n _ (s:= {s with drawn:=d}) el fun ys d' hp=>wpAny_pure (q _ d' ?_))
  have h1:((x::xs)[i]::ys).Perm ((x::xs)[i]::(x::xs).eraseIdx i):=hp.cons _
  exact h1.trans (gU _ _ hi)
theorem pick_perm {α:Type} (next:Nat→Nat) (xs:Array α):(pickOrder next xs).toList.Perm xs.toList:=by
 have go:∀(fuel k:Nat) (left:List α) (out:Array α),left.length≤fuel→(pickOrder.go next fuel k left out).toList.Perm (out.toList++left):=by
  intro fuel
  induction fuel with
  |zero=>
   intro k left out h
   have:left= []:=List.length_eq_zero_iff.mp (by omega)
   subst this
   unfold pickOrder.go
   simp
  |succ fuel ih=>
   intro k left out h
   unfold pickOrder.go
   cases left with
   |nil=>simp
   |cons x l=>
    have hi:next k%(x::l).length < (x::l).length:=Nat.mod_lt _ (by simp)
    rw [x4 hi]
    dsimp only
    refine (ih _ _ _ ?_).trans ?_
    · rw [List.length_eraseIdx,if_pos hi]
      simp only [xh] at h ⊢
      omega
    · rw [Array.toList_push,yy]
      refine List.Perm.append_left _ ?_
      exact gU _ _ hi
 unfold pickOrder
 have:=go xs.size 0 xs.toList #[] (by simp)
 simpa using this
end St8
namespace Sn
open PySem PySem.Spec PyProof.Rows
def Up (l:List Nat):Prop:=l.Pairwise (· < ·)
theorem Up.le {l:List Nat} (h:Up l) {i j x y:Nat} (hi:l[i]?=some x) (hj:l[j]?=some y) (hij:i≤j):x≤y:=by
 obtain ⟨h1,e1⟩:=xo.mp hi
 obtain ⟨h2,e2⟩:=xo.mp hj
 rcases Nat.lt_or_ge i j with c|c
 · have:=y9.mp h i j h1 h2 c
   omega
 · have:i=j:=by omega
   subst this
   omega
theorem gX (xs:Array Nat) (j:Nat) (up:Up xs.toList):∀(fuel lo hi:Nat),hi - lo≤fuel→lo≤hi→hi≤xs.size→(∀i x,i < lo→xs.toList[i]?=some x→x < j)→(∀i x,hi≤i→xs.toList[i]?=some x→j≤x)→
 SetTable.below.go xs j fuel lo hi≤xs.size∧(∀i x,i < SetTable.below.go xs j fuel lo hi→xs.toList[i]?=some x→x < j)∧(∀i x,SetTable.below.go xs j fuel lo hi≤i→xs.toList[i]?=some x→j≤x)
 |0,lo,hi,hf,h1,h2,h3,h4=>by
  have:lo=hi:=by omega
  subst this
  unfold SetTable.below.go
  exact ⟨h2,h3,h4⟩
 |fuel+1,lo,hi,hf,h1,h2,h3,h4=>by
  unfold SetTable.below.go
  by_cases c:lo < hi
  · rw [if_pos c]
    have hm:(lo+hi) / 2 < xs.size:=by omega
    have em:xs.getD ((lo+hi) / 2) j=xs[(lo+hi) / 2]:=by rw [xR,xq hm];rfl
    have el:xs.toList[(lo+hi) / 2]?=some xs[(lo+hi) / 2]:=by rw [xk,xq hm]
    dsimp only
    rw [em]
    by_cases d:xs[(lo+hi) / 2] < j
    · rw [if_pos d]
      refine gX xs j up fuel _ _ (by omega) (by omega) h2 (fun i x hi' e=> ?_) h4
      have:=up.le e el (by omega)
      omega
    · rw [if_neg d]
      refine gX xs j up fuel _ _ (by omega) (by omega) (by omega) h3 fun i x hi' e=> ?_
      have:=up.le el e (by omega)
      omega
  · rw [if_neg c]
    have:lo=hi:=by omega
    subst this
    exact ⟨h2,h3,h4⟩
theorem eJ {xs:Array Nat} (up:Up xs.toList) (j:Nat):SetTable.below xs j≤xs.size∧(∀i x,i < SetTable.below xs j→xs.toList[i]?=some x→x < j)∧(∀i x,SetTable.below xs j≤i→xs.toList[i]?=some x→j≤x):=by
 unfold SetTable.below
 refine gX xs j up _ _ _ (by omega) (xz _) (x9 _) (fun i x h _=>by omega) fun i x h e=> ?_
 have:=(xo.mp e).1
 rw [xb] at this
 omega
theorem oe {xs:Array Nat} (up:Up xs.toList) {j:Nat} (h:¬xs[SetTable.below xs j]?=some j):j∉xs.toList:=by
 intro m
 obtain ⟨i,hi,e⟩:=yo m
 have e':xs.toList[i]?=some j:=by rw [x4 hi,e]
 obtain ⟨h1,h2,h3⟩:=eJ up j
 rcases Nat.lt_or_ge i (SetTable.below xs j) with c|c
 · have:=h2 i j c e'
   omega
 · have hb:SetTable.below xs j < xs.toList.length:=by omega
   have e2:xs.toList[SetTable.below xs j]?=some xs.toList[SetTable.below xs j]:=x4 hb
   have l1:=h3 _ _ (x9 _) e2
   have l2:=up.le e2 e' c
   refine h ?_
   rw [←xk,e2]
   congr 1
   omega
theorem uG {t:SetTable} (up:Up t.place.toList) {j:Nat} (h:j∉t.place.toList):Up (t.put j).1.place.toList:=by
 show Up (SetTable.insertAt t.place (SetTable.below t.place j) j).toList
 obtain ⟨h1,h2,h3⟩:=eJ up j
 rw [SetTable.toList_insertAt]
 have hs:Up (t.place.toList.take (SetTable.below t.place j)++t.place.toList.drop (SetTable.below t.place j)):=by rw [yj];exact up
 obtain ⟨p1,p2,p3⟩:=List.pairwise_append.mp hs
 refine List.pairwise_append.mpr ⟨p1,List.pairwise_cons.mpr ⟨fun x m=> ?_,p2⟩,fun x m y m'=> ?_⟩
 · obtain ⟨i,e⟩:=List.mem_iff_getElem?.mp m
   rw [List.getElem?_drop] at e
   have:=h3 _ x (by omega) e
   have ne:x≠j:=fun z=>h (z▸xa e)
   omega
 · obtain ⟨i,e⟩:=List.mem_iff_getElem?.mp m
   have hx:x < j:=by
    rw [List.getElem?_take] at e
    by_cases c:i < SetTable.below t.place j
    · rw [if_pos c] at e
      exact h2 i x c e
    · rw [if_neg c] at e
      cases e
   rcases xi.mp m' with rfl|m'
   · exact hx
   · exact p3 x m y m'
theorem pD (n:Nat):Up (List.range n):=List.pairwise_lt_range
theorem oU (t:SetTable) (n:Nat):Up (t.standIn n).place.toList:=by
 show Up (Array.range n).toList
 rw [Array.toList_range]
 exact pD n
structure Tk (b:Bool) (t:SetTable):Prop where
 led:t.led=b
 up:Up t.place.toList
theorem Tk.stand {b:Bool} {t:SetTable} (h:Tk b t) (n:Nat):Tk b (t.standIn n):=⟨h.led,oU t n⟩
end Sn
namespace Sh
open PySem PySem.Spec PyProof.Rows L2 Tk Sn
theorem sub_len {α:Type}:∀ {l U:List α},l.Nodup→(∀x∈l,x∈U)→l.length≤U.length
 | [],U,_,_=>xz _
 |x::l,U,h,hs=>by
  obtain ⟨h1,h2⟩:=yv.mp h
  obtain ⟨a,b,rfl⟩:=List.append_of_mem (hs x x5)
  have:l.length≤(a++b).length:=sub_len h2 fun y my=>by
   have:=hs y (x6 _ my)
   simp only [xj,xi] at this ⊢
   rcases this with h|rfl|h
   · exact .inl h
   · exact absurd my h1
   · exact .inr h
  simp only [x3,xh] at this ⊢
  omega
noncomputable def adv (M:Nat) (p:SetTable.Probe):SetTable.Probe:=if p.more > 0 then {p with j:=p.j+1,more:=p.more - 1} else
 {p with j:=(SetTable.leap M p.i p.perturb).1,more:=SetTable.runEnd M (SetTable.leap M p.i p.perturb).1 - (SetTable.leap M p.i p.perturb).1,i:=(SetTable.leap M p.i p.perturb).1,perturb:=(SetTable.leap M p.i p.perturb).2}
theorem vH (t:SetTable) (p:SetTable.Probe):t.advance p=adv t.mask p:=rfl
noncomputable def st (M:Nat) (h:Int):SetTable.Probe:= {j:=SetTable.bits h%(M+1),more:=SetTable.runEnd M (SetTable.bits h%(M+1)) - SetTable.bits h%(M+1),i:=SetTable.bits h%(M+1),perturb:=SetTable.bits h,dummy:=none}
noncomputable def pr (M:Nat) (h:Int):Nat→SetTable.Probe
 |0=>st M h
 |k+1=>adv M (pr M h k)
noncomputable def sq (M:Nat) (h:Int) (k:Nat):Nat:=(pr M h k).j
structure Pg (M:Nat) (p:SetTable.Probe):Prop where
 lt:p.j+p.more≤M
 nine:p.more≤9
 du:p.dummy=none
theorem eS {M i:Nat} (h:i≤M):i+(SetTable.runEnd M i - i)≤M∧SetTable.runEnd M i - i≤9∧SetTable.runEnd M i+1 - i=SetTable.runEnd M i - i+1:=by
 unfold SetTable.runEnd
 split<;>omega
theorem mE (M i p:Nat):(SetTable.leap M i p).1≤M:=by
 have:=Nat.mod_lt (i*5+1+p / 32) (show 0 < M+1 by omega)
 show (i*5+1+p / 32)%(M+1)≤M
 omega
theorem pg (M:Nat) (h:Int):∀k,Pg M (pr M h k)
 |0=>by
  have:SetTable.bits h%(M+1)≤M:=by
   have:=Nat.mod_lt (SetTable.bits h) (show 0 < M+1 by omega)
   omega
  exact ⟨(eS this).1,(eS this).2.1,rfl⟩
 |k+1=>by
  have g:=pg M h k
  show Pg M (adv M (pr M h k))
  unfold adv
  split
  · exact ⟨by have:=g.lt;show (pr M h k).j+1+((pr M h k).more - 1)≤M;omega,by have:=g.nine;show (pr M h k).more - 1≤9;omega,g.du⟩
  · have:=mE M (pr M h k).i (pr M h k).perturb
    exact ⟨(eS this).1,(eS this).2.1,g.du⟩
theorem tV (M:Nat) (h:Int) (k:Nat):sq M h k≤M:=by
 have:=(pg M h k).lt
 unfold sq
 omega
theorem l5 (M:Nat) (h:Int) (k:Nat):∀m,m≤(pr M h k).more→pr M h (k+m)= {pr M h k with j:=(pr M h k).j+m,more:=(pr M h k).more - m}
 |0,_=>rfl
 |m+1,hm=>by
  have ih:=l5 M h k m (by omega)
  show adv M (pr M h (k+m))=_
  rw [ih]
  unfold adv
  rw [if_pos (by show (pr M h k).more - m > 0;omega)]
  show SetTable.Probe.mk ((pr M h k).j+m+1) ((pr M h k).more - m - 1) _ _ _=_
  rfl
noncomputable def lp (M:Nat) (h:Int):Nat→Nat×Nat
 |0=>(SetTable.bits h%(M+1),SetTable.bits h)
 |l+1=>SetTable.leap M (lp M h l).1 (lp M h l).2
structure Lp (M:Nat) (h:Int) (l k:Nat):Prop where
 j:(pr M h k).j=(lp M h l).1
 i:(pr M h k).i=(lp M h l).1
 p:(pr M h k).perturb=(lp M h l).2
 m:(pr M h k).more=SetTable.runEnd M (lp M h l).1 - (lp M h l).1
theorem Lp.next {M:Nat} {h:Int} {l k:Nat} (L:Lp M h l k):Lp M h (l+1) (k+(pr M h k).more+1):=by
 have e:=l5 M h k (pr M h k).more (x9 _)
 have e2:pr M h (k+(pr M h k).more+1)=adv M (pr M h (k+(pr M h k).more)):=rfl
 have hz:¬((pr M h k).more - (pr M h k).more > 0):=by omega
 have e3:pr M h (k+(pr M h k).more+1)= {pr M h k with j:=(SetTable.leap M (pr M h k).i (pr M h k).perturb).1,more:=SetTable.runEnd M (SetTable.leap M (pr M h k).i (pr M h k).perturb).1 - (SetTable.leap M (pr M h k).i (pr M h k).perturb).1,i:=(SetTable.leap M (pr M h k).i (pr M h k).perturb).1,perturb:=(SetTable.leap M (pr M h k).i (pr M h k).perturb).2}:=by
  rw [e2,e]
  unfold adv
  rw [if_neg hz]
 have q:SetTable.leap M (pr M h k).i (pr M h k).perturb=lp M h (l+1):=by rw [L.i,L.p];rfl
 rw [q] at e3
 exact ⟨by rw [e3],by rw [e3],by rw [e3],by rw [e3]⟩
theorem uf (M:Nat) (h:Int):∀l,∃k,k≤10*l∧Lp M h l k
 |0=>⟨0,x9 _,⟨rfl,rfl,rfl,rfl⟩⟩
 |l+1=>by
  obtain ⟨k,hk,L⟩:=uf M h l
  have:=(pg M h k).nine
  exact ⟨_,by omega,L.next⟩
theorem qr (M:Nat) (h:Int):∀l,(lp M h l).2=SetTable.bits h / 32^l
 |0=>by simp [lp]
 |l+1=>by
  show (lp M h l).2 / 32=_
  rw [qr M h l,Nat.div_div_eq_div_mul,ya]
theorem lp_z (M:Nat) (h:Int):(lp M h 13).2=0:=by
 rw [qr]
 refine Nat.div_eq_of_lt ?_
 have:SetTable.bits h < 2^64:=by
  unfold SetTable.bits
  omega
 exact xC this (by decide)
noncomputable def lcg (M:Nat):Nat→Nat→Nat
 |0,i=>i
 |n+1,i=>lcg M n ((i*5+1)%(M+1))
theorem jQ (M:Nat):∀n i,lcg M (n+1) i=(lcg M n i*5+1)%(M+1)
 |0,i=>rfl
 |n+1,i=>by
  show lcg M (n+1) ((i*5+1)%(M+1))=_
  rw [jQ M n]
  rfl
theorem qv (M:Nat) (h:Int):∀n,lp M h (13+n)=(lcg M n (lp M h 13).1,0)
 |0=>Prod.ext rfl (lp_z M h)
 |n+1=>by
  show SetTable.leap M (lp M h (13+n)).1 (lp M h (13+n)).2=_
  rw [qv M h n,jQ]
  show ((lcg M n (lp M h 13).1*5+1+0 / 32)%(M+1),0 / 32)=_
  rw [Nat.zero_div,Nat.add_zero]
theorem fH (M:Nat):∀a n i,lcg M (a+n) i=lcg M n (lcg M a i)
 |0,n,i=>by rw [Nat.zero_add];rfl
 |a+1,n,i=>by
  rw [show a+1+n=(a+n)+1 by omega]
  show lcg M (a+n) ((i*5+1)%(M+1))=_
  rw [fH M a n]
  rfl
theorem sG:(([7,31,127].all fun M=>(lcg M (M+1) 0==0)&& (List.range (M+1)).all fun s=>(List.range (M+1)).any fun n=>lcg M n 0==s))=true:=by decide +kernel
theorem full {M:Nat} (hM:M=7∨M=31∨M=127) {i s:Nat} (hi:i≤M) (hs:s≤M):∃n,n≤M∧lcg M n i=s:=by
 have h1:=List.all_eq_true.mp sG M (by rcases hM with rfl|rfl|rfl<;>simp)
 rw [xV] at h1
 have h0:lcg M (M+1) 0=0:=by simpa using h1.1
 have at_:∀s,s≤M→∃n,n≤M∧lcg M n 0=s:=fun s hs=>by
  have h3:=List.all_eq_true.mp h1.2 s (xN.mpr (by omega))
  obtain ⟨n,hn,e⟩:=List.any_eq_true.mp h3
  exact ⟨n,by have:=xN.mp hn;omega,by simpa using e⟩
 obtain ⟨a,ha,ea⟩:=at_ i hi
 obtain ⟨b,hb,eb⟩:=at_ s hs
 by_cases z:a≤b
 · refine ⟨b - a,by omega,?_⟩
   rw [←ea,←fH,show a+(b - a)=b by omega]
   exact eb
 · refine ⟨M+1+b - a,by omega,?_⟩
   rw [←ea,←fH,show a+(M+1+b - a)=(M+1)+b by omega,fH,h0]
   exact eb
theorem qu (M:Nat) (h:Int):∀l,(lp M h l).1≤M
 |0=>by
  have:=Nat.mod_lt (SetTable.bits h) (show 0 < M+1 by omega)
  show SetTable.bits h%(M+1)≤M
  omega
 |l+1=>mE M _ _
theorem ug {M:Nat} (hM:M=7∨M=31∨M=127) (h:Int) {s:Nat} (hs:s≤M):∃l,l≤M+13∧(lp M h l).1=s:=by
 obtain ⟨n,hn,e⟩:=full hM (qu M h 13) hs
 exact ⟨13+n,by omega,by rw [qv];exact e⟩
theorem ic {M:Nat} {P:List Nat} (hP:P.length≤M):∃s,s≤M∧s∉P:=by
 refine Classical.byContradiction fun no=> ?_
 have:(List.range (M+1)).length≤P.length:=sub_len List.nodup_range fun x m=>Classical.byContradiction fun q=>no ⟨x,by have:=xN.mp m;omega,q⟩
 rw [xX] at this
 omega
theorem t9 {M:Nat} (hM:M=7∨M=31∨M=127) {P:List Nat} (hP:P.length≤M) (h:Int):∃k,k≤10*(M+13)∧sq M h k∉P:=by
 obtain ⟨s,hs,ns⟩:=ic hP
 obtain ⟨l,hl,e⟩:=ug hM h hs
 obtain ⟨k,hk,L⟩:=uf M h l
 exact ⟨k,by omega,by unfold sq;rw [L.j,e];exact ns⟩
structure Tb (t:SetTable) (M:Nat) (P:List Nat):Prop where
 mask:t.mask=M
 place:t.place.toList=P
 dum:t.dummies= #[]
 up:Up P
 lt:∀j∈P,j≤M
theorem fE {t:SetTable} {M j:Nat} {P:List Nat} (T:Tb t M P) (hj:j∈P):∃i,t.slot j= .live i∧P[i]?=some j:=by
 have up:Up t.place.toList:=by rw [T.place];exact T.up
 have e:t.place[SetTable.below t.place j]?=some j:=Classical.byContradiction fun q=>oe up q (by rw [T.place];exact hj)
 refine ⟨SetTable.below t.place j,?_,?_⟩
 · unfold SetTable.slot
   simp only [e,beq_self_eq_true,if_true]
 · rw [←T.place,xk]
   exact e
theorem qk (j:Nat):SetTable.has #[] j=false:=by
 unfold SetTable.has
 simp [SetTable.below,SetTable.below.go]
theorem ph {t:SetTable} {M j:Nat} {P:List Nat} (T:Tb t M P) (hj:j∉P):t.slot j= .empty:=by
 have e:(t.place[SetTable.below t.place j]?==some j)=false:=by
  refine beq_eq_false_iff_ne.mpr fun q=>hj ?_
  rw [←T.place]
  exact yf.mpr (Array.mem_of_getElem? q)
 unfold SetTable.slot
 rw [T.dum,qk]
 simp only [e,xp,if_false]
theorem Up.nd {P:List Nat} (h:Up P):P.Nodup:=by
 refine List.nodup_iff_pairwise_ne.mpr (List.Pairwise.imp (fun q=> ?_) h)
 omega
theorem pL {t:SetTable} {M:Nat} {P:List Nat} (T:Tb t M P) (hashAt:Nat→Int) (h:Int):∀(n k fuel:Nat),sq M h (k+n)∉P→n < fuel→
 (∃k',k≤k'∧k'≤k+n∧SetTable.probe.go t hashAt h fuel (pr M h k)=some (.empty (sq M h k') none)∧sq M h k'∉P∧∀q,k≤q→q < k'→sq M h q∈P∧∀i,P[i]?=some (sq M h q)→hashAt i≠h)∨
 (∃k' i,k≤k'∧k' < k+n∧SetTable.probe.go t hashAt h fuel (pr M h k)=some (.candidate (sq M h k') i (pr M h (k'+1)))∧P[i]?=some (sq M h k')∧hashAt i=h∧t.slot (sq M h k')= .live i∧∀q,k≤q→q < k'→sq M h q∈P∧∀i,P[i]?=some (sq M h q)→hashAt i≠h):=by
 have ad:∀k,t.advance (pr M h k)=pr M h (k+1):=fun k=>by rw [vH,T.mask];rfl
 have stop:∀k fuel,sq M h k∉P→SetTable.probe.go t hashAt h (fuel+1) (pr M h k)=some (.empty (sq M h k) none):=fun k fuel hb=>by
  rw [SetTable.probe.go]
  have e:t.slot (pr M h k).j= .empty:=ph T hb
  rw [e,(pg M h k).du]
  rfl
 intro n
 induction n with
 |zero=>
  intro k fuel hf hn
  obtain ⟨fuel,rfl⟩:∃f,fuel=f+1:=⟨fuel - 1,by omega⟩
  exact .inl ⟨k,x9 _,x9 _,stop k fuel hf,hf,fun q h1 h2=>by omega⟩
 |succ n ih=>
  intro k fuel hf hn
  obtain ⟨fuel,rfl⟩:∃f,fuel=f+1:=⟨fuel - 1,by omega⟩
  by_cases hb:sq M h k∈P
  · obtain ⟨i,e,hi⟩:=fE T hb
    have e':t.slot (pr M h k).j= .live i:=e
    by_cases hh:hashAt i=h
    · refine .inr ⟨k,i,x9 _,by omega,?_,hi,hh,e,fun q h1 h2=>by omega⟩
      rw [SetTable.probe.go]
      rw [e']
      simp only [hh,beq_self_eq_true,if_true,ad]
      rfl
    · have step:SetTable.probe.go t hashAt h (fuel+1) (pr M h k)=SetTable.probe.go t hashAt h fuel (pr M h (k+1)):=by
       rw [SetTable.probe.go]
       rw [e']
       have:(hashAt i==h)=false:=by simpa using hh
       simp only [this,xp,if_false,ad]
      have here:∀q,q=k→sq M h q∈P∧∀i,P[i]?=some (sq M h q)→hashAt i≠h:=fun q hq=>by
       subst hq
       refine ⟨hb,fun j hj=> ?_⟩
       rw [St8.nd_ix (Up.nd T.up) hj hi]
       exact hh
      rcases ih (k+1) fuel (by rw [show k+1+n=k+(n+1) by omega];exact hf) (by omega) with ⟨k',a1,a2,a3,a4,a5⟩|⟨k',i',a1,a2,a3,a4,a5,a6,a7⟩
      · refine .inl ⟨k',by omega,by omega,step.trans a3,a4,fun q h1 h2=> ?_⟩
        by_cases z:q=k
        · exact here q z
        · exact a5 q (by omega) h2
      · refine .inr ⟨k',i',by omega,by omega,step.trans a3,a4,a5,a6,fun q h1 h2=> ?_⟩
        by_cases z:q=k
        · exact here q z
        · exact a7 q (by omega) h2
  · exact .inl ⟨k,x9 _,by omega,stop k fuel hb,hb,fun q h1 h2=>by omega⟩
theorem oS {t:SetTable} {M:Nat} {P:List Nat} (T:Tb t M P) (h:Int):t.probeStart h=pr M h 0:=by
 unfold SetTable.probeStart
 rw [T.mask]
 rfl
def occ (ow:Array (Option Nat)) (j:Nat):Prop:=∃k,ow[j]?=some (some k)
theorem t8 {M:Nat} (h:Int) (ow:Array (Option Nat)) (hs:ow.size=M+1):∀(n fuel l kl:Nat),Lp M h l kl→n < fuel→¬occ ow (lp M h (l+n)).1→
 ∃q,SetTable.layClean.free M ow fuel (lp M h l).1 (lp M h l).2=some (sq M h q)∧kl≤q∧¬occ ow (sq M h q)∧∀q',kl≤q'→q' < q→occ ow (sq M h q'):=by
 intro n
 induction n with
 |zero=>
  intro fuel l kl L hn hf
  obtain ⟨fuel,rfl⟩:∃f,fuel=f+1:=⟨fuel - 1,by omega⟩
  have i0:=qu M h l
  have gd:∀j,j≤M→((ow.getD j (some 0)).isNone=true↔¬occ ow j):=fun j hj=>by
   rw [xR]
   have:j < ow.size:=by omega
   rw [xq this]
   simp only [Option.getD_some]
   unfold occ
   rw [xq this]
   cases ow[j] with
   |none=>simp
   |some k=>simp
  refine ⟨kl,?_,x9 _,?_,fun q' h1 h2=>by omega⟩
  · rw [SetTable.layClean.free]
    have e:(List.range (SetTable.runEnd M (lp M h l).1+1 - (lp M h l).1)).find? (fun k=>(ow.getD ((lp M h l).1+k) (some 0)).isNone)=some 0:=by
     refine List.find?_range_eq_some.mpr ⟨(gd _ i0).mpr hf,xN.mpr ?_,fun j hj=>by omega⟩
     rw [(eS i0).2.2]
     omega
    rw [e]
    show some ((lp M h l).1+0)=some (sq M h kl)
    unfold sq
    rw [L.j]
    rfl
  · unfold sq
    rw [L.j]
    exact hf
 |succ n ih=>
  intro fuel l kl L hn hf
  obtain ⟨fuel,rfl⟩:∃f,fuel=f+1:=⟨fuel - 1,by omega⟩
  have i0:=qu M h l
  have gd:∀j,j≤M→((ow.getD j (some 0)).isNone=true↔¬occ ow j):=fun j hj=>by
   rw [xR]
   have:j < ow.size:=by omega
   rw [xq this]
   simp only [Option.getD_some]
   unfold occ
   rw [xq this]
   cases ow[j] with
   |none=>simp
   |some k=>simp
  obtain ⟨r1,r2,r3⟩:=eS i0
  have at_:∀m,m≤(pr M h kl).more→sq M h (kl+m)=(lp M h l).1+m:=fun m hm=>by
   unfold sq
   rw [l5 M h kl m hm]
   show (pr M h kl).j+m=_
   rw [L.j]
  have mm:=L.m
  rw [SetTable.layClean.free]
  cases e:(List.range (SetTable.runEnd M (lp M h l).1+1 - (lp M h l).1)).find? (fun k=>(ow.getD ((lp M h l).1+k) (some 0)).isNone) with
  |some k=>
   obtain ⟨p1,p2,p3⟩:=List.find?_range_eq_some.mp e
   have hk:=xN.mp p2
   refine ⟨kl+k,by rw [at_ k (by omega)],by omega,?_,fun q' h1 h2=> ?_⟩
   · rw [at_ k (by omega)]
     exact (gd _ (by omega)).mp p1
   · have:=p3 (q' - kl) (by omega)
     rw [show q'=kl+(q' - kl) by omega,at_ (q' - kl) (by omega)]
     refine Classical.byContradiction fun no=> ?_
     rw [(gd _ (by omega)).mpr no] at this
     cases this
  |none=>
   have all:=List.find?_eq_none.mp e
   obtain ⟨q,a1,a2,a3,a4⟩:=ih fuel (l+1) _ L.next (by omega) (by rw [show l+1+n=l+(n+1) by omega];exact hf)
   refine ⟨q,a1,by omega,a3,fun q' h1 h2=> ?_⟩
   rcases Nat.lt_or_ge (kl+(pr M h kl).more) q' with c|c
   · exact a4 q' (by omega) h2
   · rw [show q'=kl+(q' - kl) by omega,at_ (q' - kl) (by omega)]
     refine Classical.byContradiction fun no=>all (q' - kl) (xN.mpr (by omega)) ((gd _ (by omega)).mpr no)
structure Ow (M:Nat) (hs:List Int) (ow:Array (Option Nat)) (f:Nat→Nat):Prop where
 size:ow.size=M+1
 at_:∀k,k < hs.length→ow[f k]?=some (some k)
 only:∀j k,ow[j]?=some (some k)→k < hs.length∧f k=j
 way:∀k h,hs[k]?=some h→∃q,sq M h q=f k∧∀q',q' < q→occ ow (sq M h q')
theorem Ow.occ {M:Nat} {hs:List Int} {ow:Array (Option Nat)} {f:Nat→Nat} (o:Ow M hs ow f) {j:Nat} (h:Sh.occ ow j):j∈(List.range hs.length).map f:=by
 obtain ⟨k,e⟩:=h
 obtain ⟨h1,h2⟩:=o.only j k e
 exact xy.mpr ⟨k,xN.mpr h1,h2⟩
theorem qB {M:Nat} (hM:M=7∨M=31∨M=127) {hs:List Int} {ow:Array (Option Nat)} {f:Nat→Nat} (o:Ow M hs ow f) (hl:hs.length≤M) (h:Int):
 ∃j f',SetTable.layClean.free M ow (SetTable.turns M) (SetTable.bits h%(M+1)) (SetTable.bits h)=some j∧Ow M (hs++ [h]) (ow.setIfInBounds j (some hs.length)) f':=by
 obtain ⟨s,s1,s2⟩:=ic (M:=M) (P:=(List.range hs.length).map f) (by rw [wZ,xX];exact hl)
 obtain ⟨l,hll,e⟩:=ug hM h s1
 obtain ⟨q,a1,a2,a3,a4⟩:=t8 h ow o.size l (SetTable.turns M) 0 0 ⟨rfl,rfl,rfl,rfl⟩ (by unfold SetTable.turns;omega) (by rw [Nat.zero_add,e];exact fun z=>s2 (o.occ z))
 have jl:sq M h q < ow.size:=by
  have:=tV M h q
  have:=o.size
  omega
 have old:∀k,k < hs.length→f k≠sq M h q:=fun k hk z=>a3 ⟨k,by rw [←z];exact o.at_ k hk⟩
 have get:∀j,(ow.setIfInBounds (sq M h q) (some hs.length))[j]?=if sq M h q=j then some (some hs.length) else ow[j]?:=fun j=>by
  rw [Array.getElem?_setIfInBounds]
  by_cases z:sq M h q=j
  · rw [if_pos z,if_pos jl,if_pos z]
  · rw [if_neg z,if_neg z]
 have occ':∀j,Sh.occ ow j→Sh.occ (ow.setIfInBounds (sq M h q) (some hs.length)) j:=fun j ⟨k,e⟩=>by
  refine ⟨k,?_⟩
  rw [get,if_neg (fun z=>a3 ⟨k,by rw [z];exact e⟩)]
  exact e
 refine ⟨sq M h q,fun k=>if k=hs.length then sq M h q else f k,a1,⟨by rw [Array.size_setIfInBounds];exact o.size,fun k hk=> ?_,fun j k ek=> ?_,fun k h' ek=> ?_⟩⟩
 · rw [x3,xm] at hk
   rw [get]
   by_cases z:k=hs.length
   · rw [if_pos z,if_pos rfl,z]
   · rw [if_neg z,if_neg (fun q=>old k (by omega) q.symm)]
     exact o.at_ k (by omega)
 · rw [get] at ek
   rw [x3,xm]
   by_cases z:sq M h q=j
   · rw [if_pos z] at ek
     have:hs.length=k:=by cases ek;rfl
     subst this
     exact ⟨by omega,by rw [if_pos rfl];exact z⟩
   · rw [if_neg z] at ek
     obtain ⟨h1,h2⟩:=o.only j k ek
     exact ⟨by omega,by rw [if_neg (by omega)];exact h2⟩
 · by_cases z:k < hs.length
   · rw [List.getElem?_append_left z] at ek
     obtain ⟨p,b1,b2⟩:=o.way k h' ek
     exact ⟨p,by rw [if_neg (by omega)];exact b1,fun q' hq=>occ' _ (b2 q' hq)⟩
   · have hk:k=hs.length:=by
      have:=(xo.mp ek).1
      rw [x3,xm] at this
      omega
     subst hk
     rw [List.getElem?_append_right (x9 _),Nat.sub_self] at ek
     cases ek
     exact ⟨q,by rw [if_pos rfl],fun q' hq=>occ' _ (a4 q' (xz _) hq)⟩
theorem mJ {M:Nat} (hM:M=7∨M=31∨M=127):∀(rest hs:List Int) (ow:Array (Option Nat)) (f:Nat→Nat),Ow M hs ow f→hs.length+rest.length≤M+1→
 ∃ow' f',(rest.foldl (init:=some (ow,hs.length)) fun acc h=>do
  let (owner,k)←acc
  let j←SetTable.layClean.free M owner (SetTable.turns M) (SetTable.bits h%(M+1)) (SetTable.bits h)
  pure (owner.setIfInBounds j (some k),k+1))=some (ow',(hs++rest).length)∧Ow M (hs++rest) ow' f'
 | [],hs,ow,f,o,_=>⟨ow,f,by rw [yg];rfl,by rw [yg];exact o⟩
 |h::rest,hs,ow,f,o,hl=>by
  rw [xh] at hl
  obtain ⟨j,f',e,o'⟩:=qB hM o (by omega) h
  obtain ⟨ow',f2,e2,o2⟩:=mJ hM rest (hs++ [h]) _ f' o' (by rw [x3,xm];omega)
  rw [yy,List.singleton_append] at e2 o2
  refine ⟨ow',f2,?_,o2⟩
  rw [List.foldl_cons]
  rw [x3,xm] at e2
  have:(do
   let (owner,k)←some (ow,hs.length)
   let j←SetTable.layClean.free M owner (SetTable.turns M) (SetTable.bits h%(M+1)) (SetTable.bits h)
   pure (owner.setIfInBounds j (some k),k+1))=some (ow.setIfInBounds j (some hs.length),hs.length+1):=by
   show (SetTable.layClean.free M ow (SetTable.turns M) (SetTable.bits h%(M+1)) (SetTable.bits h)).bind _=_
   rw [e]
   rfl
  rw [this]
  exact e2
theorem vj {M:Nat} (hM:M=7∨M=31∨M=127) (hs:Array Int) (hl:hs.size≤M+1):∃ow f,SetTable.layClean M hs=some ow∧Ow M hs.toList ow f:=by
 have o0:Ow M [] (Array.replicate (M+1) none) (fun _=>0):=⟨by simp,(fun k h=>absurd h (Nat.not_lt_zero _)),(fun j k e=>by
  rw [Array.getElem?_replicate] at e
  split at e<;>cases e),(fun k h e=>by simp at e)⟩
 obtain ⟨ow,f,e,o⟩:=mJ hM hs.toList [] _ _ o0 (by simpa using hl)
 refine ⟨ow,f,?_,by rw [List.nil_append] at o;exact o⟩
 unfold SetTable.layClean
 rw [←Array.foldl_toList]
 have e':(List.foldl _ (some (Array.replicate (M+1) none,0)) hs.toList)=some (ow,([]++hs.toList).length):=e
 rw [e']
 rfl
open PySem PySem.Spec PyProof.Rows L2 Tk Sn
open St8 (eG hbv_at scs_at setE)
structure Sx (prog:Program) (w:World) (h:Heap) (M:Nat) (P:List Nat) (E:Nat→Int×Value) (kf:Nat→KT):Prop where
 at_:∀j∈P,KAt h (E j).2 (kf j)∧(kf j).depth≤8∧(∃b,(E j).2= .ref b)∧(E j).1=(kf j).hash prog w
 way:∀j∈P,∃k,sq M (E j).1 k=j∧∀q,q < k→sq M (E j).1 q∈P
 inj:∀i j,i∈P→j∈P→kf i=kf j→i=j
structure Si (b0:Bool) (h:Heap) (a:Addr) (M:Nat) (P:List Nat) (E:Nat→Int×Value) (o:Obj) (es:Array (Int×Value)) (ep:Nat) (t:SetTable):Prop where
 led:t.led=b0
 get:h.get? a=some o
 ex:o.ExactSet
 data:o.data= .set es ep t
 es:es.toList=P.map E
 tb:Tb t M P
 nm:P.length≤M
theorem Si.size {b0:Bool} {h:Heap} {a:Addr} {M:Nat} {P:List Nat} {E:Nat→Int×Value} {o:Obj} {es:Array (Int×Value)} {ep:Nat} {t:SetTable} (S:Si b0 h a M P E o es ep t):es.size=P.length:=by rw [←xb,S.es,wZ]
theorem tq {t:SetTable} {M:Nat} {P:List Nat} (T:Tb t M P) (h:P.length≤M):t.fits P.length=true:=by
 unfold SetTable.fits SetTable.fill
 rw [T.dum,T.mask]
 have e:t.place.size=P.length:=by rw [←xb,T.place]
 rw [e]
 simp only [xc,beq_self_eq_true,Bool.true_and,decide_eq_true_eq]
 exact h
theorem Si.fits {b0:Bool} {h:Heap} {a:Addr} {M:Nat} {P:List Nat} {E:Nat→Int×Value} {o:Obj} {es:Array (Int×Value)} {ep:Nat} {t:SetTable} (S:Si b0 h a M P E o es ep t):t.fits es.size=true:=by
 rw [S.size]
 exact tq S.tb S.nm
theorem Si.get_at {b0:Bool} {h:Heap} {a:Addr} {M:Nat} {P:List Nat} {E:Nat→Int×Value} {o:Obj} {es:Array (Int×Value)} {ep:Nat} {t:SetTable} (S:Si b0 h a M P E o es ep t) {i j:Nat} (e:P[i]?=some j):es[i]?=some (E j):=by
 rw [←xk,S.es,xw,e]
 rfl
section
variable {prog:Program} {w:World} {A:Around} {X:Value→Shared→Prop} {s:Shared} {a:Addr} {M:Nat} {P:List Nat} {E:Nat→Int×Value} {kf:Nat→KT} {o:Obj} {es:Array (Int×Value)} {ep:Nat} {t:SetTable} {b0:Bool}
theorem Sx.keep {h h':Heap} (D:Sx prog w h M P E kf) (k:∀b o items n,h.get? b=some o→o.data= .seq items n→h'.get? b=some o):Sx prog w h' M P E kf:=
 ⟨fun j hj=>⟨(D.at_ j hj).1.keep k,(D.at_ j hj).2⟩,D.way,D.inj⟩
theorem nN (hM:M=7∨M=31∨M=127) (S:Si b0 s.heap a M P E o es ep t) (D:Sx prog w s.heap M P E kf) {x:Value} {kt:KT} (hxr:∃c,x= .ref c) (hx:KAt s.heap x kt) (hd:kt.depth≤8) (hu:A.units+20 < cLine):∀(n k F:Nat) (stand:Option SetTable.Probe) {Q:SetFound→Shared→Prop},
 sq M (kt.hash prog w) (k+n)∉P→n < F→n < 10*(M+15)→stand.getD (t.probeStart (kt.hash prog w))=pr M (kt.hash prog w) k→
 (∀j∈P,kf j=kt→Q (.there none) s)→
 (∀k',k≤k'→sq M (kt.hash prog w) k'∉P→(∀q,k≤q→q < k'→sq M (kt.hash prog w) q∈P∧kf (sq M (kt.hash prog w) q)≠kt)→Q (.free (sq M (kt.hash prog w) k') false) s)→
 wpAny (model prog w) A (setSearchFrom a x (kt.hash prog w) true F stand) Q X s:=by
 intro n
 induction n using Nat.strongRecOn with
 |ind n ih=>
  intro k F stand Q hf hF hn hst there free
  obtain ⟨F,rfl⟩:∃f,F=f+1:=⟨F - 1,by omega⟩
  unfold setSearchFrom
  refine wpAny_bind (wpAny_setState_of S.get S.data S.fits ?_)
  dsimp only
  have gw:t.gaveWay=false:=by
   unfold SetTable.gaveWay
   rw [S.tb.mask]
   rcases hM with rfl|rfl|rfl<;>rfl
  rw [gw]
  simp only [xp,if_false]
  rw [hst]
  have h10:10*SetTable.turns t.mask=10*(M+15):=by rw [S.tb.mask];rfl
  have key:=pL S.tb (fun i=>(es[i]?.map (·.1)).getD 0) (kt.hash prog w) n k (10*SetTable.turns t.mask) hf (by omega)
  rcases key with ⟨k1,a1,a2,a3,a4,a5⟩|⟨k1,i,a1,a2,a3,a4,a5,a6,a7⟩
  · have hp:∀g:Nat→Int,g=(fun i=>(es[i]?.map (·.1)).getD 0)→t.probe g (kt.hash prog w) (pr M (kt.hash prog w) k)=some (.empty (sq M (kt.hash prog w) k1) none):=fun g e=>by
     subst e
     exact a3
    rw [hp]
    rotate_left
    · rfl
    refine wpAny_pure (free k1 a1 a4 fun q h1 h2=> ?_)
    obtain ⟨b1,b2⟩:=a5 q h1 h2
    refine ⟨b1,fun z=> ?_⟩
    obtain ⟨i,_,hi⟩:=fE S.tb b1
    have:=b2 i hi
    rw [S.get_at hi] at this
    exact this (by show (E _).1=_;rw [(D.at_ _ b1).2.2.2,z])
  · have hp:∀g:Nat→Int,g=(fun i=>(es[i]?.map (·.1)).getD 0)→t.probe g (kt.hash prog w) (pr M (kt.hash prog w) k)=some (.candidate (sq M (kt.hash prog w) k1) i (pr M (kt.hash prog w) (k1+1))):=fun g e=>by
     subst e
     exact a3
    rw [hp]
    rotate_left
    · rfl
    have on:=xa a4
    obtain ⟨y1,y2,⟨b,y3⟩,y4⟩:=D.at_ _ on
    have gi:=S.get_at a4
    generalize hj:sq M (kt.hash prog w) k1=j at*
    generalize hE:E j=ej at*
    obtain ⟨hy,y⟩:=ej
    dsimp only at y1 y3 y4 ⊢
    split
    · refine wpAny_bind (scs_at hxr hx hd (fun y' my=> ?_) ?_)
      · obtain ⟨⟨h',y''⟩,m1,e1⟩:=xy.mp my
        have m2:=(Array.mem_filter.mp (yf.mp m1)).1
        have m3:(h',y'')∈P.map E:=by rw [←S.es];exact yf.mpr m2
        obtain ⟨j',mj',e'⟩:=xy.mp m3
        have oj:=mj'
        obtain ⟨u1,u2,u3,_⟩:=D.at_ j' oj
        rw [e'] at u1 u3
        rw [←e1]
        exact ⟨_,u1,u2,u3⟩
      simp only [xp,if_false]
      rw [gi]
      dsimp only
      refine wpAny_bind (wpAny_holding ((qQ 8 y2 (by omega) y1 hx) prog w X _ ?_))
      refine wpAny_bind (wpAny_setState_of S.get S.data S.fits ?_)
      dsimp only
      by_cases z:kf j=kt
      · rw [decide_eq_true z]
        simp only [Bool.and_self,if_true]
        exact wpAny_pure (there j on z)
      · rw [decide_eq_false z]
        simp only [Bool.and_false,xp,if_false]
        have sm:t.sameMemory t.moves t.mask=some true:=by
         unfold SetTable.sameMemory
         rw [if_pos (by simp)]
        rw [sm]
        simp only [if_true]
        rw [a6]
        dsimp only
        rw [gi]
        dsimp only
        rw [y3]
        refine wpAny_bind (wpAny_isSame_ref_self (wpAny_bind (wpAny_pure ?_)))
        simp only [if_true]
        refine ih (k+n - (k1+1)) (by omega) (k1+1) F (some _) (by rw [show k1+1+(k+n - (k1+1))=k+n by omega];exact hf) (by omega) (by omega) rfl there fun k' h1 h2 h3=> ?_
        refine free k' (by omega) h2 fun q hq1 hq2=> ?_
        rcases Nat.lt_trichotomy q k1 with c|c|c
        · obtain ⟨b1,b2⟩:=a7 q hq1 c
          refine ⟨b1,fun zz=> ?_⟩
          obtain ⟨i2,_,hi2⟩:=fE S.tb b1
          have:=b2 i2 hi2
          rw [S.get_at hi2] at this
          exact this (by show (E _).1=_;rw [(D.at_ _ b1).2.2.2,zz])
        · subst c
          rw [hj]
          exact ⟨on,z⟩
        · exact h3 q (by omega) hq2
    · rw [gi]
      dsimp only
      refine wpAny_bind (wpAny_holding ((qQ 8 y2 (by omega) y1 hx) prog w X _ ?_))
      refine wpAny_bind (wpAny_setState_of S.get S.data S.fits ?_)
      dsimp only
      by_cases z:kf j=kt
      · rw [decide_eq_true z]
        simp only [Bool.and_self,if_true]
        exact wpAny_pure (there j on z)
      · rw [decide_eq_false z]
        simp only [Bool.and_false,xp,if_false]
        have sm:t.sameMemory t.moves t.mask=some true:=by
         unfold SetTable.sameMemory
         rw [if_pos (by simp)]
        rw [sm]
        simp only [if_true]
        rw [a6]
        dsimp only
        rw [gi]
        dsimp only
        rw [y3]
        refine wpAny_bind (wpAny_isSame_ref_self (wpAny_bind (wpAny_pure ?_)))
        simp only [if_true]
        refine ih (k+n - (k1+1)) (by omega) (k1+1) F (some _) (by rw [show k1+1+(k+n - (k1+1))=k+n by omega];exact hf) (by omega) (by omega) rfl there fun k' h1 h2 h3=> ?_
        refine free k' (by omega) h2 fun q hq1 hq2=> ?_
        rcases Nat.lt_trichotomy q k1 with c|c|c
        · obtain ⟨b1,b2⟩:=a7 q hq1 c
          refine ⟨b1,fun zz=> ?_⟩
          obtain ⟨i2,_,hi2⟩:=fE S.tb b1
          have:=b2 i2 hi2
          rw [S.get_at hi2] at this
          exact this (by show (E _).1=_;rw [(D.at_ _ b1).2.2.2,zz])
        · subst c
          rw [hj]
          exact ⟨on,z⟩
        · exact h3 q (by omega) hq2
theorem mK (hM:M=7∨M=31∨M=127) (fi mo:Nat) (led plain:Bool) (hs:Array Int) (hl:hs.size≤M):
 ∃(t':SetTable) (ord:Array Nat) (live:List (Nat×Nat)) (ow:Array (Option Nat)) (f:Nat→Nat),SetTable.laid M fi mo led plain hs=some (t',ord)∧Tb t' M (live.map (·.1))∧t'.led=led∧ord.toList=live.map (·.2)∧Ow M hs.toList ow f∧(∀p∈live,ow[p.1]?=some (some p.2))∧(∀j,occ ow j→j∈live.map (·.1))∧live.length=hs.size:=by
 obtain ⟨ow,f,e,o⟩:=vj hM hs (by omega)
 let g:Nat→Option (Nat×Nat):=fun j=>(ow.getD j none).map (j, ·)
 have gs:∀j p,g j=some p→p.1=j∧ow[j]?=some (some p.2):=fun j p h=>by
  have h':((ow[j]?).getD none).map (fun x=>(j,x))=some p:=by
   have h0:(ow.getD j none).map (j, ·)=some p:=h
   rw [xR] at h0
   exact h0
  cases q:ow[j]? with
  |none=>rw [q] at h';cases h'
  |some y=>
   rw [q] at h'
   cases y with
   |none=>cases h'
   |some k=>
    have:(j,k)=p:=xE h'
    rw [←this]
    exact ⟨rfl,rfl⟩
 have mem:∀p∈(List.range (M+1)).filterMap g,ow[p.1]?=some (some p.2):=fun p m=>by
  obtain ⟨j,_,h⟩:=List.mem_filterMap.mp m
  obtain ⟨h1,h2⟩:=gs j p h
  rw [h1]
  exact h2
 have cov:∀j,occ ow j→j∈((List.range (M+1)).filterMap g).map (·.1):=fun j ⟨k,h⟩=>by
  have jl:j < ow.size:=by
   rcases Nat.lt_or_ge j ow.size with c|c
   · exact c
   · rw [Array.getElem?_eq_none c] at h;cases h
  refine xy.mpr ⟨(j,k),List.mem_filterMap.mpr ⟨j,xN.mpr (by have:=o.size;omega),?_⟩,rfl⟩
  show (ow.getD j none).map (j, ·)=some (j,k)
  rw [xR,h]
  rfl
 have up:((List.range (M+1)).filterMap g).Pairwise (fun p q=>p.1 < q.1):=List.Pairwise.filterMap g (fun x y hxy p hp q hq=>by
  rw [(gs x p hp).1,(gs y q hq).1]
  exact hxy) List.pairwise_lt_range
 have upM:Up (((List.range (M+1)).filterMap g).map (·.1)):=List.pairwise_map.mpr up
 have nd2:((List.range hs.size).map f).Nodup:=by
  refine List.nodup_iff_pairwise_ne.mpr (List.pairwise_map.mpr (List.Pairwise.imp_of_mem (fun {x y} mx my hxy z=> ?_) List.pairwise_lt_range))
  have ox:=o.at_ x (by have:=xN.mp mx;simpa using this)
  have oy:=o.at_ y (by have:=xN.mp my;simpa using this)
  rw [z,oy] at ox
  cases ox
  exact yw _ hxy
 have len:((List.range (M+1)).filterMap g).length=hs.size:=by
  have l1:(((List.range (M+1)).filterMap g).map (·.1)).length≤((List.range hs.size).map f).length:=sub_len (Up.nd upM) fun j m=>by
   obtain ⟨p,mp,rfl⟩:=xy.mp m
   have:=o.occ ⟨p.2,mem p mp⟩
   simpa using this
  have l2:((List.range hs.size).map f).length≤(((List.range (M+1)).filterMap g).map (·.1)).length:=sub_len nd2 fun j m=>by
   obtain ⟨k,mk,rfl⟩:=xy.mp m
   exact cov _ ⟨k,o.at_ k (by have:=xN.mp mk;simpa using this)⟩
  rw [wZ,wZ,xX] at l1 l2
  omega
 refine ⟨{mask:=M,place:=(((List.range (M+1)).filterMap g).map (·.1)).toArray,dummies:= #[],finger:=fi,led:=led,moves:=mo,plain:=plain},(((List.range (M+1)).filterMap g).map (·.2)).toArray,(List.range (M+1)).filterMap g,ow,f,?_,⟨rfl,rfl,rfl,upM,fun j m=> ?_⟩,rfl,rfl,o,mem,cov,len⟩
 · unfold SetTable.laid
   rw [e]
   rfl
 · obtain ⟨p,mp,rfl⟩:=xy.mp m
   have h:=mem p mp
   have:p.1 < ow.size:=by
    rcases Nat.lt_or_ge p.1 ow.size with c|c
    · exact c
    · rw [Array.getElem?_eq_none c] at h;cases h
   have:=o.size
   omega
end
end Sh
namespace Sh
open PySem PySem.Spec PyProof.Rows L2 Tk Sn
open St8 (eG hbv_at scs_at setE)
section
variable {prog:Program} {w:World} {A:Around} {X:Value→Shared→Prop} {s:Shared} {a:Addr} {M:Nat} {P:List Nat} {E:Nat→Int×Value} {kf:Nat→KT} {o:Obj} {es:Array (Int×Value)} {ep:Nat} {t:SetTable} {b0:Bool}
theorem pA (S:Si b0 s.heap a 7 P E o es ep t) (D:Sx prog w s.heap 7 P E kf) {Q:Shared→Prop}
 (q:∀h' P' E' kf',Heap.SameBut a s.heap h'→(∃o es ep t,Si b0 h' a 31 P' E' o es ep t)→Sx prog w h' 31 P' E' kf'→P'.length=P.length→(∀i∈P,∃j∈P',E' j=E i∧kf' j=kf i)→(∀j∈P',∃i∈P,E' j=E i∧kf' j=kf i)→Q {s with heap:=h'}):
 wpAny (model prog w) A (setRelay a 20) (fun _ s'=>Q s') X s:=by
 have p7:=S.nm
 have esz:=S.size
 obtain ⟨t',ord,live,ow,f,e,T,el,eo,O,mem,cov,ll⟩:=mK (M:=31) (.inr (.inl rfl)) t.finger (t.movedTo 31) t.led t.plain (es.map (·.1)) (by rw [yt];omega)
 rw [yt] at ll
 have er:t.relaid (es.map (·.1)) 20=some (t',ord):=e
 unfold setRelay
 refine wpAny_bind (wpAny_setState_of S.get S.data S.fits ?_)
 dsimp only
 rw [if_neg (by decide +kernel)]
 rw [er]
 have kl:∀p∈live,p.2 < P.length:=fun p m=>by
  have:=(O.only _ _ (mem p m)).1
  rw [xb,yt] at this
  omega
 have hes:(ord.filterMap (es[·]?)).toList=(live.map (·.1)).map (fun j=>E (P.getD (((ow[j]?).getD none).getD 0) 0)):=by
  rw [Array.toList_filterMap,eo,List.map_map]
  have:∀l:List (Nat×Nat),(∀p∈l,ow[p.1]?=some (some p.2)∧p.2 < P.length)→(l.map (·.2)).filterMap (es[·]?)=l.map ((fun j=>E (P.getD (((ow[j]?).getD none).getD 0) 0)) ∘ (·.1)):=by
   intro l
   induction l with
   |nil=>intro _;rfl
   |cons p l ih=>
    intro h
    obtain ⟨h1,h2⟩:=h p x5
    have g:es[p.2]?=some (E (P.getD p.2 0)):=S.get_at (by rw [xB,x4 h2];rfl)
    rw [xg,List.filterMap_cons,g,xg,ih fun x m=>h x (x6 _ m)]
    show _::_=(E (P.getD (((ow[p.1]?).getD none).getD 0) 0))::_
    rw [h1]
    rfl
  exact this live fun p m=>⟨mem p m,kl p m⟩
 have hsz:(ord.filterMap (es[·]?)).size=es.size:=by rw [←xb,hes,wZ,wZ,ll]
 refine wpAny_bind ?_
 show wpAny (model prog w) A (do
  if ((ord.filterMap (es[·]?)).size !=es.size)=true then (unsupported "internal:set-table-lost-an-element":Sem Unit)
  pure (ord.filterMap (es[·]?),t')) _ X s
 rw [if_neg (by rw [hsz];simp)]
 refine wpAny_bind (wpAny_pure (wpAny_pure ?_))
 dsimp only
 have inn:∀j∈live.map (·.1),∃k i,ow[j]?=some (some k)∧P[k]?=some i∧P.getD (((ow[j]?).getD none).getD 0) 0=i∧f k=j:=fun j m=>by
  obtain ⟨p,mp,rfl⟩:=xy.mp m
  have h1:=mem p mp
  have h2:=kl p mp
  refine ⟨p.2,P[p.2],h1,x4 h2,?_,(O.only _ _ h1).2⟩
  rw [h1]
  show P.getD p.2 0=_
  rw [xB,x4 h2]
  rfl
 have plen:(live.map (·.1)).length=P.length:=by rw [wZ,ll,esz]
 have hsl:(ord.filterMap (es[·]?)).size≤sizeLine:=by
  rw [hsz,esz,sizeLine_eq]
  omega
 refine wpAny_storeSet_of S.get S.data ?_ hsl
 have hg:(s.heap.update a (Obj.putSet (ord.filterMap (es[·]?)) t')).get? a=some {o with data:= .set (ord.filterMap (es[·]?)) (ep+1) t'}:=by
  have:=Heap.get?_update_self (Obj.putSet (ord.filterMap (es[·]?)) t') S.get (by rw [putSet_of _ _ S.data];rfl)
  rw [putSet_of _ _ S.data] at this
  exact this
 have kp:∀b ob items n,s.heap.get? b=some ob→ob.data= .seq items n→(s.heap.update a (Obj.putSet (ord.filterMap (es[·]?)) t')).get? b=some ob:=fun b ob items n e dd=>by
  have ne:b≠a:=fun z=>by
   rw [z,S.get] at e
   cases e
   rw [S.data] at dd
   cases dd
  exact (Heap.get?_update_other _ _ (Ne.symm ne)).trans e
 refine q _ (live.map (·.1)) (fun j=>E (P.getD (((ow[j]?).getD none).getD 0) 0)) (fun j=>kf (P.getD (((ow[j]?).getD none).getD 0) 0)) (Heap.SameBut.update ..) ⟨_,_,_,_,⟨el.trans S.led,hg,S.ex,rfl,hes,T,by rw [plen];omega⟩⟩ ⟨fun j m=> ?_,fun j m=> ?_,fun i j mi mj he=> ?_⟩ plen (fun i m=> ?_) (fun j m=> ?_)
 · obtain ⟨k,i,_,h2,h3,_⟩:=inn j m
   rw [h3]
   exact (D.keep kp).at_ i (xa h2)
 · obtain ⟨k,i,h1,h2,h3,h4⟩:=inn j m
   rw [h3]
   obtain ⟨q0,b1,b2⟩:=O.way k (E i).1 (by rw [xk,Array.getElem?_map,S.get_at h2];rfl)
   exact ⟨q0,b1.trans h4,fun q' hq=>cov _ (b2 q' hq)⟩
 · obtain ⟨k,i',_,h2,h3,h4⟩:=inn i mi
   obtain ⟨k2,i2,_,g2,g3,g4⟩:=inn j mj
   rw [h3,g3] at he
   have:=D.inj _ _ (xa h2) (xa g2) he
   subst this
   have:=St8.nd_ix (Up.nd S.tb.up) h2 g2
   subst this
   exact h4.symm.trans g4
 · obtain ⟨k,hk,e⟩:=yo m
   have oa:=O.at_ k (by rw [xb,yt];omega)
   refine ⟨f k,cov _ ⟨k,oa⟩,?_⟩
   have:P.getD (((ow[f k]?).getD none).getD 0) 0=i:=by
    rw [oa]
    show P.getD k 0=i
    rw [xB,x4 hk,←e]
    rfl
   rw [this]
   exact ⟨rfl,rfl⟩
 · obtain ⟨k,i,_,h2,h3,_⟩:=inn j m
   refine ⟨i,xa h2,?_⟩
   rw [h3]
   exact ⟨rfl,rfl⟩
theorem nQ (S:Si b0 s.heap a 31 P E o es ep t) (D:Sx prog w s.heap 31 P E kf) {Q:Shared→Prop}
 (q:∀h' P' E' kf',Heap.SameBut a s.heap h'→(∃o es ep t,Si b0 h' a 127 P' E' o es ep t)→Sx prog w h' 127 P' E' kf'→P'.length=P.length→(∀i∈P,∃j∈P',E' j=E i∧kf' j=kf i)→(∀j∈P',∃i∈P,E' j=E i∧kf' j=kf i)→Q {s with heap:=h'}):
 wpAny (model prog w) A (setRelay a 76) (fun _ s'=>Q s') X s:=by
 have p7:=S.nm
 have esz:=S.size
 obtain ⟨t',ord,live,ow,f,e,T,el,eo,O,mem,cov,ll⟩:=mK (M:=127) (.inr (.inr rfl)) t.finger (t.movedTo 127) t.led t.plain (es.map (·.1)) (by rw [yt];omega)
 rw [yt] at ll
 have er:t.relaid (es.map (·.1)) 76=some (t',ord):=e
 unfold setRelay
 refine wpAny_bind (wpAny_setState_of S.get S.data S.fits ?_)
 dsimp only
 rw [if_neg (by decide +kernel)]
 rw [er]
 have kl:∀p∈live,p.2 < P.length:=fun p m=>by
  have:=(O.only _ _ (mem p m)).1
  rw [xb,yt] at this
  omega
 have hes:(ord.filterMap (es[·]?)).toList=(live.map (·.1)).map (fun j=>E (P.getD (((ow[j]?).getD none).getD 0) 0)):=by
  rw [Array.toList_filterMap,eo,List.map_map]
  have:∀l:List (Nat×Nat),(∀p∈l,ow[p.1]?=some (some p.2)∧p.2 < P.length)→(l.map (·.2)).filterMap (es[·]?)=l.map ((fun j=>E (P.getD (((ow[j]?).getD none).getD 0) 0)) ∘ (·.1)):=by
   intro l
   induction l with
   |nil=>intro _;rfl
   |cons p l ih=>
    intro h
    obtain ⟨h1,h2⟩:=h p x5
    have g:es[p.2]?=some (E (P.getD p.2 0)):=S.get_at (by rw [xB,x4 h2];rfl)
    rw [xg,List.filterMap_cons,g,xg,ih fun x m=>h x (x6 _ m)]
    show _::_=(E (P.getD (((ow[p.1]?).getD none).getD 0) 0))::_
    rw [h1]
    rfl
  exact this live fun p m=>⟨mem p m,kl p m⟩
 have hsz:(ord.filterMap (es[·]?)).size=es.size:=by rw [←xb,hes,wZ,wZ,ll]
 refine wpAny_bind ?_
 show wpAny (model prog w) A (do
  if ((ord.filterMap (es[·]?)).size !=es.size)=true then (unsupported "internal:set-table-lost-an-element":Sem Unit)
  pure (ord.filterMap (es[·]?),t')) _ X s
 rw [if_neg (by rw [hsz];simp)]
 refine wpAny_bind (wpAny_pure (wpAny_pure ?_))
 dsimp only
 have inn:∀j∈live.map (·.1),∃k i,ow[j]?=some (some k)∧P[k]?=some i∧P.getD (((ow[j]?).getD none).getD 0) 0=i∧f k=j:=fun j m=>by
  obtain ⟨p,mp,rfl⟩:=xy.mp m
  have h1:=mem p mp
  have h2:=kl p mp
  refine ⟨p.2,P[p.2],h1,x4 h2,?_,(O.only _ _ h1).2⟩
  rw [h1]
  show P.getD p.2 0=_
  rw [xB,x4 h2]
  rfl
 have plen:(live.map (·.1)).length=P.length:=by rw [wZ,ll,esz]
 have hsl:(ord.filterMap (es[·]?)).size≤sizeLine:=by
  rw [hsz,esz,sizeLine_eq]
  omega
 refine wpAny_storeSet_of S.get S.data ?_ hsl
 have hg:(s.heap.update a (Obj.putSet (ord.filterMap (es[·]?)) t')).get? a=some {o with data:= .set (ord.filterMap (es[·]?)) (ep+1) t'}:=by
  have:=Heap.get?_update_self (Obj.putSet (ord.filterMap (es[·]?)) t') S.get (by rw [putSet_of _ _ S.data];rfl)
  rw [putSet_of _ _ S.data] at this
  exact this
 have kp:∀b ob items n,s.heap.get? b=some ob→ob.data= .seq items n→(s.heap.update a (Obj.putSet (ord.filterMap (es[·]?)) t')).get? b=some ob:=fun b ob items n e dd=>by
  have ne:b≠a:=fun z=>by
   rw [z,S.get] at e
   cases e
   rw [S.data] at dd
   cases dd
  exact (Heap.get?_update_other _ _ (Ne.symm ne)).trans e
 refine q _ (live.map (·.1)) (fun j=>E (P.getD (((ow[j]?).getD none).getD 0) 0)) (fun j=>kf (P.getD (((ow[j]?).getD none).getD 0) 0)) (Heap.SameBut.update ..) ⟨_,_,_,_,⟨el.trans S.led,hg,S.ex,rfl,hes,T,by rw [plen];omega⟩⟩ ⟨fun j m=> ?_,fun j m=> ?_,fun i j mi mj he=> ?_⟩ plen (fun i m=> ?_) (fun j m=> ?_)
 · obtain ⟨k,i,_,h2,h3,_⟩:=inn j m
   rw [h3]
   exact (D.keep kp).at_ i (xa h2)
 · obtain ⟨k,i,h1,h2,h3,h4⟩:=inn j m
   rw [h3]
   obtain ⟨q0,b1,b2⟩:=O.way k (E i).1 (by rw [xk,Array.getElem?_map,S.get_at h2];rfl)
   exact ⟨q0,b1.trans h4,fun q' hq=>cov _ (b2 q' hq)⟩
 · obtain ⟨k,i',_,h2,h3,h4⟩:=inn i mi
   obtain ⟨k2,i2,_,g2,g3,g4⟩:=inn j mj
   rw [h3,g3] at he
   have:=D.inj _ _ (xa h2) (xa g2) he
   subst this
   have:=St8.nd_ix (Up.nd S.tb.up) h2 g2
   subst this
   exact h4.symm.trans g4
 · obtain ⟨k,hk,e⟩:=yo m
   have oa:=O.at_ k (by rw [xb,yt];omega)
   refine ⟨f k,cov _ ⟨k,oa⟩,?_⟩
   have:P.getD (((ow[f k]?).getD none).getD 0) 0=i:=by
    rw [oa]
    show P.getD k 0=i
    rw [xB,x4 hk,←e]
    rfl
   rw [this]
   exact ⟨rfl,rfl⟩
 · obtain ⟨k,i,_,h2,h3,_⟩:=inn j m
   refine ⟨i,xa h2,?_⟩
   rw [h3]
   exact ⟨rfl,rfl⟩
theorem vJ (hM:M=7∨M=31∨M=127) (S:Si b0 s.heap a M P E o es ep t) (D:Sx prog w s.heap M P E kf) (n3:(P.length+1)*5 < M*3∨M=7∧P.length=4∨M=31∧P.length=18) {x:Value} {kt:KT} (hxr:∃c,x= .ref c) (hx:KAt s.heap x kt) (hd:kt.depth≤8) (hu:A.units+20 < cLine) {Q:Shared→Prop}
 (same:∀j∈P,kf j=kt→Q s)
 (new:∀h' M' P' E' kf',(∀i∈P,kf i≠kt)→Heap.SameBut a s.heap h'→((M'=M∧(P.length+1)*5 < M*3)∨M=7∧M'=31∨M=31∧M'=127)→(∃o es ep t,Si b0 h' a M' P' E' o es ep t)→Sx prog w h' M' P' E' kf'→P'.length=P.length+1→(∀i∈P,∃j∈P',E' j=E i∧kf' j=kf i)→(∃j∈P',E' j=(kt.hash prog w,x)∧kf' j=kt)→(∀j∈P',(∃i∈P,E' j=E i∧kf' j=kf i)∨(E' j=(kt.hash prog w,x)∧kf' j=kt))→Q {s with heap:=h'}):
 wpAny (model prog w) A (setAddHashed a x (kt.hash prog w)) (fun _ s'=>Q s') X s:=by
 obtain ⟨k0,k21,kf0⟩:=t9 hM S.nm (kt.hash prog w)
 unfold setAddHashed setAddHashedIn
 refine wpAny_holding (wpAny_bind (wpAny_setState_of S.get S.data S.fits ?_))
 dsimp only
 have nsc:byScan x es=false:=by
  obtain ⟨c,rfl⟩:=hxr
  rfl
 rw [nsc]
 simp only [xp,if_false]
 unfold setSearch
 refine wpAny_bind (nN hM S D hxr hx hd hu k0 0 100000 none (by rw [Nat.zero_add];exact kf0) (by omega) (by omega) (oS S.tb _) (fun j h1 h2=> ?_) fun k' _ h2 h3=> ?_)
 · exact wpAny_pure (same j h1 h2)
 · dsimp only
   refine wpAny_bind (wpAny_setState_of S.get S.data S.fits ?_)
   dsimp only
   generalize hj:sq M (kt.hash prog w) k'=j at*
   have j8:j≤M:=by rw [←hj];exact tV _ _ _
   have nokey:∀i∈P,kf i≠kt:=fun i hi z=>by
    obtain ⟨kk,e1,e2⟩:=D.way i hi
    have eh:(E i).1=kt.hash prog w:=by rw [(D.at_ i hi).2.2.2,z]
    rw [eh] at e1 e2
    rcases Nat.lt_or_ge kk k' with c|c
    · have:=(h3 kk (xz _) c).2
      rw [e1] at this
      exact this z
    · rcases Nat.lt_or_ge k' kk with c2|c2
      · have:=e2 k' c2
        rw [hj] at this
        exact h2 this
      · have:kk=k':=by omega
        rw [this,hj] at e1
        rw [e1] at h2
        exact h2 hi
   have upP:Up t.place.toList:=by rw [S.tb.place];exact S.tb.up
   obtain ⟨bl,_,_⟩:=eJ upP j
   have npl:t.place.size=P.length:=by rw [←xb,S.tb.place]
   have hput:(SetTable.insertAt t.place (SetTable.below t.place j) j).toList=P.take (SetTable.below t.place j)++j::P.drop (SetTable.below t.place j):=by rw [SetTable.toList_insertAt,S.tb.place]
   have upN:Up (P.take (SetTable.below t.place j)++j::P.drop (SetTable.below t.place j)):=by
    have:=uG upP (j:=j) (by rw [S.tb.place];exact h2)
    have e:(t.put j).1.place.toList=P.take (SetTable.below t.place j)++j::P.drop (SetTable.below t.place j):=hput
    rw [e] at this
    exact this
   have memN:∀i,i∈P.take (SetTable.below t.place j)++j::P.drop (SetTable.below t.place j)↔i∈P∨i=j:=fun i=>by
    have:i∈P↔i∈P.take (SetTable.below t.place j)++P.drop (SetTable.below t.place j):=by rw [yj]
    rw [this]
    simp only [xj,xi]
    constructor
    · rintro (a|a|a)
      · exact .inl (.inl a)
      · exact .inr a
      · exact .inl (.inr a)
    · rintro ((a|a)|a)
      · exact .inl a
      · exact .inr (.inr a)
      · exact .inr (.inl a)
   have nlen:(P.take (SetTable.below t.place j)++j::P.drop (SetTable.below t.place j)).length=P.length+1:=by
    rw [x3,xh,xM,List.length_drop]
    omega
   have hpe:t.put j=({t with place:=SetTable.insertAt t.place (SetTable.below t.place j) j},SetTable.below t.place j):=by
    unfold SetTable.put
    rw [S.tb.dum,qk]
    rfl
   rw [hpe]
   dsimp only
   have notin:∀i∈P,i≠j:=fun i mi z=>h2 (z▸mi)
   have hes:(SetTable.insertAt es (SetTable.below t.place j) (kt.hash prog w,x)).toList=(P.take (SetTable.below t.place j)++j::P.drop (SetTable.below t.place j)).map (setE E j (kt.hash prog w,x)):=by
    rw [SetTable.toList_insertAt,S.es,xD,xg]
    have e1:∀l:List Nat,(∀i∈l,i≠j)→l.map (setE E j (kt.hash prog w,x))=l.map E:=fun l hl=>List.map_congr_left fun i mi=>if_neg (hl i mi)
    rw [e1 _ fun i mi=>notin i (List.mem_of_mem_take mi),e1 _ fun i mi=>notin i (List.mem_of_mem_drop mi),List.map_take,List.map_drop]
    simp [setE]
   generalize hN:P.take (SetTable.below t.place j)++j::P.drop (SetTable.below t.place j)=N at hput upN memN nlen hes
   have esz:=S.size
   have pm:=S.nm
   have fin:∀pl:Bool,wpAny (model prog w) A (do
    storeSet a (SetTable.insertAt es (SetTable.below t.place j) (kt.hash prog w,x)) {t with place:=SetTable.insertAt t.place (SetTable.below t.place j) j,plain:=pl}
    if (!false&& ({t with place:=SetTable.insertAt t.place (SetTable.below t.place j) j,plain:=pl}:SetTable).tooFull)=true then do
     setRelay a (SetTable.grown (es.size+1))
     pure true
    else pure true) (fun _ s'=>Q s') X s:=by
    intro pl
    have hsz:(SetTable.insertAt es (SetTable.below t.place j) (kt.hash prog w,x)).size≤sizeLine:=by
     rw [←xb,hes,wZ,nlen,sizeLine_eq]
     rcases hM with rfl|rfl|rfl<;>omega
    refine wpAny_bind (wpAny_storeSet_of S.get S.data ?_ hsz)
    have hg:(s.heap.update a (Obj.putSet (SetTable.insertAt es (SetTable.below t.place j) (kt.hash prog w,x)) {t with place:=SetTable.insertAt t.place (SetTable.below t.place j) j,plain:=pl})).get? a=some {o with data:= .set (SetTable.insertAt es (SetTable.below t.place j) (kt.hash prog w,x)) (ep+1) {t with place:=SetTable.insertAt t.place (SetTable.below t.place j) j,plain:=pl}}:=by
     have:=Heap.get?_update_self (Obj.putSet (SetTable.insertAt es (SetTable.below t.place j) (kt.hash prog w,x)) {t with place:=SetTable.insertAt t.place (SetTable.below t.place j) j,plain:=pl}) S.get (by rw [putSet_of _ _ S.data];rfl)
     rw [putSet_of _ _ S.data] at this
     exact this
    have tbN:Tb ({t with place:=SetTable.insertAt t.place (SetTable.below t.place j) j,plain:=pl}:SetTable) M N:=⟨S.tb.mask,hput,S.tb.dum,upN,fun i mi=>by
     rcases (memN i).mp mi with m|m
     · exact S.tb.lt i m
     · rw [m];exact j8⟩
    have kp:∀b ob items n,s.heap.get? b=some ob→ob.data= .seq items n→(s.heap.update a (Obj.putSet (SetTable.insertAt es (SetTable.below t.place j) (kt.hash prog w,x)) {t with place:=SetTable.insertAt t.place (SetTable.below t.place j) j,plain:=pl})).get? b=some ob:=fun b ob items n e dd=>by
     have ne:b≠a:=fun z=>by
      rw [z,S.get] at e
      cases e
      rw [S.data] at dd
      cases dd
     exact (Heap.get?_update_other _ _ (Ne.symm ne)).trans e
    have nM:N.length≤M:=by
     rw [nlen]
     rcases n3 with n3|⟨rfl,n3⟩|⟨rfl,n3⟩
     · rcases hM with rfl|rfl|rfl<;>omega
     · omega
     · omega
    have SN:Si b0 (s.heap.update a (Obj.putSet (SetTable.insertAt es (SetTable.below t.place j) (kt.hash prog w,x)) {t with place:=SetTable.insertAt t.place (SetTable.below t.place j) j,plain:=pl})) a M N (setE E j (kt.hash prog w,x)) {o with data:= .set (SetTable.insertAt es (SetTable.below t.place j) (kt.hash prog w,x)) (ep+1) {t with place:=SetTable.insertAt t.place (SetTable.below t.place j) j,plain:=pl}} (SetTable.insertAt es (SetTable.below t.place j) (kt.hash prog w,x)) (ep+1) {t with place:=SetTable.insertAt t.place (SetTable.below t.place j) j,plain:=pl}:=⟨S.led,hg,S.ex,rfl,hes,tbN,nM⟩
    have D':=D.keep kp
    have DN:Sx prog w (s.heap.update a (Obj.putSet (SetTable.insertAt es (SetTable.below t.place j) (kt.hash prog w,x)) {t with place:=SetTable.insertAt t.place (SetTable.below t.place j) j,plain:=pl})) M N (setE E j (kt.hash prog w,x)) (setE kf j kt):=by
     refine ⟨fun i hi=> ?_,fun i hi=> ?_,fun i i' hi hi' he=> ?_⟩
     · by_cases z:i=j
       · subst z
         simp only [setE,if_true]
         exact ⟨hx.keep kp,hd,hxr,trivial⟩
       · simp only [setE,if_neg z]
         exact D'.at_ i (((memN i).mp hi).resolve_right z)
     · by_cases z:i=j
       · subst z
         simp only [setE,if_true]
         exact ⟨k',hj,fun q hq=>(memN _).mpr (.inl (h3 q (xz _) hq).1)⟩
       · simp only [setE,if_neg z]
         obtain ⟨kk,e1,e2⟩:=D.way i (((memN i).mp hi).resolve_right z)
         exact ⟨kk,e1,fun q hq=>(memN _).mpr (.inl (e2 q hq))⟩
     · by_cases z:i=j
       · by_cases z':i'=j
         · rw [z,z']
         · rw [z] at he
           simp only [setE,if_true,if_neg z'] at he
           exact absurd he.symm (nokey i' (((memN i').mp hi').resolve_right z'))
       · by_cases z':i'=j
         · rw [z'] at he
           simp only [setE,if_true,if_neg z] at he
           exact absurd he (nokey i (((memN i).mp hi).resolve_right z))
         · simp only [setE,if_neg z,if_neg z'] at he
           exact D.inj i i' (((memN i).mp hi).resolve_right z) (((memN i').mp hi').resolve_right z') he
    have oldE:∀i∈P,setE E j (kt.hash prog w,x) i=E i∧setE kf j kt i=kf i:=fun i mi=>⟨if_neg (notin i mi),if_neg (notin i mi)⟩
    have newE:setE E j (kt.hash prog w,x) j=(kt.hash prog w,x)∧setE kf j kt j=kt:=⟨if_pos rfl,if_pos rfl⟩
    have sb:=Heap.SameBut.update s.heap a (Obj.putSet (SetTable.insertAt es (SetTable.below t.place j) (kt.hash prog w,x)) {t with place:=SetTable.insertAt t.place (SetTable.below t.place j) j,plain:=pl})
    have tf:({t with place:=SetTable.insertAt t.place (SetTable.below t.place j) j,plain:=pl}:SetTable).tooFull=decide ((P.length+1)*5≥M*3):=by
     unfold SetTable.tooFull SetTable.fill
     have e:(SetTable.insertAt t.place (SetTable.below t.place j) j).size=P.length+1:=by rw [←xb,hput,nlen]
     rw [S.tb.mask,S.tb.dum]
     simp only [e]
     rfl
    rw [tf]
    rcases n3 with n3|⟨rfl,n4⟩|⟨rfl,n4⟩
    · rw [decide_eq_false (by omega)]
      simp only [Bool.not_false,Bool.and_false,xp,if_false]
      refine wpAny_pure (new _ M N _ _ nokey sb (.inl ⟨rfl,n3⟩) ⟨_,_,_,_,SN⟩ DN nlen (fun i mi=>⟨i,(memN i).mpr (.inl mi),oldE i mi⟩) ⟨j,(memN j).mpr (.inr rfl),newE⟩ fun i mi=> ?_)
      rcases (memN i).mp mi with m|m
      · exact .inl ⟨i,m,oldE i m⟩
      · rw [m];exact .inr newE
    · rw [decide_eq_true (by omega)]
      simp only [Bool.not_false,Bool.and_true,if_true]
      have g20:SetTable.grown (es.size+1)=20:=by rw [esz,n4];rfl
      rw [g20]
      refine wpAny_bind (pA (s:= {s with heap:=_}) SN DN fun h' P' E' kf' sb' hSi hSx hl tr1 tr2=>wpAny_pure ?_)
      refine new h' 31 P' E' kf' nokey ⟨?_,?_⟩ (.inr (.inl ⟨rfl,rfl⟩)) hSi hSx (hl.trans nlen) (fun i mi=> ?_) ?_ fun i mi=> ?_
      · exact sb'.1.trans sb.1
      · exact fun b nb=>(sb'.2 b nb).trans (sb.2 b nb)
      · obtain ⟨j',m',e1,e2⟩:=tr1 i ((memN i).mpr (.inl mi))
        exact ⟨j',m',e1.trans (oldE i mi).1,e2.trans (oldE i mi).2⟩
      · obtain ⟨j',m',e1,e2⟩:=tr1 j ((memN j).mpr (.inr rfl))
        exact ⟨j',m',e1.trans newE.1,e2.trans newE.2⟩
      · obtain ⟨i',m',e1,e2⟩:=tr2 i mi
        rcases (memN i').mp m' with m|m
        · exact .inl ⟨i',m,e1.trans (oldE i' m).1,e2.trans (oldE i' m).2⟩
        · rw [m] at e1 e2
          exact .inr ⟨e1.trans newE.1,e2.trans newE.2⟩
    · rw [decide_eq_true (by omega)]
      simp only [Bool.not_false,Bool.and_true,if_true]
      have g76:SetTable.grown (es.size+1)=76:=by rw [esz,n4];rfl
      rw [g76]
      refine wpAny_bind (nQ (s:= {s with heap:=_}) SN DN fun h' P' E' kf' sb' hSi hSx hl tr1 tr2=>wpAny_pure ?_)
      refine new h' 127 P' E' kf' nokey ⟨?_,?_⟩ (.inr (.inr ⟨rfl,rfl⟩)) hSi hSx (hl.trans nlen) (fun i mi=> ?_) ?_ fun i mi=> ?_
      · exact sb'.1.trans sb.1
      · exact fun b nb=>(sb'.2 b nb).trans (sb.2 b nb)
      · obtain ⟨j',m',e1,e2⟩:=tr1 i ((memN i).mpr (.inl mi))
        exact ⟨j',m',e1.trans (oldE i mi).1,e2.trans (oldE i mi).2⟩
      · obtain ⟨j',m',e1,e2⟩:=tr1 j ((memN j).mpr (.inr rfl))
        exact ⟨j',m',e1.trans newE.1,e2.trans newE.2⟩
      · obtain ⟨i',m',e1,e2⟩:=tr2 i mi
        rcases (memN i').mp m' with m|m
        · exact .inl ⟨i',m,e1.trans (oldE i' m).1,e2.trans (oldE i' m).2⟩
        · rw [m] at e1 e2
          exact .inr ⟨e1.trans newE.1,e2.trans newE.2⟩
   split
   · refine wpAny_bind (hbv_at 8 hx fun bb=> ?_)
     cases bb with
     |true=>exact fin t.plain
     |false=>exact fin false
   · refine wpAny_bind (wpAny_pure ?_)
     exact fin t.plain
end
end Sh
namespace Sn
open PySem PySem.Spec PyProof.Rows
def nOf:Value→Int
 | .int n _=>n
 |_=>0
def Ies (prog:Program) (w:World) (l:List (Int×Value)):Prop:=∀e∈l,∃n t,e=((intKind prog w).hash n, .int n t)
def nums (l:List (Int×Value)):List Int:=l.map fun e=>nOf e.2
structure Es (prog:Program) (w:World) (l:List (Int×Value)) (S:List Int):Prop where
 ies:Ies prog w l
 mem:∀n,n∈nums l↔n∈S
 nd:(nums l).Nodup
 len:l.length≤S.length
section
variable {prog:Program} {w:World} {A:Around} {X:Value→Shared→Prop} {s:Shared} {a:Addr} {b:Bool} {S:List Int}
theorem Es.more {l:List (Int×Value)} (h:Es prog w l S) {n:Int} {tk:Nat} (hn:n∉nums l):Es prog w (l++ [((intKind prog w).hash n, .int n tk)]) (S++ [n]):=by
 have en:nums (l++ [((intKind prog w).hash n,Value.int n tk)])=nums l++ [n]:=by unfold nums;rw [xD];rfl
 refine ⟨fun e m=> ?_,fun k=> ?_,?_,?_⟩
 · rcases xj.mp m with m|m
   · exact h.ies e m
   · rw [x8] at m
     exact ⟨n,tk,m⟩
 · rw [en,xj,xj,h.mem k]
 · rw [en]
   refine List.nodup_append.mpr ⟨h.nd,by simp,fun x m y m'=> ?_⟩
   rw [x8] at m'
   subst m'
   exact fun z=>hn (z▸m)
 · have:=h.len
   simp only [x3,xm]
   omega
end
open PySem PySem.Spec PyProof.Rows
theorem si_next:Slot "set_iterator" "__next__" "set_iterator.__next__":=
 .of (owner:="set_iterator") (n:="__next__") (by rw [typeLookup_type,builtinLookup_eq_fast];kernel_rfl) (by decide +kernel) (by decide +kernel) (by decide +kernel)
  (by first|exact .inl (by decide +kernel)|exact .inr (by decide +kernel)) (by rw [isSubtype_type];kernel_rfl)
theorem lV:Slot "set_iterator" "__iter__" "set_iterator.__iter__":=
 .of (owner:="set_iterator") (n:="__iter__") (by rw [typeLookup_type,builtinLookup_eq_fast];kernel_rfl) (by decide +kernel) (by decide +kernel) (by decide +kernel)
  (by first|exact .inl (by decide +kernel)|exact .inr (by decide +kernel)) (by rw [isSubtype_type];kernel_rfl)
theorem fN:entryFor table "set_iterator.__next__"=some Builtin.«set_iterator.__next__»:=entryFor_of_tree (by kernel_rfl)
theorem tE:entryFor table "set_iterator.__iter__"=some Builtin.«dict_keyiterator.__iter__»:=
 entryFor_alias (id':="dict_keyiterator.__iter__") (by kernel_rfl) rfl (by decide +kernel) (by kernel_rfl)
theorem k4:entryFor table "set.__iter__"=some Builtin.«frozenset.__iter__»:=
 entryFor_alias (id':="frozenset.__iter__") (by kernel_rfl) rfl (by decide +kernel) (by kernel_rfl)
theorem ua:Manifest.owners.lookup (String.ofList ['r','o','t','a','r','e','t','i','_','t','e','s'].reverse)=some Manifest.sig_set_iterator:=by kernel_rfl
theorem fX (a:Value):argsOk "set_iterator.__next__" ⟨[a],[]⟩:=by
 unfold argsOk;rw [signature?_of (id:="set_iterator.__next__") (n:= ['_','_','t','x','e','n','_','_']) (o:= ['r','o','t','a','r','e','t','i','_','t','e','s']) (by kernel_rfl) ua];kernel_rfl
theorem tJ (a:Value):argsOk "set_iterator.__iter__" ⟨[a],[]⟩:=by
 unfold argsOk;rw [signature?_of (id:="set_iterator.__iter__") (n:= ['_','_','r','e','t','i','_','_']) (o:= ['r','o','t','a','r','e','t','i','_','t','e','s']) (by kernel_rfl) ua];kernel_rfl
structure RS (h:Heap) (a:Addr) (es:Array (Int×Value)) (ep:Nat) (t:SetTable):Prop where
 ex:∃o,h.get? a=some o∧o.ExactSet∧o.data= .set es ep t
 fits:t.fits es.size=true
theorem RS.kp {h h':Heap} {a:Addr} {es:Array (Int×Value)} {ep:Nat} {t:SetTable} (x:RS h a es ep t) (e:∀o,h.get? a=some o→h'.get? a=some o):RS h' a es ep t:=by
 obtain ⟨⟨o,h1,h2⟩,f⟩:=x
 exact ⟨⟨o,e o h1,h2⟩,f⟩
def It (h:Heap) (I a:Addr) (first:Value) (i n ep:Nat):Prop:=∃o,h.get? I=some o∧o.cls= .type "set_iterator"∧o.data= .fields #[first, .int i 0, .ref a, .int n 0, .int ep 0]
theorem It.kp {h h':Heap} {I a:Addr} {first:Value} {i n ep:Nat} (x:It h I a first i n ep) (e:∀o,h.get? I=some o→h'.get? I=some o):It h' I a first i n ep:=by
 obtain ⟨o,h1,h2⟩:=x
 exact ⟨o,e o h1,h2⟩
section
variable {prog:Program} {w:World} {A:Around} {E:Value→Shared→Prop} {s:Shared} {a I:Addr} {es:Array (Int×Value)} {ep:Nat} {t:SetTable}
theorem RS.ty (x:RS s.heap a es ep t):s.TypeIs (.ref a) "set":=by
 obtain ⟨⟨o,h1,h2,_⟩,_⟩:=x
 exact ⟨o,h1,h2.1⟩
theorem It.ty {first:Value} {i n:Nat} (x:It s.heap I a first i n ep):s.TypeIs (.ref I) "set_iterator":=by
 obtain ⟨o,h1,h2,_⟩:=x
 exact ⟨o,h1,h2⟩
theorem mX {first:Value} {i n:Nat} {Q:Value→Shared→Prop} (x:It s.heap I a first i n ep) (q:Q (.ref I) s):wpAny (model prog w) A (pyIter (.ref I)) Q E s:=by
 refine wpAny_pyIter_slot x.ty lV (wpAny_call_entry lV x.ty tE ?_ (tJ _))
 show wpAny _ _ (ret (.ref I)) _ _ s
 exact wpAny_pure ⟨_,rfl,"set_iterator",_,x.ty,si_next.lookup,q⟩
theorem sX {k i:Nat} {x:Value} {nx:Nat} {Q:Option Value→Shared→Prop} (hit:It s.heap I a (.int k 0) i es.size ep) (hm:RS s.heap a es ep t)
 (hn:∀(A:Around) (E:Value→Shared→Prop) (R:Option (Value×Nat)→Shared→Prop),R (some (x,nx)) s→wpAny (model prog w) A (setNext a k i ep) R E s)
 (hQ:∀h',It h' I a (.int nx 0) (i+1) es.size ep→Heap.SameBut I s.heap h'→Q (some x) {s with heap:=h'}):wpAny (model prog w) A (pyNext (.ref I)) Q E s:=by
 obtain ⟨o,ho,hc,hd⟩:=id hit
 obtain ⟨⟨od,hod,hcd,hdd⟩,hf⟩:=id hm
 unfold pyNext
 refine wpAny_bind (wpAny_attempt (wpAny_callSpecial?_slot (name:=Str.ofString "__next__") hit.ty si_next (wpAny_call_entry si_next hit.ty fN ?_ (fX _))))
 unfold Builtin.«set_iterator.__next__»
 refine wpAny_bind (wpAny_pure ?_)
 refine wpAny_bind (wpAny_fieldsOf ho hd ?_)
 dsimp only
 refine wpAny_bind (wpAny_setEntries_of hod hdd hf ?_)
 rw [if_neg (by simp)]
 rw [xT,xT,xT]
 refine wpAny_bind (hn _ _ _ ?_)
 dsimp only
 refine wpAny_bind (wpAny_setField ho hd (by simp) ?_)
 have hd1:(Obj.mapFields (·.setIfInBounds 0 (rawInt nx)) o).data= .fields #[.int nx 0, .int i 0, .ref a, .int es.size 0, .int ep 0]:=by rw [Obj.data_mapFields hd];simp [rawInt]
 have hg1:(s.heap.update I (Obj.mapFields (·.setIfInBounds 0 (rawInt nx)))).get? I=some (Obj.mapFields (·.setIfInBounds 0 (rawInt nx)) o):=Heap.get?_update_self _ ho (Obj.isFreed_of_fields hd1)
 refine wpAny_bind (wpAny_setField hg1 hd1 (by simp) ?_)
 refine wpAny_pure ⟨_,rfl,wpAny_pure (hQ _ ⟨_,Heap.get?_update_self _ hg1 (Obj.isFreed_of_fields (Obj.data_mapFields hd1 _)),(Obj.cls_mapFields ..).trans ((Obj.cls_mapFields ..).trans hc),?_⟩ ((Heap.SameBut.update ..).trans (Heap.SameBut.update ..)))⟩
 rw [Obj.data_mapFields hd1]
 simp [rawInt]
theorem oR {Q:Option Value→Shared→Prop} {h1:Heap} (hh:A.handled=none) (hs:Heap.SameBut I s.heap h1) (hQ:∀h',Heap.ExtBut I s.heap h'→Q none {s with heap:=h'}):
 wpAny (model prog w) A.in1 (newExc (.type "StopIteration") [] >>=fun e=>raiseNew (α:=Fin) e) (fun fin s'=>∃v,fin=Fin.done (Flow.ret v)∧wpAny (model prog w) A (pure (some v)) Q E s') (fun e s'=>wpAny (model prog w) A (do if (←isInstance e (Value.type "StopIteration"))=true then pure none else throw e) Q E s') {s with heap:=h1}:=by
 refine wpAny_bind ?_
 simp only [newExc,newTuple]
 refine wpAny_bind (wpAny_newObj_type (wpAny_bind (m:=firstArgMember _ _) (wpAny_of_eq (a:=Value.none) (by first|rfl|(simp only [firstArgMember];rfl)) (wpAny_newObj_type ?_ (by size_fits)))) (by size_fits))
 simp only [raiseNew]
 refine wpAny_bind (wpAny_handled ?_)
 rw [show A.in1.handled=none from hh]
 refine wpAny_bind (wpAny_pure (wpAny_throw ?_))
 refine wpAny_bind (wpAny_isInstance (T:="StopIteration") (b:=true) ⟨_,Heap.get?_push_size _ rfl,rfl⟩ isSubtype_stop ?_)
 exact wpAny_pure (hQ _ ((hs.extBut.push _).push _))
theorem vq {k i:Nat} {Q:Option Value→Shared→Prop} (hh:A.handled=none) (hit:It s.heap I a (.int k 0) i es.size ep) (hm:RS s.heap a es ep t)
 (hn:∀(A:Around) (E:Value→Shared→Prop) (R:Option (Value×Nat)→Shared→Prop),R none s→wpAny (model prog w) A (setNext a k i ep) R E s)
 (hQ:∀h',Heap.ExtBut I s.heap h'→Q none {s with heap:=h'}):wpAny (model prog w) A (pyNext (.ref I)) Q E s:=by
 obtain ⟨o,ho,hc,hd⟩:=id hit
 obtain ⟨⟨od,hod,hcd,hdd⟩,hf⟩:=id hm
 unfold pyNext
 refine wpAny_bind (wpAny_attempt (wpAny_callSpecial?_slot (name:=Str.ofString "__next__") hit.ty si_next (wpAny_call_entry si_next hit.ty fN ?_ (fX _))))
 unfold Builtin.«set_iterator.__next__»
 refine wpAny_bind (wpAny_pure ?_)
 refine wpAny_bind (wpAny_fieldsOf ho hd ?_)
 dsimp only
 refine wpAny_bind (wpAny_setEntries_of hod hdd hf ?_)
 rw [if_neg (by simp)]
 rw [xT,xT,xT]
 refine wpAny_bind (hn _ _ _ ?_)
 dsimp only
 refine wpAny_bind (wpAny_setField ho hd (by simp) ?_)
 exact oR hh (Heap.SameBut.update ..) hQ
theorem qM {i:Nat} {T:Addr} {oT:Obj} {ps:Array Value} {c p:Nat} {e:Int×Value} {Q:Option Value→Shared→Prop} (hit:It s.heap I a (.ref T) i es.size ep) (hm:RS s.heap a es ep t) (hT:s.heap.get? T=some oT) (hTd:oT.data= .seq ps c)
 (hp:ps[i]?=some (.int p 0)) (he:es[p]?=some e)
 (hQ:∀h',It h' I a (.ref T) (i+1) es.size ep→Heap.SameBut I s.heap h'→Q (some e.2) {s with heap:=h'}):wpAny (model prog w) A (pyNext (.ref I)) Q E s:=by
 obtain ⟨o,ho,hc,hd⟩:=id hit
 obtain ⟨⟨od,hod,hcd,hdd⟩,hf⟩:=id hm
 unfold pyNext
 refine wpAny_bind (wpAny_attempt (wpAny_callSpecial?_slot (name:=Str.ofString "__next__") hit.ty si_next (wpAny_call_entry si_next hit.ty fN ?_ (fX _))))
 unfold Builtin.«set_iterator.__next__»
 refine wpAny_bind (wpAny_pure ?_)
 refine wpAny_bind (wpAny_fieldsOf ho hd ?_)
 dsimp only
 refine wpAny_bind (wpAny_setEntries_of hod hdd hf ?_)
 rw [if_neg (by simp)]
 refine wpAny_bind (wpAny_seqItems hT hTd ?_)
 dsimp only
 rw [xT,hp]
 dsimp only
 refine wpAny_bind ?_
 unfold setNextDrawn
 refine wpAny_bind (wpAny_setState_of hod hdd hf ?_)
 dsimp only
 rw [if_neg (by simp),xT,he]
 dsimp only
 refine wpAny_pure ?_
 refine wpAny_bind (wpAny_setField ho hd (by simp) ?_)
 refine wpAny_pure ⟨_,rfl,wpAny_pure (hQ _ ⟨_,Heap.get?_update_self _ ho (Obj.isFreed_of_fields (Obj.data_mapFields hd _)),(Obj.cls_mapFields ..).trans hc,?_⟩ (Heap.SameBut.update ..))⟩
 rw [Obj.data_mapFields hd]
 simp [rawInt]
theorem sY {i:Nat} {T:Addr} {oT:Obj} {ps:Array Value} {c:Nat} {Q:Option Value→Shared→Prop} (hh:A.handled=none) (hit:It s.heap I a (.ref T) i es.size ep) (hm:RS s.heap a es ep t) (hT:s.heap.get? T=some oT) (hTd:oT.data= .seq ps c)
 (hp:ps[i]?=none) (hQ:∀h',Heap.ExtBut I s.heap h'→Q none {s with heap:=h'}):wpAny (model prog w) A (pyNext (.ref I)) Q E s:=by
 obtain ⟨o,ho,hc,hd⟩:=id hit
 obtain ⟨⟨od,hod,hcd,hdd⟩,hf⟩:=id hm
 unfold pyNext
 refine wpAny_bind (wpAny_attempt (wpAny_callSpecial?_slot (name:=Str.ofString "__next__") hit.ty si_next (wpAny_call_entry si_next hit.ty fN ?_ (fX _))))
 unfold Builtin.«set_iterator.__next__»
 refine wpAny_bind (wpAny_pure ?_)
 refine wpAny_bind (wpAny_fieldsOf ho hd ?_)
 dsimp only
 refine wpAny_bind (wpAny_setEntries_of hod hdd hf ?_)
 rw [if_neg (by simp)]
 refine wpAny_bind (wpAny_seqItems hT hTd ?_)
 dsimp only
 rw [xT,hp]
 dsimp only
 refine wpAny_bind (wpAny_setField ho hd (by simp) ?_)
 have hd1:(Obj.mapFields (·.setIfInBounds 0 (rawInt 0)) o).data= .fields #[.int 0 0, .int i 0, .ref a, .int es.size 0, .int ep 0]:=by rw [Obj.data_mapFields hd];simp [rawInt]
 have hg1:(s.heap.update I (Obj.mapFields (·.setIfInBounds 0 (rawInt 0)))).get? I=some (Obj.mapFields (·.setIfInBounds 0 (rawInt 0)) o):=Heap.get?_update_self _ ho (Obj.isFreed_of_fields hd1)
 refine wpAny_bind (wpAny_setField hg1 hd1 (by simp) ?_)
 exact oR (s:=s) hh ((Heap.SameBut.update ..).trans (Heap.SameBut.update ..)) hQ
theorem dN {Q:Bool→Shared→Prop} (q:Q (w.params.followText "set-order") s):wpAny (model prog w) A setsByText Q E s:=by
 unfold setsByText
 exact wpAny_bind (wpAny_askSetting (wpAny_pure q))
theorem ir {k i:Nat} {R:Option (Value×Nat)→Shared→Prop} (hb:w.params.followText "set-order"=true) (hm:RS s.heap a es ep t) (r:R (((pickOrder (w.params.setOrder a ep) es)[i]?).map fun e=>(e.2,k)) s):wpAny (model prog w) A (setNext a k i ep) R E s:=by
 obtain ⟨⟨od,hod,hcd,hdd⟩,hf⟩:=id hm
 unfold setNext
 refine wpAny_bind (wpAny_setState_of hod hdd hf ?_)
 dsimp only
 refine wpAny_bind (dN ?_)
 rw [hb]
 simp only [if_true]
 rw [if_neg (by simp)]
 refine wpAny_bind ?_
 unfold setWalk
 refine wpAny_bind (wpAny_setState_of hod hdd hf ?_)
 dsimp only
 refine wpAny_bind (dN ?_)
 rw [hb]
 simp only [if_true]
 refine wpAny_bind (wpAny_askSetting (wpAny_pure (wpAny_pure ?_)))
 exact r
theorem gH {k i:Nat} {R:Option (Value×Nat)→Shared→Prop} (hb:w.params.followText "set-order"=false) (hp:(!t.plain&&decide (es.size > 1))=false) (hl:t.led=true) (hm:RS s.heap a es ep t)
 (r:R (match es[SetTable.below t.place k]?,t.place[SetTable.below t.place k]? with|some (_,x),some j=>some (x,j+1)|_,_=>none) s):wpAny (model prog w) A (setNext a k i ep) R E s:=by
 obtain ⟨⟨od,hod,hcd,hdd⟩,hf⟩:=id hm
 unfold setNext
 refine wpAny_bind (wpAny_setState_of hod hdd hf ?_)
 dsimp only
 refine wpAny_bind (dN ?_)
 rw [hb]
 simp only [xp,if_false]
 show wpAny _ _ (if (!t.plain&&decide (es.size > 1))=true then _ else _) _ _ s
 rw [hp]
 simp only [xp,if_false]
 show wpAny _ _ ((if (!t.led&& !es.isEmpty)=true then _ else pure ()) >>=_) _ _ s
 rw [hl]
 simp only [Bool.not_true,Bool.false_and,xp,if_false]
 refine wpAny_bind (wpAny_pure (wpAny_pure ?_))
 exact r
end
open PySem PySem.Spec PyProof.Rows
noncomputable def kk (p:Array Nat) (i:Nat):Nat:=if i=0 then 0 else p.getD (i - 1) 0+1
theorem kq {p:Array Nat} (up:Up p.toList) {i:Nat} (hi:i≤p.size):SetTable.below p (kk p i)=i:=by
 obtain ⟨h1,h2,h3⟩:=eJ up (kk p i)
 unfold kk at h1 h2 h3 ⊢
 by_cases z:i=0
 · subst z
   simp only [if_true] at h1 h2 h3 ⊢
   rcases Nat.eq_zero_or_pos (SetTable.below p 0) with e|e
   · exact e
   · have hl:0 < p.toList.length:=by rw [xb];omega
     have:=h2 0 p.toList[0] (by omega) (x4 hl)
     omega
 · simp only [if_neg z] at h1 h2 h3 ⊢
   have hl:i - 1 < p.toList.length:=by rw [xb];omega
   have eg:p.getD (i - 1) 0=p.toList[i - 1]:=by
    rw [xR,←xk,x4 hl]
    rfl
   generalize SetTable.below p (p.getD (i - 1) 0+1)=q at h1 h2 h3 ⊢
   rcases Nat.lt_trichotomy q i with c|c|c
   · have:=h3 (i - 1) _ (by omega) (x4 hl)
     omega
   · exact c
   · have hl':i < p.toList.length:=by rw [xb];omega
     have h4:=h2 i _ c (x4 hl')
     have h5:=y9.mp up (i - 1) i hl hl' (by omega)
     omega
section
variable {prog:Program} {w:World} {A:Around} {E:Value→Shared→Prop} {s:Shared} {a I:Addr} {es:Array (Int×Value)} {ep:Nat} {t:SetTable}
def NxS (prog:Program) (w:World) (a:Addr) (es:Array (Int×Value)) (ep:Nat) (t:SetTable) (vs:List Value) (kf:Nat→Nat):Prop:=
 (∀i v,vs[i]?=some v→∀(A:Around) (E:Value→Shared→Prop) (s:Shared) (R:Option (Value×Nat)→Shared→Prop),RS s.heap a es ep t→R (some (v,kf (i+1))) s→wpAny (model prog w) A (setNext a (kf i) i ep) R E s)∧
 (∀(A:Around) (E:Value→Shared→Prop) (s:Shared) (R:Option (Value×Nat)→Shared→Prop),RS s.heap a es ep t→R none s→wpAny (model prog w) A (setNext a (kf vs.length) vs.length ep) R E s)
theorem sO (hb:w.params.followText "set-order"=true):NxS prog w a es ep t ((pickOrder (w.params.setOrder a ep) es).toList.map (·.2)) fun _=>0:=by
 refine ⟨fun i v hv A E s R hm r=>ir hb hm ?_,fun A E s R hm r=>ir hb hm ?_⟩
 · rw [xw] at hv
   obtain ⟨e,he,rfl⟩:=xG.mp hv
   rw [←xk,he]
   exact r
 · rw [←xk,wZ,xK (x9 _)]
   exact r
theorem qg (hb:w.params.followText "set-order"=false) (hp:(!t.plain&&decide (es.size > 1))=false) (k:Tk true t) (hf:t.fits es.size=true):NxS prog w a es ep t (es.toList.map (·.2)) (kk t.place):=by
 have hz:t.place.size=es.size:=by
  unfold SetTable.fits at hf
  simp only [xV,beq_iff_eq] at hf
  exact hf.1
 refine ⟨fun i v hv A E s R hm r=>gH hb hp k.led hm ?_,fun A E s R hm r=>gH hb hp k.led hm ?_⟩
 · rw [xw] at hv
   obtain ⟨e,he,rfl⟩:=xG.mp hv
   have hi:i < es.size:=by
    have:=(xo.mp he).1
    rw [xb] at this
    exact this
   rw [kq k.up (by omega),←xk,he,xq (by omega:i < t.place.size)]
   have:kk t.place (i+1)=t.place[i]+1:=by
    unfold kk
    rw [if_neg (by omega),Nat.add_sub_cancel,xR,xq (by omega:i < t.place.size)]
    rfl
   rw [this] at r
   obtain ⟨h0,x⟩:=e
   exact r
 · rw [wZ,xb,kq k.up (by omega),Array.getElem?_eq_none (x9 _)]
   exact r
theorem tQ {vs:List Value} {kf:Nat→Nat} (N:NxS prog w a es ep t vs kf) (hl:vs.length=es.size) (hh:A.handled=none) (hne:a≠I):
 Walks prog w A I [I,a] [I] es.size (fun i v=>vs[i]?=some v) (fun i h=>It h I a (.int (kf i) 0) i es.size ep∧RS h a es ep t) where
 sub:=fun b hb=>by simp at hb;simp [hb]
 frame:=fun _ _ _ st hk=>⟨st.1.kp fun o e=>hk I (by simp) o e,st.2.kp fun o e=>hk a (by simp) o e⟩
 item:=fun i s Q E hi st hQ=>by
  have hv:vs[i]?=some vs[i]:=x4 (by omega)
  refine sX (x:=vs[i]) (nx:=kf (i+1)) st.1 st.2 (fun A E R r=>N.1 i _ hv A E s R st.2 r) fun h' hit' hs'=> ?_
  exact hQ _ h' s.toks hv ⟨hit',st.2.kp fun o e=>hs'.extBut a o hne e⟩ fun b o hb e=>hs'.extBut b o (fun h=>hb (by simp [h])) e
 done:=fun s Q E st hQ=>vq hh st.1 st.2 (fun A E R r=>by rw [←hl];exact N.2 A E s R st.2 r) fun h' he'=>hQ h' s.toks fun b o hb e=>he' b o (fun h=>hb (by simp [h])) e
 self:=fun _ _ _ _ st hQ=>mX st.1 hQ
noncomputable def tupO (ys:List Nat):Obj:= {cls:= .type "tuple",data:= .seq (ys.map fun (i:Nat)=>rawInt i).toArray}
theorem vW {T:Addr} {ys:List Nat} (hy:ys.Perm (List.range es.size)) (hh:A.handled=none) (hne:a≠I) (hnT:T≠I):
 Walks prog w A I [I,a,T] [I] es.size (fun i v=>∃p,ys[i]?=some p∧(es[p]?.map (·.2))=some v) (fun i h=>It h I a (.ref T) i es.size ep∧RS h a es ep t∧h.get? T=some (tupO ys)) where
 sub:=fun b hb=>by simp at hb;simp [hb]
 frame:=fun _ _ _ st hk=>⟨st.1.kp fun o e=>hk I (by simp) o e,st.2.1.kp fun o e=>hk a (by simp) o e,hk T (by simp) _ st.2.2⟩
 item:=fun i s Q E hi st hQ=>by
  have hl:ys.length=es.size:=by rw [hy.length_eq,xX]
  have hv:ys[i]?=some ys[i]:=x4 (by omega)
  have hp:ys[i] < es.size:=xN.mp (hy.mem_iff.mp (y6 _))
  refine qM (e:=es[ys[i]]) (p:=ys[i]) st.1 st.2.1 st.2.2 rfl ?_ (xq hp) fun h' hit' hs'=> ?_
  · rw [List.getElem?_toArray,xw,hv]
    rfl
  · exact hQ _ h' s.toks ⟨_,hv,by rw [xq hp];rfl⟩ ⟨hit',st.2.1.kp fun o e=>hs'.extBut a o hne e,hs'.extBut T _ hnT st.2.2⟩ fun b o hb e=>hs'.extBut b o (fun h=>hb (by simp [h])) e
 done:=fun s Q E st hQ=>by
  have hl:ys.length=es.size:=by rw [hy.length_eq,xX]
  refine sY hh st.1 st.2.1 st.2.2 rfl ?_ fun h' he'=>hQ h' s.toks fun b o hb e=>he' b o (fun h=>hb (by simp [h])) e
  rw [List.getElem?_toArray,xw,xK (by omega)]
  rfl
 self:=fun _ _ _ _ st hQ=>mX st.1 hQ
noncomputable def itO (a:Addr) (first:Value) (n ep:Nat):Obj:= {cls:= .type "set_iterator",data:= .fields #[first, .int 0 0, .ref a, .int n 0, .int ep 0]}
theorem pi {Q:Value→Shared→Prop} (hm:RS s.heap a es ep t) (hz:es.size≤sizeLine)
 (q1:(!(w.params.followText "set-order")&& (!t.plain&&decide (es.size > 1)))=false→Q (.ref s.heap.objs.size) {s with heap:=s.heap.push (itO a (.int 0 0) es.size ep)})
 (q2:∀ys d,ys.Perm (List.range es.size)→Q (.ref (s.heap.objs.size+1)) {s with heap:=(s.heap.push (tupO ys)).push (itO a (.ref s.heap.objs.size) es.size ep),drawn:=d}):wpAny (model prog w) A (pyIter (.ref a)) Q E s:=by
 obtain ⟨⟨od,hod,hcd,hdd⟩,hf⟩:=id hm
 refine wpAny_pyIter_slot hm.ty F.slot_set_iter (wpAny_call_entry F.slot_set_iter hm.ty k4 (A:=A) ?_ (F.args_set_iter_1 _))
 unfold Builtin.«frozenset.__iter__»
 refine wpAny_bind (m:=Builtin.Frozenset.slot0 _ _) ?_
 show wpAny _ _ (pure a) _ _ s
 refine wpAny_pure (wpAny_bind ?_)
 unfold Builtin.Frozenset.sizeOf
 refine wpAny_bind (wpAny_setEntries_of hod hdd hf (wpAny_pure ?_))
 refine wpAny_bind ?_
 unfold setDrawn
 refine wpAny_bind (wpAny_setState_of hod hdd hf ?_)
 dsimp only
 refine wpAny_bind (dN (wpAny_pure ?_))
 show wpAny _ _ (if (!(w.params.followText "set-order")&& (!t.plain&&decide (es.size > 1)))=true then _ else _) _ _ s
 by_cases c:(!(w.params.followText "set-order")&& (!t.plain&&decide (es.size > 1)))=true
 · rw [if_pos c]
   refine wpAny_bind (St8.order_any _ _ (by rw [xX]) fun ys d hp=> ?_)
   unfold newTuple
   refine wpAny_bind (wpAny_newObj_type (s:= {s with drawn:=d}) ?_ ?_)
   · refine wpAny_bind (wpAny_setEpoch_of (s:= {s with drawn:=d,heap:=s.heap.push (tupO ys)}) (Heap.get?_push_of_some _ hod) hdd hf ?_)
     unfold newFields
     refine wpAny_bind (wpAny_newObj_type (s:= {s with drawn:=d,heap:=s.heap.push (tupO ys)}) ?_ (by size_fits))
     have q:=q2 ys d hp
     have e:(s.heap.push (tupO ys)).objs.size=s.heap.objs.size+1:=Heap.size_push ..
     refine wpAny_pure ⟨_,rfl,"set_iterator",_,⟨_,Heap.get?_push_size _ rfl,rfl⟩,si_next.lookup,?_⟩
     rw [e]
     exact q
   · have e:(ys.map fun (i:Nat)=>rawInt i).toArray.size=es.size:=by rw [xc,wZ,hp.length_eq,xX]
     show (ys.map fun (i:Nat)=>rawInt i).toArray.size≤sizeLine
     rw [e]
     exact hz
 · rw [if_neg c]
   refine wpAny_bind (wpAny_pure ?_)
   refine wpAny_bind (wpAny_setEpoch_of hod hdd hf ?_)
   unfold newFields
   refine wpAny_bind (wpAny_newObj_type ?_ (by size_fits))
   refine wpAny_pure ⟨_,rfl,"set_iterator",_,⟨_,Heap.get?_push_size _ rfl,rfl⟩,si_next.lookup,?_⟩
   exact q1 (by simpa using c)
theorem pj {Q:Bool→Shared→Prop} (hT:s.TypeIs (.ref a) "set") (h:Q false s):wpAny (model prog w) A (Builtin.List.listLengthHint (.ref a)) Q E s:=by
 unfold Builtin.List.listLengthHint
 refine wpAny_bind (wpAny_specialOf hT PySem.F.slot_set_len.lookup ?_)
 generalize hid:("set.__len__":String)=id0
 wp_delta
 rw [show splitId id0=some ("set","__len__") from by subst hid;decide +kernel]
 subst hid
 refine wpAny_bind (wpAny_isInstance (T:="set") (b:=true) hT (by rw [isSubtype_type];kernel_rfl) ?_)
 refine wpAny_ite_split (fun hab=>absurd hab (by decide)) (fun _=> ?_)
 refine wpAny_ite_split (fun _=> ?_) (fun hab=>absurd (by decide +kernel) hab)
 refine wpAny_bind (wpAny_typeOf hT ?_)
 exact wpAny_pure h
end
open PySem PySem.Spec PyProof.Rows
theorem ck {α:Type}:∀l:List α,(l.map some).filterMap id=l
 | []=>rfl
 |x::l=>by simp [ck l]
theorem mV {vs:List Value} {acc:Array Value} {n:Nat} (hl:vs.length=n) (h:ItemsOf (fun i v=>vs[i]?=some v) acc n):acc.toList=vs:=by
 refine yx fun j=> ?_
 by_cases hj:j < n
 · have hj':j < acc.size:=by rw [h.1];exact hj
   rw [xk,h.2 j acc[j] (by simp [hj']),xq hj']
 · rw [xK (by rw [xb,h.1];omega),xK (by omega)]
theorem sV {es:Array (Int×Value)} {ys:List Nat} {acc:Array Value} (hy:ys.Perm (List.range es.size)) (h:ItemsOf (fun i v=>∃p,ys[i]?=some p∧(es[p]?.map (·.2))=some v) acc es.size):acc.toList.Perm (es.toList.map (·.2)):=by
 have hl:ys.length=es.size:=by rw [hy.length_eq,xX]
 have e:acc.toList.map some=ys.map fun p=>es[p]?.map (·.2):=by
  refine yx fun j=> ?_
  rw [xw,xw]
  by_cases hj:j < es.size
  · have hj':j < acc.size:=by rw [h.1];exact hj
    obtain ⟨p,e1,e2⟩:=h.2 j acc[j] (by simp [hj'])
    rw [xk,xq hj',e1]
    show some (some acc[j])=some (es[p]?.map (·.2))
    rw [e2]
  · rw [xK (by rw [xb,h.1];omega),xK (by omega)]
    rfl
 have e2:(List.range es.size).map (fun p=>es[p]?.map (·.2))=(es.toList.map (·.2)).map some:=by
  refine yx fun j=> ?_
  rw [xw,xw,xw]
  by_cases hj:j < es.size
  · rw [x4 (by rw [xX];exact hj),List.getElem_range,xk,xq hj]
    show some (es[j]?.map (·.2))=_
    rw [xq hj]
    rfl
  · rw [xK (by rw [xX];omega),xK (by rw [xb];omega)]
    rfl
 have p1:=hy.map fun p=>es[p]?.map (·.2)
 rw [←e,e2] at p1
 have p2:=p1.filterMap id
 rw [ck,ck] at p2
 exact p2
section
variable {prog:Program} {w:World} {A:Around} {E:Value→Shared→Prop} {s:Shared} {a I:Addr} {es:Array (Int×Value)} {ep:Nat} {t:SetTable}
theorem RS.lt {h:Heap} (x:RS h a es ep t):a < h.objs.size:=by
 obtain ⟨⟨o,h1,_⟩,_⟩:=x
 exact Heap.lt_size h1
theorem tD {R:Result→Shared→Prop} (hh:A.handled=none) (hm:RS s.heap a es ep t) (k:Tk (!(w.params.followText "set-order")) t) (hz:es.size≤sizeLine) (S:Addr) (hSa:S≠a) (res:Value) (c0:Nat) (hS:s.heap.get? S=some {cls:= .type "list",data:= .seq #[] c0})
 (hR:∀h' tk d (acc:Array Value) c',(∀b o,b≠S→s.heap.get? b=some o→h'.get? b=some o)→h'.get? S=some {cls:= .type "list",dict:=none,data:= .seq acc c',slots:= #[]}→acc.toList.Perm (es.toList.map (·.2))→R (.ok (.ret res)) {s with heap:=h',toks:=tk,drawn:=d}):
 wpAny (model prog w) A.in1 (Builtin.List.listExtendWith (.ref S) (.ref a) res)
  (fun fin s'=>match fin with| .done f=>R (.ok f) s'| .again c'=>c'.quiet=true∧codeAny (model prog w) A c' R s') (fun e s'=>R (.error e) s') s:=by
 have ha:=hm.lt
 have hSl:S < s.heap.objs.size:=Heap.lt_size hS
 have hit:∀(E':Value→Shared→Prop) (Q:Value→Shared→Prop),(∀I fp P St h2 d,Walks prog w A.in1 I fp [I] es.size P St→S∉fp→s.heap.objs.size≤I→St 0 h2→(∀b o,s.heap.get? b=some o→h2.get? b=some o)→(∀acc:Array Value,ItemsOf P acc es.size→acc.toList.Perm (es.toList.map (·.2)))→Q (.ref I) {s with heap:=h2,drawn:=d})→wpAny (model prog w) A.in1 (pyIter (.ref a)) Q E' s:=by
  intro E' Q q
  refine pi hm hz (fun c=> ?_) fun ys d hp=> ?_
  · have hk:∀o,s.heap.get? a=some o→(s.heap.push (itO a (.int 0 0) es.size ep)).get? a=some o:=fun o e=>Heap.get?_push_of_some _ e
    have hnS:S∉ [s.heap.objs.size,a]:=by simp only [xi,yi,or_false,not_or];exact ⟨xu hSl,hSa⟩
    cases b:w.params.followText "set-order" with
    |true=>
     have hp:=(St8.pick_perm (w.params.setOrder a ep) es).map (·.2)
     have hl:((pickOrder (w.params.setOrder a ep) es).toList.map (·.2)).length=es.size:=by rw [hp.length_eq,wZ,xb]
     refine q _ _ _ _ _ s.drawn (tQ (es:=es) (ep:=ep) (t:=t) (sO b) hl hh (xu ha)) hnS (x9 _) ⟨⟨_,Heap.get?_push_size _ rfl,rfl,rfl⟩,hm.kp hk⟩ (fun b o e=>Heap.get?_push_of_some _ e) fun acc hi=> ?_
     rw [mV hl hi]
     exact hp
    |false=>
     rw [b] at c k
     have hl:(es.toList.map (·.2)).length=es.size:=by rw [wZ,xb]
     refine q _ _ _ _ _ s.drawn (tQ (es:=es) (ep:=ep) (t:=t) (qg b (by simpa using c) k hm.fits) hl hh (xu ha)) hnS (x9 _) ⟨⟨_,Heap.get?_push_size _ rfl,rfl,rfl⟩,hm.kp hk⟩ (fun b o e=>Heap.get?_push_of_some _ e) fun acc hi=> ?_
     rw [mV hl hi]
  · have hsz:(s.heap.push (tupO ys)).objs.size=s.heap.objs.size+1:=Heap.size_push ..
    have hnS:S∉ [s.heap.objs.size+1,a,s.heap.objs.size]:=by simp only [xi,yi,or_false,not_or];exact ⟨xu (Nat.lt_succ_of_lt hSl),hSa,xu hSl⟩
    refine q (s.heap.objs.size+1) _ _ _ _ d (vW (es:=es) (ep:=ep) (t:=t) (T:=s.heap.objs.size) hp hh (xu (Nat.lt_succ_of_lt ha)) (xu (Nat.lt_succ_self _))) hnS (Nat.le_succ _) ⟨⟨itO a (.ref s.heap.objs.size) es.size ep,?_,rfl,rfl⟩,hm.kp fun o e=>Heap.get?_push_of_some _ (Heap.get?_push_of_some _ e),Heap.get?_push_of_some _ (Heap.get?_push_size _ rfl)⟩ (fun b o e=>Heap.get?_push_of_some _ (Heap.get?_push_of_some _ e)) fun acc hi=>sV hp hi
    rw [←hsz]
    exact Heap.get?_push_size _ rfl
 unfold Builtin.List.listExtendWith
 refine wpAny_bind (wpAny_typeOf (T:="set") hm.ty ?_)
 have h1:Builtin.List.listSameRef (.ref S) (.ref a)=false:=by simp [Builtin.List.listSameRef,hSa]
 have h2:(Value.type "set"==Value.type "list")=false:=by decide
 have h3:(Value.type "set"==Value.type "tuple")=false:=by decide
 simp only [h1,h2,h3,Bool.or_false,xp,if_false]
 refine wpAny_bind (hit _ _ fun I fp P St h2 d W hSf hI st kp hacc=> ?_)
 have hSI:S≠I:=xu (xC hSl hI)
 have key:∀(h:Heap) (c1 tk:Nat),St 0 h→(∀b o,b≠S→s.heap.get? b=some o→h.get? b=some o)→h.get? S=some {cls:= .type "list",data:= .seq #[] c1}→
  codeAny (model prog w) A (.builtin "list.extend.loop" ⟨[.ref S, .ref I,res],[]⟩) R {s with heap:=h,toks:=tk,drawn:=d}:=by
  intro h c1 tk hst hk hS1
  refine codeAny_extend_loopS W.toS hz S hSf res es.size 0 {s with heap:=h,toks:=tk,drawn:=d} #[] c1 rfl (xz _) hst hS1 (ItemsOf.nil _) fun s' acc' c' hmv hS' hi=> ?_
  rw [Moved.eq_with hmv]
  refine hR s'.heap s'.toks d acc' c' (fun b o hb e=>hmv.heap b o (fun hmem=> ?_) (hk b o hb e)) hS' (hacc _ hi)
  rcases xi.mp hmem with e'|hmem
  · exact hb e'
  · rw [x8] at hmem
    exact absurd (Heap.lt_size e) (by rw [hmem];exact Nat.not_lt.mpr hI)
 have hS1:=kp _ _ hS
 refine wpAny_bind (wpAny_holding (pj (RS.ty (s:= {s with heap:=h2,drawn:=d}) (hm.kp fun o e=>kp _ _ e)) ?_))
 refine wpAny_ite_split (fun _=> ?_) (fun _=>wpAny_pure ⟨plainId_quiet PySem.F.plain_extend_loop _,key _ c0 _ st (fun b o _ e=>kp _ _ e) hS1⟩)
 refine wpAny_bind (wpAny_rule ?_)
 refine wpAny_bind ?_
 show wpAny _ _ (updateSeq S (·.push .none) >>=fun _=>updateSeq S (·.pop)) _ _ _
 refine wpAny_bind (wpAny_updateSeq hS1 rfl ?_)
 have hS2:=Heap.get?_update_self (Obj.mapSeq (·.push Value.none)) hS1 rfl
 refine wpAny_updateSeq (hz:=by seq_fits) hS2 rfl ?_
 have hS3:=Heap.get?_update_self (Obj.mapSeq (·.pop)) hS2 rfl
 refine wpAny_pure ⟨plainId_quiet PySem.F.plain_extend_loop _,key _ _ _ ?_ (fun b o hb e=> ?_) hS3⟩
 · refine W.frame 0 _ _ st fun b hb o e=> ?_
   have hbS:b≠S:=fun h=>hSf (h▸hb)
   exact (Heap.get?_update_other _ _ (Ne.symm hbS)).trans ((Heap.get?_update_other _ _ (Ne.symm hbS)).trans e)
 · exact (Heap.get?_update_other _ _ (Ne.symm hb)).trans ((Heap.get?_update_other _ _ (Ne.symm hb)).trans (kp _ _ e))
theorem collect_set {Q:List Value→Shared→Prop} (hh:A.handled=none) (hm:RS s.heap a es ep t) (k:Tk (!(w.params.followText "set-order")) t) (hz:es.size≤sizeLine)
 (hQ:∀h' tk d (vs:List Value),(∀b o,s.heap.get? b=some o→h'.get? b=some o)→s.heap.objs.size < h'.objs.size→vs.Perm (es.toList.map (·.2))→Q vs {s with heap:=h',toks:=tk,drawn:=d}):wpAny (model prog w) A (collect (.ref a)) Q E s:=by
 have ha:=hm.lt
 unfold collect
 refine wpAny_bind (wpAny_runValue (codeAny_builtin PySem.F.entry_proto_collect ?_))
 rw [Around.under_plainId PySem.F.plain_proto_collect _]
 show wpAny _ A.in1 (newList [] >>=fun l=>again (.builtin "list.__iadd__" ⟨[l, .ref a],[]⟩)) _ _ s
 refine wpAny_bind (wpAny_newObj_type (wpAny_pure ⟨plainId_quiet PySem.F.plain_list_iadd _,codeAny_builtin PySem.F.entry_list_iadd ?_⟩))
 rw [Around.under_plainId PySem.F.plain_list_iadd _]
 have hS:(s.heap.push {cls:= .type "list",data:= .seq ([]:List Value).toArray}).get? s.heap.objs.size=some {cls:= .type "list",data:= .seq ([]:List Value).toArray}:=Heap.get?_push_size _ rfl
 show wpAny _ A.in1 (Builtin.List.listExtendWith (.ref s.heap.objs.size) (.ref a) (.ref s.heap.objs.size)) _ _ _
 refine tD (R:=fun r' s'=>match r' with
  | .ok (.ret v)=>wpAny (model prog w) A (match v with
   | .ref a=>do match (←load a).data with
    | .seq xs _=>pure xs.toList
    |_=>unsupported "internal:collect"
   |_=>unsupported "internal:collect") Q E s'
  | .ok _=>False
  | .error e=>E e s') (s:= {s with heap:=s.heap.push {cls:= .type "list",data:= .seq ([]:List Value).toArray}}) hh (hm.kp fun o e=>Heap.get?_push_of_some _ e) k hz _ (Nat.ne_of_gt ha) _ _ hS fun h' tk d acc' c' hk hS' hacc=> ?_
 show wpAny _ A (load s.heap.objs.size >>=_) _ _ _
 refine wpAny_bind (wpAny_load hS' (wpAny_pure (hQ h' tk d acc'.toList (fun b o e=>hk b o (xu (Heap.lt_size e)) (Heap.get?_push_of_some _ e)) (Heap.lt_size hS') hacc)))
end
open PySem PySem.Spec PyProof.Rows Srt
section
variable {prog:Program} {w:World} {A:Around} {E:Value→Shared→Prop} {s:Shared} {a I:Addr} {b:Bool} {S:List Int}
end
section
variable {prog:Program} {w:World} {A:Around} {R:Result→Shared→Prop} {I:Addr} {fp wr:List Addr} {G:Array GenState→Array GenState→Prop} {n:Nat} {P:Nat→Value→Prop} {St:Nat→Shared→Prop} {b:Bool}
end
end Sn
namespace Sn
open PySem PySem.Spec PyProof.Rows
section
variable {prog:Program} {w:World} {A:Around} {E:Value→Shared→Prop} {s:Shared}
noncomputable def freshO (b:Bool):Obj:= {cls:= .type "set",dict:=none,data:= .set #[] 0 (.fresh 0 0 b)}
theorem new_n (a:Value) {Q₁:Value→Shared→Prop} (h:Q₁ (.ref s.heap.objs.size) {s with heap:=s.heap.push (freshO (!(w.params.followText "set-order")))}):
 codeAny (model prog w) A (.call (.builtin "set.__new__") ⟨[.type "set",a],[]⟩) (wants Q₁ E) s:=by
 refine codeAny_of_tree ?_
 show wpAny _ A.in1 (do checkBuiltinCall "set.__new__" ⟨[.type "set",a],[]⟩;again (.builtin "set.__new__" ⟨[.type "set",a],[]⟩)) _ _ s
 refine wpAny_bind (wpAny_of_eq (F.newCall_set_1 a) (wpAny_pure ⟨plainId_quiet F.plain_set_new _,codeAny_builtin F.entry_set_new ?_⟩))
 rw [Around.under_plainId F.plain_set_new _]
 unfold Builtin.«set.__new__» Builtin.Frozenset.newClass
 have hsub:=sub_set_self
 obtain ⟨hp,g,d,tk,os⟩:=s
 dsimp only
 wp_walk
 refine wpAny_askSetting (wpAny_pure ?_)
 dsimp only
 simp only [newObj]
 refine wpAny_bind (wpAny_alloc (wpAny_pure ?_))
 exact wpAny_pure h
end
end Sn
namespace St8
open PySem PySem.Spec PyProof.Rows Tk
section
variable {prog:Program} {w:World} {A:Around} {X:Value→Shared→Prop} {s:Shared} {a:Addr} {b:Bool} {us:List Value} {ks:List KT}
end
section
variable {prog:Program} {w:World} {A:Around} {R:Result→Shared→Prop} {I:Addr} {fp wr:List Addr} {G:Array GenState→Array GenState→Prop} {n:Nat} {P:Nat→Value→Prop} {St:Nat→Shared→Prop} {b:Bool} {vs:List Value} {ks:List KT}
end
open PySem PySem.Spec PyProof.Rows Tk
section
variable {prog:Program} {w:World} {A:Around} {E:Value→Shared→Prop} {s:Shared}
end
end St8
namespace L2
open PySem PySem.Spec PyProof.Rows
section
variable {X:Cx}
end
end L2
namespace Tre
open PySem PySem.Spec PyProof.Rows L2
section
variable {X:Cx}
def rEqL (b:Bool):R2:=fun x y H Q=>∃l m vs ws ts us,x= .ref l∧y= .ref m∧H l=some (.lst vs)∧H m=some (.lst ws)∧TrsAt H vs ts∧TrsAt H ws us∧(Trs.pure ts∨Trs.pure us)∧Trs.depth ts≤40∧Q (.bl (eqTs ts us==b)) H
theorem qS {ts us:List Tr} (h:ts.length≠us.length):eqTs ts us=false:=by
 rw [eB,Bool.and_eq_false_iff]
 right
 simp [h]
theorem qA {A:Around} {pins:List (Addr×Obj)} {σ:L2.St} {H:Hp} {s:Shared} {l m:Addr} {vs ws:List V} {ts us:List Tr} (hu:A.units+50 < cLine) (I:Inv X pins σ H s) (h1:H l=some (.lst vs)) (h2:H m=some (.lst ws)) (k1:TrsAt H vs ts) (k2:TrsAt H ws us) (hp:Trs.pure ts∨Trs.pure us) (hd:Trs.depth ts≤40):
 SeqAt.RcAt A s (.ref l) (.ref m) (eqTs ts us)∧SeqAt.RcNeAt A s (.ref l) (.ref m) (!eqTs ts us):=by
 obtain ⟨as,r1,p1,_⟩:=I.list (SqL.of h1)
 obtain ⟨bs,r2,p2,_⟩:=I.list (SqL.of h2)
 have l1:=k1.len
 have l2:=k2.len
 have l3:=r1.length
 have l4:=r2.length
 by_cases z:ts.length=us.length
 · have hsz:as.toArray.size=bs.toArray.size:=by rw [xc,xc];omega
   have he:=fun j (g1:j < as.toArray.size) (g2:j < bs.toArray.size)=>qL (A:=A.in1) I (by show A.units+1+42 < cLine;omega) k1 k2 hp hd r1 r2 j g1 g2
   have a1:=SeqAt.RcAt.lists (A:=A) (e:=eqJ ts us) p1.isList p2.isList hsz (by omega) he
   have a2:=SeqAt.RcNeAt.lists (A:=A) (e:=eqJ ts us) p1.isList p2.isList hsz (by omega) he
   have e:(List.range as.toArray.size).all (eqJ ts us)=eqTs ts us:=by
    rw [eB,←z,Nat.min_self]
    have:as.toArray.size=ts.length:=by rw [xc];omega
    rw [this]
    simp
   rw [e] at a1 a2
   exact ⟨a1,a2⟩
 · have hsz:(as.toArray.size !=bs.toArray.size)=true:=by
    rw [xc,xc]
    simp only [bne_iff_ne,ne_eq]
    omega
   rw [qS z]
   exact ⟨SeqAt.RcAt.lists_lengths p1.isList p2.isList hsz (by omega),SeqAt.RcNeAt.lists_lengths p1.isList p2.isList hsz (by omega)⟩
theorem uN (hu:X.A.units+60 < cLine):OpR X (compareOp .Eq) (rEqL true):=by
 intro pins s σ H x y v u Q I rx ry h
 obtain ⟨l,m,vs,ws,ts,us,rfl,rfl,h1,h2,k1,k2,hp,hd,q⟩:=h
 cases rx
 cases ry
 rw [rB] at q
 exact (qA (A:=X.A) (by omega) I h1 h2 k1 k2 hp hd).1 X.prog X.w X.xe _ ⟨.bl (eqTs ts us),H,I,rfl,q⟩
end
open PySem PySem.Spec PyProof.Rows L2
section
variable {X:Cx}
end
open PySem PySem.Spec PyProof.Rows L2
open PySem PySem.Spec PySem.W PyProof.Rows L2 Srt
section
variable {X:Cx}
end
end Tre
namespace L2
open PySem PySem.Spec PyProof.Rows Sn
section
variable {X:Cx} {pins:List (Addr×Obj)} {σ:St} {H:Hp} {s:Shared}
theorem Inv.drew {d:_} (I:Inv X pins σ H s):Inv X pins σ H {s with drawn:=d}:=
 ⟨I.ok,I.os,I.bare,I.base,I.loc,I.cell,I.free,I.freeC,I.pin,I.hok,I.len⟩
end
end L2
namespace L2
open PySem PySem.Spec PyProof.Rows Tre Dj
noncomputable def sT (w:World) (a:Addr) (cs:List Addr):HO:= .ext fun h=>∃es ep t,Sn.RS h a es ep t∧Sn.Tk (!(w.params.followText "set-order")) t∧es.toList.map (·.2)=cs.map Value.ref
theorem sP {ts:List Tr} {t:Tr} (m:t∈ts):ktT t∈ktTs ts:=by
 induction ts with
 |nil=>cases m
 |cons u ts ih=>
  rw [ktTs]
  rcases xi.mp m with rfl|m
  · exact x5
  · exact x6 _ (ih m)
theorem jb:∀ {ts:List Tr} {i:Nat} {k:Tk.KT},(ktTs ts)[i]?=some k→∃t,ts[i]?=some t∧k=ktT t
 | [],i,k,h=>by rw [ktTs] at h;cases h
 |t::ts,0,k,h=>by rw [ktTs] at h;cases h;exact ⟨t,rfl,rfl⟩
 |t::ts,i+1,k,h=>by rw [ktTs] at h;exact jb (ts:=ts) (i:=i) h
section
variable {X:Cx}
end
end L2
namespace Sh
open PySem PySem.Spec PyProof.Rows L2 Tk
def Nt (prog:Program) (w:World) (h:Heap) (a:Addr) (b:Bool) (us:List Value) (ks:List KT):Prop:=
 ∃M P E kf o es ep t,(M=7∨M=31∨M=127)∧Si b h a M P E o es ep t∧Sx prog w h M P E kf∧(∀k∈ks,∃j∈P,kf j=k)∧(∀j∈P,∃i:Nat,us[i]?=some (E j).2∧ks[i]?=some (kf j))∧us.length=ks.length∧P.length≤ks.length∧(M=7→P.length≤4)∧(M=31→P.length≤18)
section
variable {prog:Program} {w:World} {A:Around} {X:Value→Shared→Prop} {s:Shared} {a:Addr} {b:Bool} {us:List Value} {ks:List KT}
theorem Nt.kp {h h':Heap} (N:Nt prog w h a b us ks) (e:∀o,h.get? a=some o→h'.get? a=some o) (k:∀c o items n,h.get? c=some o→o.data= .seq items n→h'.get? c=some o):Nt prog w h' a b us ks:=by
 obtain ⟨M,P,E,kf,o,es,ep,t,hM,S,D,r⟩:=N
 exact ⟨M,P,E,kf,o,es,ep,t,hM,⟨S.led,e _ S.get,S.ex,S.data,S.es,S.tb,S.nm⟩,D.keep k,r⟩
theorem qh {h:Heap} (hg:h.get? a=some (Sn.freshO b)):Nt prog w h a b [] []:=by
 have no:∀(j:Nat),j∈([]:List Nat)→False:=fun j m=>by cases m
 refine ⟨7,[],fun _=>(0, .none),fun _=> .tp [],Sn.freshO b, #[],0, .fresh 0 0 b, .inl rfl,⟨rfl,hg,⟨rfl,rfl,rfl⟩,rfl,rfl,⟨rfl,rfl,rfl,List.Pairwise.nil,fun j m=>(no j m).elim⟩,xz _⟩,⟨fun j m=>(no j m).elim,fun j m=>(no j m).elim,fun i j m=>(no i m).elim⟩,fun k m=> ?_,fun j m=>(no j m).elim,rfl,xz _,(fun _=>xz _),fun _=>xz _⟩
 cases m
theorem wY (N:Nt prog w s.heap a b us ks) (hk:ks.length≤75) {x:Value} {kt:KT} (hxr:∃c,x= .ref c) (hx:KAt s.heap x kt) (hd:kt.depth≤8) (hu:A.units+20 < cLine) {Q:Shared→Prop}
 (q:∀h',(h'=s.heap∨Heap.SameBut a s.heap h')→Nt prog w h' a b (us++ [x]) (ks++ [kt])→Q {s with heap:=h'}):
 wpAny (model prog w) A (setAddHashed a x (kt.hash prog w)) (fun _ s'=>Q s') X s:=by
 obtain ⟨M,P,E,kf,o,es,ep,t,hM,S,D,mem,src,ul,len,m7⟩:=N
 have old:∀ {e:Int×Value} {k:KT} {i:Nat},us[i]?=some e.2∧ks[i]?=some k→(us++ [x])[i]?=some e.2∧(ks++ [kt])[i]?=some k:=fun ⟨h1,h2⟩=>⟨by rw [List.getElem?_append_left (xo.mp h1).1];exact h1,by rw [List.getElem?_append_left (xo.mp h2).1];exact h2⟩
 have n3:(P.length+1)*5 < M*3∨M=7∧P.length=4∨M=31∧P.length=18:=by
  have:=m7.1
  have:=m7.2
  omega
 refine vJ hM S D n3 hxr hx hd hu (fun j hj e=> ?_) fun h' M' P' E' kf' hne sb hM' hSi hSx hl tr1 tr2 tr3=> ?_
 · refine q s.heap (.inl rfl) ⟨M,P,E,kf,o,es,ep,t,hM,S,D,fun k hk=> ?_,fun j hj=> ?_,by rw [x3,x3,ul];rfl,by rw [x3];omega,m7⟩
   · rcases xj.mp hk with h|h
     · exact mem k h
     · exact ⟨j,hj,by rw [x8.mp h];exact e⟩
   · obtain ⟨i,h⟩:=src j hj
     exact ⟨i,old h⟩
 · obtain ⟨o',es',ep',t',S'⟩:=hSi
   refine q h' (.inr sb) ⟨M',P',E',kf',o',es',ep',t',?_,S',hSx,fun k hk=> ?_,fun j hj=> ?_,by rw [x3,x3,ul];rfl,by rw [hl,x3];show _≤_+1;omega,?_⟩
   · rcases hM' with ⟨rfl,_⟩|⟨_,rfl⟩|⟨_,rfl⟩
     · exact hM
     · exact .inr (.inl rfl)
     · exact .inr (.inr rfl)
   · rcases xj.mp hk with h|h
     · obtain ⟨i,hi,e⟩:=mem k h
       obtain ⟨j,hj,_,e2⟩:=tr1 i hi
       exact ⟨j,hj,e2.trans e⟩
     · obtain ⟨j,hj,_,e2⟩:=tr2
       exact ⟨j,hj,by rw [x8.mp h];exact e2⟩
   · rcases tr3 j hj with ⟨i,hi,e1,e2⟩|⟨e1,e2⟩
     · obtain ⟨p,h⟩:=src i hi
       rw [e1,e2]
       exact ⟨p,old h⟩
     · rw [e1,e2]
       exact ⟨us.length,by rw [List.getElem?_append_right (x9 _)];simp,by rw [ul,List.getElem?_append_right (x9 _)];simp⟩
   · have a1:=m7.1
     have a2:=m7.2
     constructor<;>intro e7<;>omega
end
section
variable {prog:Program} {w:World} {A:Around} {R:Result→Shared→Prop} {I:Addr} {fp wr:List Addr} {G:Array GenState→Array GenState→Prop} {n:Nat} {P:Nat→Value→Prop} {St:Nat→Shared→Prop} {b:Bool} {vs:List Value} {ks:List KT}
theorem vh (W:WalksS prog w A.in1 I fp wr G n P St) (S:Addr) (hSf:S∉fp) (hval:∀i v,P i v→vs[i]?=some v) (hn:n≤76) (hl:ks.length=n) (hd:∀k∈ks,k.depth≤8) (hr:∀v∈vs,∃c,v= .ref c) (hu:A.in1.units+20 < cLine)
 (hq:∀i s s',St i s→Moved wr G s s'→∀c o items m,s.heap.get? c=some o→o.data= .seq items m→s'.heap.get? c=some o) (hS:∀i s,St i s→True):
 ∀(k i:Nat) (s:Shared),n - i=k→i≤n→St i s→KsAt s.heap vs ks→Nt prog w s.heap S b (vs.take i) (ks.take i)→
  (∀s',Moved (S::wr) G s s'→Nt prog w s'.heap S b vs ks→R (.ok (.ret .none)) s')→codeAny (model prog w) A (.builtin "set.update.loop" ⟨[.ref S, .ref I],[]⟩) R s:=by
 have hSw:S∉wr:=fun h=>hSf (W.sub _ h)
 have hsub:∀b∈wr,b∈S::wr:=fun b hb=>x6 _ hb
 intro k
 induction k with
 |zero=>
  intro i s hk hi hst hK N hR
  have hin:i=n:=by omega
  subst hin
  refine codeAny_builtin F.entry_set_update_loop ?_
  rw [Around.under_plainId F.plain_set_update_loop _]
  show wpAny _ A.in1 (pyNext (.ref I) >>=_) _ _ s
  refine wpAny_bind (W.done s _ _ hst fun s' hm=> ?_)
  show wpAny _ A.in1 (ret Value.none) _ _ s'
  have lv:=hK.len
  rw [List.take_of_length_le (by omega),List.take_of_length_le (by omega)] at N
  exact wpAny_pure (hR s' (hm.mono hsub) (N.kp (fun o e=>hm.heap S _ hSw e) (hq _ _ _ hst hm)))
 |succ k ih=>
  intro i s hk hi hst hK N hR
  have hlt:i < n:=by omega
  refine codeAny_builtin F.entry_set_update_loop ?_
  rw [Around.under_plainId F.plain_set_update_loop _]
  show wpAny _ A.in1 (pyNext (.ref I) >>=_) _ _ s
  refine wpAny_bind (W.item i s _ _ hlt hst fun v s' hP hst' hm=> ?_)
  have ev:=hval i v hP
  have K':∀c o items m,s.heap.get? c=some o→o.data= .seq items m→s'.heap.get? c=some o:=hq _ _ _ hst hm
  have hK':KsAt s'.heap vs ks:=KsAt.keep K' hK
  obtain ⟨kt,ek,hv⟩:=hK'.get ev
  have hdk:=hd kt (xa ek)
  obtain ⟨c,rfl⟩:=hr v (xa ev)
  show wpAny _ A.in1 (holding [Value.ref c] (setAdd S (.ref c)) >>=_) _ _ s'
  refine wpAny_bind (wpAny_holding ?_)
  unfold setAdd
  refine wpAny_holding ?_
  refine wpAny_bind (n6 (prog:=prog) (w:=w) 8 hdk (by omega) hv ?_)
  have N':Nt prog w s'.heap S b (vs.take i) (ks.take i):=N.kp (fun o e=>hm.heap S _ hSw e) K'
  refine wpAny_mono (wY (s:= {s' with toks:=s'.toks+kt.draws}) (b:=b) (Q:=fun s2=>_) N' (by rw [xM];omega) ⟨c,rfl⟩ hv hdk hu fun h' hsb N2=> ?_) (fun _ s2 h=>h) fun _ _ h=>h
  have N3:Nt prog w h' S b (vs.take (i+1)) (ks.take (i+1)):=by
   rw [xQ,xQ,ek,ev]
   exact N2
  have hsb2:∀c o,c≠S→s'.heap.get? c=some o→h'.get? c=some o:=fun c o hc e=>by
   rcases hsb with z|z
   · rw [z];exact e
   · rw [z.2 c hc];exact e
  have hSet:∀c o items m,s'.heap.get? c=some o→o.data= .seq items m→c≠S:=fun c o items m e d z=>by
   obtain ⟨M',P',E',kf',o',es',ep',t',_,S',_⟩:=N'
   rw [z,S'.get] at e
   cases e
   rw [S'.data] at d
   cases d
  refine wpAny_pure ⟨plainId_quiet F.plain_set_update_loop _,ih (i+1) _ (by omega) hlt (W.frame _ s' _ _ hst' (Nat.le_add_right _ _) fun b hb o e=> ?_) (KsAt.keep (fun c o items m e d=>hsb2 c o (hSet c o items m e d) e) hK') N3 fun s'' hm'' hS''=> ?_⟩
  · exact hsb2 b o (fun h:b=S=>hSf (by rw [←h];exact hb)) e
  · refine hR s'' (Moved.trans W.gtrans ((hm.mono hsub).then_heap (Nat.le_add_right _ _) fun b o hb e=> ?_) hm'') hS''
    exact hsb2 b o (fun h:b=S=>hb (by rw [h];exact x5)) e
end
section
variable {prog:Program} {w:World} {A:Around} {E:Value→Shared→Prop} {s:Shared}
theorem set_listT {l:Addr} {items:Array Value} {ks:List KT} {Q:Value→Shared→Prop} (hh:A.handled=none) (hl:s.heap.IsList l items) (hi:KsAt s.heap items.toList ks) (hr:∀v∈items.toList,∃c,v= .ref c) (hd:∀k∈ks,k.depth≤8) (hb:items.size≤76) (hu:A.units+60 < cLine)
 (h:∀(h':Heap) (tk:Nat),Nt prog w h' s.heap.objs.size (!(w.params.followText "set-order")) items.toList ks→(∀b o,b < s.heap.objs.size→s.heap.get? b=some o→h'.get? b=some o)→Q (.ref s.heap.objs.size) {s with heap:=h',toks:=tk}):
 wpAny (model prog w) A (call (.type "set") [.ref l]) Q E s:=by
 generalize hB:(!(w.params.followText "set-order"))=B at h
 obtain ⟨c,tl,hmro⟩:=F.called_set.mro
 have hmade:=F.called_set.made
 have hsub:=F.called_set.sub
 refine wpAny_call (codeAny_of_tree ?_)
 show wpAny _ _ (callAny (.type "set") _) _ _ _
 refine wpAny_pure ⟨Code.quiet_builtin _ (by decide +kernel),codeAny_builtin F.entry_type_call ?_⟩
 rw [Around.under_plain (weight_type_call_type "set" [.ref l] []) rfl]
 have h1:=F.called_set.notType
 have h2:=F.called_set.canCreate
 have hct:=F.typeCall_set_1 (.ref l)
 repeat (any_goals (first|assumption|wp_step))
 refine codeAny_mono (Sn.new_n (.ref l) (E:=E) (Q₁:=fun obj s₁=>obj= .ref s.heap.objs.size∧s₁= {s with heap:=s.heap.push (Sn.freshO B)}) ⟨rfl,by rw [hB]⟩) fun r s₁ hr=> ?_
 cases r with
 |error e=>exact hr
 |ok fl=>
  cases fl with
  |ret obj=>
   obtain ⟨rfl,rfl⟩:=hr
   have hS:(s.heap.push (Sn.freshO B)).get? s.heap.objs.size=some (Sn.freshO B):=Heap.get?_push_size _ rfl
   have hT:Shared.TypeIs {s with heap:=s.heap.push (Sn.freshO B)} (.ref s.heap.objs.size) "set":=⟨_,hS,rfl⟩
   have hli:=F.called_set.init.lookup
   have hbi:=F.called_set.init.bind (.ref s.heap.objs.size)
   repeat (any_goals (first|assumption|wp_step))
   refine codeAny_mono (codeAny_call_builtin (R:=wants (fun r s₂=>r= .none∧∃h' tk,s₂= {s with heap:=h',toks:=tk}∧Nt prog w h' s.heap.objs.size B items.toList ks∧
    (∀b o,b < s.heap.objs.size→s.heap.get? b=some o→h'.get? b=some o)) E) F.called_set.init.plain F.entry_set_init (check_set_init_1 hT ?_)) fun r₂ s₂ hr₂=> ?_
   · obtain ⟨ol,hol,hcl,nl,hdl⟩:=hl
     obtain ⟨ocls,odict,odata,oslots⟩:=ol
     simp only at hcl hdl
     subst hcl;subst hdl
     have hol':(s.heap.push (Sn.freshO B)).get? l=some {cls:= .type "list",dict:=odict,data:= .seq items nl,slots:=oslots}:=Heap.get?_push_of_some _ hol
     have hsls:=F.sub_list_set
     have hslf:=F.sub_list_frozenset
     have hne:(Value.type "list"==Value.type "dict")=false:=by decide
     have hl1:(s.heap.push (Sn.freshO B)).IsList l items:=⟨_,hol',rfl,nl,rfl⟩
     unfold Sn.freshO at*
     unfold Builtin.«set.__init__» noKeywords Builtin.Frozenset.updateFrom
     generalize hPI:pyIter=PI
     wp_walk
     subst hPI
     refine wpAny_pyIter_list hl1 ?_
     refine wpAny_bind (wpAny_runValue ?_)
     have hlS:l < s.heap.objs.size:=Heap.lt_size hol
     have hh3:A.in1.in1.in1.handled=none:=by simp [hh]
     have hneI:l≠(s.heap.push {cls:= .type "set",dict:=none,data:= .set #[] 0 (.fresh 0 0 B)}).objs.size:=by
      rw [Heap.size_push];exact xu (Nat.lt_succ_of_lt hlS)
     have hSf:s.heap.objs.size∉ [(s.heap.push {cls:= .type "set",dict:=none,data:= .set #[] 0 (.fresh 0 0 B)}).objs.size,l]:=by
      rw [Heap.size_push];simp only [xi,x8,yi,or_false,not_or]
      exact ⟨xu (Nat.lt_succ_self _),Nat.ne_of_gt hlS⟩
     have hK:∀(oI:Obj) c o its m,s.heap.get? c=some o→o.data= .seq its m→((s.heap.push {cls:= .type "set",dict:=none,data:= .set #[] 0 (.fresh 0 0 B)}).push oI).get? c=some o:=fun oI c o its m e _=>Heap.get?_push_of_some _ (Heap.get?_push_of_some _ e)
     refine vh (b:=B) (vs:=items.toList) (ks:=ks) ((Walks.list hh3 _ l hneI items).toS) s.heap.objs.size hSf (fun i v hv=>by rw [xk];exact hv) hb ?hlen hd hr ?hu ?hq (fun _ _ _=>trivial) (items.size - 0) 0 _ (by omega) (xz _)
      ⟨⟨_,Heap.get?_push_size _ rfl,rfl,rfl⟩,(hl1.push _)⟩ (KsAt.keep (hK _) hi) ?hS0 ?hR
     case hlen=>have:=hi.len;rw [xb] at this;omega
     case hu=>simp;omega
     case hq=>
      intro i s1 s2 st hm c o its m e d
      refine hm.heap c o (fun z=> ?_) e
      obtain ⟨⟨oI,e1,e2,e3⟩,_⟩:=st
      have z':=x8.mp z
      rw [z',e1] at e
      cases e
      rw [e3] at d
      cases d
     case hS0=>exact qh (Heap.get?_push_of_some _ hS)
     case hR=>
      intro s' hm hS'
      obtain ⟨h',g',d',tk',os'⟩:=s'
      have eg:g'=s.gens:=hm.gens
      have ed:d'=s.drawn:=hm.drawn
      have eo:os'=s.os:=hm.os
      subst eg;subst ed;subst eo
      show wpAny _ _ _ _ _ _
      refine wpAny_pure ?_
      show wpAny _ _ (ret Value.none) _ _ _
      refine wpAny_pure ⟨rfl,h',tk',rfl,hS',fun b o hb e=> ?_⟩
      have hb1:b≠s.heap.objs.size:=xu hb
      have hb2:b≠(s.heap.push {cls:= .type "set",dict:=none,data:= .set #[] 0 (.fresh 0 0 B)}).objs.size:=by
       rw [Heap.size_push];exact xu (Nat.lt_succ_of_lt hb)
      exact hm.heap b o (by simp only [xi,x8,yi,or_false,not_or];exact ⟨hb1,hb2⟩) (Heap.get?_push_of_some _ (Heap.get?_push_of_some _ e))
   · cases r₂ with
     |error e=>exact hr₂
     |ok fl₂=>
      cases fl₂ with
      |ret r=>
       obtain ⟨rfl,h',tk,rfl,hS',hk'⟩:=hr₂
       repeat (any_goals (first|assumption|wp_step))
       exact h _ _ hS' hk'
      |_=>exact hr₂.elim
  |_=>exact hr.elim
end
end Sh
namespace L2
open PySem PySem.Spec PyProof.Rows Tre Dj
theorem lM {H:Hp} {v:V} {t:Tr} (h:∃zs,t= .tup zs) (hv:TrAt H v t):∃b,v= .ref b:=by
 obtain ⟨zs,rfl⟩:=h
 unfold TrAt at hv
 obtain ⟨r,vs,e,_⟩:=hv
 exact ⟨r,e⟩
theorem mN:∀ts:List Tr,(ktTs ts).length=ts.length
 | []=>by rw [ktTs];rfl
 |t::ts=>by rw [ktTs,xh,xh,mN ts]
section
variable {X:Cx}
def rSetG (w:World):List V→Hp→VK→Prop:=fun xs H Q=>∃(l:Addr) (vs:List V) (ts:List Tr),xs= [.ref l]∧H l=some (.lst vs)∧TrsAt H vs ts∧ts.length≤76∧(∀t∈ts,Kp t∧t.depth≤8∧∃zs,t= .tup zs)∧
 ∀(D:Addr) (cs:List Addr) (us:List Tr),H D=none→TrsAt H (cs.map V.ref) us→us.Nodup→(∀t,t∈us↔t∈ts)→us.length≤76→Q (.ref D) (upd H D (sT w D cs))
theorem ip {H:Hp} {E:Nat→Int×Value} {kf:Nat→Tk.KT} {vs:List V} {as:List Value} {ts:List Tr} (hT:TrsAt H vs ts) (rv:Vals vs as) (ty:∀t∈ts,∃zs,t= .tup zs):∀(L:List Nat),(∀j∈L,∃i:Nat,as[i]?=some (E j).2∧(ktTs ts)[i]?=some (kf j))→
 ∃(cs:List Addr) (us:List Tr),(L.map fun j=>(E j).2)=cs.map Value.ref∧TrsAt H (cs.map V.ref) us∧us.map ktT=L.map kf∧∀t∈us,t∈ts
 | [],_=>⟨[],[],rfl, .nil,rfl,fun t m=>by cases m⟩
 |j::L,h=>by
  obtain ⟨cs,us,h1,h2,h3,h4⟩:=ip hT rv ty L fun i m=>h i (x6 _ m)
  obtain ⟨i,e1,e2⟩:=h j x5
  obtain ⟨t,et,ek⟩:=jb e2
  obtain ⟨v,ev,hv⟩:=hT.get et
  obtain ⟨a,ea,ra⟩:=rv.get ev
  have mt:=xa et
  obtain ⟨b,rfl⟩:=lM (ty t mt) hv
  have e3:(E j).2= .ref b:=by
   rw [e1] at ea
   cases ea
   exact ra
  refine ⟨b::cs,t::us,by rw [xg,xg,e3,h1], .cons hv h2,by rw [xg,xg,h3,ek],fun u m=> ?_⟩
  rcases xi.mp m with rfl|m
  · exact mt
  · exact h4 u m
theorem call_setG (hc:X.calm=true) (hu:X.A.units+60 < cLine):c7 X (.type "set") (rSetG X.w):=by
 intro pins s σ H xs us Q I r h
 obtain ⟨l,vs,ts,rfl,hl,hT,h4,hty,q⟩:=h
 obtain ⟨u,rfl,ru⟩:=cQ r
 cases ru
 obtain ⟨as,rv,pl,_⟩:=I.list (SqL.of hl)
 have l1:=hT.len
 have l2:=rv.length
 have kp:Kps ts:=kps_all fun t m=>(hty t m).1
 have hK:Tk.KsAt s.heap as (ktTs ts):=kats_of I.hok I.kIn (kvts_of kp hT) rv
 refine Sh.set_listT (items:=as.toArray) (ks:=ktTs ts) (I.ok.hd hc) pl.isList (by simpa using hK) (fun v m=> ?_) (fun k m=> ?_) (by rw [xc];omega) hu fun h' tk N kp'=> ?_
 · have m':v∈as:=by simpa using m
   obtain ⟨i,hi,e⟩:=yo m'
   have hi':i < ts.length:=by omega
   obtain ⟨x,e1,e2⟩:=hT.get (i:=i) (t:=ts[i]) (x4 hi')
   obtain ⟨a,e3,e4⟩:=rv.get e1
   obtain ⟨b,rfl⟩:=lM (hty _ (y6 hi')).2.2 e2
   rw [x4 hi,e] at e3
   cases e3
   exact ⟨b,e4⟩
 · obtain ⟨i,hi,e⟩:=yo m
   obtain ⟨t,et,ek⟩:=jb (ts:=ts) (i:=i) (k:=k) (by rw [x4 hi,e])
   have mt:=xa et
   rw [ek,qE (hty t mt).1]
   exact (hty t mt).2.1
 · have kpp:∀b o,s.heap.get? b=some o→h'.get? b=some o:=fun b o e=>kp' b o (Heap.lt_size e) e
   obtain ⟨M,P,E,kf,o,es,ep,t,hM,S,D,mem,src,ul,len,_⟩:=N
   obtain ⟨cs,us,h1,h2,h3,hm⟩:=ip (E:=E) (kf:=kf) hT rv (fun t m=>(hty t m).2.2) P fun j hj=>by
    obtain ⟨i,e1,e2⟩:=src j hj
    exact ⟨i,by simpa using e1,e2⟩
   have nd:us.Nodup:=by
    have:(us.map ktT).Nodup:=by
     rw [h3]
     have nb:P.Nodup:=Sh.Up.nd S.tb.up
     refine List.Pairwise.map kf ?_ (List.Pairwise.and_mem.mp nb)
     intro i j ⟨mi,mj,ne⟩ e
     exact ne (D.inj i j mi mj e)
    exact List.Pairwise.of_map ktT (fun a b h e=>h (by rw [e])) this
   have hmem:∀t,t∈us↔t∈ts:=fun t=>⟨hm t,fun mt=>by
    obtain ⟨j,hj,e⟩:=mem _ (sP mt)
    have:kf j∈us.map ktT:=by
     rw [h3]
     exact xy.mpr ⟨j,hj,rfl⟩
    obtain ⟨u,mu,eu⟩:=xy.mp this
    rw [←qD (hty u (hm u mu)).1 (hty t mt).1 (eu.trans e)]
    exact mu⟩
   have ulen:us.length≤76:=by
    have e:=congrArg List.length h3
    rw [wZ,wZ] at e
    have lk:(ktTs ts).length=ts.length:=mN ts
    omega
   have rs:∃es ep t,Sn.RS h' s.heap.objs.size es ep t∧Sn.Tk (!(X.w.params.followText "set-order")) t∧es.toList.map (·.2)=cs.map Value.ref:=by
    refine ⟨es,ep,t,⟨⟨o,S.get,S.ex,S.data⟩,S.fits⟩,⟨S.led,?_⟩,?_⟩
    · rw [S.tb.place]
      exact S.tb.up
    · rw [S.es,List.map_map]
      exact h1
   refine ⟨.ref s.heap.objs.size,upd H s.heap.objs.size (sT X.w s.heap.objs.size cs),I.laid (t':=tk) kpp (x9 _) ⟨rs,⟨o,S.get⟩,fun h1 h2 ⟨es,ep,t,r,k,e⟩ f=>⟨es,ep,t,r.kp f,k,e⟩⟩,rfl,q _ cs us (I.hok.fresh (x9 _)) h2 nd hmem ulen⟩
end
end L2
namespace Dj
open PySem PySem.Spec PySem.W PyProof.Rows L2 Tre Srt
section
variable {prog:Program} {w:World} {A:Around} {E:Value→Shared→Prop} {s:Shared}
theorem kX {l:Addr} {vs0:List Value} {Q:Value→Shared→Prop} (h64:vs0.length < 64)
 (hcol:∀Q':List Value→Shared→Prop,(∀h' tk d vs,(∀b o,s.heap.get? b=some o→h'.get? b=some o)→s.heap.objs.size < h'.objs.size→vs.Perm vs0→Q' vs {s with heap:=h',toks:=tk,drawn:=d})→wpAny (model prog w) A.in1 (collect (.ref l)) Q' E s)
 (hall:∀vs d,vs.Perm vs0→∃(lt:Nat→Nat→Bool) (κ:SortKind),Ord lt∧
  (2≤vs.length→∀h' tk,(∀b o,s.heap.get? b=some o→h'.get? b=some o)→∀(E':Value→Shared→Prop) (R:SortKind→Shared→Prop),R κ {s with heap:=h',toks:=tk,drawn:=d}→wpAny (model prog w) A.in1.in1 (keyKind' vs.toArray) R E' {s with heap:=h',toks:=tk,drawn:=d})∧
  (∀h' tk,(∀b o,s.heap.get? b=some o→h'.get? b=some o)→∀i j (R:Bool→Shared→Prop),i < vs.length→j < vs.length→R (lt i j) {s with heap:=h',toks:=tk,drawn:=d}→kas_ask prog w A.in1.in1 κ vs i j R {s with heap:=h',toks:=tk,drawn:=d})∧
  (∀p:Array Nat,Pm vs.length p→Up lt p vs.length→∀h' tk D e,(∀b o,s.heap.get? b=some o→h'.get? b=some o)→s.heap.objs.size≤D→h'.get? D=some (seqObj "list" (List.toArray (p.toList.map fun i=>vs.getD i Value.none)) e)→Q (.ref D) {s with heap:=h',toks:=tk,drawn:=d})):
 wpAny (model prog w) A (call (.builtin "sorted") [.ref l]) Q E s:=by
 refine Calls.call_function_entry kind_sorted plain_sorted entry_sorted (args_sorted1 _) ?_
 unfold Builtin.«sorted»
 refine wpAny_bind (m:=checkCount "sorted" 1 1 _) (wpAny_pure (wpAny_bind (hcol _ fun h1 tk d vs k1 sz pm=> ?_)))
 obtain ⟨lt,κ,O,hkind,hask,h⟩:=hall vs d pm
 have hvl:=pm.length_eq
 refine wpAny_bind (wpAny_newList (s:= {s with heap:=h1,toks:=tk,drawn:=d}) ?_ (by rw [sizeLine_eq];omega))
 have hoL:(h1.push (seqObj "list" vs.toArray 0)).get? h1.objs.size=some (seqObj "list" vs.toArray 0):=Heap.get?_push_size _ rfl
 have keep:∀b o,s.heap.get? b=some o→(h1.push (seqObj "list" vs.toArray 0)).get? b=some o∧b≠h1.objs.size:=fun b o q=>⟨Heap.get?_push_of_some _ (k1 b o q),xu (Heap.lt_size (k1 b o q))⟩
 show wpAny _ _ _ _ _ {s with heap:=h1.push (seqObj "list" vs.toArray 0),toks:=tk,drawn:=d}
 refine wpAny_bind (wpAny_holding (wpAny_call_entry slot_list_sort ⟨_,hoL,rfl⟩ entry_list_sort (dk (s:= {s with heap:=h1.push (seqObj "list" vs.toArray 0),toks:=tk,drawn:=d}) (lt:=lt) (κ:=κ) O hoL (by omega) (fun h2 h' st R hR=>hkind h2 h' tk (fun b o e=>st b o (keep b o e).2 (keep b o e).1) _ R hR)
  (fun h' st i j R hi hj hR=>hask h' tk (fun b o e=>st b o (keep b o e).2 (keep b o e).1) i j R hi hj hR) fun p a1 a2=>⟨_,rfl,?_⟩) (args_list_sort _)))
 obtain ⟨e,he⟩:=sortedHeap_at (out:=List.toArray (p.toList.map fun i=>vs.getD i Value.none)) hoL
 refine wpAny_pure ⟨_,rfl,h p a1 a2 _ tk _ e (fun b o q=> ?_) (Nat.le_of_lt sz) he⟩
 rw [sortedHeap_old (keep b o q).2 (Heap.lt_size (keep b o q).1)]
 exact (keep b o q).1
end
section
variable {X:Cx}
def pH (w:World):List V→Hp→VK→Prop:=fun xs H Q=>∃(a:Addr) (cs:List Addr) (us:List Tr),xs= [.ref a]∧H a=some (sT w a cs)∧TrsAt H (cs.map V.ref) us∧us.length < 64∧(∀t∈us,Hs t∧t.pure∧t.depth≤40)∧(∀t∈us,∀u∈us,Cm t u)∧
 ∀(D:Addr) (ws:List V) (vs:List Tr),H D=none→vs.Perm us→TrsAt H ws vs→(∀(i j:Nat) (t u:Tr),i≤j→vs[i]?=some t→vs[j]?=some u→ltT u t=false)→Q (.ref D) (upd H D (.lst ws))
theorem ou {H:Hp} {cs ds:List Addr} (p:ds.Perm cs):∀ {us:List Tr},TrsAt H (cs.map V.ref) us→∃vs,vs.Perm us∧TrsAt H (ds.map V.ref) vs:=by
 induction p with
 |nil=>intro us h;exact ⟨us, .refl _,h⟩
 |cons x _ ih=>
  intro us h
  cases us with
  |nil=>have:=h.len;simp at this
  |cons u us=>
   obtain ⟨v,r,e,h1,h2⟩:=h.inv
   rw [xg] at e
   injection e with e1 e2
   subst e1 e2
   obtain ⟨vs,p2,h3⟩:=ih h2
   exact ⟨u::vs,p2.cons u, .cons h1 h3⟩
 |swap x y l=>
  intro us h
  match us,h with
  | [],h=>have:=h.len;simp at this
  | [u],h=>have:=h.len;simp at this
  |u::v::us,h=>
   obtain ⟨a,r,e,h1,h2⟩:=h.inv
   obtain ⟨b,r',e',h3,h4⟩:=h2.inv
   subst e'
   rw [xg,xg] at e
   injection e with e1 e2
   injection e2 with e2 e3
   subst e1 e2 e3
   exact ⟨v::u::us, .swap _ _ _, .cons h3 (.cons h1 h4)⟩
 |trans _ _ ih1 ih2=>
  intro us h
  obtain ⟨vs,p1,h1⟩:=ih2 h
  obtain ⟨ws,p2,h2⟩:=ih1 h1
  exact ⟨ws,p2.trans p1,h2⟩
theorem nV {vs:List Value} {cs:List Addr} (p:vs.Perm (cs.map Value.ref)):∃ds:List Addr,vs=ds.map Value.ref∧ds.Perm cs:=by
 generalize e:cs.map Value.ref=l at p
 induction p generalizing cs with
 |nil=>exact ⟨[],rfl,by rw [List.map_eq_nil_iff.mp e]⟩
 |cons x _ ih=>
  cases cs with
  |nil=>cases e
  |cons c cs=>
   rw [xg] at e
   injection e with e1 e2
   obtain ⟨ds,h1,h2⟩:=ih e2
   exact ⟨c::ds,by rw [xg,h1,e1],h2.cons c⟩
 |swap x y l=>
  match cs,e with
  |c::d::cs,e=>
   rw [xg,xg] at e
   injection e with e1 e2
   injection e2 with e2 e3
   exact ⟨d::c::cs,by rw [xg,xg,e1,e2,e3], .swap _ _ _⟩
 |trans _ _ ih1 ih2=>
  obtain ⟨ds,h1,h2⟩:=ih2 e
  obtain ⟨fs,h3,h4⟩:=ih1 h1.symm
  exact ⟨fs,h3,h4.trans h2⟩
theorem i8:∀ds:List Addr,Vals (ds.map V.ref) (ds.map Value.ref)
 | []=> .nil
 |d::ds=> .cons rfl (i8 ds)
theorem call_sortedT (hc:X.calm=true) (hu:X.A.units+60 < cLine):c7 X (.builtin "sorted") (pH X.w):=by
 intro pins s σ H xs us Q I r h
 obtain ⟨a,cs,ts0,rfl,hH,hT0,hlen0,hts0,hcm0,q0⟩:=h
 obtain ⟨u,rfl,ru⟩:=cQ r
 cases ru
 obtain ⟨⟨es,ep,t,rs,tk0,hes⟩,_,_⟩:=(show ObjOk X.prog X.w H s.heap a (sT X.w a cs) from I.hok a _ hH)
 have lc:=hT0.len
 rw [wZ] at lc
 have h64:(64:Nat)≤sizeLine:=by decide +kernel
 have esz:es.size=cs.length:=by
  have:=congrArg List.length hes
  rw [wZ,wZ,xb] at this
  exact this
 refine kX (vs0:=cs.map Value.ref) (by rw [wZ];omega) (fun Q' hQ'=> ?_) fun as d pm=> ?_
 · refine Sn.collect_set (A:=X.A.in1) (I.ok.hd hc) rs tk0 (by omega) fun h' tk d vs k1 sz hp=> ?_
   exact hQ' h' tk d vs k1 sz (by rw [←hes];exact hp)
 obtain ⟨ds,eas,pds⟩:=nV pm
 obtain ⟨ts,pts,hT⟩:=ou pds hT0
 obtain ⟨vs,evs⟩:∃vs,vs=ds.map V.ref:=⟨_,rfl⟩
 have rv:Vals vs as:=by rw [eas,evs];exact i8 ds
 rw [←evs] at hT
 have l1:=hT.len
 have l2:=rv.length
 have tl:=pts.length_eq
 have hlen:ts.length < 64:=by omega
 have hts:∀t∈ts,Hs t∧t.pure∧t.depth≤40:=fun t m=>hts0 t (pts.mem_iff.mp m)
 have hcm:∀t∈ts,∀u∈ts,Cm t u:=fun t m u mu=>hcm0 t (pts.mem_iff.mp m) u (pts.mem_iff.mp mu)
 have q:∀(D:Addr) (ws:List V) (us:List Tr),H D=none→us.Perm ts→TrsAt H ws us→(∀(i j:Nat) (t u:Tr),i≤j→us[i]?=some t→us[j]?=some u→ltT u t=false)→Q (.ref D) (upd H D (.lst ws)):=fun D ws us h1 h2 h3 h4=>q0 D ws us h1 (h2.trans pts) h3 h4
 have O:Srt.Ord fun i j=>ltT (ts.getD i .non) (ts.getD j .non):=⟨fun a b h=>d6 h,fun a b c h1 h2=>lh h1 h2⟩
 have at_:∀i,i < as.length→∃t v a,ts.getD i .non=t∧t∈ts∧TrAt H v t∧RelV v a∧as.getD i Value.none=a:=fun i hi=>by
  have hi':i < ts.length:=by omega
  obtain ⟨v,e1,e2⟩:=hT.get (i:=i) (t:=ts[i]) (x4 hi')
  obtain ⟨a,e3,e4⟩:=rv.get e1
  exact ⟨ts[i],v,a,by rw [xB,x4 hi'];rfl,y6 hi',e2,e4,by rw [xB,e3];rfl⟩
 refine ⟨fun i j=>ltT (ts.getD i .non) (ts.getD j .non),tuples' true,O,fun h2 h' tk kp E' R hR=> ?_,fun h' tk kp i j R hi hj hR=> ?_,fun p hp hup h' tk D e kp sz he=> ?_⟩
 · have I':Inv X pins σ H {s with heap:=h',toks:=tk,drawn:=d}:=(I.kept (t':=tk) kp).drew
   obtain ⟨fs,k1,k2,k3⟩:=fK I' hT rv fun t m=>(hts t m).1
   refine kat_kind (T:=Value.type "str") k1 (by omega) (fun v m=> ?_) (by decide +kernel) ?_
   · obtain ⟨x,t,rfl⟩:=k3 v m
     exact .now
   · rw [show (Value.type "str" !=Value.type "tuple")=true by decide +kernel]
     exact hR
 · have I':Inv X pins σ H {s with heap:=h',toks:=tk,drawn:=d}:=(I.kept (t':=tk) kp).drew
   obtain ⟨t,v,a,et,mt,ht,ra,ea⟩:=at_ i hi
   obtain ⟨u,v',b,eu,mu,hu',rb,eb⟩:=at_ j hj
   have hc':=hcm t mt u mu
   obtain ⟨⟨x1,r1,rfl⟩,p1,d1⟩:=hts t mt
   obtain ⟨⟨x2,r2,rfl⟩,p2,d2⟩:=hts u mu
   unfold TrAt at ht hu'
   obtain ⟨x0,vs0,rfl,g0,g1⟩:=ht
   obtain ⟨y0,ws0,rfl,g2,g3⟩:=hu'
   cases ra
   cases rb
   obtain ⟨as0,o,n,q3,ho,hcl,hd'⟩:=cK I' g0
   obtain ⟨bs0,o',n',q4,ho',hcl',hd2⟩:=cK I' g2
   have z0:=g1.len
   have z1:=g3.len
   have z2:=q3.length
   have z3:=q4.length
   obtain ⟨y1,yr1,rfl,w1,w2⟩:=g1.inv
   obtain ⟨y2,yr2,rfl,w3,w4⟩:=g3.inv
   unfold TrAt at w1 w3
   subst w1 w3
   cases q3 with
   |cons q3 q3'=>
    cases q4 with
    |cons q4 q4'=>
     obtain ⟨tk1,rfl⟩:=q3
     obtain ⟨tk2,rfl⟩:=q4
     unfold Tr.depth at d1
     unfold Trs.depth at d1
     unfold Tr.pure at p1
     unfold Trs.pure at p1
     unfold kas_ask
     rw [ea,eb]
     refine kat_lt (b:=true) ho hd' ho' hd2 ?_
     rw [yh,yh]
     have hu1:X.A.in1.in1.units+40+1 < cLine:=by show X.A.units+1+1+40+1 < cLine;omega
     have e:∀q,lexV (decide ((Value.str x1 tk1::_).toArray.size < (Value.str x2 tk2::_).toArray.size)) ((x1==x2,decide (x1.cps.toList < x2.cps.toList))::q)=lexV (decide ((Tr.str x1::r1).length < (Tr.str x2::r2).length)) ((x1==x2,decide (x1.cps.toList < x2.cps.toList))::q):=fun q=>by
      rw [xc,xc,←z2,←z3,z0,z1]
     by_cases ex:(x1==x2)=true
     · unfold Cm at hc'
       unfold Cms at hc'
       have hc2:Cms r1 r2:=by
        rcases hc' with ⟨_,c⟩|⟨n,_⟩
        · exact c
        · unfold Tre.eqT at n
          rw [ex] at n
          cases n
       have hx':=gO (A:=X.A.in1.in1) I' hu1 (fun d pp cc a1 a2 b1 b2=>iK I' 40 d pp cc a1 a2 b1 b2 hu1) (by omega) (.inl p1.2) hc2 w2 w4 q3' q4'
       refine je hx' ?_
       rw [e]
       have e2:lexV (decide ((Tr.str x1::r1).length < (Tr.str x2::r2).length)) ((x1==x2,decide (x1.cps.toList < x2.cps.toList))::qs r1 r2)=ltT (ts.getD i .non) (ts.getD j .non):=by
        rw [et,eu]
        refine aW ?_
        rw [ltT_iff]
        have el:decide ((Tr.str x1::r1).length < (Tr.str x2::r2).length)=decide (r1.length < r2.length):=by simp
        have e4:=(cM x1 x2).mp ex
        simp only [lexV,ex,if_true,el,dY,Tre.code,Tre.codes,LtC,LtCs,e4]
        constructor
        · intro h;exact .inr ⟨trivial,h⟩
        · rintro (h|h)
          · exact absurd h (List.lt_irrefl _)
          · exact h.2
       rw [e2]
       exact hR
     · have exf:(x1==x2)=false:=by simpa using ex
       rw [yd]
       refine kat_cons (SeqAt.EqAt.str_str x1 tk1 x2 tk2 X.prog X.w _ _ ?_)
       rw [exf]
       refine kat_no ?_
       refine oneLt_str ?_
       have e2:decide (x1.cps.toList < x2.cps.toList)=ltT (ts.getD i .non) (ts.getD j .non):=by
        rw [et,eu]
        refine aW ?_
        rw [ltT_iff,decide_eq_true_iff]
        have ne:x1.cps.toList≠x2.cps.toList:=fun z=>ex ((cM x1 x2).mpr z)
        simp only [Tre.code,Tre.codes,LtC,LtCs,Co.str.injEq]
        constructor
        · intro h;exact .inl h
        · rintro (h|h)
          · exact h
          · exact absurd h.1 ne
       rw [e2]
       exact hR
 · have hin:∀i∈p.toList,i < ts.length:=fun i m=>by
    have:=xN.mp (List.Perm.mem_iff hp |>.mp m)
    omega
   refine ⟨.ref D,upd H D (.lst (p.toList.map fun i=>vs.getD i .non)),(I.laid (t':=tk) kp sz ?_).drew,rfl,?_⟩
   · refine ⟨?_,p.toList.map fun i=>as.getD i Value.none,e,Vals.map rv fun i m=>by have:=hin i m;omega,he⟩
     rw [wZ,xb,hp.size]
     have:(64:Nat)≤sizeLine:=by decide +kernel
     omega
   · refine q _ _ (p.toList.map fun i=>ts.getD i .non) (I.hok.fresh sz) ?_ (TrsAt.map hT hin) fun i j t u hij e1 e2=> ?_
     · have:=List.Perm.map (fun i=>ts.getD i Tr.non) hp
       rw [show as.length=ts.length by omega,cE] at this
       exact this
     · rw [xw] at e1 e2
       obtain ⟨a,ea,rfl⟩:=xG.mp e1
       obtain ⟨b,eb,rfl⟩:=xG.mp e2
       have hj:j < as.length:=by
        have:=(xo.mp eb).1
        rw [xb,hp.size] at this
        exact this
       have:=hup i j hij hj
       rw [c4,c4,←xk,←xk,ea,eb] at this
       exact this
end
end Dj
namespace K09
open PySem L2 Mth Tre Wd Su Tw
theorem tM:∀ {n:Nat} {t:Tr} {c:List Nat},Wy n t c→allN (n+1) t=allN n t:=by
 intro n
 induction n with
 |zero=>
  intro t c h
  have e:aQ t= []:=by
   cases e:aQ t with
   |nil=>rfl
   |cons u l=>
    obtain ⟨m,d,z,_⟩:=(bp h).2 u (by rw [e];exact x5)
    omega
  show (aQ t).flatMap (allN 0)++ [t]= [t]
  rw [e]
  rfl
 |succ n ih=>
  intro t c h
  show (aQ t).flatMap (allN (n+1))++ [t]=(aQ t).flatMap (allN n)++ [t]
  congr 1
  have:∀l:List Tr,(∀u∈l,allN (n+1) u=allN n u)→l.flatMap (allN (n+1))=l.flatMap (allN n):=by
   intro l
   induction l with
   |nil=>intro _;rfl
   |cons a l ihl=>
    intro hl
    rw [xS,xS,hl a x5,ihl fun u m=>hl u (x6 _ m)]
  refine this _ fun u m=> ?_
  obtain ⟨m',d,e,hk,_⟩:=(bp h).2 u m
  have:m'=n:=by omega
  subst this
  exact ih hk
theorem ju {H:Hp}:∀ {vs:List V} {ts:List Tr} (n:Nat),TrsAt H vs ts→TrsAt H (vs.take n) (ts.take n)
 |_,_,0,_=>by
  rw [yp,yp]
  exact .nil
 |_,[],n+1,h=>by
  unfold TrsAt at h
  subst h
  exact .nil
 |_,t::ts,n+1,h=>by
  obtain ⟨v,r,rfl,h1,h2⟩:=h.inv
  exact .cons h1 (ju n h2)
theorem jv {H:Hp}:∀ {vs:List V} {ts:List Tr} (n:Nat),TrsAt H vs ts→TrsAt H (vs.drop n) (ts.drop n)
 |_,_,0,h=>by
  rw [List.drop_zero,List.drop_zero]
  exact h
 |_,[],n+1,h=>by
  unfold TrsAt at h
  subst h
  exact .nil
 |_,t::ts,n+1,h=>by
  obtain ⟨v,r,rfl,h1,h2⟩:=h.inv
  exact jv n h2
noncomputable def atL (t:Tr):List Tr:=(allN 3 t).filter isAt
theorem uo {t:Tr} {c:List Nat} (h:Wy 3 t c):(atL t).length≤27:=xI (rC h) (by decide)
theorem wW {t:Tr} {c:List Nat} (h:Wx 2 t c):(atL t).length≤9:=by
 unfold atL
 rw [tM (h.wy (x9 2))]
 exact xI (rC (h.wy (x9 2))) (by decide)
structure Gl9 (ts:List Tr):Prop where
 len:ts.length≤4
 wy:∀t∈ts,∃c,Wy 3 t c
 few:∃U:List Tr,U.length < 64∧∀t∈ts,∀u∈atL t,u∈U
 cnt:(ts.flatMap atL).length≤76
theorem t6 {t:Tr} {more:List Tr} {c:List Nat} (h:Wx 3 t c) (hl:more.length≤2) (hm:∀u∈more,∃d,Wx 2 u d):Gl9 (t::more)∧((t::more).flatMap atL).length≤45∧(t::more).length≤3:=by
 have e1:=uo (h.wy (x9 3))
 have e2:=cr (B:=9) (l:=more) (f:=atL) fun u m=>by
  obtain ⟨d,hd⟩:=hm u m
  exact wW hd
 have e3:more.length*9≤2*9:=xJ _ hl
 have e4:((t::more).flatMap atL).length≤45:=by
  rw [xS,x3]
  omega
 refine ⟨⟨by rw [xh];omega,fun u m=> ?_,⟨(t::more).flatMap atL,by omega,fun u m x mx=>xA.mpr ⟨u,m,mx⟩⟩,by omega⟩,e4,by rw [xh];omega⟩
 rcases xi.mp m with rfl|m
 · exact ⟨c,h.wy (x9 3)⟩
 · obtain ⟨d,hd⟩:=hm u m
   exact ⟨d,hd.wy (by decide)⟩
theorem t5 {ts:List Tr} {t u:Tr} (i:Nat) (h:Gl9 ts) (h45:(ts.flatMap atL).length≤45) (h3:ts.length≤3) (ht:t∈ts) (hu:u∈allN 3 t):Gl9 (ts.take i++u::ts.drop i):=by
 obtain ⟨c,hw⟩:=h.wy t ht
 obtain ⟨m,d,hm,hwu,_⟩:=cA hw u hu
 have hwu3:Wy 3 u d:=hwu.wx.wy hm
 have e1:=uo hwu3
 obtain ⟨U,hU,hUm⟩:=h.few
 have sub:∀x,x∈ts.take i++u::ts.drop i→x∈ts∨x=u:=fun x m=>by
  rcases xj.mp m with m|m
  · exact .inl (List.mem_of_mem_take m)
  · rcases xi.mp m with m|m
    · exact .inr m
    · exact .inl (List.mem_of_mem_drop m)
 have lt:(ts.take i).length+(ts.drop i).length=ts.length:=by rw [xM,List.length_drop];omega
 have ef:(ts.flatMap atL).length=((ts.take i).flatMap atL).length+((ts.drop i).flatMap atL).length:=by rw [←x3,←xW,yj]
 have clo:Clo (allN 3 t):=fun y my x mx=>nA hw y my x mx
 refine ⟨by rw [x3,xh];omega,fun x m=> ?_,⟨U,hU,fun x m y my=> ?_⟩,?_⟩
 · rcases sub x m with m|rfl
   · exact h.wy x m
   · exact ⟨d,hwu3⟩
 · rcases sub x m with m|rfl
   · exact hUm x m y my
   · obtain ⟨m1,m2⟩:=xY.mp my
     exact hUm t ht y (xY.mpr ⟨clo.all hu y m1,m2⟩)
 · rw [xW,xS,x3,x3]
   omega
abbrev flT:List Tr:= [s_ "flag",s_ "most",s_ "like"]
theorem vA {n:Nat} {t:Tr} {c:List Nat} (h:Wx n t c):∃kk r,t= .tup (.str kk::r)∧(flT.any fun u=>eqT u (.str kk))=isAt t:=by
 cases h with
 |fl _ x hx=>exact ⟨_,_,rfl,by show _=true;decide +kernel⟩
 |mo _ ps f _ _ _ _ _=>exact ⟨_,_,rfl,by show _=true;decide +kernel⟩
 |li _ t u _ _=>exact ⟨_,_,rfl,by show _=true;decide +kernel⟩
 |no _ t c _=>exact ⟨_,_,rfl,by show _=false;decide +kernel⟩
 |bo _ l _ _=>exact ⟨_,_,rfl,by show _=false;decide +kernel⟩
 |ei _ l _ _=>exact ⟨_,_,rfl,by show _=false;decide +kernel⟩
theorem vz:∀u∈flT,u.depth≤40:=fun u m=>by
 simp only [xi,yi,or_false] at m
 rcases m with rfl|rfl|rfl<;>simp [Tr.depth]
open PySem L2 Mth Tre Wd Su Tw
section
variable {P:Program} {w:World} {K:PySem.W.Frag} {mg:Str→Option Value} {base:Heap}
def lS (K:PySem.W.Frag):Sp:=fun vs H Q _=>∃(a:Addr) (ns:List Int),vs= [.ref a]∧SqL K H a (ns.map V.int)∧ns.length≤63∧∀H',Q (.bl true) H'
theorem scL:ay ["_law_script","_law_feed_here","_law_names_here","_law_wishes","_law_k","_law_some","_law_atoms","_law_wish_here","_law_steps","_law_turn","_law_parts","_law_terms_here","_law_handed","_law_found"] ["_law_script"] (ai sLaw):=⟨rfl,rfl,rfl,by decide +kernel,rfl,by decide +kernel,by decide +kernel⟩
theorem uX {f fFe fNm fSo fDr fWk fPo fTi fFs fLt fSa fSz fAo:Addr} {fd dFe dNm dSo dDr dWk dPo dTi dFs dLt dSa dSz dAo:FuncData} (F:Fun K "law" "law" sLaw f fd) (B:Blt mg) (mS0:mg "set"=none)
 (gFe:FnOk P w K mg base CX0 1 fFe dFe ["_law_script"] (pb K)) (kFe:PySem.W.keepIn K (.ref fFe)=true) (bFe:Binds K dFe ["_law_script"] []) (mFe:mg "_law_feed"=some (.ref fFe))
 (gNm:FnOk P w K mg base CX0 2 fNm dNm ["_law_feed_here"] lR) (kNm:PySem.W.keepIn K (.ref fNm)=true) (bNm:Binds K dNm ["_law_feed_here"] []) (mNm:mg "_law_names"=some (.ref fNm))
 (gSo:FnOk P w K mg base CX0 19 fSo dSo ["_law_feed_here","_law_names_here","_law_deep"] iS) (kSo:PySem.W.keepIn K (.ref fSo)=true) (bSo:Binds K dSo ["_law_feed_here","_law_names_here","_law_deep"] []) (mSo:mg "_law_some_wish"=some (.ref fSo))
 (gDr:FnOk P w K mg base CX0 1 fDr dDr ["_law_feed_here","_law_many"] bZ) (kDr:PySem.W.keepIn K (.ref fDr)=true) (bDr:Binds K dDr ["_law_feed_here","_law_many"] []) (mDr:mg "_law_draw"=some (.ref fDr))
 (gWk:FnOk P w K mg base CX0 5 fWk dWk ["_law_wish_here"] (lQ 4)) (kWk:PySem.W.keepIn K (.ref fWk)=true) (bWk:Binds K dWk ["_law_wish_here"] []) (mWk:mg "_law_walk"=some (.ref fWk))
 (gPo:FnOk P w K mg base CX0 25 fPo dPo ["wish"] spPo) (kPo:PySem.W.keepIn K (.ref fPo)=true) (bPo:Binds K dPo ["wish"] []) (mPo:mg "parts_of"=some (.ref fPo))
 (gTi:FnOk P w K mg base CX0 27 fTi dTi ["wish"] oZ) (kTi:PySem.W.keepIn K (.ref fTi)=true) (bTi:Binds K dTi ["wish"] []) (mTi:mg "terms_in"=some (.ref fTi))
 (gFs:FnOk P w K mg base CX0 1 fFs dFs ["_law_things"] lT) (kFs:PySem.W.keepIn K (.ref fFs)=true) (bFs:Binds K dFs ["_law_things"] []) (mFs:mg "_law_firsts"=some (.ref fFs))
 (gLt:FnOk P w K mg base CX0 6 fLt dLt ["_law_wish_here"] p8) (kLt:PySem.W.keepIn K (.ref fLt)=true) (bLt:Binds K dLt ["_law_wish_here"] []) (mLt:mg "_law_terms"=some (.ref fLt))
 (gSa:FnOk P w K mg base CX0 31 fSa dSa ["_law_found","_law_due"] (spSm 30)) (kSa:PySem.W.keepIn K (.ref fSa)=true) (bSa:Binds K dSa ["_law_found","_law_due"] []) (mSa:mg "_law_same"=some (.ref fSa))
 (gSz:FnOk P w K mg base CX0 5 fSz dSz ["wish"] (p5 4)) (kSz:PySem.W.keepIn K (.ref fSz)=true) (bSz:Binds K dSz ["wish"] []) (mSz:mg "size_of"=some (.ref fSz))
 (gAo:FnOk P w K mg base CX0 60 fAo dAo ["wishes"] pe) (kAo:PySem.W.keepIn K (.ref fAo)=true) (bAo:Binds K dAo ["wishes"] []) (mAo:mg "atoms_of"=some (.ref fAo)):
 FnOk P w K mg base CX0 61 f fd ["_law_script"] (lS K):=by
 refine F.ok scL (fun vs H Q E h=> ?_) (fun cdv A outer s H vs Q E hr h=> ?_)
 · obtain ⟨a,ns,rfl,_⟩:=h
   rfl
 obtain ⟨a,ns,rfl,hS,hl,k⟩:=h
 have hr1:Room 1 _:=hr.mono (by decide)
 have hr2:Room 2 _:=hr.mono (by decide)
 have hr5:Room 5 _:=hr.mono (by decide)
 have hr6:Room 6 _:=hr.mono (by decide)
 have hr19:Room 19 _:=hr.mono (by decide)
 have hr25:Room 25 _:=hr.mono (by decide)
 have hr27:Room 27 _:=hr.mono (by decide)
 have hr31:Room 31 _:=hr.mono (by decide)
 have hr60:Room 60 _:=hr.mono (by decide)
 have hun:=hr.units
 have hu50:=xO (ym (show 50≤64 by decide) _) hun
 have hu60:=xO (ym (show 60≤64 by decide) _) hun
 refine ⟨_,ag (ar (i:=1) scL.nd rfl (Or.inl rfl) (ah gFe hr1 rfl mFe kFe bFe .nil am (a9 (pv 0) aa)))
  (ag (ar (i:=2) scL.nd rfl (Or.inl rfl) (ah gNm hr2 rfl mNm kNm bNm .nil am (a9 (pv 1) aa)))
  (ag (ar (i:=3) scL.nd rfl (Or.inl rfl) (aL (a9 (ah gSo hr19 rfl mSo kSo bSo .nil am (a9 (pv 1) (a9 (pv 2) (a9 ae aa)))) aa)))
  (ag (b9 PassesOwn.never rfl (bn rfl B.ra (a9 (ah gDr hr1 rfl mDr kDr bDr .nil am (a9 (pv 1) (a9 ae aa))) aa)) (aA (i:=4) scL.nd rfl (Or.inl rfl))
   (aj (aZ (cq PySem.F.plainAttrs_list PySem.F.slot_list_append PySem.F.type_list_append bN (pv 3) (a9 (ah gSo hr19 rfl mSo kSo bSo .nil am (a9 (pv 1) (a9 (pv 2) (a9 ae aa)))) aa)))))
  (ag (aP (au aS (ah gDr hr1 rfl mDr kDr bDr .nil am (a9 (pv 1) (a9 ae aa))) ae (aB _))
   (ag (ar (i:=5) scL.nd rfl (Or.inl rfl) (ah gWk hr5 rfl mWk kWk bWk .nil am (a9 (aq ix_list (pv 3) ae fun _ _=>rfl) aa)))
   (aj (aZ (cq PySem.F.plainAttrs_list PySem.F.slot_list_insert PySem.F.type_list_insert L2.mt_insert (pv 3) (a9 (ah gDr hr1 rfl mDr kDr bDr .nil am (a9 (pv 1) (a9 (aw ba (aE aY rfl B.le PySem.boot_len (a9 (pv 3) aa)) ae) aa)))
    (a9 (aq ix_list (pv 5) (ah gDr hr1 rfl mDr kDr bDr .nil am (a9 (pv 1) (a9 (aE aY rfl B.le PySem.boot_len (a9 (pv 5) aa)) aa))) fun _ _=>rfl) aa)))))) az)
  (ag (ar (i:=6) scL.nd rfl (Or.inl rfl) (aL aa))
  (ag (b9 PassesOwn.never rfl (b8 (pv 3)) (aA (i:=7) scL.nd rfl (Or.inl rfl))
   (ag (ar (i:=8) scL.nd rfl (Or.inl rfl) (ah gWk hr5 rfl mWk kWk bWk .nil am (a9 (pv 7) aa)))
   (ag (ar (i:=6) scL.nd rfl (Or.inl rfl) (aw cg (pv 6) (br (NC:= ["_law_one"]) (mp:= [none]) rfl (b8 (pv 8)) (fun _ _ _ _ _=>aA (i:=0) (show (["_law_one"]:List Str).Nodup by decide +kernel) rfl (Or.inl rfl)) (fun _ _ _ _ _=>j0 (au (r:=Tre.rIn true) (uM hu50) (aq (r:=rIxT K) ix_tup (pv 0) ae fun _ _=>rfl) (uK 9 (t:= .tup flT) rfl) (by with_unfolding_all rfl))) (fun _ _ _ _ _=>pv 0))))
   (ag (b9 PassesOwn.never rfl (bn rfl B.ra (a9 ae aa)) (aA (i:=9) scL.nd rfl (Or.inl rfl))
    (ag (ar (i:=10) scL.nd rfl (Or.inl rfl) (ah gPo hr25 rfl mPo kPo bPo .nil am (a9 (pv 7) aa)))
    (ag (ar (i:=11) scL.nd rfl (Or.inl rfl) (ah gTi hr27 rfl mTi kTi bTi .nil am (a9 (pv 7) aa)))
    (ag (aP (PW.pt (ff (kZ (eU (ah gSa hr31 rfl mSa kSa bSa .nil am (a9 (pv 10) (a9 (ah gFs hr1 rfl mFs kFs bFs .nil am (a9 (pv 8) aa)) aa)))))
     (cW (kZ (eU (ah gSa hr31 rfl mSa kSa bSa .nil am (a9 (pv 11) (a9 (ah gLt hr6 rfl mLt kLt bLt .nil am (a9 (pv 7) aa)) aa)))))))) (aj (ao mf)) az)
    (ag (aZ (eV PySem.F.plainAttrs_list PySem.F.slot_list_clear PySem.F.type_list_clear jJ (pv 10)))
    (aj (aZ (eV PySem.F.plainAttrs_list PySem.F.slot_list_clear PySem.F.type_list_clear jJ (pv 11)))))))))
   (aj (aP (kZ (eU (ah gSa hr31 rfl mSa kSa bSa .nil am (a9 (ah gSz hr5 rfl mSz kSz bSz .nil am (a9 (pv 7) aa)) (a9 (aE aY rfl B.le PySem.boot_len (a9 (pv 8) aa)) aa))))) (aj (ao mf)) az))))))
  (ag (ar (i:=12) scL.nd rfl (Or.inl rfl) (aU bU rfl B.li PyProof.Rows.boot_list (a9 (pv 3) aa)))
  (ag (ar (i:=13) scL.nd rfl (Or.inl rfl) (ah gAo hr60 rfl mAo kAo bAo .nil am (a9 (pv 12) aa)))
  (aj (ao (j5 (ah gSa hr31 rfl mSa kSa bSa .nil am (a9 (pv 13) (a9 (aE (Dj.call_sortedT rfl hu60) rfl B.so PyProof.Rows.boot_sorted (a9 (aU (r:=L2.rSetG w) (L2.call_setG rfl hu60) rfl mS0 PyProof.Rows.boot_set (a9 (pv 6) aa)) aa)) aa))) (l7 (j4 (uN hu60) (pv 12) (pv 3) (aB _)))))))))))))),?_⟩
 have hL20:(30000:Nat)≤sizeLine:=by decide +kernel
 refine ⟨_,rfl,a,ns,rfl,hS,hl,fun f c H1 nf nc s1 hF1=> ?_⟩
 refine ⟨_,rfl,f,c,rfl,hF1,fun nl H2 hF2 b2 nnl hN2=> ?_⟩
 obtain ⟨n1,n2⟩:=hF1.ne nnl
 refine e8 ?_
 dsimp only
 refine c8 (fun σ' H'=>FeedAt H' f c∧Names H' nl∧∃(W:Addr) (v0:V) (t0:Tr) (c0:List Nat),σ'= [some (.ref a),some (.ref f),some (.ref nl),some (.ref W),none,none,none,none,none,none,none,none,none,none]∧H' W=some (.lst [v0])∧TrAt H' v0 t0∧Wx 3 t0 c0∧W≠f∧W≠c∧W≠nl) ?_ fun nx hnx=> ?_
 rotate_left
 · refine ⟨_,rfl,_,rfl,f,c,nl,3,rfl,hF2,hN2,n1,n2,by decide,by decide,fun v0 t0 c0 H3 hF3 b3 hv hx=> ?_⟩
   refine ⟨by show 1≤sizeLine;decide,fun W nW=> ?_⟩
   have sW:Same H3 (upd H3 W (.lst [v0])):=af nW
   have hN3:=hN2.but n1 n2 b3
   obtain ⟨w1,w2⟩:=hF3.ne nW
   refine hnx _ _ ⟨hF3.same sW,(hN3.but n1 n2 (But.of_same sW)),W,v0,t0,c0,rfl,ac,hv.mono (Kd.of_same sW),hx,w1,w2,fun z=> ?_⟩
   obtain ⟨xs,x,e,_⟩:=hN3.at (i:=0) (by decide) (by decide)
   rw [z,e] at nW
   cases nW
 rintro σ3 H3 ⟨hF3,hN3,W,v0,t0,c0,rfl,hW3,hv3,hx0,w1,w2,w3⟩
 refine c8 (fun σ' H'=>FeedAt H' f c∧Names H' nl∧∃(xs:List V) (more:List Tr) (v4:Option V),σ'= [some (.ref a),some (.ref f),some (.ref nl),some (.ref W),v4,none,none,none,none,none,none,none,none,none]∧H' W=some (.lst xs)∧TrsAt H' xs (t0::more)∧more.length≤2∧∀u∈more,∃d,Wx 2 u d) ?_ fun nx hnx=> ?_
 rotate_left
 · refine ⟨_,rfl,f,c,3,rfl,hF3,by decide,aV (by decide) (by decide),fun r H4 r0 r1 hF4 kp4=> ?_⟩
   refine ⟨r,rfl,by omega,by omega,?_⟩
   obtain ⟨j,ej⟩:∃j:Nat,r.toNat=j:=⟨_,rfl⟩
   have jm:j≤2:=by omega
   rw [ej]
   have kd4:=(But.of_keep kp4).kd hF3 hF4
   refine cG (n:=j) (fun i σ H'=>FeedAt H' f c∧Names H' nl∧∃(xs:List V) (more:List Tr) (v4:Option V),σ= [some (.ref a),some (.ref f),some (.ref nl),some (.ref W),v4,none,none,none,none,none,none,none,none,none]∧H' W=some (.lst xs)∧TrsAt H' xs (t0::more)∧more.length=i∧∀u∈more,∃d,Wx 2 u d)
    ⟨hF4,hN3.but n1 n2 (But.of_keep kp4),[v0],[],none,rfl,(kp4 W w1 w2).trans hW3, .cons (hv3.mono kd4) .nil,rfl,fun u m=>by cases m⟩ ?_ ?_
   · rintro i σ H5 hi ⟨hF5,hN5,xs,more,v4,rfl,hW5,hT5,hm5,hg5⟩
     have xl:=hT5.len
     rw [xh] at xl
     refine ⟨_,rfl, .inl ⟨rfl,_,SqL.of hW5⟩,_,rfl,_,rfl,f,c,nl,2,rfl,hF5,hN5,n1,n2,by decide,by decide,fun v t cc H6 hF6 b6 hv hx=> ?_⟩
     have hW6:=b6 W _ w1 w2 hW5
     refine ⟨W,xs,v,rfl,rfl,hW6,by omega,?_⟩
     have kd6:Kd H6 (upd H6 W (.lst (xs++ [v]))):=Kd.upd hW6
     have hN6:=hN5.but n1 n2 b6
     refine ⟨hF6.wr ⟨w1,w2⟩,?_,xs++ [v],more++ [t],_,rfl,ac,?_,by rw [x3,hm5];rfl,fun u mu=> ?_⟩
     · obtain ⟨ns',e,r⟩:=hN6
       exact ⟨ns',(aG w3.symm).trans e,r⟩
     · rw [←y8]
       exact TrsAt.app (.cons (hv.mono kd6) .nil) (hT5.mono ((b6.kd hF5 hF6).trans kd6))
     · rcases xj.mp mu with mu|mu
       · exact hg5 u mu
       · rw [x8.mp mu]
         exact ⟨cc,hx⟩
   · rintro σ H5 ⟨hF5,hN5,xs,more,v4,rfl,hW5,hT5,hm5,hg5⟩
     exact hnx _ _ ⟨hF5,hN5,xs,more,v4,rfl,hW5,hT5,by omega,hg5⟩
 rintro σ4 H4 ⟨hF4,hN4,xs,more,v4,rfl,hW4,hT4,hm4,hg4⟩
 refine c8 (fun σ' H'=>∃(xs:List V) (ts:List Tr) (v4 v5:Option V),σ'= [some (.ref a),some (.ref f),some (.ref nl),some (.ref W),v4,v5,none,none,none,none,none,none,none,none]∧H' W=some (.lst xs)∧TrsAt H' xs ts∧Gl9 ts) ?_ fun nx hnx=> ?_
 rotate_left
 · obtain ⟨gb,g45,g3⟩:=t6 hx0 hm4 hg4
   refine ⟨_,rfl,f,c,3,rfl,hF4,by decide,aV (by decide) (by decide),fun r H5 r0 r1 hF5 kp5=> ?_⟩
   have hW5:=(kp5 W w1 w2).trans hW4
   have hT5:=hT4.mono ((But.of_keep kp5).kd hF4 hF5)
   refine ⟨rfl,_,rfl,?_⟩
   refine ite2 (fun _=> ?_) (fun _=>hnx _ _ ⟨xs,_,_,_,rfl,hW5,hT5,gb⟩)
   obtain ⟨x0,xr,rfl,hx0',hxr⟩:=hT5.inv
   have xl:=hT5.len
   refine ⟨_,rfl,W,_,0,x0,rfl,rfl,SqL.of hW5,bf (j:=0) rfl,x0,t0,c0,3,rfl,hx0',hx0.wy (x9 3),by decide,by decide,fun L H6 ws nL s6 hL6 hws=> ?_⟩
   have hW6:=s6 _ _ hW5
   have hF6:=hF5.same s6
   have hT6:=hT5.mono (Kd.of_same s6)
   have Lf:=hF5.ne nL
   have LW:L≠W:=fun z=>by rw [z,hW5] at nL;cases nL
   have wl:=hws.len
   have h64:(allN 3 t0).length≤64:=xI (cu (hx0.wy (x9 3))) (by decide)
   have hpos:0 < (allN 3 t0).length:=List.length_pos_of_mem (ky 3 t0)
   refine ⟨_,rfl, .inl ⟨rfl,_,SqL.of hW6⟩,_,rfl,_,rfl,W,_,rfl, .inl (SqL.of hW6),_,_,rfl,rfl,f,c,_,rfl,hF6,by omega,aV (by omega) (by omega),fun r7 H7 r70 r71 hF7 kp7=> ?_⟩
   have hW7:=(kp7 W w1 w2).trans hW6
   have hL7:=(kp7 L Lf.1 Lf.2).trans hL6
   have kd7:=(But.of_keep kp7).kd hF6 hF7
   refine ⟨_,rfl,_,rfl,_,rfl,L,ws,rfl, .inl (SqL.of hL7),f,c,_,rfl,hF7,by omega,aV (by omega) (by omega),fun r8 H8 r80 r81 hF8 kp8=> ?_⟩
   have hW8:=(kp8 W w1 w2).trans hW7
   have hL8:=(kp8 L Lf.1 Lf.2).trans hL7
   have kd8:=kd7.trans ((But.of_keep kp8).kd hF7 hF8)
   obtain ⟨q,hq⟩:∃q:Nat,r8=(q:Int):=⟨r8.toNat,by omega⟩
   obtain ⟨i7,hi7⟩:∃q:Nat,r7=(q:Int):=⟨r7.toNat,by omega⟩
   subst hq hi7
   have hql:q < (allN 3 t0).length:=by omega
   obtain ⟨y,ey,hy⟩:=hws.get (i:=q) (t:=(allN 3 t0)[q]) (x4 hql)
   refine ⟨L,ws,_,y,rfl,rfl,SqL.of hL8,bf ey,W,_,i7,y,rfl,rfl,hW8,by omega,by omega,by omega,?_⟩
   refine hnx _ _ ⟨_,(t0::more).take i7++(allN 3 t0)[q]::(t0::more).drop i7,_,_,rfl,ac,?_,t5 i7 gb g45 g3 x5 (y6 hql)⟩
   have kd9:=kd8.trans (Kd.upd (ys:=(x0::xr).take i7++y::(x0::xr).drop i7) hW8)
   exact TrsAt.app (.cons (hy.mono kd9) (jv i7 (hT6.mono kd9))) (ju i7 (hT6.mono kd9))
 rintro σ5 H5 ⟨xs,ts,v4',v5,rfl,hW5,hT5,G⟩
 refine ⟨by show 0≤sizeLine;decide,fun l0 nl0=> ?_⟩
 have s0:Same H5 (upd H5 l0 (.lst [])):=af nl0
 have hl0:(upd H5 l0 (.lst [])) l0=some (.lst []):=ac
 have hW6:=s0 _ _ hW5
 have hT6:=hT5.mono (Kd.of_same s0)
 generalize upd H5 l0 (.lst [])=H6 at s0 hl0 hW6 hT6 ⊢
 refine e8 ?_
 dsimp only
 have xl:=hT6.len
 have h4:=G.len
 refine c8 (fun σ' H'=>Same H6 H'∧∃(la:Addr) (zs:List V) (u4 u5 u7 u8 u9 u10 u11:Option V),σ'= [some (.ref a),some (.ref f),some (.ref nl),some (.ref W),u4,u5,some (.ref la),u7,u8,u9,u10,u11,none,none]∧H' la=some (.lst zs)∧TrsAt H' zs (ts.flatMap atL)) ?_ fun nx hnx=> ?_
 rotate_left
 · refine ⟨_,rfl,W,rfl,⟨xs,SqL.of hW6⟩,?_⟩
   refine bh (xs:=xs) (fun i σ H'=>Same H6 H'∧∃(la:Addr) (zs:List V) (u4 u5 u7 u8 u9 u10 u11:Option V),σ= [some (.ref a),some (.ref f),some (.ref nl),some (.ref W),u4,u5,some (.ref la),u7,u8,u9,u10,u11,none,none]∧H' la=some (.lst zs)∧TrsAt H' zs ((ts.take i).flatMap atL))
    ⟨fun _ _ e=>e,l0,[],_,_,_,_,_,_,_,rfl,hl0, .nil⟩ (fun i σ H' _ p=>SqL.of (p.1 _ _ hW6)) ?_ ?_
   · rintro i x σ H7 ex ⟨s7,la,zs,u4,u5,u7,u8,u9,u10,u11,rfl,hla,hZ⟩
     obtain ⟨t,et,ht⟩:=hT6.get' ex
     have mt:=xa et
     obtain ⟨c,hw⟩:=G.wy t mt
     have ht7:=ht.mono (Kd.of_same s7)
     have hcnt:=G.cnt
     have hle:=cH ts atL (i+1)
     rw [aN et,x3] at hle
     have h64:(allN 3 t).length≤64:=xI (cu hw) (by decide)
     have zl:=hZ.len
     have twk:∀u∈allN 3 t,Ty .ws u∧u.depth≤16∧Pq9 u:=fun u m=>by
      obtain ⟨m',d,hm',hu,_⟩:=cA hw u m
      have:=lK hu.wx
      exact ⟨this.1,by omega,tY hu.wx⟩
     refine ⟨_,rfl,x,t,c,3,rfl,ht7,hw,by decide,by decide,fun L H8 ws nL s8 hL8 hws=> ?_⟩
     have wl:=hws.len
     refine e8 ?_
     dsimp only
     refine c8 (fun σ' H'=>Same H8 H'∧∃(lb:Addr) (zs:List V),σ'= [some (.ref a),some (.ref f),some (.ref nl),some (.ref W),u4,u5,some (.ref lb),some x,some (.ref L),u9,u10,u11,none,none]∧H' lb=some (.lst zs)∧TrsAt H' zs ((ts.take (i+1)).flatMap atL)) ?_ fun nx2 hnx2=> ?_
     rotate_left
     · refine ⟨_,rfl,?_⟩
       refine eK rfl ?_
       refine ⟨_,rfl,L,rfl,⟨ws,SqL.of hL8⟩,fun D nD=> ?_⟩
       refine dE (xs:=ws) (fun j acc H'=>Same H8 H'∧H' D=some (.lst acc)∧TrsAt H' acc (((allN 3 t).take j).filter isAt)) ⟨af nD,ac,by rw [yp];exact .nil⟩ (fun j acc H' p=>SqL.of (p.1 _ _ hL8)) ?_ ?_
       · rintro j y acc H' hj ey ⟨sH,hD,hA'⟩
         obtain ⟨u,eu,hu⟩:=hws.get' ey
         obtain ⟨m',d',_,hwu,_⟩:=cA hw u (xa eu)
         obtain ⟨kk,rr,rfl,ein⟩:=vA hwu.wx
         have hu':=hu.mono (Kd.of_same sH)
         obtain ⟨b,vs2,rfl,h1,h2⟩:=cj hu'
         refine ⟨_,rfl,b,_,0, .str kk,rfl,rfl,SqT.of h1,bf (j:=0) rfl,fun vT H9 s9 hT9=> ?_⟩
         obtain ⟨p,xs9,rfl,hp,hx9⟩:=at_t hT9
         refine ⟨p,xs9,flT, .str kk,rfl, .inr hp,hx9,bK,vz,trivial,_,rfl,?_⟩
         rw [ein]
         have al:=hA'.len
         have fl2:=yc isAt ((allN 3 t).take j)
         rw [xM] at fl2
         have hD9:=s9 _ _ hD
         have hu9:=hu'.mono (Kd.of_same s9)
         have hA9:=hA'.mono (Kd.of_same s9)
         cases ea:isAt (.tup (.str kk::rr)) with
         |true=>
          refine iteT ?_
          have kd:=Kd.upd (ys:=acc++ [.ref b]) hD9
          refine ⟨_,rfl,CompN.mk hj (by omega) hD9 ⟨aX nD (sH.trans s9),ac,?_⟩⟩
          rw [cn eu,ea]
          exact TrsAt.app (.cons (hu9.mono kd) .nil) (hA9.mono kd)
         |false=>
          refine iteF ?_
          refine CompS.mk hj ⟨sH.trans s9,hD9,?_⟩
          rw [cn eu,ea]
          simpa using hA9
       · rintro acc H' ⟨sH,hD,hA'⟩
         rw [wl,xH] at hA'
         have al:=hA'.len
         have a8:=s8 _ _ hla
         refine ⟨la,D,zs,acc,rfl,rfl,sH _ _ a8,hD,?_,fun p np=> ?_⟩
         · have:acc.length=(atL t).length:=al
           omega
         · refine hnx2 _ _ ⟨sH.trans (af np),p,_,rfl,ac,?_⟩
           rw [aN et]
           exact TrsAt.app (hA'.mono (Kd.of_same (af np))) (hZ.mono (Kd.of_same (s8.trans (sH.trans (af np)))))
     rintro σ9 H9 ⟨s9,lb,zs9,rfl,hlb,hZ9⟩
     have hL9:=s9 _ _ hL8
     have hws9:=hws.mono (Kd.of_same s9)
     have ht9:=ht7.mono (Kd.of_same (s8.trans s9))
     have s69:Same H6 H9:=s7.trans (s8.trans s9)
     refine c8 (fun σ' H'=>Same H9 H'∧∃(w9 w10 w11:Option V),σ'= [some (.ref a),some (.ref f),some (.ref nl),some (.ref W),u4,u5,some (.ref lb),some x,some (.ref L),w9,w10,w11,none,none]) ?_ fun nx3 hnx3=> ?_
     rotate_left
     · refine ⟨2,rfl,by decide,by decide,?_⟩
       refine cG (n:=2) (fun j σ H'=>Same H9 H'∧∃(w9 w10 w11:Option V),σ= [some (.ref a),some (.ref f),some (.ref nl),some (.ref W),u4,u5,some (.ref lb),some x,some (.ref L),w9,w10,w11,none,none]) ⟨fun _ _ e=>e,_,_,_,rfl⟩ ?_ ?_
       · rintro j σ G0 hj ⟨q0,w9,w10,w11,rfl⟩
         have htG:=ht9.mono (Kd.of_same q0)
         refine ⟨_,rfl,x,t,c,rfl,htG,hw,fun pa G1 ps npa q1 hpa hps=> ?_⟩
         refine ⟨_,rfl,x,t,c,rfl,htG.mono (Kd.of_same q1),hw,fun te G2 tes nte q2 hte htes=> ?_⟩
         have hwsG:=hws9.mono (Kd.of_same (q0.trans (q1.trans q2)))
         have hLG:=q2 _ _ (q1 _ _ (q0 _ _ hL9))
         refine ⟨_,rfl,_,rfl,L,ws,_, .ws,rfl,hLG,hwsG,fun u m=>⟨(twk u m).1,by have:=(twk u m).2.1;omega⟩,by omega,fun fi G3 fis nfi q3 hfi hfis=> ?_⟩
         have fsl:∀l:List Tr,(Fs.firsts ([]:List Tr) l).length≤l.length:=fun l=>by have:=Fs.firsts_len l [];simpa using this
         have mfs:∀u∈Fs.firsts [] (allN 3 t),u∈allN 3 t:=fun u m=>by
          rcases Fs.mem_fst.mp m with h|h
          · cases h
          · exact h
         refine ⟨_,_,rfl,gj (n:=29) (q3 _ _ (q2 _ _ hpa)) hfi (hps.mono (Kd.of_same (q2.trans q3))) hfis (by have:=fsl (allN 3 t);omega) (fun u m=>(twk u (mfs u m)).2.2) (fun u m=>by have:=(twk u (mfs u m)).2.1;omega),fun G4 q4=> ?_⟩
         refine ⟨true,rfl,?_⟩
         refine iteF ?_
         have hbig:=cP hw
         have tgn:∀u∈Fs.firsts [] ((allN 3 t).flatMap tA),Gn 3 u:=fun u m=>by
          rcases Fs.mem_fst.mp m with h|h
          · cases h
          · obtain ⟨y,my,mu⟩:=xA.mp h
            obtain ⟨m',d',_,hy,_⟩:=cA hw y my
            cases e:isAt y with
            |false=>rw [jy hy.wx e] at mu;cases mu
            |true=>
             obtain ⟨z,mz,mu⟩:=xA.mp mu
             exact (fY ((ny hy.wx e).toA.2 z mz) u mu).1
         refine ⟨_,rfl,_,rfl,x,t,c,rfl,htG.mono (Kd.of_same (q1.trans (q2.trans (q3.trans q4)))),hw,fun lt G5 lts nlt q5 hlt hlts=> ?_⟩
         refine ⟨_,_,rfl,gj (n:=29) (q5 _ _ (q4 _ _ (q3 _ _ hte))) hlt (htes.mono (Kd.of_same (q3.trans (q4.trans q5)))) hlts (by have:=fsl ((allN 3 t).flatMap tA);omega) (fun u m=>m8 (tgn u m).gm) (fun u m=>by have:=(tgn u m).dep;omega),fun G6 q6=> ?_⟩
         refine ⟨true,rfl,?_⟩
         refine iteF ?_
         have q26:Same G2 G6:=q3.trans (q4.trans (q5.trans q6))
         have hpa6:=q26 _ _ (q2 _ _ hpa)
         have hte6:=q26 _ _ hte
         have q06:Same H9 G6:=q0.trans (q1.trans (q2.trans q26))
         have npa9:H9 pa=none:=q0.free npa
         have nte9:H9 te=none:=(q0.trans q1).free nte
         have ne:te≠pa:=fun z=>by rw [z,hpa] at nte;cases nte
         refine ⟨_,rfl, .inl ⟨rfl,_,SqL.of hpa6⟩,pa,_,rfl,rfl,hpa6,?_⟩
         have hte7:(upd G6 pa (.lst [])) te=some (.lst tes):=(aG ne).trans hte6
         refine ⟨_,rfl, .inl ⟨rfl,_,SqL.of hte7⟩,te,_,rfl,rfl,hte7,?_⟩
         exact ⟨aX nte9 (aX npa9 q06),_,_,_,rfl⟩
       · rintro σ G0 ⟨q0,w9,w10,w11,rfl⟩
         exact hnx3 _ _ ⟨q0,_,_,_,rfl⟩
     rintro σ10 H10 ⟨s10,w9,w10,w11,rfl⟩
     have hL10:=s10 _ _ hL9
     refine ⟨_,rfl,x,t,c,3,rfl,ht9.mono (Kd.of_same s10),hw,by decide,by decide,fun H11 s11=> ?_⟩
     have hL11:=s11 _ _ hL10
     refine ⟨_,rfl,L,ws,rfl, .inl (SqL.of hL11), .int _, .int _,rfl, .inr (.inl ⟨_,rfl,by rw [wl]⟩),fun H12 s12=> ?_⟩
     refine ⟨true,rfl,?_⟩
     refine iteF ?_
     have sE:Same H9 H12:=s10.trans (s11.trans s12)
     exact ⟨s69.trans sE,lb,zs9,_,_,_,_,_,_,_,rfl,sE _ _ hlb,hZ9.mono (Kd.of_same sE)⟩
   · rintro σ H7 ⟨s7,la,zs,u4,u5,u7,u8,u9,u10,u11,rfl,hla,hZ⟩
     rw [xl,xH] at hZ
     exact hnx _ _ ⟨s7,la,zs,_,_,_,_,_,_,_,rfl,hla,hZ⟩
 rintro σ7 H7 ⟨s7,la,zs,u4,u5,u7,u8,u9,u10,u11,rfl,hla,hZ⟩
 have hW7:=s7 _ _ hW6
 have hT7:=hT6.mono (Kd.of_same s7)
 refine ⟨_,rfl,W,xs,rfl, .inl (SqL.of hW7),fun hd nhd=> ?_⟩
 have s8:Same H7 (upd H7 hd (.lst xs)):=af nhd
 have hh8:(upd H7 hd (.lst xs)) hd=some (.lst xs):=ac
 generalize upd H7 hd (.lst xs)=H8 at s8 hh8 ⊢
 have hT8:=hT7.mono (Kd.of_same s8)
 obtain ⟨U,hU,hUm⟩:=G.few
 have atm:∀t u,u∈atP t↔u∈atL t:=fun t u=>by rw [sQ];unfold atL;rw [xY]
 refine ⟨_,rfl,hd,xs,ts,U,rfl,hh8,hT8,G.wy,G.len,fun t mt u mu=>hUm t mt u ((atm t u).mp mu),hU,fun D9 ws9 us9 H9 nD9 s9 hD9 hT9 nd9 up9 mem9=> ?_⟩
 have wat:∀u∈ts.flatMap atL,Ty .ws u∧u.depth≤16∧Pq9 u∧(Dj.Kp u∧u.depth≤8∧∃zs,u= .tup zs)∧u∈U:=fun u m=>by
  obtain ⟨t,mt,mu⟩:=xA.mp m
  obtain ⟨c,hw⟩:=G.wy t mt
  obtain ⟨m1,m2⟩:=xY.mp mu
  obtain ⟨m',d,hm',hu,_⟩:=cA hw u m1
  have:=lK hu.wx
  exact ⟨this.1,by omega,tY hu.wx,vR hu.wx m2,hUm t mt u mu⟩
 have hla9:=s9 _ _ (s8 _ _ hla)
 have hZ9:=hZ.mono (Kd.of_same (s8.trans s9))
 refine ⟨_,rfl,_,rfl,la,zs,_,rfl,hla9,hZ9,G.cnt,fun t m=>(wat t m).2.2.2.1,fun S cs us nS hcs ndu memu lenu=> ?_⟩
 have s10:Same H9 (upd H9 S (sT w S cs)):=af nS
 have hS10:(upd H9 S (sT w S cs)) S=some (sT w S cs):=ac
 have hcs10:=hcs.mono (Kd.of_same s10)
 generalize upd H9 S (sT w S cs)=H10 at s10 hS10 hcs10 ⊢
 have watu:∀u∈us,Ty .ws u∧u.depth≤16∧Pq9 u∧(Dj.Kp u∧u.depth≤8∧∃zs,u= .tup zs)∧u∈U:=fun u m=>wat u ((memu u).mp m)
 have lenU:us.length≤U.length:=Fm.sub_len ndu fun u m=>(watu u m).2.2.2.2
 refine ⟨S,cs,us,rfl,hS10,hcs10,by omega,fun t m=>⟨ui (watu t m).1,dH (watu t m).1,by have:=(watu t m).2.1;omega⟩,fun t m u m'=>oq 40 (by have:=(watu t m).2.1;omega) (watu t m).1 (watu u m').1,fun D11 ws11 vs11 nD11 pm11 hT11 srt11=> ?_⟩
 have s11:Same H10 (upd H10 D11 (.lst ws11)):=af nD11
 have hD11:(upd H10 D11 (.lst ws11)) D11=some (.lst ws11):=ac
 have hT11':=hT11.mono (Kd.of_same s11)
 generalize upd H10 D11 (.lst ws11)=H11 at s11 hD11 hT11' ⊢
 have e9:us9=vs11:=by
  refine nF (fun t m=> ?_) nd9 (pm11.nodup_iff.mpr ndu) (fun t=> ?_) up9 srt11
  · obtain ⟨t',mt,mu⟩:=(mem9 t).mp m
    exact (wat t (xA.mpr ⟨t',mt,(atm t' t).mp mu⟩)).1
  · rw [mem9,pm11.mem_iff,memu,xA]
    exact ⟨fun ⟨x,m,h⟩=>⟨x,m,(atm x t).mp h⟩,fun ⟨x,m,h⟩=>⟨x,m,(atm x t).mpr h⟩⟩
 subst e9
 have w9:∀t∈us9,t∈us:=fun t m=>pm11.mem_iff.mp m
 have l9:=pm11.length_eq
 refine ⟨_,_,rfl,gj (n:=29) (s11 _ _ (s10 _ _ hD9)) hD11 (hT9.mono (Kd.of_same (s10.trans s11))) hT11' (by omega) (fun u m=>(watu u (w9 u m)).2.2.1) (fun u m=>by have:=(watu u (w9 u m)).2.1;omega),fun H12 s12=> ?_⟩
 refine ⟨true,rfl,iteT ?_⟩
 have sz:Same H8 H12:=s9.trans (s10.trans (s11.trans s12))
 have hh12:=sz _ _ hh8
 have hW12:=sz _ _ (s8 _ _ hW7)
 have hT12:=hT8.mono (Kd.of_same sz)
 have tyT:∀t∈ts,Ty .ws t∧t.depth≤16:=fun t m=>by
  obtain ⟨c,hw⟩:=G.wy t m
  have:=lK hw.wx
  exact ⟨this.1,by omega⟩
 refine ⟨_,rfl,_,rfl,hd,W,xs,xs,ts,ts,rfl,rfl,hh12,hW12,hT12,hT12, .inl (cY fun t m=>dH (tyT t m).1),xI (bc fun t m=>(tyT t m).2) (by decide),?_⟩
 rw [eqTs_refl ts]
 exact k _
end
end K09
namespace K09
open PySem L2 Mth Wd
theorem ex0 {n:Nat} (us:List Value) (hl:us.length=n+1):∃a vs,us=a::vs∧vs.length=n:=by
 cases us with
 |nil=>cases hl
 |cons a vs=>exact ⟨a,vs,rfl,Nat.succ.inj hl⟩
theorem ex1 (us:List Value) (hl:us.length=1):∃a,us= [a]:=by
 obtain ⟨a,vs,rfl,h⟩:=ex0 us hl
 exact ⟨a,by rw [List.eq_nil_of_length_eq_zero h]⟩
theorem ex2 (us:List Value) (hl:us.length=2):∃a b,us= [a,b]:=by
 obtain ⟨a,vs,rfl,h⟩:=ex0 us hl
 obtain ⟨b,rfl⟩:=ex1 vs h
 exact ⟨a,b,rfl⟩
theorem ex3 (us:List Value) (hl:us.length=3):∃a b c,us= [a,b,c]:=by
 obtain ⟨a,vs,rfl,h⟩:=ex0 us hl
 obtain ⟨b,c,rfl⟩:=ex2 vs h
 exact ⟨a,b,c,rfl⟩
theorem ex4 (us:List Value) (hl:us.length=4):∃a b c d,us= [a,b,c,d]:=by
 obtain ⟨a,vs,rfl,h⟩:=ex0 us hl
 obtain ⟨b,c,d,rfl⟩:=ex3 vs h
 exact ⟨a,b,c,d,rfl⟩
theorem all_mk {l:PySem.W.OpenLaw} {w:World} {K:PySem.W.Frag} {h:Heap} {mg:Str→Option Value} {fa:Addr} (X:K.In h) (G:h.Ns mainGlobals mg) (hfa:mg "law"=some (.ref fa))
 {fFG:Addr} {odFG anFG:Option Addr} {slFG:Array (Option Value)} {ocFG kVFG dcFG pmFG cdFG ctFG:Value}
 {fFT:Addr} {odFT anFT:Option Addr} {slFT:Array (Option Value)} {ocFT kVFT dcFT pmFT cdFT ctFT:Value}
 {fBR:Addr} {odBR anBR:Option Addr} {slBR:Array (Option Value)} {ocBR kVBR dcBR pmBR cdBR ctBR:Value}
 {fST:Addr} {odST anST:Option Addr} {slST:Array (Option Value)} {ocST kVST dcST pmST cdST ctST:Value}
 {fSW:Addr} {odSW anSW:Option Addr} {slSW:Array (Option Value)} {ocSW kVSW dcSW pmSW cdSW ctSW:Value}
 {fIN:Addr} {odIN anIN:Option Addr} {slIN:Array (Option Value)} {ocIN kVIN dcIN pmIN cdIN ctIN:Value}
 {fTS:Addr} {odTS anTS:Option Addr} {slTS:Array (Option Value)} {ocTS kVTS dcTS pmTS cdTS ctTS:Value}
 {fTR:Addr} {odTR anTR:Option Addr} {slTR:Array (Option Value)} {ocTR kVTR dcTR pmTR cdTR ctTR:Value}
 {fWN:Addr} {odWN anWN:Option Addr} {slWN:Array (Option Value)} {ocWN kVWN dcWN pmWN cdWN ctWN:Value}
 {fGA:Addr} {odGA anGA:Option Addr} {slGA:Array (Option Value)} {ocGA kVGA dcGA pmGA cdGA ctGA:Value}
 {fWR:Addr} {odWR anWR:Option Addr} {slWR:Array (Option Value)} {ocWR kVWR dcWR pmWR cdWR ctWR:Value}
 {fTO:Addr} {odTO anTO:Option Addr} {slTO:Array (Option Value)} {ocTO kVTO dcTO pmTO cdTO ctTO:Value}
 {fPO:Addr} {odPO anPO:Option Addr} {slPO:Array (Option Value)} {ocPO kVPO dcPO pmPO cdPO ctPO:Value}
 {fGP:Addr} {odGP anGP:Option Addr} {slGP:Array (Option Value)} {ocGP kVGP dcGP pmGP cdGP ctGP:Value}
 {fAI:Addr} {odAI anAI:Option Addr} {slAI:Array (Option Value)} {ocAI kVAI dcAI pmAI cdAI ctAI:Value}
 {fTI:Addr} {odTI anTI:Option Addr} {slTI:Array (Option Value)} {ocTI kVTI dcTI pmTI cdTI ctTI:Value}
 {fAO:Addr} {odAO anAO:Option Addr} {slAO:Array (Option Value)} {ocAO kVAO dcAO pmAO cdAO ctAO:Value}
 {fSZ:Addr} {odSZ anSZ:Option Addr} {slSZ:Array (Option Value)} {ocSZ kVSZ dcSZ pmSZ cdSZ ctSZ:Value}
 {fFE:Addr} {odFE anFE:Option Addr} {slFE:Array (Option Value)} {ocFE kVFE dcFE pmFE cdFE ctFE:Value}
 {fDR:Addr} {odDR anDR:Option Addr} {slDR:Array (Option Value)} {ocDR kVDR dcDR pmDR cdDR ctDR:Value}
 {fGR:Addr} {odGR anGR:Option Addr} {slGR:Array (Option Value)} {ocGR kVGR dcGR pmGR cdGR ctGR:Value}
 {fLO:Addr} {odLO anLO:Option Addr} {slLO:Array (Option Value)} {ocLO kVLO dcLO pmLO cdLO ctLO:Value}
 {fSH:Addr} {odSH anSH:Option Addr} {slSH:Array (Option Value)} {ocSH kVSH dcSH pmSH cdSH ctSH:Value}
 {fSM:Addr} {odSM anSM:Option Addr} {slSM:Array (Option Value)} {ocSM kVSM dcSM pmSM cdSM ctSM:Value}
 {fNM:Addr} {odNM anNM:Option Addr} {slNM:Array (Option Value)} {ocNM kVNM dcNM pmNM cdNM ctNM:Value}
 {fTE:Addr} {odTE anTE:Option Addr} {slTE:Array (Option Value)} {ocTE kVTE dcTE pmTE cdTE ctTE:Value}
 {fLS:Addr} {odLS anLS:Option Addr} {slLS:Array (Option Value)} {ocLS kVLS dcLS pmLS cdLS ctLS:Value}
 {fPA:Addr} {odPA anPA:Option Addr} {slPA:Array (Option Value)} {ocPA kVPA dcPA pmPA cdPA ctPA:Value}
 {fAT:Addr} {odAT anAT:Option Addr} {slAT:Array (Option Value)} {ocAT kVAT dcAT pmAT cdAT ctAT:Value}
 {fWI:Addr} {odWI anWI:Option Addr} {slWI:Array (Option Value)} {ocWI kVWI dcWI pmWI cdWI ctWI:Value}
 {fCO:Addr} {odCO anCO:Option Addr} {slCO:Array (Option Value)} {ocCO kVCO dcCO pmCO cdCO ctCO:Value}
 {fSO:Addr} {odSO anSO:Option Addr} {slSO:Array (Option Value)} {ocSO kVSO dcSO pmSO cdSO ctSO:Value}
 {fSA:Addr} {odSA anSA:Option Addr} {slSA:Array (Option Value)} {ocSA kVSA dcSA pmSA cdSA ctSA:Value}
 {fBL:Addr} {odBL anBL:Option Addr} {slBL:Array (Option Value)} {ocBL kVBL dcBL pmBL cdBL ctBL:Value}
 {fWK:Addr} {odWK anWK:Option Addr} {slWK:Array (Option Value)} {ocWK kVWK dcWK pmWK cdWK ctWK:Value}
 {fTW:Addr} {odTW anTW:Option Addr} {slTW:Array (Option Value)} {ocTW kVTW dcTW pmTW cdTW ctTW:Value}
 {fFS:Addr} {odFS anFS:Option Addr} {slFS:Array (Option Value)} {ocFS kVFS dcFS pmFS cdFS ctFS:Value}
 {fLT:Addr} {odLT anLT:Option Addr} {slLT:Array (Option Value)} {ocLT kVLT dcLT pmLT cdLT ctLT:Value}
 {fLA:Addr} {odLA anLA:Option Addr} {slLA:Array (Option Value)} {ocLA kVLA dcLA pmLA cdLA ctLA:Value}
 {tPI tPW u1 u2 u3 u4 u5:Tok} {FW:Addr} {eFW:Array DictEntry} {nFW:Nat}
 {tA1 tA2 tA3:Tok} {AK:Addr} {dAK:Option Addr} {nAK:Nat} {sAK:Array (Option Value)}
 (aFG:PySem.W.nsIn K mainGlobals "figures_of"=some (some (.ref fFG)))
 (lFG:K.lookup fFG=some ⟨ocFG,odFG, .func (PySem.W.fnOf "figures_of" "figures_of" (ax sFg) (av sFg) (ai sFg) .none kVFG dcFG pmFG anFG cdFG ctFG),slFG⟩)
 (cFG:PySem.W.codeIn K cdFG "figures_of"=true)
 (kFG:PySem.W.keepIn K (.ref fFG)=true)
 (aFT:PySem.W.nsIn K mainGlobals "fraction_text"=some (some (.ref fFT)))
 (lFT:K.lookup fFT=some ⟨ocFT,odFT, .func (PySem.W.fnOf "fraction_text" "fraction_text" (ax sFt) (av sFt) (ai sFt) .none kVFT dcFT pmFT anFT cdFT ctFT),slFT⟩)
 (cFT:PySem.W.codeIn K cdFT "fraction_text"=true)
 (kFT:PySem.W.keepIn K (.ref fFT)=true)
 (aBR:PySem.W.nsIn K mainGlobals "bracketed"=some (some (.ref fBR)))
 (lBR:K.lookup fBR=some ⟨ocBR,odBR, .func (PySem.W.fnOf "bracketed" "bracketed" (ax sBr) (av sBr) (ai sBr) .none kVBR dcBR pmBR anBR cdBR ctBR),slBR⟩)
 (cBR:PySem.W.codeIn K cdBR "bracketed"=true)
 (kBR:PySem.W.keepIn K (.ref fBR)=true)
 (aST:PySem.W.nsIn K mainGlobals "shown_term"=some (some (.ref fST)))
 (lST:K.lookup fST=some ⟨ocST,odST, .func (PySem.W.fnOf "shown_term" "shown_term" (ax sSt) (av sSt) (ai sSt) .none kVST dcST pmST anST cdST ctST),slST⟩)
 (cST:PySem.W.codeIn K cdST "shown_term"=true)
 (kST:PySem.W.keepIn K (.ref fST)=true)
 (aSW:PySem.W.nsIn K mainGlobals "shown_wish"=some (some (.ref fSW)))
 (lSW:K.lookup fSW=some ⟨ocSW,odSW, .func (PySem.W.fnOf "shown_wish" "shown_wish" (ax sSw) (av sSw) (ai sSw) .none kVSW dcSW pmSW anSW cdSW ctSW),slSW⟩)
 (cSW:PySem.W.codeIn K cdSW "shown_wish"=true)
 (kSW:PySem.W.keepIn K (.ref fSW)=true)
 (aIN:PySem.W.nsIn K mainGlobals "inner_texts"=some (some (.ref fIN)))
 (lIN:K.lookup fIN=some ⟨ocIN,odIN, .func (PySem.W.fnOf "inner_texts" "inner_texts" (ax sIn) (av sIn) (ai sIn) .none kVIN dcIN pmIN anIN cdIN ctIN),slIN⟩)
 (cIN:PySem.W.codeIn K cdIN "inner_texts"=true)
 (kIN:PySem.W.keepIn K (.ref fIN)=true)
 (aTS:PySem.W.nsIn K mainGlobals "sum_texts"=some (some (.ref fTS)))
 (lTS:K.lookup fTS=some ⟨ocTS,odTS, .func (PySem.W.fnOf "sum_texts" "sum_texts" (ax sTs) (av sTs) (ai sTs) .none kVTS dcTS pmTS anTS cdTS ctTS),slTS⟩)
 (cTS:PySem.W.codeIn K cdTS "sum_texts"=true)
 (kTS:PySem.W.keepIn K (.ref fTS)=true)
 (aTR:PySem.W.nsIn K mainGlobals "terms_right_in"=some (some (.ref fTR)))
 (lTR:K.lookup fTR=some ⟨ocTR,odTR, .func (PySem.W.fnOf "terms_right_in" "terms_right_in" (ax sTri) (av sTri) (ai sTri) .none kVTR dcTR pmTR anTR cdTR ctTR),slTR⟩)
 (cTR:PySem.W.codeIn K cdTR "terms_right_in"=true)
 (kTR:PySem.W.keepIn K (.ref fTR)=true)
 (aWN:PySem.W.nsIn K mainGlobals "within"=some (some (.ref fWN)))
 (lWN:K.lookup fWN=some ⟨ocWN,odWN, .func (PySem.W.fnOf "within" "within" (ax sWin) (av sWin) (ai sWin) .none kVWN dcWN pmWN anWN cdWN ctWN),slWN⟩)
 (cWN:PySem.W.codeIn K cdWN "within"=true)
 (kWN:PySem.W.keepIn K (.ref fWN)=true)
 (aGA:PySem.W.nsIn K mainGlobals "gather_terms"=some (some (.ref fGA)))
 (lGA:K.lookup fGA=some ⟨ocGA,odGA, .func (PySem.W.fnOf "gather_terms" "gather_terms" (ax sGat) (av sGat) (ai sGat) .none kVGA dcGA pmGA anGA cdGA ctGA),slGA⟩)
 (cGA:PySem.W.codeIn K cdGA "gather_terms"=true)
 (kGA:PySem.W.keepIn K (.ref fGA)=true)
 (aWR:PySem.W.nsIn K mainGlobals "wishes_right_in"=some (some (.ref fWR)))
 (lWR:K.lookup fWR=some ⟨ocWR,odWR, .func (PySem.W.fnOf "wishes_right_in" "wishes_right_in" (ax sWr) (av sWr) (ai sWr) .none kVWR dcWR pmWR anWR cdWR ctWR),slWR⟩)
 (cWR:PySem.W.codeIn K cdWR "wishes_right_in"=true)
 (kWR:PySem.W.keepIn K (.ref fWR)=true)
 (aTO:PySem.W.nsIn K mainGlobals "terms_of_atom"=some (some (.ref fTO)))
 (lTO:K.lookup fTO=some ⟨ocTO,odTO, .func (PySem.W.fnOf "terms_of_atom" "terms_of_atom" (ax sToa) (av sToa) (ai sToa) .none kVTO dcTO pmTO anTO cdTO ctTO),slTO⟩)
 (cTO:PySem.W.codeIn K cdTO "terms_of_atom"=true)
 (kTO:PySem.W.keepIn K (.ref fTO)=true)
 (aPO:PySem.W.nsIn K mainGlobals "parts_of"=some (some (.ref fPO)))
 (lPO:K.lookup fPO=some ⟨ocPO,odPO, .func (PySem.W.fnOf "parts_of" "parts_of" (ax sPo) (av sPo) (ai sPo) .none kVPO dcPO pmPO anPO cdPO ctPO),slPO⟩)
 (cPO:PySem.W.codeIn K cdPO "parts_of"=true)
 (kPO:PySem.W.keepIn K (.ref fPO)=true)
 (aGP:PySem.W.nsIn K mainGlobals "gather_parts"=some (some (.ref fGP)))
 (lGP:K.lookup fGP=some ⟨ocGP,odGP, .func (PySem.W.fnOf "gather_parts" "gather_parts" (ax sGp) (av sGp) (ai sGp) .none kVGP dcGP pmGP anGP cdGP ctGP),slGP⟩)
 (cGP:PySem.W.codeIn K cdGP "gather_parts"=true)
 (kGP:PySem.W.keepIn K (.ref fGP)=true)
 (aAI:PySem.W.nsIn K mainGlobals "atoms_in"=some (some (.ref fAI)))
 (lAI:K.lookup fAI=some ⟨ocAI,odAI, .func (PySem.W.fnOf "atoms_in" "atoms_in" (ax sAin) (av sAin) (ai sAin) .none kVAI dcAI pmAI anAI cdAI ctAI),slAI⟩)
 (cAI:PySem.W.codeIn K cdAI "atoms_in"=true)
 (kAI:PySem.W.keepIn K (.ref fAI)=true)
 (aTI:PySem.W.nsIn K mainGlobals "terms_in"=some (some (.ref fTI)))
 (lTI:K.lookup fTI=some ⟨ocTI,odTI, .func (PySem.W.fnOf "terms_in" "terms_in" (ax sTin) (av sTin) (ai sTin) .none kVTI dcTI pmTI anTI cdTI ctTI),slTI⟩)
 (cTI:PySem.W.codeIn K cdTI "terms_in"=true)
 (kTI:PySem.W.keepIn K (.ref fTI)=true)
 (aAO:PySem.W.nsIn K mainGlobals "atoms_of"=some (some (.ref fAO)))
 (lAO:K.lookup fAO=some ⟨ocAO,odAO, .func (PySem.W.fnOf "atoms_of" "atoms_of" (ax sAof) (av sAof) (ai sAof) .none kVAO dcAO pmAO anAO cdAO ctAO),slAO⟩)
 (cAO:PySem.W.codeIn K cdAO "atoms_of"=true)
 (kAO:PySem.W.keepIn K (.ref fAO)=true)
 (aSZ:PySem.W.nsIn K mainGlobals "size_of"=some (some (.ref fSZ)))
 (lSZ:K.lookup fSZ=some ⟨ocSZ,odSZ, .func (PySem.W.fnOf "size_of" "size_of" (ax sSiz) (av sSiz) (ai sSiz) .none kVSZ dcSZ pmSZ anSZ cdSZ ctSZ),slSZ⟩)
 (cSZ:PySem.W.codeIn K cdSZ "size_of"=true)
 (kSZ:PySem.W.keepIn K (.ref fSZ)=true)
 (aFE:PySem.W.nsIn K mainGlobals "_law_feed"=some (some (.ref fFE)))
 (lFE:K.lookup fFE=some ⟨ocFE,odFE, .func (PySem.W.fnOf "_law_feed" "_law_feed" (ax im) (av im) (ai im) .none kVFE dcFE pmFE anFE cdFE ctFE),slFE⟩)
 (cFE:PySem.W.codeIn K cdFE "_law_feed"=true)
 (kFE:PySem.W.keepIn K (.ref fFE)=true)
 (aDR:PySem.W.nsIn K mainGlobals "_law_draw"=some (some (.ref fDR)))
 (lDR:K.lookup fDR=some ⟨ocDR,odDR, .func (PySem.W.fnOf "_law_draw" "_law_draw" (ax cV) (av cV) (ai cV) .none kVDR dcDR pmDR anDR cdDR ctDR),slDR⟩)
 (cDR:PySem.W.codeIn K cdDR "_law_draw"=true)
 (kDR:PySem.W.keepIn K (.ref fDR)=true)
 (aGR:PySem.W.nsIn K mainGlobals "_law_great"=some (some (.ref fGR)))
 (lGR:K.lookup fGR=some ⟨ocGR,odGR, .func (PySem.W.fnOf "_law_great" "_law_great" (ax cU) (av cU) (ai cU) .none kVGR dcGR pmGR anGR cdGR ctGR),slGR⟩)
 (cGR:PySem.W.codeIn K cdGR "_law_great"=true)
 (kGR:PySem.W.keepIn K (.ref fGR)=true)
 (aLO:PySem.W.nsIn K mainGlobals "_law_lowest"=some (some (.ref fLO)))
 (lLO:K.lookup fLO=some ⟨ocLO,odLO, .func (PySem.W.fnOf "_law_lowest" "_law_lowest" (ax sLow) (av sLow) (ai sLow) .none kVLO dcLO pmLO anLO cdLO ctLO),slLO⟩)
 (cLO:PySem.W.codeIn K cdLO "_law_lowest"=true)
 (kLO:PySem.W.keepIn K (.ref fLO)=true)
 (aSH:PySem.W.nsIn K mainGlobals "_law_share"=some (some (.ref fSH)))
 (lSH:K.lookup fSH=some ⟨ocSH,odSH, .func (PySem.W.fnOf "_law_share" "_law_share" (ax eO) (av eO) (ai eO) .none kVSH dcSH pmSH anSH cdSH ctSH),slSH⟩)
 (cSH:PySem.W.codeIn K cdSH "_law_share"=true)
 (kSH:PySem.W.keepIn K (.ref fSH)=true)
 (aSM:PySem.W.nsIn K mainGlobals "_law_small"=some (some (.ref fSM)))
 (lSM:K.lookup fSM=some ⟨ocSM,odSM, .func (PySem.W.fnOf "_law_small" "_law_small" (ax eN) (av eN) (ai eN) .none kVSM dcSM pmSM anSM cdSM ctSM),slSM⟩)
 (cSM:PySem.W.codeIn K cdSM "_law_small"=true)
 (kSM:PySem.W.keepIn K (.ref fSM)=true)
 (aNM:PySem.W.nsIn K mainGlobals "_law_names"=some (some (.ref fNM)))
 (lNM:K.lookup fNM=some ⟨ocNM,odNM, .func (PySem.W.fnOf "_law_names" "_law_names" (ax eQ) (av eQ) (ai eQ) .none kVNM dcNM pmNM anNM cdNM ctNM),slNM⟩)
 (cNM:PySem.W.codeIn K cdNM "_law_names"=true)
 (kNM:PySem.W.keepIn K (.ref fNM)=true)
 (aTE:PySem.W.nsIn K mainGlobals "_law_term"=some (some (.ref fTE)))
 (lTE:K.lookup fTE=some ⟨ocTE,odTE, .func (PySem.W.fnOf "_law_term" "_law_term" (ax ii) (av ii) (ai ii) .none kVTE dcTE pmTE anTE cdTE ctTE),slTE⟩)
 (cTE:PySem.W.codeIn K cdTE "_law_term"=true)
 (kTE:PySem.W.keepIn K (.ref fTE)=true)
 (aLS:PySem.W.nsIn K mainGlobals "_law_sum"=some (some (.ref fLS)))
 (lLS:K.lookup fLS=some ⟨ocLS,odLS, .func (PySem.W.fnOf "_law_sum" "_law_sum" (ax ik) (av ik) (ai ik) .none kVLS dcLS pmLS anLS cdLS ctLS),slLS⟩)
 (cLS:PySem.W.codeIn K cdLS "_law_sum"=true)
 (kLS:PySem.W.keepIn K (.ref fLS)=true)
 (aPA:PySem.W.nsIn K mainGlobals "_law_pairs"=some (some (.ref fPA)))
 (lPA:K.lookup fPA=some ⟨ocPA,odPA, .func (PySem.W.fnOf "_law_pairs" "_law_pairs" (ax eP) (av eP) (ai eP) .none kVPA dcPA pmPA anPA cdPA ctPA),slPA⟩)
 (cPA:PySem.W.codeIn K cdPA "_law_pairs"=true)
 (kPA:PySem.W.keepIn K (.ref fPA)=true)
 (aAT:PySem.W.nsIn K mainGlobals "_law_atom"=some (some (.ref fAT)))
 (lAT:K.lookup fAT=some ⟨ocAT,odAT, .func (PySem.W.fnOf "_law_atom" "_law_atom" (ax io) (av io) (ai io) .none kVAT dcAT pmAT anAT cdAT ctAT),slAT⟩)
 (cAT:PySem.W.codeIn K cdAT "_law_atom"=true)
 (kAT:PySem.W.keepIn K (.ref fAT)=true)
 (aWI:PySem.W.nsIn K mainGlobals "_law_wish"=some (some (.ref fWI)))
 (lWI:K.lookup fWI=some ⟨ocWI,odWI, .func (PySem.W.fnOf "_law_wish" "_law_wish" (ax ig) (av ig) (ai ig) .none kVWI dcWI pmWI anWI cdWI ctWI),slWI⟩)
 (cWI:PySem.W.codeIn K cdWI "_law_wish"=true)
 (kWI:PySem.W.keepIn K (.ref fWI)=true)
 (aCO:PySem.W.nsIn K mainGlobals "_law_count"=some (some (.ref fCO)))
 (lCO:K.lookup fCO=some ⟨ocCO,odCO, .func (PySem.W.fnOf "_law_count" "_law_count" (ax eR) (av eR) (ai eR) .none kVCO dcCO pmCO anCO cdCO ctCO),slCO⟩)
 (cCO:PySem.W.codeIn K cdCO "_law_count"=true)
 (kCO:PySem.W.keepIn K (.ref fCO)=true)
 (aSO:PySem.W.nsIn K mainGlobals "_law_some_wish"=some (some (.ref fSO)))
 (lSO:K.lookup fSO=some ⟨ocSO,odSO, .func (PySem.W.fnOf "_law_some_wish" "_law_some_wish" (ax eM) (av eM) (ai eM) .none kVSO dcSO pmSO anSO cdSO ctSO),slSO⟩)
 (cSO:PySem.W.codeIn K cdSO "_law_some_wish"=true)
 (kSO:PySem.W.keepIn K (.ref fSO)=true)
 (aSA:PySem.W.nsIn K mainGlobals "_law_same"=some (some (.ref fSA)))
 (lSA:K.lookup fSA=some ⟨ocSA,odSA, .func (PySem.W.fnOf "_law_same" "_law_same" (ax ij) (av ij) (ai ij) .none kVSA dcSA pmSA anSA cdSA ctSA),slSA⟩)
 (cSA:PySem.W.codeIn K cdSA "_law_same"=true)
 (kSA:PySem.W.keepIn K (.ref fSA)=true)
 (aBL:PySem.W.nsIn K mainGlobals "_law_below"=some (some (.ref fBL)))
 (lBL:K.lookup fBL=some ⟨ocBL,odBL, .func (PySem.W.fnOf "_law_below" "_law_below" (ax sBlw) (av sBlw) (ai sBlw) .none kVBL dcBL pmBL anBL cdBL ctBL),slBL⟩)
 (cBL:PySem.W.codeIn K cdBL "_law_below"=true)
 (kBL:PySem.W.keepIn K (.ref fBL)=true)
 (aWK:PySem.W.nsIn K mainGlobals "_law_walk"=some (some (.ref fWK)))
 (lWK:K.lookup fWK=some ⟨ocWK,odWK, .func (PySem.W.fnOf "_law_walk" "_law_walk" (ax sWlk) (av sWlk) (ai sWlk) .none kVWK dcWK pmWK anWK cdWK ctWK),slWK⟩)
 (cWK:PySem.W.codeIn K cdWK "_law_walk"=true)
 (kWK:PySem.W.keepIn K (.ref fWK)=true)
 (aTW:PySem.W.nsIn K mainGlobals "_law_term_walk"=some (some (.ref fTW)))
 (lTW:K.lookup fTW=some ⟨ocTW,odTW, .func (PySem.W.fnOf "_law_term_walk" "_law_term_walk" (ax sTwk) (av sTwk) (ai sTwk) .none kVTW dcTW pmTW anTW cdTW ctTW),slTW⟩)
 (cTW:PySem.W.codeIn K cdTW "_law_term_walk"=true)
 (kTW:PySem.W.keepIn K (.ref fTW)=true)
 (aFS:PySem.W.nsIn K mainGlobals "_law_firsts"=some (some (.ref fFS)))
 (lFS:K.lookup fFS=some ⟨ocFS,odFS, .func (PySem.W.fnOf "_law_firsts" "_law_firsts" (ax sFst) (av sFst) (ai sFst) .none kVFS dcFS pmFS anFS cdFS ctFS),slFS⟩)
 (cFS:PySem.W.codeIn K cdFS "_law_firsts"=true)
 (kFS:PySem.W.keepIn K (.ref fFS)=true)
 (aLT:PySem.W.nsIn K mainGlobals "_law_terms"=some (some (.ref fLT)))
 (lLT:K.lookup fLT=some ⟨ocLT,odLT, .func (PySem.W.fnOf "_law_terms" "_law_terms" (ax eL) (av eL) (ai eL) .none kVLT dcLT pmLT anLT cdLT ctLT),slLT⟩)
 (cLT:PySem.W.codeIn K cdLT "_law_terms"=true)
 (kLT:PySem.W.keepIn K (.ref fLT)=true)
 (aLA:PySem.W.nsIn K mainGlobals "law"=some (some (.ref fLA)))
 (lLA:K.lookup fLA=some ⟨ocLA,odLA, .func (PySem.W.fnOf "law" "law" (ax sLaw) (av sLaw) (ai sLaw) .none kVLA dcLA pmLA anLA cdLA ctLA),slLA⟩)
 (cLA:PySem.W.codeIn K cdLA "law"=true)
 (kLA:PySem.W.keepIn K (.ref fLA)=true)
 (z_abs:PySem.W.nsIn K mainGlobals "abs"=some none)
 (z_len:PySem.W.nsIn K mainGlobals "len"=some none)
 (z_range:PySem.W.nsIn K mainGlobals "range"=some none)
 (z_isinstance:PySem.W.nsIn K mainGlobals "isinstance"=some none)
 (z_tuple:PySem.W.nsIn K mainGlobals "tuple"=some none)
 (z_int:PySem.W.nsIn K mainGlobals "int"=some none)
 (z_bool:PySem.W.nsIn K mainGlobals "bool"=some none)
 (z_list:PySem.W.nsIn K mainGlobals "list"=some none)
 (z_str:PySem.W.nsIn K mainGlobals "str"=some none)
 (z_all:PySem.W.nsIn K mainGlobals "all"=some none)
 (z_any:PySem.W.nsIn K mainGlobals "any"=some none)
 (z_sum:PySem.W.nsIn K mainGlobals "sum"=some none)
 (z_zip:PySem.W.nsIn K mainGlobals "zip"=some none)
 (z_sorted:PySem.W.nsIn K mainGlobals "sorted"=some none)
 (z_ValueError:PySem.W.nsIn K mainGlobals "ValueError"=some none)
 (z_enumerate:PySem.W.nsIn K mainGlobals "enumerate"=some none)
 (z_reversed:PySem.W.nsIn K mainGlobals "reversed"=some none)
 (aPI:PySem.W.nsIn K mainGlobals "PIECE"=some (some (.int 64 tPI)))
 (aPW:PySem.W.nsIn K mainGlobals "PIECE_WORTH"=some (some (.int ((PW:Nat):Int) tPW)))
 (aFW:PySem.W.nsIn K mainGlobals "FIRST_WORDS"=some (some (.ref FW)))
 (lFW:K.lookup FW=some ⟨.type "dict",none, .dict eFW nFW, #[]⟩)
 (w1:PySem.W.nsIn K FW "not"=some (some (.str "not" u1)))
 (w2:PySem.W.nsIn K FW "both"=some (some (.str "all" u2)))
 (w3:PySem.W.nsIn K FW "either"=some (some (.str "any" u3)))
 (w4:PySem.W.nsIn K FW "like"=some (some (.str "like" u4)))
 (w5:PySem.W.nsIn K FW "most"=some (some (.str "most" u5)))
 (kFW:PySem.W.KeysLit w.params eFW.toList)
 (aAK:PySem.W.nsIn K mainGlobals "ATOM_KINDS"=some (some (.ref AK)))
 (lAK:K.lookup AK=some ⟨.type "tuple",dAK, .seq #[.str "flag" tA1, .str "most" tA2, .str "like" tA3] nAK,sAK⟩)
 (z_set:PySem.W.nsIn K mainGlobals "set"=some none):
 ∃fd:FuncData,(∀(s:Shared) (v:Value),BindsTo s fd ⟨[v],[]⟩ [("_law_script",v)])∧∀base:Heap,K.In base→base.Ns mainGlobals mg→FnOk l.prog w K mg base CX0 61 fa fd ["_law_script"] (lS K):=by
 have e:=hfa.symm.trans (PySem.W.mg_of X G aLA)
 cases e
 have B:Blt mg:=⟨PySem.W.mg_none_of X G z_abs,PySem.W.mg_none_of X G z_len,PySem.W.mg_none_of X G z_range,PySem.W.mg_none_of X G z_isinstance,PySem.W.mg_none_of X G z_tuple,PySem.W.mg_none_of X G z_int,PySem.W.mg_none_of X G z_bool,PySem.W.mg_none_of X G z_list,PySem.W.mg_none_of X G z_str,PySem.W.mg_none_of X G z_all,PySem.W.mg_none_of X G z_any,PySem.W.mg_none_of X G z_sum,PySem.W.mg_none_of X G z_zip,PySem.W.mg_none_of X G z_sorted,PySem.W.mg_none_of X G z_ValueError,PySem.W.mg_none_of X G z_enumerate,PySem.W.mg_none_of X G z_reversed⟩
 have FFG:=aI (st:=sFg) lFG cFG kFG
 have bFG:=FFG.binds (ps:= ["number"]) fun _ _ _ _ _ _ us hl=>by obtain ⟨_,rfl⟩:=ex1 us hl;rfl
 have mFG:=PySem.W.mg_of X G aFG
 have FFT:=aI (st:=sFt) lFT cFT kFT
 have bFT:=FFT.binds (ps:= ["one"]) fun _ _ _ _ _ _ us hl=>by obtain ⟨_,rfl⟩:=ex1 us hl;rfl
 have mFT:=PySem.W.mg_of X G aFT
 have FBR:=aI (st:=sBr) lBR cBR kBR
 have bBR:=FBR.binds (ps:= ["words"]) fun _ _ _ _ _ _ us hl=>by obtain ⟨_,rfl⟩:=ex1 us hl;rfl
 have mBR:=PySem.W.mg_of X G aBR
 have FST:=aI (st:=sSt) lST cST kST
 have bST:=FST.binds (ps:= ["term"]) fun _ _ _ _ _ _ us hl=>by obtain ⟨_,rfl⟩:=ex1 us hl;rfl
 have mST:=PySem.W.mg_of X G aST
 have FSW:=aI (st:=sSw) lSW cSW kSW
 have bSW:=FSW.binds (ps:= ["wish"]) fun _ _ _ _ _ _ us hl=>by obtain ⟨_,rfl⟩:=ex1 us hl;rfl
 have mSW:=PySem.W.mg_of X G aSW
 have FIN:=aI (st:=sIn) lIN cIN kIN
 have bIN:=FIN.binds (ps:= ["wish"]) fun _ _ _ _ _ _ us hl=>by obtain ⟨_,rfl⟩:=ex1 us hl;rfl
 have mIN:=PySem.W.mg_of X G aIN
 have FTS:=aI (st:=sTs) lTS cTS kTS
 have bTS:=FTS.binds (ps:= ["pairs"]) fun _ _ _ _ _ _ us hl=>by obtain ⟨_,rfl⟩:=ex1 us hl;rfl
 have mTS:=PySem.W.mg_of X G aTS
 have FTR:=aI (st:=sTri) lTR cTR kTR
 have bTR:=FTR.binds (ps:= ["term"]) fun _ _ _ _ _ _ us hl=>by obtain ⟨_,rfl⟩:=ex1 us hl;rfl
 have mTR:=PySem.W.mg_of X G aTR
 have FWN:=aI (st:=sWin) lWN cWN kWN
 have bWN:=FWN.binds (ps:= ["term"]) fun _ _ _ _ _ _ us hl=>by obtain ⟨_,rfl⟩:=ex1 us hl;rfl
 have mWN:=PySem.W.mg_of X G aWN
 have FGA:=aI (st:=sGat) lGA cGA kGA
 have bGA:=FGA.binds (ps:= ["term","found"]) fun _ _ _ _ _ _ us hl=>by obtain ⟨_,_,rfl⟩:=ex2 us hl;rfl
 have mGA:=PySem.W.mg_of X G aGA
 have FWR:=aI (st:=sWr) lWR cWR kWR
 have bWR:=FWR.binds (ps:= ["wish"]) fun _ _ _ _ _ _ us hl=>by obtain ⟨_,rfl⟩:=ex1 us hl;rfl
 have mWR:=PySem.W.mg_of X G aWR
 have FTO:=aI (st:=sToa) lTO cTO kTO
 have bTO:=FTO.binds (ps:= ["atom"]) fun _ _ _ _ _ _ us hl=>by obtain ⟨_,rfl⟩:=ex1 us hl;rfl
 have mTO:=PySem.W.mg_of X G aTO
 have FPO:=aI (st:=sPo) lPO cPO kPO
 have bPO:=FPO.binds (ps:= ["wish"]) fun _ _ _ _ _ _ us hl=>by obtain ⟨_,rfl⟩:=ex1 us hl;rfl
 have mPO:=PySem.W.mg_of X G aPO
 have FGP:=aI (st:=sGp) lGP cGP kGP
 have bGP:=FGP.binds (ps:= ["wish","found"]) fun _ _ _ _ _ _ us hl=>by obtain ⟨_,_,rfl⟩:=ex2 us hl;rfl
 have mGP:=PySem.W.mg_of X G aGP
 have FAI:=aI (st:=sAin) lAI cAI kAI
 have bAI:=FAI.binds (ps:= ["wish"]) fun _ _ _ _ _ _ us hl=>by obtain ⟨_,rfl⟩:=ex1 us hl;rfl
 have mAI:=PySem.W.mg_of X G aAI
 have FTI:=aI (st:=sTin) lTI cTI kTI
 have bTI:=FTI.binds (ps:= ["wish"]) fun _ _ _ _ _ _ us hl=>by obtain ⟨_,rfl⟩:=ex1 us hl;rfl
 have mTI:=PySem.W.mg_of X G aTI
 have FAO:=aI (st:=sAof) lAO cAO kAO
 have bAO:=FAO.binds (ps:= ["wishes"]) fun _ _ _ _ _ _ us hl=>by obtain ⟨_,rfl⟩:=ex1 us hl;rfl
 have mAO:=PySem.W.mg_of X G aAO
 have FSZ:=aI (st:=sSiz) lSZ cSZ kSZ
 have bSZ:=FSZ.binds (ps:= ["wish"]) fun _ _ _ _ _ _ us hl=>by obtain ⟨_,rfl⟩:=ex1 us hl;rfl
 have mSZ:=PySem.W.mg_of X G aSZ
 have FFE:=aI (st:=im) lFE cFE kFE
 have bFE:=FFE.binds (ps:= ["_law_script"]) fun _ _ _ _ _ _ us hl=>by obtain ⟨_,rfl⟩:=ex1 us hl;rfl
 have mFE:=PySem.W.mg_of X G aFE
 have FDR:=aI (st:=cV) lDR cDR kDR
 have bDR:=FDR.binds (ps:= ["_law_feed_here","_law_many"]) fun _ _ _ _ _ _ us hl=>by obtain ⟨_,_,rfl⟩:=ex2 us hl;rfl
 have mDR:=PySem.W.mg_of X G aDR
 have FGR:=aI (st:=cU) lGR cGR kGR
 have bGR:=FGR.binds (ps:= ["_law_feed_here","_law_most"]) fun _ _ _ _ _ _ us hl=>by obtain ⟨_,_,rfl⟩:=ex2 us hl;rfl
 have mGR:=PySem.W.mg_of X G aGR
 have FLO:=aI (st:=sLow) lLO cLO kLO
 have bLO:=FLO.binds (ps:= ["_law_top","_law_bottom"]) fun _ _ _ _ _ _ us hl=>by obtain ⟨_,_,rfl⟩:=ex2 us hl;rfl
 have mLO:=PySem.W.mg_of X G aLO
 have FSH:=aI (st:=eO) lSH cSH kSH
 have bSH:=FSH.binds (ps:= ["_law_feed_here"]) fun _ _ _ _ _ _ us hl=>by obtain ⟨_,rfl⟩:=ex1 us hl;rfl
 have mSH:=PySem.W.mg_of X G aSH
 have FSM:=aI (st:=eN) lSM cSM kSM
 have bSM:=FSM.binds (ps:= ["_law_feed_here"]) fun _ _ _ _ _ _ us hl=>by obtain ⟨_,rfl⟩:=ex1 us hl;rfl
 have mSM:=PySem.W.mg_of X G aSM
 have FNM:=aI (st:=eQ) lNM cNM kNM
 have bNM:=FNM.binds (ps:= ["_law_feed_here"]) fun _ _ _ _ _ _ us hl=>by obtain ⟨_,rfl⟩:=ex1 us hl;rfl
 have mNM:=PySem.W.mg_of X G aNM
 have FTE:=aI (st:=ii) lTE cTE kTE
 have bTE:=FTE.binds (ps:= ["_law_feed_here","_law_names_here","_law_deep"]) fun _ _ _ _ _ _ us hl=>by obtain ⟨_,_,_,rfl⟩:=ex3 us hl;rfl
 have mTE:=PySem.W.mg_of X G aTE
 have FLS:=aI (st:=ik) lLS cLS kLS
 have bLS:=FLS.binds (ps:= ["_law_pairs_here"]) fun _ _ _ _ _ _ us hl=>by obtain ⟨_,rfl⟩:=ex1 us hl;rfl
 have mLS:=PySem.W.mg_of X G aLS
 have FPA:=aI (st:=eP) lPA cPA kPA
 have bPA:=FPA.binds (ps:= ["_law_feed_here","_law_names_here","_law_deep","_law_most"]) fun _ _ _ _ _ _ us hl=>by obtain ⟨_,_,_,_,rfl⟩:=ex4 us hl;rfl
 have mPA:=PySem.W.mg_of X G aPA
 have FAT:=aI (st:=io) lAT cAT kAT
 have bAT:=FAT.binds (ps:= ["_law_feed_here","_law_names_here"]) fun _ _ _ _ _ _ us hl=>by obtain ⟨_,_,rfl⟩:=ex2 us hl;rfl
 have mAT:=PySem.W.mg_of X G aAT
 have FWI:=aI (st:=ig) lWI cWI kWI
 have bWI:=FWI.binds (ps:= ["_law_feed_here","_law_names_here","_law_deep"]) fun _ _ _ _ _ _ us hl=>by obtain ⟨_,_,_,rfl⟩:=ex3 us hl;rfl
 have mWI:=PySem.W.mg_of X G aWI
 have FCO:=aI (st:=eR) lCO cCO kCO
 have bCO:=FCO.binds (ps:= ["_law_thing"]) fun _ _ _ _ _ _ us hl=>by obtain ⟨_,rfl⟩:=ex1 us hl;rfl
 have mCO:=PySem.W.mg_of X G aCO
 have FSO:=aI (st:=eM) lSO cSO kSO
 have bSO:=FSO.binds (ps:= ["_law_feed_here","_law_names_here","_law_deep"]) fun _ _ _ _ _ _ us hl=>by obtain ⟨_,_,_,rfl⟩:=ex3 us hl;rfl
 have mSO:=PySem.W.mg_of X G aSO
 have FSA:=aI (st:=ij) lSA cSA kSA
 have bSA:=FSA.binds (ps:= ["_law_found","_law_due"]) fun _ _ _ _ _ _ us hl=>by obtain ⟨_,_,rfl⟩:=ex2 us hl;rfl
 have mSA:=PySem.W.mg_of X G aSA
 have FBL:=aI (st:=sBlw) lBL cBL kBL
 have bBL:=FBL.binds (ps:= ["_law_wish_here"]) fun _ _ _ _ _ _ us hl=>by obtain ⟨_,rfl⟩:=ex1 us hl;rfl
 have mBL:=PySem.W.mg_of X G aBL
 have FWK:=aI (st:=sWlk) lWK cWK kWK
 have bWK:=FWK.binds (ps:= ["_law_wish_here"]) fun _ _ _ _ _ _ us hl=>by obtain ⟨_,rfl⟩:=ex1 us hl;rfl
 have mWK:=PySem.W.mg_of X G aWK
 have FTW:=aI (st:=sTwk) lTW cTW kTW
 have bTW:=FTW.binds (ps:= ["_law_term_here"]) fun _ _ _ _ _ _ us hl=>by obtain ⟨_,rfl⟩:=ex1 us hl;rfl
 have mTW:=PySem.W.mg_of X G aTW
 have FFS:=aI (st:=sFst) lFS cFS kFS
 have bFS:=FFS.binds (ps:= ["_law_things"]) fun _ _ _ _ _ _ us hl=>by obtain ⟨_,rfl⟩:=ex1 us hl;rfl
 have mFS:=PySem.W.mg_of X G aFS
 have FLT:=aI (st:=eL) lLT cLT kLT
 have bLT:=FLT.binds (ps:= ["_law_wish_here"]) fun _ _ _ _ _ _ us hl=>by obtain ⟨_,rfl⟩:=ex1 us hl;rfl
 have mLT:=PySem.W.mg_of X G aLT
 have FLA:=aI (st:=sLaw) lLA cLA kLA
 refine ⟨PySem.W.fnOf "law" "law" (ax sLaw) (av sLaw) (ai sLaw) .none kVLA dcLA pmLA anLA cdLA ctLA,fun s v=> .of_eq rfl,fun base _ _=> ?_⟩
 have mP:=PySem.W.mg_of X G aPI
 have mW:=PySem.W.mg_of X G aPW
 have mFW:=PySem.W.mg_of X G aFW
 have hFW:Tw.FwK w K FW:=⟨⟨_,_,lFW,kFW⟩,fun k k' h=>by
  rcases h with ⟨rfl,rfl⟩|⟨rfl,rfl⟩|⟨rfl,rfl⟩|⟨rfl,rfl⟩|⟨rfl,rfl⟩
  · exact ⟨_,w1⟩
  · exact ⟨_,w2⟩
  · exact ⟨_,w3⟩
  · exact ⟨_,w4⟩
  · exact ⟨_,w5⟩⟩
 have gFG:FnOk l.prog w K mg base CX0 1 fFG _ ["number"] spFg:=wM FFG B mP mW
 have gFT:FnOk l.prog w K mg base CX0 2 fFT _ ["one"] (spFt K):=wL FFT B gFG kFG bFG mFG
 have gBR:FnOk l.prog w K mg base CX0 1 fBR _ ["words"] (spBr K):=ud FBR
 have gST:FnOk l.prog w K mg base CX0 9 fST _ ["term"] (spSt 8):=wG FST bST mST FBR bBR mBR 8
 have gTS:FnOk l.prog w K mg base CX0 10 fTS _ ["pairs"] spTs:=wF FTS gST kST bST mST gFT kFT bFT mFT
 have gSW:FnOk l.prog w K mg base CX0 20 fSW _ ["wish"] (spSw 4):=uc FSW kSW bSW mSW FIN kIN bIN mIN gBR kBR bBR mBR gST kST bST mST gFT kFT bFT mFT gTS kTS bTS mTS mFW hFW 4
 have gDR:FnOk l.prog w K mg base CX0 1 fDR _ ["_law_feed_here","_law_many"] bZ:=de FDR B
 have gSM:FnOk l.prog w K mg base CX0 3 fSM _ ["_law_feed_here"] p4:=vb FSM FDR bDR mDR FGR bGR mGR FLO bLO mLO B
 have gSH:FnOk l.prog w K mg base CX0 3 fSH _ ["_law_feed_here"] p6:=vc FSH FDR bDR mDR FGR bGR mGR FLO bLO mLO B
 have gLO:FnOk l.prog w K mg base CX0 1 fLO _ ["_law_top","_law_bottom"] gh:=l8 FLO B
 have gTE:FnOk l.prog w K mg base CX0 4 fTE _ ["_law_feed_here","_law_names_here","_law_deep"] (iR 3):=sK FTE bTE mTE B FDR bDR mDR 3
 have gPA:FnOk l.prog w K mg base CX0 5 fPA _ ["_law_feed_here","_law_names_here","_law_deep","_law_most"] iT:=pZ FPA B gDR kDR bDR mDR gTE kTE bTE mTE gSM kSM bSM mSM
 have gLS:FnOk l.prog w K mg base CX0 3 fLS _ ["_law_pairs_here"] kU:=sL FLS B gLO kLO bLO mLO
 have gAT:FnOk l.prog w K mg base CX0 6 fAT _ ["_law_feed_here","_law_names_here"] iW:=sN FAT gTE kTE bTE mTE gSH kSH bSH mSH gLS kLS bLS mLS gPA kPA bPA mPA gDR kDR bDR mDR
 have gWI:FnOk l.prog w K mg base CX0 11 fWI _ ["_law_feed_here","_law_names_here","_law_deep"] (kR 4):=sJ FWI bWI mWI B gDR kDR bDR mDR gAT kAT bAT mAT 4
 have gCO:FnOk l.prog w K mg base CX0 18 fCO _ ["_law_thing"] (iV 17):=qe FCO bCO mCO B 17
 have gSO:FnOk l.prog w K mg base CX0 19 fSO _ ["_law_feed_here","_law_names_here","_law_deep"] iS:=pW FSO gWI kWI bWI mWI gCO kCO bCO mCO
 have mAK:=PySem.W.mg_of X G aAK
 have hAK:∀H:Hp,SqT K H AK aks:=fun H=> .inr ⟨_,_,_,lAK,rfl,rfl,(by show 3≤sizeLine;decide), .cons ⟨tA1,rfl⟩ (.cons ⟨tA2,rfl⟩ (.cons ⟨tA3,rfl⟩ .nil))⟩
 have gTR:FnOk l.prog w K mg base CX0 1 fTR _ ["term"] oX:=uR FTR B
 have gGA:FnOk l.prog w K mg base CX0 13 fGA _ ["term","found"] (p9 4):=uY FGA bGA mGA gTR kTR bTR mTR gST kST bST mST 4
 have gWN:FnOk l.prog w K mg base CX0 14 fWN _ ["term"] oV:=uP FWN gGA kGA bGA mGA B
 have gWR:FnOk l.prog w K mg base CX0 1 fWR _ ["wish"] spWr:=wE FWR B
 have gGP:FnOk l.prog w K mg base CX0 24 fGP _ ["wish","found"] (spGp 4):=wK FGP bGP mGP gWR kWR bWR mWR gSW kSW bSW mSW 4
 have gPO:FnOk l.prog w K mg base CX0 25 fPO _ ["wish"] spPo:=wI FPO gGP kGP bGP mGP B
 have gTO:FnOk l.prog w K mg base CX0 1 fTO _ ["atom"] oY:=uS FTO
 have gAI:FnOk l.prog w K mg base CX0 26 fAI _ ["wish"] lU:=v9 FAI gPO kPO bPO mPO mAK hAK
 have gTI:FnOk l.prog w K mg base CX0 27 fTI _ ["wish"] oZ:=uT FTI B gAI kAI bAI mAI gTO kTO bTO mTO gWN kWN bWN mWN gST kST bST mST
 have gAO:FnOk l.prog w K mg base CX0 60 fAO _ ["wishes"] pe:=v8 FAO B gAI kAI bAI mAI gSW kSW bSW mSW
 have gSZ:FnOk l.prog w K mg base CX0 5 fSZ _ ["wish"] (p5 4):=uV FSZ bSZ mSZ B gWR kWR bWR mWR 4
 have gSA:FnOk l.prog w K mg base CX0 31 fSA _ ["_law_found","_law_due"] (spSm 30):=wH FSA bSA mSA B 30
 have gBL:FnOk l.prog w K mg base CX0 1 fBL _ ["_law_wish_here"] pc:=v7 FBL B
 have gWK:FnOk l.prog w K mg base CX0 5 fWK _ ["_law_wish_here"] (lQ 4):=uO FWK bWK mWK gBL kBL bBL mBL 4
 have gTW:FnOk l.prog w K mg base CX0 5 fTW _ ["_law_term_here"] (oW 4):=uQ FTW bTW mTW 4
 have gFS:FnOk l.prog w K mg base CX0 1 fFS _ ["_law_things"] lT:=uZ FFS
 have gLT:FnOk l.prog w K mg base CX0 6 fLT _ ["_law_wish_here"] p8:=uW FLT gWK kWK bWK mWK gTW kTW bTW mTW gFS kFS bFS mFS
 exact uX FLA B (PySem.W.mg_none_of X G z_set) (sM FFE B) kFE bFE mFE (qc FNM B FDR bDR mDR) kNM bNM mNM gSO kSO bSO mSO gDR kDR bDR mDR gWK kWK bWK mWK gPO kPO bPO mPO gTI kTI bTI mTI gFS kFS bFS mFS gLT kLT bLT mLT gSA kSA bSA mSA gSZ kSZ bSZ mSZ gAO kAO bAO mAO
theorem walk {l:PySem.W.OpenLaw} {q:Program} {loose:List Str} {XP:(Str→Option Value)→Heap→Prop} {YP:World→Heap→Prop} {d:DefRec} {K:Params→PySem.W.Frag} (hn:l.most=some 63) (hdf:d.params.defaults= [])
 (hY:∀(w:World) (h:Heap),YP w h→(K w.params).In h)
 (F:∀(w:World) (mg:Str→Option Value) (fa:Addr) (h:Heap),(K w.params).In h→h.Ns mainGlobals mg→mg d.name=some (.ref fa)→
  ∃fd:FuncData,(∀(s:Shared) (u:Value),BindsTo s fd ⟨[u],[]⟩ [("_law_script",u)])∧∀base:Heap,(K w.params).In base→base.Ns mainGlobals mg→FnOk l.prog w (K w.params) mg base CX0 61 fa fd ["_law_script"] (lS (K w.params))):
 PySem.W.WalkO q loose XP YP l.row.toRowW d [] (fun f vs=>PySem.call f vs):=
 L2.walk_of (n:=63) (k:=61) (x:="_law_script") (CX:=fun _=>CX0) (sp:=fun w=>lS (K w.params)) hn (by decide) hdf ⟨rfl,by decide,by decide,rfl⟩ hY F (fun _ _ a ns hl _ hS=>⟨a,ns,rfl,hS,hl,fun _=>rfl⟩) fun _ _ _ _ _ z=>z
end K09
def PySem.W.Fast.tw18069438615559347900:Unit:=()
def PySem.W.Fast.tw1558167675320284208:Unit:=()
def PySem.W.Fast.tw14128603234145623873:Unit:=()
def PySem.W.Fast.tw17674864541958052445:Unit:=()
def PySem.W.Fast.tw5587135448266553748:Unit:=()
def PySem.W.Fast.tw17673332686786323407:Unit:=()
def PySem.W.Fast.tw13096892261355372790:Unit:=()
def PySem.W.Fast.tw16258241060635507138:Unit:=()
def PySem.W.Fast.tw16546316075021259973:Unit:=()
def PySem.W.Fast.tw13976992710251579025:Unit:=()
def PySem.W.Fast.tw6385747542437542653:Unit:=()
def PySem.W.Fast.tw9123912907757335377:Unit:=()
def PySem.W.Fast.tw10895862943061810992:Unit:=()
def PySem.W.Fast.tw8682253163353355488:Unit:=()
def PySem.W.Fast.tw2527700844570798172:Unit:=()
def PySem.W.Fast.tw3963167368395094762:Unit:=()
def PySem.W.Fast.tw6237583043649447528:Unit:=()
def PySem.W.Fast.tw17861667543482195542:Unit:=()
def PySem.W.Fast.tw8010730858513326503:Unit:=()
def PySem.W.Fast.tw17634664917341427075:Unit:=()
def PySem.W.Fast.tw11726975809925072337:Unit:=()
def PySem.W.Fast.tw12009639354530093018:Unit:=()
def PySem.W.Fast.tw7387576017951691089:Unit:=()
def PySem.W.Fast.tw16235400178329018301:Unit:=()
def PySem.W.Fast.tw1427416191511334216:Unit:=()
def PySem.W.Fast.tw2086125566730128882:Unit:=()
def PySem.W.Fast.tw3218512769925290040:Unit:=()
def PySem.W.Fast.tw10738544776323150289:Unit:=()
def PySem.W.Fast.tw4456183274442327281:Unit:=()
def PySem.W.Fast.tw5369377743224168652:Unit:=()
def PySem.W.Fast.tw7760769689967144338:Unit:=()
def PySem.W.Fast.tw8815356282888980176:Unit:=()
def PySem.W.Fast.tw5624492815236866514:Unit:=()
def PySem.W.Fast.tw16292180628234313780:Unit:=()
def PySem.W.Fast.tw4454982884021041491:Unit:=()
def PySem.W.Fast.tw9036921530342709602:Unit:=()
open PySem PySem.W PyProof.Rows
set_option maxRecDepth 100000 in
set_option maxHeartbeats 0 in
theorem PySem.Challenge.cw_smallword_k09_parts_terms_atoms_holds : PySem.Challenge.rw_smallword_k09_parts_terms_atoms.Holds := by
  w_on; o_law; k_head; (case hw => w_witness2)
  k_fill
  refine K09.walk (l := PySem.Challenge.rw_smallword_k09_parts_terms_atoms) rfl rfl (fun w h Y => PySem.W.kIn_of Y) ?F
  case F =>
    intro w mg fa h KX G hmg
    refine' K09.all_mk KX G hmg ?aFG ?lFG ?cFG ?kFG ?aFT ?lFT ?cFT ?kFT ?aBR ?lBR ?cBR ?kBR ?aST ?lST ?cST ?kST ?aSW ?lSW ?cSW ?kSW ?aIN ?lIN ?cIN ?kIN ?aTS ?lTS ?cTS ?kTS ?aTR ?lTR ?cTR ?kTR ?aWN ?lWN ?cWN ?kWN ?aGA ?lGA ?cGA ?kGA ?aWR ?lWR ?cWR ?kWR ?aTO ?lTO ?cTO ?kTO ?aPO ?lPO ?cPO ?kPO ?aGP ?lGP ?cGP ?kGP ?aAI ?lAI ?cAI ?kAI ?aTI ?lTI ?cTI ?kTI ?aAO ?lAO ?cAO ?kAO ?aSZ ?lSZ ?cSZ ?kSZ ?aFE ?lFE ?cFE ?kFE ?aDR ?lDR ?cDR ?kDR ?aGR ?lGR ?cGR ?kGR ?aLO ?lLO ?cLO ?kLO ?aSH ?lSH ?cSH ?kSH ?aSM ?lSM ?cSM ?kSM ?aNM ?lNM ?cNM ?kNM ?aTE ?lTE ?cTE ?kTE ?aLS ?lLS ?cLS ?kLS ?aPA ?lPA ?cPA ?kPA ?aAT ?lAT ?cAT ?kAT ?aWI ?lWI ?cWI ?kWI ?aCO ?lCO ?cCO ?kCO ?aSO ?lSO ?cSO ?kSO ?aSA ?lSA ?cSA ?kSA ?aBL ?lBL ?cBL ?kBL ?aWK ?lWK ?cWK ?kWK ?aTW ?lTW ?cTW ?kTW ?aFS ?lFS ?cFS ?kFS ?aLT ?lLT ?cLT ?kLT ?aLA ?lLA ?cLA ?kLA ?z_abs ?z_len ?z_range ?z_isinstance ?z_tuple ?z_int ?z_bool ?z_list ?z_str ?z_all ?z_any ?z_sum ?z_zip ?z_sorted ?z_ValueError ?z_enumerate ?z_reversed ?aPI ?aPW ?aFW ?lFW ?w1 ?w2 ?w3 ?w4 ?w5 ?kFW ?aAK ?lAK ?z_set
    (case aFG => k_is); (case lFG => k_is); (case cFG => k_is); (case kFG => k_is); (case aFT => k_is); (case lFT => k_is); (case cFT => k_is); (case kFT => k_is)
    (case aBR => k_is); (case lBR => k_is); (case cBR => k_is); (case kBR => k_is); (case aST => k_is); (case lST => k_is); (case cST => k_is); (case kST => k_is)
    (case aSW => k_is); (case lSW => k_is); (case cSW => k_is); (case kSW => k_is); (case aIN => k_is); (case lIN => k_is); (case cIN => k_is); (case kIN => k_is)
    (case aTS => k_is); (case lTS => k_is); (case cTS => k_is); (case kTS => k_is); (case aTR => k_is); (case lTR => k_is); (case cTR => k_is); (case kTR => k_is)
    (case aWN => k_is); (case lWN => k_is); (case cWN => k_is); (case kWN => k_is); (case aGA => k_is); (case lGA => k_is); (case cGA => k_is); (case kGA => k_is)
    (case aWR => k_is); (case lWR => k_is); (case cWR => k_is); (case kWR => k_is); (case aTO => k_is); (case lTO => k_is); (case cTO => k_is); (case kTO => k_is)
    (case aPO => k_is); (case lPO => k_is); (case cPO => k_is); (case kPO => k_is); (case aGP => k_is); (case lGP => k_is); (case cGP => k_is); (case kGP => k_is)
    (case aAI => k_is); (case lAI => k_is); (case cAI => k_is); (case kAI => k_is); (case aTI => k_is); (case lTI => k_is); (case cTI => k_is); (case kTI => k_is)
    (case aAO => k_is); (case lAO => k_is); (case cAO => k_is); (case kAO => k_is); (case aSZ => k_is); (case lSZ => k_is); (case cSZ => k_is); (case kSZ => k_is)
    (case aFE => k_is); (case lFE => k_is); (case cFE => k_is); (case kFE => k_is); (case aDR => k_is); (case lDR => k_is); (case cDR => k_is); (case kDR => k_is)
    (case aGR => k_is); (case lGR => k_is); (case cGR => k_is); (case kGR => k_is); (case aLO => k_is); (case lLO => k_is); (case cLO => k_is); (case kLO => k_is)
    (case aSH => k_is); (case lSH => k_is); (case cSH => k_is); (case kSH => k_is); (case aSM => k_is); (case lSM => k_is); (case cSM => k_is); (case kSM => k_is)
    (case aNM => k_is); (case lNM => k_is); (case cNM => k_is); (case kNM => k_is); (case aTE => k_is); (case lTE => k_is); (case cTE => k_is); (case kTE => k_is)
    (case aLS => k_is); (case lLS => k_is); (case cLS => k_is); (case kLS => k_is); (case aPA => k_is); (case lPA => k_is); (case cPA => k_is); (case kPA => k_is)
    (case aAT => k_is); (case lAT => k_is); (case cAT => k_is); (case kAT => k_is); (case aWI => k_is); (case lWI => k_is); (case cWI => k_is); (case kWI => k_is)
    (case aCO => k_is); (case lCO => k_is); (case cCO => k_is); (case kCO => k_is); (case aSO => k_is); (case lSO => k_is); (case cSO => k_is); (case kSO => k_is)
    (case aSA => k_is); (case lSA => k_is); (case cSA => k_is); (case kSA => k_is); (case aBL => k_is); (case lBL => k_is); (case cBL => k_is); (case kBL => k_is)
    (case aWK => k_is); (case lWK => k_is); (case cWK => k_is); (case kWK => k_is); (case aTW => k_is); (case lTW => k_is); (case cTW => k_is); (case kTW => k_is)
    (case aFS => k_is); (case lFS => k_is); (case cFS => k_is); (case kFS => k_is); (case aLT => k_is); (case lLT => k_is); (case cLT => k_is); (case kLT => k_is)
    (case aLA => k_is); (case lLA => k_is); (case cLA => k_is); (case kLA => k_is); (case z_abs => k_is); (case z_len => k_is); (case z_range => k_is); (case z_isinstance => k_is)
    (case z_tuple => k_is); (case z_int => k_is); (case z_bool => k_is); (case z_list => k_is); (case z_str => k_is); (case z_all => k_is); (case z_any => k_is); (case z_sum => k_is)
    (case z_zip => k_is); (case z_sorted => k_is); (case z_ValueError => k_is); (case z_enumerate => k_is); (case z_reversed => k_is); (case aPI => k_is); (case aPW => k_is); (case aFW => k_is)
    (case lFW => k_is); (case w1 => k_is); (case w2 => k_is); (case w3 => k_is); (case w4 => k_is); (case w5 => k_is); (case kFW => k_keys); (case aAK => k_is)
    (case lAK => k_is); (case z_set => k_is)
