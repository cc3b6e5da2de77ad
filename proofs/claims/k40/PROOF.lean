import PyProof.Rows.All
import Wide.All
import OpenK.AllK
import Wide.FinOn
import Lean
import PyProof.EqAt
import PyProof.EqKinds
import PyProof.TupleCall
import KE.KSortTup
import PyProof.NeKinds
import KE.KIntText
import KE.KRevIter
import PyProof.Rows.Range3
import PyProof.StrLawsTight
import PyProof.DictRoadsH
import PyProof.ZipIter
import KE.LcSums
import KE.KListMore
import KE.KDictList
import KE.KDictLaws
import PyProof.WalksEnum
import PyProof.EnumMake
import PyProof.Rows.EnumRows
import PyProof.DictCompW
import PyProof.Rows.SortKeyStr
import PyProof.Rows.SortWalk
import KE.KMinKey
import PyProof.NsDelKeeps
import PyProof.RulesDel
import PyProof.RulesDelMore
import PyProof.DelItemList
import KE.KNestM
import KE.KLam
import KE.KItemsList
import PyProof.ListRange
import KE.KFind
import PyProof.Rows.SortLt
import PyProof.SeqI3
import PySem.Challenge.RW_smallword_k40_whole_never_both
set_option Elab.async false
set_option linter.all false
set_option maxRecDepth 100000
set_option maxHeartbeats 8000000
namespace Zz
theorem hZq {p:Prop} (h:∀q:Prop,q=p→q):p:=h p rfl
def yM:=@List.length_map
def yN:=@List.getElem?_eq_getElem
def yO:=@List.mem_cons_self
def yP:=@Nat.le_refl
def yQ:=@List.getElem?_map
def yR:=@List.mem_cons_of_mem
def yS:=@Option.map_eq_some_iff
def yT:=@List.mem_of_getElem?
def yU:=@List.size_toArray
def yV:=@List.mem_cons
def yW:=@List.getElem?_eq_some_iff
def yX:=@List.mem_append_right
def yY:=@Nat.le_trans
def yZ:=@Nat.ne_of_lt
def z4:=@List.map_append
def z5:=@List.mem_singleton
def z6:=@Nat.lt_of_le_of_lt
def z7:=@List.length_append
def z9:=@List.getD_eq_getElem?_getD
def za:=@List.length_cons
def zb:=@Option.some.inj
def zc:=@List.map_cons
def zd:=@Nat.lt_of_lt_of_le
def ze:=@List.mem_append
def zf:=@Nat.zero_le
def zg:=@List.take_length
def zh:=@List.length_take
def zj:=@Int.gcd_pos_of_ne_zero_right
def zk:=@Bool.false_ne_true
def zm:=@List.not_mem_nil
def zo:=@List.mem_map
def zp:=@List.length_filter_le
def zq:=@Array.length_toList
def zr:=@Int.natAbs_mul
def zv:=@List.cons_append
def zw:=@List.mem_append_left
def zx:=@Array.getElem?_toList
def zy:=@Nat.mul_le_mul_right
def zF:=@List.filter_append
def zG:=@List.take_zero
def zH:=@List.mem_range
def zI:=@Nat.lt_succ_of_lt
def zJ:=@List.length_range
def zK:=@List.mem_filter
def zL:=@List.lookup_cons
def zM:=@List.getElem_mem
def zN:=@Nat.pow_le_pow_right
def zO:=@List.range_succ
def zP:=@Nat.le_add_right
def zQ:=@Array.getElem?_eq_getElem
def zR:=@List.zip_cons_cons
def zS:=@List.getElem_of_mem
def zT:=@List.find?_cons
def zU:=@Int.mul_comm
def zV:=@Int.gcd_comm
def zW:=@Nat.lt_irrefl
def zX:=@Nat.mul_le_mul
def zY:=@List.mem_of_mem_take
def zZ:=@Int.toNat_natCast
def A0:=@Nat.add_le_add_left
def A3:=@List.toList_toArray
def A4:=@List.getElem?_append_right
def A5:=@Int.fdiv_eq_ediv_of_nonneg
def A6:=@Nat.lt_succ_self
def A7:=@Bool.and_eq_true
def A8:=@List.getElem?_eq_none
def A9:=@Int.natAbs_neg
def Aa:=@List.nodup_cons
def Ab:=@List.cons.injEq
def Ac:=@Bool.eq_iff_iff
def Ae:=@Int.gcd_dvd_right
def Af:=@Int.mul_assoc
def Ag:=@List.length_drop
def Ah:=@List.map_map
def Ai:=@Int.zero_mul
def Aj:=@Int.zero_add
def Ak:=@List.nil_append
def Al:=@Int.mul_left_comm
end Zz
open Zz
namespace L2
open PySem PySem.Spec PyProof.Rows
abbrev Key:=Sum Int Str
noncomputable def g9:Key→Value→Bool
 | .inl k,v=>Value.isInt k v
 | .inr x,v=>Value.isStrOf x v
noncomputable def keyH (w:World):Key→Int
 | .inl k=>hashInt k
 | .inr x=>hashStr w x
theorem aH:∀ {k:Key} {v:Value},g9 k v=true→(∃i t,k=Sum.inl i∧v=Value.int i t)∨(∃x t,k=Sum.inr x∧v=Value.str x t)
 | .inl i,v,h=>by
  obtain ⟨t,e⟩:=Value.isInt_shape (k:=i) (v:=v) h;exact .inl ⟨i,t,rfl,e⟩
 | .inr x,v,h=>by
  obtain ⟨t,e⟩:=Value.isStrOf_shape (x:=x) (v:=v) h;exact .inr ⟨x,t,rfl,e⟩
theorem iJ (i:Int) (t:Tok):g9 (.inl i) (.int i t)=true:=by simp [g9,Value.isInt]
theorem iH (x:Str) (t:Tok):g9 (.inr x) (.str x t)=true:=by simp [g9,Value.isStrOf]
theorem xj (a b:Int):decide ((Sum.inl a:Key)=Sum.inl b)=(a==b):=by
 by_cases e:a=b
 · subst e;simp
 · have h:¬(Sum.inl a:Key)=Sum.inl b:=fun q=>e (Sum.inl.inj q);rw [decide_eq_false h];exact (beq_eq_false_iff_ne.mpr e).symm
theorem xg (a b:Str):decide ((Sum.inr a:Key)=Sum.inr b)=decide (a=b):=by
 by_cases e:a=b
 · subst e;simp
 · have h:¬(Sum.inr a:Key)=Sum.inr b:=fun q=>e (Sum.inr.inj q);rw [decide_eq_false h,decide_eq_false e]
theorem xi (a:Int) (b:Str):decide ((Sum.inl a:Key)=Sum.inr b)=false:=decide_eq_false (fun q=>nomatch q)
theorem xh (a:Str) (b:Int):decide ((Sum.inr a:Key)=Sum.inl b)=false:=decide_eq_false (fun q=>nomatch q)
noncomputable def aM (prog:Program) (w:World):PySem.KeyKind prog w Key where
 is:=g9
 hash:=keyH w
 inj:=fun v a b ha hb=>by
  rcases aH ha with ⟨i,t,rfl,rfl⟩|⟨x,t,rfl,rfl⟩
  · rcases aH hb with ⟨j,u,rfl,e⟩|⟨y,u,rfl,e⟩
    · injection e with e1 _;rw [e1]
    · exact nomatch e
  · rcases aH hb with ⟨j,u,rfl,e⟩|⟨y,u,rfl,e⟩
    · exact nomatch e
    · injection e with e1 _;rw [e1]
 byValue:=fun k v h=>by
  rcases aH h with ⟨i,t,rfl,rfl⟩|⟨x,t,rfl,rfl⟩<;>rfl
 pyHash:=fun hv h=>by
  rcases aH hv with ⟨i,t,rfl,rfl⟩|⟨x,t,rfl,rfl⟩
  · exact wpAny_pyHash_int h
  · exact wpAny_pyHash_str h
 eqBool:=fun hu hv h=>by
  rcases aH hu with ⟨i,t,rfl,rfl⟩|⟨x,t,rfl,rfl⟩
  · rcases aH hv with ⟨j,u,rfl,rfl⟩|⟨y,u,rfl,rfl⟩
    · rw [xj] at h;exact wpAny_eqBool_int h
    · rw [xi] at h;exact SeqAt.EqAt.int_str i t y u _ _ _ _ h
  · rcases aH hv with ⟨j,u,rfl,rfl⟩|⟨y,u,rfl,rfl⟩
    · rw [xh] at h;exact SeqAt.EqAt.str_int x t j u _ _ _ _ h
    · rw [xg] at h;exact wpAny_eqBool_str h
 «strs»:=fun k x t v h=>by
  rcases aH h with ⟨i,u,rfl,e⟩|⟨y,u,rfl,e⟩
  · exact nomatch e
  · injection e with e1 _;subst e1;cases v<;>rfl
theorem jX (prog:Program) (w:World) (i:Int) (t:Tok):(aM prog w).is (.inl i) (.int i t)=true:=iJ i t
theorem jW (prog:Program) (w:World) (x:Str) (t:Tok):(aM prog w).is (.inr x) (.str x t)=true:=iH x t
open PySem PySem.Spec PyProof.Rows
inductive V where
 |non|bl (b:Bool)|int (i:Int)|str (x:Str)|byt (b:Array UInt8)|flt (b:UInt64)|ref (a:Addr)|ty (n:String)
 deriving DecidableEq
def RelV:V→Value→Prop
 | .non,u=>u=Value.none
 | .bl b,u=>u=Value.bool b
 | .int i,u=>∃t,u=Value.int i t
 | .str x,u=>∃t,u=Value.str x t
 | .byt b,u=>∃t,u=Value.bytes b t
 | .flt b,u=>∃t,u=Value.float b t
 | .ref a,u=>u=Value.ref a
 | .ty n,u=>u=Value.type n
abbrev Vals:List V→List Value→Prop:=Paired RelV
theorem Vals.length {xs:List V} {us:List Value} (r:Vals xs us):xs.length=us.length:=Paired.length r
theorem Vals.get:∀ {xs:List V} {us:List Value} {i:Nat} {x:V},Vals xs us→xs[i]?=some x→∃u,us[i]?=some u∧RelV x u
 |_,_,_,_, .nil,e=>by simp at e
 |_,_,0,_, .cons r _,e=>by simp at e;subst e;exact ⟨_,rfl,r⟩
 |_,_,i+1,x, .cons _ t,e=>by
  obtain ⟨u,h1,h2⟩:=Vals.get (i:=i) (x:=x) t (by simpa using e)
  exact ⟨u,by simpa using h1,h2⟩
theorem Vals.set {x:V} {u:Value} (r:RelV x u):∀ {xs:List V} {us:List Value} (i:Nat),Vals xs us→Vals (xs.set i x) (us.set i u)
 |_,_,_, .nil=> .nil
 |_,_,0, .cons _ t=> .cons r t
 |_,_,i+1, .cons q t=> .cons q (Vals.set r i t)
theorem Vals.append:∀ {xs ys:List V} {us ws:List Value},Vals xs us→Vals ys ws→Vals (xs++ys) (us++ws)
 |_,_,_,_, .nil,s=>s
 |_,_,_,_, .cons r t,s=> .cons r (Vals.append t s)
theorem Vals.take:∀ {xs:List V} {us:List Value} (n:Nat),Vals xs us→Vals (xs.take n) (us.take n)
 |_,_,0,_=> .nil
 |_,_,_+1, .nil=> .nil
 |_,_,n+1, .cons r t=> .cons r (Vals.take n t)
theorem Vals.drop:∀ {xs:List V} {us:List Value} (n:Nat),Vals xs us→Vals (xs.drop n) (us.drop n)
 |_,_,0,r=>r
 |_,_,_+1, .nil=> .nil
 |_,_,n+1, .cons _ t=>Vals.drop n t
def RelO:Option V→Option Value→Prop
 |some v,some u=>RelV v u
 |none,none=>True
 |_,_=>False
def KV {κ:Type}:List (κ×V)→List (κ×Value)→Prop:=Paired fun (p:κ×V) (q:κ×Value)=>p.1=q.1∧RelV p.2 q.2
noncomputable def kV:Key→V
 | .inl i=> .int i
 | .inr x=> .str x
inductive HO where
 |lst (xs:List V)
 |tup (xs:List V)
 |dK (kvs:List (Key×V))|dT (kvs:List (List Key×V))
 |set (S:Int→Bool) (n:Nat)
 |ins (C dx:Addr) (fs:List (Str×V))
 |own (x:Addr)
 |xd (fs:List (Str×V))
 |met (f x:Addr)
 |rng (lo hi:Int)
 |frz (o:Obj) (u:HO)
 |tbl (ps:Array Value)
 |ext (φ:Heap→Prop)
abbrev Hp:=Addr→Option HO
noncomputable def upd (H:Hp) (a:Addr) (o:HO):Hp:=fun b=>if b=a then some o else H b
theorem a8 {H:Hp} {a:Addr} {o:HO}:upd H a o a=some o:=by unfold upd;rw [if_pos rfl]
theorem af {H:Hp} {a b:Addr} {o:HO} (h:b≠a):upd H a o b=H b:=by unfold upd;rw [if_neg h]
theorem iX {H:Hp} {a:Addr} {o u:HO}:upd (upd H a o) a u=upd H a u:=by
 funext b;unfold upd;split<;>rfl
theorem aD {H:Hp} {a b:Addr} {o:HO} (h:H a=some o) (h':H b=none):a≠b:=by
 intro e;subst e;rw [h] at h';cases h'
section
variable (P:Program) (w:World)
def ObjOk (H:Hp) (h:Heap) (a:Addr):HO→Prop
 | .lst xs=>xs.length≤sizeLine∧∃(its:List Value) (n:Nat),Vals xs its∧h.get? a=some {cls:= .type "list",data:= .seq its.toArray n}
 | .tup xs=>xs.length≤sizeLine∧∃its:List Value,Vals xs its∧IsTup h a its.toArray
 | .dK kvs=>kvs.length≤sizeLine∧(a==sysModules)=false∧∃vs,KV kvs vs∧h.DictOf (aM P w) a vs
 | .dT kvs=>kvs.length≤sizeLine∧(a==sysModules)=false∧∃xs:List (List Key×Addr×Value),
  Paired (fun (p:List Key×V) (q:List Key×Addr×Value)=>p.1=q.1∧H q.2.1=some (.tup (p.1.map kV))∧RelV p.2 q.2.2) kvs xs∧
  ∃o es ep,h.get? a=some o∧o.ExactDict∧o.data= .dict es ep∧es.toList=xs.map (entryOfKey (tupleKind (aM P w)))∧(xs.map (·.1)).Nodup
 | .set S n=>h.SetOf (intKind P w) a S n
 | .ins C dx fs=>H dx=some (.own a)∧fs.length≤1000∧dx≠a∧h.get? a=some (PySem.W.instObj C dx)∧
  ∃mA,h.Ns1 dx mA∧(∀f,RelO (fs.lookup f) (mA f))∧PySem.Within mA (fs.map (·.1))
 | .own _=>∃o,h.get? a=some o
 | .xd fs=>∃mA,h.Ns1 a mA∧∀f,RelO (fs.lookup f) (mA f)
 | .rng lo hi=>∃t u v,h.get? a=some {cls:= .type "range",data:= .fields #[.int lo t, .int hi u, .int 1 v]}
 | .frz o u=>h.get? a=some o∧ObjOk H h a u
 | .tbl ps=>h.get? a=some {cls:= .none,data:= .fields ps}
 | .met f x=>h.get? a=some (PySem.W.methodObj (.ref f) (.ref x))
 | .ext φ=>φ h∧(∃o,h.get? a=some o)∧∀h1 h2:Heap,φ h1→(∀o,h1.get? a=some o→h2.get? a=some o)→φ h2
def HOk (H:Hp) (h:Heap):Prop:=∀a o,H a=some o→ObjOk P w H h a o
end
section
variable {P:Program} {w:World} {H H':Hp} {h h':Heap} {a:Addr} {o:HO}
theorem ObjOk.lt (x:ObjOk P w H h a o):a < h.objs.size:=by
 cases o with
 |lst xs=>obtain ⟨_,_,_,_,e⟩:=x;exact Heap.lt_size e
 |tup xs=>obtain ⟨_,_,_,p⟩:=x;exact p.lt
 |dK kvs=>obtain ⟨_,_,_,_,o,_,_,e,_⟩:=x;exact Heap.lt_size e
 |dT kvs=>obtain ⟨_,_,_,_,o,_,_,e,_⟩:=x;exact Heap.lt_size e
 |set S n=>obtain ⟨o,_,_,_,e,_⟩:=x;exact Heap.lt_size e
 |ins C dx fs=>obtain ⟨_,_,_,e,_⟩:=x;exact Heap.lt_size e
 |own y=>obtain ⟨_,e⟩:=x;exact Heap.lt_size e
 |xd fs=>obtain ⟨_,⟨_,_,_,e,_⟩,_⟩:=x;exact Heap.lt_size e
 |rng lo hi=>obtain ⟨_,_,_,e⟩:=x;exact Heap.lt_size e
 |frz ob u=>obtain ⟨e,_⟩:=x;exact Heap.lt_size e
 |tbl ps=>exact Heap.lt_size (show h.get? a=some _ from x)
 |met f y=>exact Heap.lt_size (show h.get? a=some _ from x)
 |ext φ=>obtain ⟨_,⟨_,e⟩,_⟩:=x;exact Heap.lt_size e
theorem Paired.mapP {α β:Type} {F G:α→β→Prop}:∀ {l₁:List α} {l₂:List β},Paired F l₁ l₂→(∀a b,F a b→G a b)→Paired G l₁ l₂
 |_,_, .nil,_=> .nil
 |_,_, .cons r t,f=> .cons (f _ _ r) (Paired.mapP t f)
theorem Paired.imp' {α β:Type} {F G:α→β→Prop} (f:∀a b,F a b→G a b) {l₁:List α} {l₂:List β} (r:Paired F l₁ l₂):Paired G l₁ l₂:=Paired.mapP r f
theorem ObjOk.stay (x:ObjOk P w H h a o) (k:∀b u,(b=a∨H b=some (.own a))→h.get? b=some u→h'.get? b=some u)
 (ho:∀b,H b=some (.own a)→H' b=some (.own a)) (ht:∀b xs,H b=some (.tup xs)→H' b=some (.tup xs)):ObjOk P w H' h' a o:=by
 induction o with
 |lst xs=>obtain ⟨z,its,n,r,e⟩:=x;exact ⟨z,its,n,r,k _ _ (.inl rfl) e⟩
 |tup xs=>obtain ⟨z,its,r,ob,e,c⟩:=x;exact ⟨z,its,r,ob,k _ _ (.inl rfl) e,c⟩
 |dK kvs=>obtain ⟨z,y,vs,r,ob,es,ep,e,c⟩:=x;exact ⟨z,y,vs,r,ob,es,ep,k _ _ (.inl rfl) e,c⟩
 |dT kvs=>
  obtain ⟨z,y,xs,r,ob,es,ep,e,c⟩:=x;exact ⟨z,y,xs,Paired.mapP r fun p q z=>⟨z.1,ht _ _ z.2.1,z.2.2⟩,ob,es,ep,k _ _ (.inl rfl) e,c⟩
 |set S n=>obtain ⟨ob,es,ep,t,e,c⟩:=x;exact ⟨ob,es,ep,t,k _ _ (.inl rfl) e,c⟩
 |ins C dx fs=>
  obtain ⟨d,z,ne,e,mA,⟨od,es,ep,e2,c⟩,r⟩:=x;exact ⟨ho _ d,z,ne,k _ _ (.inl rfl) e,mA,⟨od,es,ep,k _ _ (.inr d) e2,c⟩,r⟩
 |own y=>obtain ⟨ob,e⟩:=x;exact ⟨ob,k _ _ (.inl rfl) e⟩
 |xd fs=>obtain ⟨mA,⟨od,es,ep,e,c⟩,r⟩:=x;exact ⟨mA,⟨od,es,ep,k _ _ (.inl rfl) e,c⟩,r⟩
 |rng lo hi=>obtain ⟨t,u,v,e⟩:=x;exact ⟨t,u,v,k _ _ (.inl rfl) e⟩
 |frz ob u ih=>obtain ⟨e,q⟩:=x;exact ⟨k _ _ (.inl rfl) e,ih q⟩
 |tbl ps=>
  have e:h.get? a=some {cls:= .none,data:= .fields ps}:=x;show h'.get? a=some {cls:= .none,data:= .fields ps};exact k a _ (.inl rfl) e
 |met f y=>
  have e:h.get? a=some (PySem.W.methodObj (.ref f) (.ref y)):=x;show h'.get? a=some (PySem.W.methodObj (.ref f) (.ref y));exact k a _ (.inl rfl) e
 |ext φ=>obtain ⟨p,⟨o,e⟩,st⟩:=x;exact ⟨st _ _ p fun o q=>k _ _ (.inl rfl) q,⟨o,k _ _ (.inl rfl) e⟩,st⟩
theorem HOk.lt (x:HOk P w H h) (e:H a=some o):a < h.objs.size:=(x a o e).lt
theorem HOk.fresh (x:HOk P w H h) (e:h.objs.size≤a):H a=none:=by
 cases q:H a with
 |none=>rfl
 |some u=>exact absurd (zd (x.lt q) e) (zW _)
theorem HOk.kept (x:HOk P w H h) (k:∀b u,h.get? b=some u→h'.get? b=some u):HOk P w H h':=fun a o e=>
 (x a o e).stay (fun b u _ q=>k b u q) (fun _ q=>q) fun _ _ q=>q
theorem HOk.laid (x:HOk P w H h) (k:∀b u,h.get? b=some u→h'.get? b=some u) (hp:h.objs.size≤a) (new:ObjOk P w (upd H a o) h' a o):HOk P w (upd H a o) h':=fun b u e=>by
 have hn:=x.fresh hp;by_cases hb:b=a
 · subst hb;rw [a8] at e;cases e;exact new
 · rw [af hb] at e;exact (x b u e).stay (fun c v _ q=>k c v q) (fun c q=>by rw [af (aD q hn)];exact q) fun c xs q=>by rw [af (aD q hn)];exact q
end
def Rd (H:Hp) (a:Addr) (u:HO):Prop:=H a=some u∨∃o,H a=some (.frz o u)
theorem Rd.ok {P:Program} {w:World} {H:Hp} {h:Heap} {a:Addr} {u:HO} (r:Rd H a u) (x:HOk P w H h):ObjOk P w H h a u:=by
 rcases r with r|⟨o,r⟩
 · exact x a u r
 · obtain ⟨_,q⟩:=x a _ r;exact q
def Mut:Option HO→Prop
 |some (.lst _)=>True
 |some (.dK _)=>True
 |some (.dT _)=>True
 |some (.set _ _)=>True
 |some (.ins _ _ _)=>True
 |some (.ext _)=>True
 |_=>False
section
variable {P:Program} {w:World} {H:Hp} {h h':Heap} {x e:Addr} {o':HO}
theorem HOk.write (ok:HOk P w H h) (mu:Mut (H x)) (he:e=x∨H e=some (.own x)) (k:∀b u,b≠e→h.get? b=some u→h'.get? b=some u) (heo:∃u,h'.get? e=some u)
 (new:ObjOk P w (upd H x o') h' x o'):HOk P w (upd H x o') h':=fun b u q=>by
 have nown:∀c y,H c=some (.own y)→c≠x:=fun c y r z=>by subst z;rw [r] at mu;exact mu
 have ntup:∀c xs,H c=some (.tup xs)→c≠x:=fun c xs r z=>by subst z;rw [r] at mu;exact mu
 by_cases hb:b=x
 · subst hb;rw [a8] at q;cases q;exact new
 · rw [af hb] at q;by_cases hbe:b=e
   · have q':H b=some (.own x):=by
      rcases he with z|z
      · exact absurd (hbe.trans z) hb
      · rw [hbe];exact z
     rw [q] at q';cases q';obtain ⟨v,hv⟩:=heo;exact ⟨v,by rw [hbe];exact hv⟩
   · refine (ok b u q).stay (fun c v hc r=>k c v ?_ r) (fun c r=>by rw [af (nown c b r)];exact r) fun c xs r=>by rw [af (ntup c xs r)];exact r
     rcases hc with rfl|hc
     · exact hbe
     · rintro rfl;rcases he with z|z
       · exact nown c b hc z
       · rw [hc] at z;cases z;exact hb rfl
end
def Idl (x:Option HO):Prop:=x=none∨∃xs,x=some (.tup xs)
theorem Idl.no {x:Option HO} (h:x=none):Idl x:= .inl h
structure Un (fs ex:List Addr) (H H':Hp) (h h':Heap):Prop where
 keep:∀b o,h.get? b=some o→Idl (H b)→b∉fs→b∉ex→h'.get? b=some o
 slot:∀b o,h.get? b=some o→H b=none→b∈fs→b∉ex→∃sl,h'.get? b=some {o with slots:=sl}
 free:∀b o,h.get? b=some o→H b=none→b∉ex→H' b=none
 there:∀b o,h.get? b=some o→b∉ex→∃o',h'.get? b=some o'
 tups:∀b xs,H b=some (.tup xs)→H' b=some (.tup xs)
 frzs:∀b o u,H b=some (.frz o u)→H' b=some (.frz o u)
 tbls:∀b ps,H b=some (.tbl ps)→∃more,H' b=some (.tbl (ps++more))
section
variable {fs fs' ex ex':List Addr} {H H1 H2:Hp} {h h1 h2 h':Heap} {a x e:Addr} {o:HO}
theorem Un.any (u:Un fs ex H H1 h h1) {b:Addr} {ob:Obj} (q:h.get? b=some ob) (n:H b=none) (hx:b∉ex):∃sl,h1.get? b=some {ob with slots:=sl}:=by
 by_cases hb:b∈fs
 · exact u.slot b ob q n hb hx
 · exact ⟨ob.slots,u.keep b ob q (.inl n) hb hx⟩
theorem Un.idl (u:Un fs ex H H1 h h1) {b:Addr} {ob:Obj} (q:h.get? b=some ob) (n:Idl (H b)) (hx:b∉ex):Idl (H1 b):=by
 rcases n with n|⟨xs,n⟩
 · exact .inl (u.free b ob q n hx)
 · exact .inr ⟨xs,u.tups b xs n⟩
theorem Un.kept (k:∀b u,h.get? b=some u→h'.get? b=some u):Un fs ex H H h h':=
 ⟨fun b ob q _ _ _=>k b ob q,fun b ob q _ _ _=>⟨ob.slots,k b ob q⟩,fun _ _ _ n _=>n,fun b ob q _=>⟨ob,k b ob q⟩,fun _ _ q=>q,fun _ _ _ q=>q,fun _ ps q=>⟨#[],by rw [q];simp⟩⟩
theorem Un.refl:Un fs ex H H h h:=Un.kept fun _ _ q=>q
theorem Un.laid (k:∀b u,h.get? b=some u→h'.get? b=some u) (hp:h.objs.size≤a) (hn:H a=none):Un fs ex H (upd H a o) h h' where
 keep:=fun b u q _ _ _=>k b u q
 slot:=fun b u q _ _ _=>⟨u.slots,k b u q⟩
 free:=fun b u q n _=>by rw [af (yZ (zd (Heap.lt_size q) hp))];exact n
 there:=fun b u q _=>⟨u,k b u q⟩
 tups:=fun b xs q=>by rw [af (aD q hn)];exact q
 frzs:=fun b u xs q=>by rw [af (aD q hn)];exact q
 tbls:=fun b ps q=>⟨#[],by rw [af (aD q hn),q];simp⟩
theorem Un.write (mu:Mut (H x)) (he:e=x∨H e=some (.own x)) (k:∀b u,b≠e→h.get? b=some u→h'.get? b=some u) (heo:∃u,h'.get? e=some u):Un fs ex H (upd H x o) h h':=by
 have hx:∀b,H b=none→b≠x:=fun b n z=>by subst z;rw [n] at mu;exact mu
 have hb:∀b,H b=none→b≠e:=fun b n z=>by
  subst z;rcases he with r|r
  · exact hx b n r
  · rw [n] at r;cases r
 have hi:∀b,Idl (H b)→b≠e:=fun b n z=>by
  rcases n with n|⟨xs,n⟩
  · exact hb b n z
  · subst z;rcases he with r|r
    · subst r;rw [n] at mu;exact mu
    · rw [n] at r;cases r
 have hm:∀b u,H b=some u→¬Mut (some u)→b≠x:=fun b u q nm z=>by subst z;rw [q] at mu;exact nm mu
 refine ⟨fun b u q n _ _=>k b u (hi b n) q,fun b u q n _ _=>⟨u.slots,k b u (hb b n) q⟩,fun b u q n _=>by rw [af (hx b n)];exact n,fun b u q _=> ?_,
  fun b xs q=>by rw [af (hm b _ q fun z=>z)];exact q,fun b u xs q=>by rw [af (hm b _ q fun z=>z)];exact q,fun b ps q=>⟨#[],by rw [af (hm b _ q fun z=>z),q];simp⟩⟩
 by_cases hbe:b=e
 · subst hbe;exact heo
 · exact ⟨u,k b u hbe q⟩
end
noncomputable def trk (h:Heap) (H:Hp):List Addr:=(List.range h.objs.size).filter fun a=>(H a).isSome
noncomputable def hidT (h:Heap) (H:Hp):Heap:=PySem.W.hideAll h (trk h H)
theorem oR (h:Heap) (H:Hp):(hidT h H).objs.size=h.objs.size:=PySem.W.hideAll_size _ _
theorem sI {h:Heap} {H:Hp} {b:Addr} {o:Obj} (e:h.get? b=some o) (n:H b=none):(hidT h H).get? b=some o:=
 PySem.W.hideAll_get _ e fun hm=>by
  have q:(H b).isSome=true:=(zK.mp hm).2;rw [n] at q;simp at q
theorem nj {h:Heap} {H:Hp} {b:Addr} {o:Obj} (e:(hidT h H).get? b=some o):h.get? b=some o∧H b=none:=by
 have e':h.get? b=some o:=PySem.W.of_hideAll (trk h H) e;refine ⟨e',?_⟩
 cases q:H b with
 |none=>rfl
 |some x=>
  have hm:b∈trk h H:=zK.mpr ⟨zH.mpr (Heap.lt_size e'),by simp [q]⟩
  have z:(hidT h H).get? b=none:=PySem.W.hideAll_none (trk h H) hm;rw [z] at e;cases e
noncomputable def uQ (g h:Heap) (L:Addr):List (Addr×Obj):=(List.range h.objs.size).filterMap fun a=>if a=L∨(g.get? a).isSome=true then none else (h.get? a).map fun o=>(a,o)
noncomputable def rest (g h:Heap) (L d:Addr):List (Addr×Obj):=(uQ g h L).filter fun p=>decide (p.1≠d)
open PySem PySem.Spec PyProof.Rows
structure Mod (K:PySem.W.Frag) (mg:Str→Option Value) (base:Heap):Prop where
 kin:K.In base
 glob:base.Ns mainGlobals mg
 blt:∃mb,base.Ns builtinsNs mb∧∀x:Str,x≠"__name__"→mb x=bootBuiltins x
 nolimit:base.NoLimit
structure Cx where
 prog:Program
 w:World
 K:PySem.W.Frag
 mg:Str→Option Value
 base:Heap
 A:Around
 N:List Str
 s₀:Shared
 H₀:Hp
 env:Env
 outer:List Env
 stack:List Env
 ex:List Addr
 fn:Str→Bool
 calm:Bool
 pn:List (Addr×Obj)
 xe:Value→Shared→Prop
noncomputable def frs (l:List Env):List Addr:=l.filterMap (·.frame)
noncomputable abbrev Cx.fs (X:Cx):List Addr:=frs X.outer
def Vis (sc:Scope) (x:Str):Prop:=sc.names.lookup x=some .local∨sc.names.lookup x=some .cell∨sc.names.lookup x=some .free
noncomputable def visB (sc:Scope) (x:Str):Bool:=(sc.names.lookup x).any fun k=>match k with|.local=>true|.cell=>true|.free=>true|_=>false
theorem visB_ok {sc:Scope} {x:Str} (h:visB sc x=true):Vis sc x:=by
 unfold visB at h
 cases e:sc.names.lookup x with
 |none=>rw [e] at h;cases h
 |some k=>
  rw [e] at h
  cases k with
  |«local»=>exact .inl e
  |cell=>exact .inr (.inl e)
  |free=>exact .inr (.inr e)
  |_=>cases h
def Loc (sc:Scope) (x:Str):Prop:=sc.names.lookup x=some .local∨sc.names.lookup x=some .cell
def Look (env:Env) (h:Heap) (m:Str→Option Value) (x:Str) (u:Value):Prop:=
 (env.kindOf x=some .local∧m x=some u)∨((env.kindOf x=some .cell∨env.kindOf x=some .free)∧∃c,env.cells.lookup x=some c∧h.IsCell c (some u))
structure Cx.Ok (X:Cx):Prop where
 mod:Mod X.K X.mg X.base
 kind:X.env.scope.kind= .function
 glob:X.env.globals=mainGlobals
 blt:X.env.builtins=builtinsNs
 above:X.s₀.heap.objs.size≤X.env.locals
 inj:∀x y c,X.env.cells.lookup x=some c→X.env.cells.lookup y=some c→x=y
 has:∀x,(X.env.kindOf x=some .cell∨X.env.kindOf x=some .free)→∃c,X.env.cells.lookup x=some c
 cab:∀x c,X.fn x=true→X.env.cells.lookup x=some c→X.s₀.heap.objs.size≤c
 hd:X.calm=true→X.A.handled=none
 frames:X.A.frames=some X.stack
 stk:X.stack=X.outer∨(X.stack=X.env::X.outer∧X.env.frame=some X.env.locals)
 exf:∀b∈X.ex,b≠X.env.locals∧∀x c,X.env.cells.lookup x=some c→c≠b
 bs:∀b o,X.base.get? b=some o→X.s₀.heap.get? b=some o∧Idl (X.H₀ b)
 bsz:X.base.objs.size≤X.s₀.heap.objs.size
 noex:∀b o,X.base.get? b=some o→b∉X.ex
 exfs:∀b∈X.ex,b∉X.fs
 funs:X.s₀.heap.FunFrames X.base X.outer
 frf:∀b∈X.fs,X.H₀ b=none
structure Inv (X:Cx) (pins:List (Addr×Obj)) (σ:List (Option V)) (H:Hp) (s:Shared):Prop where
 ok:X.Ok
 os:s.os=X.s₀.os
 bare:AllBare s.gens
 base:Un X.fs X.ex X.H₀ H X.s₀.heap s.heap
 loc:∃m,s.heap.Ns X.env.locals m∧∀(i:Nat) (x:Str) (v:V),X.N[i]?=some x→σ[i]?=some (some v)→Vis X.env.scope x→∃u,RelV v u∧Look X.env s.heap m x u
 cell:∀x c,X.env.cells.lookup x=some c→∃v,s.heap.IsCell c v
 free:H X.env.locals=none
 freeC:∀x c,X.env.cells.lookup x=some c→H c=none
 pin:∀p∈X.pn++pins,s.heap.get? p.1=some p.2∧H p.1=none∧p.1≠X.env.locals∧p.1∉X.fs∧∀v,p.2.data≠ .cell v
 hok:HOk X.prog X.w H s.heap
 len:σ.length=X.N.length
section
variable {X:Cx} {pins:List (Addr×Obj)} {σ:List (Option V)} {H H':Hp} {s:Shared} {h':Heap}
theorem Cx.Ok.nofr (ok:X.Ok) {b:Addr} {o:Obj} (e:X.base.get? b=some o):b∉X.fs:=fun hb=>by
 have:=(ok.funs.mem hb).1;rw [e] at this;cases this
theorem Inv.bs (I:Inv X pins σ H s):∀b o,X.base.get? b=some o→s.heap.get? b=some o∧Idl (H b):=fun b o e=>
 ⟨I.base.keep b o (I.ok.bs b o e).1 (I.ok.bs b o e).2 (I.ok.nofr e) (I.ok.noex b o e),I.base.idl (I.ok.bs b o e).1 (I.ok.bs b o e).2 (I.ok.noex b o e)⟩
theorem Inv.bk (I:Inv X pins σ H s):∀b o,X.base.get? b=some o→s.heap.get? b=some o:=fun b o e=>(I.bs b o e).1
theorem Inv.mod (I:Inv X pins σ H s):Mod X.K X.mg X.base:=I.ok.mod
theorem Inv.kIn (I:Inv X pins σ H s):X.K.In s.heap:=I.ok.mod.kin.keeps I.bk
theorem Inv.nolimit (I:Inv X pins σ H s):s.heap.NoLimit:=I.ok.mod.nolimit.keeps I.bk
theorem Inv.fr (I:Inv X pins σ H s):∃m,Fr X.base X.env.locals s.heap m:=
 let ⟨m,hn,_⟩:=I.loc
 ⟨m,hn,I.bk,yY I.ok.bsz I.ok.above⟩
theorem Inv.lt (I:Inv X pins σ H s):X.env.locals < s.heap.objs.size:=let ⟨_,hn,_⟩:=I.loc;hn.lt
theorem Inv.sz (I:Inv X pins σ H s):X.s₀.heap.objs.size≤s.heap.objs.size:=yY I.ok.above (Nat.le_of_lt I.lt)
theorem Inv.nofs (I:Inv X pins σ H s) {a:Addr} (h:s.heap.objs.size≤a):a∉X.fs:=fun hb=>by
 obtain ⟨_,o,ho,_⟩:=I.ok.funs.mem hb;exact absurd (zd (Heap.lt_size ho) (yY I.sz h)) (zW _)
theorem Inv.cne (I:Inv X pins σ H s):∀x c,X.env.cells.lookup x=some c→c≠X.env.locals:=fun x c e z=>by
 obtain ⟨v,o,ho,hd⟩:=I.cell x c e;obtain ⟨m,⟨o',es,ep,ho',hd',_⟩,_⟩:=I.loc;rw [z,ho'] at ho;cases ho;rw [hd'] at hd;cases hd
theorem Inv.funs (I:Inv X pins σ H s):s.heap.FunFrames X.base X.outer:=by
 have all:∀(l:List Env),(∀b∈frs l,b∈X.fs)→X.s₀.heap.FunFrames X.base l→s.heap.FunFrames X.base l:=by
  intro l
  induction l with
  |nil=>intro _ _;trivial
  |cons env r ih=>
   intro hs hl;obtain ⟨hk,⟨L,o,hf,hn,ho,hd⟩,hr⟩:=hl;have hL:L∈X.fs:=hs L (by unfold frs;rw [List.filterMap_cons,hf];exact yO)
   obtain ⟨sl,e⟩:=I.base.slot L o ho (I.ok.frf L hL) hL fun z=>I.ok.exfs L z hL;exact ⟨hk,⟨L,_,hf,hn,e,hd⟩,ih (fun b hb=>hs b (by unfold frs;rw [List.filterMap_cons,hf];exact yR _ hb)) hr⟩
 exact all X.outer (fun _ hb=>hb) I.ok.funs
theorem Inv.stack (I:Inv X pins σ H s):s.heap.FunFrames X.base X.stack:=by
 rcases I.ok.stk with e|⟨e,hf⟩
 · rw [e];exact I.funs
 · rw [e];obtain ⟨m,hn,_⟩:=I.loc;refine .cons (by rw [I.ok.kind];decide) hf hn ?_ I.funs
   exact Heap.get?_none_of_le (yY I.ok.bsz I.ok.above)
theorem Inv.stkSub (I:Inv X pins σ H s):∀b∈frs X.stack,b∈X.env.locals::X.fs:=fun b hb=>by
 rcases I.ok.stk with e|⟨e,hf⟩
 · rw [e] at hb;exact yR _ hb
 · rw [e] at hb;unfold frs at hb;rw [List.filterMap_cons,hf] at hb;exact hb
theorem Inv.stkFree (I:Inv X pins σ H s):∀b∈frs X.stack,H b=none:=fun b hb=>by
 rcases yV.mp (I.stkSub b hb) with e|hb
 · rw [e];exact I.free
 · obtain ⟨_,o,ho,_⟩:=I.ok.funs.mem hb;exact I.base.free b o ho (I.ok.frf b hb) fun z=>I.ok.exfs b z hb
theorem Inv.step {g':Array GenState} {t':Nat} {d':Drawn} {ch:List Addr} (I:Inv X pins σ H s)
 (hch:∀b∈ch,(b∈X.ex∨X.s₀.heap.objs.size≤b)∧b≠X.env.locals∧(∀x c,X.env.cells.lookup x=some c→c≠b)∧∀p∈X.pn++pins,p.1≠b)
 (keep:∀b o,b≠X.env.locals→b∉X.fs→b∉ch→s.heap.get? b=some o→Idl (H b)→h'.get? b=some o)
 (slot:∀b o,b≠X.env.locals→b∈X.fs→b∉ch→s.heap.get? b=some o→H b=none→∃sl,h'.get? b=some {o with slots:=sl}) (free:∀b o,b∉ch→s.heap.get? b=some o→H b=none→H' b=none)
 (there:∀b o,b∉ch→s.heap.get? b=some o→∃o',h'.get? b=some o')
 (tups:∀b xs,H b=some (.tup xs)→H' b=some (.tup xs)) (frzs:∀b o u,H b=some (.frz o u)→H' b=some (.frz o u)) (tbls:∀b ps,H b=some (.tbl ps)→∃more,H' b=some (.tbl (ps++more)))
 (ns:∀m,s.heap.Ns X.env.locals m→h'.Ns X.env.locals m) (hok:HOk X.prog X.w H' h') (hg:AllBare g'):
 Inv X pins σ H' {s with heap:=h',gens:=g',drawn:=d',toks:=t'}:=by
 have neL:∀b o,X.s₀.heap.get? b=some o→b≠X.env.locals:=fun b o e=>yZ (zd (Heap.lt_size e) I.ok.above)
 have neC:∀b o,X.s₀.heap.get? b=some o→b∉X.ex→b∉ch:=fun b o e hx hb=>by
  rcases (hch b hb).1 with z|z
  · exact hx z
  · exact absurd (zd (Heap.lt_size e) z) (zW _)
 have cellK:∀x c,X.env.cells.lookup x=some c→∀v,s.heap.IsCell c v→h'.IsCell c v:=fun x c e v ⟨o,ho,hd⟩=>by
  have nch:c∉ch:=fun z=>(hch c z).2.2.1 x c e rfl;by_cases hc:c∈X.fs
  · obtain ⟨sl,q⟩:=slot c o (I.cne x c e) hc nch ho (I.freeC x c e);exact ⟨_,q,hd⟩
  · exact ⟨o,keep c o (I.cne x c e) hc nch ho (.inl (I.freeC x c e)),hd⟩
 refine ⟨I.ok,I.os,hg,⟨fun b o e n hb hx=> ?_,fun b o e n hb hx=> ?_,fun b o e n hx=> ?_,fun b o e hx=> ?_,fun b xs e=>tups b xs (I.base.tups b xs e),fun b o xs e=>frzs b o xs (I.base.frzs b o xs e),fun b ps e=> ?_⟩,?_,fun x c e=> ?_,?_,fun x c e=> ?_,fun p hp=> ?_,hok,I.len⟩
 · exact keep b o (neL b o e) hb (neC b o e hx) (I.base.keep b o e n hb hx) (I.base.idl e n hx)
 · obtain ⟨sl,e1⟩:=I.base.slot b o e n hb hx;obtain ⟨sl',e2⟩:=slot b _ (neL b o e) hb (neC b o e hx) e1 (I.base.free b o e n hx);exact ⟨sl',e2⟩
 · obtain ⟨o',e1⟩:=I.base.there b o e hx;exact free b o' (neC b o e hx) e1 (I.base.free b o e n hx)
 · obtain ⟨o',e1⟩:=I.base.there b o e hx;exact there b o' (neC b o e hx) e1
 · obtain ⟨m1,e1⟩:=I.base.tbls b ps e;obtain ⟨m2,e2⟩:=tbls b _ e1;exact ⟨m1++m2,by rw [e2,Array.append_assoc]⟩
 · obtain ⟨m,hn,hl⟩:=I.loc;refine ⟨m,ns m hn,fun i x v e1 e2 e3=> ?_⟩;obtain ⟨u,r,l⟩:=hl i x v e1 e2 e3;refine ⟨u,r,?_⟩;rcases l with l|⟨k,c,e,z⟩
   · exact .inl l
   · exact .inr ⟨k,c,e,cellK x c e _ z⟩
 · obtain ⟨v,z⟩:=I.cell x c e;exact ⟨v,cellK x c e v z⟩
 · obtain ⟨m,⟨o,_,_,ho,_⟩,_⟩:=I.loc;exact free _ o (fun z=>(hch _ z).2.1 rfl) ho I.free
 · obtain ⟨v,o,ho,hd⟩:=I.cell x c e;exact free c o (fun z=>(hch c z).2.2.1 x c e rfl) ho (I.freeC x c e)
 · obtain ⟨e,n,ne,nf,d⟩:=I.pin p hp;have nch:p.1∉ch:=fun z=>(hch p.1 z).2.2.2 p hp rfl;exact ⟨keep p.1 p.2 ne nf nch e (.inl n),free p.1 p.2 nch e n,ne,nf,d⟩
theorem Inv.un {t':Nat} (I:Inv X pins σ H s) (u:Un X.fs [] H H' s.heap h') (hok:HOk X.prog X.w H' h'):Inv X pins σ H' {s with heap:=h',toks:=t'}:=by
 obtain ⟨m,⟨o,es,ep,ho,r⟩,_⟩:=id I.loc;obtain ⟨sl,hL⟩:=u.any ho I.free (by simp)
 exact I.step (g':=s.gens) (d':=s.drawn) (ch:= []) (fun _ z=>nomatch z) (fun b o _ hb _ e n=>u.keep b o e n hb (by simp)) (fun b o _ hb _ e n=>u.slot b o e n hb (by simp)) (fun b o _ e n=>u.free b o e n (by simp)) (fun b o _ e=>u.there b o e (by simp)) u.tups u.frzs u.tbls (fun m' hm=>by
  obtain ⟨o',es',ep',ho',r'⟩:=hm;rw [ho] at ho';cases ho'
  exact ⟨_,es',ep',hL,r'⟩) hok I.bare
theorem Inv.call {g':Array GenState} {t':Nat} {d':Drawn} {ch:List Addr} (I:Inv X pins σ H s) (u:Un (frs X.stack) ch H H' s.heap h') (hok:HOk X.prog X.w H' h') (hg:AllBare g')
 (hch:∀b∈ch,(b∈X.ex∨X.s₀.heap.objs.size≤b)∧b≠X.env.locals∧(∀x c,X.env.cells.lookup x=some c→c≠b)∧∀p∈X.pn++pins,p.1≠b):
 Inv X pins σ H' {s with heap:=h',gens:=g',drawn:=d',toks:=t'}:=by
 obtain ⟨m,⟨o,es,ep,ho,r⟩,_⟩:=id I.loc;obtain ⟨sl,hL⟩:=u.any ho I.free fun z=>(hch _ z).2.1 rfl
 exact I.step (ch:=ch) hch (fun b o hL hb hc e n=>u.keep b o e n (fun z=>(yV.mp (I.stkSub b z)).elim hL hb) hc) (fun b o _ _ hc e n=>u.any e n hc) (fun b o hc e n=>u.free b o e n hc) (fun b o hc e=>u.there b o e hc) u.tups u.frzs u.tbls (fun m' hm=>by
  obtain ⟨o',es',ep',ho',r'⟩:=hm;rw [ho] at ho';cases ho'
  exact ⟨_,es',ep',hL,r'⟩) hok hg
theorem Inv.turned {t':Nat} {it:Addr} (I:Inv X pins σ H s) (k:∀b o,b≠it→s.heap.get? b=some o→h'.get? b=some o) (hn:H it=none) (hL:it≠X.env.locals)
 (h1:it∈X.ex∨X.s₀.heap.objs.size≤it) (h2:∀x c,X.env.cells.lookup x=some c→c≠it) (h3:∀p∈X.pn++pins,p.1≠it):Inv X pins σ H {s with heap:=h',toks:=t'}:=by
 have nit:∀b u,H b=some u→b≠it:=fun b u e z=>by rw [z,hn] at e;cases e
 refine I.step (g':=s.gens) (d':=s.drawn) (ch:= [it]) (fun b hb=> ?_) (fun b o _ _ hc e _=>k b o (fun z=>hc (by simp [z])) e) (fun b o _ _ hc e _=>⟨o.slots,k b o (fun z=>hc (by simp [z])) e⟩) (fun _ _ _ _ n=>n)
  (fun b o hc e=>⟨o,k b o (fun z=>hc (by simp [z])) e⟩) (fun _ _ e=>e) (fun _ _ _ e=>e) (fun b ps e=>⟨#[],by rw [e];simp⟩) (fun m hm=> ?_) (fun b u e=> ?_) I.bare
 · have e:b=it:=by simpa using hb
   subst e;exact ⟨h1,hL,h2,h3⟩
 · obtain ⟨o,es,ep,ho,r⟩:=hm;exact ⟨o,es,ep,k _ o (Ne.symm hL) ho,r⟩
 · refine (I.hok b u e).stay (fun c v hc q=>k c v ?_ q) (fun _ q=>q) fun _ _ q=>q;rcases hc with z|z
   · rw [z];exact nit b u e
   · exact nit c _ z
theorem Inv.tok (I:Inv X pins σ H s) (t:Nat):Inv X pins σ H {s with toks:=t}:=I.un (h':=s.heap) (t':=t) Un.refl I.hok
theorem Inv.kept {t':Nat} (I:Inv X pins σ H s) (k:∀b u,s.heap.get? b=some u→h'.get? b=some u):Inv X pins σ H {s with heap:=h',toks:=t'}:=I.un (Un.kept k) (I.hok.kept k)
theorem Inv.laid {a:Addr} {o:HO} {t':Nat} (I:Inv X pins σ H s) (k:∀b u,s.heap.get? b=some u→h'.get? b=some u) (hp:s.heap.objs.size≤a) (new:ObjOk X.prog X.w (upd H a o) h' a o):
 Inv X pins σ (upd H a o) {s with heap:=h',toks:=t'}:=I.un (Un.laid k hp (I.hok.fresh hp)) (I.hok.laid k hp new)
theorem Inv.write {x e:Addr} {o:HO} {t':Nat} (I:Inv X pins σ H s) (mu:Mut (H x)) (he:e=x∨H e=some (.own x)) (k:∀b u,b≠e→s.heap.get? b=some u→h'.get? b=some u) (heo:∃u,h'.get? e=some u)
 (new:ObjOk X.prog X.w (upd H x o) h' x o):Inv X pins σ (upd H x o) {s with heap:=h',toks:=t'}:=I.un (Un.write mu he k heo) (I.hok.write mu he k heo new)
theorem Inv.weak {σ':List (Option V)} (I:Inv X pins σ H s) (hl:σ'.length=σ.length) (w:∀(i:Nat) v,σ'[i]?=some (some v)→σ[i]?=some (some v)):Inv X pins σ' H s:=
 ⟨I.ok,I.os,I.bare,I.base,let ⟨m,hn,hl'⟩:=I.loc;⟨m,hn,fun i x v e1 e2 e3=>hl' i x v e1 (w i v e2) e3⟩,I.cell,I.free,I.freeC,I.pin,I.hok,hl.trans I.len⟩
theorem Inv.pins_of {pins':List (Addr×Obj)} (I:Inv X pins σ H s) (h:∀p∈pins',s.heap.get? p.1=some p.2∧H p.1=none∧p.1≠X.env.locals∧p.1∉X.fs∧∀v,p.2.data≠ .cell v):Inv X pins' σ H s:=
 ⟨I.ok,I.os,I.bare,I.base,I.loc,I.cell,I.free,I.freeC,fun p hp=>(ze.mp hp).elim (fun z=>I.pin p (zw _ z)) (h p),I.hok,I.len⟩
theorem jV {N:List Str} (hN:N.Nodup) {i j:Nat} {x:Str} (a:N[i]?=some x) (b:N[j]?=some x):i=j:=by
 obtain ⟨h1,e1⟩:=yW.mp a;obtain ⟨h2,e2⟩:=yW.mp b;exact (List.getElem_inj hN).mp (e1.trans e2.symm)
theorem iC {M:Model} {A:Around} {E:Value→Shared→Prop} {i:Nat} {x:Str} {v:V} {u:Value} {Q:Unit→Shared→Prop} (I:Inv X pins σ H s) (hN:X.N.Nodup) (hi:X.N[i]?=some x) (hx:Loc X.env.scope x) (r:RelV v u)
 (h:∀s',Inv X pins (σ.set i (some v)) H s'→(∃a,Heap.SameBut a s.heap s'.heap∧(a=X.env.locals∨X.env.cells.lookup x=some a))→Q () s') (hf:X.fn x=true∨X.env.scope.names.lookup x=some .local):wpAny M A (storeName X.env x u) Q E s:=by
 obtain ⟨m,hn,hl⟩:=id I.loc;have hcls:(X.env.scope.kind== .class ||(X.env.scope.kind== .module&&X.env.locals !=X.env.globals))=false:=by rw [I.ok.kind];rfl
 have hiσ:i < σ.length:=by rw [I.len];exact (yW.mp hi).1
 have cne:=I.cne
 have tracked:∀ {a:Addr} {h':Heap},(∃o,s.heap.get? a=some o∧H a=none)→Heap.SameBut a s.heap h'→HOk X.prog X.w H h':=fun {a h'} ha hs b ob e=>by
  obtain ⟨_,_,hfree⟩:=ha;refine (I.hok b ob e).stay (fun c w' hc q=>(hs.2 c ?_).trans q) (fun _ q=>q) fun _ _ q=>q;rintro rfl;rcases hc with rfl|hc
  · rw [hfree] at e;cases e
  · rw [hfree] at hc;cases hc
 rcases hx with hk|hk
 · refine wpAny_storeName_local hk hn (fun h' hn' hs=> ?_) hcls;refine hZq fun q_ e_=> ?_;obtain ⟨oL,_,_,hoL,_⟩:=id hn;subst e_;refine h _ ⟨I.ok,I.os,I.bare,⟨fun b o e n hb hx=> ?_,fun b o e n hb hx=> ?_,I.base.free,fun b o e hx=> ?_,I.base.tups,I.base.frzs,I.base.tbls⟩,⟨_,hn',fun j y v' e1 e2 e3=> ?_⟩,fun y c e=> ?_,I.free,I.freeC,fun p hp=> ?_,tracked ⟨oL,hoL,I.free⟩ hs,by simpa using I.len⟩ ⟨_,hs, .inl rfl⟩
   · exact (hs.2 b (yZ (zd (Heap.lt_size e) I.ok.above))).trans (I.base.keep b o e n hb hx)
   · obtain ⟨sl,e1⟩:=I.base.slot b o e n hb hx;exact ⟨sl,(hs.2 b (yZ (zd (Heap.lt_size e) I.ok.above))).trans e1⟩
   · obtain ⟨o',e1⟩:=I.base.there b o e hx;exact ⟨o',(hs.2 b (yZ (zd (Heap.lt_size e) I.ok.above))).trans e1⟩
   · by_cases hj:j=i
     · subst hj;rw [hi] at e1;cases e1;rw [List.getElem?_set_self hiσ] at e2;cases e2;exact ⟨u,r, .inl ⟨hk,by simp⟩⟩
     · rw [List.getElem?_set_ne (Ne.symm hj)] at e2;obtain ⟨u',r',q⟩:=hl j y v' e1 e2 e3;refine ⟨u',r',?_⟩;rcases q with ⟨k,e⟩|⟨k,c,e,z⟩
       · refine .inl ⟨k,?_⟩;have:y≠x:=fun e=>hj (jV hN e1 (e▸hi));simp [this,e]
       · exact .inr ⟨k,c,e,z.sameBut hs (cne y c e)⟩
   · obtain ⟨w',z⟩:=I.cell y c e;exact ⟨w',z.sameBut hs (cne y c e)⟩
   · obtain ⟨e,n,ne,nf,d⟩:=I.pin p hp;exact ⟨(hs.2 p.1 ne).trans e,n,ne,nf,d⟩
 · have hfn:X.fn x=true:=by
    rcases hf with z|z
    · exact z
    · rw [z] at hk;cases hk
   obtain ⟨c,hc⟩:=I.ok.has x (.inl hk);obtain ⟨w',z⟩:=I.cell x c hc;refine wpAny_storeName_cell I.ok.kind hk hc z (fun h' hc' hs=> ?_);obtain ⟨oc,hoc,hocd⟩:=id z;refine h {s with heap:=h'} ⟨I.ok,I.os,I.bare,⟨fun b o e n hb hx=> ?_,fun b o e n hb hx=> ?_,I.base.free,fun b o e hx=> ?_,I.base.tups,I.base.frzs,I.base.tbls⟩,⟨m,hn.sameBut hs (Ne.symm (cne x c hc)),fun j y v' e1 e2 e3=> ?_⟩,fun y c' e=> ?_,I.free,I.freeC,fun p hp=> ?_,tracked ⟨oc,hoc,I.freeC x c hc⟩ hs,by simpa using I.len⟩ ⟨c,hs, .inr hc⟩
   · exact (hs.2 b (yZ (zd (Heap.lt_size e) (I.ok.cab x c hfn hc)))).trans (I.base.keep b o e n hb hx)
   · obtain ⟨sl,e1⟩:=I.base.slot b o e n hb hx;exact ⟨sl,(hs.2 b (yZ (zd (Heap.lt_size e) (I.ok.cab x c hfn hc)))).trans e1⟩
   · obtain ⟨o',e1⟩:=I.base.there b o e hx;exact ⟨o',(hs.2 b (yZ (zd (Heap.lt_size e) (I.ok.cab x c hfn hc)))).trans e1⟩
   · by_cases hj:j=i
     · subst hj;rw [hi] at e1;cases e1;rw [List.getElem?_set_self hiσ] at e2;cases e2;exact ⟨u,r, .inr ⟨.inl hk,c,hc,hc'⟩⟩
     · rw [List.getElem?_set_ne (Ne.symm hj)] at e2;obtain ⟨u',r',q⟩:=hl j y v' e1 e2 e3;refine ⟨u',r',?_⟩;rcases q with q|⟨k,c',e,z'⟩
       · exact .inl q
       · refine .inr ⟨k,c',e,z'.sameBut hs ?_⟩;rintro rfl;exact hj (jV hN e1 (I.ok.inj _ _ _ e hc▸hi))
   · by_cases hcc:c'=c
     · subst hcc;exact ⟨_,hc'⟩
     · obtain ⟨w2,z2⟩:=I.cell y c' e;exact ⟨w2,z2.sameBut hs hcc⟩
   · obtain ⟨e,n,ne,nf,d⟩:=I.pin p hp;refine ⟨(hs.2 p.1 ?_).trans e,n,ne,nf,d⟩;intro q;rw [q,hoc] at e;have q':oc=p.2:=zb e;exact d w' (by rw [←q'];exact hocd)
theorem f8 {M:Model} {A:Around} {E:Value→Shared→Prop} {i:Nat} {x:Str} {v:V} {u:Value} {Q:Unit→Shared→Prop} (I:Inv X pins σ H s) (hN:X.N.Nodup) (hi:X.N[i]?=some x) (hx:Loc X.env.scope x) (r:RelV v u)
 (h:∀s',Inv X pins (σ.set i (some v)) H s'→Q () s') (hf:X.fn x=true∨X.env.scope.names.lookup x=some .local):wpAny M A (storeName X.env x u) Q E s:=
 iC I hN hi hx r (fun s' I' _=>h s' I') hf
theorem Inv.call' {s':Shared} {ch:List Addr} (I:Inv X pins σ H s) (ho:s'.os=s.os) (u:Un (frs X.stack) ch H H' s.heap s'.heap) (hok:HOk X.prog X.w H' s'.heap) (hg:AllBare s'.gens)
 (hch:∀b∈ch,(b∈X.ex∨X.s₀.heap.objs.size≤b)∧b≠X.env.locals∧(∀x c,X.env.cells.lookup x=some c→c≠b)∧∀p∈X.pn++pins,p.1≠b):Inv X pins σ H' s':=by
 obtain ⟨h',g',d',t',o'⟩:=s';have e:o'=s.os:=ho;subst e;exact I.call (g':=g') (t':=t') (d':=d') u hok hg hch
end
abbrev XK:=Value→Option Addr→Hp→Prop
abbrev St:=List (Option V)
abbrev VK:=V→Hp→Prop
abbrev TE:=St→Hp→VK→Prop
abbrev TT:=St→Hp→(Bool→Hp→Prop)→Prop
abbrev TA:=St→Hp→(List V→Hp→Prop)→Prop
structure Ends where
 nx:St→Hp→Prop
 rt:VK
 bk:St→Hp→Prop:=fun _ _=>False
 ct:St→Hp→Prop:=fun _ _=>False
abbrev TS:=Ends→St→Hp→Prop
def EP (X:Cx) (pins:List (Addr×Obj)) (σ:St) (Q:VK) (u:Value) (s':Shared):Prop:=∃v H',Inv X pins σ H' s'∧RelV v u∧Q v H'
def TP (X:Cx) (pins:List (Addr×Obj)) (σ:St) (Q:Bool→Hp→Prop) (b:Bool) (s':Shared):Prop:=∃H',Inv X pins σ H' s'∧Q b H'
def AP (X:Cx) (pins:List (Addr×Obj)) (σ:St) (Q:List V→Hp→Prop) (us:List Value) (s':Shared):Prop:=∃vs H',Inv X pins σ H' s'∧Vals vs us∧Q vs H'
def SP (X:Cx) (pins:List (Addr×Obj)) (D:Ends) (f:Flow) (s':Shared):Prop:=
 match f with
 | .next=>∃σ' H',Inv X pins σ' H' s'∧D.nx σ' H'
 | .brk=>∃σ' H',Inv X pins σ' H' s'∧D.bk σ' H'
 | .cont=>∃σ' H',Inv X pins σ' H' s'∧D.ct σ' H'
 | .ret u=>∃v σ' H',Inv X pins σ' H' s'∧RelV v u∧D.rt v H'
def PE (X:Cx) (e:Expr) (t:TE):Prop:=
 ∀(pins:List (Addr×Obj)) (s:Shared) (σ:St) (H:Hp) (Q:VK),Inv X pins σ H s→t σ H Q→wpAny (model X.prog X.w) X.A (eval e X.env) (EP X pins σ Q) X.xe s
def PT (X:Cx) (e:Expr) (t:TT):Prop:=
 ∀(pins:List (Addr×Obj)) (s:Shared) (σ:St) (H:Hp) (Q:Bool→Hp→Prop),Inv X pins σ H s→t σ H Q→wpAny (model X.prog X.w) X.A (isTrue e X.env (eval e X.env)) (TP X pins σ Q) X.xe s
def PW (X:Cx) (e:Expr) (t:TT):Prop:=
 ∀(whole:Sem Value) (pins:List (Addr×Obj)) (s:Shared) (σ:St) (H:Hp) (Q:Bool→Hp→Prop),Inv X pins σ H s→t σ H Q→wpAny (model X.prog X.w) X.A (isTrue e X.env whole) (TP X pins σ Q) X.xe s
theorem PW.pt {X:Cx} {e:Expr} {t:TT} (h:PW X e t):PT X e t:=h _
def PA (X:Cx) (es:List Expr) (t:TA):Prop:=
 ∀(pos:Pos) (pins:List (Addr×Obj)) (s:Shared) (σ:St) (H:Hp) (Q:List V→Hp→Prop),Inv X pins σ H s→t σ H Q→wpAny (model X.prog X.w) X.A (spliced (backTo pos (starEach es X.env))) (AP X pins σ Q) X.xe s
def PS (X:Cx) (st:Stmt) (t:TS):Prop:=
 ∀(pins:List (Addr×Obj)) (s:Shared) (σ:St) (H:Hp) (D:Ends),Inv X pins σ H s→t D σ H→wpAny (model X.prog X.w) X.A (exec st X.env) (SP X pins D) X.xe s
def PSs (X:Cx) (st:List Stmt) (t:TS):Prop:=
 ∀(pins:List (Addr×Obj)) (s:Shared) (σ:St) (H:Hp) (D:Ends),Inv X pins σ H s→t D σ H→wpAny (model X.prog X.w) X.A (execs st X.env) (SP X pins D) X.xe s
theorem thn {α:Type} {t:Sem α} {Q Q':α→Shared→Prop} {M:Model} {A:Around} {E:Value→Shared→Prop} {s:Shared} (h:wpAny M A t Q E s) (hQ:∀a s,Q a s→Q' a s):wpAny M A t Q' E s:=wpAny_mono h hQ fun _ _ x=>x
open PySem PySem.Spec PyProof.Rows
section
variable {X:Cx}
def tVar (i:Nat):TE:=fun σ H Q=>∃v,σ[i]?=some (some v)∧Q v H
def tC (v:V):TE:=fun _ H Q=>Q v H
theorem rA {i:Nat} {x:Str} {pos:Pos} (hN:X.N[i]?=some x) (hv:Vis X.env.scope x) (hd:(x==("__debug__":Str))=false) (hcd:(x==("__classdict__":Str))=false):PE X (.Name x pos) (tVar i):=by
 intro pins s σ H Q I h;obtain ⟨v,e,h⟩:=h;obtain ⟨m,hn,hl⟩:=I.loc;obtain ⟨u,r,l⟩:=hl i x v hN e hv;have fin:EP X pins σ Q u s:=⟨v,H,I,r,h⟩;rcases l with ⟨hk,hm⟩|⟨hk,c,hc,hcell⟩
 · exact wpAny_Name (wpAny_loadName_local I.ok.kind hk hn hm fin) hd
 · rcases hk with hk|hk
   · exact wpAny_Name (wpAny_loadName_cell I.ok.kind hk hc hcell fin) hd
   · exact wpAny_Name (wpAny_loadName_free I.ok.kind hk hc hcell fin hcd) hd
theorem ac {i j pos}:PE X (.Constant (.int i) j pos) (tC (.int i)):=fun _ _ _ H _ I h=>wpAny_Constant_int ⟨.int i,H,I.tok _,⟨_,rfl⟩,h⟩
theorem rJ {b j pos}:PE X (.Constant (.bool b) j pos) (tC (.bl b)):=fun _ _ _ H _ I h=>Constant_bool ⟨.bl b,H,I,rfl,h⟩
theorem lM {j pos}:PE X (.Constant .none j pos) (tC .non):=fun _ _ _ H _ I h=>Constant_none ⟨.non,H,I,rfl,h⟩
theorem dX {x j pos}:PE X (.Constant (.str x) j pos) (tC (.str x)):=fun _ _ _ H _ I h=>Calls.Constant_str ⟨.str x,H,I.tok _,⟨_,rfl⟩,h⟩
def Gl (X:Cx) (x:Str):Prop:=X.env.kindOf x=some .globalImplicit
theorem jx {E:Value→Shared→Prop} {pins:List (Addr×Obj)} {s:Shared} {σ:St} {H:Hp} {x:Str} {u:Value} {pos:Pos} {Q:Value→Shared→Prop} (I:Inv X pins σ H s) (hg:Gl X x) (hm:X.mg x=some u) (h:Q u s)
 (hd:(x==("__debug__":Str))=false):wpAny (model X.prog X.w) X.A (eval (.Name x pos) X.env) Q E s:=
 Calls.Name_function_global I.ok.kind hg (Calls.loadGlobal_global (by rw [I.ok.glob];exact I.mod.glob.keeps I.bk) hm h) hd
theorem eU {E:Value→Shared→Prop} {pins:List (Addr×Obj)} {s:Shared} {σ:St} {H:Hp} {x:Str} {u:Value} {pos:Pos} {Q:Value→Shared→Prop} (I:Inv X pins σ H s) (hg:Gl X x) (hm:X.mg x=none) (hv:bootBuiltins x=some u) (h:Q u s)
 (hn:x≠"__name__":=by decide) (hd:(x==("__debug__":Str))=false:=by decide):wpAny (model X.prog X.w) X.A (eval (.Name x pos) X.env) Q E s:=by
 obtain ⟨mb,h1,h2⟩:=I.mod.blt;exact Calls.Name_function_global I.ok.kind hg (Calls.loadGlobal_builtin (by rw [I.ok.glob];exact I.mod.glob.keeps I.bk) hm (by rw [I.ok.blt];exact h1.keeps I.bk) ((h2 x hn).trans hv) h) hd
theorem gy {x:Str} {v:V} {u:Value} {pos:Pos} (hg:Gl X x) (hm:X.mg x=some u) (r:RelV v u) (hd:(x==("__debug__":Str))=false:=by decide):PE X (.Name x pos) (tC v):=
 fun _ _ _ H _ I h=>jx I hg hm ⟨v,H,I,r,h⟩ hd
variable {a b:Expr} {ta tb:TE} {pos:Pos}
def PC (X:Cx) (op:CmpOp) (a b:Expr) (t:TE):Prop:=
 ∀(pins:List (Addr×Obj)) (s:Shared) (σ:St) (H:Hp) (Q:VK),Inv X pins σ H s→t σ H Q→
  wpAny (model X.prog X.w) X.A (eval a X.env) (fun v s₁=>wpAny (model X.prog X.w) X.A (eval b X.env) (fun u s₂=>wpAny (model X.prog X.w) X.A (compareOp op v u) (EP X pins σ Q) X.xe s₂) X.xe s₁) X.xe s
theorem rY (b:Expr) {op:CmpOp} (h:op≠ .In) (h2:op≠ .NotIn):behindInMarks op b=false:=by
 have e1:(op==CmpOp.In)=false:=by cases op<;>first|rfl|exact absurd rfl h
 have e2:(op==CmpOp.NotIn)=false:=by cases op<;>first|rfl|exact absurd rfl h2
 cases b<;>simp [behindInMarks,e1,e2]
def xQ (ta:TE):TE:=fun σ H Q=>ta σ H fun x H1=>Q (.bl (!decide (x= .non))) H1
theorem RelV.none_iff {x:V} {v:Value} (r:RelV x v):(v==Value.none)=decide (x= .non):=by
 cases x with
 |non=>cases r;rfl
 |bl _=>cases r;rfl
 |int _=>obtain ⟨t,rfl⟩:=r;rfl
 |str _=>obtain ⟨t,rfl⟩:=r;rfl
 |byt _=>obtain ⟨t,rfl⟩:=r;rfl
 |flt _=>obtain ⟨t,rfl⟩:=r;rfl
 |ref _=>cases r;rfl
 |ty _=>cases r;rfl
theorem uf {j pos'} (ha:PE X a ta):PC X .IsNot a (.Constant .none j pos') (xQ ta):=by
 intro pins s σ H Q I h;refine thn (ha pins s σ H _ I h) fun v s1 ⟨x,H1,I1,r1,q1⟩=> ?_;exact Constant_none (isnot_none_gen ⟨.bl _,H1,I1,by rw [r1.none_iff];rfl,q1⟩)
def tB (t:TE):TT:=fun σ H Q=>t σ H fun x H1=>∃c,x= .bl c∧Q c H1
theorem vY {op:CmpOp} {t:TE} (h:PC X op a b t) (h1:behindInMarks op b=false):PT X (.Compare a [op] [b] pos) (tB t):=by
 intro pins s σ H Q I hw;refine wpAny_isTrue_Compare1 (thn (h pins s σ H _ I hw) fun v s1 h1=>thn h1 fun u s2 h2=>thn h2 fun c s3 ⟨x,H1,I1,r1,q1⟩=> ?_) h1;obtain ⟨d,rfl,q⟩:=q1;cases r1;exact wpAny_truthy_bool ⟨H1,I1,q⟩
theorem eO {e:Expr} {t:TE} (h:PE X e t) (he:∀whole,isTrue e X.env whole=(do let v←whole;standAt e.pos;holding [v] (truthy v))):PT X e (tB t):=by
 intro pins s σ H Q I hw;refine isTrue_plain (thn (h pins s σ H _ I hw) fun v s1 ⟨x,H1,I1,r1,q1⟩=> ?_) (he _);obtain ⟨d,rfl,q⟩:=q1;cases r1;exact wpAny_truthy_bool ⟨H1,I1,q⟩
variable {tA tB':TT} {rest:List Expr}
def tAnd (t u:TT):TT:=fun σ H Q=>t σ H fun c H1=>if c=true then u σ H1 Q else Q false H1
def tOr (t u:TT):TT:=fun σ H Q=>t σ H fun c H1=>if c=true then Q true H1 else u σ H1 Q
def tNot (t:TT):TT:=fun σ H Q=>t σ H fun c H1=>Q (!c) H1
theorem gx (ha:PT X a tA):PW X (.BoolOp .And [a] pos) tA:=by
 intro wh pins s σ H Q I h;refine isTrue_and (thn (ha pins s σ H Q I h) fun c s1 e=> ?_)
 cases c with
 |true=>exact isTrue_and_nil e
 |false=>exact e
theorem qX (ha:PT X a tA):PW X (.BoolOp .Or [a] pos) tA:=by
 intro wh pins s σ H Q I h;refine isTrue_or (thn (ha pins s σ H Q I h) fun c s1 e=> ?_)
 cases c with
 |false=>exact isTrue_or_nil e
 |true=>exact e
theorem jj (ha:PT X a tA) (hb:PW X (.BoolOp .And (b::rest) pos) tB'):PW X (.BoolOp .And (a::b::rest) pos) (tAnd tA tB'):=by
 intro wh pins s σ H Q I h;refine isTrue_and (thn (ha pins s σ H _ I h) fun c s1 ⟨H1,I1,q1⟩=> ?_)
 cases c with
 |true=>exact hb wh pins s1 σ H1 Q I1 q1
 |false=>exact ⟨H1,I1,q1⟩
theorem vh (ha:PT X a tA) (hb:PW X (.BoolOp .Or (b::rest) pos) tB'):PW X (.BoolOp .Or (a::b::rest) pos) (tOr tA tB'):=by
 intro wh pins s σ H Q I h;refine isTrue_or (thn (ha pins s σ H _ I h) fun c s1 ⟨H1,I1,q1⟩=> ?_)
 cases c with
 |true=>exact ⟨H1,I1,q1⟩
 |false=>exact hb wh pins s1 σ H1 Q I1 q1
theorem vX (ha:PT X a tA):PT X (.UnaryOp .Not a pos) (tNot tA):=by
 intro pins s σ H Q I h;exact isTrue_not (ha pins s σ H (fun c H1=>Q (!c) H1) I h)
def xV (ta tb:TE):TE:=fun σ H Q=>ta σ H fun x H1=>∃c,x= .bl c∧if c=true then tb σ H1 Q else Q (.bl false) H1
def tOrV (ta tb:TE):TE:=fun σ H Q=>ta σ H fun x H1=>∃c,x= .bl c∧if c=true then Q (.bl true) H1 else tb σ H1 Q
def xP (ta:TE):TE:=fun σ H Q=>ta σ H fun x H1=>∃c,x= .bl c∧Q (.bl (!c)) H1
theorem jp {op} {t:TE} (h:PE X a t):PE X (.BoolOp op [a] pos) t:=fun pins s σ H Q I hw=>BoolOp_one (h pins s σ H Q I hw)
theorem wd (ha:PE X a ta) (hb:PE X (.BoolOp .And (b::rest) pos) tb):PE X (.BoolOp .And (a::b::rest) pos) (xV ta tb):=by
 intro pins s σ H Q I h;refine BoolOp_and (thn (ha pins s σ H _ I h) fun v s1 ⟨x,H1,I1,r1,q1⟩=> ?_);obtain ⟨c,rfl,q1⟩:=q1;cases r1;refine wpAny_truthy_bool ?_
 cases c with
 |true=>exact hb pins s1 σ H1 Q I1 q1
 |false=>exact ⟨.bl false,H1,I1,rfl,q1⟩
theorem rB (ha:PE X a ta) (hb:PE X (.BoolOp .Or (b::rest) pos) tb):PE X (.BoolOp .Or (a::b::rest) pos) (tOrV ta tb):=by
 intro pins s σ H Q I h;refine BoolOp_or (thn (ha pins s σ H _ I h) fun v s1 ⟨x,H1,I1,r1,q1⟩=> ?_);obtain ⟨c,rfl,q1⟩:=q1;cases r1;refine wpAny_truthy_bool ?_
 cases c with
 |false=>exact hb pins s1 σ H1 Q I1 q1
 |true=>exact ⟨.bl true,H1,I1,rfl,q1⟩
theorem w8 (ha:PE X a ta):PE X (.UnaryOp .Not a pos) (xP ta):=by
 intro pins s σ H Q I h;refine UnaryOp_ (thn (ha pins s σ H _ I h) fun v s1 ⟨x,H1,I1,r1,q1⟩=> ?_);obtain ⟨c,rfl,q1⟩:=q1;cases r1;exact not_of (wpAny_truthy_bool ⟨.bl (!c),H1,I1,rfl,q1⟩)
def tIf (t:TT) (ta tb:TE):TE:=fun σ H Q=>t σ H fun c H1=>if c=true then ta σ H1 Q else tb σ H1 Q
theorem dh {c:Expr} (hc:PT X c tA) (ha:PE X a ta) (hb:PE X b tb):PE X (.IfExp c a b pos) (tIf tA ta tb):=by
 intro pins s σ H Q I h;refine wpAny_IfExp (thn (hc pins s σ H _ I h) fun d s1 ⟨H1,I1,q1⟩=> ?_)
 cases d with
 |true=>exact ha pins s1 σ H1 Q I1 q1
 |false=>exact hb pins s1 σ H1 Q I1 q1
end
open PySem PySem.Spec PyProof.Rows
def SqL (K:PySem.W.Frag) (H:Hp) (a:Addr) (xs:List V):Prop:=
 Rd H a (.lst xs)∨
  ∃(o:Obj) (its:Array Value) (n:Nat),K.lookup a=some o∧o.cls= .type "list"∧o.dict=none∧o.data= .seq its n∧its.size≤sizeLine∧Vals xs its.toList
def SqT (K:PySem.W.Frag) (H:Hp) (a:Addr) (xs:List V):Prop:=
 Rd H a (.tup xs)∨
  ∃(o:Obj) (its:Array Value) (n:Nat),K.lookup a=some o∧o.cls= .type "tuple"∧o.data= .seq its n∧its.size≤sizeLine∧Vals xs its.toList
noncomputable def absV:Value→Option V
 | .none=>some .non
 | .bool b=>some (.bl b)
 | .int i _=>some (.int i)
 | .str x _=>some (.str x)
 | .bytes b _=>some (.byt b)
 | .float b _=>some (.flt b)
 | .ref a=>some (.ref a)
 | .type n=>some (.ty n)
 |_=>none
theorem RelV.abs {x:V} {u:Value} (r:RelV x u):absV u=some x:=by
 cases x with
 |non=>cases r;rfl
 |bl _=>cases r;rfl
 |int _=>obtain ⟨t,rfl⟩:=r;rfl
 |str _=>obtain ⟨t,rfl⟩:=r;rfl
 |byt _=>obtain ⟨t,rfl⟩:=r;rfl
 |flt _=>obtain ⟨t,rfl⟩:=r;rfl
 |ref _=>cases r;rfl
 |ty _=>cases r;rfl
theorem RelV.inj {x y:V} {u:Value} (r:RelV x u) (q:RelV y u):x=y:=zb (r.abs.symm.trans q.abs)
theorem Vals.inj:∀ {xs ys:List V} {us:List Value},Vals xs us→Vals ys us→xs=ys
 |_,_,_, .nil, .nil=>rfl
 |_,_,_, .cons r t, .cons r' t'=>by rw [r.inj r',Vals.inj t t']
section
variable {X:Cx} {pins:List (Addr×Obj)} {σ:St} {H:Hp} {s:Shared} {a:Addr} {xs ys:List V}
theorem SqL.of {K:PySem.W.Frag} (h:H a=some (.lst xs)):SqL K H a xs:= .inl (.inl h)
theorem SqT.of {K:PySem.W.Frag} (h:H a=some (.tup xs)):SqT K H a xs:= .inl (.inl h)
theorem Inv.list (I:Inv X pins σ H s) (h:SqL X.K H a xs):∃its:List Value,Vals xs its∧PlainL s.heap a its.toArray∧xs.length≤sizeLine:=by
 rcases h with h|⟨o,its,n,hk,hc,hd,hs,hz,r⟩
 · obtain ⟨z,its,n,r,e⟩:=h.ok I.hok;exact ⟨its,r,⟨_,n,e,rfl,rfl,rfl⟩,z⟩
 · refine ⟨its.toList,r,⟨o,n,I.kIn a o hk,hc,hd,by simpa using hs⟩,?_⟩
   have e:=r.length;simp only [zq] at e;omega
theorem Inv.tuple (I:Inv X pins σ H s) (h:SqT X.K H a xs):∃its:List Value,Vals xs its∧IsTup s.heap a its.toArray∧xs.length≤sizeLine:=by
 rcases h with h|⟨o,its,n,hk,hc,hs,hz,r⟩
 · obtain ⟨z,its,r,p⟩:=h.ok I.hok;exact ⟨its,r,p,z⟩
 · refine ⟨its.toList,r,⟨o,I.kIn a o hk,hc,n,by simpa using hs⟩,?_⟩
   have e:=r.length;simp only [zq] at e;omega
theorem Inv.list_inj (I:Inv X pins σ H s) (h:SqL X.K H a xs) (h':SqL X.K H a ys):xs=ys:=by
 obtain ⟨its,r,⟨o,n,e,_,_,d⟩,_⟩:=I.list h;obtain ⟨its',r',⟨o',n',e',_,_,d'⟩,_⟩:=I.list h';rw [e] at e';cases e';rw [d] at d';injection d' with d1 _;have:its=its':=by simpa using congrArg Array.toList d1
 subst this;exact r.inj r'
theorem Inv.tuple_inj (I:Inv X pins σ H s) (h:SqT X.K H a xs) (h':SqT X.K H a ys):xs=ys:=by
 obtain ⟨its,r,⟨o,e,_,n,d⟩,_⟩:=I.tuple h;obtain ⟨its',r',⟨o',e',_,n',d'⟩,_⟩:=I.tuple h';rw [e] at e';cases e';rw [d] at d';injection d' with d1 _;have:its=its':=by simpa using congrArg Array.toList d1
 subst this;exact r.inj r'
end
abbrev Cx.wish (X:Cx) (E:Value→Shared→Prop):Cx:= {X with xe:=E}
abbrev Cx.nox (X:Cx):Cx:=X.wish fun _ _=>False
theorem Cx.Ok.wish {X:Cx} (ok:X.Ok) (E:Value→Shared→Prop):(X.wish E).Ok:=
 ⟨ok.mod,ok.kind,ok.glob,ok.blt,ok.above,ok.inj,ok.has,ok.cab,ok.hd,ok.frames,ok.stk,ok.exf,ok.bs,ok.bsz,ok.noex,ok.exfs,ok.funs,ok.frf⟩
theorem Cx.Ok.unwish {X:Cx} {E:Value→Shared→Prop} (ok:(X.wish E).Ok):X.Ok:=
 ⟨ok.mod,ok.kind,ok.glob,ok.blt,ok.above,ok.inj,ok.has,ok.cab,ok.hd,ok.frames,ok.stk,ok.exf,ok.bs,ok.bsz,ok.noex,ok.exfs,ok.funs,ok.frf⟩
section
variable {X:Cx} {pins:List (Addr×Obj)} {σ:St} {H:Hp} {s:Shared} {E:Value→Shared→Prop}
theorem Inv.wish (I:Inv X pins σ H s) (E:Value→Shared→Prop):Inv (X.wish E) pins σ H s:=⟨I.ok.wish E,I.os,I.bare,I.base,I.loc,I.cell,I.free,I.freeC,I.pin,I.hok,I.len⟩
theorem Inv.unwish (I:Inv (X.wish E) pins σ H s):Inv X pins σ H s:=⟨I.ok.unwish,I.os,I.bare,I.base,I.loc,I.cell,I.free,I.freeC,I.pin,I.hok,I.len⟩
theorem SP.unwish {D:Ends} {f:Flow} {s':Shared} (h:SP (X.wish E) pins D f s'):SP X pins D f s':=by
 cases f with
 |next=>obtain ⟨σ',H',I,q⟩:=h;exact ⟨σ',H',I.unwish,q⟩
 |brk=>obtain ⟨σ',H',I,q⟩:=h;exact ⟨σ',H',I.unwish,q⟩
 |cont=>obtain ⟨σ',H',I,q⟩:=h;exact ⟨σ',H',I.unwish,q⟩
 |ret u=>obtain ⟨v,σ',H',I,r,q⟩:=h;exact ⟨v,σ',H',I.unwish,r,q⟩
theorem PSs.nox {st:List Stmt} {t:TS} (h:PSs X.nox st t):PSs X st t:=fun pins s σ H D I hw=>
 wpAny_mono (h pins s σ H D (I.wish _) hw) (fun _ _ q=>q.unwish) fun _ _ z=>False.elim z
end
section
variable {X:Cx} {st:Stmt} {rest:List Stmt} {t u:TS} {e:Expr} {te:TE} {pos:Pos}
def uY:TS:=fun D σ H=>D.nx σ H
def tSeq (t u:TS):TS:=fun D σ H=>t {D with nx:=u D} σ H
theorem bg:PSs X [] uY:=fun _ _ σ H _ I h=>wpAny_execs_nil ⟨σ,H,I,h⟩
theorem ae (h1:PS X st t) (h2:PSs X rest u):PSs X (st::rest) (tSeq t u):=by
 intro pins s σ H D I h;refine wpAny_execs_cons (thn (h1 pins s σ H {D with nx:=u D} I h) fun f s1 q=> ?_)
 cases f with
 |next=>
  obtain ⟨σ',H',I',q⟩:=q;exact h2 pins s1 σ' H' D I' q
 |ret v=>exact q
 |brk=>exact q
 |cont=>exact q
theorem ah (h1:PS X st t):PSs X [st] t:=by
 intro pins s σ H D I h;refine wpAny_execs_cons (thn (h1 pins s σ H D I h) fun f s1 q=> ?_)
 cases f with
 |next=>exact wpAny_execs_nil q
 |ret v=>exact q
 |brk=>exact q
 |cont=>exact q
theorem Inv.quiet {pins:List (Addr×Obj)} {σ:St} {H:Hp} {s:Shared} (I:Inv X pins σ H s):interactive X.env=false:=by simp [interactive,I.ok.kind]
def xU (te:TE):TS:=fun D σ H=>te σ H fun _ H1=>D.nx σ H1
theorem bu (he:PE X e te) (hs:swapsWith e none pos.line X.env=pure false:=by rfl):PS X (.Expr e pos) (xU te):=by
 intro pins s σ H D I h;exact wpAny_Expr_any (thn (he pins s σ H _ I h) fun v s1 ⟨x,H1,I1,r1,q1⟩=>⟨σ,H1,I1,q1⟩) I.quiet hs
def tRet (te:TE):TS:=fun D σ H=>te σ H D.rt
theorem ax (he:PE X e te):PS X (.Return (some e) pos) (tRet te):=by
 intro pins s σ H D I h;exact wpAny_Return_some (thn (he pins s σ H _ I h) fun v s1 ⟨x,H1,I1,r1,q1⟩=>⟨x,σ,H1,I1,r1,q1⟩)
def tIfS (c:TT) (t u:TS):TS:=fun D σ H=>c σ H fun b H1=>if b=true then t D σ H1 else u D σ H1
theorem cf {c:Expr} {a b:List Stmt} {tc:TT} (hc:PT X c tc) (ha:PSs X a t) (hb:PSs X b u):PS X (.If c a b pos) (tIfS tc t u):=by
 intro pins s σ H D I h;refine wpAny_If (thn (hc pins s σ H _ I h) fun d s1 ⟨H1,I1,q1⟩=> ?_)
 cases d with
 |true=>exact ha pins s1 σ H1 D I1 q1
 |false=>exact hb pins s1 σ H1 D I1 q1
end
abbrev TG:=V→St→Hp→(St→Hp→Prop)→Prop
abbrev TGs:=List V→St→Hp→(St→Hp→Prop)→Prop
def PG (X:Cx) (target:Expr) (t:TG):Prop:=
 ∀(pins:List (Addr×Obj)) (s:Shared) (σ:St) (H:Hp) (v:V) (u:Value) (Q:St→Hp→Prop),Inv X pins σ H s→RelV v u→t v σ H Q→
  wpAny (model X.prog X.w) X.A (assign target X.env u) (fun _ s'=>∃σ' H',Inv X pins σ' H' s'∧Q σ' H') X.xe s
def PGs (X:Cx) (ts:List Expr) (t:TGs):Prop:=
 ∀(pins:List (Addr×Obj)) (s:Shared) (σ:St) (H:Hp) (vs:List V) (us:List Value) (Q:St→Hp→Prop),Inv X pins σ H s→Vals vs us→t vs σ H Q→
  wpAny (model X.prog X.w) X.A (assignInOrder ((assignEach ts X.env).map (·.2)) us) (fun _ s'=>∃σ' H',Inv X pins σ' H' s'∧Q σ' H') X.xe s
abbrev TSet:=V→V→V→Hp→(Hp→Prop)→Prop
def PSet (X:Cx) (t:TSet):Prop:=
 ∀(pins:List (Addr×Obj)) (s:Shared) (σ:St) (H:Hp) (o i v:V) (ov iv u:Value) (Q:Hp→Prop),Inv X pins σ H s→RelV o ov→RelV i iv→RelV v u→t o i v H Q→
  wpAny (model X.prog X.w) X.A (setItem ov iv u) (fun _ s'=>∃H',Inv X pins σ H' s'∧Q H') X.xe s
section
variable {X:Cx} {pos:Pos}
def aG (i:Nat):TG:=fun v σ H Q=>Q (σ.set i (some v)) H
theorem eC {i:Nat} {x:Str} (hN:X.N.Nodup) (hi:X.N[i]?=some x) (hx:Loc X.env.scope x) (hf:X.fn x=true∨X.env.scope.names.lookup x=some .local):PG X (.Name x pos) (aG i):=by
 intro pins s σ H v u Q I r h;exact wpAny_assign_Name (f8 I hN hi hx r (fun s' I'=>⟨_,H,I',h⟩) hf)
def gNil:TGs:=fun vs σ H Q=>vs= []∧Q σ H
def aV (t:TG) (u:TGs):TGs:=fun vs σ H Q=>∃v r,vs=v::r∧t v σ H fun σ' H'=>u r σ' H' Q
theorem aL:PGs X [] gNil:=by
 intro pins s σ H vs us Q I r h;obtain ⟨e,h⟩:=h;subst e;cases r;exact assignInOrder_nil ⟨σ,H,I,h⟩
theorem ak {e:Expr} {es:List Expr} {t:TG} {u:TGs} (h1:PG X e t) (h2:PGs X es u)
 (hs:(assignEach (e::es) X.env).map (·.2)=assign e X.env::(assignEach es X.env).map (·.2):=by rfl):PGs X (e::es) (aV t u):=by
 intro pins s σ H vs us Q I r h;obtain ⟨v,vr,e1,h⟩:=h;subst e1
 cases r with
 |cons r rr=>
  rw [hs];refine assignInOrder_cons (thn (h1 pins s σ H _ _ _ I r h) fun _ s1 ⟨σ1,H1,I1,q1⟩=> ?_);exact h2 pins s1 σ1 H1 _ _ Q I1 rr q1
def gTup (K:PySem.W.Frag) (n:Nat) (t:TGs):TG:=fun v σ H Q=>∃a xs,v= .ref a∧SqT K H a xs∧xs.length=n∧t xs σ H Q
theorem aW {es:List Expr} {k:Nat} {t:TGs} {n:Nat} (hc:X.calm=true) (h:PGs X es t)
 (hn:(assignEach es X.env).length=n:=by rfl) (hst:(assignEach es X.env).findIdx? (·.1)=none:=by rfl):PG X (.Tuple es k pos) (gTup X.K n t):=by
 intro pins s σ H v u Q I r hw;obtain ⟨a,xs,e1,hq,hl,hw⟩:=hw;subst e1;cases r;obtain ⟨its,rv,ht,hz⟩:=I.tuple hq;refine assign_Tuple_tuple (I.ok.hd hc) ht (by simp [hn,←hl,rv.length]) hst fun h' hx=> ?_
 have I1:Inv X pins σ H {s with heap:=h'}:=I.kept (t':=s.toks) fun b o e=>hx b o (yZ (Heap.lt_size e)) e;exact h pins _ σ H xs _ Q I1 (by simpa using rv) hw
def gSub (to ti:TE) (t:TSet):TG:=fun v σ H Q=>to σ H fun o H1=>ti σ H1 fun i H2=>t o i v H2 fun H3=>Q σ H3
theorem fz {o i:Expr} {to ti:TE} {t:TSet} (ho:PE X o to) (hi:PE X i ti) (hs:PSet X t)
 (ha:∀v,assign (.Subscript o i pos) X.env v=(do
  let ov←holding [v] (eval o X.env)
  let iv←holding [v,ov] (eval i X.env)
  standAt pos
  holding [v,ov,iv] (setItem ov iv v)
  release [v,ov,iv] []):=by intro _;rfl):PG X (.Subscript o i pos) (gSub to ti t):=by
 intro pins s σ H v u Q I r h;rw [ha];refine wpAny_bind (wpAny_holding (thn (ho pins s σ H _ I h) fun ov s1 ⟨x,H1,I1,r1,q1⟩=> ?_));refine wpAny_bind (wpAny_holding (thn (hi pins s1 σ H1 _ I1 q1) fun iv s2 ⟨y,H2,I2,r2,q2⟩=> ?_));refine wpAny_bind (wpAny_standAt (wpAny_bind (wpAny_holding (thn (hs pins s2 σ H2 x y v ov iv u _ I2 r1 r2 r q2) fun _ s3 ⟨H3,I3,q3⟩=> ?_))));exact wpAny_release ⟨σ,H3,I3,q3⟩
def tAsg (te:TE) (g:TG):TS:=fun D σ H=>te σ H fun x H1=>g x σ H1 D.nx
theorem dQ {tg e:Expr} {te:TE} {g:TG} (he:PE X e te) (hg:PG X tg g) (hs:swapsWithSole [tg] e pos.line X.env=pure false:=by rfl) (hw:swappedStores [tg] e X.env=pure none:=by rfl)
 (h1:(assignEach [tg] X.env).map (·.2)= [assign tg X.env]:=by rfl):PS X (.Assign [tg] e pos) (tAsg te g):=by
 intro pins s σ H D I h;refine wpAny_Assign_stores (thn (he pins s σ H _ I h) fun v s1 ⟨x,H1,I1,r1,q1⟩=> ?_) hs hw;rw [h1];exact thn (hg pins s1 σ H1 x v _ I1 r1 q1) fun _ s2 q=>q
theorem rh {i:Nat} {x:Str} {e:Expr} {te:TE} {pos':Pos} (hN:X.N.Nodup) (hi:X.N[i]?=some x) (hx:Loc X.env.scope x) (he:PE X e te) (hs:swapsWith e (some (.Name x pos')) pos.line X.env=pure false:=by rfl) (hf:X.fn x=true∨X.env.scope.names.lookup x=some .local:=by first|exact .inl rfl|exact .inr rfl|assumption):
 PS X (.Assign [.Name x pos'] e pos) (tAsg te (aG i)):=by
 intro pins s σ H D I h;refine wpAny_Assign_Name (thn (he pins s σ H _ I h) fun v s1 ⟨y,H1,I1,r1,q1⟩=> ?_) hs;exact f8 I1 hN hi hx r1 (fun s2 I2=>⟨_,H1,I2,q1⟩) hf
def tPar (i j:Nat) (ta:TA):TS:=fun D σ H=>ta σ H fun vs H1=>∃v w,vs= [v,w]∧D.nx ((σ.set i (some v)).set j (some w)) H1
theorem vZ {i j:Nat} {x y:Str} {a b:Expr} {ta:TA} {px py pt:Pos} {kt k2 pt2} (hc:X.calm=true) (hN:X.N.Nodup) (hi:X.N[i]?=some x) (hj:X.N[j]?=some y) (hij:i≠j)
 (hx:X.env.scope.names.lookup x=some .local) (hy:X.env.scope.names.lookup y=some .local) (ha:PA X [a,b] ta)
 (hw:swappedStores [.Tuple [.Name x px, .Name y py] kt pt] (.Tuple [a,b] k2 pt2) X.env=pure (some [x,y]))
 (hs:swapsWithSole [.Tuple [.Name x px, .Name y py] kt pt] (.Tuple [a,b] k2 pt2) pos.line X.env=pure false:=by rfl):
 PS X (.Assign [.Tuple [.Name x px, .Name y py] kt pt] (.Tuple [a,b] k2 pt2) pos) (tPar i j ta):=by
 intro pins s σ H D I h;rw [exec_Assign_arm];refine wpAny_bind (wpAny_standAt ?_);rw [hs];refine wpAny_bind (wpAny_pure ?_);rw [if_neg (by decide)]
 refine wpAny_bind (Tuple_ (thn (ha _ pins s σ H _ I h) fun us s1 ⟨vs,H1,I1,r1,q1⟩=> ?_));obtain ⟨v,w,e1,q1⟩:=q1;subst e1
 obtain ⟨u1,u2,rfl,rv,rw'⟩:∃u1 u2,us= [u1,u2]∧RelV v u1∧RelV w u2:=by
  cases r1 with
  |cons p q=>
   cases q with
   |cons p' q'=>
    cases q';exact ⟨_,_,rfl,p,p'⟩
 refine wpAny_newObj_type ?_ (by show 2≤sizeLine;decide)
 have I2:Inv X pins σ H1 {s1 with heap:=s1.heap.push {cls:= .type "tuple",data:= .seq [u1,u2].toArray}}:=I1.kept (t':=s1.toks) fun b o e=>Heap.get?_push_of_some _ e;rw [hw];refine wpAny_bind (wpAny_pure ?_);show wpAny (model X.prog X.w) X.A (do rule "assign.swapped-stores";let items←unpackItems (.ref s1.heap.objs.size) 2 none;assignInOrder [fun v=>bindName X.env y v,fun v=>bindName X.env x v] items.reverse;pure Flow.next) _ _ _
 refine wpAny_bind (wpAny_rule (wpAny_bind (unpackItems_tuple (items:= #[u1,u2]) (I.ok.hd hc) (IsTup.new s1.heap _) fun h' hx'=> ?_)));have I3:=I2.kept (h':=h') (t':=s1.toks) fun b o e=>hx' b o (yZ (Heap.lt_size e)) e;show wpAny _ _ (assignInOrder [fun v=>bindName X.env y v,fun v=>bindName X.env x v] [u2,u1] >>=fun _=>pure Flow.next) _ _ _;refine wpAny_bind (assignInOrder_cons (wpAny_bindName (f8 I3 hN hj (.inl hy) rw' (fun s2 I4=> ?_) (.inr hy))));refine assignInOrder_cons (wpAny_bindName (f8 I4 hN hi (.inl hx) rv (fun s3 I5=>assignInOrder_nil (wpAny_pure ?_)) (.inr hx)));rw [List.set_comm _ _ (Ne.symm hij)] at I5;exact ⟨_,H1,I5,q1⟩
def pL (c:TT) (tb:TS):TS:=fun D σ H=>∃W:Nat→St→Hp→Prop,(∃m,W m σ H)∧∀m σ H,W m σ H→
 c σ H fun b H1=>if b=true then∃N:St→Hp→Prop,(∀σ' H',N σ' H'→∃m',m' < m∧W m' σ' H')∧tb {D with nx:=N,ct:=N,bk:=D.nx} σ H1 else D.nx σ H1
theorem jS {c:Expr} {body:List Stmt} {tc:TT} {tb:TS} (hp:PassesOwn (model X.prog X.w) X.A X.env X.xe) (hc:PT X c tc) (hb:PSs X body tb):PS X (.While c body [] pos) (pL tc tb):=by
 intro pins s σ H D I h;obtain ⟨W,⟨m0,w0⟩,turn⟩:=h;refine wpAny_While (codeAny_whileLoop (fun n s'=>∃σ' H',Inv X pins σ' H' s'∧W n σ' H') ?_ m0 ⟨σ,H,I,w0⟩);rintro n s1 ⟨σ1,H1,I1,w1⟩;refine wpAny_passesOwn hp (thn (hc pins s1 σ1 H1 _ I1 (turn n σ1 H1 w1)) fun b s2 ⟨H2,I2,q2⟩=> ?_)
 cases b with
 |true=>
  obtain ⟨N,hN,q2⟩:=q2;rw [if_pos rfl];refine wpAny_passesOwn hp (thn (hb pins s2 σ1 H2 _ I2 q2) fun f s3 q3=> ?_)
  cases f with
  |next=>
   obtain ⟨σ3,H3,I3,n3⟩:=q3;obtain ⟨m',hm,w3⟩:=hN σ3 H3 n3;exact ⟨m',hm,σ3,H3,I3,w3⟩
  |cont=>
   obtain ⟨σ3,H3,I3,n3⟩:=q3;obtain ⟨m',hm,w3⟩:=hN σ3 H3 n3;exact ⟨m',hm,σ3,H3,I3,w3⟩
  |brk=>exact q3
  |ret v=>exact q3
 |false=>
  rw [if_neg zk];exact wpAny_execs_nil ⟨σ1,H2,I2,q2⟩
end
structure It where
 go:Nat→Hp→Prop
 yld:Nat→Hp→V→Hp→Prop
 stop:Nat→Hp→Prop
def FpOk (X:Cx) (pins:List (Addr×Obj)) (H:Hp) (b:Addr):Prop:=
 H b=none∧b≠X.env.locals∧b∉X.fs∧(b∈X.ex∨X.s₀.heap.objs.size≤b)∧(∀x c,X.env.cells.lookup x=some c→c≠b)∧∀p∈X.pn++pins,p.1≠b
theorem Inv.fpOk {X:Cx} {pins:List (Addr×Obj)} {σ:St} {H H':Hp} {s:Shared} {b:Addr} (I:Inv X pins σ H s) (hb:s.heap.objs.size≤b) (hn:H' b=none):FpOk X pins H' b:=by
 refine ⟨hn,Nat.ne_of_gt (zd I.lt hb),I.nofs hb, .inr (yY I.sz hb),fun x c e z=> ?_,fun p hp z=> ?_⟩
 · obtain ⟨v,q⟩:=I.cell x c e;exact absurd (zd q.lt (by rw [z];exact hb)) (zW _)
 · exact absurd (zd (Heap.lt_size (I.pin p hp).1) (by rw [z];exact hb)) (zW _)
structure Turn (P:Program) (w:World) (K:PySem.W.Frag) (tg:Expr) (J:It) (fp:List Addr) (it:Addr) (tn:Nat→Heap→Prop):Prop where
 mem:it∈fp
 obj:∀i h,tn i h→∀b∈fp,∃o,h.get? b=some o∧∀v,o.data≠ .cell v
 keep:∀i h h',tn i h→(∀b∈fp,∀o,h.get? b=some o→h'.get? b=some o)→tn i h'
 item:∀(X:Cx),X.prog=P→X.w=w→X.K=K→X.calm=true→∀(i:Nat) (pins:List (Addr×Obj)) (s:Shared) (σ:St) (H:Hp) (E:Value→Shared→Prop),Inv X pins σ H s→(∀b∈fp,FpOk X pins H b)→tn i s.heap→J.go i H→
  wpAny (model P w) X.A (pyNext (.ref it)) (fun r s1=>∃u,r=some u∧
   wpAny (model P w) X.A (letOwnedTupleGo tg (.ref it) u) (fun _ s2=>∃x H',Inv X pins σ H' s2∧RelV x u∧J.yld i H x H'∧tn (i+1) s2.heap∧∀b∈fp,H' b=none) E s1) E s
 done:∀(X:Cx),X.prog=P→X.w=w→X.K=K→X.calm=true→∀(i:Nat) (pins:List (Addr×Obj)) (s:Shared) (σ:St) (H:Hp) (E:Value→Shared→Prop),Inv X pins σ H s→(∀b∈fp,FpOk X pins H b)→tn i s.heap→J.stop i H→
  wpAny (model P w) X.A (pyNext (.ref it)) (fun r s1=>r=none∧Inv X pins σ H s1) E s
 self:∀(A:Around) (i:Nat) (s:Shared) (Q:Value→Shared→Prop) (E:Value→Shared→Prop),tn i s.heap→Q (.ref it) s→wpAny (model P w) A (pyIter (.ref it)) Q E s
abbrev TI:=St→Hp→(It→Hp→Prop)→Prop
def PIE (X:Cx) (pins:List (Addr×Obj)) (σ:St) (tg:Expr) (R:It→Hp→Prop) (itv:Value) (s2:Shared):Prop:=
 ∃(it:Addr) (fp:List Addr) (tn:Nat→Heap→Prop) (J:It) (H':Hp),itv= .ref it∧Inv X pins σ H' s2∧Turn X.prog X.w X.K tg J fp it tn∧tn 0 s2.heap∧(∀b∈fp,FpOk X pins H' b)∧R J H'
def PI (X:Cx) (tg iter:Expr) (wi:TI):Prop:=
 ∀(pins:List (Addr×Obj)) (s:Shared) (σ:St) (H:Hp) (R:It→Hp→Prop),Inv X pins σ H s→wi σ H R→
  wpAny (model X.prog X.w) X.A (eval iter X.env) (fun v s1=>wpAny (model X.prog X.w) X.A (pyIter v) (PIE X pins σ tg R) X.xe s1) X.xe s
theorem sJ {M:Model} {A:Around} {E:Value→Shared→Prop} {s:Shared} {tg:Expr} {it:Addr} {u:Value} {o:Obj} {n:String} {vs:Array Value} {Q:Unit→Shared→Prop} (ho:s.heap.get? it=some o) (hc:o.cls= .type n) (hd:o.data= .fields vs)
 (hn: ["enumerate","zip","dict_itemiterator","dict_reverseitemiterator","odict_iterator","itertools.zip_longest","itertools.pairwise"].contains n=false) (hQ:Q () s):wpAny M A (letOwnedTupleGo tg (.ref it) u) Q E s:=by
 unfold letOwnedTupleGo
 cases tg<;>first
  |exact wpAny_pure hQ
  |(cases u<;>first
     |exact wpAny_pure hQ
     |(refine wpAny_bind (wpAny_load ho ?_)
       rw [hc,hd];show wpAny M A (if (["enumerate","zip","dict_itemiterator","dict_reverseitemiterator","odict_iterator","itertools.zip_longest","itertools.pairwise"].contains n&&vs[0]?==some (rawInt _))=true then _ else _) Q E s;rw [if_neg (by intro h;rw [hn,Bool.false_and] at h;cases h)]
       exact wpAny_pure hQ))
noncomputable def Itl (K:PySem.W.Frag) (a:Addr):It:=
 ⟨fun i H=>∃xs x,SqL K H a xs∧xs[i]?=some x,fun i H x H'=>H'=H∧∀xs,SqL K H a xs→xs[i]?=some x,fun i H=>∃xs,SqL K H a xs∧xs.length≤i⟩
noncomputable def Itt (K:PySem.W.Frag) (a:Addr):It:=
 ⟨fun i H=>∃xs x,SqT K H a xs∧xs[i]?=some x,fun i H x H'=>H'=H∧∀xs,SqT K H a xs→xs[i]?=some x,fun i H=>∃xs,SqT K H a xs∧xs.length≤i⟩
noncomputable def Itr (lo:Int) (n:Nat):It:=⟨fun i _=>i < n,fun i H x H'=>H'=H∧x= .int (lo+i),fun i _=>n≤i⟩
theorem oq {P:Program} {w:World} {K:PySem.W.Frag} {tg:Expr} (a it:Addr):Turn P w K tg (Itl K a) [it] it (fun i h=>h.IsListIter it a i) where
 mem:=by simp
 obj:=fun i h st b hb=>by
  have e:b=it:=by simpa using hb
  subst e;obtain ⟨o,e,c,d⟩:=st;exact ⟨o,e,fun v z=>by rw [d] at z;cases z⟩
 keep:=fun i h h' st k=>st.at fun o e=>k it (by simp) o e
 item:=by
  intro X hP hw hK hc i pins s σ H E I hf st hg;subst hP hw hK;obtain ⟨xs,x,hq,hx⟩:=hg;obtain ⟨its,rv,p,hz⟩:=I.list hq;obtain ⟨u,hu,ru⟩:=rv.get hx;obtain ⟨f0,f1,f2,f3,f4,f5⟩:=hf it (by simp)
  refine wpAny_pyNext_list_item st p.isList (x:=u) (by simpa using hu) fun h' st' sb=> ?_
  have I1:Inv X pins σ H {s with heap:=h'}:=I.turned (t':=s.toks) (fun b o hb e=>(sb.2 b hb).trans e) f0 f1 f3 f4 f5;obtain ⟨o,e,c,d⟩:=id st';exact ⟨u,rfl,sJ (s:= {s with heap:=h'}) e c d (by decide) ⟨x,H,I1,ru,⟨rfl,fun ys hy=>by rw [I.list_inj hy hq];exact hx⟩,st',fun b hb=>(hf b hb).1⟩⟩
 done:=by
  intro X hP hw hK hc i pins s σ H E I hf st hg;subst hP hw hK;obtain ⟨xs,hq,hx⟩:=hg;obtain ⟨its,rv,p,hz⟩:=I.list hq;obtain ⟨f0,f1,f2,f3,f4,f5⟩:=hf it (by simp)
  have hl:=rv.length;exact wpAny_pyNext_list_end (I.ok.hd hc) st p.isList (by simp;omega) fun h' eb=>⟨rfl,I.turned (t':=s.toks) (fun b o hb e=>eb b o hb e) f0 f1 f3 f4 f5⟩
 self:=fun _ _ _ _ _ st h=>wpAny_pyIter_listiter st h
theorem l8 {P:Program} {w:World} {K:PySem.W.Frag} {tg:Expr} (a it:Addr):Turn P w K tg (Itt K a) [it] it (fun i h=>h.IsTupleIter it a i) where
 mem:=by simp
 obj:=fun i h st b hb=>by
  have e:b=it:=by simpa using hb
  subst e;obtain ⟨o,e,c,d⟩:=st;exact ⟨o,e,fun v z=>by rw [d] at z;cases z⟩
 keep:=fun i h h' st k=>st.at fun o e=>k it (by simp) o e
 item:=by
  intro X hP hw hK hc i pins s σ H E I hf st hg;subst hP hw hK;obtain ⟨xs,x,hq,hx⟩:=hg;obtain ⟨its,rv,p,hz⟩:=I.tuple hq;obtain ⟨u,hu,ru⟩:=rv.get hx;obtain ⟨f0,f1,f2,f3,f4,f5⟩:=hf it (by simp)
  refine wpAny_pyNext_tuple_item st (show s.heap.IsTuple a its.toArray from p) (x:=u) (by simpa using hu) fun h' st' sb=> ?_
  have I1:Inv X pins σ H {s with heap:=h'}:=I.turned (t':=s.toks) (fun b o hb e=>(sb.2 b hb).trans e) f0 f1 f3 f4 f5;obtain ⟨o,e,c,d⟩:=id st';exact ⟨u,rfl,sJ (s:= {s with heap:=h'}) e c d (by decide) ⟨x,H,I1,ru,⟨rfl,fun ys hy=>by rw [I.tuple_inj hy hq];exact hx⟩,st',fun b hb=>(hf b hb).1⟩⟩
 done:=by
  intro X hP hw hK hc i pins s σ H E I hf st hg;subst hP hw hK;obtain ⟨xs,hq,hx⟩:=hg;obtain ⟨its,rv,p,hz⟩:=I.tuple hq;obtain ⟨f0,f1,f2,f3,f4,f5⟩:=hf it (by simp)
  have hl:=rv.length;exact wpAny_pyNext_tuple_end (I.ok.hd hc) st (show s.heap.IsTuple a its.toArray from p) (by simp;omega) fun h' eb=>⟨rfl,I.turned (t':=s.toks) (fun b o hb e=>eb b o hb e) f0 f1 f3 f4 f5⟩
 self:=fun _ _ _ _ _ st h=>wpAny_pyIter_tupleiter st h
theorem l9 {P:Program} {w:World} {K:PySem.W.Frag} {tg:Expr} (it:Addr) (lo:Int) (n:Nat):Turn P w K tg (Itr lo n) [it] it (fun i h=>IsRangeIter h it (lo+(i:Nat)*1) ((n:Int) - (i:Nat)) 1) where
 mem:=by simp
 obj:=fun i h st b hb=>by
  have e:b=it:=by simpa using hb
  subst e
  exact ⟨_,st,fun v z=>by
   have z':Data.fields _=Data.cell v:=z
   cases z'⟩
 keep:=fun i h h' st k=>k it (by simp) _ st
 item:=by
  intro X hP hw hK hc i pins s σ H E I hf st hg;subst hP hw hK;obtain ⟨f0,f1,f2,f3,f4,f5⟩:=hf it (by simp)
  have W:=Walks.range (prog:=X.prog) (w:=X.w) (I.ok.hd hc) it lo 1 n;refine W.item i s _ _ hg st fun v h' tk hv st' kk=> ?_;obtain ⟨t,rfl⟩:=hv;have I1:Inv X pins σ H {s with heap:=h',toks:=tk}:=I.turned (fun b o hb e=>kk b o (by simpa using hb) e) f0 f1 f3 f4 f5
  refine ⟨_,rfl,sJ (s:= {s with heap:=h',toks:=tk}) (n:="range_iterator") st' rfl rfl (by decide) ⟨.int (lo+i),H,I1,⟨t,?_⟩,⟨rfl,rfl⟩,st',fun b hb=>(hf b hb).1⟩⟩
  rw [Int.mul_one]
 done:=by
  intro X hP hw hK hc i pins s σ H E I hf st hg;subst hP hw hK;obtain ⟨f0,f1,f2,f3,f4,f5⟩:=hf it (by simp)
  exact wpAny_pyNext_range_end (I.ok.hd hc) st (by have:n≤i:=hg;omega) fun h' eb=>⟨rfl,I.turned (t':=s.toks) (fun b o hb e=>eb b o hb e) f0 f1 f3 f4 f5⟩
 self:=fun _ _ _ _ _ st h=>wpAny_pyIter_rangeiter st h
open PySem PySem.Spec PyProof.Rows
section
variable {X:Cx} {tg:Expr}
def nJ (K:PySem.W.Frag) (tl:TE):TI:=fun σ H R=>tl σ H fun x H1=>∃a,x= .ref a∧(∃xs,SqL K H1 a xs)∧R (Itl K a) H1
def iTup (K:PySem.W.Frag) (tl:TE):TI:=fun σ H R=>tl σ H fun x H1=>∃a,x= .ref a∧(∃xs,SqT K H1 a xs)∧R (Itt K a) H1
theorem aO {l:Expr} {tl:TE} (hl:PE X l tl):PI X tg l (nJ X.K tl):=by
 intro pins s σ H R I h;refine thn (hl pins s σ H _ I h) fun v s1 ⟨x,H1,I1,r1,q1⟩=> ?_;obtain ⟨a,e,⟨xs,hq⟩,q⟩:=q1;subst e;cases r1;obtain ⟨its,rv,p,hz⟩:=I1.list hq;refine wpAny_pyIter_list p.isList ?_;refine ⟨s1.heap.objs.size,[s1.heap.objs.size],_,_,H1,rfl,I1.kept (t':=s1.toks) fun b o e=>Heap.get?_push_of_some _ e,oq a _,⟨_,Heap.get?_push_size _ rfl,rfl,rfl⟩,fun b hb=> ?_,q⟩;have e:b=s1.heap.objs.size:=by simpa using hb
 subst e;exact I1.fpOk (yP _) (I1.hok.fresh (yP _))
theorem eP {l:Expr} {tl:TE} (hl:PE X l tl):PI X tg l (iTup X.K tl):=by
 intro pins s σ H R I h;refine thn (hl pins s σ H _ I h) fun v s1 ⟨x,H1,I1,r1,q1⟩=> ?_;obtain ⟨a,e,⟨xs,hq⟩,q⟩:=q1;subst e;cases r1;obtain ⟨its,rv,p,hz⟩:=I1.tuple hq;refine wpAny_pyIter_tuple (show s1.heap.IsTuple a its.toArray from p) ?_;refine ⟨s1.heap.objs.size,[s1.heap.objs.size],_,_,H1,rfl,I1.kept (t':=s1.toks) fun b o e=>Heap.get?_push_of_some _ e,l8 a _,⟨_,Heap.get?_push_size _ rfl,rfl,rfl⟩,fun b hb=> ?_,q⟩;have e:b=s1.heap.objs.size:=by simpa using hb
 subst e;exact I1.fpOk (yP _) (I1.hok.fresh (yP _))
theorem qT {pins:List (Addr×Obj)} {σ:St} {H:Hp} {s:Shared} {R:It→Hp→Prop} {E:Value→Shared→Prop} {lo hi:Int} {t u v:Tok} {tk:Nat} (I:Inv X pins σ H s) (h1:-(2^62)≤lo) (h2:lo < 2^62) (h3:-(2^62)≤hi) (h4:hi < 2^62)
 (q:R (Itr lo (hi - lo).toNat) H):wpAny (model X.prog X.w) X.A (pyIter (.ref s.heap.objs.size)) (PIE X pins σ tg R) E {s with heap:=s.heap.push {cls:= .type "range",data:= .fields #[.int lo t, .int hi u, .int 1 v]},toks:=tk}:=by
 refine wpAny_pyIter_range (IsRange.new ..) (small_one h1 h2 h3 h4) ?_;have I1:Inv X pins σ H {s with heap:=s.heap.push {cls:= .type "range",data:= .fields #[.int lo t, .int hi u, .int 1 v]},toks:=tk}:=I.kept fun b o e=>Heap.get?_push_of_some _ e
 refine ⟨(s.heap.push {cls:= .type "range",data:= .fields #[.int lo t, .int hi u, .int 1 v]}).objs.size,[(s.heap.push {cls:= .type "range",data:= .fields #[.int lo t, .int hi u, .int 1 v]}).objs.size],_,_,H,rfl,
  I1.kept (t':=tk) fun b o e=>Heap.get?_push_of_some _ e,l9 _ lo (hi - lo).toNat,?_,fun b hb=> ?_,q⟩
 · have e1:lo+((0:Nat):Int)*1=lo:=by simp
   have e2:(((hi - lo).toNat:Nat):Int) - ((0:Nat):Int)=Builtin.Range.rangeSize lo hi 1:=by rw [rangeSize_one];split<;>omega
   show IsRangeIter _ _ (lo+((0:Nat):Int)*1) ((((hi - lo).toNat:Nat):Int) - ((0:Nat):Int)) 1;rw [e1,e2];exact Heap.get?_push_size _ rfl
 · have e:b=(s.heap.push {cls:= .type "range",data:= .fields #[.int lo t, .int hi u, .int 1 v]}).objs.size:=by simpa using hb
   subst e;exact I1.fpOk (yP _) (I1.hok.fresh (yP _))
def yF (ta:TA):TI:=fun σ H R=>ta σ H fun vs H1=>∃j:Int,vs= [.int j]∧ -(2^62)≤j∧j < 2^62∧R (Itr 0 j.toNat) H1
theorem c8 {a:Expr} {ta:TA} {p pos:Pos} (hg:Gl X "range") (hm:X.mg "range"=none) (ha:PA X [a] ta) (hs:starEach [a] X.env= [(false,eval a X.env)]:=by rfl):PI X tg (.Call (.Name "range" p) [a] [] pos) (yF ta):=by
 intro pins s σ H R I h;refine Call_ (eU I hg hm boot_range (PyProof.Rows.callWith_type1 (thn (ha pos pins s σ H _ I h) fun us s1 ⟨vs,H1,I1,r1,q1⟩=> ?_) hs rfl));obtain ⟨j,e,q1,q2,q⟩:=q1;subst e
 cases r1 with
 |cons r rr=>
  cases rr;obtain ⟨t,rfl⟩:=r;exact call_range_1 (qT I1 (by omega) (by omega) q1 q2 (by simpa using q))
def tFor (wi:TI) (g:TG) (tb:TS):TS:=fun D σ H=>wi σ H fun J H1=>∃W:Nat→Nat→St→Hp→Prop,(∃m,W 0 m σ H1)∧∀i m σ H,W i m σ H→
 (J.stop i H∧D.nx σ H)∨(J.go i H∧∃N:St→Hp→Prop,(∀σ' H',N σ' H'→∃m',m' < m∧W (i+1) m' σ' H')∧∀x H',J.yld i H x H'→g x σ H' fun σ2 H2=>tb {D with nx:=N,ct:=N,bk:=D.nx} σ2 H2)
noncomputable def dU (fp:List Addr) (h:Heap):List (Addr×Obj):=fp.filterMap fun b=>(h.get? b).map fun o=>(b,o)
theorem bh {fp:List Addr} {h:Heap} {b:Addr} {o:Obj} (hb:b∈fp) (e:h.get? b=some o):(b,o)∈dU fp h:=List.mem_filterMap.mpr ⟨b,hb,by rw [e];rfl⟩
theorem oC {fp:List Addr} {h:Heap} {p:Addr×Obj} (hp:p∈dU fp h):p.1∈fp∧h.get? p.1=some p.2:=by
 obtain ⟨b,hb,e⟩:=List.mem_filterMap.mp hp
 cases q:h.get? b with
 |none=>rw [q] at e;cases e
 |some o=>
  rw [q] at e;have e':(b,o)=p:=zb e;subst e';exact ⟨hb,q⟩
theorem Inv.pinned {pins:List (Addr×Obj)} {σ:St} {H:Hp} {s:Shared} {fp:List Addr} (I:Inv X pins σ H s) (hf:∀b∈fp,FpOk X pins H b) (ho:∀b∈fp,∃o,s.heap.get? b=some o∧∀v,o.data≠ .cell v):Inv X (pins++dU fp s.heap) σ H s:=
 I.pins_of fun p hp=>(ze.mp hp).elim (fun z=>I.pin p (yX _ z)) fun z=>by
  obtain ⟨hb,e⟩:=oC z;obtain ⟨f0,f1,f2,_⟩:=hf p.1 hb;obtain ⟨o,e',d⟩:=ho p.1 hb;rw [e] at e';cases e';exact ⟨e,f0,f1,f2,d⟩
theorem Inv.unpinned {pins pl:List (Addr×Obj)} {σ:St} {H:Hp} {s:Shared} (I:Inv X (pins++pl) σ H s):Inv X pins σ H s:=I.pins_of fun p hp=>I.pin p (yX _ (zw _ hp))
theorem cg {iter:Expr} {body:List Stmt} {wi:TI} {g:TG} {tb:TS} {pos:Pos} (hp:PassesOwn (model X.prog X.w) X.A X.env X.xe) (hc:X.calm=true) (hi:PI X tg iter wi) (hg:PG X tg g) (hb:PSs X body tb)
 (hs:∀x,foldedSetIterable iter X.env x=pure x:=by intro _;rfl):PS X (.For tg iter body [] pos) (tFor wi g tb):=by
 intro pins s σ H D I h;refine wpAny_For (thn (hi pins s σ H _ I h) fun v s1 h1=>thn h1 fun itv s2 h2=> ?_) hs;refine hZq fun q_ e_=> ?_;obtain ⟨it,fp,tn,J,H2,e,I2,T,st2,f2,W,⟨m0,w0⟩,turn⟩:=h2;subst e_;subst e;have stat:∀ {H':Hp},(∀b∈fp,H' b=none)→∀b∈fp,FpOk X pins H' b:=fun hn b hb=>⟨hn b hb,(f2 b hb).2⟩;refine codeAny_forLoop_any (fun n s'=>∃i σ' H',Inv X pins σ' H' s'∧tn i s'.heap∧(∀b∈fp,H' b=none)∧W i n σ' H') ?_ m0 ⟨0,σ,H2,I2,st2,fun b hb=>(f2 b hb).1,w0⟩;intro n s3 z_;refine hZq fun q_ e_=> ?_;obtain ⟨i,σ3,H3,I3,st3,fr3,w3⟩:=z_;subst e_;rcases turn i n σ3 H3 w3 with ⟨stop,qn⟩|⟨go,N,hN,step⟩
 · refine wpAny_passesOwn hp (thn (T.done X rfl rfl rfl hc i pins s3 σ3 H3 X.xe I3 (stat fr3) st3 stop) fun r s4 ⟨hr,I4⟩=> ?_);subst hr;exact wpAny_execs_nil ⟨σ3,H3,I4,qn⟩
 · refine wpAny_passesOwn hp (thn (T.item X rfl rfl rfl hc i pins s3 σ3 H3 X.xe I3 (stat fr3) st3 go) fun r s4 ⟨u,hr,h4⟩=> ?_);subst hr;refine wpAny_passesOwn hp (thn h4 fun _ s5 ⟨x,H5,I5,r5,y5,st5,fr5⟩=> ?_);have I5':=I5.pinned (stat fr5) (T.obj _ _ st5);refine wpAny_passesOwn hp (thn (hg _ s5 σ3 H5 x u _ I5' r5 (step x H5 y5)) fun _ s6 ⟨σ6,H6,I6,q6⟩=> ?_);refine wpAny_passesOwn hp (thn (hb _ s6 σ6 H6 _ I6 q6) fun f s7 q7=> ?_)
   have again:∀ {σ7:St} {H7:Hp},Inv X (pins++dU fp s5.heap) σ7 H7 s7→N σ7 H7→∃m,m < n∧∃i σ' H',Inv X pins σ' H' s7∧tn i s7.heap∧(∀b∈fp,H' b=none)∧W i m σ' H':=fun {σ7 H7} I7 n7=>by
    obtain ⟨m',hm,w7⟩:=hN σ7 H7 n7;refine ⟨m',hm,i+1,σ7,H7,I7.unpinned,T.keep _ _ _ st5 fun b hb o e=>(I7.pin (b,o) (yX _ (yX _ (bh hb e)))).1,fun b hb=> ?_,w7⟩;obtain ⟨o,e,d⟩:=T.obj _ _ st5 b hb;exact (I7.pin (b,o) (yX _ (yX _ (bh hb e)))).2.1
   cases f with
   |next=>obtain ⟨σ7,H7,I7,n7⟩:=q7;exact again I7 n7
   |cont=>obtain ⟨σ7,H7,I7,n7⟩:=q7;exact again I7 n7
   |brk=>obtain ⟨σ7,H7,I7,q7⟩:=q7;exact ⟨σ7,H7,I7.unpinned,q7⟩
   |ret v=>obtain ⟨x7,σ7,H7,I7,r7,q7⟩:=q7;exact ⟨x7,σ7,H7,I7.unpinned,r7,q7⟩
end
theorem e5 {K:PySem.W.Frag} {a:Addr} {xs:List V} {g:TG} {tb:TS} {D:Ends} {σ:St} {H:Hp} (Pv:Nat→St→Hp→Prop) (h0:Pv 0 σ H) (hl:∀i σ H,i≤xs.length→Pv i σ H→SqL K H a xs)
 (hs:∀i x σ H,xs[i]?=some x→Pv i σ H→g x σ H fun σ2 H2=>tb {D with nx:=Pv (i+1),ct:=Pv (i+1),bk:=D.nx} σ2 H2) (hd:∀σ H,Pv xs.length σ H→D.nx σ H):
 ∃W:Nat→Nat→St→Hp→Prop,(∃m,W 0 m σ H)∧∀i m σ H,W i m σ H→
  ((Itl K a).stop i H∧D.nx σ H)∨((Itl K a).go i H∧∃N:St→Hp→Prop,(∀σ' H',N σ' H'→∃m',m' < m∧W (i+1) m' σ' H')∧∀x H',(Itl K a).yld i H x H'→g x σ H' fun σ2 H2=>tb {D with nx:=N,ct:=N,bk:=D.nx} σ2 H2):=by
 refine ⟨fun i m σ H=>m=xs.length - i∧i≤xs.length∧Pv i σ H,⟨xs.length,by simp,zf _,h0⟩,?_⟩
 rintro i m σ H ⟨rfl,hi,p⟩;have q:=hl i σ H hi p;by_cases hlt:i < xs.length
 · refine .inr ⟨⟨xs,xs[i],q,by simp [hlt]⟩,Pv (i+1),fun σ' H' p'=>⟨xs.length - (i+1),by omega,rfl,hlt,p'⟩,fun x H' y=> ?_⟩
   obtain ⟨e,y⟩:=y;subst e;exact hs i x σ _ (y xs q) p
 · have e:i=xs.length:=by omega
   subst e;exact .inl ⟨⟨xs,q,yP _⟩,hd σ H p⟩
theorem nQ {K:PySem.W.Frag} {a:Addr} {xs:List V} {g:TG} {tb:TS} {D:Ends} {σ:St} {H:Hp} (Pv:Nat→St→Hp→Prop) (h0:Pv 0 σ H) (hl:∀i σ H,i≤xs.length→Pv i σ H→SqT K H a xs)
 (hs:∀i x σ H,xs[i]?=some x→Pv i σ H→g x σ H fun σ2 H2=>tb {D with nx:=Pv (i+1),ct:=Pv (i+1),bk:=D.nx} σ2 H2) (hd:∀σ H,Pv xs.length σ H→D.nx σ H):
 ∃W:Nat→Nat→St→Hp→Prop,(∃m,W 0 m σ H)∧∀i m σ H,W i m σ H→
  ((Itt K a).stop i H∧D.nx σ H)∨((Itt K a).go i H∧∃N:St→Hp→Prop,(∀σ' H',N σ' H'→∃m',m' < m∧W (i+1) m' σ' H')∧∀x H',(Itt K a).yld i H x H'→g x σ H' fun σ2 H2=>tb {D with nx:=N,ct:=N,bk:=D.nx} σ2 H2):=by
 refine ⟨fun i m σ H=>m=xs.length - i∧i≤xs.length∧Pv i σ H,⟨xs.length,by simp,zf _,h0⟩,?_⟩
 rintro i m σ H ⟨rfl,hi,p⟩;have q:=hl i σ H hi p;by_cases hlt:i < xs.length
 · refine .inr ⟨⟨xs,xs[i],q,by simp [hlt]⟩,Pv (i+1),fun σ' H' p'=>⟨xs.length - (i+1),by omega,rfl,hlt,p'⟩,fun x H' y=> ?_⟩
   obtain ⟨e,y⟩:=y;subst e;exact hs i x σ _ (y xs q) p
 · have e:i=xs.length:=by omega
   subst e;exact .inl ⟨⟨xs,q,yP _⟩,hd σ H p⟩
theorem cN {lo:Int} {n:Nat} {g:TG} {tb:TS} {D:Ends} {σ:St} {H:Hp} (Pv:Nat→St→Hp→Prop) (h0:Pv 0 σ H)
 (hs:∀i σ H,i < n→Pv i σ H→g (.int (lo+i)) σ H fun σ2 H2=>tb {D with nx:=Pv (i+1),ct:=Pv (i+1),bk:=D.nx} σ2 H2) (hd:∀σ H,Pv n σ H→D.nx σ H):
 ∃W:Nat→Nat→St→Hp→Prop,(∃m,W 0 m σ H)∧∀i m σ H,W i m σ H→
  ((Itr lo n).stop i H∧D.nx σ H)∨((Itr lo n).go i H∧∃N:St→Hp→Prop,(∀σ' H',N σ' H'→∃m',m' < m∧W (i+1) m' σ' H')∧∀x H',(Itr lo n).yld i H x H'→g x σ H' fun σ2 H2=>tb {D with nx:=N,ct:=N,bk:=D.nx} σ2 H2):=by
 refine ⟨fun i m σ H=>m=n - i∧i≤n∧Pv i σ H,⟨n,by simp,zf _,h0⟩,?_⟩
 rintro i m σ H ⟨rfl,hi,p⟩;by_cases hlt:i < n
 · refine .inr ⟨hlt,Pv (i+1),fun σ' H' p'=>⟨n - (i+1),by omega,rfl,hlt,p'⟩,fun x H' y=> ?_⟩
   obtain ⟨e,y⟩:=y;subst e y;exact hs i σ _ hlt p
 · have e:i=n:=by omega
   subst e;exact .inl ⟨yP _,hd σ H p⟩
theorem p5 {c:TT} {tb:TS} {D:Ends} {σ:St} {H:Hp} (Pv:St→Hp→Prop) (μ:St→Hp→Nat) (h0:Pv σ H)
 (hs:∀σ H,Pv σ H→c σ H fun b H1=>if b=true then tb {D with nx:=fun σ' H'=>Pv σ' H'∧μ σ' H' < μ σ H,ct:=fun σ' H'=>Pv σ' H'∧μ σ' H' < μ σ H,bk:=D.nx} σ H1 else D.nx σ H1)
 (mono:∀σ H Q Q',(∀b H1,Q b H1→Q' b H1)→c σ H Q→c σ H Q'):pL c tb D σ H:=by
 refine ⟨fun m σ H=>m=μ σ H∧Pv σ H,⟨_,rfl,h0⟩,?_⟩;rintro m σ H ⟨rfl,p⟩;refine mono σ H _ _ (fun b H1 q=> ?_) (hs σ H p)
 cases b with
 |true=>exact ⟨_,fun σ' H' ⟨p',l⟩=>⟨_,l,rfl,p'⟩,q⟩
 |false=>exact q
open PySem PySem.Spec PyProof.Rows
abbrev R2:=V→V→Hp→VK→Prop
def OpR (X:Cx) (f:Value→Value→Sem Value) (r:R2):Prop:=
 ∀(pins:List (Addr×Obj)) (s:Shared) (σ:St) (H:Hp) (x y:V) (v u:Value) (Q:VK),Inv X pins σ H s→RelV x v→RelV y u→r x y H Q→
  wpAny (model X.prog X.w) X.A (f v u) (EP X pins σ Q) X.xe s
def UnR (X:Cx) (f:Value→Sem Value) (r:V→Hp→VK→Prop):Prop:=
 ∀(pins:List (Addr×Obj)) (s:Shared) (σ:St) (H:Hp) (x:V) (v:Value) (Q:VK),Inv X pins σ H s→RelV x v→r x H Q→
  wpAny (model X.prog X.w) X.A (f v) (EP X pins σ Q) X.xe s
def cB (X:Cx) (f:Value) (r:List V→Hp→VK→Prop):Prop:=
 ∀(pins:List (Addr×Obj)) (s:Shared) (σ:St) (H:Hp) (xs:List V) (us:List Value) (Q:VK),Inv X pins σ H s→Vals xs us→r xs H Q→
  wpAny (model X.prog X.w) X.A (call f us) (EP X pins σ Q) X.xe s
def TruR (X:Cx) (r:V→Hp→(Bool→Hp→Prop)→Prop):Prop:=
 ∀(pins:List (Addr×Obj)) (s:Shared) (σ:St) (H:Hp) (x:V) (v:Value) (Q:Bool→Hp→Prop),Inv X pins σ H s→RelV x v→r x H Q→
  wpAny (model X.prog X.w) X.A (truthy v) (TP X pins σ Q) X.xe s
def tOp (r:R2) (ta tb:TE):TE:=fun σ H Q=>ta σ H fun x H1=>tb σ H1 fun y H2=>r x y H2 Q
def tUn (r:V→Hp→VK→Prop) (ta:TE):TE:=fun σ H Q=>ta σ H fun x H1=>r x H1 Q
def rI (C:Int→Int→Prop) (g:Int→Int→V):R2:=fun x y H Q=>∃i j,x= .int i∧y= .int j∧C i j∧Q (g i j) H
def rI0 (g:Int→Int→V):R2:=fun x y H Q=>∃i j,x= .int i∧y= .int j∧Q (g i j) H
def rU (g:Int→V):V→Hp→VK→Prop:=fun x H Q=>∃i,x= .int i∧Q (g i) H
section
variable {X:Cx} {a b c:Expr} {ta tb tc:TE} {pos:Pos}
theorem binT (ha:PE X a ta) (hb:PE X b tb) {pins:List (Addr×Obj)} {s:Shared} {σ:St} {H:Hp} {R:V→V→Hp→Prop} (I:Inv X pins σ H s)
 (h:ta σ H fun x H1=>tb σ H1 fun y H2=>R x y H2) {Q:Value→Shared→Prop} {f:Value→Value→Sem Value}
 (hf:∀v u s2 x y H2,Inv X pins σ H2 s2→RelV x v→RelV y u→R x y H2→wpAny (model X.prog X.w) X.A (f v u) Q X.xe s2):
 wpAny (model X.prog X.w) X.A (eval a X.env) (fun v s₁=>wpAny (model X.prog X.w) X.A (eval b X.env) (fun u s₂=>wpAny (model X.prog X.w) X.A (f v u) Q X.xe s₂) X.xe s₁) X.xe s:=by
 refine thn (ha pins s σ H _ I h) fun v s1 ⟨x,H1,I1,r1,q1⟩=> ?_;refine thn (hb pins s1 σ H1 _ I1 q1) fun u s2 ⟨y,H2,I2,r2,q2⟩=> ?_;exact hf v u s2 x y H2 I2 r1 r2 q2
theorem aj {op:Operator} {r:R2} (ho:OpR X (binaryOp op) r) (ha:PE X a ta) (hb:PE X b tb):PE X (.BinOp a op b pos) (tOp r ta tb):=by
 intro pins s σ H Q I h;exact wpAny_BinOp (binT ha hb I h fun v u s2 x y H2 I2 rx ry q=>ho pins s2 σ H2 x y v u Q I2 rx ry q)
theorem c9 {op:UnaryOp} {r:V→Hp→VK→Prop} (ho:UnR X (unaryOp op) r) (ha:PE X a ta):PE X (.UnaryOp op a pos) (tUn r ta):=by
 intro pins s σ H Q I h;exact UnaryOp_ (thn (ha pins s σ H _ I h) fun v s1 ⟨x,H1,I1,r1,q1⟩=>ho pins s1 σ H1 x v Q I1 r1 q1)
theorem opI {f:Value→Value→Sem Value} {C:Int→Int→Prop} {g:Int→Int→Int}
 (rule:∀(i j:Int) (t u:Tok) (s:Shared) (Q:Value→Shared→Prop) (E:Value→Shared→Prop),C i j→Q (.int (g i j) s.toks) {s with toks:=s.toks+1}→wpAny (model X.prog X.w) X.A (f (.int i t) (.int j u)) Q E s):
 OpR X f (rI C fun i j=> .int (g i j)):=by
 intro pins s σ H x y v u Q I rx ry h;obtain ⟨i,j,rfl,rfl,hc,q⟩:=h;obtain ⟨t,rfl⟩:=rx;obtain ⟨t',rfl⟩:=ry;exact rule i j t t' s _ _ hc ⟨.int (g i j),H,I.tok _,⟨_,rfl⟩,q⟩
theorem opI0 {f:Value→Value→Sem Value} {g:Int→Int→Int}
 (rule:∀(i j:Int) (t u:Tok) (s:Shared) (Q:Value→Shared→Prop) (E:Value→Shared→Prop),Q (.int (g i j) s.toks) {s with toks:=s.toks+1}→wpAny (model X.prog X.w) X.A (f (.int i t) (.int j u)) Q E s):
 OpR X f (rI0 fun i j=> .int (g i j)):=by
 intro pins s σ H x y v u Q I rx ry h;obtain ⟨i,j,rfl,rfl,q⟩:=h;obtain ⟨t,rfl⟩:=rx;obtain ⟨t',rfl⟩:=ry;exact rule i j t t' s _ _ ⟨.int (g i j),H,I.tok _,⟨_,rfl⟩,q⟩
theorem opB0 {f:Value→Value→Sem Value} {g:Int→Int→Bool}
 (rule:∀(i j:Int) (t u:Tok) (s:Shared) (Q:Value→Shared→Prop) (E:Value→Shared→Prop),Q (.bool (g i j)) s→wpAny (model X.prog X.w) X.A (f (.int i t) (.int j u)) Q E s):
 OpR X f (rI0 fun i j=> .bl (g i j)):=by
 intro pins s σ H x y v u Q I rx ry h;obtain ⟨i,j,rfl,rfl,q⟩:=h;obtain ⟨t,rfl⟩:=rx;obtain ⟨t',rfl⟩:=ry;exact rule i j t t' s _ _ ⟨.bl (g i j),H,I,rfl,q⟩
def CDiv (i j:Int):Prop:=0 < j∧j < 1073741824
def CMul (i j:Int):Prop:=(-(2^64) < i∧i < 2^64)∨(-(2^64) < j∧j < 2^64)
theorem CMul.ok {i j:Int} (h:CMul i j):IntMulOk i j:=by
 rcases h with ⟨h1,h2⟩|⟨h1,h2⟩
 · exact .of_left (intBits_le_64 h1 h2)
 · exact .of_right (intBits_le_64 h1 h2)
theorem l6 (k:Nat):(0:Int)≤2^k:=by
 rw [two_pow_cast];exact Int.natCast_nonneg _
theorem aR:OpR X (binaryOp .Add) (rI0 fun i j=> .int (i+j)):=opI0 fun _ _ _ _ _ _ _ q=>add_int q
theorem i5:OpR X (binaryOp .Sub) (rI0 fun i j=> .int (i - j)):=opI0 fun _ _ _ _ _ _ _ q=>sub_int q
theorem ci:OpR X (binaryOp .Mult) (rI CMul fun i j=> .int (i*j)):=opI fun _ _ _ _ _ _ _ hc q=>mul_int q hc.ok
theorem uh:OpR X (binaryOp .FloorDiv) (rI CDiv fun i j=> .int (i / j)):=opI fun i j _ _ _ _ _ hc q=>by
 have h1:(0:Int) < j:=hc.1;have h2:j < 1073741824:=hc.2;exact floordiv_int (by omega) (by rw [A5 i (by omega)];exact q) (.inl (PyProof.noPylong_small (by omega)))
theorem cV:OpR X (binaryOp .Mod) (rI (fun _ j=>0 < j) fun i j=> .int (i%j)):=opI fun i j _ _ _ _ _ hc q=>by
 have h1:(0:Int) < j:=hc;exact mod_int' (by omega) (by rw [Int.fmod_eq_emod_of_nonneg i (by omega)];exact q)
theorem ug:OpR X (binaryOp .Mod) (rI (fun _ j=>j≠0) fun i j=> .int (i.fmod j)):=opI fun _ _ _ _ _ _ _ hc q=>mod_int' hc q
theorem we:OpR X (binaryOp .RShift) (rI (fun _ j=>0≤j) fun i j=> .int (i / 2^j.toNat)):=opI fun i j _ _ _ _ _ hc q=>
 rshift_int hc (by rw [A5 i (l6 _)];exact q)
theorem unI {f:Value→Sem Value} {g:Int→Int}
 (rule:∀(i:Int) (t:Tok) (s:Shared) (Q:Value→Shared→Prop) (E:Value→Shared→Prop),Q (.int (g i) s.toks) {s with toks:=s.toks+1}→wpAny (model X.prog X.w) X.A (f (.int i t)) Q E s):
 UnR X f (rU fun i=> .int (g i)):=by
 intro pins s σ H x v Q I rx h;obtain ⟨i,rfl,q⟩:=h;obtain ⟨t,rfl⟩:=rx;exact rule i t s _ _ ⟨.int (g i),H,I.tok _,⟨_,rfl⟩,q⟩
theorem bq:UnR X (unaryOp .USub) (rU fun i=> .int (-i)):=unI fun _ _ _ _ _ q=>neg_int q
end
noncomputable def scal:V→V→Bool
 | .non, .non=>true| .non, .int _=>true| .int _, .non=>true| .non, .bl _=>true| .bl _, .non=>true| .non, .str _=>true| .str _, .non=>true
 | .int _, .int _=>true| .bl _, .bl _=>true| .str _, .str _=>true| .byt _, .byt _=>true
 | .int _, .str _=>true| .str _, .int _=>true| .bl _, .str _=>true| .str _, .bl _=>true
 |_,_=>false
def rEq:R2:=fun x y H Q=>scal x y=true∧Q (.bl (decide (x=y))) H
def rNe:R2:=fun x y H Q=>scal x y=true∧Q (.bl (!decide (x=y))) H
theorem nY {i j:Int}:decide (V.int i=V.int j)=(i==j):=by
 rw [Ac];simp
theorem sX {i j:Bool}:decide (V.bl i=V.bl j)=(i==j):=by
 rw [Ac];simp
theorem nX {i j:Str}:decide (V.str i=V.str j)=(i==j):=by
 rw [Ac];simp
theorem o0 {i j:Array UInt8}:decide (V.byt i=V.byt j)=(i.toList==j.toList):=by
 rw [Ac];cases i;cases j;simp
section
variable {X:Cx} {a b c:Expr} {ta tb tc:TE} {pos:Pos}
theorem aK {pins:List (Addr×Obj)} {σ:St} {H:Hp} {s:Shared} {Q:VK} {k k':Bool} (I:Inv X pins σ H s) (q:Q (.bl k) H) (e:k=k'):EP X pins σ Q (.bool k') s:=by
 subst e;exact ⟨.bl k,H,I,rfl,q⟩
theorem dB:OpR X (compareOp .Eq) rEq:=by
 intro pins s σ H x y v u Q I rx ry h;obtain ⟨hs,q⟩:=h
 cases x with
 |non=>
  cases rx
  cases y with
  |non=>cases ry;exact PySem.EqNone.eq_none_none (aK I q (by simp))
  |bl j=>cases ry;exact PySem.EqNone.eq_none_bool (aK I q (by simp))
  |int j=>obtain ⟨t',rfl⟩:=ry;exact PySem.EqNone.eq_none_int (aK I q (by simp))
  |str j=>obtain ⟨t',rfl⟩:=ry;exact PySem.EqNone.eq_none_str (aK I q (by simp))
  |_=>exact absurd (show false=true from hs) zk
 |bl i=>
  cases rx
  cases y with
  |non=>cases ry;exact PySem.EqNone.eq_bool_none (aK I q (by simp))
  |bl j=>cases ry;exact eq_bool (aK I q sX)
  |str j=>obtain ⟨t',rfl⟩:=ry;exact PySem.EqMixed.eq_bool_str (aK I q (by simp))
  |_=>exact absurd (show false=true from hs) zk
 |int i=>
  obtain ⟨t,rfl⟩:=rx
  cases y with
  |non=>cases ry;exact PySem.EqNone.eq_int_none (aK I q (by simp))
  |int j=>obtain ⟨t',rfl⟩:=ry;exact eq_int (aK I q nY)
  |str j=>obtain ⟨t',rfl⟩:=ry;exact PySem.EqMixed.eq_int_str (aK I q (by simp))
  |_=>exact absurd (show false=true from hs) zk
 |str i=>
  obtain ⟨t,rfl⟩:=rx
  cases y with
  |non=>cases ry;exact PySem.EqNone.eq_str_none (aK I q (by simp))
  |bl j=>cases ry;exact PySem.EqMixed.eq_str_bool (aK I q (by simp))
  |int j=>obtain ⟨t',rfl⟩:=ry;exact PySem.EqMixed.eq_str_int (aK I q (by simp))
  |str j=>obtain ⟨t',rfl⟩:=ry;exact eq_str (aK I q nX)
  |_=>exact absurd (show false=true from hs) zk
 |byt i=>
  obtain ⟨t,rfl⟩:=rx
  cases y with
  |byt j=>obtain ⟨t',rfl⟩:=ry;exact PySem.W.eq_bytes (aK I q o0)
  |_=>exact absurd (show false=true from hs) zk
 |_=>cases y<;>exact absurd (show false=true from hs) zk
theorem rL:OpR X (compareOp .NotEq) rNe:=by
 intro pins s σ H x y v u Q I rx ry h;obtain ⟨hs,q⟩:=h
 cases x with
 |non=>
  cases rx
  cases y with
  |non=>cases ry;exact PySem.EqNone.ne_none_none (aK I q (by simp))
  |bl j=>cases ry;exact PySem.EqNone.ne_none_bool (aK I q (by simp))
  |int j=>obtain ⟨t',rfl⟩:=ry;exact PySem.EqNone.ne_none_int (aK I q (by simp))
  |str j=>obtain ⟨t',rfl⟩:=ry;exact PySem.EqNone.ne_none_str (aK I q (by simp))
  |_=>exact absurd (show false=true from hs) zk
 |bl i=>
  cases rx
  cases y with
  |non=>cases ry;exact PySem.EqNone.ne_bool_none (aK I q (by simp))
  |bl j=>cases ry;exact ne_bool (aK I q (congrArg not sX))
  |str j=>obtain ⟨t',rfl⟩:=ry;exact PySem.EqMixed.ne_bool_str (aK I q (by simp))
  |_=>exact absurd (show false=true from hs) zk
 |int i=>
  obtain ⟨t,rfl⟩:=rx
  cases y with
  |non=>cases ry;exact PySem.EqNone.ne_int_none (aK I q (by simp))
  |int j=>obtain ⟨t',rfl⟩:=ry;exact ne_int (aK I q (congrArg not nY))
  |str j=>obtain ⟨t',rfl⟩:=ry;exact PySem.EqMixed.ne_int_str (aK I q (by simp))
  |_=>exact absurd (show false=true from hs) zk
 |str i=>
  obtain ⟨t,rfl⟩:=rx
  cases y with
  |non=>cases ry;exact PySem.EqNone.ne_str_none (aK I q (by simp))
  |bl j=>cases ry;exact PySem.EqMixed.ne_str_bool (aK I q (by simp))
  |int j=>obtain ⟨t',rfl⟩:=ry;exact PySem.EqMixed.ne_str_int (aK I q (by simp))
  |str j=>obtain ⟨t',rfl⟩:=ry;exact ne_str (aK I q (congrArg not nX))
  |_=>exact absurd (show false=true from hs) zk
 |byt i=>
  obtain ⟨t,rfl⟩:=rx
  cases y with
  |byt j=>obtain ⟨t',rfl⟩:=ry;exact PySem.W.ne_bytes (aK I q (congrArg not o0))
  |_=>exact absurd (show false=true from hs) zk
 |_=>cases y<;>exact absurd (show false=true from hs) zk
theorem iF:OpR X (compareOp .Lt) (rI0 fun i j=> .bl (decide (i < j))):=opB0 fun _ _ _ _ _ _ _ q=>lt_int q
theorem yw:OpR X (compareOp .LtE) (rI0 fun i j=> .bl (decide (i≤j))):=opB0 fun _ _ _ _ _ _ _ q=>le_int q
theorem eK:OpR X (compareOp .Gt) (rI0 fun i j=> .bl (decide (j < i))):=opB0 fun _ _ _ _ _ _ _ q=>gt_int q
theorem rM:OpR X (compareOp .Is) (fun x y H Q=>y= .non∧Q (.bl (decide (x= .non))) H):=by
 intro pins s σ H x y v u Q I rx ry h;obtain ⟨rfl,q⟩:=h;cases ry;refine is_none_gen (aK I q ?_)
 cases x<;>first
  |(cases rx;rfl)
  |(obtain ⟨t,rfl⟩:=rx;rfl)
theorem aE (b:Expr) {op:CmpOp} (h:op≠ .In:=by decide) (h2:op≠ .NotIn:=by decide):behindInMarks op b=false:=by
 have e1:(op==CmpOp.In)=false:=by cases op<;>first|rfl|exact absurd rfl h
 have e2:(op==CmpOp.NotIn)=false:=by cases op<;>first|rfl|exact absurd rfl h2
 cases b<;>simp [behindInMarks,e1,e2]
theorem cL {op:CmpOp} {r:R2} (ho:OpR X (compareOp op) r) (ha:PE X a ta) (hb:PE X b tb) (hm:behindInMarks op b=false):PE X (.Compare a [op] [b] pos) (tOp r ta tb):=by
 intro pins s σ H Q I h;exact wpAny_Compare1 (binT ha hb I h fun v u s2 x y H2 I2 rx ry q=>ho pins s2 σ H2 x y v u Q I2 rx ry q) hm
def xM (t:TE):TT:=fun σ H Q=>t σ H fun x H'=>∃k,x= .bl k∧Q k H'
theorem aF {op:CmpOp} {r:R2} (ho:OpR X (compareOp op) r) (ha:PE X a ta) (hb:PE X b tb) (hm:behindInMarks op b=false):PT X (.Compare a [op] [b] pos) (xM (tOp r ta tb)):=by
 intro pins s σ H Q I h
 refine wpAny_isTrue_Compare1 (thn (ha pins s σ H _ I h) fun v s1 ⟨x,H1,I1,r1,q1⟩=>thn (hb pins s1 σ H1 _ I1 q1) fun u s2 ⟨y,H2,I2,r2,q2⟩=>
  thn (ho pins s2 σ H2 x y v u _ I2 r1 r2 q2) fun c s3 ⟨z,H3,I3,r3,k,e,q3⟩=> ?_) hm
 subst e;cases r3;exact wpAny_truthy_bool ⟨H3,I3,q3⟩
def TruV (K:PySem.W.Frag) (x:V) (H:Hp) (k:Bool):Prop:=
 match x with
 | .non=>k=false
 | .bl b=>k=b
 | .int i=>k=(i !=0)
 | .str y=>y.length≤sizeLine∧k=((y.length:Int) !=0)
 | .byt y=>y.size≤sizeLine∧k=((y.size:Int) !=0)
 | .ref p=>(∃xs,SqL K H p xs∧k= !xs.isEmpty)∨(∃xs,SqT K H p xs∧k= !xs.isEmpty)∨∃kvs,H p=some (.dK kvs)∧k= !kvs.isEmpty
 |_=>False
theorem lV {κ:Type} {kvs:List (κ×V)} {vs:List (κ×Value)} (r:KV kvs vs):(!vs.isEmpty)= !kvs.isEmpty:=by
 cases r<;>rfl
theorem ij {xs:List V} {its:List Value} (r:Vals xs its):(!its.toArray.isEmpty)= !xs.isEmpty:=by
 cases r<;>simp
theorem fE:(sizeLine:Nat) < 2^63:=by rw [sizeLine_eq];decide
theorem vE:TruR X (fun x H Q=>∃k,TruV X.K x H k∧Q k H):=by
 intro pins s σ H x v Q I rx h;obtain ⟨k,e,q⟩:=h;have hl:=fE;have hs:sizeLine=16777216:=sizeLine_eq
 cases x with
 |non=>
  cases rx;have e':k=false:=e;subst e';exact truthy_none ⟨H,I,q⟩
 |bl b=>
  cases rx;have e':k=b:=e;subst e';exact wpAny_truthy_bool ⟨H,I,q⟩
 |int i=>
  obtain ⟨t,rfl⟩:=rx;have e':k=(i !=0):=e;subst e';exact PySem.P.truthy_int ⟨H,I,q⟩
 |str y=>
  obtain ⟨t,rfl⟩:=rx;obtain ⟨hy,e'⟩:y.length≤sizeLine∧k=((y.length:Int) !=0):=e;subst e';exact PySem.P.truthy_str (by omega) ⟨H,I.tok _,q⟩
 |byt y=>
  obtain ⟨t,rfl⟩:=rx;obtain ⟨hy,e'⟩:y.size≤sizeLine∧k=((y.size:Int) !=0):=e;subst e';exact PySem.W.truthy_bytes (by omega) ⟨H,I.tok _,q⟩
 |ref p=>
  cases rx;have e':(∃xs,SqL X.K H p xs∧k= !xs.isEmpty)∨(∃xs,SqT X.K H p xs∧k= !xs.isEmpty)∨∃kvs,H p=some (.dK kvs)∧k= !kvs.isEmpty:=e;rcases e' with ⟨xs,hx,e'⟩|⟨xs,hx,e'⟩|⟨kvs,hx,e'⟩
  · subst e';obtain ⟨its,r,pl,hz⟩:=I.list hx;have hlen:=r.length;exact wpAny_truthy_list pl.isList (by simp only [yU];omega) ⟨H,I.tok _,by rw [ij r];exact q⟩
  · subst e';obtain ⟨its,r,pl,hz⟩:=I.tuple hx;have hlen:=r.length;exact truthy_tuple pl (by simp only [yU];omega) ⟨H,I.tok _,by rw [ij r];exact q⟩
  · subst e';obtain ⟨hz,hS,vs,r,m⟩:kvs.length≤sizeLine∧(p==sysModules)=false∧∃vs,KV kvs vs∧s.heap.DictOf (aM X.prog X.w) p vs:=I.hok p _ hx;have hlen:kvs.length=vs.length:=Paired.length r;exact wpAny_truthy_dict hS m (by omega) ⟨H,I.tok _,by rw [lV r];exact q⟩
 |_=>exact (show False from e).elim
theorem jR (ha:PE X a ta) (he:∀whole,isTrue a X.env whole=(do let v←whole;standAt a.pos;holding [v] (truthy v))):
 PT X a (fun σ H Q=>ta σ H fun x H'=>∃k,TruV X.K x H' k∧Q k H'):=by
 intro pins s σ H Q I h;exact isTrue_plain (thn (ha pins s σ H _ I h) fun v s1 ⟨x,H1,I1,r1,q1⟩=>vE pins s1 σ H1 x v Q I1 r1 q1) (he _)
theorem i7:OpR X (binaryOp .Add) (fun x y H Q=>∃i j,x= .str i∧y= .str j∧i.length+j.length≤sizeLine∧Q (.str (i++j)) H):=by
 intro pins s σ H x y v u Q I rx ry h;obtain ⟨i,j,rfl,rfl,hz,q⟩:=h;obtain ⟨t,rfl⟩:=rx;obtain ⟨t',rfl⟩:=ry;exact add_str (fun t' tk=>⟨.str (i++j),H,I.tok _,⟨_,rfl⟩,q⟩) hz
theorem cP {x:V} {us:List Value} (r:Vals [x] us):∃u,us= [u]∧RelV x u:=by
 cases r with
 |cons r1 r2=>cases r2;exact ⟨_,rfl,r1⟩
theorem kU:cB X (.builtin "abs") (fun xs H Q=>∃i,xs= [.int i]∧Q (.int (if i < 0 then -i else i)) H):=by
 intro pins s σ H xs us Q I r h;obtain ⟨i,rfl,q⟩:=h;obtain ⟨u,rfl,t,rfl⟩:=cP r;exact call_abs_int fun u tk=>⟨.int (if i < 0 then -i else i),H,I.tok _,⟨_,rfl⟩,q⟩
end
open PySem PySem.Spec PyProof.Rows
structure ObjM (h:Heap) (x dx C:Addr) (mA:Str→Option Value):Prop where
 obj:h.get? x=some (PySem.W.instObj C dx)
 ns:h.Ns1 dx mA
 ne:dx≠x
theorem oK {h:Heap} {dx:Addr} {mA:Str→Option Value} (n:h.Ns1 dx mA):∃od,h.get? dx=some od∧∀name,PySem.W.lookIn name od=some (mA name):=by
 obtain ⟨o,es,ep,ho,hd,hk,_,hm⟩:=n;refine ⟨o,ho,fun name=> ?_⟩;have e:=hm name;unfold nsFind findBy at e;rw [←Array.find?_toList] at e;unfold PySem.W.lookIn;rw [hd];dsimp only;split
 · rename_i y q;rw [q] at e;exact congrArg some e
 · rename_i q;rw [q] at e
   have a:es.toList.any (·.refKey)=false:=by
    rw [List.any_eq_false];intro y hy;obtain ⟨z,t,hkey⟩:=hk y (Array.mem_toList_iff.mp hy);simp [DictEntry.refKey,hkey]
   have a':¬es.toList.any (·.refKey)=true:=by rw [a];exact zk
   rw [if_neg a'];exact congrArg some e
theorem ObjM.look {h:Heap} {x dx C:Addr} {mA:Str→Option Value} (I:ObjM h x dx C mA):∃od,PySem.W.InstAt h x (PySem.W.instObj C dx) C (some od)∧∀name,PySem.W.lookIn name od=some (mA name):=
 let ⟨od,ho,hl⟩:=oK I.ns
 ⟨od,⟨I.obj,rfl,rfl,ho⟩,hl⟩
section
variable {prog:Program} {w:World} {A:Around} {E:Value→Shared→Prop} {s:Shared} {K:PySem.W.Frag} {x dx C f:Addr} {mA:Str→Option Value} {name:Str} {v:Value}
theorem uI {expr:Bool} {Q:Value→Shared→Prop} (X:K.In s.heap) (I:ObjM s.heap x dx C mA) (hg:PySem.W.plainGet K C name=true) (hh:PySem.W.hasDictIn K C=true)
 (ha:PySem.W.findIn K (.ref C) name=some none) (hv:mA name=some v) (hv':PySem.W.handedIn v=true) (h:Q v {s with toks:=s.toks+1}):
 wpAny (model prog w) A (getAttr (.ref x) name expr) Q E s:=by
 obtain ⟨od,J,hl⟩:=I.look;exact PySem.W.get_value X J (PySem.W.plainGet_of hg).1 (PySem.W.findObj_own hh ha rfl (by rw [hl,hv])) hv' h
theorem tV {ns:List Str} {Q:Unit→Shared→Prop} (X:K.In s.heap) (I:ObjM s.heap x dx C mA)
 (hs:PySem.W.findIn K (.ref C) "__setattr__"=some (some (.builtin "object.__setattr__"))) (hp:PySem.W.plainOver K C=true) (ht:PySem.W.takerIn K C name=some none) (hh:PySem.W.hasDictIn K C=true)
 (hw:PySem.Within mA ns) (hsz:ns.length≤sizeLine)
 (h:∀h',ObjM h' x dx C (fun y=>if y=name then some v else mA y)→Heap.SameBut dx s.heap h'→Q () {s with heap:=h',toks:=s.toks+2}):
 wpAny (model prog w) A (setAttr (.ref x) name v) Q E s:=by
 obtain ⟨od,J,hl⟩:=I.look;refine PySem.W.set_plain X J hs (PySem.W.osa_open (s:= {s with toks:=s.toks+1}) (r:=none) X J hp ht fun b=> ?_);obtain ⟨cd,hc,hd'⟩:=PySem.W.any_some hh;have hx:s.heap.get? x=some ⟨.ref C,some dx, .plain, #[]⟩:=I.obj;refine wpAny_bind (wpAny_pure (wpAny_bind (wpAny_bind (wpAny_loadPart hx (wpAny_bind (PySem.W.Looks.here (s:= {s with toks:=s.toks+1}) (PySem.W.looks_clsIn X hc) ?_))))));rw [hd'];refine wpAny_pure (a:=some dx) (wpAny_bind (wpAny_pure (wpAny_bind ?_)));refine wpAny_nsSet1 (s:= {s with toks:=s.toks+1}) I.ns fun h' hn2 hs2=> ?_;obtain ⟨oD,esD,epD,hoD,hdD,hcD⟩:=hn2.count (PySem.Within.cons name v hw);refine wpAny_bind (wpAny_lookBehind hoD (by rw [hdD];exact pastItsLine_dict (yY hcD (by rw [za];omega))) ?_)
 exact wpAny_pure (h _ ⟨(hs2.2 _ (Ne.symm I.ne)).trans I.obj,hn2,I.ne⟩ hs2)
theorem rZ {R:Result→Shared→Prop} {vs:List Value} {kw:List (Str×Value)} (X:K.In s.heap) (hm:PySem.W.makesIn K C=true)
 (hi:PySem.W.findIn K (.ref C) "__init__"=some (some (.ref f))) (hf:PySem.W.typeIn K (.ref f)=some (.type "function"))
 (h:codeAny (model prog w) (A.under (.builtin "type.__call__" ⟨.ref C::vs,kw⟩)) (.call (.ref f) ⟨.ref (s.heap.objs.size+1)::vs,kw⟩) (PySem.W.InitBack (s.heap.objs.size+1) R)
  {s with heap:=(s.heap.push PySem.W.emptyDict).push (PySem.W.instObj C s.heap.objs.size)}):
 codeAny (model prog w) A (.call (.ref C) ⟨vs,kw⟩) R s:=by
 obtain ⟨hh,g,d,t,os⟩:=s;exact PySem.W.make_core (PySem.W.makes_of X hm) (PySem.W.looks_findIn X hi) (fun self=>PySem.W.bind_fn X self hf) (.inl rfl) h
end
noncomputable def putF (f:Str) (v:V):List (Str×V)→List (Str×V)
 | []=> [(f,v)]
 |(g,x)::r=>if g=f then (g,v)::r else (g,x)::putF f v r
theorem fV (f g:Str) (v:V):∀fs:List (Str×V),(putF f v fs).lookup g=if g=f then some v else fs.lookup g
 | []=>by
  show List.lookup g [(f,v)]=_;by_cases h:g=f
  · have hb:(g==f)=true:=beq_iff_eq.mpr h;simp only [List.lookup,hb,if_pos h]
  · have hb:(g==f)=false:=beq_eq_false_iff_ne.mpr h;simp only [List.lookup,hb,if_neg h]
 |(k,x)::r=>by
  have ih:=fV f g v r;rw [show putF f v ((k,x)::r)=(if k=f then (k,v)::r else (k,x)::putF f v r) from rfl];by_cases hk:k=f
  · rw [if_pos hk];by_cases h:g=k
    · have hb:(g==k)=true:=beq_iff_eq.mpr h;simp only [List.lookup,hb,if_pos (h.trans hk)]
    · have hb:(g==k)=false:=beq_eq_false_iff_ne.mpr h;simp only [List.lookup,hb,if_neg (fun e:g=f=>h (e.trans hk.symm))]
  · rw [if_neg hk];by_cases h:g=k
    · have hb:(g==k)=true:=beq_iff_eq.mpr h;simp only [List.lookup,hb,if_neg (fun e:g=f=>hk (h.symm.trans e))]
    · have hb:(g==k)=false:=beq_eq_false_iff_ne.mpr h;simp only [List.lookup,hb];exact ih
theorem fJ (f:Str) (v:V):∀fs:List (Str×V),f∈(putF f v fs).map (·.1)∧∀g,g∈fs.map (·.1)→g∈(putF f v fs).map (·.1)
 | []=>⟨by simp [putF],fun g h=>by simp at h⟩
 |(k,x)::r=>by
  obtain ⟨i1,i2⟩:=fJ f v r;rw [show putF f v ((k,x)::r)=(if k=f then (k,v)::r else (k,x)::putF f v r) from rfl];by_cases hk:k=f
  · rw [if_pos hk];subst hk;exact ⟨by simp,fun g h=>by simpa using h⟩
  · rw [if_neg hk];refine ⟨?_,fun g h=> ?_⟩
    · rw [zc];exact yR _ i1
    · rw [zc] at h ⊢;rcases yV.mp h with e|e
      · exact yV.mpr (.inl e)
      · exact yR _ (i2 g e)
theorem g6 (f:Str) (v:V):∀fs:List (Str×V),(putF f v fs).length≤fs.length+1
 | []=>by simp [putF]
 |(k,x)::r=>by
  have ih:=g6 f v r;rw [show putF f v ((k,x)::r)=(if k=f then (k,v)::r else (k,x)::putF f v r) from rfl];by_cases hk:k=f
  · rw [if_pos hk,za,za];omega
  · rw [if_neg hk,za,za];omega
theorem RelO.some_of {v:V} {o:Option Value} (r:RelO (some v) o):∃u,o=some u∧RelV v u:=by
 cases o with
 |none=>exact (show False from r).elim
 |some u=>exact ⟨u,rfl,r⟩
theorem oS {v:V} {u:Value} (r:RelV v u):PySem.W.handedIn u=true:=by
 cases v with
 |non=>cases (show u=Value.none from r);rfl
 |bl b=>cases (show u=Value.bool b from r);rfl
 |int i=>obtain ⟨t,e⟩:=(show∃t,u=Value.int i t from r);cases e;rfl
 |str x=>obtain ⟨t,e⟩:=(show∃t,u=Value.str x t from r);cases e;rfl
 |byt b=>obtain ⟨t,e⟩:=(show∃t,u=Value.bytes b t from r);cases e;rfl
 |flt b=>obtain ⟨t,e⟩:=(show∃t,u=Value.float b t from r);cases e;rfl
 |ref a=>cases (show u=Value.ref a from r);rfl
 |ty n=>cases (show u=Value.type n from r);rfl
section
variable {P:Program} {w:World} {H H':Hp} {h h':Heap} {a C dx:Addr} {fs fs':List (Str×V)}
theorem nI (hok:HOk P w H h) (e:H a=some (.ins C dx fs)):∃mA,ObjM h a dx C mA∧(∀f,RelO (fs.lookup f) (mA f))∧PySem.Within mA (fs.map (·.1))∧fs.length≤1000∧H dx=some (.own a):=by
 obtain ⟨d,z,ne,ob,mA,n,r,q⟩:=(show ObjOk P w H h a (.ins C dx fs) from hok a _ e);exact ⟨mA,⟨ob,n,ne⟩,r,q,z,d⟩
end
structure Cls (K:PySem.W.Frag) (C:Addr):Prop where
 pg:PySem.W.plainGet K C Str.empty=true
 hd:PySem.W.hasDictIn K C=true
 po:PySem.W.plainOver K C=true
 sa:PySem.W.findIn K (.ref C) "__setattr__"=some (some (.builtin "object.__setattr__"))
theorem Cls.get {K:PySem.W.Frag} {C:Addr} (c:Cls K C) (f:Str):PySem.W.plainGet K C f=true:=c.pg
def NoAttr (K:PySem.W.Frag) (C:Addr) (f:Str):Prop:=PySem.W.findIn K (.ref C) f=some none
theorem NoAttr.taker {K:PySem.W.Frag} {C:Addr} {f:Str} (n:NoAttr K C f):PySem.W.takerIn K C f=some none:=by
 unfold PySem.W.takerIn;rw [show PySem.W.findIn K (.ref C) f=some none from n];rfl
section
variable {X:Cx} {pins:List (Addr×Obj)} {σ:St} {H:Hp} {s:Shared} {a C dx:Addr} {fs:List (Str×V)} {f:Str} {v:V} {A:Around} {E:Value→Shared→Prop}
theorem lX {b:Bool} {Q:Value→Shared→Prop} (I:Inv X pins σ H s) (e:H a=some (.ins C dx fs)) (c:Cls X.K C) (n:NoAttr X.K C f) (l:fs.lookup f=some v)
 (h:∀u s',Inv X pins σ H s'→RelV v u→Q u s'):wpAny (model X.prog X.w) A (getAttr (.ref a) f b) Q E s:=by
 obtain ⟨mA,O,r,_,_,_⟩:=nI I.hok e;obtain ⟨u,hu,ru⟩:=RelO.some_of (v:=v) (o:=mA f) (by rw [←l];exact r f)
 exact uI I.kIn O (c.get f) c.hd n hu (oS ru) (h u _ (I.tok _) ru)
theorem lD {y:V} {u:Value} {Q:Unit→Shared→Prop} (I:Inv X pins σ H s) (e:H a=some (.ins C dx fs)) (c:Cls X.K C) (n:NoAttr X.K C f) (hl:fs.length < 1000) (ry:RelV y u)
 (h:∀s',Inv X pins σ (upd H a (.ins C dx (putF f y fs))) s'→Q () s'):wpAny (model X.prog X.w) A (setAttr (.ref a) f u) Q E s:=by
 obtain ⟨mA,O,r,wi,_,ho⟩:=nI I.hok e;have hz:(fs.map (·.1)).length≤sizeLine:=by rw [yM,sizeLine_eq];omega
 refine tV I.kIn O c.sa c.po n.taker c.hd wi hz fun h' O' sb=>h _ ?_;have hd:∃o,h'.get? dx=some o:=let ⟨o,_,_,e',_⟩:=O'.ns;⟨o,e'⟩;refine I.write (x:=a) (e:=dx) (by rw [e];exact True.intro) (.inr ho) (fun b q hb z=>(sb.2 b hb).trans z) hd ?_
 refine ⟨by rw [af O.ne];exact ho,?_,O.ne,O'.obj,_,O'.ns,fun g=> ?_,fun g hg=> ?_⟩
 · have:=g6 f y fs;omega
 · show RelO ((putF f y fs).lookup g) (if g=f then some u else mA g);rw [fV];by_cases q:g=f
   · rw [if_pos q,if_pos q];exact ry
   · rw [if_neg q,if_neg q];exact r g
 · by_cases q:g=f
   · rw [q];exact (fJ f y fs).1
   · refine (fJ f y fs).2 g (wi g fun z=>hg ?_);show (if g=f then some u else mA g)=none;rw [if_neg q];exact z
theorem Inv.made (I:Inv X pins σ H s):Inv X pins σ (upd (upd H s.heap.objs.size (.own (s.heap.objs.size+1))) (s.heap.objs.size+1) (.ins C s.heap.objs.size []))
 {s with heap:=(s.heap.push PySem.W.emptyDict).push (PySem.W.instObj C s.heap.objs.size)}:=by
 have e1:(s.heap.push PySem.W.emptyDict).get? s.heap.objs.size=some PySem.W.emptyDict:=Heap.get?_push_size s.heap rfl
 have e2:((s.heap.push PySem.W.emptyDict).push (PySem.W.instObj C s.heap.objs.size)).get? (s.heap.objs.size+1)=some (PySem.W.instObj C s.heap.objs.size):=by
  have:=Heap.get?_push_size (s.heap.push PySem.W.emptyDict) (o:=PySem.W.instObj C s.heap.objs.size) rfl
  rwa [Heap.size_push] at this
 have e3:(s.heap.push PySem.W.emptyDict).Ns s.heap.objs.size (fun _=>none):=⟨PySem.W.emptyDict, #[],_,e1,rfl,(fun e he=>absurd he (by simp)),fun _=>rfl⟩
 have I1:=I.laid (a:=s.heap.objs.size) (o:= .own (s.heap.objs.size+1)) (h':=s.heap.push PySem.W.emptyDict) (t':=s.toks) (fun b u q=>Heap.get?_push_of_some _ q) (yP _) ⟨_,e1⟩;refine I1.laid (a:=s.heap.objs.size+1) (o:= .ins C s.heap.objs.size []) (t':=s.toks) (fun b u q=>Heap.get?_push_of_some _ q) (Nat.le_of_eq (Heap.size_push _ _)) ?_;have ne:s.heap.objs.size≠s.heap.objs.size+1:=yZ (A6 _);refine ⟨by rw [af ne,a8],zf _,ne,e2,fun _=>none,(Heap.Ns1.of_empty e3).at fun o q=>Heap.get?_push_of_some _ q,fun _=>True.intro,fun y hy=>absurd rfl hy⟩
theorem uN {prog:Program} {w:World} {env:Env} {e:Expr} {f:Str} {pos:Pos} {s:Shared} {Q:Value→Shared→Prop} (hb:attributeBase e f env (eval e env)=eval e env)
 (h:wpAny (model prog w) A (eval e env) (fun o s₁=>wpAny (model prog w) A (getAttr o f true) Q E s₁) E s):wpAny (model prog w) A (eval (.Attribute e f pos) env) Q E s:=
 Attribute_any_ h (by rw [arm_eval_Attribute,hb])
end
def tFld (K:PySem.W.Frag) (ta:TE) (f:Str):TE:=fun σ H Q=>ta σ H fun x H1=>∃a C dx fs v,x= .ref a∧H1 a=some (.ins C dx fs)∧Cls K C∧NoAttr K C f∧fs.lookup f=some v∧Q v H1
def sFld (K:PySem.W.Frag) (ta tv:TE) (f:Str):TS:=fun D σ H=>tv σ H fun y H1=>ta σ H1 fun x H2=>∃a C dx fs,x= .ref a∧H2 a=some (.ins C dx fs)∧Cls K C∧NoAttr K C f∧fs.length < 1000∧
 D.nx σ (upd H2 a (.ins C dx (putF f y fs)))
section
variable {X:Cx} {o e value:Expr} {f:Str} {pos pos' tpos:Pos} {ta tv:TE}
theorem aP (he:PE X e ta) (hb:attributeBase e f X.env (eval e X.env)=eval e X.env):PE X (.Attribute e f pos) (tFld X.K ta f):=by
 intro pins s σ H Q I h;refine uN hb (thn (he pins s σ H _ I h) fun u s1 ⟨x,H1,I1,rx,a,C,dx,fs,v,ex,ea,c,n,l,q⟩=> ?_);subst ex;obtain rfl:u=Value.ref a:=rx;exact lX I1 ea c n l fun u' s2 I2 ru=>⟨v,H1,I2,ru,q⟩
theorem dO (ha:PE X o ta) (hv:PE X value tv) (hs:swapsWith value (some (.Attribute o f pos')) pos.line X.env=pure false):PS X (.Assign [.Attribute o f pos'] value pos) (sFld X.K ta tv f):=by
 intro pins s σ H D I h;refine plainObj_wpAny_Assign_Attribute (thn (hv pins s σ H _ I h) fun u s1 ⟨y,H1,I1,ry,q⟩=>thn (ha pins s1 σ H1 _ I1 q) fun ov s2 ⟨x,H2,I2,rx,a,C,dx,fs,ex,ea,c,n,l,q2⟩=> ?_) hs;subst ex;obtain rfl:ov=Value.ref a:=rx;exact lD I2 ea c n l ry fun s3 I3=>⟨σ,_,I3,q2⟩
end
section
variable {X:Cx} {pins:List (Addr×Obj)} {σ:St} {H:Hp} {s:Shared} {A:Around} {E:Value→Shared→Prop} {Q:Value→Shared→Prop} {c:Value} {b:Bool}
end
open PySem PySem.Spec PyProof.Rows
structure Room (k:Nat) (A:Around):Prop where
 hd:A.handled=none
 dp:A.depth+3*k+5 < recursionLimit
 un:A.units+16*k+200 < cLine
 gd:A.guards=some []
theorem Room.mono {j k:Nat} {A:Around} (r:Room k A) (h:j≤k):Room j A:=⟨r.hd,by have:=r.dp;omega,by have:=r.un;omega,r.gd⟩
theorem Room.deeper {k:Nat} {A:Around} (r:Room (k+1) A) (env:Env):Room k (A.deeper env):=
 ⟨r.hd,by have:=r.dp;show A.depth+1+3*k+5 < _;omega,by have:=r.un;show A.units+3+16*k+200 < _;omega,by first|exact r.gd|(have:=r.gd;simpa [Around.deeper,Around.under] using this)⟩
theorem Room.in1 {k:Nat} {A:Around} (r:Room (k+1) A):Room k A.in1:=
 ⟨r.hd,by have:=r.dp;show A.depth+3*k+5 < _;omega,by have:=r.un;show A.units+1+16*k+200 < _;omega,r.gd⟩
theorem lS {A:Around} {C:Addr} {us:List Value} {kw:List (Str×Value)}:(A.under (.builtin "type.__call__" ⟨.ref C::us,kw⟩)).depth=A.depth+1:=by
 first|rfl|simp [Around.under,Code.weight,Code.isCreation,Code.isGuard,Code.isCaller,Code.frames,Code.isFrame,guardIds]
theorem lR {A:Around} {C:Addr} {us:List Value} {kw:List (Str×Value)}:(A.under (.builtin "type.__call__" ⟨.ref C::us,kw⟩)).units=A.units+1:=by
 first|rfl|simp [Around.under,Code.cUnits,Code.frames,Code.isFrame]
theorem Room.make {k:Nat} {A:Around} (r:Room (k+1) A) (C:Addr) (us:List Value) (kw:List (Str×Value)):Room k (A.under (.builtin "type.__call__" ⟨.ref C::us,kw⟩)):=
 ⟨r.hd,by have:=r.dp;rw [lS];omega,by have:=r.un;rw [lR];omega,by have:=r.gd;simp [Around.under,Code.guards,Code.isGuard,guardIds,pushGuards,this]⟩
theorem Room.depth {k:Nat} {A:Around} (r:Room k A):A.depth < recursionLimit:=by have:=r.dp;omega
theorem Room.units {k:Nat} {A:Around} (r:Room k A):A.units+64 < cLine:=by have:=r.un;omega
def tNil:TA:=fun _ H Q=>Q [] H
def eJ (ta:TE) (tr:TA):TA:=fun σ H Q=>ta σ H fun x H1=>tr σ H1 fun xs H2=>Q (x::xs) H2
section
variable {X:Cx} {e:Expr} {es:List Expr} {te:TE} {t:TA} {pos:Pos}
theorem a9:PA X [] tNil:=fun _ _ _ _ H Q I h=>Calls.spliced_nil ⟨[],H,I, .nil,h⟩
theorem a0 (ha:PE X e te) (hr:PA X es t) (hs:starEach (e::es) X.env=(false,eval e X.env)::starEach es X.env:=by rfl):PA X (e::es) (eJ te t):=by
 intro pos pins s σ H Q I h;rw [hs];show wpAny _ _ (spliced ((false,eval e X.env)::backTo pos (starEach es X.env))) _ _ s;refine Calls.spliced_cons (thn (ha pins s σ H _ I h) fun u s1 ⟨x,H1,I1,r1,q1⟩=> ?_);exact thn (hr pos pins s1 σ H1 _ I1 q1) fun us s2 ⟨xs,H2,I2,r2,q2⟩=>⟨x::xs,H2,I2, .cons r1 r2,q2⟩
def tTup (t:TA):TE:=fun σ H Q=>t σ H fun xs H1=>xs.length≤sizeLine∧∀p,H1 p=none→Q (.ref p) (upd H1 p (.tup xs))
def tLst (t:TA):TE:=fun σ H Q=>t σ H fun xs H1=>xs.length≤sizeLine∧∀p,H1 p=none→Q (.ref p) (upd H1 p (.lst xs))
theorem aU {x1} (h:PA X es t):PE X (.Tuple es x1 pos) (tTup t):=by
 intro pins s σ H Q I hq;refine wpAny_Tuple_spliced (thn (h pos pins s σ H _ I hq) fun us s1 ⟨xs,H1,I1,r,z,q⟩=>⟨by rw [←r.length];exact z,?_⟩)
 have hf:H1 s1.heap.objs.size=none:=I1.hok.fresh (yP _);refine ⟨.ref s1.heap.objs.size,upd H1 s1.heap.objs.size (.tup xs),I1.laid (t':=s1.toks) (fun b u e=>Heap.get?_push_of_some _ e) (yP _) ?_,rfl,q _ hf⟩;exact ⟨z,us,r,⟨_,Heap.get?_push_size _ rfl,rfl,_,rfl⟩⟩
theorem bO (h:PA X es t):PE X (.List es pos) (tLst t):=by
 intro pins s σ H Q I hq;refine wpAny_List_spliced (thn (h pos pins s σ H _ I hq) fun us s1 ⟨xs,H1,I1,r,z,q⟩=>⟨by rw [←r.length];exact z,?_⟩)
 have hf:H1 s1.heap.objs.size=none:=I1.hok.fresh (yP _);refine ⟨.ref s1.heap.objs.size,upd H1 s1.heap.objs.size (.lst xs),I1.laid (t':=s1.toks) (fun b u e=>Heap.get?_push_of_some _ e) (yP _) ?_,rfl,q _ hf⟩;exact ⟨z,us,0,r,Heap.get?_push_size _ rfl⟩
end
abbrev Sp:=List V→Hp→VK→XK→Prop
abbrev CXT:=List Env→Hp→Shared→XK→Value→Shared→Prop
structure Env0 (P:Program) (w:World) (K:PySem.W.Frag) (mg:Str→Option Value) (base:Heap) (A:Around) (outer:List Env) (s:Shared) (H:Hp):Prop where
 frames:A.frames=some outer
 mod:Mod K mg base
 bs:∀b o,base.get? b=some o→s.heap.get? b=some o∧Idl (H b)
 bsz:base.objs.size≤s.heap.objs.size
 funs:s.heap.FunFrames base outer
 frf:∀b∈frs outer,H b=none
 hok:HOk P w H s.heap
 bare:AllBare s.gens
def CE (outer:List Env) (P:Program) (w:World) (H:Hp) (s:Shared) (Q:VK) (u:Value) (s':Shared):Prop:=
 ∃v H',s'.os=s.os∧AllBare s'.gens∧Un (frs outer) [] H H' s.heap s'.heap∧HOk P w H' s'.heap∧RelV v u∧Q v H'
def CR (CX:CXT) (outer:List Env) (P:Program) (w:World) (H:Hp) (s:Shared) (Q:VK) (E:XK) (r:Result) (s':Shared):Prop:=
 match r with
 | .ok (.ret u)=>CE outer P w H s Q u s'
 | .ok _=>False
 | .error e=>CX outer H s E e s'
structure FnOk (P:Program) (w:World) (K:PySem.W.Frag) (mg:Str→Option Value) (base:Heap) (CX:CXT) (k:Nat) (f:Addr) (fd:FuncData) (ps:List Str) (sp:Sp):Prop where
 len:∀vs H Q E,sp vs H Q E→vs.length=ps.length
 run:∀(A:Around) (outer:List Env) (s:Shared) (H:Hp) (args:Args) (us:List Value) (vs:List V) (Q:VK) (E:XK),Room k A→Env0 P w K mg base A outer s H→BindsTo s fd args (ps.zip us)→Vals vs us→sp vs H Q E→
  codeAny (model P w) A (.call (.ref f) args) (CR CX outer P w H s Q E) s
theorem Env0.make {P:Program} {w:World} {K:PySem.W.Frag} {mg:Str→Option Value} {base:Heap} {A:Around} {outer:List Env} {s:Shared} {H:Hp} (e:Env0 P w K mg base A outer s H) (C:Addr) (us:List Value) (kw:List (Str×Value)):
 Env0 P w K mg base (A.under (.builtin "type.__call__" ⟨.ref C::us,kw⟩)) outer s H:=⟨by first|exact e.frames|(simpa [Around.under,Code.envs,Code.isFrame,pushEnvs] using e.frames),e.mod,e.bs,e.bsz,e.funs,e.frf,e.hok,e.bare⟩
theorem Env0.in1 {P:Program} {w:World} {K:PySem.W.Frag} {mg:Str→Option Value} {base:Heap} {A:Around} {outer:List Env} {s:Shared} {H:Hp} (e:Env0 P w K mg base A outer s H):
 Env0 P w K mg base A.in1 outer s H:=⟨e.frames,e.mod,e.bs,e.bsz,e.funs,e.frf,e.hok,e.bare⟩
section
variable {X:Cx} {pins:List (Addr×Obj)} {σ:St} {H:Hp} {s s':Shared}
theorem Inv.env0 (I:Inv X pins σ H s):Env0 X.prog X.w X.K X.mg X.base X.A X.stack s H:=
 ⟨I.ok.frames,I.ok.mod,I.bs,yY I.ok.bsz I.sz,I.stack,I.stkFree,I.hok,I.bare⟩
theorem Inv.after {Q:VK} {u:Value} (I:Inv X pins σ H s) (h:CE X.stack X.prog X.w H s Q u s'):EP X pins σ Q u s':=by
 obtain ⟨v,H',os,bare,un,hok,r,q⟩:=h;obtain ⟨hh,g,d,t,os'⟩:=s';obtain rfl:os'=s.os:=os;exact ⟨v,H',I.call (h':=hh) (g':=g) (d':=d) (t':=t) (ch:= []) un hok bare (fun b z=>absurd z (by simp)),r,q⟩
end
def vc (sp:Sp) (dvs:List V) (E:XK) (t:TA):TE:=fun σ H Q=>t σ H fun vs H1=>sp (vs++dvs) H1 Q E
def xR (C:Addr) (sp:Sp) (dvs:List V) (E:XK) (t:TA):TE:=fun σ H Q=>t σ H fun vs H1=>∀x dx,H1 x=none→H1 dx=none→dx≠x→
 sp (.ref x::(vs++dvs)) (upd (upd H1 dx (.own x)) x (.ins C dx [])) (fun v H2=>v= .non∧Q (.ref x) H2) E
def Binds (K:PySem.W.Frag) (fd:FuncData) (ps:List Str) (ds:List Value):Prop:=
 ∀(s:Shared) (us:List Value),K.In s.heap→(us++ds).length=ps.length→BindsTo s fd ⟨us,[]⟩ (ps.zip (us++ds))
theorem Binds.all {K:PySem.W.Frag} {fd:FuncData} {ps:List Str} (h:∀us:List Value,us.length=ps.length→bindArgs fd ⟨us,[]⟩=pure (ps.zip us)):Binds K fd ps []:=fun s us _ hl=>by
 rw [List.append_nil] at hl ⊢;exact .of_eq (h us hl)
def iu (CX:CXT) (X:Cx) (E:XK):Prop:=∀(pins:List (Addr×Obj)) (σ:St) (H:Hp) (s:Shared) (e:Value) (s':Shared),Inv X pins σ H s→CX X.stack H s E e s'→X.xe e s'
section
variable {X:Cx} {CX:CXT} {k:Nat} {f C:Addr} {fd:FuncData} {ps:List Str} {sp:Sp} {dvs:List V} {ds:List Value} {E:XK} {x m:Str} {p pos apos:Pos} {e o:Expr} {es:List Expr} {ta:TE} {t:TA}
theorem vU {pins:List (Addr×Obj)} {σ:St} {H:Hp} {s:Shared} {Q:VK} {us:List Value} {vs:List V} (F:FnOk X.prog X.w X.K X.mg X.base CX k f fd ps sp) (hr:Room k X.A) (hb:Binds X.K fd ps ds) (hd:Vals dvs ds) (hx:iu CX X E)
 (I:Inv X pins σ H s) (r:Vals vs us) (h:sp (vs++dvs) H Q E):wpAny (model X.prog X.w) X.A (call (.ref f) us) (EP X pins σ Q) X.xe s:=by
 have r2:Vals (vs++dvs) (us++ds):=r.append hd;have hl:(us++ds).length=ps.length:=by rw [←r2.length];exact F.len _ _ _ _ h
 refine wpAny_call (codeAny_mono (F.run X.A X.stack s H ⟨us,[]⟩ (us++ds) (vs++dvs) Q E hr I.env0 (hb s us I.kIn hl) r2 h) fun r s' hq=> ?_)
 cases r with
 |error e=>exact hx pins σ H s e s' I hq
 |ok fl=>
  cases fl with
  |ret u=>exact I.after hq
  |next=>exact False.elim hq
  |brk=>exact False.elim hq
  |cont=>exact False.elim hq
theorem ai (F:FnOk X.prog X.w X.K X.mg X.base CX k f fd ps sp) (hr:Room k X.A) (hg:Gl X x) (hm:X.mg x=some (.ref f)) (hk:PySem.W.keepIn X.K (.ref f)=true) (hb:Binds X.K fd ps ds) (hd:Vals dvs ds) (hx:iu CX X E)
 (ha:PA X (e::es) t) (hdb:(x==("__debug__":Str))=false:=by decide) (he:starEach (e::es) X.env=(false,eval e X.env)::starEach es X.env:=by rfl) (hpl:(backTo pos (starEach es X.env)).any (·.1)=false:=by rfl):
 PE X (.Call (.Name x p) (e::es) [] pos) (vc sp dvs E t):=by
 intro pins s σ H Q I h;refine wpAny_Call_Name_kw (jx I hg hm ?_ hdb);refine PySem.W.callWith_K (h₀:=X.base) I.ok.mod.kin hk (thn (ha pos pins s σ H _ I h) fun us s1 ⟨vs,H1,I1,r,q⟩=>⟨I1.kIn,?_⟩) he hpl;exact vU F hr hb hd hx I1 r q
structure Mk (K:PySem.W.Frag) (C f:Addr):Prop where
 makes:PySem.W.makesIn K C=true
 init:PySem.W.findIn K (.ref C) "__init__"=some (some (.ref f))
 fn:PySem.W.isFn K (.ref f)=true
 kp:PySem.W.keepIn K (.ref C)=true
theorem qR {pins:List (Addr×Obj)} {σ:St} {H:Hp} {s:Shared} {Q:VK} {us:List Value} {vs:List V} (M:Mk X.K C f) (F:FnOk X.prog X.w X.K X.mg X.base CX k f fd ps sp) (hr:Room (k+1) X.A) (hb:Binds X.K fd ps ds) (hd:Vals dvs ds)
 (hx:iu CX X E) (I:Inv X pins σ H s) (r:Vals vs us)
 (h:∀x dx,H x=none→H dx=none→dx≠x→sp (.ref x::(vs++dvs)) (upd (upd H dx (.own x)) x (.ins C dx [])) (fun v H2=>v= .non∧Q (.ref x) H2) E):
 wpAny (model X.prog X.w) X.A (call (.ref C) us) (EP X pins σ Q) X.xe s:=by
 have hq:=h (s.heap.objs.size+1) s.heap.objs.size (I.hok.fresh (Nat.le_succ _)) (I.hok.fresh (yP _)) (yZ (A6 _));have I2:=Inv.made (C:=C) I;have r2:Vals (V.ref (s.heap.objs.size+1)::(vs++dvs)) (Value.ref (s.heap.objs.size+1)::(us++ds)):= .cons rfl (r.append hd)
 have hl:(Value.ref (s.heap.objs.size+1)::us++ds).length=ps.length:=by
  have e:=r2.length;rw [F.len _ _ _ _ hq] at e;exact e.symm
 refine wpAny_call (rZ (f:=f) I.kIn M.makes M.init (beq_iff_eq.mp M.fn) (codeAny_mono (F.run _ X.stack _ _ ⟨Value.ref (s.heap.objs.size+1)::us,[]⟩ (Value.ref (s.heap.objs.size+1)::(us++ds)) _ _ E (hr.make C us [])
  (I2.env0.make C us []) (hb _ (Value.ref (s.heap.objs.size+1)::us) I2.kIn hl) r2 hq) fun r s' hq'=> ?_))
 cases r with
 |error e=>exact hx pins σ _ _ e s' I2 hq'
 |ok fl=>
  cases fl with
  |ret u=>
   obtain ⟨v,H',I3,rv,ev,q3⟩:=I2.after hq';subst ev;exact ⟨rv,⟨V.ref (s.heap.objs.size+1),H',I3,rfl,q3⟩⟩
  |next=>exact False.elim hq'
  |brk=>exact False.elim hq'
  |cont=>exact False.elim hq'
theorem ud (M:Mk X.K C f) (F:FnOk X.prog X.w X.K X.mg X.base CX k f fd ps sp) (hr:Room (k+1) X.A) (hg:Gl X x) (hm:X.mg x=some (.ref C)) (hb:Binds X.K fd ps ds) (hd:Vals dvs ds) (hx:iu CX X E)
 (ha:PA X (e::es) t) (hdb:(x==("__debug__":Str))=false:=by decide) (he:starEach (e::es) X.env=(false,eval e X.env)::starEach es X.env:=by rfl) (hpl:(backTo pos (starEach es X.env)).any (·.1)=false:=by rfl):
 PE X (.Call (.Name x p) (e::es) [] pos) (xR C sp dvs E t):=by
 intro pins s σ H Q I h;refine wpAny_Call_Name_kw (jx I hg hm ?_ hdb);refine PySem.W.callWith_K (h₀:=X.base) I.ok.mod.kin M.kp (thn (ha pos pins s σ H _ I h) fun us s1 ⟨vs,H1,I1,r,q⟩=>⟨I1.kIn,?_⟩) he hpl;exact qR M F hr hb hd hx I1 r q
end
section
variable {X:Cx} {CX:CXT} {k:Nat} {f C:Addr} {fd:FuncData} {ps ks:List Str} {sp:Sp} {E:XK} {x m:Str} {p pos apos kpos:Pos} {e o:Expr} {es:List Expr} {kws:List Keyword} {te ta:TE} {t tk:TA} {nm:Option Str}
variable {g:List Value→List Value→List Value} {gV:List V→List V→List V}
end
structure FnScope (N P:List Str) (sc:Scope):Prop where
 kind:sc.kind= .function
 co:sc.isCoroutine=false
 gen:sc.isGenerator=false
 nd:N.Nodup
 pre:N.take P.length=P
 par:∀x∈P,sc.names.lookup x=some .local∨sc.names.lookup x=some .cell
 nofree:∀y∈sc.names,y.2≠ .free
theorem iS {kindOf:Str→Option NameKind} {x:Str}:∀ {binds:List (Str×Value)} {m:Str→Option Value},(∀v,(x,v)∉binds)→bindL kindOf binds m x=m x
 | [],_,_=>rfl
 |(n,v)::r,m,h=>by
  unfold bindL;rw [iS fun w hw=>h w (yR _ hw)];split
  · have:x≠n:=by rintro rfl;exact h v yO
    simp [this]
  · rfl
theorem iU {kindOf:Str→Option NameKind} {x:Str}:∀ {binds:List (Str×Value)} {m:Str→Option Value},(∀v,(x,v)∉binds)→bindC kindOf binds m x=m x
 | [],_,_=>rfl
 |(n,v)::r,m,h=>by
  unfold bindC;rw [iU fun w hw=>h w (yR _ hw)];split
  · rfl
  · have:x≠n:=by rintro rfl;exact h v yO
    simp [this]
theorem iT {kindOf:Str→Option NameKind} {x:Str} {v:Value}:∀ {P:List Str} {vs:List Value} {i:Nat} {m:Str→Option Value},P.Nodup→P[i]?=some x→vs[i]?=some v→kindOf x=some .local→
 bindL kindOf (P.zip vs) m x=some v
 | [],_,_,_,_,h,_,_=>by simp at h
 |_::_,[],_,_,_,_,h,_=>by simp at h
 |p::P,w::vs,0,m,nd,h1,h2,hk=>by
  simp at h1 h2;subst h1;subst h2;show bindL kindOf ((p,w)::P.zip vs) m p=_;unfold bindL;rw [iS fun v hv=>(Aa.mp nd).1 (List.of_mem_zip hv).1,if_pos hk];simp
 |p::P,w::vs,i+1,m,nd,h1,h2,hk=>by
  show bindL kindOf ((p,w)::P.zip vs) m x=_;unfold bindL;exact iT (i:=i) (Aa.mp nd).2 (by simpa using h1) (by simpa using h2) hk
theorem iV {kindOf:Str→Option NameKind} {x:Str} {v:Value}:∀ {P:List Str} {vs:List Value} {i:Nat} {m:Str→Option Value},P.Nodup→P[i]?=some x→vs[i]?=some v→kindOf x≠some .local→
 bindC kindOf (P.zip vs) m x=some v
 | [],_,_,_,_,h,_,_=>by simp at h
 |_::_,[],_,_,_,_,h,_=>by simp at h
 |p::P,w::vs,0,m,nd,h1,h2,hk=>by
  simp at h1 h2;subst h1;subst h2;show bindC kindOf ((p,w)::P.zip vs) m p=_;unfold bindC;rw [iU fun v hv=>(Aa.mp nd).1 (List.of_mem_zip hv).1,if_neg hk];simp
 |p::P,w::vs,i+1,m,nd,h1,h2,hk=>by
  show bindC kindOf ((p,w)::P.zip vs) m x=_;unfold bindC;exact iV (i:=i) (Aa.mp nd).2 (by simpa using h1) (by simpa using h2) hk
noncomputable def f9 (N:List Str) (vs:List V):St:=vs.map some++List.replicate (N.length - vs.length) none
noncomputable def cxOf (CX:CXT) (P:Program) (w:World) (K:PySem.W.Frag) (mg:Str→Option Value) (base:Heap) (N:List Str) (qual:Str) (scope:Scope) (f:Addr) (cd:Value) (A:Around) (outer:List Env) (s:Shared) (H:Hp) (E:XK):Cx where
 prog:=P
 w:=w
 K:=K
 mg:=mg
 base:=base
 A:=A.deeper (envOfC qual scope s.heap.objs.size f cd)
 N:=N
 s₀:=s
 H₀:=H
 env:=envOfC qual scope s.heap.objs.size f cd
 outer:=outer
 stack:=envOfC qual scope s.heap.objs.size f cd::outer
 ex:= []
 calm:=true
 fn:=fun _=>true
 pn:= []
 xe:=fun e s'=>wpAny (model P w) (A.deeper (envOfC qual scope s.heap.objs.size f cd)) (leaving (envOfC qual scope s.heap.objs.size f cd) e) (fun _ s''=>CX outer H s E e s'') (fun e' s''=>CX outer H s E e' s'') s'
theorem kN {sc:Scope} {n:Nat} {x:Str} (h:sc.names.lookup x=some .cell):∃c,(cellsFrom n sc.names []).lookup x=some c:=by
 have q:=PySem.W.cellsFrom_some sc.names n [] (.inl h);exact Option.isSome_iff_exists.mp q
theorem oQ {CX:CXT} {P:Program} {w:World} {K:PySem.W.Frag} {mg:Str→Option Value} {base:Heap} {N ps:List Str} {qual:Str} {scope:Scope} {f:Addr} {cd:Value} {A:Around} {outer:List Env} {s s1:Shared} {H:Hp} {E:XK} {us:List Value} {vs:List V}
 (S:FnScope N ps scope) (hd:A.handled=none) (e0:Env0 P w K mg base A outer s H) (hl:vs.length=ps.length) (r:Vals vs us)
 (x:InCallC s s.heap.objs.size (bindL (envOfC qual scope s.heap.objs.size f cd).kindOf (ps.zip us) fun _=>none) (cellsFrom (s.heap.objs.size+1) scope.names []) (bindC (envOfC qual scope s.heap.objs.size f cd).kindOf (ps.zip us) fun _=>none) s1):
 Inv (cxOf CX P w K mg base N qual scope f cd A outer s H E) [] (f9 N vs) H s1:=by
 have hpl:ps.length≤N.length:=by have:=congrArg List.length S.pre;rw [zh] at this;omega
 refine hZq fun q_ e_=> ?_;obtain ⟨h1,tk,rfl,hk⟩:=x.done;subst e_;have noA:∀b:Addr,b∉(cxOf CX P w K mg base N qual scope f cd A outer s H E).ex:=fun b z=>absurd (show b∈([]:List Addr) from z) (by simp)
 refine ⟨⟨e0.mod,S.kind,rfl,rfl,yP _,fun y z c h1 h2=> ?_,fun y hy=> ?_,fun y c _ h=> ?_,fun _=>hd,Around.frames_deeper e0.frames, .inr ⟨rfl,rfl⟩,fun b z=>absurd z (noA b),e0.bs,e0.bsz,fun b _ _=>noA b,fun b z=>absurd z (noA b),e0.funs,e0.frf⟩,
  rfl,e0.bare,Un.kept hk,⟨_,x.toInCall.ns,fun i y v h1 h2 h3=> ?_⟩,fun y c h=>⟨_,x.cell y c h⟩,e0.hok.fresh (yP _),fun y c h=> ?_,fun p hp=>absurd (show p∈([]:List (Addr×Obj)) from hp) (by simp),e0.hok.kept hk,?_⟩
 · exact name_of_addr x.apart (PySem.mem_of_lookup h1) (PySem.mem_of_lookup h2)
 · have hy:scope.names.lookup y=some .cell∨scope.names.lookup y=some .free:=hy;rcases hy with hy|hy
   · exact kN hy
   · exact absurd rfl (S.nofree _ (PySem.mem_of_lookup hy))
 · exact Nat.le_of_lt (x.above y c (PySem.mem_of_lookup h))
 · have hi:i < vs.length:=by
    unfold f9 at h2;by_cases hi:i < vs.length
    · exact hi
    · rw [A4 (by simpa using hi)] at h2
      rw [List.getElem?_replicate] at h2;split at h2<;>cases h2
   have ha:vs[i]?=some v:=by
    unfold f9 at h2;rw [List.getElem?_append_left (by simpa using hi),yQ] at h2
    cases e:vs[i]? with
    |none=>rw [e] at h2;cases h2
    |some a=>rw [e] at h2;cases h2;rfl
   obtain ⟨u,hu,rv⟩:=r.get ha
   have hp:ps[i]?=some y:=by
    rw [←S.pre,List.getElem?_take_of_lt (by omega)];exact h1
   have ndP:ps.Nodup:=by rw [←S.pre];exact S.nd.sublist (List.take_sublist _ _)
   refine ⟨u,rv,?_⟩;rcases S.par y (yT hp) with k|k
   · exact .inl ⟨k,iT ndP hp hu k⟩
   · obtain ⟨c,e⟩:=kN (n:=s.heap.objs.size+1) k;refine .inr ⟨.inl k,c,e,?_⟩;have q:=x.cell y c e;rw [iV ndP hp hu (by show scope.names.lookup y≠_;rw [k];decide)] at q
     exact q
 · exact e0.hok.fresh (Nat.le_of_lt (x.above y c (PySem.mem_of_lookup h)))
 · unfold f9;show _=N.length;rw [z7,yM,List.length_replicate];omega
theorem vp {CX:CXT} {P:Program} {w:World} {K:PySem.W.Frag} {mg:Str→Option Value} {base:Heap} {k:Nat} {f:Addr} {name qual:Str} {params:Arguments} {body:List Stmt} {scope:Scope} {dV kV doc pm cdv ct oc:Value} {an od:Option Addr}
 {osl:Array (Option Value)} {N ps:List Str} {sp:Sp} (lk:K.lookup f=some ⟨oc,od, .func (PySem.W.fnOf name qual params body scope dV kV doc pm an cdv ct),osl⟩) (hcd:PySem.W.codeIn K cdv qual=true) (S:FnScope N ps scope)
 (len:∀vs H Q E,sp vs H Q E→vs.length=ps.length)
 (hbody:∀(A:Around) (outer:List Env) (s:Shared) (H:Hp) (vs:List V) (Q:VK) (E:XK),Room k (A.deeper (envOfC qual scope s.heap.objs.size f cdv))→sp vs H Q E→
  ∃t,PSs (cxOf CX P w K mg base N qual scope f cdv A outer s H E) body t∧t {nx:=fun _ H'=>Q .non H',rt:=Q} (f9 N vs) H):
 FnOk P w K mg base CX (k+1) f (PySem.W.fnOf name qual params body scope dV kV doc pm an cdv ct) ps sp:=by
 refine ⟨len,fun A outer s H args us vs Q E hr e0 hb r hsp=> ?_⟩;have hl:=len _ _ _ _ hsp;have KX:K.In s.heap:=e0.mod.kin.keeps fun b o e=>(e0.bs b o e).1;have lim:s.heap.NoLimit:=e0.mod.nolimit.keeps fun b o e=>(e0.bs b o e).1
 have hkind:∀y∈ps.zip us,scope.names.lookup y.1=some .local∨(scope.names.lookup y.1=some .cell∧((cellsFrom (s.heap.objs.size+1) scope.names []).lookup y.1).isSome=true):=fun ⟨n,v⟩ hy=>by
  rcases S.par n (List.of_mem_zip hy).1 with q|q
  · exact .inl q
  · exact .inr ⟨q,PySem.W.cellsFrom_some _ _ _ (.inl q)⟩
 refine codeAny_call_function hr.depth (KX _ _ lk) rfl S.co S.gen rfl (PySem.W.codeRec_of KX hcd) (hb _ _ _ _ ?_);refine wpAny_newFunctionEnv_cells S.kind hkind fun env he s1 x=> ?_;subst he;refine ⟨lim.keeps x.toInCall.keep,codeAny_func ?_⟩;obtain ⟨t,ht,hq⟩:=hbody A outer s H vs Q E (hr.deeper _) hsp;have I:Inv (cxOf CX P w K mg base N qual scope f cdv A outer s H E) [] (f9 N vs) H s1:=oQ S hr.hd e0 hl r x;refine wpAny_mono (ht [] s1 (f9 N vs) H _ I hq) (fun fl s' hs=> ?_) fun e s' hs=>hs
 have fin:∀ {σ':St} {H':Hp} {v:V} {u:Value},Inv (cxOf CX P w K mg base N qual scope f cdv A outer s H E) [] σ' H' s'→RelV v u→Q v H'→CE outer P w H s Q u s':=
  fun {σ' H' v u} J rv q=>⟨v,H',J.os,J.bare,J.base,J.hok,rv,q⟩
 cases fl with
 |ret u=>
  obtain ⟨v,σ',H',J,rv,q⟩:=hs;exact fin J rv q
 |next=>
  obtain ⟨σ',H',J,q⟩:=hs;exact fin (v:=V.non) (u:=Value.none) J rfl q
 |brk=>
  obtain ⟨_,_,_,q⟩:=hs;exact False.elim q
 |cont=>
  obtain ⟨_,_,_,q⟩:=hs;exact False.elim q
open PySem PySem.Spec PyProof.Rows
section
variable {X:Cx} {x:Str} {p pos:Pos} {e:Expr} {es:List Expr} {t:TA} {id T:String} {r:List V→Hp→VK→Prop}
def tCB (r:List V→Hp→VK→Prop) (t:TA):TE:=fun σ H Q=>t σ H fun vs H1=>r vs H1 Q
theorem aB (hc:cB X (.builtin id) r) (hg:Gl X x) (hm:X.mg x=none) (hv:bootBuiltins x=some (.builtin id)) (ha:PA X (e::es) t) (hn:x≠"__name__":=by decide) (hdb:(x==("__debug__":Str))=false:=by decide)
 (he:starEach (e::es) X.env=(false,eval e X.env)::starEach es X.env:=by rfl) (hpl:(backTo pos (starEach es X.env)).any (·.1)=false:=by rfl):PE X (.Call (.Name x p) (e::es) [] pos) (tCB r t):=by
 intro pins s σ H Q I h;refine wpAny_Call_Name_kw (eU I hg hm hv ?_ hn hdb);exact PyProof.Rows.callWith_builtin1 (thn (ha pos pins s σ H _ I h) fun us s1 ⟨vs,H1,I1,r1,q1⟩=>hc pins s1 σ H1 vs us Q I1 r1 q1) he hpl
theorem bV (hc:cB X (.type T) r) (hg:Gl X x) (hm:X.mg x=none) (hv:bootBuiltins x=some (.type T)) (ha:PA X (e::es) t) (hn:x≠"__name__":=by decide) (hdb:(x==("__debug__":Str))=false:=by decide)
 (he:starEach (e::es) X.env=(false,eval e X.env)::starEach es X.env:=by rfl) (hpl:(backTo pos (starEach es X.env)).any (·.1)=false:=by rfl):PE X (.Call (.Name x p) (e::es) [] pos) (tCB r t):=by
 intro pins s σ H Q I h;refine wpAny_Call_Name_kw (eU I hg hm hv ?_ hn hdb);exact PyProof.Rows.callWith_type1 (thn (ha pos pins s σ H _ I h) fun us s1 ⟨vs,H1,I1,r1,q1⟩=>hc pins s1 σ H1 vs us Q I1 r1 q1) he hpl
end
end L2
namespace HT
open PySem PyProof.Rows
section
open PySem.SeqAt
open PySem.AutoSeq1 (wpAny_loadPart')
open PySem.MeetsSeq PySem.MeetsSeq2 PySem.MeetsSeq3
end
section
variable {prog:Program} {w:World} {A:Around} {E:Value→Shared→Prop} {s:Shared}
noncomputable def sIx (n d:Nat):Option Int→Nat
 |none=>d
 |some v=>if v < 0 then (v+(n:Int)).toNat else min v.toNat n
theorem sIx_none (n d:Nat):sIx n d none=d:=rfl
theorem sIx_nat (n d k:Nat):sIx n d (some (k:Int))=min k n:=by
 show (if (k:Int) < 0 then ((k:Int)+(n:Int)).toNat else min (k:Int).toNat n)=min k n;rw [if_neg (by omega),zZ]
end
end HT
namespace L2
open PySem PySem.Spec PyProof.Rows
abbrev TO:=St→Hp→(Option Int→Hp→Prop)→Prop
def PO (X:Cx) (e:Option Expr) (t:TO):Prop:=
 ∀(pins:List (Addr×Obj)) (s:Shared) (σ:St) (H:Hp) (Q:Option Int→Hp→Prop),Inv X pins σ H s→t σ H Q→
  wpAny (model X.prog X.w) X.A (evalPart e X.env) (fun u s'=>∃o H',Inv X pins σ H' s'∧IsPart u o∧Q o H') X.xe s
def tS:TO:=fun _ H Q=>Q none H
def xO (t:TE):TO:=fun σ H Q=>t σ H fun x H1=>∃i,x= .int i∧Q (some i) H1
theorem lW {ns:List Int}:∀ {us:List Value},Vals (ns.map V.int) us→IntsAre us ns:=by
 induction ns with
 |nil=>intro us r;rw [List.map_nil] at r;cases r;exact .nil
 |cons n ns ih=>
  intro us r;rw [zc] at r
  cases r with
  |cons r1 r2=>
   obtain ⟨t,e⟩:=r1;subst e;exact .cons n t (ih r2)
section
variable {X:Cx} {e:Expr} {te:TE} {lo hi:Option Expr} {tl th:TO} {pos p2:Pos}
theorem jm:PO X none tS:=by
 intro pins s σ H Q I h;rw [evalPart_none];exact wpAny_pure ⟨none,H,I, .none,h⟩
theorem jk (h:PE X e te):PO X (some e) (xO te):=by
 intro pins s σ H Q I hw;rw [evalPart_some];refine thn (h pins s σ H _ I hw) fun u s1 ⟨x,H1,I1,r1,q1⟩=> ?_;obtain ⟨i,rfl,q⟩:=q1;obtain ⟨t,rfl⟩:=r1;exact ⟨some i,H1,I1, .int i t,q⟩
def SlR (X:Cx) (r:V→Option Int→Option Int→Hp→VK→Prop):Prop:=
 ∀(pins:List (Addr×Obj)) (s:Shared) (σ:St) (H:Hp) (x:V) (v vl vu:Value) (lo hi:Option Int) (sl:Addr) (Q:VK),Inv X pins σ H s→RelV x v→s.heap.IsSliceOf sl vl vu .none→IsPart vl lo→IsPart vu hi→r x lo hi H Q→
  ∃T id,typeLookup (.type T) "__getitem__"=pure (some (.builtin id))∧s.TypeIs v T∧wpAny (model X.prog X.w) X.A (getItem v (.ref sl)) (EP X pins σ Q) X.xe s
def tSl (r:V→Option Int→Option Int→Hp→VK→Prop) (te:TE) (tl th:TO):TE:=fun σ H Q=>te σ H fun x H1=>tl σ H1 fun l H2=>th σ H2 fun u H3=>r x l u H3 Q
theorem i4 {r:V→Option Int→Option Int→Hp→VK→Prop} (hr:SlR X r) (he:PE X e te) (hl:PO X lo tl) (hu:PO X hi th):PE X (.Subscript e (.Slice lo hi none p2) pos) (tSl r te tl th):=by
 intro pins s σ H Q I h;refine Subscript_ (thn (he pins s σ H _ I h) fun v s1 ⟨x,H1,I1,r1,q1⟩=> ?_);refine wpAny_Slice (thn (hl pins s1 σ H1 _ I1 q1) fun vl s2 ⟨l,H2,I2,pl,q2⟩=>thn (hu pins s2 σ H2 _ I2 q2) fun vu s3 ⟨u,H3,I3,pu,q3⟩=> ?_);rw [evalPart_none];refine wpAny_pure ?_;have I4:Inv X pins σ H3 {s3 with heap:=s3.heap.push {cls:= .type "slice",data:= .fields #[vl,vu, .none]}}:=I3.kept (t':=s3.toks) fun b ob q=>Heap.get?_push_of_some _ q;obtain ⟨T,id,hT,ht,hg⟩:=hr pins {s3 with heap:=s3.heap.push {cls:= .type "slice",data:= .fields #[vl,vu, .none]}} σ H3 x v vl vu l u s3.heap.objs.size Q I4 r1 (Heap.IsSliceOf.new ..) pl pu q3;show wpAny (model X.prog X.w) X.A (subscriptTail e (.Slice lo hi none p2) v (.ref s3.heap.objs.size)) (EP X pins σ Q) X.xe {s3 with heap:=s3.heap.push {cls:= .type "slice",data:= .fields #[vl,vu, .none]}};exact tail_any (ops:= [.ref s3.heap.objs.size,v]) ht hT hg (by with_unfolding_all rfl)
noncomputable def cutV (xs:List V) (lo hi:Option Int):List V:=(xs.drop (HT.sIx xs.length 0 lo)).take (HT.sIx xs.length xs.length hi - HT.sIx xs.length 0 lo)
theorem ku (xs:List V) (lo hi:Option Int):(cutV xs lo hi).length≤xs.length:=by
 unfold cutV;rw [zh,Ag];omega
end
open PySem PySem.Spec PyProof.Rows
noncomputable def ixN (n:Nat) (i:Int):Option Nat:=if 0≤i then (if i < n then some i.toNat else none) else if -(n:Int)≤i then some (i+n).toNat else none
noncomputable def atI {α:Type} (xs:List α) (i:Int):Option α:=(ixN xs.length i).bind fun j=>xs[j]?
theorem nG {n:Nat} {i:Int} {j:Nat} (h:ixN n i=some j):seqIndex? i n=some j∧j < n∧ -(n:Int)≤i∧i < n:=by
 unfold ixN at h;by_cases h0:0≤i
 · rw [if_pos h0] at h;by_cases h1:i < n
   · rw [if_pos h1] at h;have e:i.toNat=j:=zb h;exact ⟨by rw [seqIndex_of h0 h1,e],by omega,by omega,h1⟩
   · rw [if_neg h1] at h;cases h
 · rw [if_neg h0] at h;by_cases h1:-(n:Int)≤i
   · rw [if_pos h1] at h;have e:(i+n).toNat=j:=zb h;exact ⟨by rw [seqIndex_neg (by omega) h1,e],by omega,h1,by omega⟩
   · rw [if_neg h1] at h;cases h
theorem oj {α:Type} {xs:List α} {i:Int} {v:α} (h:atI xs i=some v):∃j,seqIndex? i xs.length=some j∧xs[j]?=some v∧j < xs.length∧ -(xs.length:Int)≤i∧i < xs.length:=by
 unfold atI at h
 cases e:ixN xs.length i with
 |none=>rw [e] at h;cases h
 |some j=>
  rw [e] at h;obtain ⟨h1,h2,h3,h4⟩:=nG e;exact ⟨j,h1,h,h2,h3,h4⟩
theorem aJ {α:Type} {xs:List α} {j:Nat} {v:α} (h:xs[j]?=some v):atI xs (j:Int)=some v:=by
 have hj:j < xs.length:=(yW.mp h).1
 have e:ixN xs.length (j:Int)=some j:=by
  unfold ixN;rw [if_pos (by omega),if_pos (by omega)];simp
 unfold atI;rw [e];exact h
def uS (b:Expr):Prop:=∀o i,subscripted b false o i=operate [o,i] (getItem o i)
def IxR (X:Cx) (r:R2):Prop:=
 ∀(value slice:Expr) (pins:List (Addr×Obj)) (s:Shared) (σ:St) (H:Hp) (x y:V) (v u:Value) (Q:VK),Inv X pins σ H s→RelV x v→RelV y u→r x y H Q→
  subscripted slice false v u=operate [v,u] (getItem v u)→wpAny (model X.prog X.w) X.A (subscriptTail value slice v u) (EP X pins σ Q) X.xe s
def MtR (X:Cx) (id:String) (r:V→List V→Hp→VK→Prop):Prop:=
 ∀(pins:List (Addr×Obj)) (s:Shared) (σ:St) (H:Hp) (x:V) (xs:List V) (v:Value) (us:List Value) (Q:VK),Inv X pins σ H s→RelV x v→Vals xs us→r x xs H Q→
  wpAny (model X.prog X.w) X.A (call (.builtin id) (v::us)) (EP X pins σ Q) X.xe s
section
variable {X:Cx} {a b:Expr} {ta tb:TE} {pos:Pos}
theorem ao {r:R2} (hr:IxR X r) (ha:PE X a ta) (hb:PE X b tb) (hs:uS b):PE X (.Subscript a b pos) (tOp r ta tb):=by
 intro pins s σ H Q I h;exact Subscript_ (binT ha hb I h fun v u s2 x y H2 I2 rx ry q=>hr a b pins s2 σ H2 x y v u Q I2 rx ry q (hs _ _))
def rIxL (K:PySem.W.Frag):R2:=fun x y H Q=>∃p xs i v,x= .ref p∧y= .int i∧SqL K H p xs∧atI xs i=some v∧Q v H
def rIxT (K:PySem.W.Frag):R2:=fun x y H Q=>∃p xs i v,x= .ref p∧y= .int i∧SqT K H p xs∧atI xs i=some v∧Q v H
theorem aw:IxR X (rIxL X.K):=by
 intro value slice pins s σ H x y v u Q I rx ry h hs;obtain ⟨p,xs,i,z,rfl,rfl,hq,he,q⟩:=h;cases rx;obtain ⟨t,rfl⟩:=ry;obtain ⟨its,r,pl,hz⟩:=I.list hq;obtain ⟨j,h1,h2,h3,h4,h5⟩:=oj he;obtain ⟨w,ew,rw'⟩:=r.get h2;have hl:=r.length;have hn:=fE;have fin:EP X pins σ Q w s:=⟨z,H,I,rw',q⟩;by_cases h0:0≤i
 · have hj:i.toNat=j:=by
    rw [seqIndex_of h0 h5] at h1;exact zb h1
   exact item_listR pl.isList h0 (by omega) (by rw [hj];simpa using ew) fin hs
 · have hj:(i+(its.toArray.size:Int)).toNat=j:=by
    rw [seqIndex_neg (by omega) h4] at h1
    rw [yU,←hl];exact zb h1
   exact subscriptTail_builtinR (x:=w) pl.isList.typeIs slot_list_getitem.lookup
    (wpAny_getItem_list_neg (Q:=fun r s'=>r=w∧EP X pins σ Q r s') pl.isList (by omega) (by rw [yU]<;>omega) (by omega) (by rw [hj];simpa using ew) ⟨rfl,fin⟩) hs
theorem aA:IxR X (rIxT X.K):=by
 intro value slice pins s σ H x y v u Q I rx ry h hs;obtain ⟨p,xs,i,z,rfl,rfl,hq,he,q⟩:=h;cases rx;obtain ⟨t,rfl⟩:=ry;obtain ⟨its,r,pl,hz⟩:=I.tuple hq;obtain ⟨j,h1,h2,h3,h4,h5⟩:=oj he;obtain ⟨w,ew,rw'⟩:=r.get h2;have hl:=r.length;have hn:=fE;have fin:EP X pins σ Q w s:=⟨z,H,I,rw',q⟩
 exact subscriptTail_builtinR (x:=w) pl.typeIs slot_tuple_getitem.lookup
  (getItem_tuple (j:=j) (Q:=fun r s'=>r=w∧EP X pins σ Q r s') pl (by omega) (by omega) (by rw [yU,←hl];exact h1) (by simpa using ew) ⟨rfl,fin⟩) hs
theorem lQ (its:List Value) (n j:Nat) (u:Value):Obj.mapSeq (·.setIfInBounds j u) {cls:= .type "list",data:= .seq its.toArray n} = {cls:= .type "list",data:= .seq (its.set j u).toArray n}:=by
 simp [Obj.mapSeq]
theorem Inv.lst {pins:List (Addr×Obj)} {σ:St} {H:Hp} {s:Shared} {p:Addr} {xs:List V} (I:Inv X pins σ H s) (h:H p=some (.lst xs)):
 ∃(its:List Value) (n:Nat),Vals xs its∧s.heap.get? p=some {cls:= .type "list",data:= .seq its.toArray n}∧xs.length≤sizeLine:=by
 obtain ⟨z,its,n,r,e⟩:=I.hok p _ h;exact ⟨its,n,r,e,z⟩
theorem Inv.lstUpd {pins:List (Addr×Obj)} {σ:St} {H:Hp} {s:Shared} {p:Addr} {xs ys:List V} {its its':List Value} {n n':Nat} {f:Obj→Obj} (I:Inv X pins σ H s) (h:H p=some (.lst xs))
 (ho:s.heap.get? p=some {cls:= .type "list",data:= .seq its.toArray n}) (hf:f {cls:= .type "list",data:= .seq its.toArray n} = {cls:= .type "list",data:= .seq its'.toArray n'}) (r:Vals ys its') (hz:ys.length≤sizeLine) (t:Nat):
 Inv X pins σ (upd H p (.lst ys)) {s with heap:=s.heap.update p f,toks:=t}:=by
 have e:(s.heap.update p f).get? p=some {cls:= .type "list",data:= .seq its'.toArray n'}:=by
  rw [Heap.get?_update_self f ho (by rw [hf]<;>rfl),hf]
 refine I.write (x:=p) (e:=p) (by rw [h];trivial) (.inl rfl) (fun b u hb q=>(Heap.get?_update_other _ _ (Ne.symm hb)).trans q) ⟨_,e⟩ ?_
 exact ⟨hz,its',n',r,e⟩
def yq:V→V→V→Hp→(Hp→Prop)→Prop:=fun o i v H Q=>∃p xs k j,o= .ref p∧i= .int k∧H p=some (.lst xs)∧ixN xs.length k=some j∧Q (upd H p (.lst (xs.set j v)))
theorem df:PSet X yq:=by
 intro pins s σ H o i v ov iv u Q I ro ri rv h;obtain ⟨p,xs,k,j,rfl,rfl,hp,hj,q⟩:=h;cases ro;obtain ⟨t,rfl⟩:=ri;obtain ⟨its,n,r,ho,hz⟩:=I.lst hp;obtain ⟨h1,h2,h3,h4⟩:=nG hj;have hl:=r.length;have hn:=fE
 have I':Inv X pins σ (upd H p (.lst (xs.set j v))) {s with heap:=s.heap.update p (Obj.mapSeq (·.setIfInBounds j u))}:=
  I.lstUpd hp ho (lQ its n j u) (r.set rv j) (by rw [List.length_set];exact hz) s.toks
 by_cases h0:0≤k
 · have hk:k.toNat=j:=by
    rw [seqIndex_of h0 h4] at h1;exact zb h1
   exact PySem.W.ki_setAt ho h0 (by omega) (by rw [yU,←hl];exact h4) (by rw [hk];exact ⟨_,I',q⟩)
 · have hk:(k+(its.toArray.size:Int)).toNat=j:=by
    rw [seqIndex_neg (by omega) h3] at h1
    rw [yU,←hl];exact zb h1
   exact PySem.W.ki_setBack ho (by omega) (by rw [yU,←hl];exact h3) (by omega) (by rw [hk];exact ⟨_,I',q⟩)
theorem jd (lo hi:Option Int) (n:Nat):(sliceBounds lo hi none n).1=((HT.sIx n 0 lo:Nat):Int)∧(sliceBounds lo hi none n).2.1=((HT.sIx n n hi:Nat):Int)∧(sliceBounds lo hi none n).2.2=1:=by
 refine ⟨?_,?_,rfl⟩
 · cases lo with
   |none=>simp [sliceBounds,HT.sIx]
   |some i=>
    simp only [sliceBounds,HT.sIx,Option.getD_none,show (1:Int) > 0 by decide,if_true]
    by_cases h:i < 0
    · simp only [h,if_true]<;>omega
    · simp only [h,if_false]<;>omega
 · cases hi with
   |none=>simp [sliceBounds,HT.sIx]
   |some i=>
    simp only [sliceBounds,HT.sIx,Option.getD_none,show (1:Int) > 0 by decide,if_true]
    by_cases h:i < 0
    · simp only [h,if_true]<;>omega
    · simp only [h,if_false]<;>omega
theorem iw (its:List Value) (lo hi:Option Int):slicePick its.toArray lo hi none=((its.drop (HT.sIx its.length 0 lo)).take (HT.sIx its.length its.length hi - HT.sIx its.length 0 lo)).toArray:=by
 obtain ⟨h1,h2,h3⟩:=jd lo hi its.toArray.size;unfold slicePick;rw [h1,h2,h3];simp only [sliceRange_one,pick_run,yU]<;>rfl
def rSlL (K:PySem.W.Frag):V→Option Int→Option Int→Hp→VK→Prop:=fun x lo hi H Q=>∃a xs,x= .ref a∧SqL K H a xs∧∀p,H p=none→Q (.ref p) (upd H p (.lst (cutV xs lo hi)))
theorem je:SlR X (rSlL X.K):=by
 intro pins s σ H x v vl vu lo hi sl Q I rx hs pl pu h;obtain ⟨a,xs,rfl,hx,q⟩:=h;cases rx;obtain ⟨its,r,ht,hz⟩:=I.list hx;have hlen:=r.length;refine ⟨"list",_,slot_list_getitem.lookup,ht.isList.typeIs,?_⟩;refine wpAny_getItem_list_slice ht.isList hs pl pu .none (by simp) ?_ (by rw [yU]<;>omega)
 rw [iw,←hlen];refine ⟨.ref s.heap.objs.size,_,I.laid (t':=s.toks) (o:= .lst (cutV xs lo hi)) (fun b ob q=>Heap.get?_push_of_some _ q) (yP _) ?_,rfl,q _ (I.hok.fresh (yP _))⟩;exact ⟨yY (ku xs lo hi) hz,_,0,(r.drop (HT.sIx xs.length 0 lo)).take (HT.sIx xs.length xs.length hi - HT.sIx xs.length 0 lo),Heap.get?_push_size _ rfl⟩
theorem ay:cB X (.builtin "len") (fun xs H Q=>∃p ys,xs= [.ref p]∧(SqL X.K H p ys∨SqT X.K H p ys)∧Q (.int ys.length) H):=by
 intro pins s σ H xs us Q I r h;obtain ⟨p,ys,rfl,hq,q⟩:=h;obtain ⟨u,rfl,rx⟩:=cP r;cases rx;have hn:=fE;rcases hq with hq|hq
 · obtain ⟨its,r',pl,hz⟩:=I.list hq;have hlen:=r'.length;exact Calls.call_len_list pl.isList (by simp only [yU]<;>omega) ⟨.int ys.length,H,I.tok _,⟨s.toks+1,by rw [yU,hlen]⟩,q⟩
 · obtain ⟨its,r',pl,hz⟩:=I.tuple hq;have hlen:=r'.length;exact len_tuple pl (by simp only [yU]<;>omega) ⟨.int ys.length,H,I.tok _,⟨s.toks+1,by rw [yU,hlen]⟩,q⟩
theorem fm:cB X (.type "list") (fun xs H Q=>∃p ys,xs= [.ref p]∧(SqL X.K H p ys∨SqT X.K H p ys)∧∀l,H l=none→Q (.ref l) (upd H l (.lst ys))):=by
 intro pins s σ H xs us Q I r h;obtain ⟨p,ys,rfl,hq,q⟩:=h;obtain ⟨u,rfl,rx⟩:=cP r;cases rx
 have fin:∀(its:List Value),Vals ys its→ys.length≤sizeLine→∀(h':Heap) (c':Nat),(∀b o',s.heap.get? b=some o'→h'.get? b=some o')→
  h'.get? s.heap.objs.size=some {cls:= .type "list",dict:=none,data:= .seq its.toArray c',slots:= #[]}→EP X pins σ Q (.ref s.heap.objs.size) {s with heap:=h'}:=fun its r' hz h' c' kp e=>
  ⟨.ref s.heap.objs.size,_,I.laid (t':=s.toks) kp (yP _) (show ObjOk X.prog X.w _ h' _ (.lst ys) from ⟨hz,its,c',r',e⟩),rfl,q _ (I.hok.fresh (yP _))⟩
 rcases hq with hq|hq
 · obtain ⟨its,r',pl,hz⟩:=I.list hq;have hlen:=r'.length;obtain ⟨o,ho,hc,n,hd⟩:=pl.isList;exact call_list_seq p (.inl rfl) ho hc hd (fun h' c' kp e=>fin its r' hz h' c' kp e) (by simp only [yU]<;>omega)
 · obtain ⟨its,r',pl,hz⟩:=I.tuple hq;have hlen:=r'.length;obtain ⟨o,ho,hc,n,hd⟩:=pl;exact call_list_seq p (.inr rfl) ho hc hd (fun h' c' kp e=>fin its r' hz h' c' kp e) (by simp only [yU]<;>omega)
theorem cY:cB X (.type "tuple") (fun xs H Q=>∃p ys,xs= [.ref p]∧((SqL X.K H p ys∧∀l,H l=none→Q (.ref l) (upd H l (.tup ys)))∨(SqT X.K H p ys∧Q (.ref p) H))):=by
 intro pins s σ H xs us Q I r h;obtain ⟨p,ys,rfl,h⟩:=h;obtain ⟨u,rfl,rx⟩:=cP r;cases rx;rcases h with ⟨hq,q⟩|⟨hq,q⟩
 · obtain ⟨its,r',pl,hz⟩:=I.list hq;have hlen:=r'.length;refine call_tuple_list pl.isList (fun h' kp=> ?_) (by simp only [yU]<;>omega)
   have I1:Inv X pins σ H {s with heap:=h'}:=I.kept (t':=s.toks) kp
   have I2:Inv X pins σ (upd H h'.objs.size (.tup ys)) {s with heap:=h'.push {cls:= .type "tuple",data:= .seq its.toArray}}:=
    I1.laid (t':=s.toks) (fun b o e=>Heap.get?_push_of_some _ e) (yP _) (show ObjOk X.prog X.w _ _ _ (.tup ys) from ⟨hz,its,r',IsTup.new _ _⟩)
   exact ⟨.ref h'.objs.size,_,I2,rfl,q _ (I1.hok.fresh (yP _))⟩
 · obtain ⟨its,r',pl,hz⟩:=I.tuple hq;exact call_tuple_same pl ⟨.ref p,H,I,rfl,q⟩
def tyV (K:PySem.W.Frag) (T:String) (x:V) (H:Hp):Prop:=match x with
 | .str _=>T= "str"
 | .int _=>T= "int"
 | .ref p=>(T= "list"∧∃xs,SqL K H p xs)∨(T= "tuple"∧∃o,K.lookup p=some o∧o.cls= .type "tuple"∧o.dict=none)∨
  (T= "dict"∧((∃kvs,H p=some (.dK kvs))∨∃kvs,H p=some (.dT kvs)))∨(T= "set"∧∃S n,H p=some (.set S n))
 |_=>False
theorem pe {pins:List (Addr×Obj)} {σ:St} {H:Hp} {s:Shared} {T:String} {x:V} {v:Value} (I:Inv X pins σ H s) (r:RelV x v) (ty:tyV X.K T x H):
 s.TypeIs v T∧∀a,v= .ref a→∃ob,s.heap.get? a=some ob∧ob.dict=none:=by
 cases x with
 |str z=>
  obtain ⟨t,rfl⟩:=r;cases (show T= "str" from ty);exact ⟨typeIs_str s z t,fun _ e=>nomatch e⟩
 |int i=>
  obtain ⟨t,rfl⟩:=r;cases (show T= "int" from ty);exact ⟨typeIs_int s i t,fun _ e=>nomatch e⟩
 |ref p=>
  cases r;rcases ty with ⟨rfl,xs,hq⟩|⟨rfl,o,hk,hc,hd⟩|⟨rfl,hk⟩|⟨rfl,S,n,hk⟩
  · obtain ⟨its,_,pl,_⟩:=I.list hq;refine ⟨pl.isList.typeIs,fun a e=> ?_⟩;cases e;obtain ⟨o,n,e,c,hd,_⟩:=pl;exact ⟨o,e,hd⟩
  · refine ⟨⟨o,I.kIn p o hk,hc⟩,fun a e=> ?_⟩;cases e;exact ⟨o,I.kIn _ o hk,hd⟩
  · have z:∃o,s.heap.get? p=some o∧o.ExactDict:=by
     rcases hk with ⟨kvs,hk⟩|⟨kvs,hk⟩
     · obtain ⟨_,_,_,_,o,_,_,e,ex,_⟩:=I.hok p _ hk;exact ⟨o,e,ex⟩
     · obtain ⟨_,_,_,_,o,_,_,e,ex,_⟩:=I.hok p _ hk;exact ⟨o,e,ex⟩
    obtain ⟨o,e,ex⟩:=z;refine ⟨⟨o,e,ex.1⟩,fun a e2=> ?_⟩;cases e2;exact ⟨o,e,ex.2.1⟩
  · obtain ⟨o,_,_,_,e,ex,_⟩:=I.hok p _ hk;refine ⟨⟨o,e,ex.1⟩,fun a e2=> ?_⟩;cases e2;exact ⟨o,e,ex.2.1⟩
 |_=>exact False.elim ty
def tBM0 (K:PySem.W.Frag) (T:String) (r:V→List V→Hp→VK→Prop) (to:TE):TE:=fun σ H Q=>to σ H fun x H1=>tyV K T x H1∧r x [] H1 Q
def tBM (K:PySem.W.Frag) (T:String) (r:V→List V→Hp→VK→Prop) (to:TE) (t:TA):TE:=fun σ H Q=>to σ H fun x H1=>tyV K T x H1∧t σ H1 fun xs H2=>r x xs H2 Q
variable {o e:Expr} {es:List Expr} {to:TE} {t:TA} {name:Str} {apos cpos:Pos} {T id:String} {r:V→List V→Hp→VK→Prop}
theorem wa (pa:PlainAttrs T) (slot:Slot T name id) (hty:typeOf (.builtin id)=pure (.type "method_descriptor")) (hm:MtR X id r) (ho:PE X o to)
 (hbase:attributeBase o name X.env (eval o X.env)=eval o X.env:=by rfl) (hline:(apos.endLine==cpos.line)=true:=by rfl):PE X (.Call (.Attribute o name apos) [] [] cpos) (tBM0 X.K T r to):=by
 intro pins s σ H Q I h;refine wpAny_Call_method0_late hbase hline (thn (ho pins s σ H _ I h) fun v s1 ⟨x,H1,I1,r1,ty,q1⟩=> ?_);obtain ⟨h1,h2⟩:=pe I1 r1 ty;exact ⟨T,id,pa,slot,hty,h1,h2,Calls.callWith_builtin rfl (PySem.evalArgs_none (hm pins s1 σ H1 x [] v [] Q I1 r1 .nil q1))⟩
theorem cS (pa:PlainAttrs T) (slot:Slot T name id) (hty:typeOf (.builtin id)=pure (.type "method_descriptor")) (hm:MtR X id r) (ho:PE X o to) (ha:PA X (e::es) t)
 (hbase:attributeBase o name X.env (eval o X.env)=eval o X.env:=by rfl)
 (hfew:((backTo cpos (starEach (e::es) X.env)).all (fun x=> !x.1)&& (backToKw cpos (keywordEach [] X.env)).all (fun x=>x.1.isSome)
  &&decide ((e::es).length+([]:List Keyword).length+(if ([]:List Keyword).isEmpty then 0 else 1) < 30))=true:=by rfl)
 (hline:(apos.endLine==cpos.line)=true:=by rfl) (hs:starEach (e::es) X.env=(false,eval e X.env)::starEach es X.env:=by rfl) (hplain:(backTo cpos (starEach es X.env)).any (·.1)=false:=by rfl):
 PE X (.Call (.Attribute o name apos) (e::es) [] cpos) (tBM X.K T r to t):=by
 intro pins s σ H Q I h;refine wpAny_Call_method_late hbase hfew hline rfl (thn (ho pins s σ H _ I h) fun v s1 ⟨x,H1,I1,r1,ty,q1⟩=> ?_);obtain ⟨h1,h2⟩:=pe I1 r1 ty;refine ⟨T,id,pa,slot,hty,h1,h2,?_⟩;have hA:=ha cpos pins s1 σ H1 _ I1 q1;rw [hs] at hA ⊢;refine Calls.callWith_builtin (by show (false ||(backTo cpos (starEach es X.env)).any (·.1))=false;rw [hplain]<;>rfl) (Calls.evalArgs_plain ?_)
 exact thn hA fun us s2 ⟨vs,H2,I2,r2,q2⟩=>hm pins s2 σ H2 x vs v us Q I2 r1 r2 q2
end
open PySem PySem.Spec PyProof.Rows
def MtM (X:Cx) (id:String) (r:V→List V→Hp→VK→Prop):Prop:=
 ∀(pins:List (Addr×Obj)) (s:Shared) (σ:St) (H:Hp) (x:V) (xs:List V) (v:Value) (us:List Value) (Q:VK),Inv X pins σ H s→RelV x v→Vals xs us→r x xs H Q→
  wpAny (model X.prog X.w) X.A (call (.builtin id) (v::us)) (EP X pins σ Q) X.xe s
theorem Vals.one:∀ {x:V} {us:List Value},Vals [x] us→∃u,us= [u]∧RelV x u
 |_,_, .cons r .nil=>⟨_,rfl,r⟩
theorem Vals.two {x y:V} {us:List Value} (h:Vals [x,y] us):∃u v,us= [u,v]∧RelV x u∧RelV y v:=by
 cases h with
 |cons r t=>cases t with
  |cons q t'=>cases t';exact ⟨_,_,rfl,r,q⟩
theorem Vals.zero:∀ {us:List Value},Vals [] us→us= []
 |_, .nil=>rfl
theorem Vals.dropLast {xs:List V} {us:List Value} (h:Vals xs us):Vals xs.dropLast us.dropLast:=by
 induction h with
 |nil=>exact .nil
 |cons r t ih=>
  cases t with
  |nil=>exact .nil
  |cons q t'=>exact .cons r ih
theorem Vals.reverse {xs:List V} {us:List Value} (h:Vals xs us):Vals xs.reverse us.reverse:=by
 induction h with
 |nil=>exact .nil
 |cons r t ih=>rw [List.reverse_cons,List.reverse_cons];exact Vals.append ih (.cons r .nil)
section
variable {X:Cx} {pins:List (Addr×Obj)} {σ:St} {H:Hp} {s:Shared} {l b:Addr} {xs ys zs:List V}
theorem Inv.lset {its its':List Value} {n:Nat} {f:Array Value→Array Value} {t':Nat} (I:Inv X pins σ H s) (hH:H l=some (.lst xs))
 (e:s.heap.get? l=some {cls:= .type "list",data:= .seq its.toArray n}) (hf:f its.toArray=its'.toArray) (hv:Vals ys its') (hz:ys.length≤sizeLine):
 Inv X pins σ (upd H l (.lst ys)) {s with heap:=s.heap.update l (Obj.mapSeq f),toks:=t'}:=by
 have q:=PySem.IsL.update e f;rw [hf] at q;refine I.write (x:=l) (e:=l) (by rw [hH];exact trivial) (.inl rfl) (fun b' u hb hu=>(Heap.get?_update_other s.heap (Obj.mapSeq f) (Ne.symm hb)).trans hu) ⟨_,q⟩ ?_
 exact ⟨hz,its',_,hv,q⟩
theorem Inv.lnew {its:List Value} {t':Nat} (I:Inv X pins σ H s) (hv:Vals ys its) (hz:ys.length≤sizeLine):
 Inv X pins σ (upd H s.heap.objs.size (.lst ys)) {s with heap:=s.heap.push {cls:= .type "list",data:= .seq its.toArray},toks:=t'}:=
 I.laid (fun _ _ q=>Heap.get?_push_of_some _ q) (yP _) ⟨hz,its,0,hv,Heap.get?_push_size _ rfl⟩
theorem Inv.fresh (I:Inv X pins σ H s):H s.heap.objs.size=none:=I.hok.fresh (yP _)
theorem Inv.lstM (I:Inv X pins σ H s) (hH:H l=some (.lst xs)):xs.length≤sizeLine∧∃(its:List Value) (n:Nat),Vals xs its∧xs.length=its.length∧s.heap.get? l=some {cls:= .type "list",data:= .seq its.toArray n}:=by
 obtain ⟨z,its,n,r,e⟩:=I.hok l _ hH;exact ⟨z,its,n,r,r.length,e⟩
theorem rX {n:Nat} (h:n≤sizeLine):Builtin.List.listTooLong n=false:=by
 unfold Builtin.List.listTooLong;exact decide_eq_false (by omega)
end
section
variable {X:Cx}
def u8:V→List V→Hp→VK→Prop:=fun x vs H Q=>∃l xs y,x= .ref l∧vs= [y]∧H l=some (.lst xs)∧xs.length < sizeLine∧Q .non (upd H l (.lst (xs++ [y])))
theorem bf:MtM X "list.append" u8:=by
 intro pins s σ H x vs v us Q I rx rv h;obtain ⟨l,xs,y,rfl,rfl,hH,hz,q⟩:=h;cases rx;obtain ⟨u,rfl,ru⟩:=rv.one;obtain ⟨z,its,n,r,hl,e⟩:=I.lstM hH;refine call_meets F.slot_list_append ⟨_,e,rfl⟩ F.entry_list_append (F.args_list_append_2 _ _) (PySem.list_append l its.toArray n u (by rw [yU];omega)) ⟨e,?_⟩
 refine ⟨.non,_,I.lset (its':=its++ [u]) hH e (by simp) (r.append (.cons ru .nil)) ?_,rfl,q⟩
 rw [z7,List.length_singleton];omega
def u7:V→List V→Hp→VK→Prop:=fun x vs H Q=>∃l b xs zs,x= .ref l∧vs= [.ref b]∧H l=some (.lst xs)∧H b=some (.lst zs)∧xs.length+zs.length≤sizeLine∧Q .non (upd H l (.lst (xs++zs)))
theorem oG:MtM X "list.extend" u7:=by
 intro pins s σ H x vs v us Q I rx rv h;obtain ⟨l,b,xs,zs,rfl,rfl,hH,hB,hz,q⟩:=h;cases rx;obtain ⟨u,rfl,ru⟩:=rv.one;cases ru;obtain ⟨z,its,n,r,hl,e⟩:=I.lstM hH;obtain ⟨z2,its2,n2,r2,hl2,e2⟩:=I.lstM hB;have hsz:its.toArray.size+its2.toArray.size≤sizeLine:=by rw [yU,yU];omega
 have hlong:¬(!its.toArray.isEmpty&&Builtin.List.listTooLong (its.toArray.size+its2.toArray.size))=true:=by
  rw [rX hsz,Bool.and_false];exact zk
 refine call_meets F.slot_list_extend ⟨_,e,rfl⟩ F.entry_list_extend (F.args_list_extend_2 _ _)
  (AutoSeq1.list_extend_list_list_0 l its.toArray n b its2.toArray n2 hlong (by rw [yU];omega) (by omega)) ⟨e,e2,?_⟩
 refine ⟨.non,_,I.lset (its':=its++its2) hH e (by simp) (r.append r2) ?_,rfl,q⟩
 rw [z7];omega
def rCat:R2:=fun x y H Q=>∃l b xs zs,x= .ref l∧y= .ref b∧H l=some (.lst xs)∧H b=some (.lst zs)∧xs.length+zs.length≤sizeLine∧∀p,H p=none→Q (.ref p) (upd H p (.lst (xs++zs)))
theorem eQ:OpR X (binaryOp .Add) rCat:=by
 intro pins s σ H x y v u Q I rx ry h;obtain ⟨l,b,xs,zs,rfl,rfl,hH,hB,hz,q⟩:=h;cases rx;cases ry;obtain ⟨z,its,n,r,hl,e⟩:=I.lstM hH;obtain ⟨z2,its2,n2,r2,hl2,e2⟩:=I.lstM hB;refine PySem.P.add_list e e2 ?_ (by rw [yU,yU];omega)
 have ea:its.toArray++its2.toArray=(its++its2).toArray:=by simp
 rw [ea];exact ⟨.ref _,_,I.lnew (t':=s.toks) (r.append r2) (by rw [z7];omega),rfl,q _ I.fresh⟩
end
section
variable {prog:Program} {w:World} {A:Around} {E:Value→Shared→Prop} {s:Shared}
end
section
variable {X:Cx}
end
end L2
namespace Att
open PySem PySem.W PySem.Calls PyProof.Rows
theorem ge {P:Params} {h:Heap}:∀(ns:List Int) (vs:List Value),WellAll P h vs (ns.map WData.int)→IntsAre vs ns:=by
 intro ns
 induction ns with
 |nil=>
  intro vs w;rw [List.map_nil] at w;cases w;exact .nil
 |cons n ns ih=>
  intro vs w;rw [zc] at w
  cases w with
  |cons a b=>
   cases a;exact .cons _ _ (ih _ b)
theorem oy {l:OpenLaw} {n:Nat} (hn:l.most=some n) {P:Params} {h:Heap} {args:List WData} {vals:List Value}
 (hpre:l.row.toRowW.claim.pre args=true) (hwl:WellAll P h vals args):
 ∃a vs ns,vals= [Value.ref a]∧args= [WData.list (ns.map WData.int)]∧h.get? a=some {cls:= .type "list",data:= .seq vs.toArray}∧IntsAre vs ns∧ns.length≤n:=by
 have hsh:WShape.hasAll [] args [.list .int]=true:=(pre_splitW hpre).1;have hc:l.pre.holds [] {args:=args} =true:=(pre_splitW hpre).2;refine hZq fun q_ e_=> ?_;obtain ⟨d,r,rfl,h1,h2⟩:=hasAllW_cons hsh;subst e_;obtain rfl:=hasAllW_nil h2;obtain ⟨xs,rfl,h3⟩:=hasW_list h1;obtain ⟨ns,rfl⟩:=items_int h3
 have hlen:ns.length≤n:=by
  unfold OpenLaw.pre at hc
  have h4:(WTm.not (.lt (.lit (.int (n:Int))) (.len (.arg 0)))).holds [] {args:= [.list (ns.map .int)]} =true:=by
   have h4:=(holds_andW hc).1;rw [hn] at h4;exact h4
  have h5:=condW_of h4 (w_not (w_lt w_lit (w_len_list (w_arg rfl))));rw [yM] at h5;refine Nat.le_of_not_lt fun q=> ?_;have q':(n:Int) < ((ns.length:Nat):Int):=by omega
  first
   |(rw [decide_eq_true q'] at h5;exact absurd h5 (by decide))
   |(simp at h5;omega)
 cases hwl with
 |cons w1 w2=>
  cases w2
  cases w1 with
  |list ho hall=>exact ⟨_,_,ns,rfl,rfl,ho,ge ns _ hall,hlen⟩
theorem oA (l:OpenLaw) (args:List WData):l.row.toRowW.claim.post args (.bool true) args=true:=
 postW_of (r:=l.row.toRowW) (X:=(true==true))
  (show WShape.has [] (.bool true) .bool=true by first|rfl|decide|simp [WShape.has,WShape.arms,WShape.armsAll])
  (show (WTm.eq .res (.lit (.bool true))).value [] {args:=args,res:=some (.bool true),after:=args} =some (.bool (true==true)) from w_eq_bool (w_res rfl) w_lit) rfl
theorem attach_call {l:OpenLaw} {n:Nat} {q:Program} {loose:List Str} {XP:(Str→Option Value)→Heap→Prop} {YP:World→Heap→Prop} {d:DefRec}
 (hn:l.most=some n) (hdf:d.params.defaults= [])
 (call:∀(w:World) (s₀ s₁:Shared) (mg mb:Str→Option Value) (fa:Addr) (o:Obj) (pm cd doc:Value) (a:Addr) (vs:List Value) (ns:List Int),
  Ground q loose [] XP w s₀ mg mb s₁.heap→YP w s₁.heap→
  s₁.heap.get? fa=some o→o.data= .func (docDef d.name d.params d.body d.scope pm cd doc)→s₁.heap.CodeRec cd d.name→mg d.name=some (.ref fa)→
  s₁.heap.get? a=some {cls:= .type "list",data:= .seq vs.toArray}→IntsAre vs ns→ns.length≤n→s₁.gens= #[]→
  codeAny (model l.prog w) callerA (.call (.ref fa) ⟨[.ref a],[]⟩) (fun r s'=>r= .ok (.ret (.bool true))∧OldK s₁.heap s'.heap∧s'.os=s₁.os∧AllBare s'.gens) s₁):
 WalkO q loose XP YP l.row.toRowW d [] (fun f vs=>PySem.call f vs):=by
 intro w s₀ s₁ mg mb G Y fa o pm cd doc dV kV ho hd hcd hD hmg hg args vals as hpre hlay hrd hwl hlo;obtain rfl:dV= .none:=Dflts.none hD hdf;obtain rfl:kV= .none:=Dflts.noKw hD;obtain ⟨a,vs,ns,rfl,rfl,hobj,hints,hlen⟩:=oy hn hpre hwl;refine enter_call (codeAny_mono (call w s₀ s₁ mg mb fa o pm cd doc a vs ns G Y ho (fd_plain hd) hcd hmg hobj hints hlen hg) fun r s' hq=> ?_);obtain ⟨rfl,h2,h3,h4⟩:=hq;exact ⟨.inl ⟨.bool true, .bool true,[],rfl,fun _=>rfl, .bool true,oA l _,fun _=>⟨List.Pairwise.nil,fun _ hm=>(nomatch hm)⟩⟩,h2,h3,h4⟩
section
variable {prog:Program} {w:World} {A:Around} {E:Value→Shared→Prop} {s:Shared} {K:Frag}
end
end Att
namespace L2
open PySem PySem.Spec PyProof.Rows
theorem iz:∀ {vs:List Value} {ns:List Int},IntsAre vs ns→Vals (ns.map V.int) vs
 |_,_, .nil=> .nil
 |_,_, .cons n t h=> .cons ⟨t,rfl⟩ (iz h)
def Only (H:Hp):Prop:=∀b,H b=none∨∃o xs,H b=some (.frz o (.lst xs))
open PySem PySem.Spec PyProof.Rows
open PySem PySem.Spec PyProof.Rows
noncomputable def uF (s:Stmt) (j:Nat):Stmt:=match s with
 | .ClassDef _ _ _ body _ _ _ _ _ _ _=>body.getD j (.Pass ⟨0,0,0,0⟩)
 |_=> .Pass ⟨0,0,0,0⟩
noncomputable def bp (s:Stmt):Arguments:=match s with
 | .FunctionDef _ a _ _ _ _ _ _ _ _=>a
 |_=> {posonlyargs:= [],args:= [],vararg:=none,kwonlyargs:= [],kw_defaults:= [],kwarg:=none,defaults:= []}
noncomputable def aS (s:Stmt):List Stmt:=match s with
 | .FunctionDef _ _ b _ _ _ _ _ _ _=>b
 |_=> []
noncomputable def ag (s:Stmt):Scope:=match s with
 | .FunctionDef _ _ _ _ _ _ sc _ _ _=>sc
 |_=> {kind:= .function,names:= [],isGenerator:=false,isCoroutine:=false}
abbrev CX0:CXT:=fun _ _ _ _ _ _=>False
abbrev E0:XK:=fun _ _ _=>False
theorem ar {X:Cx}:iu CX0 X E0:=fun _ _ _ _ _ _ _ h=>h.elim
structure Fun (K:PySem.W.Frag) (x qual:Str) (st:Stmt) (f:Addr) (fd:FuncData):Prop where
 ex:∃(oc:Value) (od:Option Addr) (kV doc pm:Value) (an:Option Addr) (cdv ct:Value) (osl:Array (Option Value)),
  fd=PySem.W.fnOf x qual (bp st) (aS st) (ag st) .none kV doc pm an cdv ct∧K.lookup f=some ⟨oc,od, .func fd,osl⟩∧PySem.W.codeIn K cdv qual=true
 kp:PySem.W.keepIn K (.ref f)=true
section
variable {P:Program} {w:World} {K:PySem.W.Frag} {mg:Str→Option Value} {base:Heap}
theorem Fun.ok {x qual:Str} {st:Stmt} {f:Addr} {fd:FuncData} {N ps:List Str} {k:Nat} {sp:Sp} (F:Fun K x qual st f fd) (S:FnScope N ps (ag st)) (len:∀vs H Q E,sp vs H Q E→vs.length=ps.length)
 (hbody:∀(cdv:Value) (A:Around) (outer:List Env) (s:Shared) (H:Hp) (vs:List V) (Q:VK) (E:XK),Room k (A.deeper (envOfC qual (ag st) s.heap.objs.size f cdv))→sp vs H Q E→
  ∃t,PSs (cxOf CX0 P w K mg base N qual (ag st) f cdv A outer s H E).nox (aS st) t∧t {nx:=fun _ H'=>Q .non H',rt:=Q} (f9 N vs) H):FnOk P w K mg base CX0 (k+1) f fd ps sp:=by
 obtain ⟨oc,od,kV,doc,pm,an,cdv,ct,osl,rfl,lk,hcd⟩:=F.ex;refine vp lk hcd S len fun A outer s H vs Q E hr hsp=> ?_;obtain ⟨t,h,q⟩:=hbody cdv A outer s H vs Q E hr hsp;exact ⟨t,h.nox,q⟩
theorem Fun.binds {x qual:Str} {st:Stmt} {f:Addr} {fd:FuncData} {ps:List Str} (F:Fun K x qual st f fd)
 (h:∀(kV doc pm:Value) (an:Option Addr) (cdv ct:Value) (us:List Value),us.length=ps.length→bindArgs (PySem.W.fnOf x qual (bp st) (aS st) (ag st) .none kV doc pm an cdv ct) ⟨us,[]⟩=pure (ps.zip us)):Binds K fd ps []:=by
 obtain ⟨oc,od,kV,doc,pm,an,cdv,ct,osl,rfl,lk,hcd⟩:=F.ex;exact .all (h kV doc pm an cdv ct)
theorem xq {x qual:Str} {st:Stmt} {f:Addr} {oc:Value} {od an:Option Addr} {osl:Array (Option Value)} {kV doc pm cdv ct:Value} (l:K.lookup f=some ⟨oc,od, .func (PySem.W.fnOf x qual (bp st) (aS st) (ag st) .none kV doc pm an cdv ct),osl⟩)
 (c:PySem.W.codeIn K cdv qual=true) (k:PySem.W.keepIn K (.ref f)=true):Fun K x qual st f (PySem.W.fnOf x qual (bp st) (aS st) (ag st) .none kV doc pm an cdv ct):=⟨⟨oc,od,kV,doc,pm,an,cdv,ct,osl,rfl,l,c⟩,k⟩
end
theorem nK {A:Around} {k:Nat} (hr:Room k A):A.units+1 < cLine:=z6 (A0 (by decide:1≤64) _) hr.units
section
variable {X:Cx}
theorem pv (i:Nat) {x:Str} {pos:Pos} (hN:X.N[i]?=some x:=by rfl) (hv:visB X.env.scope x=true:=by rfl) (hd:(x==("__debug__":Str))=false:=by decide)
 (hcd:(x==("__classdict__":Str))=false:=by decide):PE X (.Name x pos) (tVar i):=rA hN (visB_ok hv) hd hcd
end
theorem iteF {A B:Prop} (h:B):if false=true then A else B:=by
 rw [if_neg zk];exact h
theorem iteT {A B:Prop} (h:A):if true=true then A else B:=by
 rw [if_pos rfl];exact h
theorem ite2 {c A B:Prop} [Decidable c] (h1:c→A) (h2:¬c→B):if c then A else B:=by
 by_cases h:c
 · rw [if_pos h];exact h1 h
 · rw [if_neg h];exact h2 h
def Same (H H':Hp):Prop:=∀b o,H b=some o→H' b=some o
theorem Same.refl (H:Hp):Same H H:=fun _ _ h=>h
theorem Same.trans {H H1 H2:Hp} (a:Same H H1) (b:Same H1 H2):Same H H2:=fun c o h=>b c o (a c o h)
theorem Same.free {H H':Hp} (e:Same H H') {l:Addr} (h:H' l=Option.none):H l=Option.none:=by
 cases q:H l with
 |none=>rfl
 |some o=>
  rw [e l o q] at h;cases h
theorem Same.seq {K:PySem.W.Frag} {H H':Hp} {a:Addr} {xs:List V} (e:Same H H') (h:SqL K H a xs):SqL K H' a xs:=by
 rcases h with (h|⟨o,h⟩)|h
 · exact .inl (.inl (e _ _ h))
 · exact .inl (.inr ⟨o,e _ _ h⟩)
 · exact .inr h
end L2
namespace Srt
open PySem PySem.W PyProof.Rows
structure Ord (lt:Nat→Nat→Bool):Prop where
 asym:∀a b,lt a b=true→lt b a=false
 tr:∀a b c,lt b a=false→lt c b=false→lt c a=false
theorem Ord.refl {lt:Nat→Nat→Bool} (O:Ord lt) (a:Nat):lt a a=false:=by
 cases e:lt a a with
 |false=>rfl
 |true=>exact (O.asym a a e).symm.trans e |>.symm
theorem Ord.up {lt:Nat→Nat→Bool} (O:Ord lt) {a b c:Nat} (h:lt a b=true) (h2:lt c b=false):lt a c=true:=by
 cases e:lt a c with
 |true=>rfl
 |false=>
  have:=O.tr b c a h2 e;rw [h] at this;cases this
def Tri {α:Type} (lt:Nat→Nat→Bool) (N:Nat) (Post:α→Prop):KasT α→Prop
 | .ret a=>Post a
 | .ask i j k=>i < N∧j < N∧Tri lt N Post (k (lt i j))
variable {lt:Nat→Nat→Bool} {N:Nat}
theorem db {α β:Type} {Post:β→Prop} {f:α→KasT β}:∀ {t:KasT α},Tri lt N (fun a=>Tri lt N Post (f a)) t→Tri lt N Post (t.bind f)
 | .ret a,h=>h
 | .ask i j k,h=>⟨h.1,h.2.1,db h.2.2⟩
theorem bM {α:Type} {P Q:α→Prop} (hPQ:∀a,P a→Q a):∀ {t:KasT α},Tri lt N P t→Tri lt N Q t
 | .ret a,h=>hPQ a h
 | .ask i j k,h=>⟨h.1,h.2.1,bM hPQ h.2.2⟩
theorem pf {α:Type} {cmp:Nat→Nat→(Bool→Shared→Prop)→Shared→Prop} {G:Shared→Prop} {Post:α→Prop} {Q:α→Shared→Prop}
 (hc:∀i j (R:Bool→Shared→Prop) s,i < N→j < N→G s→(∀s',G s'→R (lt i j) s')→cmp i j R s) (hQ:∀a s,Post a→G s→Q a s):∀ {t:KasT α} {s:Shared},Tri lt N Post t→G s→t.kasWp cmp Q s
 | .ret a,s,h,g=>hQ a s h g
 | .ask i j k,s,h,g=>hc i j _ s h.1 h.2.1 g fun s' g'=>pf hc hQ h.2.2 g'
noncomputable def g (p:Array Nat) (k:Nat):Nat:=p.getD k 0
def Pm (N:Nat) (p:Array Nat):Prop:=p.toList.Perm (List.range N)
theorem Pm.size {p:Array Nat} (h:Pm N p):p.size=N:=by
 have:=h.length_eq;rw [zq,zJ] at this;exact this
theorem cE {p:Array Nat} (k:Nat):g p k=(p[k]?).getD 0:=by
 unfold g;rw [Array.getD_eq_getD_getElem?]
theorem Pm.bd {p:Array Nat} (h:Pm N p) {k:Nat} (hk:k < N):g p k < N:=by
 have hs:=h.size;have:p[k]?=some (p[k]'(by omega)):=zQ _
 rw [cE,this];have m:p[k]'(by omega)∈p.toList:=Array.mem_toList_iff.mpr (Array.getElem_mem _)
 exact zH.mp (h.mem_iff.mp m)
theorem Pm.of {p q:Array Nat} (h:Pm N p) (e:q.Perm p):Pm N q:=(Array.perm_iff_toList_perm.mp e).trans h
theorem Pm.rev {p:Array Nat} (h:Pm N p) (i j:Nat):Pm N (kas_rev p i j):=h.of (mirror_perm _ _ _ _)
theorem eM {p:Array Nat} {i j:Nat} (hj:j≤p.size) (k:Nat):g (kas_rev p i j) k=if i≤k∧k < j then g p (i+j - 1 - k) else g p k:=by
 rw [cE];unfold kas_rev;rw [getElem?_mirror_all hj];split<;>rw [cE]
theorem yH {p:Array Nat} {src d:Nat} (hs:src < p.size) (hd:d≤src) (k:Nat):g (bubble p src d) k=if k=src - d then g p src else if src - d < k∧k≤src then g p (k - 1) else g p k:=by
 rw [cE,getElem?_bubble hs d hd];split
 · rw [cE]
 · split<;>rw [cE]
def Up (lt:Nat→Nat→Bool) (p:Array Nat) (n:Nat):Prop:=∀i j,i≤j→j < n→lt (g p j) (g p i)=false
def Dn (lt:Nat→Nat→Bool) (p:Array Nat) (n:Nat):Prop:=∀i j,i≤j→j < n→lt (g p i) (g p j)=false
theorem tJ (O:Ord lt) {p:Array Nat} {n:Nat} (h0:1≤n) (h:Up lt p n) (e:lt (g p n) (g p (n - 1))=false):Up lt p (n+1):=by
 intro i j hij hj;by_cases q:j < n
 · exact h i j hij q
 · have ej:j=n:=by omega
   subst ej;by_cases qi:i=j
   · subst qi;exact O.refl _
   · exact O.tr _ _ _ (h i (j - 1) (by omega) (by omega)) e
theorem fg (O:Ord lt) {p:Array Nat} {n:Nat} (h0:1≤n) (h:Dn lt p n) (e:lt (g p (n - 1)) (g p n)=false):Dn lt p (n+1):=by
 intro i j hij hj;by_cases q:j < n
 · exact h i j hij q
 · have ej:j=n:=by omega
   subst ej;by_cases qi:i=j
   · subst qi;exact O.refl _
   · exact O.tr _ _ _ e (h i (j - 1) (by omega) (by omega))
theorem vD {p:Array Nat} {n:Nat} (hn:n≤p.size) (h:Dn lt p n):Up lt (kas_rev p 0 n) n:=by
 intro i j hij hj;rw [eM hn,eM hn,if_pos ⟨zf _,hj⟩,if_pos ⟨zf _,by omega⟩]
 exact h _ _ (by omega) (by omega)
theorem pK (O:Ord lt) {p:Array Nat} (hp:Pm N p):∀(f n:Nat),1≤n→n+f≤N→Up lt p n→Tri lt N (fun m=>n≤m∧m≤n+f∧Up lt p m∧(m < n+f→lt (g p m) (g p (m - 1))=true)) (kas_asc p f n)
 |0,n,h1,h2,h=>⟨yP _,yP _,h,fun q=>absurd q (by omega)⟩
 |f+1,n,h1,h2,h=>by
  refine ⟨Pm.bd hp (by omega),Pm.bd hp (by omega),?_⟩
  show Tri lt N _ (if lt (g p n) (g p (n - 1))=true then .ret n else kas_asc p f (n+1));by_cases e:lt (g p n) (g p (n - 1))=true
  · rw [if_pos e];exact ⟨yP _,by omega,h,fun _=>e⟩
  · rw [if_neg e];refine bM (fun m hm=> ?_) (pK O hp f (n+1) (by omega) (by omega) (tJ O h1 h (by simpa using e)))
    exact ⟨by omega,by omega,hm.2.2.1,fun q=>hm.2.2.2 (by omega)⟩
def Eqv (lt:Nat→Nat→Bool) (p:Array Nat) (n q:Nat):Prop:=∀k,n - 1 - q≤k→k < n→lt (g p k) (g p (n - 1))=false∧lt (g p (n - 1)) (g p k)=false
theorem km (O:Ord lt) {p:Array Nat} {n q:Nat} (hn:n≤p.size) (hq:q+1≤n) (h:Dn lt p n) (he:Eqv lt p n q):Dn lt (kas_rev p (n - (q+1)) n) n:=by
 intro i j hij hj;rw [eM hn,eM hn];by_cases bi:n - (q+1)≤i
 · rw [if_pos ⟨bi,by omega⟩,if_pos ⟨by omega,hj⟩]
   obtain ⟨a1,a2⟩:=he (n - (q+1)+n - 1 - i) (by omega) (by omega)
   obtain ⟨b1,b2⟩:=he (n - (q+1)+n - 1 - j) (by omega) (by omega)
   exact O.tr _ _ _ b2 a1
 · rw [if_neg (by omega)]
   by_cases bj:n - (q+1)≤j
   · rw [if_pos ⟨bj,hj⟩];exact h _ _ (by omega) (by omega)
   · rw [if_neg (by omega)]
     exact h _ _ hij hj
theorem j6 (O:Ord lt):∀(f:Nat) (p:Array Nat) (n q:Nat),Pm N p→1≤n→n+f≤N→q+1≤n→Dn lt p n→Eqv lt p n q→
 Tri lt N (fun r=>Pm N r.1∧n≤r.2.1∧r.2.1≤n+f∧r.2.2+1≤r.2.1∧Dn lt r.1 r.2.1∧Eqv lt r.1 r.2.1 r.2.2) (kas_desc f p n q)
 |0,p,n,q,hp,h1,h2,hq,h,he=>⟨hp,yP _,yP _,hq,h,he⟩
 |f+1,p,n,q,hp,h1,h2,hq,h,he=>by
  have hs:=hp.size;refine ⟨Pm.bd hp (by omega),Pm.bd hp (by omega),?_⟩
  show Tri lt N _ (if lt (g p n) (g p (n - 1))=true then (if q > 0 then kas_desc f (kas_rev p (n - (q+1)) n) (n+1) 0 else kas_desc f p (n+1) 0) else .ask (g p (n - 1)) (g p n) fun d=>if d=true then .ret (p,n,q) else kas_desc f p (n+1) (q+1))
  have one:∀p':Array Nat,Eqv lt p' (n+1) 0:=fun p' k k1 k2=>by
   have:k=n:=by omega
   subst this;exact ⟨O.refl _,O.refl _⟩
  by_cases e:lt (g p n) (g p (n - 1))=true
  · rw [if_pos e];have e':=O.asym _ _ e;by_cases q0:q > 0
    · rw [if_pos q0];have d1:=km O (by omega) hq h he
      have d2:Dn lt (kas_rev p (n - (q+1)) n) (n+1):=by
       refine fg O h1 d1 ?_;rw [eM (by omega),eM (by omega),if_pos ⟨by omega,by omega⟩,if_neg (by omega)]
       obtain ⟨a1,a2⟩:=he (n - (q+1)+n - 1 - (n - 1)) (by omega) (by omega)
       exact O.tr _ _ _ e' a1
      refine bM (fun r hr=> ?_) (j6 O f _ (n+1) 0 (hp.rev _ _) (by omega) (by omega) (by omega) d2 (one _))
      exact ⟨hr.1,by omega,by omega,hr.2.2.2⟩
    · rw [if_neg q0];refine bM (fun r hr=> ?_) (j6 O f p (n+1) 0 hp (by omega) (by omega) (by omega) (fg O h1 h e') (one _))
      exact ⟨hr.1,by omega,by omega,hr.2.2.2⟩
  · rw [if_neg e];have e1:lt (g p n) (g p (n - 1))=false:=by simpa using e
    refine ⟨Pm.bd hp (by omega),Pm.bd hp (by omega),?_⟩
    show Tri lt N _ (if lt (g p (n - 1)) (g p n)=true then .ret (p,n,q) else kas_desc f p (n+1) (q+1));by_cases e2:lt (g p (n - 1)) (g p n)=true
    · rw [if_pos e2];exact ⟨hp,yP _,(by show n≤n+(f+1);omega),hq,h,he⟩
    · rw [if_neg e2];have e3:lt (g p (n - 1)) (g p n)=false:=by simpa using e2
      refine bM (fun r hr=> ?_) (j6 O f p (n+1) (q+1) hp (by omega) (by omega) (by omega) (fg O h1 h e3) fun k k1 k2=> ?_)
      · exact ⟨hr.1,by omega,by omega,hr.2.2.2⟩
      · show lt (g p k) (g p n)=false∧lt (g p n) (g p k)=false;by_cases kn:k=n
        · subst kn;exact ⟨O.refl _,O.refl _⟩
        · obtain ⟨a1,a2⟩:=he k (by omega) (by omega)
          exact ⟨O.tr _ _ _ e3 a1,O.tr _ _ _ a2 e1⟩
theorem pJ (O:Ord lt) {p:Array Nat} {n:Nat} (hp:Pm N p) (h1:1≤n) (hn:n≤N) (h:Dn lt p n):Tri lt N (fun r=>Pm N r.2∧1≤r.1∧r.1≤N∧Up lt r.2 r.1) (kas_tail3 n N p):=by
 unfold kas_tail3;refine db (bM (fun m hm=> ?_) (pK O (hp.rev 0 n) (N - n) n h1 (by omega) (vD (by rw [hp.size];exact hn) h)))
 exact ⟨hp.rev 0 n,by omega,by omega,hm.2.2.1⟩
theorem gQ (O:Ord lt) {p:Array Nat} {n:Nat} (hp:Pm N p) (hn:n+1≤N) (h:Dn lt p (n+1)):Tri lt N (fun r=>Pm N r.2∧1≤r.1∧r.1≤N∧Up lt r.2 r.1) (kas_descPart n N p):=by
 unfold kas_descPart;refine db (bM (fun r hr=> ?_) (j6 O (N - (n+1)) p (n+1) 0 hp (by omega) (by omega) (by omega) h fun k k1 k2=> ?_))
 · obtain ⟨a1,a2,a3,a4,a5,a6⟩:=hr;split
   · exact pJ O (a1.rev _ _) (by omega) (by omega) (km O (by rw [a1.size];omega) a4 a5 a6)
   · exact pJ O a1 (by omega) (by omega) a5
 · have:k=n:=by omega
   subst this;exact ⟨O.refl _,O.refl _⟩
theorem tR (O:Ord lt) {p:Array Nat} (hp:Pm N p) (hN:1≤N):Tri lt N (fun r=>Pm N r.2∧1≤r.1∧r.1≤N∧Up lt r.2 r.1) (kas_count N p):=by
 unfold kas_count
 have u1:Up lt p 1:=fun i j hij hj=>by
  have:i=0:=by omega
  have:j=0:=by omega
  subst_vars
  exact O.refl _
 refine db (bM (fun n hn=> ?_) (pK O hp (N - 1) 1 (yP _) (by omega) u1))
 obtain ⟨b1,b2,b3,b4⟩:=hn;by_cases e:(n==N)=true
 · rw [if_pos e];exact ⟨hp,b1,by omega,b3⟩
 · rw [if_neg e];have e':n≠N:=by simpa using e
   have l1:=b4 (by omega)
   by_cases n1:n > 1
   · rw [if_pos n1];refine ⟨Pm.bd hp (by omega),Pm.bd hp (by omega),?_⟩
     show Tri lt N _ (if lt (g p 0) (g p (n - 1))=true then .ret (n,p) else kas_descPart n N (kas_rev p 0 n));by_cases e2:lt (g p 0) (g p (n - 1))=true
     · rw [if_pos e2];exact ⟨hp,b1,by omega,b3⟩
     · rw [if_neg e2];have e3:lt (g p 0) (g p (n - 1))=false:=by simpa using e2
       have alike:∀i j,i < n→j < n→lt (g p i) (g p j)=false:=fun i j hi hj=>
        O.tr (g p j) (g p 0) (g p i) (O.tr _ _ _ (b3 j (n - 1) (by omega) (by omega)) e3) (b3 0 i (zf _) hi)
       have hs:=hp.size;refine gQ O (hp.rev 0 n) (by omega) (fg O (by omega) (fun i j hij hj=> ?_) ?_)
       · rw [eM (by omega),eM (by omega),if_pos ⟨zf _,by omega⟩,if_pos ⟨zf _,hj⟩]
         exact alike _ _ (by omega) (by omega)
       · rw [eM (by omega),eM (by omega),if_pos ⟨zf _,by omega⟩,if_neg (by omega)]
         exact O.tr _ _ _ (O.asym _ _ l1) (alike _ _ (by omega) (by omega))
   · rw [if_neg n1];have en:n=1:=by omega
     subst en;refine gQ O hp (by omega) (fg O (yP _) (fun i j hij hj=> ?_) (O.asym _ _ l1))
     have:i=0:=by omega
     have:j=0:=by omega
     subst_vars
     exact O.refl _
theorem j5 (O:Ord lt) {p:Array Nat} {k:Nat} (hp:Pm N p) (hk:k < N) (h:Up lt p k):∀(f l r:Nat),l≤r→r≤k→r - l≤f→(∀i,i < l→lt (g p k) (g p i)=false)→(∀i,r≤i→i < k→lt (g p k) (g p i)=true)→
 Tri lt N (fun m=>m≤k∧(∀i,i < m→lt (g p k) (g p i)=false)∧∀i,m≤i→i < k→lt (g p k) (g p i)=true) (kas_place p k f l r)
 |0,l,r,h1,h2,h3,a,b=>by
  have:l=r:=by omega
  subst this;exact ⟨h2,a,b⟩
 |f+1,l,r,h1,h2,h3,a,b=>by
  show Tri lt N _ (if l≥r then .ret l else .ask (p.getD k 0) (p.getD ((l+r) / 2) 0) fun c=>if c=true then kas_place p k f l ((l+r) / 2) else kas_place p k f ((l+r) / 2+1) r);by_cases e:l≥r
  · rw [if_pos e];have:l=r:=by omega
    subst this;exact ⟨h2,a,b⟩
  · rw [if_neg e];refine ⟨Pm.bd hp hk,Pm.bd hp (by omega),?_⟩
    show Tri lt N _ (if lt (g p k) (g p ((l+r) / 2))=true then kas_place p k f l ((l+r) / 2) else kas_place p k f ((l+r) / 2+1) r);by_cases c:lt (g p k) (g p ((l+r) / 2))=true
    · rw [if_pos c];refine j5 O hp hk h f l ((l+r) / 2) (by omega) (by omega) (by omega) a fun i i1 i2=> ?_
      by_cases q:r≤i
      · exact b i q i2
      · exact O.up c (h _ _ i1 i2)
    · rw [if_neg c];have c':lt (g p k) (g p ((l+r) / 2))=false:=by simpa using c
      refine j5 O hp hk h f ((l+r) / 2+1) r (by omega) h2 (by omega) (fun i i1=> ?_) b
      exact O.tr _ _ _ (h i ((l+r) / 2) (by omega) (by omega)) c'
theorem uX (O:Ord lt):∀(f:Nat) (p:Array Nat) (k:Nat),Pm N p→k+f≤N→Up lt p k→Tri lt N (fun q=>Pm N q∧Up lt q (k+f)) (kas_bin f p k)
 |0,p,k,hp,_,h=>⟨hp,h⟩
 |f+1,p,k,hp,hk,h=>by
  have hs:=hp.size;show Tri lt N _ ((kas_place p k k 0 k).bind fun l=>kas_bin f (bubble p k (k - l)) (k+1));refine db (bM (fun l hl=> ?_) (j5 O hp (by omega) h k 0 k (zf _) (yP _) (by omega) (fun i hi=>absurd hi (by omega)) fun i h1 h2=>absurd h1 (by omega)))
  obtain ⟨l1,l2,l3⟩:=hl;have el:k - (k - l)=l:=by omega
  have hb:∀i,g (bubble p k (k - l)) i=if i=l then g p k else if l < i∧i≤k then g p (i - 1) else g p i:=fun i=>by
   rw [yH (by omega) (by omega),el]
  have u:Up lt (bubble p k (k - l)) (k+1):=by
   intro i j hij hj;rw [hb,hb];by_cases jl:j=l
   · rw [if_pos jl];by_cases il:i=l
     · rw [if_pos il];exact O.refl _
     · rw [if_neg il,if_neg (by omega)]
       exact l2 i (by omega)
   · rw [if_neg jl];by_cases j2:l < j∧j≤k
     · rw [if_pos j2];by_cases il:i=l
       · rw [if_pos il];exact O.asym _ _ (l3 (j - 1) (by omega) (by omega))
       · rw [if_neg il];by_cases i2:l < i∧i≤k
         · rw [if_pos i2];exact h _ _ (by omega) (by omega)
         · rw [if_neg i2];exact h _ _ (by omega) (by omega)
     · rw [if_neg j2,if_neg (by omega),if_neg (by omega)]
       exact h _ _ hij (by omega)
  refine bM (fun q hq=> ?_) (uX O f _ (k+1) (hp.of (bubble_perm _ _ _)) (by omega) u)
  rw [show k+(f+1)=k+1+f by omega]
  exact hq
theorem vG (O:Ord lt) (hN:1≤N):Tri lt N (fun p=>Pm N p∧Up lt p N) (kas_sort N):=by
 unfold kas_sort
 have h0:Pm N (List.toArray (List.range N)):=by
  unfold Pm;simp
 refine db (bM (fun r hr=> ?_) (tR O h0 hN));obtain ⟨a1,a2,a3,a4⟩:=hr;by_cases e:r.1 < N
 · rw [if_pos e];have em:max r.1 1=r.1:=by omega
   rw [em];have:=uX O (N - r.1) r.2 r.1 a1 (by omega) a4
   rw [show r.1+(N - r.1)=N by omega] at this
   exact this
 · rw [if_neg e];have:r.1=N:=by omega
   rw [this] at a4;exact ⟨a1,a4⟩
end Srt
namespace L2
open PySem
section
variable {M:Model} {prog:Program} {w:World} {A:Around} {E:Value→Shared→Prop} {h:Heap} {g:Array GenState} {d:Drawn} {t:Nat} {os:OsState}
variable {nm q:Str} {C N:Addr} {bs bm bmB:List Value} {hdct:Bool} {sn:List Str} {sub:List Value} {ab:Bool} {col:Option Bool} {dd:Option Addr} {k0 k1 k2 k3 k5:Option Value} {B newId initId:String}
structure Line (B:String) (bm:List Value):Prop where
 own:bm.contains (.type B)=true
 top:bm.contains (.type "BaseException")=true
 attr:bm.contains (.type "AttributeError")=false
 name:bm.contains (.type "NameError")=false
theorem Line.cons {C:Addr} (l:Line B bm):Line B (.ref C::bm):=
 ⟨by rw [List.contains_cons,l.own,Bool.or_true],by rw [List.contains_cons,l.top,Bool.or_true],by rw [List.contains_cons,l.attr];rfl,by rw [List.contains_cons,l.name];rfl⟩
end
end L2
namespace L2
section
open PySem
variable {prog:Program} {w:World} {A:Around} {E:Value→Shared→Prop} {h:Heap} {g:Array GenState} {d:Drawn} {t:Nat} {os:OsState}
variable {nm q:Str} {C N:Addr} {bs bm bmB:List Value} {hdct:Bool} {sn:List Str} {sub:List Value} {ab:Bool} {col:Option Bool} {dd:Option Addr} {k0 k1 k2 k3 k5:Option Value} {B newId nid initId:String}
end
open PySem PySem.Spec PyProof.Rows
section
variable {X:Cx} {CX:CXT} {k:Nat} {f C:Addr} {fd:FuncData} {ps:List Str} {sp:Sp} {E:XK} {x:Str} {p pos apos:Pos} {e:Expr} {es:List Expr} {t:TA}
end
open PySem PySem.Spec PyProof.Rows
section
variable {X:Cx} {C fI:Addr} {E:XK} {pos:Pos} {ce:Expr} {te:TE}
end
end L2
namespace L2
section
open PySem PySem.W Builtin Builtin.ObjectAttr Builtin.Getset_descriptor
variable {prog:Program} {w:World} {A:Around} {E:Value→Shared→Prop} {h:Heap} {g:Array GenState} {d:Drawn} {t:Nat} {os:OsState} {a C:Addr} {o:Obj} {K:Frag}
end
end L2
namespace L2
open PySem PySem.Spec PyProof.Rows
section
variable {X:Cx}
end
open PySem PySem.Spec PyProof.Rows
abbrev TSX:=Ends→XK→St→Hp→Prop
section
variable {X:Cx} {CX:CXT} {k:Nat} {f:Addr} {fd:FuncData} {ps:List Str} {sp:Sp} {x:Str} {p pos epos:Pos} {e:Expr} {es:List Expr} {t:TA}
end
section
variable {X:Cx} {pins:List (Addr×Obj)} {σ:St} {H:Hp} {s:Shared} {a:Addr}
end
section
variable {X:Cx} {body suite:List Stmt} {b0:Stmt} {tb:TSX} {ts:TS} {i:Nat} {n cx:Str} {np hpos pos:Pos} {W:Addr}
end
open PySem PySem.Spec PyProof.Rows
section
variable {X:Cx}
def Big (i:Int):Prop:=i.natAbs < 2^8000
theorem aX:OpR X (binaryOp .Mult) (rI (fun i j=>Big i∧Big j) fun i j=> .int (i*j)):=opI fun _ _ _ _ _ _ _ hc q=>
 PyProof.Rows.mul_int q (IntMulOk.of_le (m:=8000) (n:=8000) (intBits_le_iff.mpr hc.1) (intBits_le_iff.mpr hc.2) (by decide))
theorem t7 {i j:Int} (h:Big j):Builtin.divisionGoesByPylong i j=false:=by
 refine PyProof.noPylong_of_log2 ?_;by_cases z:j.natAbs=0
 · rw [z];decide
 · exact Nat.lt_trans ((Nat.log2_lt z).mpr h) (by decide)
theorem be:OpR X (binaryOp .FloorDiv) (rI (fun _ j=>0 < j∧Big j) fun i j=> .int (i / j)):=opI fun i j _ _ _ _ _ hc q=>by
 have h1:(0:Int) < j:=hc.1;exact floordiv_int (by omega) (by rw [A5 i (by omega)];exact q) (.inl (t7 hc.2))
theorem jT:OpR X (binaryOp .FloorDiv) (rI (fun _ j=>j≠0∧Big j) fun i j=> .int (i.fdiv j)):=opI fun _ _ _ _ _ _ _ hc q=>floordiv_int hc.1 q (.inl (t7 hc.2))
end
theorem kX:bootBuiltins "abs"=some (.builtin "abs"):=by decide +kernel
open PySem PySem.Spec PyProof.Rows
section
variable {X:Cx}
theorem wo (hu:X.A.units+1 < cLine):OpR X (compareOp .Eq) (fun x y H Q=>∃(p q:Addr) (a b c d:Int),x= .ref p∧y= .ref q∧SqT X.K H p [.int a, .int b]∧SqT X.K H q [.int c, .int d]∧Q (.bl (decide (a=c∧b=d))) H):=by
 intro pins s σ H x y v u Q I rx ry h;obtain ⟨p,q,a,b,c,d,e1,e2,hp,hq,k⟩:=h;subst e1 e2;cases (show v=Value.ref p from rx);cases (show u=Value.ref q from ry);obtain ⟨its,r1,t1,_⟩:=I.tuple hp;obtain ⟨its2,r2,t2,_⟩:=I.tuple hq;obtain ⟨u1,u2,rfl,⟨w1,rfl⟩,⟨w2,rfl⟩⟩:=Vals.two r1;obtain ⟨u3,u4,rfl,⟨w3,rfl⟩,⟨w4,rfl⟩⟩:=Vals.two r2;refine PySem.SeqAt.eq_tupleAt (e:=fun j=>if j=0 then a==c else b==d) (show s.heap.IsTuple p _ from t1) (show s.heap.IsTuple q _ from t2) (by omega) (fun j h1 h2=> ?_) ?_
 · match j,h1,h2 with
   |0,_,_=>exact PySem.SeqAt.EqAt.int_int a w1 c w3
   |1,_,_=>exact PySem.SeqAt.EqAt.int_int b w2 d w4
   |j+2,h1,_=>
    have:j+2 < 2:=h1;omega
 · refine ⟨.bl (decide (a=c∧b=d)),H,I,?_,k⟩;show Value.bool (((a==c)&& ((b==d)&&true))&&true)=Value.bool (decide (a=c∧b=d));congr 1;rw [Bool.and_true,Bool.and_true,Ac];simp
end
section
variable {X:Cx} {CX:CXT} {k:Nat} {f:Addr} {fd:FuncData} {ps:List Str} {sp:Sp} {x:Str} {p pos rpos:Pos} {e:Expr} {es:List Expr} {t:TA}
end
section
variable {X:Cx} {body suite:List Stmt} {b0:Stmt} {tb:TSX} {ts:TS} {cx:Str} {np hpos pos:Pos} {W:Addr}
end
end L2
namespace Tre
open PySem PySem.Spec PyProof.Rows L2
inductive Tr where
 |non
 |bl (b:Bool)
 |int (i:Int)
 |str (x:Str)
 |tup (ts:List Tr)
 |ls
mutual
noncomputable def Tr.depth:Tr→Nat
 | .tup ts=>Trs.depth ts+1
 |_=>0
noncomputable def Trs.depth:List Tr→Nat
 | []=>0
 |t::ts=>max (Tr.depth t) (Trs.depth ts)
end
mutual
def Tr.pure:Tr→Prop
 | .tup ts=>Trs.pure ts
 | .ls=>False
 |_=>True
def Trs.pure:List Tr→Prop
 | []=>True
 |t::ts=>Tr.pure t∧Trs.pure ts
end
mutual
def TrAt (H:Hp):V→Tr→Prop
 |v, .non=>v= .non
 |v, .bl b=>v= .bl b
 |v, .int i=>v= .int i
 |v, .str x=>v= .str x
 |v, .tup ts=>∃r vs,v= .ref r∧H r=some (.tup vs)∧TrsAt H vs ts
 |v, .ls=>∃r xs,v= .ref r∧H r=some (.lst xs)
def TrsAt (H:Hp):List V→List Tr→Prop
 |vs,[]=>vs= []
 |vs,t::ts=>∃v r,vs=v::r∧TrAt H v t∧TrsAt H r ts
end
structure Kd (H H':Hp):Prop where
 tup:∀a xs,H a=some (.tup xs)→H' a=some (.tup xs)
 lst:∀a xs,H a=some (.lst xs)→∃ys,H' a=some (.lst ys)
theorem Kd.refl (H:Hp):Kd H H:=⟨fun _ _ e=>e,fun _ xs e=>⟨xs,e⟩⟩
theorem Kd.trans {H H1 H2:Hp} (a:Kd H H1) (b:Kd H1 H2):Kd H H2:=⟨fun x o e=>b.tup x o (a.tup x o e),fun x o e=>by
 obtain ⟨ys,e1⟩:=a.lst x o e
 exact b.lst x ys e1⟩
theorem Kd.of_same {H H':Hp} (s:Same H H'):Kd H H':=⟨fun a xs e=>s a _ e,fun a xs e=>⟨xs,s a _ e⟩⟩
theorem Kd.upd {H:Hp} {p:Addr} {xs ys:List V} (h:H p=some (.lst xs)):Kd H (upd H p (.lst ys)):=by
 refine ⟨fun a zs e=> ?_,fun a zs e=> ?_⟩
 · rw [af]
   · exact e
   · intro z;rw [z,h] at e;cases e
 · by_cases z:a=p
   · subst z;exact ⟨ys,a8⟩
   · exact ⟨zs,(af z).trans e⟩
mutual
theorem TrAt.mono {H H':Hp} (k:Kd H H'):∀ {v:V} {t:Tr},TrAt H v t→TrAt H' v t
 |v, .non,h=>by unfold TrAt at h ⊢;exact h
 |v, .bl b,h=>by unfold TrAt at h ⊢;exact h
 |v, .int i,h=>by unfold TrAt at h ⊢;exact h
 |v, .str x,h=>by unfold TrAt at h ⊢;exact h
 |v, .ls,h=>by
  unfold TrAt at h ⊢;obtain ⟨r,xs,e,h⟩:=h;obtain ⟨ys,h'⟩:=k.lst r xs h;exact ⟨r,ys,e,h'⟩
 |v, .tup ts,h=>by
  unfold TrAt at h ⊢;obtain ⟨r,vs,e,h1,h2⟩:=h;exact ⟨r,vs,e,k.tup _ _ h1,TrsAt.mono k h2⟩
theorem TrsAt.mono {H H':Hp} (k:Kd H H'):∀ {vs:List V} {ts:List Tr},TrsAt H vs ts→TrsAt H' vs ts
 |vs,[],h=>by unfold TrsAt at h ⊢;exact h
 |vs,t::ts,h=>by
  unfold TrsAt at h ⊢;obtain ⟨v,r,e,h1,h2⟩:=h;exact ⟨v,r,e,TrAt.mono k h1,TrsAt.mono k h2⟩
end
theorem TrsAt.nil {H:Hp}:TrsAt H [] []:=by unfold TrsAt;rfl
theorem TrsAt.cons {H:Hp} {v:V} {t:Tr} {vs:List V} {ts:List Tr} (h:TrAt H v t) (r:TrsAt H vs ts):TrsAt H (v::vs) (t::ts):=by
 unfold TrsAt;exact ⟨v,vs,rfl,h,r⟩
theorem TrsAt.inv {H:Hp} {t:Tr} {vs:List V} {ts:List Tr} (h:TrsAt H vs (t::ts)):∃v r,vs=v::r∧TrAt H v t∧TrsAt H r ts:=by
 unfold TrsAt at h;exact h
theorem TrsAt.len {H:Hp}:∀ {vs:List V} {ts:List Tr},TrsAt H vs ts→vs.length=ts.length
 |vs,[],h=>by
  unfold TrsAt at h;rw [h];rfl
 |vs,t::ts,h=>by
  obtain ⟨v,r,e,_,h2⟩:=h.inv;rw [e,za,za,h2.len]
theorem TrsAt.app {H:Hp} {ws:List V} {us:List Tr} (b:TrsAt H ws us):∀ {vs:List V} {ts:List Tr},TrsAt H vs ts→TrsAt H (vs++ws) (ts++us)
 |vs,[],h=>by
  unfold TrsAt at h;subst h;exact b
 |vs,t::ts,h=>by
  obtain ⟨v,r,e,h1,h2⟩:=h.inv;subst e;exact .cons h1 (TrsAt.app b h2)
theorem TrsAt.get {H:Hp}:∀ {vs:List V} {ts:List Tr} {i:Nat} {t:Tr},TrsAt H vs ts→ts[i]?=some t→∃v,vs[i]?=some v∧TrAt H v t
 |vs,[],i,t,_,e=>by simp at e
 |vs,a::ts,0,t,h,e=>by
  obtain ⟨v,r,rfl,h1,h2⟩:=h.inv;simp at e;subst e;exact ⟨v,rfl,h1⟩
 |vs,a::ts,i+1,t,h,e=>by
  obtain ⟨v,r,rfl,h1,h2⟩:=h.inv;obtain ⟨u,e1,e2⟩:=h2.get (i:=i) (by simpa using e)
  exact ⟨u,by simpa using e1,e2⟩
theorem TrsAt.get' {H:Hp} {vs:List V} {ts:List Tr} {i:Nat} {v:V} (h:TrsAt H vs ts) (e:vs[i]?=some v):∃t,ts[i]?=some t∧TrAt H v t:=by
 have hl:=h.len;have hi:i < vs.length:=(yW.mp e).1;obtain ⟨u,e1,e2⟩:=h.get (i:=i) (t:=ts[i]'(by omega)) (yN _)
 rw [e] at e1;cases e1;exact ⟨_,yN _,e2⟩
mutual
theorem TrAt.det {H:Hp}:∀ {v:V} {t u:Tr},TrAt H v t→TrAt H v u→t=u
 |v, .non,u,h1,h2=>by
  unfold TrAt at h1;subst h1;cases u<;>unfold TrAt at h2<;>first|rfl|(cases h2;done)|(obtain ⟨_,_,e,_⟩:=h2;cases e)
 |v, .bl b,u,h1,h2=>by
  unfold TrAt at h1;subst h1;cases u<;>unfold TrAt at h2<;>first|(cases h2;rfl)|(cases h2;done)|(obtain ⟨_,_,e,_⟩:=h2;cases e)
 |v, .int b,u,h1,h2=>by
  unfold TrAt at h1;subst h1;cases u<;>unfold TrAt at h2<;>first|(cases h2;rfl)|(cases h2;done)|(obtain ⟨_,_,e,_⟩:=h2;cases e)
 |v, .str b,u,h1,h2=>by
  unfold TrAt at h1;subst h1;cases u<;>unfold TrAt at h2<;>first|(cases h2;rfl)|(cases h2;done)|(obtain ⟨_,_,e,_⟩:=h2;cases e)
 |v, .ls,u,h1,h2=>by
  unfold TrAt at h1;obtain ⟨r,xs,rfl,h1⟩:=h1;cases u<;>unfold TrAt at h2<;>first|rfl|(cases h2;done)|(obtain ⟨_,_,e,h2,_⟩:=h2;cases e;rw [h1] at h2;cases h2)
 |v, .tup ts, .tup us,h1,h2=>by
  unfold TrAt at h1 h2;obtain ⟨r,vs,rfl,h1,h3⟩:=h1;obtain ⟨r',vs',e,h2,h4⟩:=h2;cases e;rw [h1] at h2;cases h2;rw [TrsAt.det h3 h4]
 |v, .tup ts, .non,h1,h2=>by unfold TrAt at h1 h2;obtain ⟨_,_,e,_⟩:=h1;rw [h2] at e;cases e
 |v, .tup ts, .bl _,h1,h2=>by unfold TrAt at h1 h2;obtain ⟨_,_,e,_⟩:=h1;rw [h2] at e;cases e
 |v, .tup ts, .int _,h1,h2=>by unfold TrAt at h1 h2;obtain ⟨_,_,e,_⟩:=h1;rw [h2] at e;cases e
 |v, .tup ts, .str _,h1,h2=>by unfold TrAt at h1 h2;obtain ⟨_,_,e,_⟩:=h1;rw [h2] at e;cases e
 |v, .tup ts, .ls,h1,h2=>by
  unfold TrAt at h1 h2;obtain ⟨r,vs,rfl,h1,_⟩:=h1;obtain ⟨r',xs,e,h2⟩:=h2;cases e;rw [h1] at h2;cases h2
theorem TrsAt.det {H:Hp}:∀ {vs:List V} {ts us:List Tr},TrsAt H vs ts→TrsAt H vs us→ts=us
 |vs,[],[],_,_=>rfl
 |vs,[],u::us,h1,h2=>by
  have a:=h1.len;have b:=h2.len;rw [a] at b;simp at b
 |vs,t::ts,[],h1,h2=>by
  have a:=h1.len;have b:=h2.len;rw [a] at b;simp at b
 |vs,t::ts,u::us,h1,h2=>by
  obtain ⟨v,r,rfl,h3,h4⟩:=h1.inv;obtain ⟨v',r',e,h5,h6⟩:=h2.inv;cases e;rw [TrAt.det h3 h5,TrsAt.det h4 h6]
end
mutual
noncomputable def eqT:Tr→Tr→Bool
 | .non, .non=>true
 | .bl a, .bl b=>a==b
 | .bl a, .int i=>(if a then 1 else 0)==i
 | .int i, .bl b=>i==(if b then 1 else 0)
 | .int i, .int j=>i==j
 | .str x, .str y=>x==y
 | .tup ts, .tup us=>eqTs ts us
 | .ls, .ls=>true
 |_,_=>false
noncomputable def eqTs:List Tr→List Tr→Bool
 | [],[]=>true
 |t::ts,u::us=>eqT t u&&eqTs ts us
 |_,_=>false
end
mutual
theorem kj:∀t:Tr,eqT t t=true
 | .non=>by simp [eqT]
 | .bl _=>by simp [eqT]
 | .int _=>by simp [eqT]
 | .str _=>by simp [eqT]
 | .ls=>by simp [eqT]
 | .tup ts=>by simp only [eqT];exact eqTs_refl ts
theorem eqTs_refl:∀ts:List Tr,eqTs ts ts=true
 | []=>by simp [eqTs]
 |t::ts=>by simp [eqTs,kj t,eqTs_refl ts]
end
noncomputable def eqJ (ts us:List Tr) (j:Nat):Bool:=match ts[j]?,us[j]? with
 |some t,some u=>eqT t u
 |_,_=>true
theorem sP {ts us:List Tr} {j:Nat} {t u:Tr} (h1:ts[j]?=some t) (h2:us[j]?=some u):eqJ ts us j=eqT t u:=by
 unfold eqJ;rw [h1,h2]
theorem fe:∀(ts us:List Tr),eqTs ts us=((List.range (min ts.length us.length)).all (eqJ ts us)&&ts.length==us.length)
 | [],[]=>by simp [eqTs]
 | [],u::us=>by simp [eqTs]
 |t::ts,[]=>by simp [eqTs]
 |t::ts,u::us=>by
  simp only [eqTs,za];rw [fe ts us,show min (ts.length+1) (us.length+1)=min ts.length us.length+1 by omega,List.range_succ_eq_map,List.all_cons,List.all_map]
  have e:(eqJ (t::ts) (u::us)) ∘ Nat.succ=eqJ ts us:=by
   funext j;simp [eqJ]
  rw [e];simp [eqJ,Bool.and_assoc]
open PySem PySem.Spec PyProof.Rows L2
section
variable {X:Cx} {pins:List (Addr×Obj)} {σ:L2.St} {H:Hp} {s:Shared} {A:Around}
theorem ot {a b:Addr} {xs ys:List V} (I:Inv X pins σ H s) (ha:H a=some (.tup xs)) (hb:H b=some (.tup ys)) (hu:A.units < cLine) (e:Nat→Bool) (hne:a≠b)
 (he:∀j x y u v,xs[j]?=some x→ys[j]?=some y→RelV x u→RelV y v→SeqAt.EqAt A.in1 s u v (e j)):
 SeqAt.EqAt A s (.ref a) (.ref b) ((List.range (min xs.length ys.length)).all e&&xs.length==ys.length):=by
 obtain ⟨us,r1,p1,_⟩:=I.tuple (SqT.of ha);obtain ⟨ws,r2,p2,_⟩:=I.tuple (SqT.of hb);have l1:=r1.length;have l2:=r2.length
 have:=SeqAt.RcAt.tuples (A:=A) (e:=e) (show s.heap.IsTuple a us.toArray from p1) (show s.heap.IsTuple b ws.toArray from p2) hu fun j h1 h2=>by
  have h1':j < us.length:=by simpa using h1
  have h2':j < ws.length:=by simpa using h2
  obtain ⟨u,e1,q1⟩:=r1.get (i:=j) (x:=xs[j]'(by omega)) (yN _)
  obtain ⟨v,e2,q2⟩:=r2.get (i:=j) (x:=ys[j]'(by omega)) (yN _)
  have z1:us.toArray[j]=u:=by rw [List.getElem_toArray];rw [yN h1'] at e1;exact zb e1
  have z2:ws.toArray[j]=v:=by rw [List.getElem_toArray];rw [yN h2'] at e2;exact zb e2
  rw [z1,z2];exact he j _ _ u v (yN _) (yN _) q1 q2
 rw [yU,yU,←l1,←l2] at this;exact SeqAt.EqAt.of_refs hne this
theorem bv:∀ {ts:List Tr} {t:Tr},t∈ts→t.depth≤Trs.depth ts
 |a::ts,t,h=>by
  unfold Trs.depth;rcases yV.mp h with rfl|h
  · omega
  · have:=bv h;omega
theorem dM:∀ {ts:List Tr} {t:Tr},Trs.pure ts→t∈ts→t.pure
 |a::ts,t,p,h=>by
  unfold Trs.pure at p;rcases yV.mp h with rfl|h
  · exact p.1
  · exact dM p.2 h
theorem dc {r:Addr} {vs:List V} (I:Inv X pins σ H s) (h:H r=some (.tup vs)):∃its:Array Value,s.heap.IsTuple r its:=by
 obtain ⟨us,_,p,_⟩:=I.tuple (SqT.of h);exact ⟨_,p⟩
theorem de {r:Addr} {vs:List V} (I:Inv X pins σ H s) (h:H r=some (.lst vs)):∃its:Array Value,s.heap.IsList r its:=by
 obtain ⟨us,_,p,_⟩:=I.list (SqL.of h);exact ⟨_,p.isList⟩
theorem mR (I:Inv X pins σ H s) {A:Around} {t u:Tr} {v w:V} {a b:Value} (hd:∀ts,t≠ .tup ts) (hp:t.pure∨u.pure) (h1:TrAt H v t) (h2:TrAt H w u) (r1:RelV v a) (r2:RelV w b) (hu0:A.units < cLine):SeqAt.EqAt A s a b (eqT t u):=by
 cases t with
 |tup ts=>exact (hd ts rfl).elim
 |non=>
  unfold TrAt at h1;subst h1;cases (show a=Value.none from r1)
  cases u with
  |non=>unfold TrAt at h2;subst h2;cases (show b=Value.none from r2);simp only [eqT];exact SeqAt.EqAt.same _
  |bl c=>unfold TrAt at h2;subst h2;cases (show b=Value.bool c from r2);simp only [eqT];exact SeqAt.EqAt.none_bool c
  |int c=>unfold TrAt at h2;subst h2;obtain ⟨t',rfl⟩:=r2;simp only [eqT];exact SeqAt.EqAt.none_int c t'
  |str c=>unfold TrAt at h2;subst h2;obtain ⟨t',rfl⟩:=r2;simp only [eqT];exact SeqAt.EqAt.none_str c t'
  |tup us=>unfold TrAt at h2;obtain ⟨r,vs,rfl,g1,_⟩:=h2;cases r2;obtain ⟨its,p⟩:=dc I g1;simp only [eqT];exact SeqAt.EqAt.none_tuple p hu0
  |ls=>unfold TrAt at h2;obtain ⟨r,vs,rfl,g1⟩:=h2;cases r2;obtain ⟨its,p⟩:=de I g1;simp only [eqT];exact SeqAt.EqAt.none_list p hu0
 |bl d=>
  unfold TrAt at h1;subst h1;cases (show a=Value.bool d from r1)
  cases u with
  |non=>unfold TrAt at h2;subst h2;cases (show b=Value.none from r2);simp only [eqT];exact SeqAt.EqAt.bool_none d
  |bl c=>unfold TrAt at h2;subst h2;cases (show b=Value.bool c from r2);simp only [eqT];exact SeqAt.EqAt.bool_bool d c
  |int c=>unfold TrAt at h2;subst h2;obtain ⟨t',rfl⟩:=r2;simp only [eqT];exact SeqAt.EqAt.bool_int d c t'
  |str c=>unfold TrAt at h2;subst h2;obtain ⟨t',rfl⟩:=r2;simp only [eqT];exact SeqAt.EqAt.bool_str d c t'
  |tup us=>unfold TrAt at h2;obtain ⟨r,vs,rfl,g1,_⟩:=h2;cases r2;obtain ⟨its,p⟩:=dc I g1;simp only [eqT];exact SeqAt.EqAt.bool_tuple d p hu0
  |ls=>unfold TrAt at h2;obtain ⟨r,vs,rfl,g1⟩:=h2;cases r2;obtain ⟨its,p⟩:=de I g1;simp only [eqT];exact SeqAt.EqAt.bool_list d p hu0
 |int d=>
  unfold TrAt at h1;subst h1;obtain ⟨t0,rfl⟩:=r1
  cases u with
  |non=>unfold TrAt at h2;subst h2;cases (show b=Value.none from r2);simp only [eqT];exact SeqAt.EqAt.int_none d t0
  |bl c=>unfold TrAt at h2;subst h2;cases (show b=Value.bool c from r2);simp only [eqT];exact SeqAt.EqAt.int_bool d t0 c
  |int c=>unfold TrAt at h2;subst h2;obtain ⟨t',rfl⟩:=r2;simp only [eqT];exact SeqAt.EqAt.int_int d t0 c t'
  |str c=>unfold TrAt at h2;subst h2;obtain ⟨t',rfl⟩:=r2;simp only [eqT];exact SeqAt.EqAt.int_str d t0 c t'
  |tup us=>unfold TrAt at h2;obtain ⟨r,vs,rfl,g1,_⟩:=h2;cases r2;obtain ⟨its,p⟩:=dc I g1;simp only [eqT];exact SeqAt.EqAt.int_tuple d t0 p hu0
  |ls=>unfold TrAt at h2;obtain ⟨r,vs,rfl,g1⟩:=h2;cases r2;obtain ⟨its,p⟩:=de I g1;simp only [eqT];exact SeqAt.EqAt.int_list d t0 p hu0
 |str d=>
  unfold TrAt at h1;subst h1;obtain ⟨t0,rfl⟩:=r1
  cases u with
  |non=>unfold TrAt at h2;subst h2;cases (show b=Value.none from r2);simp only [eqT];exact SeqAt.EqAt.str_none d t0
  |bl c=>unfold TrAt at h2;subst h2;cases (show b=Value.bool c from r2);simp only [eqT];exact SeqAt.EqAt.str_bool d t0 c
  |int c=>unfold TrAt at h2;subst h2;obtain ⟨t',rfl⟩:=r2;simp only [eqT];exact SeqAt.EqAt.str_int d t0 c t'
  |str c=>unfold TrAt at h2;subst h2;obtain ⟨t',rfl⟩:=r2;simp only [eqT];exact SeqAt.EqAt.str_str d t0 c t'
  |tup us=>unfold TrAt at h2;obtain ⟨r,vs,rfl,g1,_⟩:=h2;cases r2;obtain ⟨its,p⟩:=dc I g1;simp only [eqT];exact SeqAt.EqAt.str_tuple d t0 p hu0
  |ls=>unfold TrAt at h2;obtain ⟨r,vs,rfl,g1⟩:=h2;cases r2;obtain ⟨its,p⟩:=de I g1;simp only [eqT];exact SeqAt.EqAt.str_list d t0 p hu0
 |ls=>
  unfold TrAt at h1;refine hZq fun q_ e_=> ?_;obtain ⟨r0,vs0,rfl,g0⟩:=h1;subst e_;cases r1;obtain ⟨its0,p0⟩:=de I g0
  cases u with
  |non=>unfold TrAt at h2;subst h2;cases (show b=Value.none from r2);simp only [eqT];exact SeqAt.EqAt.list_none p0 hu0
  |bl c=>unfold TrAt at h2;subst h2;cases (show b=Value.bool c from r2);simp only [eqT];exact SeqAt.EqAt.list_bool c p0 hu0
  |int c=>unfold TrAt at h2;subst h2;obtain ⟨t',rfl⟩:=r2;simp only [eqT];exact SeqAt.EqAt.list_int c t' p0 hu0
  |str c=>unfold TrAt at h2;subst h2;obtain ⟨t',rfl⟩:=r2;simp only [eqT];exact SeqAt.EqAt.list_str c t' p0 hu0
  |tup us=>unfold TrAt at h2;obtain ⟨r,vs,rfl,g1,_⟩:=h2;cases r2;obtain ⟨its,p⟩:=dc I g1;simp only [eqT];exact SeqAt.EqAt.list_tuple p0 p hu0
  |ls=>rcases hp with hp|hp<;>simp [Tr.pure] at hp
theorem j3 (I:Inv X pins σ H s):∀(n:Nat) {A:Around} {t u:Tr} {v w:V} {a b:Value},t.depth≤n→(t.pure∨u.pure)→TrAt H v t→TrAt H w u→RelV v a→RelV w b→A.units+n+1 < cLine→SeqAt.EqAt A s a b (eqT t u):=by
 intro n
 induction n with
 |zero=>
  intro A t u v w a b hd hp h1 h2 r1 r2 hu;refine mR I (fun ts e=> ?_) hp h1 h2 r1 r2 (by omega)
  subst e;simp [Tr.depth] at hd
 |succ n ih=>
  intro A t u v w a b hd hp h1 h2 r1 r2 hu;have hu0:A.units < cLine:=by omega
  cases t with
  |tup ts=>
   have h1':=h1;have h2':=h2;unfold TrAt at h1;obtain ⟨r0,vs0,rfl,g0,k0⟩:=h1;cases r1;obtain ⟨its0,p0⟩:=dc I g0;unfold Tr.depth at hd
   cases u with
   |non=>unfold TrAt at h2;subst h2;cases (show b=Value.none from r2);simp only [eqT];exact SeqAt.EqAt.tuple_none p0 hu0
   |bl c=>unfold TrAt at h2;subst h2;cases (show b=Value.bool c from r2);simp only [eqT];exact SeqAt.EqAt.tuple_bool c p0 hu0
   |int c=>unfold TrAt at h2;subst h2;obtain ⟨t',rfl⟩:=r2;simp only [eqT];exact SeqAt.EqAt.tuple_int c t' p0 hu0
   |str c=>unfold TrAt at h2;subst h2;obtain ⟨t',rfl⟩:=r2;simp only [eqT];exact SeqAt.EqAt.tuple_str c t' p0 hu0
   |ls=>unfold TrAt at h2;obtain ⟨r,vs,rfl,g1⟩:=h2;cases r2;obtain ⟨its,p⟩:=de I g1;simp only [eqT];exact SeqAt.EqAt.tuple_list p0 p hu0
   |tup us=>
    unfold TrAt at h2;obtain ⟨r,vs,rfl,g1,k1⟩:=h2;cases r2;by_cases z:r0=r
    · subst z;rw [←TrAt.det h1' h2',kj];exact SeqAt.EqAt.same _
    · have:=ot I g0 g1 hu0 (eqJ ts us) z fun j x y u' v' m1 m2 q1 q2=>by
       obtain ⟨t1,n1,a1⟩:=k0.get' m1;obtain ⟨t2,n2,a2⟩:=k1.get' m2;rw [sP n1 n2];refine ih (A:=A.in1) (by have:=bv (yT n1);omega) ?_ a1 a2 q1 q2 (by show A.units+1+n+1 < cLine;omega)
       rcases hp with hp|hp
       · unfold Tr.pure at hp;exact .inl (dM hp (yT n1))
       · unfold Tr.pure at hp;exact .inr (dM hp (yT n2))
      rw [k0.len,k1.len,←fe] at this;simp only [eqT];exact this
  |_=>exact mR I (fun ts e=>by cases e) hp h1 h2 r1 r2 hu0
end
open PySem PySem.Spec PyProof.Rows L2
open PySem.AutoSeq1 (wpAny_loadPart')
def LtAt (A:Around) (s:Shared) (y x:Value) (b:Bool):Prop:=
 ∀(prog:Program) (w:World) (E:Value→Shared→Prop) (Q:Value→Shared→Prop),Q (.bool b) s→wpAny (model prog w) A (richCompare .Lt y x) Q E s
def bU (A:Around) (s:Shared):List Value→List Value→List (Bool×Bool)→Prop
 |v::vs,w::ws,(e,l)::q=>SeqAt.EqAt A s v w e∧(e=false→LtAt A s v w l)∧(e=true→bU A s vs ws q)
 | [],_,q=>q= []
 |_,[],q=>q= []
 |_,_,_=>False
noncomputable def lexV (fin:Bool):List (Bool×Bool)→Bool
 | []=>fin
 |(e,l)::q=>if e=true then lexV fin q else l
theorem iY (l b:Addr) (items items2:Array Value) (n n2:Nat) (dd dd2:Option Addr) (sl sl2:Array (Option Value)) (q:List (Bool×Bool)):
 Meets (Builtin.«tuple.__lt__» ⟨[.ref l, .ref b],[]⟩)
  (fun A R s=>s.heap.get? l=some {cls:= .type "tuple",dict:=dd,data:= .seq items n,slots:=sl}∧s.heap.get? b=some {cls:= .type "tuple",dict:=dd2,data:= .seq items2 n2,slots:=sl2}∧
   bU A.in1 s items.toList items2.toList q∧R (.ok (.ret (.bool (lexV (decide (items.size < items2.size)) q)))) s):=
 .of_wp fun prog w A R s h=>by
  refine hZq fun q_ e_=> ?_;obtain ⟨hp,g,d,tk,os⟩:=s;obtain ⟨hl,hb,hx,h⟩:=h;subst e_;have f2:=AutoSeq1.sub_tuple_tuple
  wp_walk using wpAny_loadPart' hl,wpAny_loadPart' hb,wpAny_forIn_list _ (fun rest b s'=>b.1=none∧s'=⟨hp,g,d,tk,os⟩∧∃(vs ws:List Value) (q':List (Bool×Bool)),rest=vs.zip ws∧
   bU A.in1 ⟨hp,g,d,tk,os⟩ vs ws q'∧R (.ok (.ret (.bool (lexV (decide (items.size < items2.size)) q')))) ⟨hp,g,d,tk,os⟩) _
  case turn=>
   rintro ⟨y,x⟩ rest b s' ⟨hb',rfl,vs,ws,q',hz,hlx,hR⟩
   match vs,ws,q',hz,hlx,hR with
   | [],_,_,hz,_,_=>rw [List.zip_nil_left] at hz;cases hz
   |_::_,[],_,hz,_,_=>rw [List.zip_nil_right] at hz;cases hz
   |v::vs,w'::ws,[],_,hlx,_=>exact hlx.elim
   |v::vs,w'::ws,(e,lo)::q',hz,hlx,hR=>
    rw [zR] at hz;injection hz with hyx hrest;injection hyx with hy hx';subst hy hx';obtain ⟨he,hlt,hlx⟩:=hlx;refine wpAny_bind (he prog w _ _ ?_)
    cases e with
    |true=>
     wp_walk
     exact ⟨rfl,rfl,_,_,_,hrest,hlx rfl,hR⟩
    |false=>
     have hri:=hlt rfl prog w
     wp_walk using hri
     exact ⟨_,rfl,hR⟩
  case fin=>
   rintro ⟨b1,b2⟩ s' ⟨hb',rfl,vs,ws,q',hz,hlx,hR⟩;simp only at hb';subst hb'
   have hq:q'= []:=by
    match vs,ws,q',hz,hlx with
    | [],_,_,_,hlx=>unfold bU at hlx;exact hlx
    |_::_,[],_,_,hlx=>unfold bU at hlx;exact hlx
    |_::_,_::_,_,hz,_=>rw [zR] at hz;cases hz
   subst hq
   wp_walk
   exact ⟨_,rfl,by simpa [Builtin.Tuple.tupleCompareSizes,lexV] using hR⟩
  case h=>
   exact ⟨rfl,rfl,items.toList,items2.toList,q,rfl,hx,h⟩
theorem la {A:Around} {s:Shared} {l b:Addr} {items items2:Array Value} {q:List (Bool×Bool)} (hl:s.heap.IsTuple l items) (hb:s.heap.IsTuple b items2) (hu:A.units < cLine)
 (hx:bU A.in1 s items.toList items2.toList q):LtAt A s (.ref l) (.ref b) (lexV (decide (items.size < items2.size)) q):=by
 intro prog w E Q h;obtain ⟨⟨cls,dd,data,sl⟩,ho,hc,n,hd⟩:=id hl;obtain ⟨⟨cls2,dd2,data2,sl2⟩,ho2,hc2,n2,hd2⟩:=id hb;simp only at hc hd hc2 hd2;subst hc hd hc2 hd2
 exact richCompare_meets_room (op:= .Lt) ⟨_,ho,rfl⟩ ⟨_,ho2,rfl⟩ PySem.F.slot_tuple_lt PySem.F.entry_tuple_lt (PySem.F.args_tuple_lt_2 _ _) (iY l b items items2 n n2 dd dd2 sl sl2 q)
  ⟨ho,ho2,hx,show Value.bool (lexV (decide (items.size < items2.size)) q)≠Value.notImplemented∧Q (.bool (lexV (decide (items.size < items2.size)) q)) s from ⟨(fun x=>nomatch x),h⟩⟩ hu
end Tre
namespace Tre
open PySem L2
inductive Co where
 |non
 |num (i:Int)
 |str (l:List Nat)
 |tup (cs:List Co)
 |ls
noncomputable def Co.kind:Co→Nat
 | .non=>0
 | .num _=>1
 | .str _=>2
 | .tup _=>3
 | .ls=>4
mutual
noncomputable def code:Tr→Co
 | .non=> .non
 | .bl b=> .num (if b then 1 else 0)
 | .int i=> .num i
 | .str x=> .str x.cps.toList
 | .tup ts=> .tup (codes ts)
 | .ls=> .ls
noncomputable def codes:List Tr→List Co
 | []=> []
 |t::ts=>code t::codes ts
end
theorem j8 (x y:Str):((x==y)=true)↔x.cps.toList=y.cps.toList:=by
 rw [beq_iff_eq];constructor
 · rintro rfl;rfl
 · intro h;cases x;cases y;simp only [Str.mk.injEq];exact Array.toList_inj.mp h
mutual
theorem e6:∀(t u:Tr),(eqT t u=true)↔code t=code u
 | .non,u=>by cases u<;>simp [eqT,code]
 | .bl a,u=>by cases u<;>simp [eqT,code];cases a<;>rename_i b<;>cases b<;>simp
 | .int i,u=>by cases u<;>simp [eqT,code]
 | .str x, .str y=>by simp only [eqT,code,Co.str.injEq];exact j8 x y
 | .str x, .non=>by simp [eqT,code]
 | .str x, .bl _=>by simp [eqT,code]
 | .str x, .int _=>by simp [eqT,code]
 | .str x, .tup _=>by simp [eqT,code]
 | .str x, .ls=>by simp [eqT,code]
 | .ls,u=>by cases u<;>simp [eqT,code]
 | .tup ts, .tup us=>by simp only [eqT,code,Co.tup.injEq];exact eqTs_code ts us
 | .tup ts, .non=>by simp [eqT,code]
 | .tup ts, .bl _=>by simp [eqT,code]
 | .tup ts, .int _=>by simp [eqT,code]
 | .tup ts, .str _=>by simp [eqT,code]
 | .tup ts, .ls=>by simp [eqT,code]
theorem eqTs_code:∀(ts us:List Tr),(eqTs ts us=true)↔codes ts=codes us
 | [],[]=>by simp [eqTs,codes]
 | [],u::us=>by simp [eqTs,codes]
 |t::ts,[]=>by simp [eqTs,codes]
 |t::ts,u::us=>by
  simp only [eqTs,codes,A7,Ab];rw [e6 t u,eqTs_code ts us]
end
mutual
def LtC:Co→Co→Prop
 | .num i, .num j=>i < j
 | .str l, .str m=>l < m
 | .tup cs, .tup ds=>LtCs cs ds
 |c,d=>c.kind < d.kind
def LtCs:List Co→List Co→Prop
 | [],[]=>False
 | [],_::_=>True
 |_::_,[]=>False
 |c::cs,d::ds=>LtC c d∨(c=d∧LtCs cs ds)
end
theorem jZ {c d:Co} (h:LtC c d):c.kind≤d.kind:=by
 cases c<;>cases d<;>simp [LtC,Co.kind] at h ⊢
theorem jY {c d:Co} (h:c.kind < d.kind):LtC c d:=by
 cases c<;>cases d<;>simp [LtC,Co.kind] at h ⊢
mutual
theorem jt:∀c:Co,¬LtC c c
 | .non=>by simp [LtC,Co.kind]
 | .num _=>by simp [LtC]
 | .str l=>by simp only [LtC];exact List.lt_irrefl l
 | .tup cs=>by simp only [LtC];exact ltCs_irr cs
 | .ls=>by simp [LtC,Co.kind]
theorem ltCs_irr:∀cs:List Co,¬LtCs cs cs
 | []=>by simp [LtCs]
 |c::cs=>by
  simp only [LtCs,not_or];exact ⟨jt c,fun h=>ltCs_irr cs h.2⟩
end
mutual
theorem js:∀c d:Co,LtC c d∨c=d∨LtC d c
 | .num i, .num j=>by simp only [LtC,Co.num.injEq];omega
 | .str l, .str m=>by
  simp only [LtC,Co.str.injEq];by_cases h1:l < m
  · exact .inl h1
  · by_cases h2:m < l
    · exact .inr (.inr h2)
    · exact .inr (.inl (List.le_antisymm (List.not_lt.mp h2) (List.not_lt.mp h1)))
 | .tup cs, .tup ds=>by simp only [LtC,Co.tup.injEq];exact ltCs_tri cs ds
 | .non,d=>by cases d<;>simp [LtC,Co.kind]
 | .ls,d=>by cases d<;>simp [LtC,Co.kind]
 | .num i, .non=>by simp [LtC,Co.kind]
 | .num i, .str _=>by simp [LtC,Co.kind]
 | .num i, .tup _=>by simp [LtC,Co.kind]
 | .num i, .ls=>by simp [LtC,Co.kind]
 | .str i, .non=>by simp [LtC,Co.kind]
 | .str i, .num _=>by simp [LtC,Co.kind]
 | .str i, .tup _=>by simp [LtC,Co.kind]
 | .str i, .ls=>by simp [LtC,Co.kind]
 | .tup i, .non=>by simp [LtC,Co.kind]
 | .tup i, .num _=>by simp [LtC,Co.kind]
 | .tup i, .str _=>by simp [LtC,Co.kind]
 | .tup i, .ls=>by simp [LtC,Co.kind]
theorem ltCs_tri:∀cs ds:List Co,LtCs cs ds∨cs=ds∨LtCs ds cs
 | [],[]=>by simp
 | [],d::ds=>by simp [LtCs]
 |c::cs,[]=>by simp [LtCs]
 |c::cs,d::ds=>by
  simp only [LtCs,Ab];rcases js c d with h|h|h
  · exact .inl (.inl h)
  · rcases ltCs_tri cs ds with g|g|g
    · exact .inl (.inr ⟨h,g⟩)
    · exact .inr (.inl ⟨h,g⟩)
    · exact .inr (.inr (.inr ⟨h.symm,g⟩))
  · exact .inr (.inr (.inl h))
end
theorem az {a b c:Co} (h1:LtC a b) (h2:LtC b c) (hk:a.kind < b.kind∨b.kind < c.kind):LtC a c:=by
 have k1:=jZ h1;have k2:=jZ h2;exact jY (by omega)
mutual
theorem eD:∀ {a b c:Co},LtC a b→LtC b c→LtC a c
 | .num i, .num j, .num k,h1,h2=>by simp only [LtC] at *;omega
 | .str i, .str j, .str k,h1,h2=>by simp only [LtC] at *;exact List.lt_trans h1 h2
 | .tup i, .tup j, .tup k,h1,h2=>by simp only [LtC] at *;exact ltCs_trans h1 h2
 | .num _, .num _, .str _,h1,h2=>az h1 h2 (by simp [LtC,Co.kind] at h1 h2 ⊢)
 | .num _, .num _, .tup _,h1,h2=>az h1 h2 (by simp [LtC,Co.kind] at h1 h2 ⊢)
 | .num _, .num _, .non,h1,h2=>az h1 h2 (by simp [LtC,Co.kind] at h1 h2 ⊢)
 | .num _, .num _, .ls,h1,h2=>az h1 h2 (by simp [LtC,Co.kind] at h1 h2 ⊢)
 | .num _, .str _,_,h1,h2=>az h1 h2 (by simp [LtC,Co.kind] at h1 h2 ⊢)
 | .num _, .tup _,_,h1,h2=>az h1 h2 (by simp [LtC,Co.kind] at h1 h2 ⊢)
 | .num _, .non,_,h1,h2=>az h1 h2 (by simp [LtC,Co.kind] at h1 h2 ⊢)
 | .num _, .ls,_,h1,h2=>az h1 h2 (by simp [LtC,Co.kind] at h1 h2 ⊢)
 | .str _, .str _, .num _,h1,h2=>az h1 h2 (by simp [LtC,Co.kind] at h1 h2 ⊢)
 | .str _, .str _, .tup _,h1,h2=>az h1 h2 (by simp [LtC,Co.kind] at h1 h2 ⊢)
 | .str _, .str _, .non,h1,h2=>az h1 h2 (by simp [LtC,Co.kind] at h1 h2 ⊢)
 | .str _, .str _, .ls,h1,h2=>az h1 h2 (by simp [LtC,Co.kind] at h1 h2 ⊢)
 | .str _, .num _,_,h1,h2=>az h1 h2 (by simp [LtC,Co.kind] at h1 h2 ⊢)
 | .str _, .tup _,_,h1,h2=>az h1 h2 (by simp [LtC,Co.kind] at h1 h2 ⊢)
 | .str _, .non,_,h1,h2=>az h1 h2 (by simp [LtC,Co.kind] at h1 h2 ⊢)
 | .str _, .ls,_,h1,h2=>az h1 h2 (by simp [LtC,Co.kind] at h1 h2 ⊢)
 | .tup _, .tup _, .num _,h1,h2=>az h1 h2 (by simp [LtC,Co.kind] at h1 h2 ⊢)
 | .tup _, .tup _, .str _,h1,h2=>az h1 h2 (by simp [LtC,Co.kind] at h1 h2 ⊢)
 | .tup _, .tup _, .non,h1,h2=>az h1 h2 (by simp [LtC,Co.kind] at h1 h2 ⊢)
 | .tup _, .tup _, .ls,h1,h2=>az h1 h2 (by simp [LtC,Co.kind] at h1 h2 ⊢)
 | .tup _, .num _,_,h1,h2=>az h1 h2 (by simp [LtC,Co.kind] at h1 h2 ⊢)
 | .tup _, .str _,_,h1,h2=>az h1 h2 (by simp [LtC,Co.kind] at h1 h2 ⊢)
 | .tup _, .non,_,h1,h2=>az h1 h2 (by simp [LtC,Co.kind] at h1 h2 ⊢)
 | .tup _, .ls,_,h1,h2=>az h1 h2 (by simp [LtC,Co.kind] at h1 h2 ⊢)
 | .non,b,_,h1,h2=>az h1 h2 (by cases b<;>simp [LtC,Co.kind] at h1 h2 ⊢)
 | .ls,b,_,h1,h2=>az h1 h2 (by cases b<;>simp [LtC,Co.kind] at h1 h2 ⊢)
theorem ltCs_trans:∀ {a b c:List Co},LtCs a b→LtCs b c→LtCs a c
 | [],[],_,h1,_=>by simp [LtCs] at h1
 | [],_::_,[],_,h2=>by simp [LtCs] at h2
 | [],_::_,_::_,_,_=>by simp [LtCs]
 |_::_,[],_,h1,_=>by simp [LtCs] at h1
 |_::_,_::_,[],_,h2=>by simp [LtCs] at h2
 |x::a,y::b,z::c,h1,h2=>by
  simp only [LtCs] at*;rcases h1 with h1|⟨e1,h1⟩
  · rcases h2 with h2|⟨e2,h2⟩
    · exact .inl (eD h1 h2)
    · exact .inl (e2▸h1)
  · rcases h2 with h2|⟨e2,h2⟩
    · exact .inl (e1▸h2)
    · exact .inr ⟨e1.trans e2,ltCs_trans h1 h2⟩
end
open Classical in
noncomputable def ltT (t u:Tr):Bool:=decide (LtC (code t) (code u))
open Classical in
theorem ltT_iff {t u:Tr}:(ltT t u=true)↔LtC (code t) (code u):=by
 unfold ltT;exact decide_eq_true_iff
theorem dY {t u:Tr} (h:ltT t u=true):ltT u t=false:=by
 cases e:ltT u t with
 |false=>rfl
 |true=>exact absurd (eD (ltT_iff.mp h) (ltT_iff.mp e)) (jt _)
theorem lT {a b c:Tr} (h1:ltT b a=false) (h2:ltT c b=false):ltT c a=false:=by
 cases e:ltT c a with
 |false=>rfl
 |true=>
  have n1:¬LtC (code b) (code a):=fun z=>by rw [ltT_iff.mpr z] at h1;cases h1
  have n2:¬LtC (code c) (code b):=fun z=>by rw [ltT_iff.mpr z] at h2;cases h2
  have l:=ltT_iff.mp e;rcases js (code a) (code b) with q|q|q
  · exact absurd (eD l q) n2
  · rw [q] at l;exact absurd l n2
  · exact absurd q n1
theorem wU {a b:Tr} (h1:ltT a b=false) (h2:ltT b a=false):eqT a b=true:=by
 rw [e6];rcases js (code a) (code b) with q|q|q
 · rw [ltT_iff.mpr q] at h1;cases h1
 · exact q
 · rw [ltT_iff.mpr q] at h2;cases h2
open PySem PySem.Spec PyProof.Rows L2
mutual
def Cm:Tr→Tr→Prop
 | .bl _, .bl _=>True
 | .int _, .int _=>True
 | .str _, .str _=>True
 | .tup ts, .tup us=>Cms ts us
 |_,_=>False
def Cms:List Tr→List Tr→Prop
 |t::ts,u::us=>(eqT t u=true∧Cms ts us)∨(eqT t u=false∧Cm t u)
 | [],_=>True
 |_::_,[]=>True
end
noncomputable def qs:List Tr→List Tr→List (Bool×Bool)
 |t::ts,u::us=>(eqT t u,ltT t u)::qs ts us
 | [],_=> []
 |_::_,[]=> []
theorem eF:∀(ts us:List Tr),(lexV (decide (ts.length < us.length)) (qs ts us)=true)↔LtCs (codes ts) (codes us)
 | [],[]=>by simp [qs,lexV,codes,LtCs]
 | [],u::us=>by simp [qs,lexV,codes,LtCs]
 |t::ts,[]=>by simp [qs,lexV,codes,LtCs]
 |t::ts,u::us=>by
  have ih:=eF ts us;have e:decide ((t::ts).length < (u::us).length)=decide (ts.length < us.length):=by simp
  rw [e];simp only [qs,lexV,codes,LtCs];by_cases h:eqT t u=true
  · rw [if_pos h,ih];have hc:=(e6 t u).mp h;rw [hc];constructor
    · intro z;exact .inr ⟨rfl,z⟩
    · rintro (z|⟨_,z⟩)
      · exact absurd z (jt _)
      · exact z
  · rw [if_neg h];have hc:¬code t=code u:=fun z=>h ((e6 t u).mpr z);constructor
    · intro z;exact .inl (ltT_iff.mp z)
    · rintro (z|⟨z,_⟩)
      · exact ltT_iff.mpr z
      · exact absurd z hc
theorem aY {a b:Bool} (h:(a=true)↔(b=true)):a=b:=Ac.mpr h
section
variable {X:Cx} {pins:List (Addr×Obj)} {σ:L2.St} {H:Hp} {s:Shared}
theorem fG (I:Inv X pins σ H s) {n:Nat} {A:Around} (hu:A.units+n+1 < cLine)
 (ih:∀ {t u:Tr} {v w:V} {a b:Value},t.depth≤n→(t.pure∨u.pure)→Cm t u→TrAt H v t→TrAt H w u→RelV v a→RelV w b→LtAt A s a b (ltT t u)):
 ∀ {ts us:List Tr} {vs ws:List V} {as bs:List Value},Trs.depth ts≤n→(Trs.pure ts∨Trs.pure us)→Cms ts us→TrsAt H vs ts→TrsAt H ws us→Vals vs as→Vals ws bs→bU A s as bs (qs ts us)
 | [],us,vs,ws,as,bs,hd,hp,hc,h1,h2,r1,r2=>by
  unfold TrsAt at h1;subst h1;cases r1;cases us<;>simp [bU,qs]
 |t::ts,[],vs,ws,as,bs,hd,hp,hc,h1,h2,r1,r2=>by
  unfold TrsAt at h2;subst h2;cases r2;obtain ⟨v,r,rfl,_,_⟩:=h1.inv;cases r1;simp [bU,qs]
 |t::ts,u::us,vs,ws,as,bs,hd,hp,hc,h1,h2,r1,r2=>by
  obtain ⟨v,r,rfl,g1,g2⟩:=h1.inv;obtain ⟨v',r',rfl,g3,g4⟩:=h2.inv;unfold Trs.depth at hd
  have hp1:t.pure∨u.pure:=by
   rcases hp with hp|hp<;>unfold Trs.pure at hp
   · exact .inl hp.1
   · exact .inr hp.1
  have hp2:Trs.pure ts∨Trs.pure us:=by
   rcases hp with hp|hp<;>unfold Trs.pure at hp
   · exact .inl hp.2
   · exact .inr hp.2
  cases r1 with
  |cons q1 q2=>
   cases r2 with
   |cons q3 q4=>
    simp only [bU,qs];refine ⟨j3 I n (by omega) hp1 g1 g3 q1 q3 hu,fun e=> ?_,fun e=> ?_⟩
    · unfold Cms at hc;rcases hc with ⟨e',_⟩|⟨_,hc⟩
      · rw [e] at e';cases e'
      · exact ih (by omega) hp1 hc g1 g3 q1 q3
    · unfold Cms at hc;rcases hc with ⟨_,hc⟩|⟨e',_⟩
      · exact fG I hu ih (by omega) hp2 hc g2 g4 q2 q4
      · rw [e] at e';cases e'
theorem mQ {A:Around} {t u:Tr} {v w:V} {a b:Value} (hd:∀ts,t≠ .tup ts) (hc:Cm t u) (h1:TrAt H v t) (h2:TrAt H w u) (r1:RelV v a) (r2:RelV w b):LtAt A s a b (ltT t u):=by
 cases t<;>cases u<;>unfold Cm at hc<;>first|exact hc.elim|skip
 · rename_i x y;unfold TrAt at h1 h2;subst h1 h2;cases (show a=Value.bool x from r1);cases (show b=Value.bool y from r2);intro prog w' E Q h;refine lt_bool ?_
   have e:decide (b2i x < b2i y)=ltT (.bl x) (.bl y):=by
    refine aY ?_;rw [ltT_iff,decide_eq_true_iff];cases x<;>cases y<;>simp [code,LtC,b2i]
   rw [e];exact h
 · rename_i x y;unfold TrAt at h1 h2;subst h1 h2;obtain ⟨t1,rfl⟩:=r1;obtain ⟨t2,rfl⟩:=r2;intro prog w' E Q h;refine lt_int ?_
   have e:decide (x < y)=ltT (.int x) (.int y):=by
    refine aY ?_;rw [ltT_iff,decide_eq_true_iff];simp [code,LtC]
   rw [e];exact h
 · rename_i x y;unfold TrAt at h1 h2;subst h1 h2;obtain ⟨t1,rfl⟩:=r1;obtain ⟨t2,rfl⟩:=r2;intro prog w' E Q h;refine lt_str ?_
   have e:decide (x.cps.toList < y.cps.toList)=ltT (.str x) (.str y):=by
    refine aY ?_;rw [ltT_iff,decide_eq_true_iff];simp [code,LtC]
   rw [e];exact h
 · exact (hd _ rfl).elim
theorem gi (I:Inv X pins σ H s):∀(n:Nat) {A:Around} {t u:Tr} {v w:V} {a b:Value},t.depth≤n→(t.pure∨u.pure)→Cm t u→TrAt H v t→TrAt H w u→RelV v a→RelV w b→A.units+n+1 < cLine→LtAt A s a b (ltT t u):=by
 intro n
 induction n with
 |zero=>
  intro A t u v w a b hd hp hc h1 h2 r1 r2 hu;refine mQ (fun ts e=> ?_) hc h1 h2 r1 r2;subst e;simp [Tr.depth] at hd
 |succ n ih=>
  intro A t u v w a b hd hp hc h1 h2 r1 r2 hu
  cases t with
  |tup ts=>
   cases u<;>first|(unfold Cm at hc;exact hc.elim)|skip
   rename_i us;unfold Cm at hc;unfold TrAt at h1 h2;obtain ⟨r0,vs0,rfl,g0,k0⟩:=h1;obtain ⟨r,vs,rfl,g1,k1⟩:=h2;cases r1;cases r2;obtain ⟨as,q0,p0,_⟩:=I.tuple (SqT.of g0);obtain ⟨bs,q1,p1,_⟩:=I.tuple (SqT.of g1);unfold Tr.depth at hd
   have hp':Trs.pure ts∨Trs.pure us:=by
    rcases hp with hp|hp<;>unfold Tr.pure at hp
    · exact .inl hp
    · exact .inr hp
   have hu1:A.in1.units+n+1 < cLine:=by show A.units+1+n+1 < cLine;omega
   have hx:=fG (A:=A.in1) I hu1 (fun d pp cc a1 a2 b1 b2=>ih d pp cc a1 a2 b1 b2 hu1) (by omega) hp' hc k0 k1 q0 q1
   have:=la (A:=A) (show s.heap.IsTuple r0 as.toArray from p0) (show s.heap.IsTuple r bs.toArray from p1) (by omega) (by simpa using hx)
   have e:lexV (decide (as.toArray.size < bs.toArray.size)) (qs ts us)=ltT (.tup ts) (.tup us):=by
    have l0:=k0.len;have l1:=k1.len;have l2:=q0.length;have l3:=q1.length
    have e2:decide (as.toArray.size < bs.toArray.size)=decide (ts.length < us.length):=by
     rw [yU,yU,←l2,←l3,l0,l1]
    rw [e2];refine aY ?_;rw [eF,ltT_iff];simp [code,LtC]
   rw [←e];exact this
  |_=>exact mQ (fun ts e=>by cases e) hc h1 h2 r1 r2
end
end Tre
namespace Srt
open PySem PySem.W PySem.Calls PyProof.Rows
theorem dg {α:Type} (d:α):∀(vs:List α),(List.range vs.length).map (fun i=>vs.getD i d)=vs
 | []=>rfl
 |v::vs=>by
  rw [za,List.range_succ_eq_map,zc,Ah];have:=dg d vs;simp only [Function.comp_def];show v::List.map (fun i=>vs.getD i d) (List.range vs.length)=v::vs;rw [this]
theorem mE {α:Type}:∀(vs:List α),List.map (fun x=>x.snd) (vs.zip vs)=vs
 | []=>rfl
 |v::vs=>by
  rw [zR,zc,mE vs]
section
variable {prog:Program} {w:World} {A:Around} {E:Value→Shared→Prop} {s:Shared} {lt:Nat→Nat→Bool} {κ:SortKind}
def Stay (s:Shared) (a:Addr) (h':Heap):Prop:=∀b o,b≠a→s.heap.get? b=some o→h'.get? b=some o
theorem eL {a:Addr} {vs:List Value} {n:Nat} {P:PySem.Fin→Shared→Prop} (O:Ord lt) (ho:s.heap.get? a=some (seqObj "list" vs.toArray n)) (h64:vs.length < 64)
 (hkind:2≤vs.length→∀h',Stay s a h'→∀R:SortKind→Shared→Prop,R κ {s with heap:=h'}→wpAny (model prog w) A (keyKind' vs.toArray) R E {s with heap:=h'})
 (hask:∀h',Stay s a h'→∀i j (R:Bool→Shared→Prop),i < vs.length→j < vs.length→R (lt i j) {s with heap:=h'}→kas_ask prog w A κ vs i j R {s with heap:=h'})
 (h:∀p:Array Nat,Pm vs.length p→Up lt p vs.length→P (.done (.ret .none)) {s with heap:=sortedHeap s.heap a vs (List.toArray (p.toList.map fun i=>vs.getD i Value.none))}):
 wpAny (model prog w) A (Builtin.«list.sort» ⟨[.ref a],[]⟩) P E s:=by
 have ha:a < s.heap.objs.size:=Heap.lt_size ho;rw [list_sort_plain];refine wpAny_bind (listItems_at ho rfl ?_);refine wpAny_bind (listUpdate_at ho rfl ?_ (by rw [yU,sizeLine_eq];omega) (zf _))
 obtain ⟨e1,ho1⟩:∃e1,(s.heap.update a (Obj.mapSeq fun _=>(#[]:Array Value))).get? a=some (seqObj "list" #[] e1):=⟨_,get?_update_seq ho fun _=> #[]⟩;refine wpAny_bind (seqEpoch_at ho1 rfl ?_);refine wpAny_bind (wpAny_newTuple ?_ (by show vs.length≤_;rw [sizeLine_eq];omega))
 refine wpAny_bind (wpAny_newList ?_ (zf _));refine wpAny_holding ?_;have s1:=Heap.SameBut.update s.heap a (Obj.mapSeq fun _=>(#[]:Array Value))
 have st:Stay s a (((s.heap.update a (Obj.mapSeq fun _=>(#[]:Array Value))).push (seqObj "tuple" vs.toArray 0)).push (seqObj "list" #[] 0)):=fun b o hb e=>
  Heap.get?_push_of_some _ (Heap.get?_push_of_some _ ((s1.2 b hb).trans e))
 have ho6:(((s.heap.update a (Obj.mapSeq fun _=>(#[]:Array Value))).push (seqObj "tuple" vs.toArray 0)).push (seqObj "list" #[] 0)).get? a=some (seqObj "list" #[] e1):=Heap.get?_push_of_some _ (Heap.get?_push_of_some _ ho1);show wpAny (model prog w) A _ P E {s with heap:=((s.heap.update a (Obj.mapSeq fun _=>(#[]:Array Value))).push (seqObj "tuple" vs.toArray 0)).push (seqObj "list" #[] 0)};dsimp only
 have out:∀p:Array Nat,Pm vs.length p→(List.toArray (p.toList.map fun i=>vs.getD i Value.none)).size≤sizeLine:=fun p hp=>by
  rw [yU,yM,zq,hp.size,sizeLine_eq];omega
 by_cases h2:vs.toArray.size < 2
 · rw [if_pos h2,if_pos h2];refine wpAny_bind (wpAny_pure ?_);rw [StateT.run_pure];refine wpAny_bind (wpAny_pure ?_);dsimp only;refine wpAny_bind (seqEpoch_at ho6 rfl ?_)
   have h0:Pm vs.length (List.toArray (List.range vs.length)):=by
    unfold Pm;simp
   have eo:(arrOf (SortSt.mk' general' (vs.toArray.zip vs.toArray) #[] 7 none)).map (·.2)=List.toArray ((List.toArray (List.range vs.length)).toList.map fun i=>vs.getD i Value.none):=by
    rw [A3,dg];show (vs.toArray.zip vs.toArray).map (·.2)=vs.toArray;apply Array.toList_inj.mp;simp;exact mE vs
   rw [eo];refine wpAny_bind (listUpdate_at ho6 rfl ?_ (zf _) (Nat.le_succ_of_le (out _ h0)));simp only [bne_self_eq_false,Bool.false_eq_true,if_false];refine wpAny_pure (h _ h0 fun i j hij hj=> ?_);have hv:vs.length < 2:=by simpa using h2
   have:i=j:=by omega
   subst this;exact O.refl _
 · rw [if_neg h2,if_neg h2]
   have h2':2≤vs.length:=by
    rw [yU] at h2;omega
   refine wpAny_bind (hkind h2' _ st _ ?_)
   have run:(kas_sort vs.length).kasWp (kas_ask prog w A κ vs) (fun p s'=>(Pm vs.length p∧Up lt p vs.length)∧s'= {s with heap:=((s.heap.update a (Obj.mapSeq fun _=>(#[]:Array Value))).push (seqObj "tuple" vs.toArray 0)).push (seqObj "list" #[] 0)})
    {s with heap:=((s.heap.update a (Obj.mapSeq fun _=>(#[]:Array Value))).push (seqObj "tuple" vs.toArray 0)).push (seqObj "list" #[] 0)}:=
    pf (lt:=lt) (N:=vs.length) (G:=fun s'=>s'= {s with heap:=((s.heap.update a (Obj.mapSeq fun _=>(#[]:Array Value))).push (seqObj "tuple" vs.toArray 0)).push (seqObj "list" #[] 0)})
     (fun i j R s' hi hj hg hR=>by subst hg;exact hask _ st i j R hi hj (hR _ rfl)) (fun p s' hp hg=>⟨hp,hg⟩) (vG O (by omega)) rfl
   refine wpAny_bind (wpAny_mono (kat_run (ks:=vs) (Q:=fun st' s'=>∃p:Array Nat,(Pm vs.length p∧Up lt p vs.length)∧arrOf st'=p.map (kas_item (vs.toArray.zip vs.toArray))∧failedOf st'=none∧s'= {s with heap:=((s.heap.update a (Obj.mapSeq fun _=>(#[]:Array Value))).push (seqObj "tuple" vs.toArray 0)).push (seqObj "list" #[] 0)})
    rfl h2' h64 (fun p st' s' a1 a2 a3 a4=>⟨p,a4.1,a2,a3,a4.2⟩) run) ?_ fun _ _ e=>e)
   rintro ⟨⟨⟩,st'⟩ s' ⟨p,hp,har,hf,rfl⟩;dsimp only;refine wpAny_bind (seqEpoch_at ho6 rfl ?_);rw [kat_snds rfl har];refine wpAny_bind (listUpdate_at ho6 rfl ?_ (zf _) (Nat.le_succ_of_le (out p hp.1)));rw [hf];simp only [bne_self_eq_false,Bool.false_eq_true,if_false];exact wpAny_pure (h p hp.1 hp.2)
theorem lB {l:Addr} {vs:List Value} {Q:Value→Shared→Prop} (O:Ord lt) (hl:s.heap.IsList l vs.toArray) (h64:vs.length < 64)
 (hkind:2≤vs.length→∀h',(∀b o,s.heap.get? b=some o→h'.get? b=some o)→∀(E':Value→Shared→Prop) (R:SortKind→Shared→Prop),R κ {s with heap:=h'}→wpAny (model prog w) A.in1.in1 (keyKind' vs.toArray) R E' {s with heap:=h'})
 (hask:∀h',(∀b o,s.heap.get? b=some o→h'.get? b=some o)→∀i j (R:Bool→Shared→Prop),i < vs.length→j < vs.length→R (lt i j) {s with heap:=h'}→kas_ask prog w A.in1.in1 κ vs i j R {s with heap:=h'})
 (h:∀p:Array Nat,Pm vs.length p→Up lt p vs.length→Q (.ref (s.heap.objs.size+1)) {s with heap:=sortedAll s.heap vs (List.toArray (p.toList.map fun i=>vs.getD i Value.none))}):
 wpAny (model prog w) A (call (.builtin "sorted") [.ref l]) Q E s:=by
 refine Calls.call_function_entry kind_sorted plain_sorted entry_sorted (args_sorted1 _) ?_;unfold Builtin.«sorted»;refine wpAny_bind (m:=checkCount "sorted" 1 1 _) (wpAny_pure ?_);refine wpAny_bind (collect_list hl ?_ (by rw [sizeLine_eq];omega))
 refine wpAny_bind (wpAny_newList ?_ (by rw [sizeLine_eq];omega))
 have hsz:((s.heap.push (seqObj "list" #[] 0)).update s.heap.objs.size (Obj.mapSeq (· ++vs.toArray))).objs.size=s.heap.objs.size+1:=by
  rw [Heap.size_update,size_push']
 have hoL:(((s.heap.push (seqObj "list" #[] 0)).update s.heap.objs.size (Obj.mapSeq (· ++vs.toArray))).push (seqObj "list" vs.toArray 0)).get? (s.heap.objs.size+1)=some (seqObj "list" vs.toArray 0):=by
  rw [←hsz];exact Heap.get?_push_size _ rfl
 have keep:∀b o,s.heap.get? b=some o→(((s.heap.push (seqObj "list" #[] 0)).update s.heap.objs.size (Obj.mapSeq (· ++vs.toArray))).push (seqObj "list" vs.toArray 0)).get? b=some o∧b≠s.heap.objs.size+1:=fun b o q=>by
  have hlt:b < s.heap.objs.size:=Heap.lt_size q;refine ⟨?_,yZ (zI hlt)⟩;rw [Heap.get?_push_ne _ _ _ (by rw [hsz];exact yZ (zI hlt)),Heap.get?_update_ne _ _ _ _ (yZ hlt),Heap.get?_push_ne _ _ _ (yZ hlt)]
  exact q
 show wpAny _ _ _ _ _ {s with heap:=((s.heap.push (seqObj "list" #[] 0)).update s.heap.objs.size (Obj.mapSeq (· ++vs.toArray))).push (seqObj "list" vs.toArray 0)};rw [hsz]
 refine wpAny_bind (wpAny_holding (wpAny_call_entry slot_list_sort ⟨_,hoL,rfl⟩ entry_list_sort (eL (lt:=lt) (κ:=κ) O hoL h64 (fun h2 h' st R hR=>hkind h2 h' (fun b o e=>st b o (keep b o e).2 (keep b o e).1) _ R hR)
  (fun h' st i j R hi hj hR=>hask h' (fun b o e=>st b o (keep b o e).2 (keep b o e).1) i j R hi hj hR) fun p a1 a2=>⟨_,rfl,?_⟩) (args_list_sort _)))
 exact wpAny_pure ⟨_,rfl,h p a1 a2⟩
end
end Srt
namespace Tre
open PySem PySem.Spec PyProof.Rows L2 Srt
theorem iK {prog:Program} {w:World} {A:Around} {s:Shared} {fin:Bool} {Q:Bool→Shared→Prop}:∀ {as bs:List Value} {q:List (Bool×Bool)} {i:Nat},bU A s as bs q→Q (lexV fin q) s→PySem.W.KatLex prog w A false fin Q (as.zip bs) i s
 | [],_,q,i,h,hq=>by
  unfold bU at h;subst h;rw [List.zip_nil_left];exact PySem.W.kat_nil hq
 |_::_,[],q,i,h,hq=>by
  unfold bU at h;subst h;rw [List.zip_nil_right];exact PySem.W.kat_nil hq
 |a::as,b::bs,[],i,h,hq=>h.elim
 |a::as,b::bs,(e,l)::q,i,h,hq=>by
  obtain ⟨h1,h2,h3⟩:=h;rw [zR];refine PySem.W.kat_cons (h1 prog w _ _ ?_)
  cases e with
  |true=>exact PySem.W.kat_yes (iK (h3 rfl) hq)
  |false=>
   refine PySem.W.kat_no ?_;show wpAny _ _ (oneLt' false a b) _ _ _;exact PySem.W.kat_one a b (h2 rfl prog w _ _ hq)
def Hd (t:Tr):Prop:=∃fs r,t= .tup (.tup fs::r)
theorem TrsAt.map {H:Hp} {vs:List V} {ts:List Tr} (h:TrsAt H vs ts):∀ {is:List Nat},(∀i∈is,i < ts.length)→TrsAt H (is.map fun i=>vs.getD i .non) (is.map fun i=>ts.getD i .non)
 | [],_=> .nil
 |i::is,hi=>by
  have h0:i < ts.length:=hi i yO;have hl:=h.len;obtain ⟨v,e1,e2⟩:=h.get (i:=i) (t:=ts[i]) (yN h0);have ev:vs.getD i .non=v:=by rw [z9,e1];rfl
  have et:ts.getD i .non=ts[i]:=by rw [z9,yN h0];rfl
  rw [zc,zc,ev,et];exact .cons e2 (TrsAt.map h fun j m=>hi j (yR _ m))
theorem Vals.map {vs:List V} {as:List Value} (h:Vals vs as):∀ {is:List Nat},(∀i∈is,i < vs.length)→Vals (is.map fun i=>vs.getD i .non) (is.map fun i=>as.getD i Value.none)
 | [],_=> .nil
 |i::is,hi=>by
  have h0:i < vs.length:=hi i yO;obtain ⟨u,e1,e2⟩:=h.get (i:=i) (x:=vs[i]) (yN h0);have ev:vs.getD i .non=vs[i]:=by rw [z9,yN h0];rfl
  have et:as.getD i Value.none=u:=by rw [z9,e1];rfl
  rw [zc,zc,ev,et];exact .cons e2 (Vals.map h fun j m=>hi j (yR _ m))
section
variable {X:Cx} {pins:List (Addr×Obj)} {σ:L2.St} {H:Hp} {s:Shared}
theorem cu (I:Inv X pins σ H s) {r:Addr} {vs:List V} (h:H r=some (.tup vs)):∃(as:List Value) (o:Obj) (n:Nat),Vals vs as∧s.heap.get? r=some o∧o.cls= .type "tuple"∧o.data= .seq as.toArray n:=by
 obtain ⟨as,q,p,_⟩:=I.tuple (SqT.of h);obtain ⟨o,ho,hc,n,hd⟩:=(show s.heap.IsTuple r as.toArray from p);exact ⟨as,o,n,q,ho,hc,hd⟩
theorem ii (I:Inv X pins σ H s):∀ {vs:List V} {ts:List Tr} {as:List Value},TrsAt H vs ts→Vals vs as→(∀t∈ts,Hd t)→∃fs,PySem.W.KatTups s.heap as fs∧fs.length=as.length∧∀v∈fs,∃(r:Addr) (o:Obj),v= .ref r∧s.heap.get? r=some o∧o.cls= .type "tuple"
 |vs,[],as,h,r,_=>by
  unfold TrsAt at h;subst h;cases r;exact ⟨[],PySem.W.KatTups.nil,rfl,fun v m=>by cases m⟩
 |vs,t::ts,as,h,r,hh=>by
  obtain ⟨v,vr,rfl,h1,h2⟩:=h.inv
  cases r with
  |cons q1 q2=>
   obtain ⟨fs,k1,k2,k3⟩:=ii I h2 q2 fun t m=>hh t (yR _ m);obtain ⟨gs,gr,rfl⟩:=hh t yO;unfold TrAt at h1;obtain ⟨r0,vs0,rfl,g0,g1⟩:=h1;cases q1;obtain ⟨f,fr,rfl,h3,h4⟩:=g1.inv;obtain ⟨as0,o,n,q3,ho,hc,hd⟩:=cu I g0
   cases q3 with
   |cons q5 q6=>
    unfold TrAt at h3;obtain ⟨r1,vs1,rfl,g2,_⟩:=h3;cases q5;obtain ⟨_,o1,_,_,ho1,hc1,_⟩:=cu I g2;refine ⟨.ref r1::fs,PySem.W.KatTups.cons ho hc hd (by simp) k1,by simp [k2],fun v m=> ?_⟩
    rcases yV.mp m with rfl|m
    · exact ⟨r1,o1,rfl,ho1,hc1⟩
    · exact k3 v m
def u5:List V→Hp→VK→Prop:=fun xs H Q=>∃(l:Addr) (vs:List V) (ts:List Tr),xs= [.ref l]∧H l=some (.lst vs)∧TrsAt H vs ts∧ts.length < 64∧(∀t∈ts,Hd t∧t.pure∧t.depth≤40)∧(∀t∈ts,∀u∈ts,Cm t u)∧
 ∀(D:Addr) (ws:List V) (us:List Tr),H D=none→us.Perm ts→TrsAt H ws us→(∀(i j:Nat) (t u:Tr),i≤j→us[i]?=some t→us[j]?=some u→ltT u t=false)→Q (.ref D) (upd H D (.lst ws))
theorem gc (hu:X.A.units+60 < cLine):cB X (.builtin "sorted") u5:=by
 intro pins s σ H xs us Q I r h;refine hZq fun q_ e_=> ?_;obtain ⟨l,vs,ts,rfl,hl,hT,hlen,hts,hcm,q⟩:=h;subst e_;obtain ⟨u,rfl,ru⟩:=cP r;cases ru;refine hZq fun q_ e_=> ?_;obtain ⟨as,rv,pl,_⟩:=I.list (SqL.of hl);subst e_;have l1:=hT.len;have l2:=rv.length;have O:Srt.Ord fun i j=>ltT (ts.getD i .non) (ts.getD j .non):=⟨fun a b h=>dY h,fun a b c h1 h2=>lT h1 h2⟩
 have at_:∀i,i < as.length→∃t v a,ts.getD i .non=t∧t∈ts∧TrAt H v t∧RelV v a∧as.getD i Value.none=a:=fun i hi=>by
  have hi':i < ts.length:=by omega
  obtain ⟨v,e1,e2⟩:=hT.get (i:=i) (t:=ts[i]) (yN hi');obtain ⟨a,e3,e4⟩:=rv.get e1;exact ⟨ts[i],v,a,by rw [z9,yN hi'];rfl,zM hi',e2,e4,by rw [z9,e3];rfl⟩
 refine lB (κ:=tuples' false) O pl.isList (by omega) (fun h2 h' kp E' R hR=> ?_) (fun h' kp i j R hi hj hR=> ?_) fun p hp hup=> ?_
 · have I':Inv X pins σ H {s with heap:=h'}:=I.kept (t':=s.toks) kp;refine hZq fun q_ e_=> ?_;obtain ⟨fs,k1,k2,k3⟩:=ii I' hT rv fun t m=>(hts t m).1;subst e_;refine PySem.W.kat_kind (T:=Value.type "tuple") k1 (by omega) (fun v m=> ?_) (by decide +kernel) ?_
   · obtain ⟨r,o,rfl,ho,hc⟩:=k3 v m;have:PySem.W.Looks (model X.prog X.w) h' (typeOf (.ref r)) o.cls:=(PySem.W.Looks.ld ho).andThen .now;rw [hc] at this;exact this
   · rw [show (Value.type "tuple" !=Value.type "tuple")=false by decide +kernel]
     exact hR
 · have I':Inv X pins σ H {s with heap:=h'}:=I.kept (t':=s.toks) kp;refine hZq fun q_ e_=> ?_;obtain ⟨t,v,a,et,mt,ht,ra,ea⟩:=at_ i hi;subst e_;refine hZq fun q_ e_=> ?_;obtain ⟨u,v',b,eu,mu,hu',rb,eb⟩:=at_ j hj;subst e_;have hc:=hcm t mt u mu;refine hZq fun q_ e_=> ?_;obtain ⟨⟨f1,r1,rfl⟩,p1,d1⟩:=hts t mt;subst e_;refine hZq fun q_ e_=> ?_;obtain ⟨⟨f2,r2,rfl⟩,p2,d2⟩:=hts u mu;subst e_;unfold TrAt at ht hu';refine hZq fun q_ e_=> ?_;obtain ⟨x0,vs0,rfl,g0,g1⟩:=ht;subst e_;refine hZq fun q_ e_=> ?_;obtain ⟨y0,ws0,rfl,g2,g3⟩:=hu';subst e_;cases ra;cases rb;refine hZq fun q_ e_=> ?_;obtain ⟨as0,o,n,q3,ho,hcl,hd⟩:=cu I' g0;subst e_;refine hZq fun q_ e_=> ?_;obtain ⟨bs0,o',n',q4,ho',hcl',hd'⟩:=cu I' g2;subst e_;unfold Tr.depth at d1;unfold Tr.pure at p1;unfold Cm at hc;have hu1:X.A.in1.in1.units+40+1 < cLine:=by show X.A.units+1+1+40+1 < cLine;omega
   have hx:=fG (A:=X.A.in1.in1) I' hu1 (fun d pp cc a1 a2 b1 b2=>gi I' 40 d pp cc a1 a2 b1 b2 hu1) (by omega) (.inl p1) hc g1 g3 q3 q4
   unfold PySem.W.kas_ask;rw [ea,eb];refine PySem.W.kat_lt (b:=false) ho hd ho' hd' ?_;rw [A3,A3];refine iK hx ?_
   have e:lexV (decide (as0.toArray.size < bs0.toArray.size)) (qs (.tup f1::r1) (.tup f2::r2))=ltT (ts.getD i .non) (ts.getD j .non):=by
    have z0:=g1.len;have z1:=g3.len;have z2:=q3.length;have z3:=q4.length
    have e2:decide (as0.toArray.size < bs0.toArray.size)=decide ((Tr.tup f1::r1).length < (Tr.tup f2::r2).length):=by
     rw [yU,yU,←z2,←z3,z0,z1]
    rw [e2,et,eu];refine aY ?_;rw [eF,ltT_iff];simp [code,LtC]
   rw [e];exact hR
 · have hin:∀i∈p.toList,i < ts.length:=fun i m=>by
    have:=zH.mp (List.Perm.mem_iff hp |>.mp m);omega
   refine ⟨.ref (s.heap.objs.size+1),upd H (s.heap.objs.size+1) (.lst (p.toList.map fun i=>vs.getD i .non)),I.laid (t':=s.toks) (fun b o e=>sortedAll_old e) (Nat.le_succ _) ?_,rfl,?_⟩
   · obtain ⟨e,he⟩:=sortedAll_at s.heap as (List.toArray (p.toList.map fun i=>as.getD i Value.none));refine ⟨?_,p.toList.map fun i=>as.getD i Value.none,e,Vals.map rv fun i m=>by have:=hin i m;omega,he⟩
     rw [yM,zq,hp.size];have:(64:Nat)≤sizeLine:=by decide +kernel
     omega
   · refine q _ _ (p.toList.map fun i=>ts.getD i .non) (I.hok.fresh (Nat.le_succ _)) ?_ (TrsAt.map hT hin) fun i j t u hij e1 e2=> ?_
     · have:=List.Perm.map (fun i=>ts.getD i Tr.non) hp;rw [show as.length=ts.length by omega,dg] at this
       exact this
     · rw [yQ] at e1 e2;obtain ⟨a,ea,rfl⟩:=yS.mp e1;obtain ⟨b,eb,rfl⟩:=yS.mp e2
       have hj:j < as.length:=by
        have:=(yW.mp eb).1;rw [zq,hp.size] at this;exact this
       have:=hup i j hij hj;rw [cE,cE,←zx,←zx,ea,eb] at this;exact this
end
end Tre
namespace Tre
open PySem L2
inductive So where
 |tm|fr|pr|ws|lt
abbrev s_ (x:String):Tr:= .str (Str.ofString x)
inductive Ty:So→Tr→Prop
 |nm (x:Str):Ty .tm (.tup [s_ "name", .str x])
 |ap (x:Str) (ts:List Tr):ts.length≤3→(∀t∈ts,Ty .tm t)→Ty .tm (.tup [s_ "call", .str x, .tup ts])
 |fr (a b:Int):Ty .fr (.tup [.int a, .int b])
 |pr (t f:Tr):Ty .tm t→Ty .fr f→Ty .pr (.tup [t,f])
 |fl (x:Str):Ty .ws (.tup [s_ "flag", .str x])
 |mo (ps:List Tr) (f:Tr):(∀p∈ps,Ty .pr p)→Ty .fr f→Ty .ws (.tup [s_ "most", .tup ps,f])
 |li (t u:Tr):Ty .tm t→Ty .tm u→Ty .ws (.tup [s_ "like",t,u])
 |no (w:Tr):Ty .ws w→Ty .ws (.tup [s_ "not",w])
 |bo (l:List Tr):(∀w∈l,Ty .ws w)→Ty .ws (.tup [s_ "both", .tup l])
 |ei (l:List Tr):(∀w∈l,Ty .ws w)→Ty .ws (.tup [s_ "either", .tup l])
 |lt (w:Tr) (b:Bool):Ty .ws w→Ty .lt (.tup [w, .bl b])
theorem aI {t u:Tr} {ts us:List Tr} (h1:eqT t u=false→Cm t u) (h2:Cms ts us):Cms (t::ts) (u::us):=by
 unfold Cms
 cases e:eqT t u with
 |true=>exact .inl ⟨rfl,h2⟩
 |false=>exact .inr ⟨rfl,h1 e⟩
theorem xA {t u:Tr} {ts us:List Tr} (h0:eqT t u=false) (h1:Cm t u):Cms (t::ts) (u::us):=by
 unfold Cms;exact .inr ⟨h0,h1⟩
theorem bE {us:List Tr}:Cms [] us:=by
 cases us<;>simp [Cms]
theorem cF (x y:Str):Cm (.str x) (.str y):=by simp [Cm]
theorem fO (x y:Int):Cm (.int x) (.int y):=by simp [Cm]
theorem yJ (x y:Bool):Cm (.bl x) (.bl y):=by simp [Cm]
theorem e7 {ts us:List Tr} (h:Cms ts us):Cm (.tup ts) (.tup us):=by
 unfold Cm;exact h
theorem gJ {ts us:List Tr} (h:∀t∈ts,∀u∈us,Cm t u):Cms ts us:=by
 induction ts generalizing us with
 |nil=>exact bE
 |cons t ts ih=>
  cases us with
  |nil=>simp [Cms]
  |cons u us=>exact aI (fun _=>h t yO u yO) (ih fun a ma b mb=>h a (yR _ ma) b (yR _ mb))
theorem p9:∀(n:Nat) {k:So} {t u:Tr},t.depth≤n→Ty k t→Ty k u→Cm t u:=by
 intro n
 induction n with
 |zero=>
  intro k t u hd h1 h2;cases h1<;>simp [Tr.depth] at hd
 |succ n ih=>
  intro k t u hd h1 h2
  have sub:∀ {ts:List Tr} {t:Tr},(Tr.tup ts).depth≤n+1→t∈ts→t.depth≤n:=fun h m=>by
   unfold Tr.depth at h;have:=bv m;omega
  have sub2:∀ {ts l:List Tr} {t:Tr},(Tr.tup ts).depth≤n+1→Tr.tup l∈ts→t∈l→t.depth≤n:=fun h m m2=>by
   have h3:=sub h m;unfold Tr.depth at h3;have:=bv m2;omega
  cases h1<;>cases h2<;>refine e7 ?_
  all_goals first
   |exact xA (by decide +kernel) (cF _ _)
   |skip
  · exact aI (fun _=>cF _ _) (aI (fun _=>cF _ _) bE)
  · rename_i x ts _ h1 y us _ h2;exact aI (fun _=>cF _ _) (aI (fun _=>cF _ _) (aI (fun _=>e7 (gJ fun a ma b mb=>ih (sub2 hd (by simp) ma) (h1 a ma) (h2 b mb))) bE))
  · exact aI (fun _=>fO _ _) (aI (fun _=>fO _ _) bE)
  · rename_i t1 f1 a1 b1 t2 f2 a2 b2;exact aI (fun _=>ih (sub hd (by simp)) a1 a2) (aI (fun _=>ih (sub hd (by simp)) b1 b2) bE)
  · exact aI (fun _=>cF _ _) (aI (fun _=>cF _ _) bE)
  · rename_i p1 f1 a1 b1 p2 f2 a2 b2;exact aI (fun _=>cF _ _) (aI (fun _=>e7 (gJ fun a ma b mb=>ih (sub2 hd (by simp) ma) (a1 a ma) (a2 b mb))) (aI (fun _=>ih (sub hd (by simp)) b1 b2) bE))
  · rename_i t1 u1 a1 b1 t2 u2 a2 b2;exact aI (fun _=>cF _ _) (aI (fun _=>ih (sub hd (by simp)) a1 a2) (aI (fun _=>ih (sub hd (by simp)) b1 b2) bE))
  · rename_i w1 a1 w2 a2;exact aI (fun _=>cF _ _) (aI (fun _=>ih (sub hd (by simp)) a1 a2) bE)
  · rename_i l1 a1 l2 a2;exact aI (fun _=>cF _ _) (aI (fun _=>e7 (gJ fun a ma b mb=>ih (sub2 hd (by simp) ma) (a1 a ma) (a2 b mb))) bE)
  · rename_i l1 a1 l2 a2;exact aI (fun _=>cF _ _) (aI (fun _=>e7 (gJ fun a ma b mb=>ih (sub2 hd (by simp) ma) (a1 a ma) (a2 b mb))) bE)
  · rename_i w1 b1 a1 w2 b2 a2;exact aI (fun _=>ih (sub hd (by simp)) a1 a2) (aI (fun _=>yJ _ _) bE)
theorem dN {ts:List Tr} (h:∀t∈ts,t.pure):Trs.pure ts:=by
 induction ts with
 |nil=>unfold Trs.pure;trivial
 |cons t ts ih=>
  unfold Trs.pure;exact ⟨h t yO,ih fun u m=>h u (yR _ m)⟩
theorem eX {k:So} {t:Tr} (h:Ty k t):t.pure:=by
 induction h with
 |nm x=>simp [Tr.pure,Trs.pure]
 |ap x ts _ _ ih=>simp only [Tr.pure,Trs.pure];exact ⟨trivial,trivial,dN ih,trivial⟩
 |fr a b=>simp [Tr.pure,Trs.pure]
 |pr t f _ _ h1 h2=>simp only [Tr.pure,Trs.pure];exact ⟨h1,h2,trivial⟩
 |fl x=>simp [Tr.pure,Trs.pure]
 |mo ps f _ _ h1 h2=>simp only [Tr.pure,Trs.pure];exact ⟨trivial,dN h1,h2,trivial⟩
 |li t u _ _ h1 h2=>simp only [Tr.pure,Trs.pure];exact ⟨trivial,h1,h2,trivial⟩
 |no w _ h1=>simp only [Tr.pure,Trs.pure];exact ⟨trivial,h1,trivial⟩
 |bo l _ h1=>simp only [Tr.pure,Trs.pure];exact ⟨trivial,dN h1,trivial⟩
 |ei l _ h1=>simp only [Tr.pure,Trs.pure];exact ⟨trivial,dN h1,trivial⟩
 |lt w b _ h1=>simp only [Tr.pure,Trs.pure];exact ⟨h1,trivial,trivial⟩
theorem uV {t:Tr} (h:Ty .lt t∨Ty .pr t):Hd t:=by
 rcases h with h|h
 · cases h with
   |lt w b hw=>cases hw<;>exact ⟨_,_,rfl⟩
 · cases h with
   |pr t f ht hf=>cases ht<;>exact ⟨_,_,rfl⟩
end Tre
namespace L2
open PySem PySem.Spec PyProof.Rows
theorem FnScope.of {N P:List Str} {sc:Scope} (h1:sc.kind= .function:=by rfl) (h2:sc.isCoroutine=false:=by rfl) (h3:sc.isGenerator=false:=by rfl) (h4:N.Nodup:=by decide +kernel) (h5:N.take P.length=P:=by rfl) (h6:∀x∈P,sc.names.lookup x=some .local∨sc.names.lookup x=some .cell:=by decide +kernel) (h7:∀y∈sc.names,y.2≠ .free:=by decide +kernel):FnScope N P sc:=⟨h1,h2,h3,h4,h5,h6,h7⟩
section
variable {X:Cx} {pos:Pos} {x:Str} {e:Expr} {te:TE} {pos':Pos}
theorem psA (i:Nat) (hN:X.N.Nodup) (he:PE X e te) (hi:X.N[i]?=some x:=by rfl) (hx:X.env.scope.names.lookup x=some .local:=by rfl) (hs:swapsWith e (some (.Name x pos')) pos.line X.env=pure false:=by rfl):PS X (.Assign [.Name x pos'] e pos) (tAsg te (aG i)):=
 rh hN hi (Or.inl hx) he hs (Or.inr hx)
theorem psR (i:Nat) (hN:X.N.Nodup) (he:PE X e te) (hi:X.N[i]?=some x:=by rfl) (hx:X.env.scope.names.lookup x=some .cell:=by rfl) (hf:X.fn x=true:=by rfl) (hs:swapsWith e (some (.Name x pos')) pos.line X.env=pure false:=by rfl):PS X (.Assign [.Name x pos'] e pos) (tAsg te (aG i)):=
 rh hN hi (Or.inr hx) he hs (Or.inl hf)
theorem pgA (i:Nat) (hN:X.N.Nodup) (hi:X.N[i]?=some x:=by rfl) (hx:X.env.scope.names.lookup x=some .local:=by rfl):PG X (.Name x pos) (aG i):=eC hN hi (Or.inl hx) (Or.inr hx)
end
theorem two:2≤sizeLine:=by decide
section
variable {P:Program} {w:World} {K:PySem.W.Frag} {mg:Str→Option Value} {base:Heap}
theorem Fun.okb {x qual:Str} {st:Stmt} {f:Addr} {fd:FuncData} {N ps:List Str} {k:Nat} {sp:Sp} (F:Fun K x qual st f fd) (S:FnScope N ps (ag st))
 (hb:∀vs H Q E,sp vs H Q E→vs.length=ps.length∧∀(cdv:Value) (A:Around) (outer:List Env) (s:Shared),Room k (A.deeper (envOfC qual (ag st) s.heap.objs.size f cdv))→
  ∃t,PSs (cxOf CX0 P w K mg base N qual (ag st) f cdv A outer s H E).nox (aS st) t∧t {nx:=fun _ H'=>Q .non H',rt:=Q} (f9 N vs) H):FnOk P w K mg base CX0 (k+1) f fd ps sp:=
 F.ok S (fun vs H Q E h=>(hb vs H Q E h).1) fun cdv A outer s H vs Q E hr h=>(hb vs H Q E h).2 cdv A outer s hr
end
structure FH (K:PySem.W.Frag) (n:Str) (st:Stmt) (f:Addr) (fd:FuncData):Prop where
 ex:∃(oc:Value) (od:Option Addr) (kV doc pm:Value) (an:Option Addr) (cdv ct:Value) (osl:Array (Option Value)),
  fd=PySem.W.fnOf n n (bp st) (aS st) (ag st) .none kV doc pm an cdv ct∧K.lookup f=some ⟨oc,od, .func fd,osl⟩∧PySem.W.codeIn K cdv n=true
 kp:PySem.W.keepIn K (.ref f)=true
 ns:PySem.W.nsIn K mainGlobals n=some (some (.ref f))
section
variable {K:PySem.W.Frag} {n:Str} {st:Stmt} {f:Addr} {fd:FuncData}
theorem FH.mk' {oc:Value} {od an:Option Addr} {osl:Array (Option Value)} {kV doc pm cdv ct:Value} (a:PySem.W.nsIn K mainGlobals n=some (some (.ref f))) (l:K.lookup f=some ⟨oc,od, .func (PySem.W.fnOf n n (bp st) (aS st) (ag st) .none kV doc pm an cdv ct),osl⟩)
 (c:PySem.W.codeIn K cdv n=true) (k:PySem.W.keepIn K (.ref f)=true):FH K n st f (PySem.W.fnOf n n (bp st) (aS st) (ag st) .none kV doc pm an cdv ct):=⟨⟨_,_,_,_,_,_,_,_,_,rfl,l,c⟩,k,a⟩
theorem FH.fn (h:FH K n st f fd):Fun K n n st f fd:=⟨h.ex,h.kp⟩
theorem FH.b (h:FH K n st f fd) {ps:List Str} (hb:∀(kV doc pm:Value) (an:Option Addr) (cdv ct:Value) (us:List Value),us.length=ps.length→bindArgs (PySem.W.fnOf n n (bp st) (aS st) (ag st) .none kV doc pm an cdv ct) ⟨us,[]⟩=pure (ps.zip us)):Binds K fd ps []:=h.fn.binds hb
theorem ln1 {α:Type} {n:Nat} {us:List α} (h:us.length=n+1):∃a r,us=a::r∧r.length=n:=by
 cases us with
 |nil=>cases h
 |cons a r=>exact ⟨a,r,rfl,Nat.succ.inj h⟩
theorem FH.b1 {x:Str} (h:FH K n st f fd) (hb:∀(kV doc pm:Value) (an:Option Addr) (cdv ct a:Value),bindArgs (PySem.W.fnOf n n (bp st) (aS st) (ag st) .none kV doc pm an cdv ct) ⟨[a],[]⟩=pure [(x,a)]:=by intros;rfl):Binds K fd [x] []:=h.b fun _ _ _ _ _ _ us h0=>by
 obtain ⟨_,_,rfl,h1⟩:=ln1 h0;cases List.eq_nil_of_length_eq_zero h1;exact hb _ _ _ _ _ _ _
theorem FH.b2 {x y:Str} (h:FH K n st f fd) (hb:∀(kV doc pm:Value) (an:Option Addr) (cdv ct a b:Value),bindArgs (PySem.W.fnOf n n (bp st) (aS st) (ag st) .none kV doc pm an cdv ct) ⟨[a,b],[]⟩=pure [(x,a),(y,b)]:=by intros;rfl):Binds K fd [x,y] []:=h.b fun _ _ _ _ _ _ us h0=>by
 obtain ⟨_,_,rfl,h1⟩:=ln1 h0;obtain ⟨_,_,rfl,h2⟩:=ln1 h1;cases List.eq_nil_of_length_eq_zero h2;exact hb _ _ _ _ _ _ _ _
theorem FH.b3 {x y z:Str} (h:FH K n st f fd) (hb:∀(kV doc pm:Value) (an:Option Addr) (cdv ct a b c:Value),bindArgs (PySem.W.fnOf n n (bp st) (aS st) (ag st) .none kV doc pm an cdv ct) ⟨[a,b,c],[]⟩=pure [(x,a),(y,b),(z,c)]:=by intros;rfl):Binds K fd [x,y,z] []:=h.b fun _ _ _ _ _ _ us h0=>by
 obtain ⟨_,_,rfl,h1⟩:=ln1 h0;obtain ⟨_,_,rfl,h2⟩:=ln1 h1;obtain ⟨_,_,rfl,h3⟩:=ln1 h2;cases List.eq_nil_of_length_eq_zero h3;exact hb _ _ _ _ _ _ _ _ _
theorem FH.b5 {x y z u v:Str} (h:FH K n st f fd) (hb:∀(kV doc pm:Value) (an:Option Addr) (cdv ct a b c d e:Value),bindArgs (PySem.W.fnOf n n (bp st) (aS st) (ag st) .none kV doc pm an cdv ct) ⟨[a,b,c,d,e],[]⟩=pure [(x,a),(y,b),(z,c),(u,d),(v,e)]:=by intros;rfl):Binds K fd [x,y,z,u,v] []:=h.b fun _ _ _ _ _ _ us h0=>by
 obtain ⟨_,_,rfl,h1⟩:=ln1 h0;obtain ⟨_,_,rfl,h2⟩:=ln1 h1;obtain ⟨_,_,rfl,h3⟩:=ln1 h2;obtain ⟨_,_,rfl,h4⟩:=ln1 h3;obtain ⟨_,_,rfl,h5⟩:=ln1 h4;cases List.eq_nil_of_length_eq_zero h5;exact hb _ _ _ _ _ _ _ _ _ _ _
end
open PySem PySem.Spec PyProof.Rows
section
variable {X:Cx}
end
open PySem PySem.Spec PyProof.Rows
section
variable {X:Cx} {tg:Expr}
end
section
variable {X:Cx} {tg:Expr}
end
open PySem PySem.Spec PyProof.Rows
section
variable {prog:Program} {w:World} {A:Around} {E:Value→Shared→Prop} {s:Shared}
end
section
variable {X:Cx}
end
end L2
namespace Dec
open PySem PySem.NumText
noncomputable def cl (x:Str):List Nat:=x.cps.toList
theorem ir (x y:Str):cl (x++y)=cl x++cl y:=by
 show (x.cps++y.cps).toList=_;simp [cl]
theorem cl_inj {x y:Str} (h:cl x=cl y):x=y:=by
 cases x;cases y;simp only [Str.mk.injEq];exact Array.toList_inj.mp h
theorem cX (x:Str):(cl x).length=x.length:=by simp [cl,Str.length]
noncomputable def ds (n:Nat):List Nat:=(Nat.toDigits 10 n).map Char.toNat
end Dec
namespace Mth
theorem sK (a b:Int):Int.gcd b (a.fmod b)=Int.gcd a b:=by
 have e:a.fmod b=a - b*a.fdiv b:=Int.fmod_def a b;rw [e,zV a b];have:a - b*a.fdiv b=a+b*(-(a.fdiv b)):=by rw [Int.mul_neg,Int.sub_eq_add_neg]
 rw [this];exact Int.gcd_add_mul_left_right ..
theorem uK {a b:Int} (h:b≠0):(a.fmod b).natAbs < b.natAbs:=by
 by_cases hb:0 < b
 · have h1:=Int.fmod_nonneg_of_pos a hb;have h2:=Int.fmod_lt_of_pos a hb;omega
 · have h3:0 < -b:=by omega
   have e:a.fmod b= -((-a).fmod (-b)):=by
    rw [Int.neg_fmod_neg,Int.neg_neg]
   have h1:=Int.fmod_nonneg_of_pos (-a) h3;have h2:=Int.fmod_lt_of_pos (-a) h3;omega
noncomputable def dv (t b:Int):Int:=if b < 0 then -(Int.gcd t b:Int) else (Int.gcd t b:Int)
noncomputable def fx (t b:Int):Int:=t.fdiv (dv t b)
noncomputable def fy (t b:Int):Int:=b.fdiv (dv t b)
theorem sQ {t b:Int} (h:b≠0):dv t b≠0:=by
 have:0 < Int.gcd t b:=zj t h;unfold dv;split<;>omega
theorem xy {t b:Int}:(dv t b).natAbs=Int.gcd t b:=by
 unfold dv;split<;>omega
theorem xx {t b:Int}:dv t b∣t∧dv t b∣b:=by
 have h1:((Int.gcd t b:Nat):Int)∣t:=Int.gcd_dvd_left ..;have h2:((Int.gcd t b:Nat):Int)∣b:=Ae ..;unfold dv;split
 · exact ⟨Int.neg_dvd.mpr h1,Int.neg_dvd.mpr h2⟩
 · exact ⟨h1,h2⟩
theorem parts {t b:Int} (h:b≠0):t=dv t b*fx t b∧b=dv t b*fy t b:=by
 obtain ⟨⟨x,hx⟩,⟨y,hy⟩⟩:=xx (t:=t) (b:=b);have n:=sQ (t:=t) h
 have e1:fx t b=x:=by
  unfold fx;generalize dv t b=d at*;rw [hx];exact Int.mul_fdiv_cancel_left _ n
 have e2:fy t b=y:=by
  unfold fy;generalize dv t b=d at*;rw [hy];exact Int.mul_fdiv_cancel_left _ n
 rw [e1,e2];exact ⟨hx,hy⟩
theorem xp {t b:Int} (h:b≠0):1≤fy t b:=by
 obtain ⟨_,e⟩:=parts (t:=t) h;have g:0 < Int.gcd t b:=zj t h;have n:=sQ (t:=t) h;by_cases q:1≤fy t b
 · exact q
 · exfalso;have q':fy t b≤0:=by omega
   have d:(b < 0→dv t b < 0)∧(¬b < 0→0 < dv t b):=by
    unfold dv;constructor
    · intro z;rw [if_pos z];omega
    · intro z;rw [if_neg z];omega
   by_cases z:b < 0
   · have:=Int.mul_nonneg_of_nonpos_of_nonpos (Int.le_of_lt (d.1 z)) q';omega
   · have:=Int.mul_nonpos_of_nonneg_of_nonpos (Int.le_of_lt (d.2 z)) q';omega
theorem wW {t b:Int} (h:b≠0):Int.gcd (fx t b) (fy t b)=1:=by
 obtain ⟨e1,e2⟩:=parts (t:=t) h;have g:0 < Int.gcd t b:=zj t h
 have e:Int.gcd t b=(dv t b).natAbs*Int.gcd (fx t b) (fy t b):=by
  have:Int.gcd t b=Int.gcd (dv t b*fx t b) (dv t b*fy t b):=by rw [←e1,←e2]
  rw [this,Int.gcd_mul_left]
 rw [xy] at e;have:=Nat.eq_of_mul_eq_mul_left g (show Int.gcd t b*1=Int.gcd t b*Int.gcd (fx t b) (fy t b) by rw [←e,Nat.mul_one])
 exact this.symm
def eg (x y:Int):Prop:=0 < y∧Int.gcd x y=1
theorem fi {x y z:Int} (h1:Int.gcd x y=1) (h2:Int.gcd x z=1):Int.gcd x (y*z)=1:=by
 show Nat.gcd x.natAbs (y*z).natAbs=1;rw [zr];exact Nat.Coprime.mul_right h1 h2
theorem ik {x y z:Int} (h1:Int.gcd y x=1) (h2:Int.gcd z x=1):Int.gcd (y*z) x=1:=by
 rw [zV];exact fi (by rw [zV];exact h1) (by rw [zV];exact h2)
theorem t5 {x x' y:Int} (h:Int.gcd (x'*x) y=1):Int.gcd x' y=1:=by
 have e:Nat.gcd (x'*x).natAbs y.natAbs=1:=h;rw [zr] at e;exact Nat.Coprime.coprime_mul_right e
theorem dl {x x' y:Int} (h:Int.gcd (x*x') y=1):Int.gcd x' y=1:=by
 rw [zU] at h;exact t5 h
theorem eI {x y y':Int} (h:Int.gcd x (y*y')=1):Int.gcd x y'=1:=by
 rw [zV] at h ⊢;exact dl h
theorem cZ {x y:Int} (h:y≠0):∃x' y':Int,x=(Int.gcd x y:Int)*x'∧y=(Int.gcd x y:Int)*y'∧Int.gcd x' y'=1∧x / (Int.gcd x y:Int)=x'∧y / (Int.gcd x y:Int)=y':=by
 have g:0 < Int.gcd x y:=zj x h;obtain ⟨x',hx⟩:((Int.gcd x y:Nat):Int)∣x:=Int.gcd_dvd_left ..;obtain ⟨y',hy⟩:((Int.gcd x y:Nat):Int)∣y:=Ae ..;have n:((Int.gcd x y:Nat):Int)≠0:=by omega
 refine ⟨x',y',hx,hy,?_,?_,?_⟩
 · have e:Int.gcd x y=Int.gcd x y*Int.gcd x' y':=by
    have:Int.gcd x y=Int.gcd ((Int.gcd x y:Int)*x') ((Int.gcd x y:Int)*y'):=by rw [←hx,←hy]
    rw [Int.gcd_mul_left,Int.natAbs_natCast] at this;exact this
   have:=Nat.eq_of_mul_eq_mul_left g (show Int.gcd x y*1=Int.gcd x y*Int.gcd x' y' by rw [←e,Nat.mul_one])
   exact this.symm
 · generalize ((Int.gcd x y:Nat):Int)=k at*;rw [hx];exact Int.mul_ediv_cancel_left _ n
 · generalize ((Int.gcd x y:Nat):Int)=k at*;rw [hy];exact Int.mul_ediv_cancel_left _ n
theorem cp {k x:Int} (hk:0≤k) (h:0 < k*x):0 < x:=by
 by_cases q:0 < x
 · exact q
 · have:=Int.mul_nonpos_of_nonneg_of_nonpos hk (show x≤0 by omega)
   omega
noncomputable def pT (a b c d:Int):Int:=a*(d / (Int.gcd b d:Int))+c*(b / (Int.gcd b d:Int))
noncomputable def pE (a b c d:Int):Int:=(Int.gcd (pT a b c d) (Int.gcd b d:Int):Int)
noncomputable def pX (a b c d:Int):Int:=pT a b c d / pE a b c d
noncomputable def pY (a b c d:Int):Int:=b / (Int.gcd b d:Int)*(d / pE a b c d)
theorem mV {a b c d:Int} (h1:eg a b) (h2:eg c d):eg (pX a b c d) (pY a b c d)∧pX a b c d*(b*d)=(a*d+c*b)*pY a b c d:=by
 obtain ⟨b0,g1⟩:=h1;obtain ⟨d0,g2⟩:=h2;obtain ⟨b',d',eb,ed,g3,qb,qd⟩:=cZ (x:=b) (y:=d) (by omega)
 have s0:(0:Int) < (Int.gcd b d:Int):=by
  have:0 < Int.gcd b d:=zj b (by omega)
  omega
 have eT:pT a b c d=a*d'+c*b':=by unfold pT;rw [qb,qd]
 unfold pX pY;have eE:pE a b c d=(Int.gcd (a*d'+c*b') (Int.gcd b d:Int):Int):=by unfold pE;rw [eT]
 rw [eE,eT,qb];generalize ((Int.gcd b d:Nat):Int)=s at*;obtain ⟨t',s',et,es,g4,qt,qs⟩:=cZ (x:=a*d'+c*b') (y:=s) (by omega)
 have e0:(0:Int) < (Int.gcd (a*d'+c*b') s:Int):=by
  have:0 < Int.gcd (a*d'+c*b') s:=zj _ (by omega)
  omega
 have b0':0 < b':=cp (k:=s) (by omega) (by omega)
 have d0':0 < d':=cp (k:=s) (by omega) (by omega)
 have cT1:Int.gcd (a*d'+c*b') b'=1:=by
  have:Int.gcd (a*d'+c*b') b'=Int.gcd (a*d') b':=by
   rw [zV,zV (a*d')];have e:a*d'+c*b'=a*d'+b'*c:=by rw [zU c b']
   rw [e];exact Int.gcd_add_mul_left_right ..
  rw [this];refine ik ?_ (by rw [zV];exact g3)
  rw [eb] at g1;exact eI g1
 have cT2:Int.gcd (a*d'+c*b') d'=1:=by
  have:Int.gcd (a*d'+c*b') d'=Int.gcd (c*b') d':=by
   rw [zV,zV (c*b')];have e:a*d'+c*b'=c*b'+d'*a:=by rw [zU a d',Int.add_comm]
   rw [e];exact Int.gcd_add_mul_left_right ..
  rw [this];refine ik ?_ g3;rw [ed] at g2;exact eI g2
 rw [qt];generalize ((Int.gcd (a*d'+c*b') s:Nat):Int)=e at*;have s0':0 < s':=cp (k:=e) (by omega) (by omega)
 have qd2:d / e=d'*s':=by
  rw [ed,es,Af,Int.mul_ediv_cancel_left _ (by omega),zU]
 rw [qd2];generalize ht:a*d'+c*b'=t at*;refine ⟨⟨Int.mul_pos b0' (Int.mul_pos d0' s0'),?_⟩,?_⟩
 · rw [et] at cT1 cT2;exact fi (dl cT1) (fi (dl cT2) g4)
 · have e1:a*d+c*b=s*t:=by
    rw [ed,eb,←ht,Int.mul_add];simp only [Al]
   rw [e1,et,eb,ed]
   have e2:s*(e*t')*(b'*(d'*s'))=s*t'*b'*d'*(e*s'):=by
    simp only [Af,Al,zU]
   rw [e2,←es];simp only [Af,Al,zU]
noncomputable def tX (a b c d:Int):Int:=a / (Int.gcd a d:Int)*(c / (Int.gcd c b:Int))
noncomputable def tY (a b c d:Int):Int:=b / (Int.gcd c b:Int)*(d / (Int.gcd a d:Int))
theorem jL {a b c d:Int} (h1:eg a b) (h2:eg c d):eg (tX a b c d) (tY a b c d)∧tX a b c d*(b*d)=a*c*tY a b c d:=by
 obtain ⟨b0,g1⟩:=h1;obtain ⟨d0,g2⟩:=h2;obtain ⟨a',d',ea,ed,g3,qa,qd⟩:=cZ (x:=a) (y:=d) (by omega)
 obtain ⟨c',b',ec,eb,g4,qc,qb⟩:=cZ (x:=c) (y:=b) (by omega)
 have f0:(0:Int)≤(Int.gcd a d:Int):=by omega
 have k0:(0:Int)≤(Int.gcd c b:Int):=by omega
 unfold tX tY;rw [qa,qd,qc,qb];generalize ((Int.gcd a d:Nat):Int)=f at*;generalize ((Int.gcd c b:Nat):Int)=k at*;have b0':0 < b':=cp k0 (by omega)
 have d0':0 < d':=cp f0 (by omega)
 subst ea ed ec eb;have h1:Int.gcd a' b'=1:=dl (eI g1);have h2:Int.gcd c' d'=1:=dl (eI g2);refine ⟨⟨Int.mul_pos b0' d0',ik (fi h1 g3) (fi g4 h2)⟩,?_⟩;simp only [Af,Al,zU]
theorem m3 {t b:Int} (h:b≠0):eg (fx t b) (fy t b):=⟨by have:=xp (t:=t) h;omega,wW h⟩
theorem im {c d:Int} (h:eg c d):eg (-c) d:=⟨h.1,by rw [zV,Int.gcd_neg,zV];exact h.2⟩
theorem cM (a b:Int):(a / b).natAbs≤a.natAbs:=Int.natAbs_ediv_le_natAbs a b
end Mth
namespace Dec
open PySem PySem.NumText L2 Mth
noncomputable def sl:Str:=Str.ofString "/"
open PySem PySem.NumText L2 Mth
noncomputable def sg (x:Int):List Nat:=if x < 0 then [45] else []
noncomputable def low (x y:Int):List Nat:=ds x.natAbs++(if y=1 then [] else 47::ds y.natAbs)
noncomputable def txt (x y:Int):List Nat:=sg x++low x y
end Dec
namespace Tk
open PySem PySem.Spec PyProof.Rows L2
inductive KT where
 |lf (k:Key)
 |tp (ts:List KT)
noncomputable instance:DecidableEq KT:=Classical.typeDecidableEq KT
mutual
noncomputable def KT.depth:KT→Nat
 | .lf _=>0
 | .tp ts=>KTs.depth ts+1
noncomputable def KTs.depth:List KT→Nat
 | []=>0
 |t::ts=>max (KT.depth t) (KTs.depth ts)
end
theorem eW:∀ {ts:List KT} {t:KT},t∈ts→t.depth≤KTs.depth ts
 |a::ts,t,h=>by
  unfold KTs.depth;rcases yV.mp h with rfl|h
  · omega
  · have:=eW h;omega
mutual
def KAt (h:Heap):Value→KT→Prop
 |v, .lf k=>g9 k v=true
 |v, .tp ts=>∃a o items n,v= .ref a∧h.get? a=some o∧o.cls= .type "tuple"∧o.data= .seq items n∧KsAt h items.toList ts
def KsAt (h:Heap):List Value→List KT→Prop
 |vs,[]=>vs= []
 |vs,t::ts=>∃v r,vs=v::r∧KAt h v t∧KsAt h r ts
end
mutual
theorem KAt.keep {h h':Heap} (k:∀a o items n,h.get? a=some o→o.data= .seq items n→h'.get? a=some o):∀ {v:Value} {t:KT},KAt h v t→KAt h' v t
 |v, .lf k,x=>by unfold KAt at x ⊢;exact x
 |v, .tp ts,x=>by
  unfold KAt at x ⊢;obtain ⟨a,o,items,n,e,g,c,d,r⟩:=x;exact ⟨a,o,items,n,e,k a o items n g d,c,d,KsAt.keep k r⟩
theorem KsAt.keep {h h':Heap} (k:∀a o items n,h.get? a=some o→o.data= .seq items n→h'.get? a=some o):∀ {vs:List Value} {ts:List KT},KsAt h vs ts→KsAt h' vs ts
 |vs,[],x=>by unfold KsAt at x ⊢;exact x
 |vs,t::ts,x=>by
  unfold KsAt at x ⊢;obtain ⟨v,r,e,x1,x2⟩:=x;exact ⟨v,r,e,KAt.keep k x1,KsAt.keep k x2⟩
end
mutual
theorem KAt.det {h:Heap}:∀ {v:Value} {t u:KT},KAt h v t→KAt h v u→t=u
 |v, .lf k, .lf j,x,y=>by
  unfold KAt at x y;rcases aH x with ⟨i,t,rfl,rfl⟩|⟨x',t,rfl,rfl⟩
  · rcases aH y with ⟨i',t',rfl,e⟩|⟨y',t',rfl,e⟩
    · injection e with e1 _;rw [e1]
    · cases e
  · rcases aH y with ⟨i',t',rfl,e⟩|⟨y',t',rfl,e⟩
    · cases e
    · injection e with e1 _;rw [e1]
 |v, .lf k, .tp us,x,y=>by
  unfold KAt at x y;obtain ⟨a,o,items,n,rfl,_⟩:=y;rcases aH x with ⟨i,t,rfl,e⟩|⟨x',t,rfl,e⟩<;>cases e
 |v, .tp ts, .lf k,x,y=>by
  unfold KAt at x y;obtain ⟨a,o,items,n,rfl,_⟩:=x;rcases aH y with ⟨i,t,rfl,e⟩|⟨x',t,rfl,e⟩<;>cases e
 |v, .tp ts, .tp us,x,y=>by
  unfold KAt at x y;obtain ⟨a,o,items,n,rfl,g,c,d,r⟩:=x;obtain ⟨a',o',items',n',e,g',c',d',r'⟩:=y;injection e with e;subst e;rw [g] at g';cases g';rw [d] at d';injection d' with d1 _;subst d1;rw [KsAt.det r r']
theorem KsAt.det {h:Heap}:∀ {vs:List Value} {ts us:List KT},KsAt h vs ts→KsAt h vs us→ts=us
 |vs,[],[],_,_=>rfl
 |vs,[],u::us,x,y=>by
  unfold KsAt at x y;obtain ⟨v,r,e,_⟩:=y;rw [x] at e;cases e
 |vs,t::ts,[],x,y=>by
  unfold KsAt at x y;obtain ⟨v,r,e,_⟩:=x;rw [y] at e;cases e
 |vs,t::ts,u::us,x,y=>by
  unfold KsAt at x y;obtain ⟨v,r,rfl,x1,x2⟩:=x;obtain ⟨v',r',e,y1,y2⟩:=y;cases e;rw [KAt.det x1 y1,KsAt.det x2 y2]
end
theorem KsAt.len {h:Heap}:∀ {vs:List Value} {ts:List KT},KsAt h vs ts→vs.length=ts.length
 |vs,[],x=>by unfold KsAt at x;rw [x];rfl
 |vs,t::ts,x=>by
  unfold KsAt at x;obtain ⟨v,r,rfl,_,x2⟩:=x;rw [za,za,KsAt.len x2]
theorem KsAt.get {h:Heap}:∀ {vs:List Value} {ts:List KT} {j:Nat} {v:Value},KsAt h vs ts→vs[j]?=some v→∃t,ts[j]?=some t∧KAt h v t
 |vs,[],j,v,x,e=>by
  unfold KsAt at x;rw [x] at e;cases e
 |vs,t::ts,0,v,x,e=>by
  unfold KsAt at x;obtain ⟨v',r,rfl,x1,_⟩:=x;cases e;exact ⟨t,rfl,x1⟩
 |vs,t::ts,j+1,v,x,e=>by
  unfold KsAt at x;obtain ⟨v',r,rfl,_,x2⟩:=x;exact KsAt.get (j:=j) x2 e
section
variable (prog:Program) (w:World)
mutual
noncomputable def KT.hash:KT→Int
 | .lf k=>(aM prog w).hash k
 | .tp ts=>reduceHash (Builtin.Tuple.tupleHashOf (KTs.hash ts))
noncomputable def KTs.hash:List KT→List Int
 | []=> []
 |t::ts=>KT.hash t::KTs.hash ts
end
end
mutual
noncomputable def KT.draws:KT→Nat
 | .lf _=>1
 | .tp ts=>KTs.draws ts+1
noncomputable def KTs.draws:List KT→Nat
 | []=>0
 |t::ts=>KT.draws t+KTs.draws ts
end
theorem kc (prog:Program) (w:World):∀(a b:List KT),KTs.hash prog w (a++b)=KTs.hash prog w a++KTs.hash prog w b
 | [],b=>by simp [KTs.hash]
 |t::a,b=>by simp [KTs.hash,kc prog w a b]
theorem iM:∀(a b:List KT),KTs.draws (a++b)=KTs.draws a+KTs.draws b
 | [],b=>by simp [KTs.draws]
 |t::a,b=>by simp [KTs.draws,iM a b,Nat.add_assoc]
section
variable {prog:Program} {w:World}
theorem uG:∀(n:Nat) {A:Around} {E:Value→Shared→Prop} {s:Shared} {t:KT} {v:Value} {Q:Int→Shared→Prop},t.depth≤n→A.units+n < cLine→KAt s.heap v t→Q (t.hash prog w) {s with toks:=s.toks+t.draws}→wpAny (model prog w) A (pyHash v) Q E s:=by
 intro n
 induction n with
 |zero=>
  intro A E s t v Q hd hu hk h
  cases t with
  |tp ts=>simp [KT.depth] at hd
  |lf k=>
   unfold KAt at hk;simp only [KT.hash,KT.draws] at h;exact (aM prog w).pyHash hk h
 |succ n ih=>
  intro A E s t v Q hd hu hk h
  cases t with
  |lf k=>
   unfold KAt at hk;simp only [KT.hash,KT.draws] at h;exact (aM prog w).pyHash hk h
  |tp ts=>
   unfold KAt at hk;refine hZq fun q_ e_=> ?_;obtain ⟨a,o,items,m,rfl,g,c,d,r⟩:=hk;subst e_;have ty:s.TypeIs (.ref a) "tuple":=⟨o,g,c⟩
   have hd':KTs.depth ts≤n:=by
    unfold KT.depth at hd;omega
   simp only [KT.hash,KT.draws] at h;unfold pyHash;unfold pyHashByItsType;refine wpAny_bind (wpAny_cRoomFor_or (.inr (by omega)) (wpAny_bind (wpAny_specialOf ty F.slot_tuple_hash.lookup ?_)))
   show wpAny _ _ (if (some (Value.builtin "tuple.__hash__")==some Value.none)=true then _ else _) _ _ _;rw [if_neg (fun z=>by rw [beq_builtin_none] at z;cases z)]
   refine wpAny_bind (wpAny_specialOf ty F.slot_tuple_hash.lookup ?_);show wpAny _ _ (do let y←callSpecialIfBoundUnlessNone? (.ref a) "__hash__" _;_) _ _ _
   refine wpAny_bind (wpAny_callSpecialIfBoundUnlessNone?_slot ty F.slot_tuple_hash (wpAny_call_entry F.slot_tuple_hash ty F.entry_tuple_hash ?_ (F.args_tuple_hash_1 _)));show wpAny _ _ (do let y←Builtin.Tuple.tupleItemsOf (.ref a);_) _ _ _
   refine wpAny_bind (wpAny_tupleItemsOf g d (wpAny_bind ?_));rw [←Array.forIn_toList];refine wpAny_forIn_list _ (fun rest (b:Array Int) s'=>∃done left,ts=done++left∧KsAt s.heap rest left∧b.toList=KTs.hash prog w done∧s'= {s with toks:=s.toks+KTs.draws done}) _ ?_ ?_ _ _ ⟨[],ts,rfl,r,rfl,by simp [KTs.draws]⟩
   · rintro x rest b s' ⟨done,left,rfl,hl,hb,rfl⟩
     cases left with
     |nil=>
      unfold KsAt at hl;cases hl
     |cons t left=>
      unfold KsAt at hl;refine hZq fun q_ e_=> ?_;obtain ⟨v,rr,e,h1,h2⟩:=hl;subst e_;cases e
      have dt:t.depth≤n:=by
       have:=eW (show t∈done++t::left by simp)
       omega
      refine wpAny_bind (ih (s:= {s with toks:=s.toks+KTs.draws done}) dt (by first|(show A.units+1+n < cLine;omega)|(show A.units+n < cLine;omega)) h1 ?_)
      have fin:∃done' left',done++t::left=done'++left'∧KsAt s.heap rest left'∧(b.push (KT.hash prog w t)).toList=KTs.hash prog w done'∧({s with toks:=s.toks+KTs.draws done+t.draws}:Shared)= {s with toks:=s.toks+KTs.draws done'}:=by
       refine ⟨done++ [t],left,by simp,h2,by rw [kc,Array.toList_push,hb];simp [KTs.hash],?_⟩
       rw [iM];simp [KTs.draws,Nat.add_assoc]
      first
       |exact wpAny_pure fin
       |exact wpAny_bind (wpAny_pure (wpAny_pure fin))
   · rintro b s' ⟨done,left,rfl,hl,hb,rfl⟩
     cases left with
     |cons t left=>
      unfold KsAt at hl;refine hZq fun q_ e_=> ?_;obtain ⟨v,rr,e,_⟩:=hl;subst e_;cases e
     |nil=>
      rw [List.append_nil] at h;show wpAny _ _ (retInt (Builtin.Tuple.tupleHashOf b.toList)) _ _ _;rw [hb];refine wpAny_ret_mkInt ?_;show wpAny _ _ (if (decide (-(2:Int)^63≤Builtin.Tuple.tupleHashOf (KTs.hash prog w done))&&decide (Builtin.Tuple.tupleHashOf (KTs.hash prog w done) < 2^63))=true then _ else _) _ _ _;unfold reduceHash at h;by_cases hr:(decide (-(2:Int)^63≤Builtin.Tuple.tupleHashOf (KTs.hash prog w done))&&decide (Builtin.Tuple.tupleHashOf (KTs.hash prog w done) < 2^63))=true
      · rw [if_pos hr] at h ⊢;exact wpAny_pure (by simpa [Nat.add_assoc] using h)
      · rw [if_neg hr] at h ⊢;exact wpAny_bind (wpAny_rule (wpAny_pure (by simpa [Nat.add_assoc] using h)))
end
open PySem PySem.Spec PyProof.Rows L2
theorem uP {ts us:List KT}:((List.range (min ts.length us.length)).all (fun j=>decide (ts[j]?=us[j]?))&&ts.length==us.length)=decide (ts=us):=by
 by_cases h:ts=us
 · subst h;simp
 · rw [decide_eq_false h];by_cases hl:ts.length=us.length
   · have:∃j,j < ts.length∧ts[j]?≠us[j]?:=by
      refine Classical.byContradiction fun n=>h (List.ext_getElem? fun j=> ?_);by_cases hj:j < ts.length
      · exact Classical.byContradiction fun z=>n ⟨j,hj,z⟩
      · rw [A8 (by omega),A8 (by omega)]
     obtain ⟨j,hj,ne⟩:=this;rw [Bool.and_eq_false_iff];left;refine List.all_eq_false.mpr ⟨j,zH.mpr (by omega),?_⟩
     simp [ne]
   · rw [Bool.and_eq_false_iff];right;simp [hl]
theorem yI:∀(n:Nat) {A:Around} {s:Shared} {t u:KT} {a b:Value},t.depth≤n→A.units+n+1 < cLine→KAt s.heap a t→KAt s.heap b u→SeqAt.EqAt A s a b (decide (t=u)):=by
 intro n
 induction n with
 |zero=>
  intro A s t u a b hd hu h1 h2
  cases t with
  |tp ts=>simp [KT.depth] at hd
  |lf k=>
   unfold KAt at h1
   cases u with
   |lf j=>
    unfold KAt at h2;intro prog w E Q q;refine (aM prog w).eqBool h1 h2 ?_;have e:decide (k=j)=decide (KT.lf k=KT.lf j):=by simp
    rw [e];exact q
   |tp us=>
    unfold KAt at h2;refine hZq fun q_ e_=> ?_;obtain ⟨r,o,items,m,rfl,g,c,d,_⟩:=h2;subst e_;rw [decide_eq_false (by intro z;cases z)]
    rcases aH h1 with ⟨i,t,rfl,rfl⟩|⟨x,t,rfl,rfl⟩
    · exact SeqAt.EqAt.int_tuple i t (items:=items) ⟨o,g,c,m,d⟩ (by omega)
    · exact SeqAt.EqAt.str_tuple x t (items:=items) ⟨o,g,c,m,d⟩ (by omega)
 |succ n ih=>
  intro A s t u a b hd hu h1 h2
  cases t with
  |lf k=>
   unfold KAt at h1
   cases u with
   |lf j=>
    unfold KAt at h2;intro prog w E Q q;refine (aM prog w).eqBool h1 h2 ?_;have e:decide (k=j)=decide (KT.lf k=KT.lf j):=by simp
    rw [e];exact q
   |tp us=>
    unfold KAt at h2;refine hZq fun q_ e_=> ?_;obtain ⟨r,o,items,m,rfl,g,c,d,_⟩:=h2;subst e_;rw [decide_eq_false (by intro z;cases z)]
    rcases aH h1 with ⟨i,t,rfl,rfl⟩|⟨x,t,rfl,rfl⟩
    · exact SeqAt.EqAt.int_tuple i t (items:=items) ⟨o,g,c,m,d⟩ (by omega)
    · exact SeqAt.EqAt.str_tuple x t (items:=items) ⟨o,g,c,m,d⟩ (by omega)
  |tp ts=>
   have h1':=h1;have h2':=h2;unfold KAt at h1;refine hZq fun q_ e_=> ?_;obtain ⟨r,o,items,m,rfl,g,c,d,k1⟩:=h1;subst e_
   cases u with
   |lf j=>
    unfold KAt at h2;rw [decide_eq_false (by intro z;cases z)]
    rcases aH h2 with ⟨i,t,rfl,rfl⟩|⟨x,t,rfl,rfl⟩
    · exact SeqAt.EqAt.tuple_int i t (items:=items) ⟨o,g,c,m,d⟩ (by omega)
    · exact SeqAt.EqAt.tuple_str x t (items:=items) ⟨o,g,c,m,d⟩ (by omega)
   |tp us=>
    unfold KAt at h2;refine hZq fun q_ e_=> ?_;obtain ⟨r',o',items',m',rfl,g',c',d',k2⟩:=h2;subst e_;by_cases z:r=r'
    · subst z;rw [decide_eq_true (KAt.det h1' h2')];exact SeqAt.EqAt.same _
    · have hd':KTs.depth ts≤n:=by
       unfold KT.depth at hd;omega
      have l1:=k1.len;have l2:=k2.len
      have:=SeqAt.RcAt.tuples (A:=A) (e:=fun j=>decide (ts[j]?=us[j]?)) (show s.heap.IsTuple r items from ⟨o,g,c,m,d⟩) (show s.heap.IsTuple r' items' from ⟨o',g',c',m',d'⟩) (by omega) fun j g1 g2=>by
       obtain ⟨t1,e1,a1⟩:=k1.get (j:=j) (v:=items[j]) (by rw [zx];simp [g1])
       obtain ⟨t2,e2,a2⟩:=k2.get (j:=j) (v:=items'[j]) (by rw [zx];simp [g2])
       have e:decide (ts[j]?=us[j]?)=decide (t1=t2):=by rw [e1,e2];simp
       rw [e];refine ih (A:=A.in1) ?_ (by show A.units+1+n+1 < cLine;omega) a1 a2
       have:=eW (yT e1);omega
      have hs1:items.size=ts.length:=by rw [←l1,zq]
      have hs2:items'.size=us.length:=by rw [←l2,zq]
      rw [hs1,hs2,uP] at this;have e:decide (KT.tp ts=KT.tp us)=decide (ts=us):=by simp
      rw [e];exact SeqAt.EqAt.of_refs z this
theorem qW:∀(n:Nat) {prog:Program} {w:World} {A:Around} {E:Value→Shared→Prop} {s:Shared} {t:KT} {v:Value} {Q:Bool→Shared→Prop},KAt s.heap v t→t.depth≤n→Q true s→wpAny (model prog w) A (eqIsQuiet n v) Q E s:=by
 have leaf:∀(n:Nat) {prog:Program} {w:World} {A:Around} {E:Value→Shared→Prop} {s:Shared} {k:Key} {v:Value} {Q:Bool→Shared→Prop},g9 k v=true→Q true s→wpAny (model prog w) A (eqIsQuiet n v) Q E s:=by
  intro n prog w A E s k v Q h q;rw [eqIsQuiet_byValue _ ((aM prog w).byValue k v h)];exact wpAny_pure q
 intro n
 induction n with
 |zero=>
  intro prog w A E s t v Q h hd q
  cases t with
  |tp ts=>simp [KT.depth] at hd
  |lf k=>
   unfold KAt at h;exact leaf 0 h q
 |succ n ih=>
  intro prog w A E s t v Q h hd q
  cases t with
  |lf k=>
   unfold KAt at h;exact leaf _ h q
  |tp ts=>
   unfold KAt at h;obtain ⟨a,o,items,m,rfl,g,c,d,r⟩:=h;have ty:s.TypeIs (.ref a) "tuple":=⟨o,g,c⟩
   have hd':KTs.depth ts≤n:=by
    unfold KT.depth at hd;omega
   unfold eqIsQuiet;refine wpAny_bind (wpAny_specialOf ty F.slot_tuple_eq.lookup ?_);show wpAny _ _ (do let y←isInstance (.ref a) (.type "tuple");_) _ _ _
   refine wpAny_bind (wpAny_isInstance ty isSubtype_tuple_tuple ?_);simp only [Bool.not_true,if_false,Bool.false_eq_true];refine wpAny_bind (wpAny_seqItems g d (wpAny_bind ?_));show wpAny _ _ (forIn items _ _) _ _ _;rw [←Array.forIn_toList];refine wpAny_forIn_list _ (fun rest b s'=>b.1=none∧s'=s∧∃left,KsAt s.heap rest left∧KTs.depth left≤n) _ ?_ ?_ _ _ ⟨rfl,rfl,ts,r,hd'⟩
   · rintro x rest b s' ⟨hb,rfl,left,hl,hd2⟩
     cases left with
     |nil=>
      unfold KsAt at hl;cases hl
     |cons t left=>
      unfold KsAt at hl;obtain ⟨v,rr,e,h1,h2⟩:=hl;cases e;unfold KTs.depth at hd2;refine wpAny_bind (ih h1 (by omega) ?_)
      simp only [Bool.not_true,if_false,Bool.false_eq_true];exact wpAny_pure ⟨rfl,rfl,left,h2,by omega⟩
   · rintro ⟨b1,b2⟩ s' ⟨hb,rfl,_⟩;simp only at hb;subst hb;exact wpAny_pure q
noncomputable def treeKind (prog:Program) (w:World):HeapKind prog w (List KT) where
 is:=fun h ts a=>KAt h (.ref a) (.tp ts)∧(KT.tp ts).depth≤8
 hash:=fun ts=>(KT.tp ts).hash prog w
 draws:=fun ts=>(KT.tp ts).draws
 room:=fun A=>A.units+20 < cLine
 inj:=fun x y=>by
  have:=KAt.det x.1 y.1;injection this
 keeps:=fun {h h' k a d o es ep} x g hd sb=>⟨x.1.keep fun b ob items n e dt=>by
  have ne:b≠d:=fun z=>by
   subst z;rw [g] at e;cases e;rw [hd] at dt;cases dt
  exact (sb.2 b ne).trans e,x.2⟩
 pyHash:=fun hu x q=>uG 8 x.2 (by omega) x.1 q
 eqBool:=fun {A E s x y a b Q} hu hx hy q=>by
  refine yI 8 (t:= .tp x) (u:= .tp y) hx.2 (by omega) hx.1 hy.1 prog w E Q ?_
  have e:decide (KT.tp x=KT.tp y)=decide (x=y):=by simp
  rw [e];exact q
 quiet:=fun x q=>qW 8 x.1 x.2 q
end Tk
namespace L2
section
open PySem
variable {prog:Program} {w:World} {A:Around} {R:Result→Shared→Prop} {s:Shared}
theorem io {elt target iter:Expr} {ifs:List Expr} {scope:Scope} {pos:Pos} {it acc:Value} {env:Env} (I:Nat→Shared→Prop)
 (turn:∀n s,I n s→wpAny (model prog w) A (pyNext it) (fun r s₁=>match r with
  |none=>R (.ok .next) s₁
  |some v=>wpAny (model prog w) A (letOwnedTupleGo target it v) (fun _ s₁'=>wpAny (model prog w) A (assign target env v) (fun _ s₂=>
   wpAny (model prog w) A (forIn ifs true fun c r=>if r=true then do let ok←isTrue c env (eval c env);pure (ForInStep.yield ok) else pure (ForInStep.yield r)) (fun ok s₃=>
    if ok=true then wpAny (model prog w) A (eval elt env) (fun x s₄=>
     wpAny (model prog w) A (call (.builtin "list.append") [acc,x]) (fun _ s₅=>∃m,m < n∧I m s₅) (fun _ _=>False) s₄) (fun _ _=>False) s₃
    else∃m,m < n∧I m s₃) (fun _ _=>False) s₂) (fun _ _=>False) s₁') (fun _ _=>False) s₁) (fun _ _=>False) s)
 (n:Nat) (h:I n s):codeAny (model prog w) A (.compLoop (.ListComp elt [⟨target,iter,ifs,0⟩] scope pos) 0 it acc env) R s:=by
 refine codeAny_loop rfl I (fun n s hI=> ?_) n h;show wpAny _ A ((compTurn (.ListComp elt [⟨target,iter,ifs,0⟩] scope pos) 0 it acc env).onRaise (fun x=>do noteFrame x env;theTreesLotGoes x)) _ _ s
 refine wpAny_noted ?_;rw [compTurn_list];refine wpAny_bind (wpAny_standAt (wpAny_bind (wpAny_mono (turn n s hI) (fun r s₁ h₁=> ?_) fun _ _ z=>z.elim)))
 cases r with
 |none=>exact wpAny_pure h₁
 |some v=>
  refine wpAny_bind (wpAny_mono h₁ (fun _ s₁' h₁'=> ?_) fun _ _ z=>z.elim);refine wpAny_bind (wpAny_mono h₁' (fun _ s₂ h₂=>wpAny_bind (wpAny_mono h₂ (fun ok s₃ h₃=> ?_) fun _ _ z=>z.elim)) fun _ _ z=>z.elim)
  cases ok with
  |false=>exact wpAny_pure ⟨rfl,h₃⟩
  |true=>
   exact wpAny_bind (wpAny_bind (wpAny_mono h₃ (fun x s₄ h₄=>wpAny_bind (wpAny_mono h₄ (fun _ s₅ h₅=>wpAny_pure (wpAny_pure ⟨rfl,h₅⟩)) fun _ _ z=>z.elim)) fun _ _ z=>z.elim))
noncomputable def cr (names:List (Str×NameKind)) (cells:List (Str×Addr)):List (Str×Addr)→List (Str×Addr):=match names with
 | []=>fun cs=>cs
 |(n,k)::r=>fun cs=>cr r cells (if (k== .free)=true then (n,(cells.lookup n).getD 0)::cs else cs)
noncomputable def c5 (names:List (Str×NameKind)) (cells:List (Str×Addr)):Bool:=names.all fun y=> !(y.2== .free) ||(cells.lookup y.1).isSome
theorem jF (env:Env):∀(names:List (Str×NameKind)) (cs:List (Str×Addr)),c5 names env.cells=true→
 (forIn names cs fun (x:Str×NameKind) (r:List (Str×Addr))=>match x with
  |(name,kind)=>if (kind==NameKind.free)=true then do let __do_lift←cellOf env name;pure (ForInStep.yield ((name,__do_lift)::r)) else pure (ForInStep.yield r):Sem (List (Str×Addr)))=pure (cr names env.cells cs)
 | [],cs,_=>rfl
 |(n,k)::r,cs,h=>by
  unfold c5 at h;rw [List.all_cons,A7] at h;rw [List.forIn_cons];unfold cr;by_cases hk:(k==NameKind.free)=true
  · rw [if_pos hk];dsimp only;rw [if_pos hk]
    have h1:(env.cells.lookup n).isSome=true:=by
     have:=h.1;rw [hk] at this;simpa using this
    obtain ⟨c,hc⟩:=Option.isSome_iff_exists.mp h1;have e:cellOf env n=pure c:=by unfold cellOf;rw [hc]
    rw [e,hc];exact jF env r _ h.2
  · rw [if_neg hk];dsimp only;rw [if_neg hk];exact jF env r _ h.2
theorem gM {scope:Scope} {env:Env} (h:c5 scope.names env.cells=true):closureFor scope env=pure (cr scope.names env.cells []):=by
 unfold closureFor;have:=jF env scope.names [] h;simp only [bind_pure];exact this
theorem kK {cells:List (Str×Addr)}:∀(names:List (Str×NameKind)) (cs:List (Str×Addr)),c5 names cells=true→(∀y c,cs.lookup y=some c→cells.lookup y=some c)→∀y c,(cr names cells cs).lookup y=some c→cells.lookup y=some c
 | [],cs,_,hc,y,c,e=>hc y c e
 |(n,k)::r,cs,h,hc,y,c,e=>by
  unfold c5 at h;rw [List.all_cons,A7] at h;refine kK r _ h.2 (fun z d q=> ?_) y c e;by_cases hk:(k==NameKind.free)=true
  · rw [if_pos hk,zL] at q
    cases zn:(z==n) with
    |true=>
     rw [zn] at q
     have h1:(cells.lookup n).isSome=true:=by
      have:=h.1;rw [hk] at this;simpa using this
     obtain ⟨c',hc'⟩:=Option.isSome_iff_exists.mp h1;have zn':z=n:=by simpa using zn
     rw [zn',hc'];have q':some ((cells.lookup n).getD 0)=some d:=q;rw [hc'] at q';exact q'
    |false=>
     rw [zn] at q;exact hc z d q
  · rw [if_neg hk] at q;exact hc z d q
theorem iP {cells:List (Str×Addr)}:∀(names:List (Str×NameKind)) (cs:List (Str×Addr)) (y:Str),(∃c,cs.lookup y=some c)→∃c,(cr names cells cs).lookup y=some c
 | [],cs,y,h=>h
 |(n,k)::r,cs,y,h=>by
  refine iP r _ y ?_;by_cases hk:(k==NameKind.free)=true
  · rw [if_pos hk,zL]
    cases zn:(y==n) with
    |true=>exact ⟨_,rfl⟩
    |false=>exact h
  · rw [if_neg hk];exact h
theorem iq {cells:List (Str×Addr)}:∀(names:List (Str×NameKind)) (cs:List (Str×Addr)) (y:Str),(y,NameKind.free)∈names→∃c,(cr names cells cs).lookup y=some c
 | [],_,y,h=>by cases h
 |(n,k)::r,cs,y,h=>by
  rcases yV.mp h with e|h
  · obtain ⟨e1,e2⟩:=Prod.mk.inj e;subst e1;subst e2;unfold cr;refine iP r _ y ?_;rw [if_pos (show (NameKind.free==NameKind.free)=true from rfl),zL];have:(y==y)=true:=by simp
    rw [this];exact ⟨_,rfl⟩
  · exact iq r _ y h
end
open PySem PySem.Spec PyProof.Rows
noncomputable abbrev XC (X:Cx) (scope:Scope) (NC:List Str) (C:Addr) (s:Shared) (H:Hp) (fp:List Addr) (pn:List (Addr×Obj)):Cx:=
 {X with N:=NC,s₀:=s,H₀:=H,env:=compEnvC scope (cr scope.names X.env.cells []) C X.env,outer:=X.stack,stack:=X.stack,ex:=fp,fn:=fun _=>false,pn:=pn,xe:=fun _ _=>False}
noncomputable def subS (mp:List (Option Nat)) (σ:St):St:=mp.map fun o=>match o with
 |some i=>(σ[i]?).getD none
 |none=>none
noncomputable def i8 (N NC:List Str) (mp:List (Option Nat)) (names outer:List (Str×NameKind)):Bool:=(List.range mp.length).all fun j=>match mp[j]? with
 |some (some i)=>(match NC[j]?,N[i]? with
  |some y,some z=>y==z&&names.lookup y==some NameKind.free&& (outer.lookup y==some NameKind.cell ||outer.lookup y==some NameKind.free)
  |_,_=>false)
 |_=>true
theorem rS {N NC:List Str} {mp:List (Option Nat)} {names outer:List (Str×NameKind)} (h:i8 N NC mp names outer=true) {j i:Nat} (e:mp[j]?=some (some i)):∃y,NC[j]?=some y∧N[i]?=some y∧names.lookup y=some .free∧(outer.lookup y=some .cell∨outer.lookup y=some .free):=by
 unfold i8 at h;rw [List.all_eq_true] at h;have hj:j < mp.length:=(yW.mp e).1;have:=h j (zH.mpr hj);rw [e] at this;dsimp only at this;split at this
 · rename_i y z e1 e2;simp only [A7,Bool.or_eq_true,beq_iff_eq] at this;obtain ⟨⟨rfl,h2⟩,h3⟩:=this;exact ⟨y,e1,e2,h2,h3⟩
 · cases this
def PTs (X:Cx) (ifs:List Expr) (t:TT):Prop:=
 ∀(pins:List (Addr×Obj)) (s:Shared) (σ:St) (H:Hp) (Q:Bool→Hp→Prop),Inv X pins σ H s→t σ H Q→
  wpAny (model X.prog X.w) X.A (forIn ifs true fun c r=>if r=true then do let ok←isTrue c X.env (eval c X.env);pure (ForInStep.yield ok) else pure (ForInStep.yield r)) (TP X pins σ Q) X.xe s
def cJ:TT:=fun _ H Q=>Q true H
theorem aN {X:Cx}:PTs X [] cJ:=fun _ _ σ H Q I h=>wpAny_tests_nil ⟨H,I,h⟩
theorem cK {X:Cx} {c:Expr} {t:TT} (hc:PT X c t):PTs X [c] t:=fun pins s σ H Q I h=>wpAny_tests_one (hc pins s σ H Q I h)
def Ext (σ σ':St):Prop:=∀(j:Nat) (v:V),σ[j]?=some (some v)→σ'[j]?=some (some v)
theorem Ext.refl (σ:St):Ext σ σ:=fun _ _ e=>e
theorem ext1 {o:Option V} {r:St}:Ext (none::r) (o::r)
 |0,v,e=>by cases (zb (show some (none:Option V)=some (some v) from e))
 |j+1,v,e=>e
theorem ext2 {o p:Option V} {r:St}:Ext (none::none::r) (o::p::r)
 |0,v,e=>by cases (zb (show some (none:Option V)=some (some v) from e))
 |1,v,e=>by cases (zb (show some (none:Option V)=some (some v) from e))
 |j+2,v,e=>e
def cz (mp:List (Option Nat)) (wi:TI) (g:TG) (tc:TT) (te:TE):TE:=fun σ H Q=>wi σ H fun J H1=>∀D,H1 D=none→
 ∃W:Nat→Nat→List V→Hp→Prop,(∃m,W 0 m [] (upd H1 D (.lst [])))∧∀i m acc H2,W i m acc H2→
  (J.stop i H2∧Q (.ref D) H2)∨
  (J.go i H2∧∀x H3,J.yld i H2 x H3→g x (subS mp σ) H3 fun σ4 H4=>Ext (subS mp σ) σ4∧tc σ4 H4 fun b H5=>if b=true then te σ4 H5 fun v H6=>H6 D=some (.lst acc)∧acc.length < sizeLine∧∃m',m' < m∧W (i+1) m' (acc++ [v]) (upd H6 D (.lst (acc++ [v])))
   else∃m',m' < m∧W (i+1) m' acc H5)
open PySem PySem.Spec PyProof.Rows
theorem cH {env:Env}:∀ {names:List (Str×NameKind)} {x:Str},names.lookup x=some .free→
 (names.map fun (n,k)=>if (k==NameKind.free&&env.scope.kind== .function&&env.kindOf n==some .cell) then (n,NameKind.cell) else (n,k)).lookup x=some .cell∨
 (names.map fun (n,k)=>if (k==NameKind.free&&env.scope.kind== .function&&env.kindOf n==some .cell) then (n,NameKind.cell) else (n,k)).lookup x=some .free
 | [],_,h=>by simp at h
 |(n,k)::r,x,h=>by
  have ih:= @cH env r x;show List.lookup x ((if (k==NameKind.free&&env.scope.kind== .function&&env.kindOf n==some .cell)=true then (n,NameKind.cell) else (n,k))::_)=_∨List.lookup x ((if (k==NameKind.free&&env.scope.kind== .function&&env.kindOf n==some .cell)=true then (n,NameKind.cell) else (n,k))::_)=_
  cases hx:x==n with
  |true=>
   simp only [zL,hx] at h;cases h;by_cases hc:(NameKind.free==NameKind.free&&env.scope.kind== .function&&env.kindOf n==some .cell)=true
   · rw [if_pos hc];left;simp only [zL,hx]
   · rw [if_neg hc];right;simp only [zL,hx]
  |false=>
   simp only [zL,hx] at h;by_cases hc:(k==NameKind.free&&env.scope.kind== .function&&env.kindOf n==some .cell)=true
   · rw [if_pos hc];simp only [zL,hx];exact ih h
   · rw [if_neg hc];simp only [zL,hx];exact ih h
theorem fU {env:Env}:∀ {names:List (Str×NameKind)} {x:Str},(∀y∈names,y.2≠ .cell)→
 ((names.map fun (n,k)=>if (k==NameKind.free&&env.scope.kind== .function&&env.kindOf n==some .cell) then (n,NameKind.cell) else (n,k)).lookup x=some .cell∨
 (names.map fun (n,k)=>if (k==NameKind.free&&env.scope.kind== .function&&env.kindOf n==some .cell) then (n,NameKind.cell) else (n,k)).lookup x=some .free)→(x,NameKind.free)∈names
 | [],_,_,h=>by simp at h
 |(n,k)::r,x,hn,h=>by
  have ih:= @fU env r x (fun y hy=>hn y (yR _ hy));have nk:k≠ .cell:=hn (n,k) yO;rw [zc] at h;dsimp only at h
  cases hx:x==n with
  |true=>
   have xn:x=n:=by simpa using hx
   subst xn;by_cases hc:(k==NameKind.free&&env.scope.kind== .function&&env.kindOf x==some .cell)=true
   · have:k= .free:=by
      have:=hc;rw [A7,A7] at this;simpa using this.1.1
     rw [this];exact yO
   · rw [if_neg hc,zL,hx] at h;rcases h with h|h
     · exact absurd (zb h) nk
     · cases (zb h);exact yO
  |false=>
   refine yR _ (ih ?_);by_cases hc:(k==NameKind.free&&env.scope.kind== .function&&env.kindOf n==some .cell)=true
   · rw [if_pos hc,zL,hx] at h;exact h
   · rw [if_neg hc,zL,hx] at h;exact h
section
variable {X:Cx} {pins:List (Addr×Obj)} {σ:St} {H:Hp} {s:Shared}
theorem Inv.block {scope:Scope} {NC:List Str} {mp:List (Option Nat)} {fp:List Addr} {h1:Heap} {tk:Nat} {m:Str→Option Value} (I:Inv X pins σ H s) (hf:∀b∈fp,FpOk X pins H b) (hlt:∀b∈fp,b < s.heap.objs.size) (hk:scope.kind= .function) (hnc:∀y∈scope.names,y.2≠ .cell)
 (hc:c5 scope.names X.env.cells=true) (hl:mp.length=NC.length) (hm:i8 X.N NC mp scope.names X.env.scope.names=true) (kp:∀b o,s.heap.get? b=some o→h1.get? b=some o) (hn:h1.Ns s.heap.objs.size m):
 Inv (XC X scope NC s.heap.objs.size s H fp (X.pn++pins)) [] (subS mp σ) H {s with heap:=h1,toks:=tk}:=by
 have sub:=kK (cells:=X.env.cells) scope.names [] hc (fun y c e=>by cases e)
 have lt:∀b o,s.heap.get? b=some o→b≠s.heap.objs.size:=fun b o e=>yZ (Heap.lt_size e)
 have nst:∀b,b≠X.env.locals→b∉X.fs→b∉frs X.stack:=fun b h1 h2 z=>by
  rcases yV.mp (I.stkSub b z) with e|e
  · exact h1 e
  · exact h2 e
 refine ⟨⟨I.ok.mod,hk,I.ok.glob,I.ok.blt,yP _,fun x y c e1 e2=>I.ok.inj x y c (sub x c e1) (sub y c e2),fun x hx=> ?_,(fun _ _ z=>by cases z),I.ok.hd,I.ok.frames, .inl rfl,fun b hb=> ?_,fun b o e=> ?_,yY I.ok.bsz I.sz,fun b o e hb=> ?_,fun b hb=> ?_,I.stack,I.stkFree⟩,
  rfl,I.bare,Un.kept kp,⟨m,hn,fun j y v e1 e2 e3=> ?_⟩,fun y c e=> ?_,I.hok.fresh (yP _),fun y c e=>I.freeC y c (sub y c e),fun p hp=> ?_,I.hok.kept kp,?_⟩
 · exact iq scope.names [] x (fU hnc hx)
 · obtain ⟨f0,f1,f2,f3,f4,f5⟩:=hf b hb;exact ⟨yZ (hlt b hb),fun x c e=>f4 x c (sub x c e)⟩
 · obtain ⟨h1,h2⟩:=I.bs b o e;exact ⟨h1,h2⟩
 · obtain ⟨f0,f1,f2,f3,f4,f5⟩:=hf b hb;rcases f3 with z|z
   · exact I.ok.noex b o e z
   · exact absurd (zd (Heap.lt_size e) (yY I.ok.bsz z)) (zW _)
 · obtain ⟨f0,f1,f2,f3,f4,f5⟩:=hf b hb;exact nst b f1 f2
 ·
  unfold subS at e2;rw [yQ] at e2
  cases q:mp[j]? with
  |none=>rw [q] at e2;cases e2
  |some o=>
   rw [q] at e2
   cases o with
   |none=>cases e2
   |some i=>
    have e2':some ((σ[i]?).getD none)=some (some v):=e2;obtain ⟨z,y1,y2,y3,y4⟩:=rS hm q;have yz:y=z:=zb ((show NC[j]?=some y from e1).symm.trans y1);subst yz
    have e4:σ[i]?=some (some v):=by
     cases w:σ[i]? with
     |none=>rw [w] at e2';cases e2'
     |some t=>rw [w] at e2';exact e2'
    obtain ⟨m0,hn0,hl0⟩:=I.loc;obtain ⟨c,hcl⟩:=iq (cells:=X.env.cells) scope.names [] y (PySem.mem_of_lookup y3);have hcx:=sub y c hcl;have vis:Vis X.env.scope y:= .inr y4;obtain ⟨u,ru,lk⟩:=hl0 i y v y2 e4 vis;refine ⟨u,ru, .inr ⟨cH y3,c,hcl,?_⟩⟩;rcases lk with ⟨k1,_⟩|⟨_,c',k2,k3⟩
    · have k1':X.env.scope.names.lookup y=some .local:=k1;rcases y4 with y4|y4<;>(rw [y4] at k1';cases k1')
    · rw [hcx] at k2;cases k2;obtain ⟨oc,q1,q2⟩:=k3;exact ⟨oc,kp _ _ q1,q2⟩
 · obtain ⟨v,oc,q1,q2⟩:=I.cell y c (sub y c e);exact ⟨v,oc,kp _ _ q1,q2⟩
 · have hp':p∈X.pn++pins:=by simpa using hp
   obtain ⟨q1,q2,q3,q4,q5⟩:=I.pin p hp';exact ⟨kp _ _ q1,q2,lt _ _ q1,nst _ q3 q4,q5⟩
 · show (subS mp σ).length=NC.length;unfold subS;rw [yM,hl]
variable {elt target iter:Expr} {ifs:List Expr} {scope:Scope} {NC:List Str} {mp:List (Option Nat)} {pos:Pos} {wi:TI} {g:TG} {tc:TT} {te:TE}
theorem aQ (hcalm:X.calm=true) (hi:PI X target iter wi) (hg:∀C s H fp pn,PG (XC X scope NC C s H fp pn) target g) (ht:∀C s H fp pn,PTs (XC X scope NC C s H fp pn) ifs tc) (he:∀C s H fp pn,PE (XC X scope NC C s H fp pn) elt te)
 (hl:mp.length=NC.length:=by rfl) (hm:i8 X.N NC mp scope.names X.env.scope.names=true:=by rfl) (hc:c5 scope.names X.env.cells=true:=by rfl) (hk:scope.kind= .function:=by rfl)
 (hnc:∀y∈scope.names,y.2≠ .cell:=by decide +kernel) (hnm:∀y∈scope.names,y.2= .local→scope.names.lookup y.1=some .local:=by decide +kernel) (hs:∀x,foldedSetIterable iter X.env x=pure x:=by intro _;rfl):
 PE X (.ListComp elt [⟨target,iter,ifs,0⟩] scope pos) (cz mp wi g tc te):=by
 intro pins s σ H Q I h;rw [eval_ListComp];refine wpAny_comprehension_free (use:=none) rfl hs (gM hc) hk hnm (thn (hi pins s σ H _ I h) fun v s1 h1=>thn h1 fun itv s2 h2=> ?_);refine hZq fun q_ e_=> ?_;obtain ⟨it,fp,tn,J,H2,e,I2,T,st2,f2,W⟩:=h2;subst e_;subst e;refine wpAny_newObj_type ?_ (by show 0≤sizeLine;decide)
 have nD:H2 s2.heap.objs.size=none:=I2.hok.fresh (yP _)
 have I3:Inv X pins σ (upd H2 s2.heap.objs.size (.lst [])) {s2 with heap:=s2.heap.push {cls:= .type "list",data:= .seq ([]:List Value).toArray}}:=
  I2.laid (t':=s2.toks) (fun b u e=>Heap.get?_push_of_some _ e) (yP _) ⟨by show 0≤sizeLine;decide,[],0, .nil,Heap.get?_push_size _ rfl⟩
 refine hZq fun q_ e_=> ?_;obtain ⟨W,⟨m0,w0⟩,turn⟩:=W _ nD;subst e_
 have lt2:∀b∈fp,b < s2.heap.objs.size:=fun b hb=>by
  obtain ⟨o,e,_⟩:=T.obj 0 _ st2 b hb;exact Heap.lt_size e
 have nDf:∀b∈fp,b≠s2.heap.objs.size:=fun b hb=>yZ (lt2 b hb)
 have f3:∀b∈fp,FpOk X pins (upd H2 s2.heap.objs.size (.lst [])) b:=fun b hb=>by
  obtain ⟨g0,g1⟩:=f2 b hb;exact ⟨by rw [af (nDf b hb)];exact g0,g1⟩
 have st3:tn 0 (s2.heap.push {cls:= .type "list",data:= .seq ([]:List Value).toArray}):=T.keep 0 _ _ st2 fun b _ o e=>Heap.get?_push_of_some _ e
 have lt3:∀b∈fp,b < (s2.heap.push {cls:= .type "list",data:= .seq ([]:List Value).toArray}).objs.size:=fun b hb=>by
  rw [Heap.size_push];exact zI (lt2 b hb)
 generalize hD:s2.heap.objs.size=D at*;generalize hs3:({s2 with heap:=s2.heap.push {cls:= .type "list",data:= .seq ([]:List Value).toArray}}:Shared)=s3 at*;have hh3:s3.heap=s2.heap.push {cls:= .type "list",data:= .seq ([]:List Value).toArray}:=by rw [←hs3]
 rw [←hh3] at st3 lt3;generalize hH3:upd H2 D (.lst [])=H3 at*;refine wpAny_newFunctionEnv (around:=some X.env) hnc (by intro y hy;cases hy) (fun h4 hn4 hsb4=> ?_) hk
 have kp4:∀b o,s3.heap.get? b=some o→h4.get? b=some o:=fun b o e=>hsb4.extBut b o (yZ (Heap.lt_size e)) (Heap.get?_push_of_some _ e);have I4:=I3.block (tk:=s3.toks+([]:List (Str×Value)).length) f3 lt3 hk hnc hc hl hm kp4 hn4;have st4:tn 0 h4:=T.keep 0 _ _ st3 fun b _ o e=>kp4 b o e
 have fin:∀(s5:Shared) (σ5:St) (H5:Hp),Inv (XC X scope NC s3.heap.objs.size s3 H3 fp (X.pn++pins)) [] σ5 H5 s5→Q (.ref D) H5→compPost (model X.prog X.w) X.A X.xe none (EP X pins σ Q) (.ref D) s3.heap.objs.size (.ok .next) s5:=by
  intro s5 σ5 H5 I5 q5;obtain ⟨m5,hn5,_⟩:=id I5.loc;refine ⟨m5,hn5,fun h6 sb6=>⟨.ref D,H5,?_,rfl,q5⟩⟩;have kp6:∀b o,b≠s3.heap.objs.size→s5.heap.get? b=some o→h6.get? b=some o:=fun b o hb e=>sb6.extBut b o hb e;have nC:∀b o,s3.heap.get? b=some o→b≠s3.heap.objs.size:=fun b o e=>yZ (Heap.lt_size e);have un:Un (frs X.stack) fp H3 H5 s3.heap s5.heap:=I5.base;have hfree:H5 s3.heap.objs.size=none:=I5.free;refine I3.call' (s':= {s5 with heap:=h6}) (ch:=fp) I5.os ⟨fun b o e n hb hx=>kp6 b o (nC b o e) (un.keep b o e n hb hx),fun b o e n hb hx=> ?_,un.free,fun b o e hx=> ?_,un.tups,un.frzs,un.tbls⟩ ?_ I5.bare (fun b hb=> ?_)
  · obtain ⟨sl,e1⟩:=un.slot b o e n hb hx;exact ⟨sl,kp6 b _ (nC b o e) e1⟩
  · obtain ⟨o',e1⟩:=un.there b o e hx;exact ⟨o',kp6 b o' (nC b o e) e1⟩
  · intro b o e;have nb:b≠s3.heap.objs.size:=fun z=>by rw [z,hfree] at e;cases e
    refine (I5.hok b o e).stay (fun c v hc' r=>kp6 c v ?_ r) (fun _ r=>r) fun _ _ r=>r;rcases hc' with z|z
    · rw [z];exact nb
    · intro y;rw [y,hfree] at z;cases z
  · obtain ⟨g0,g1,g2,g3,g4,g5⟩:=f3 b hb;exact ⟨g3,g1,g4,g5⟩
 have loop:codeAny (model X.prog X.w) X.A (.compLoop (.ListComp elt [⟨target,iter,ifs,0⟩] scope pos) 0 (.ref it) (.ref D) (compEnvC scope (cr scope.names X.env.cells []) s3.heap.objs.size X.env)) (compPost (model X.prog X.w) X.A X.xe none (EP X pins σ Q) (.ref D) s3.heap.objs.size)
  {s3 with heap:=h4,toks:=s3.toks+([]:List (Str×Value)).length}:=by
  refine io (fun n s'=>∃i acc σ' H',Inv (XC X scope NC s3.heap.objs.size s3 H3 fp (X.pn++pins)) [] σ' H' s'∧Ext (subS mp σ) σ'∧tn i s'.heap∧(∀b∈fp,H' b=none)∧W i n acc H') ?_ m0
   ⟨0,[],subS mp σ,H3,I4,fun _ _ e=>e,st4,fun b hb=>(f3 b hb).1,w0⟩
  intro n s5 z_;refine hZq fun q_ e_=> ?_;obtain ⟨i,acc,σ5,H5,I5,hσ,st5,fr5,w5⟩:=z_;subst e_;have I5':Inv (XC X scope NC s3.heap.objs.size s3 H3 fp (X.pn++pins)) [] (subS mp σ) H5 s5:=I5.weak (by rw [I5.len];unfold subS;rw [yM];exact hl) hσ
  have fpk:∀ {H':Hp},(∀b∈fp,H' b=none)→∀b∈fp,FpOk (XC X scope NC s3.heap.objs.size s3 H3 fp (X.pn++pins)) [] H' b:=fun hn b hb=>by
   refine hZq fun q_ e_=> ?_;obtain ⟨g0,g1,g2,g3,g4,g5⟩:=f3 b hb;subst e_;refine ⟨hn b hb,yZ (lt3 b hb),?_, .inl hb,(I4.ok.exf b hb).2,fun p hp=>g5 p (by simpa using hp)⟩
   exact I4.ok.exfs b hb
  rcases turn i n acc H5 w5 with ⟨stop,q⟩|⟨go,step⟩
  · refine thn (T.done (XC X scope NC s3.heap.objs.size s3 H3 fp (X.pn++pins)) rfl rfl rfl hcalm i [] s5 _ H5 (fun _ _=>False) I5' (fpk fr5) st5 stop) fun r s6 ⟨hr,I6⟩=> ?_;subst hr;exact fin s6 _ H5 I6 q
  · refine thn (T.item (XC X scope NC s3.heap.objs.size s3 H3 fp (X.pn++pins)) rfl rfl rfl hcalm i [] s5 _ H5 (fun _ _=>False) I5' (fpk fr5) st5 go) fun r s6 ⟨u,hr,h6⟩=> ?_;subst hr;refine thn h6 fun _ s7 ⟨x,H7,I7,r7,y7,st7,fr7⟩=> ?_;have I7':=I7.pinned (fpk fr7) (T.obj _ _ st7);refine thn (hg _ _ _ _ _ _ s7 _ H7 x u _ I7' r7 (step x H7 y7)) fun _ s8 ⟨σ8,H8,I8,ext8,q8⟩=> ?_;refine thn (ht _ _ _ _ _ _ s8 σ8 H8 _ I8 q8) fun ok s9 ⟨H9,I9,q9⟩=> ?_
    have again:∀ {σ':St} {H':Hp} {s':Shared} {acc':List V} {m':Nat},Inv (XC X scope NC s3.heap.objs.size s3 H3 fp (X.pn++pins)) ([]++dU fp s7.heap) σ' H' s'→Ext (subS mp σ) σ'→m' < n→W (i+1) m' acc' H'→
     ∃m,m < n∧∃i acc σ' H',Inv (XC X scope NC s3.heap.objs.size s3 H3 fp (X.pn++pins)) [] σ' H' s'∧Ext (subS mp σ) σ'∧tn i s'.heap∧(∀b∈fp,H' b=none)∧W i m acc H':=by
     intro σ' H' s' acc' m' I' hσ' hm' w';refine ⟨m',hm',i+1,acc',σ',H',I'.unpinned,hσ',T.keep _ _ _ st7 fun b hb o e=>(I'.pin (b,o) (yX _ (yX _ (bh hb e)))).1,fun b hb=> ?_,w'⟩;obtain ⟨o,e,d⟩:=T.obj _ _ st7 b hb;exact (I'.pin (b,o) (yX _ (yX _ (bh hb e)))).2.1
    cases ok with
    |false=>
     rw [if_neg zk] at q9;rw [if_neg zk];obtain ⟨m',hm',w'⟩:=q9;exact again I9 ext8 hm' w'
    |true=>
     rw [if_pos rfl] at q9;rw [if_pos rfl];refine thn (he _ _ _ _ _ _ s9 σ8 H9 _ I9 q9) fun v s10 ⟨y,H10,I10,r10,hD10,hz,m',hm',w'⟩=> ?_;refine thn (bf (X:=XC X scope NC s3.heap.objs.size s3 H3 fp (X.pn++pins)) _ s10 σ8 H10 (.ref D) [y] (.ref D) [v] (fun _ H'=>H'=upd H10 D (.lst (acc++ [y]))) I10 rfl (.cons r10 .nil) ⟨D,acc,y,rfl,rfl,hD10,hz,rfl⟩) fun _ s11 ⟨_,H11,I11,_,e11⟩=> ?_;subst e11;exact again I11 ext8 hm' w'
 exact codeAny_compStart_list loop (T.self _ 0 _ _ _ st4 loop)
end
open PySem PySem.Spec PyProof.Rows
section
variable {X:Cx} {pins:List (Addr×Obj)} {σ:St} {H:Hp} {s:Shared}
theorem on {h h':Heap} {a b:Addr} {m:Str→Option Value} (hn:h.Ns a m) (sb:Heap.SameBut b h h') (ne:a≠b):h'.Ns a m:=by
 obtain ⟨o,es,ep,ho,r⟩:=hn;exact ⟨o,es,ep,(sb.2 a ne).trans ho,r⟩
variable {elt target iter:Expr} {ifs:List Expr} {scope:Scope} {NC:List Str} {mp:List (Option Nat)} {pos spos:Pos} {wi:TI} {g:TG} {tc:TT} {te:TE} {i:Nat} {x:Str} {px:Pos}
theorem dr (hcalm:X.calm=true) (hN:X.N.Nodup) (hix:X.N[i]?=some x) (hx:X.env.scope.names.lookup x=some .local) (hsw:swapsWith (.ListComp elt [⟨target,iter,ifs,0⟩] scope pos) (some (.Name x px)) spos.line X.env=pure true)
 (hi:PI X target iter wi) (hg:∀C s H fp pn,PG (XC X scope NC C s H fp pn) target g) (ht:∀C s H fp pn,PTs (XC X scope NC C s H fp pn) ifs tc) (he:∀C s H fp pn,PE (XC X scope NC C s H fp pn) elt te)
 (hl:mp.length=NC.length:=by rfl) (hm:i8 X.N NC mp scope.names X.env.scope.names=true:=by rfl) (hc:c5 scope.names X.env.cells=true:=by rfl) (hk:scope.kind= .function:=by rfl)
 (hnc:∀y∈scope.names,y.2≠ .cell:=by decide +kernel) (hnm:∀y∈scope.names,y.2= .local→scope.names.lookup y.1=some .local:=by decide +kernel) (hs:∀x,foldedSetIterable iter X.env x=pure x:=by intro _;rfl):
 PS X (.Assign [.Name x px] (.ListComp elt [⟨target,iter,ifs,0⟩] scope pos) spos) (tAsg (cz mp wi g tc te) (aG i)):=by
 intro pins s σ H Z I h;rw [exec_Assign_Name_used _ _ _ _ hsw];refine wpAny_bind (wpAny_standAt (wpAny_bind ?_));show wpAny _ _ (do let _←comprehension (.ListComp elt [⟨target,iter,ifs,0⟩] scope pos) scope X.env _ (newList []) false (eval iter X.env) (some (assign (.Name x px) X.env))) _ _ s
 refine wpAny_bind (wpAny_mono (wpAny_comprehension_free (use:=some (assign (.Name x px) X.env)) (Q:=fun _ s'=>SP X pins Z .next s') (E:=X.xe) rfl hs (gM hc) hk hnm
  (thn (hi pins s σ H _ I h) fun v s1 h1=>thn h1 fun itv s2 h2=> ?_)) (fun _ s' q=>wpAny_pure (wpAny_pure q)) fun _ _ e=>e)
 refine hZq fun q_ e_=> ?_;obtain ⟨it,fp,tn,J,H2,e,I2,T,st2,f2,W⟩:=h2;subst e_;subst e;refine wpAny_newObj_type ?_ (by show 0≤sizeLine;decide)
 have nD:H2 s2.heap.objs.size=none:=I2.hok.fresh (yP _)
 have I3:Inv X pins σ (upd H2 s2.heap.objs.size (.lst [])) {s2 with heap:=s2.heap.push {cls:= .type "list",data:= .seq ([]:List Value).toArray}}:=
  I2.laid (t':=s2.toks) (fun b u e=>Heap.get?_push_of_some _ e) (yP _) ⟨by show 0≤sizeLine;decide,[],0, .nil,Heap.get?_push_size _ rfl⟩
 refine hZq fun q_ e_=> ?_;obtain ⟨W,⟨m0,w0⟩,turn⟩:=W _ nD;subst e_
 have lt2:∀b∈fp,b < s2.heap.objs.size:=fun b hb=>by
  obtain ⟨o,e,_⟩:=T.obj 0 _ st2 b hb;exact Heap.lt_size e
 have nDf:∀b∈fp,b≠s2.heap.objs.size:=fun b hb=>yZ (lt2 b hb)
 have f3:∀b∈fp,FpOk X pins (upd H2 s2.heap.objs.size (.lst [])) b:=fun b hb=>by
  obtain ⟨g0,g1⟩:=f2 b hb;exact ⟨by rw [af (nDf b hb)];exact g0,g1⟩
 have st3:tn 0 (s2.heap.push {cls:= .type "list",data:= .seq ([]:List Value).toArray}):=T.keep 0 _ _ st2 fun b _ o e=>Heap.get?_push_of_some _ e
 have lt3:∀b∈fp,b < (s2.heap.push {cls:= .type "list",data:= .seq ([]:List Value).toArray}).objs.size:=fun b hb=>by
  rw [Heap.size_push];exact zI (lt2 b hb)
 generalize hD:s2.heap.objs.size=D at*;generalize hs3:({s2 with heap:=s2.heap.push {cls:= .type "list",data:= .seq ([]:List Value).toArray}}:Shared)=s3 at*;have hh3:s3.heap=s2.heap.push {cls:= .type "list",data:= .seq ([]:List Value).toArray}:=by rw [←hs3]
 rw [←hh3] at st3 lt3;generalize hH3:upd H2 D (.lst [])=H3 at*;refine wpAny_newFunctionEnv (around:=some X.env) hnc (by intro y hy;cases hy) (fun h4 hn4 hsb4=> ?_) hk
 have kp4:∀b o,s3.heap.get? b=some o→h4.get? b=some o:=fun b o e=>hsb4.extBut b o (yZ (Heap.lt_size e)) (Heap.get?_push_of_some _ e);have I4:=I3.block (tk:=s3.toks+([]:List (Str×Value)).length) f3 lt3 hk hnc hc hl hm kp4 hn4;have st4:tn 0 h4:=T.keep 0 _ _ st3 fun b _ o e=>kp4 b o e;have nC:∀b o,s3.heap.get? b=some o→b≠s3.heap.objs.size:=fun b o e=>yZ (Heap.lt_size e)
 have out:∀(s5:Shared) (σ5:St) (H5:Hp) (h6:Heap),Inv (XC X scope NC s3.heap.objs.size s3 H3 fp (X.pn++pins)) [] σ5 H5 s5→Heap.SameBut s3.heap.objs.size s5.heap h6→Inv X pins σ H5 {s5 with heap:=h6}:=by
  intro s5 σ5 H5 h6 I5 sb6;have kp6:∀b o,b≠s3.heap.objs.size→s5.heap.get? b=some o→h6.get? b=some o:=fun b o hb e=>sb6.extBut b o hb e;have un:Un (frs X.stack) fp H3 H5 s3.heap s5.heap:=I5.base;have hfree:H5 s3.heap.objs.size=none:=I5.free;refine I3.call' (s':= {s5 with heap:=h6}) (ch:=fp) I5.os ⟨fun b o e n hb hx=>kp6 b o (nC b o e) (un.keep b o e n hb hx),fun b o e n hb hx=> ?_,un.free,fun b o e hx=> ?_,un.tups,un.frzs,un.tbls⟩ ?_ I5.bare (fun b hb=> ?_)
  · obtain ⟨sl,e1⟩:=un.slot b o e n hb hx;exact ⟨sl,kp6 b _ (nC b o e) e1⟩
  · obtain ⟨o',e1⟩:=un.there b o e hx;exact ⟨o',kp6 b o' (nC b o e) e1⟩
  · intro b o e;have nb:b≠s3.heap.objs.size:=fun z=>by rw [z,hfree] at e;cases e
    refine (I5.hok b o e).stay (fun c v hc' r=>kp6 c v ?_ r) (fun _ r=>r) fun _ _ r=>r;rcases hc' with z|z
    · rw [z];exact nb
    · intro y;rw [y,hfree] at z;cases z
  · obtain ⟨g0,g1,g2,g3,g4,g5⟩:=f3 b hb;exact ⟨g3,g1,g4,g5⟩
 have fin:∀(s5:Shared) (σ5:St) (H5:Hp),Inv (XC X scope NC s3.heap.objs.size s3 H3 fp (X.pn++pins)) [] σ5 H5 s5→Z.nx (σ.set i (some (.ref D))) H5→compPost (model X.prog X.w) X.A X.xe (some (assign (.Name x px) X.env)) (fun _ s'=>SP X pins Z .next s') (.ref D) s3.heap.objs.size (.ok .next) s5:=by
  intro s5 σ5 H5 I5 q5;obtain ⟨m5,hn5,_⟩:=id I5.loc;have I6:=out s5 σ5 H5 s5.heap I5 (.refl ..);have lC:X.env.locals≠s3.heap.objs.size:=yZ I3.lt;show wpAny _ _ (assign (.Name x px) X.env (.ref D)) _ _ _;refine wpAny_assign_Name (iC (X:=X) (v:= .ref D) I6 hN hix (.inl hx) rfl (fun s7 I7 hch=> ?_) (.inr hx));obtain ⟨a,sb7,ha⟩:=hch
  have aC:s3.heap.objs.size≠a:=by
   rcases ha with z|z
   · rw [z];exact Ne.symm lC
   · obtain ⟨v,oc,q1,_⟩:=I3.cell x a z;exact Ne.symm (nC a oc q1)
  refine ⟨m5,on hn5 sb7 aC,fun h8 sb8=>⟨σ.set i (some (.ref D)),H5,?_,q5⟩⟩;have hfree:H5 s3.heap.objs.size=none:=I5.free;have kp8:∀b o,b≠s3.heap.objs.size→s7.heap.get? b=some o→h8.get? b=some o:=fun b o hb e=>sb8.extBut b o hb e;have s0lt:∀b o,X.s₀.heap.get? b=some o→b≠s3.heap.objs.size:=fun b o e=>yZ (zd (Heap.lt_size e) I3.sz);refine ⟨I7.ok,I7.os,I7.bare,⟨fun b o e n hb hx=>kp8 b o (s0lt b o e) (I7.base.keep b o e n hb hx),fun b o e n hb hx=> ?_,I7.base.free,fun b o e hx=> ?_,I7.base.tups,I7.base.frzs,I7.base.tbls⟩,?_,fun y c e=> ?_,I7.free,I7.freeC,fun p hp=> ?_,?_,I7.len⟩
  · obtain ⟨sl,e1⟩:=I7.base.slot b o e n hb hx;exact ⟨sl,kp8 b _ (s0lt b o e) e1⟩
  · obtain ⟨o',e1⟩:=I7.base.there b o e hx;exact ⟨o',kp8 b o' (s0lt b o e) e1⟩
  · obtain ⟨m7,hn7,hl7⟩:=I7.loc
    have cellN:∀y c,X.env.cells.lookup y=some c→c≠s3.heap.objs.size:=fun y c e=>by
     refine hZq fun q_ e_=> ?_;obtain ⟨v,oc,q1,_⟩:=I3.cell y c e;subst e_;exact nC c oc q1
    refine ⟨m7,on hn7 sb8 lC,fun j y v e1 e2 e3=> ?_⟩;obtain ⟨u,ru,lk⟩:=hl7 j y v e1 e2 e3;refine ⟨u,ru,?_⟩;rcases lk with lk|⟨k1,c,k2,k3⟩
    · exact .inl lk
    · exact .inr ⟨k1,c,k2,k3.sameBut sb8 (cellN y c k2)⟩
  · obtain ⟨w',z⟩:=I7.cell y c e;refine hZq fun q_ e_=> ?_;obtain ⟨v,oc,q1,_⟩:=I3.cell y c e;subst e_;exact ⟨w',z.sameBut sb8 (nC c oc q1)⟩
  · obtain ⟨e,n1,n2,n3,n4⟩:=I7.pin p hp;obtain ⟨e3,_⟩:=I3.pin p hp;exact ⟨kp8 _ _ (nC _ _ e3) e,n1,n2,n3,n4⟩
  · intro b o e;have nb:b≠s3.heap.objs.size:=fun z=>by rw [z,hfree] at e;cases e
    refine (I7.hok b o e).stay (fun c v hc' r=>kp8 c v ?_ r) (fun _ r=>r) fun _ _ r=>r;rcases hc' with z|z
    · rw [z];exact nb
    · intro y;rw [y,hfree] at z;cases z
 have loop:codeAny (model X.prog X.w) X.A (.compLoop (.ListComp elt [⟨target,iter,ifs,0⟩] scope pos) 0 (.ref it) (.ref D) (compEnvC scope (cr scope.names X.env.cells []) s3.heap.objs.size X.env)) (compPost (model X.prog X.w) X.A X.xe (some (assign (.Name x px) X.env)) (fun _ s'=>SP X pins Z .next s') (.ref D) s3.heap.objs.size)
  {s3 with heap:=h4,toks:=s3.toks+([]:List (Str×Value)).length}:=by
  refine io (fun n s'=>∃i acc σ' H',Inv (XC X scope NC s3.heap.objs.size s3 H3 fp (X.pn++pins)) [] σ' H' s'∧Ext (subS mp σ) σ'∧tn i s'.heap∧(∀b∈fp,H' b=none)∧W i n acc H') ?_ m0
   ⟨0,[],subS mp σ,H3,I4,fun _ _ e=>e,st4,fun b hb=>(f3 b hb).1,w0⟩
  intro n s5 z_;refine hZq fun q_ e_=> ?_;obtain ⟨i,acc,σ5,H5,I5,hσ,st5,fr5,w5⟩:=z_;subst e_;have I5':Inv (XC X scope NC s3.heap.objs.size s3 H3 fp (X.pn++pins)) [] (subS mp σ) H5 s5:=I5.weak (by rw [I5.len];unfold subS;rw [yM];exact hl) hσ
  have fpk:∀ {H':Hp},(∀b∈fp,H' b=none)→∀b∈fp,FpOk (XC X scope NC s3.heap.objs.size s3 H3 fp (X.pn++pins)) [] H' b:=fun hn b hb=>by
   refine hZq fun q_ e_=> ?_;obtain ⟨g0,g1,g2,g3,g4,g5⟩:=f3 b hb;subst e_;refine ⟨hn b hb,yZ (lt3 b hb),?_, .inl hb,(I4.ok.exf b hb).2,fun p hp=>g5 p (by simpa using hp)⟩
   exact I4.ok.exfs b hb
  rcases turn i n acc H5 w5 with ⟨stop,q⟩|⟨go,step⟩
  · refine thn (T.done (XC X scope NC s3.heap.objs.size s3 H3 fp (X.pn++pins)) rfl rfl rfl hcalm i [] s5 _ H5 (fun _ _=>False) I5' (fpk fr5) st5 stop) fun r s6 ⟨hr,I6⟩=> ?_;subst hr;exact fin s6 _ H5 I6 q
  · refine thn (T.item (XC X scope NC s3.heap.objs.size s3 H3 fp (X.pn++pins)) rfl rfl rfl hcalm i [] s5 _ H5 (fun _ _=>False) I5' (fpk fr5) st5 go) fun r s6 ⟨u,hr,h6⟩=> ?_;subst hr;refine thn h6 fun _ s7 ⟨x,H7,I7,r7,y7,st7,fr7⟩=> ?_;have I7':=I7.pinned (fpk fr7) (T.obj _ _ st7);refine thn (hg _ _ _ _ _ _ s7 _ H7 x u _ I7' r7 (step x H7 y7)) fun _ s8 ⟨σ8,H8,I8,ext8,q8⟩=> ?_;refine thn (ht _ _ _ _ _ _ s8 σ8 H8 _ I8 q8) fun ok s9 ⟨H9,I9,q9⟩=> ?_
    have again:∀ {σ':St} {H':Hp} {s':Shared} {acc':List V} {m':Nat},Inv (XC X scope NC s3.heap.objs.size s3 H3 fp (X.pn++pins)) ([]++dU fp s7.heap) σ' H' s'→Ext (subS mp σ) σ'→m' < n→W (i+1) m' acc' H'→
     ∃m,m < n∧∃i acc σ' H',Inv (XC X scope NC s3.heap.objs.size s3 H3 fp (X.pn++pins)) [] σ' H' s'∧Ext (subS mp σ) σ'∧tn i s'.heap∧(∀b∈fp,H' b=none)∧W i m acc H':=by
     intro σ' H' s' acc' m' I' hσ' hm' w';refine ⟨m',hm',i+1,acc',σ',H',I'.unpinned,hσ',T.keep _ _ _ st7 fun b hb o e=>(I'.pin (b,o) (yX _ (yX _ (bh hb e)))).1,fun b hb=> ?_,w'⟩;obtain ⟨o,e,d⟩:=T.obj _ _ st7 b hb;exact (I'.pin (b,o) (yX _ (yX _ (bh hb e)))).2.1
    cases ok with
    |false=>
     rw [if_neg zk] at q9;rw [if_neg zk];obtain ⟨m',hm',w'⟩:=q9;exact again I9 ext8 hm' w'
    |true=>
     rw [if_pos rfl] at q9;rw [if_pos rfl];refine thn (he _ _ _ _ _ _ s9 σ8 H9 _ I9 q9) fun v s10 ⟨y,H10,I10,r10,hD10,hz,m',hm',w'⟩=> ?_;refine thn (bf (X:=XC X scope NC s3.heap.objs.size s3 H3 fp (X.pn++pins)) _ s10 σ8 H10 (.ref D) [y] (.ref D) [v] (fun _ H'=>H'=upd H10 D (.lst (acc++ [y]))) I10 rfl (.cons r10 .nil) ⟨D,acc,y,rfl,rfl,hD10,hz,rfl⟩) fun _ s11 ⟨_,H11,I11,_,e11⟩=> ?_;subst e11;exact again I11 ext8 hm' w'
 exact codeAny_compStart_list loop (T.self _ 0 _ _ _ st4 loop)
end
open PySem PySem.Spec PyProof.Rows
section
variable {κ:Type} [DecidableEq κ]
noncomputable def valV (kvs:List (κ×V)) (k:κ):Option V:=(kvs.find? fun kv=>decide (kv.1=k)).map (·.2)
noncomputable def putK (kvs:List (κ×V)) (k:κ) (v:V):List (κ×V):=
 if (kvs.any fun kv=>decide (kv.1=k))=true then kvs.map (fun kv=>if kv.1=k then (kv.1,v) else kv) else kvs++ [(k,v)]
theorem bJ {p:κ×V} {r:List (κ×V)} {k:κ} (e:p.1=k):valV (p::r) k=some p.2:=by simp [valV,zT,e]
theorem bK {p:κ×V} {r:List (κ×V)} {k:κ} (e:¬p.1=k):valV (p::r) k=valV r k:=by simp [valV,zT,e]
theorem dE (k:κ):∀kvs:List (κ×V),(kvs.any fun kv=>decide (kv.1=k))=(valV kvs k).isSome
 | []=>rfl
 |p::r=>by
  rw [List.any_cons];by_cases e:p.1=k
  · simp only [bJ e,decide_eq_true e,Bool.true_or,Option.isSome_some]
  · rw [bK e,decide_eq_false e,Bool.false_or];exact dE k r
theorem jH (k j:κ) (y:V):∀kvs:List (κ×V),valV (kvs.map fun kv=>if kv.1=k then (kv.1,y) else kv) j=(valV kvs j).map fun x=>if j=k then y else x
 | []=>rfl
 |p::r=>by
  have ih:=jH k j y r;rw [zc];by_cases h:p.1=k
  · rw [if_pos h];by_cases e:p.1=j
    · rw [bJ (p:=(p.1,y)) e,bJ e,Option.map_some,if_pos (e.symm.trans h)]
    · rw [bK (p:=(p.1,y)) e,bK e,ih]
  · rw [if_neg h];by_cases e:p.1=j
    · rw [bJ (p:=p) e,bJ e,Option.map_some,if_neg (fun z=>h (e.trans z))]
    · rw [bK (p:=p) e,bK e,ih]
theorem iA (k j:κ) (y:V):∀kvs:List (κ×V),valV kvs k=none→valV (kvs++ [(k,y)]) j=if j=k then some y else valV kvs j
 | [],_=>by
  by_cases e:k=j
  · rw [if_pos e.symm];exact bJ (p:=(k,y)) e
  · rw [if_neg (fun z=>e z.symm)];exact bK (p:=(k,y)) e
 |p::r,hn=>by
  rw [zv];have hk:¬p.1=k:=fun z=>by rw [bJ z] at hn;cases hn
  rw [bK hk] at hn;have ih:=iA k j y r hn;by_cases e:p.1=j
  · rw [bJ e,bJ e,if_neg (fun z=>hk (e.trans z))]
  · rw [bK e,bK e,ih]
theorem p7 (kvs:List (κ×V)) (k j:κ) (y:V):valV (putK kvs k y) j=if j=k then some y else valV kvs j:=by
 unfold putK;by_cases a:(kvs.any fun kv=>decide (kv.1=k))=true
 · rw [if_pos a,jH];rw [dE] at a;by_cases e:j=k
   · obtain ⟨x,hx⟩:=Option.isSome_iff_exists.mp a;rw [if_pos e,e,hx,Option.map_some,if_pos rfl]
   · rw [if_neg e]
     cases valV kvs j with
     |none=>rfl
     |some x=>rw [Option.map_some,if_neg e]
 · rw [if_neg a];refine iA k j y kvs ?_;rw [dE] at a
   cases q:valV kvs k with
   |none=>rfl
   |some x=>rw [q] at a;exact (a rfl).elim
theorem fY (kvs:List (κ×V)) (k:κ) (v:V):(putK kvs k v).length≤kvs.length+1:=by
 unfold putK;split
 · rw [yM];omega
 · rw [z7,za,List.length_nil];omega
theorem qY {kvs:List (κ×V)} {k:κ} (v:V) (h:valV kvs k=none):putK kvs k v=kvs++ [(k,v)]:=by
 unfold putK;rw [dE,h];exact if_neg (by decide)
theorem RelO.isSome_eq {o:Option V} {u:Option Value} (r:RelO o u):o.isSome=u.isSome:=by
 cases o with
 |none=>cases u with
  |none=>rfl
  |some _=>exact (show False from r).elim
 |some _=>cases u with
  |none=>exact (show False from r).elim
  |some _=>rfl
theorem RelO.getD {o:Option V} {u:Option Value} {d:V} {d':Value} (r:RelO o u) (rd:RelV d d'):RelV (o.getD d) (u.getD d'):=by
 cases o with
 |none=>cases u with
  |none=>exact rd
  |some _=>exact (show False from r).elim
 |some _=>cases u with
  |none=>exact (show False from r).elim
  |some _=>exact r
theorem KV.val {kvs:List (κ×V)} {vs:List (κ×Value)} (r:KV kvs vs) (k:κ):RelO (valV kvs k) (valueAt vs k):=by
 unfold KV at r
 induction r with
 |nil=>exact True.intro
 | @cons p q ps qs h t ih=>
  obtain ⟨h1,h2⟩:=h;by_cases e:p.1=k
  · have e':q.1=k:=h1.symm.trans e;have b:valueAt (q::qs) k=some q.2:=by simp [valueAt,zT,e']
    rw [bJ e,b];exact h2
  · have e':¬q.1=k:=fun z=>e (h1.trans z);have b:valueAt (q::qs) k=valueAt qs k:=by simp [valueAt,zT,e']
    rw [bK e,b];exact ih
theorem KV.any {kvs:List (κ×V)} {vs:List (κ×Value)} (r:KV kvs vs) (k:κ):(kvs.any fun kv=>decide (kv.1=k))=vs.any fun kv=>decide (kv.1=k):=by
 unfold KV at r
 induction r with
 |nil=>rfl
 |cons h t ih=>rw [List.any_cons,List.any_cons,ih,h.1]
theorem KV.repl {kvs:List (κ×V)} {vs:List (κ×Value)} (r:KV kvs vs) (k:κ) {y:V} {u:Value} (ry:RelV y u):
 KV (kvs.map fun kv=>if kv.1=k then (kv.1,y) else kv) (vs.map fun kv=>if kv.1=k then (kv.1,u) else kv):=by
 unfold KV at r ⊢
 induction r with
 |nil=>exact .nil
 | @cons p q ps qs h t ih=>
  rw [zc,zc];refine .cons ?_ ih;obtain ⟨h1,h2⟩:=h;by_cases e:p.1=k
  · rw [if_pos e,if_pos (h1.symm.trans e)];exact ⟨h1,ry⟩
  · rw [if_neg e,if_neg (fun z=>e (h1.trans z))];exact ⟨h1,h2⟩
theorem KV.put {kvs:List (κ×V)} {vs:List (κ×Value)} (r:KV kvs vs) (k:κ) {y:V} {u:Value} (ry:RelV y u):KV (putK kvs k y) (stored vs k u):=by
 unfold putK stored;rw [r.any k];by_cases e:(vs.any fun kv=>decide (kv.1=k))=true
 · rw [if_pos e,if_pos e];exact r.repl k ry
 · rw [if_neg e,if_neg e];exact Paired.snoc r ⟨rfl,ry⟩
theorem KV.keys {kvs:List (κ×V)} {vs:List (κ×Value)} (r:KV kvs vs):kvs.map (·.1)=vs.map (·.1):=by
 unfold KV at r
 induction r with
 |nil=>rfl
 |cons h t ih=>rw [zc,zc,ih,h.1]
theorem KV.length {kvs:List (κ×V)} {vs:List (κ×Value)} (r:KV kvs vs):kvs.length=vs.length:=Paired.length r
end
theorem nF {P:Program} {w:World} {k:Key} {u:Value} (r:RelV (kV k) u):(aM P w).is k u=true:=by
 cases k with
 |inl i=>obtain ⟨t,e⟩:=(show∃t,u=Value.int i t from r);subst e;exact jX P w i t
 |inr x=>obtain ⟨t,e⟩:=(show∃t,u=Value.str x t from r);subst e;exact jW P w x t
theorem iL {P:Program} {w:World}:∀ {ks:List Key} {us:List Value},Vals (ks.map kV) us→ItemsAre (aM P w) ks us
 | [],_,r=>by rw [List.map_nil] at r;cases r;exact .nil
 |k::ks,_,r=>by
  rw [zc] at r
  cases r with
  |cons h t=>exact .cons (nF h) (iL t)
abbrev KT (H:Hp):List (List Key×V)→List (List Key×Addr×Value)→Prop:=Paired fun p q=>p.1=q.1∧H q.2.1=some (.tup (p.1.map kV))∧RelV p.2 q.2.2
theorem KT.val {H:Hp} {kvs:List (List Key×V)} {xs:List (List Key×Addr×Value)} (r:KT H kvs xs) (k:List Key):RelO (valV kvs k) ((atKey xs k).map (·.2)):=by
 induction r with
 |nil=>exact True.intro
 | @cons p q ps qs h t ih=>
  obtain ⟨h1,_,h2⟩:=h;by_cases e:p.1=k
  · have e':q.1=k:=h1.symm.trans e;have b:atKey (q::qs) k=some q.2:=by simp [atKey,zT,e']
    rw [bJ e,b];exact h2
  · have e':¬q.1=k:=fun z=>e (h1.trans z);have b:atKey (q::qs) k=atKey qs k:=by simp [atKey,zT,e']
    rw [bK e,b];exact ih
theorem KT.keeps {H H':Hp} {kvs:List (List Key×V)} {xs:List (List Key×Addr×Value)} (r:KT H kvs xs) (ht:∀b ys,H b=some (.tup ys)→H' b=some (.tup ys)):KT H' kvs xs:=
 Paired.mapP r fun _ _ z=>⟨z.1,ht _ _ z.2.1,z.2.2⟩
section
variable {P:Program} {w:World} {H:Hp} {h:Heap} {a:Addr}
theorem vg {u:HO} (ok:HOk P w H h) (e:Rd H a u):ObjOk P w H h a u:=e.ok ok
theorem sU {kvs:List (Key×V)} (ok:HOk P w H h) (e:Rd H a (.dK kvs)):kvs.length≤sizeLine∧(a==sysModules)=false∧∃vs,KV kvs vs∧h.DictOf (aM P w) a vs:=
 show ObjOk P w H h a (.dK kvs) from vg ok e
theorem nU {kvs:List (Key×V)} (ok:HOk P w H h) (e:H a=some (.dK kvs)):kvs.length≤sizeLine∧(a==sysModules)=false∧∃vs,KV kvs vs∧h.DictOf (aM P w) a vs:=sU ok (.inl e)
theorem sy {ks:List Key} (ok:HOk P w H h) (e:H a=some (.tup (ks.map kV))):(tupleKind (aM P w)).is h ks a:=by
 obtain ⟨_,its,r,o,h1,h2,n,h3⟩:=(show ObjOk P w H h a (.tup (ks.map kV)) from ok a _ e);exact ⟨o,its.toArray,n,h1,h2,h3,by simpa using iL r⟩
theorem vt {kvs:List (List Key×V)} (ok:HOk P w H h) (e:Rd H a (.dT kvs)):kvs.length≤sizeLine∧(a==sysModules)=false∧
 ∃xs,KT H kvs xs∧h.DictOfH (tupleKind (aM P w)) a xs:=by
 obtain ⟨z,y,xs,r,o,es,ep,h1,h2,h3,h4,h5⟩:=(show ObjOk P w H h a (.dT kvs) from vg ok e);refine ⟨z,y,xs,r,o,es,ep,h1,h2,h3,h4,fun x hx=> ?_,h5⟩
 have all:∀ {l:List (List Key×V)} {m:List (List Key×Addr×Value)},KT H l m→∀x∈m,(tupleKind (aM P w)).is h x.1 x.2.1:=by
  intro l m q
  induction q with
  |nil=>intro x hx;exact nomatch hx
  | @cons p q ps qs hq t ih=>
   intro x hx;rcases yV.mp hx with e|hx
   · subst e;exact sy ok (by rw [←hq.1];exact hq.2.1)
   · exact ih x hx
 exact all r x hx
end
def DGet (H:Hp) (a:Addr) (y:V) (r:Option V):Prop:=
 (∃kvs k,Rd H a (.dK kvs)∧y=kV k∧r=valV kvs k)∨∃kvs k b,Rd H a (.dT kvs)∧y= .ref b∧H b=some (.tup (k.map kV))∧r=valV kvs k
def DPut (H:Hp) (a:Addr) (y v:V) (H':Hp):Prop:=
 (∃kvs k,H a=some (.dK kvs)∧y=kV k∧kvs.length < sizeLine∧H'=upd H a (.dK (putK kvs k v)))∨
 ∃kvs k b,H a=some (.dT kvs)∧y= .ref b∧H b=some (.tup (k.map kV))∧kvs.length < sizeLine∧H'=upd H a (.dT (putK kvs k v))
theorem DGet.k {H:Hp} {a:Addr} {kvs:List (Key×V)} {k:Key} (e:H a=some (.dK kvs)):DGet H a (kV k) (valV kvs k):= .inl ⟨kvs,k, .inl e,rfl,rfl⟩
theorem DGet.t {H:Hp} {a b:Addr} {kvs:List (List Key×V)} {k:List Key} (e:H a=some (.dT kvs)) (eb:H b=some (.tup (k.map kV))):DGet H a (.ref b) (valV kvs k):= .inr ⟨kvs,k,b, .inl e,rfl,eb,rfl⟩
theorem DPut.k {H:Hp} {a:Addr} {kvs:List (Key×V)} {k:Key} {v:V} (e:H a=some (.dK kvs)) (hl:kvs.length < sizeLine):DPut H a (kV k) v (upd H a (.dK (putK kvs k v))):= .inl ⟨kvs,k,e,rfl,hl,rfl⟩
theorem DPut.t {H:Hp} {a b:Addr} {kvs:List (List Key×V)} {k:List Key} {v:V} (e:H a=some (.dT kvs)) (eb:H b=some (.tup (k.map kV))) (hl:kvs.length < sizeLine):
 DPut H a (.ref b) v (upd H a (.dT (putK kvs k v))):= .inr ⟨kvs,k,b,e,rfl,eb,hl,rfl⟩
section
variable {X:Cx} {pins:List (Addr×Obj)} {σ:St} {H:Hp} {s:Shared} {a:Addr} {y v:V} {u r:Value} {o:Option V} {A:Around} {E:Value→Shared→Prop}
theorem Inv.big (I:Inv X pins σ H s):sysModules < s.heap.objs.size:=by
 have h:mainGlobals < s.heap.objs.size:=(I.mod.glob.keeps I.bk).lt;exact Nat.lt_trans (by decide) h
theorem gG {h':Heap} {t':Nat} {ob:HO} (I:Inv X pins σ H s) (mu:Mut (H a)) (hs:Heap.SameBut a s.heap h') (he:∃q,h'.get? a=some q) (new:ObjOk X.prog X.w (upd H a ob) h' a ob):
 Inv X pins σ (upd H a ob) {s with heap:=h',toks:=t'}:=
 I.write (x:=a) (e:=a) mu (.inl rfl) (fun b q hb z=>(hs.2 b hb).trans z) he new
theorem sV {P:Program} {w:World} {H':Hp} {h':Heap} {kvs:List (Key×V)} {vs:List (Key×Value)} (z:kvs.length≤sizeLine) (hd:(a==sysModules)=false) (rel:KV kvs vs) (dd:h'.DictOf (aM P w) a vs):
 ObjOk P w H' h' a (.dK kvs):=⟨z,hd,vs,rel,dd⟩
end
section
variable {X:Cx} {pins:List (Addr×Obj)} {σ:St} {H:Hp} {s:Shared} {a:Addr} {kvs:List (Key×V)} {k:Key} {u:Value} {A:Around} {E:Value→Shared→Prop}
end
section
variable {X:Cx} {o i e value:Expr} {pos pos' tpos:Pos} {td ty tv:TE}
end
theorem ko {P:Program} {w:World} {H:Hp} (h:Heap) (hb:sysModules < h.objs.size):ObjOk P w H (h.push {cls:= .type "dict",data:= .dict #[]}) h.objs.size (.dK []):=
 ⟨zf _,beq_eq_false_iff_ne.mpr (Ne.symm (yZ hb)),[], .nil,Heap.DictOf.new h⟩
def vI:TE:=fun _ H Q=>∀p,H p=none→Q (.ref p) (upd H p (.dK []))
section
variable {X:Cx} {pos:Pos}
theorem rD:PE X (.Dict [] [] pos) vI:=fun pins s σ H Q I h=>
 wpAny_Dict_empty ⟨.ref s.heap.objs.size,_,I.laid (a:=s.heap.objs.size) (o:= .dK []) (t':=s.toks) (fun _ _ q=>Heap.get?_push_of_some _ q) (yP _) (ko s.heap I.big),rfl,h _ (I.hok.fresh (yP _))⟩
end
structure M1 (X:Cx) (o:Expr) (m:Str) (apos:Pos) (e:Expr) (cpos:Pos):Prop where
 base:attributeBase o m X.env (eval o X.env)=eval o X.env
 few:((backTo cpos (starEach [e] X.env)).all (fun x=> !x.1)&& (backToKw cpos (keywordEach [] X.env)).all (fun x=>x.1.isSome)
  &&decide (([e]:List Expr).length+([]:List Keyword).length+(if ([]:List Keyword).isEmpty then 0 else 1) < 30))=true
 line:(apos.endLine==cpos.line)=true
 trees:backTo cpos (starEach [e] X.env)= [(false,eval e X.env)]
structure M2 (X:Cx) (o:Expr) (m:Str) (apos:Pos) (e f:Expr) (cpos:Pos):Prop where
 base:attributeBase o m X.env (eval o X.env)=eval o X.env
 few:((backTo cpos (starEach [e,f] X.env)).all (fun x=> !x.1)&& (backToKw cpos (keywordEach [] X.env)).all (fun x=>x.1.isSome)
  &&decide (([e,f]:List Expr).length+([]:List Keyword).length+(if ([]:List Keyword).isEmpty then 0 else 1) < 30))=true
 line:(apos.endLine==cpos.line)=true
 trees:backTo cpos (starEach [e,f] X.env)= [(false,eval e X.env),(false,eval f X.env)]
def IsD (H:Hp) (a:Addr):Prop:=(∃kvs,Rd H a (.dK kvs))∨∃kvs,Rd H a (.dT kvs)
theorem xk {X:Cx} {pins:List (Addr×Obj)} {σ:St} {H:Hp} {s:Shared} {a:Addr} (I:Inv X pins σ H s) (d:IsD H a):
 s.TypeIs (.ref a) "dict"∧(∀b,Value.ref a= .ref b→∃ob,s.heap.get? b=some ob∧ob.dict=none)∧(a==sysModules)=false:=by
 rcases d with ⟨kvs,e⟩|⟨kvs,e⟩
 · obtain ⟨_,hd,vs,_,dd⟩:=sU I.hok e;refine ⟨dd.typeIs,fun b q=> ?_,hd⟩;cases q;obtain ⟨ob,_,_,h1,h2,_⟩:=dd;exact ⟨ob,h1,h2.2.1⟩
 · obtain ⟨_,hd,xs,_,dd⟩:=vt I.hok e;refine ⟨dd.typeIs,fun b q=> ?_,hd⟩;cases q;obtain ⟨ob,_,_,h1,h2,_⟩:=dd;exact ⟨ob,h1,h2.2.1⟩
section
variable {X:Cx} {pins:List (Addr×Obj)} {σ:St} {H:Hp} {s:Shared} {a:Addr} {y d:V} {u r:Value} {o:Option V} {A:Around} {E:Value→Shared→Prop}
theorem xz {Q:Value→Shared→Prop} (hu:A.units+1 < cLine) (I:Inv X pins σ H s) (g:DGet H a y o) (ry:RelV y u) (rd:RelV d r) (h:∀w' s',Inv X pins σ H s'→RelV (o.getD d) w'→Q w' s'):
 wpAny (model X.prog X.w) A (call (.builtin "dict.get") [.ref a,u,r]) Q E s:=by
 rcases g with ⟨kvs,k,e,ey,l⟩|⟨kvs,k,b,e,ey,eb,l⟩
 · subst ey;obtain ⟨z,hd,vs,rel,dd⟩:=sU I.hok e;refine call_meetsIn PySem.F.slot_dict_get dd.typeIs PySem.F.entry_dict_get (PySem.F.args_dict_get_3 _ _ _) (meets_dict_get_default (aM X.prog X.w) a (nF ry) hd r) ⟨_,dd.mapOf,h _ _ (I.tok _) ?_⟩;rw [l];exact (rel.val k).getD rd
 · subst ey;cases (show u=Value.ref b from ry);obtain ⟨z,hd,xs,rel,dd⟩:=vt I.hok e;refine call_meetsIn PySem.F.slot_dict_get dd.typeIs PySem.F.entry_dict_get (PySem.F.args_dict_get_3 _ _ _) (meetsH_dict_get_default (tupleKind (aM X.prog X.w)) a b hd r) ⟨tupleKind_room_in1 hu,k,xs,sy I.hok eb,dd,h _ _ (I.tok _) ?_⟩;rw [l];exact (rel.val k).getD rd
end
def vJ (td ty tx:TE):TE:=fun σ H Q=>td σ H fun x H1=>∃a,x= .ref a∧IsD H1 a∧ty σ H1 fun y H2=>tx σ H2 fun z H3=>∃o,DGet H3 a y o∧Q (o.getD z) H3
section
variable {X:Cx} {o e f:Expr} {apos cpos:Pos} {td ty tx:TE}
theorem rG (hu:X.A.units+1 < cLine) (ho:PE X o td) (he:PE X e ty) (hf:PE X f tx) (m:M2 X o "get" apos e f cpos):PE X (.Call (.Attribute o "get" apos) [e,f] [] cpos) (vJ td ty tx):=by
 intro pins s σ H Q I h;refine wpAny_Call_method m.base m.few m.line PySem.F.plainAttrs_dict PySem.F.slot_dict_get PySem.F.type_dict_get (thn (ho pins s σ H _ I h) fun u s1 ⟨x,H1,I1,rx,a,ex,d,q1⟩=> ?_);subst ex;obtain rfl:u=Value.ref a:=rx;obtain ⟨t1,t2,_⟩:=xk I1 d;refine ⟨t1,t2,?_⟩;rw [m.trees]
 refine Calls.callWith_builtin rfl (Calls.evalArgs_plain (Calls.spliced_cons (thn (he pins s1 σ H1 _ I1 q1) fun iv s2 ⟨y,H2,I2,ry,q2⟩=>
  Calls.spliced_cons (thn (hf pins s2 σ H2 _ I2 q2) fun fv s3 ⟨z,H3,I3,rz,ov,g,q3⟩=>Calls.spliced_nil ?_))))
 exact xz hu I3 g ry rz fun w' s4 I4 rw'=>⟨_,H3,I4,rw',q3⟩
end
section
variable {X:Cx} {pins:List (Addr×Obj)} {σ:St} {H:Hp} {s:Shared} {a:Addr} {kvs:List (Key×V)} {A:Around} {E:Value→Shared→Prop}
end
section
variable {X:Cx} {pins:List (Addr×Obj)} {σ:St} {H:Hp} {s:Shared} {a:Addr} {y:V} {u:Value} {A:Around} {E:Value→Shared→Prop}
end
open PySem PySem.Spec PyProof.Rows
def kZ (J:It) (D:Addr) (te:TE) (rest:L2.St) (Q:VK) (H1:Hp):Prop:=
 ∃W:Nat→Nat→List V→Hp→Prop,(∃m,W 0 m [] (upd H1 D (.lst [])))∧∀i m acc H2,W i m acc H2→
  (J.stop i H2∧Q (.ref D) H2)∨
  (J.go i H2∧∀x H3,J.yld i H2 x H3→aG 0 x (none::rest) H3 fun σ4 H4=>Ext (none::rest) σ4∧cJ σ4 H4 fun b H5=>if b=true then te σ4 H5 fun v H6=>H6 D=some (.lst acc)∧acc.length < sizeLine∧∃m',m' < m∧W (i+1) m' (acc++ [v]) (upd H6 D (.lst (acc++ [v])))
   else∃m',m' < m∧W (i+1) m' acc H5)
theorem bN {mp:List (Option Nat)} {wi:TI} {te:TE} {σ rest:L2.St} {H:Hp} {Q:VK} (e:subS mp σ=none::rest) (h:wi σ H fun J H1=>∀D,H1 D=none→kZ J D te rest Q H1):cz mp wi (aG 0) cJ te σ H Q:=by
 unfold cz;rw [e];exact h
def CompN (n i:Nat) (D:Addr) (acc:List V) (Pv:Nat→List V→Hp→Prop):VK:=fun v H6=>H6 D=some (.lst acc)∧acc.length < sizeLine∧∃m',m' < n - i∧(m'=n - (i+1)∧i+1≤n∧Pv (i+1) (acc++ [v]) (upd H6 D (.lst (acc++ [v]))))
theorem CompN.mk {n i:Nat} {D:Addr} {acc:List V} {Pv:Nat→List V→Hp→Prop} {v:V} {H6:Hp} (hi:i < n) (hl:acc.length < sizeLine) (h1:H6 D=some (.lst acc)) (h2:Pv (i+1) (acc++ [v]) (upd H6 D (.lst (acc++ [v])))):CompN n i D acc Pv v H6:=
 ⟨h1,hl,n - (i+1),by omega,rfl,hi,h2⟩
theorem jE {J:It} {D:Addr} {te:TE} {rest:L2.St} {Q:VK} {H1:Hp} (n:Nat) (Pv:Nat→List V→Hp→Prop) (h0:Pv 0 [] (upd H1 D (.lst [])))
 (hgo:∀i acc H,i < n→Pv i acc H→J.go i H)
 (hs:∀i x acc H H',i < n→Pv i acc H→J.yld i H x H'→te (some x::rest) H' (CompN n i D acc Pv))
 (hd:∀acc H,Pv n acc H→J.stop n H∧Q (.ref D) H):kZ J D te rest Q H1:=by
 refine ⟨fun i m acc H=>m=n - i∧i≤n∧Pv i acc H,⟨n,by simp,zf _,h0⟩,?_⟩
 rintro i m acc H ⟨rfl,hi,p⟩;by_cases hlt:i < n
 · refine .inr ⟨hgo i acc H hlt p,fun x H' y=> ?_⟩;refine ⟨ext1,?_⟩;show (if true=true then te (some x::rest) H' (CompN n i D acc Pv) else∃m',m' < n - i∧(m'=n - (i+1)∧i+1≤n∧Pv (i+1) acc H'));exact iteT (hs i x acc H H' hlt p y)
 · have e:i=n:=by omega
   subst e;exact .inl (hd acc H p)
theorem ky {K:PySem.W.Frag} {a D:Addr} {xs:List V} {te:TE} {rest:L2.St} {Q:VK} {H1:Hp} (Pv:Nat→List V→Hp→Prop) (h0:Pv 0 [] (upd H1 D (.lst [])))
 (hl:∀i acc H,Pv i acc H→SqT K H a xs)
 (hs:∀i x acc H,i < xs.length→xs[i]?=some x→Pv i acc H→te (some x::rest) H (CompN xs.length i D acc Pv))
 (hd:∀acc H,Pv xs.length acc H→Q (.ref D) H):kZ (Itt K a) D te rest Q H1:=by
 refine jE xs.length Pv h0 (fun i acc H hi p=>⟨xs,xs[i],hl i acc H p,by simp [hi]⟩) (fun i x acc H H' hi p y=> ?_) fun acc H p=>⟨⟨xs,hl _ acc H p,yP _⟩,hd acc H p⟩
 obtain ⟨e,y⟩:=y;subst e;exact hs i x acc _ hi (y xs (hl i acc _ p)) p
theorem bG {K:PySem.W.Frag} {a D:Addr} {xs:List V} {te:TE} {rest:L2.St} {Q:VK} {H1:Hp} (Pv:Nat→List V→Hp→Prop) (h0:Pv 0 [] (upd H1 D (.lst [])))
 (hl:∀i acc H,Pv i acc H→SqL K H a xs)
 (hs:∀i x acc H,i < xs.length→xs[i]?=some x→Pv i acc H→te (some x::rest) H (CompN xs.length i D acc Pv))
 (hd:∀acc H,Pv xs.length acc H→Q (.ref D) H):kZ (Itl K a) D te rest Q H1:=by
 refine jE xs.length Pv h0 (fun i acc H hi p=>⟨xs,xs[i],hl i acc H p,by simp [hi]⟩) (fun i x acc H H' hi p y=> ?_) fun acc H p=>⟨⟨xs,hl _ acc H p,yP _⟩,hd acc H p⟩
 obtain ⟨e,y⟩:=y;subst e;exact hs i x acc _ hi (y xs (hl i acc _ p)) p
theorem m9 {n:Nat} {D:Addr} {te:TE} {rest:L2.St} {Q:VK} {H1:Hp} (Pv:Nat→List V→Hp→Prop) (h0:Pv 0 [] (upd H1 D (.lst [])))
 (hs:∀(i:Nat) acc H,i < n→Pv i acc H→te (some (.int (0+(i:Int)))::rest) H (CompN n i D acc Pv))
 (hd:∀acc H,Pv n acc H→Q (.ref D) H):kZ (Itr 0 n) D te rest Q H1:=by
 refine jE n Pv h0 (fun i acc H hi p=>hi) (fun i x acc H H' hi p y=> ?_) fun acc H p=>⟨yP _,hd acc H p⟩;obtain ⟨e,y⟩:=y;subst e y;exact hs i acc _ hi p
end L2
namespace Dj
open PySem PySem.Spec PyProof.Rows L2 Tre
def SqX (K:PySem.W.Frag) (H:Hp) (a:Addr) (xs:List V):Prop:=
 H a=some (.tup xs)∨∃(o:Obj) (its:Array Value) (n:Nat),K.lookup a=some o∧o.cls= .type "tuple"∧o.data= .seq its n∧its.size≤sizeLine∧Vals xs its.toList
theorem SqX.sq {K:PySem.W.Frag} {H:Hp} {a:Addr} {xs:List V} (h:SqX K H a xs):SqT K H a xs:=h.elim (fun e=> .inl (.inl e)) .inr
theorem SqX.mono {K:PySem.W.Frag} {H H':Hp} {a:Addr} {xs:List V} (d:Kd H H') (h:SqX K H a xs):SqX K H' a xs:=h.elim (fun e=> .inl (d.tup _ _ e)) .inr
mutual
def KVt (K:PySem.W.Frag) (H:Hp):V→Tk.KT→Prop
 |v, .lf (.inl i)=>v= .int i
 |v, .lf (.inr x)=>v= .str x
 |v, .tp ts=>∃r vs,v= .ref r∧SqX K H r vs∧KVts K H vs ts
def KVts (K:PySem.W.Frag) (H:Hp):List V→List Tk.KT→Prop
 |vs,[]=>vs= []
 |vs,t::ts=>∃v r,vs=v::r∧KVt K H v t∧KVts K H r ts
end
section
variable {P:Program} {w:World} {K:PySem.W.Frag} {H H':Hp} {h:Heap}
mutual
theorem KVt.mono (d:Kd H H'):∀ {v:V} {t:Tk.KT},KVt K H v t→KVt K H' v t
 |v, .lf (.inl i),a=>by unfold KVt at a ⊢;exact a
 |v, .lf (.inr x),a=>by unfold KVt at a ⊢;exact a
 |v, .tp ts,a=>by
  unfold KVt at a ⊢;obtain ⟨r,vs,e,s,q⟩:=a;exact ⟨r,vs,e,s.mono d,KVts.mono d q⟩
theorem KVts.mono (d:Kd H H'):∀ {vs:List V} {ts:List Tk.KT},KVts K H vs ts→KVts K H' vs ts
 |vs,[],a=>by unfold KVts at a ⊢;exact a
 |vs,t::ts,a=>by
  unfold KVts at a ⊢;obtain ⟨v,r,e,a1,a2⟩:=a;exact ⟨v,r,e,KVt.mono d a1,KVts.mono d a2⟩
end
theorem vK (ok:HOk P w H h) (kin:K.In h) {q:Addr} {vs:List V} (e:SqX K H q vs):∃its:List Value,Vals vs its∧∃o n,h.get? q=some o∧o.cls= .type "tuple"∧o.data= .seq its.toArray n:=by
 rcases e with e|⟨o,its,n,hk,hc,hs,hz,r⟩
 · obtain ⟨_,its,rv,o,h1,h2,n,h3⟩:=(show ObjOk P w H h q (.tup vs) from ok q _ e);exact ⟨its,rv,o,n,h1,h2,h3⟩
 · exact ⟨its.toList,r,o,n,kin q o hk,hc,by simpa using hs⟩
mutual
theorem sF (ok:HOk P w H h) (kin:K.In h):∀ {v:V} {t:Tk.KT} {u:Value},KVt K H v t→RelV v u→Tk.KAt h u t
 |v, .lf (.inl i),u,a,r=>by
  unfold KVt at a;subst a;obtain ⟨t,rfl⟩:=r;simp only [Tk.KAt];exact iJ i t
 |v, .lf (.inr x),u,a,r=>by
  unfold KVt at a;subst a;obtain ⟨t,rfl⟩:=r;simp only [Tk.KAt];exact iH x t
 |v, .tp ts,u,a,r=>by
  unfold KVt at a;obtain ⟨q,vs,rfl,e,as⟩:=a;obtain rfl:u=Value.ref q:=r;obtain ⟨its,rv,o,n,h1,h2,h3⟩:=vK ok kin e;simp only [Tk.KAt];exact ⟨q,o,its.toArray,n,rfl,h1,h2,h3,by simpa using kats_of ok kin as rv⟩
theorem kats_of (ok:HOk P w H h) (kin:K.In h):∀ {vs:List V} {ts:List Tk.KT} {us:List Value},KVts K H vs ts→Vals vs us→Tk.KsAt h us ts
 |vs,[],us,a,r=>by
  unfold KVts at a;subst a;cases r;simp [Tk.KsAt]
 |vs,t::ts,us,a,r=>by
  unfold KVts at a;obtain ⟨v,q,rfl,a1,a2⟩:=a
  cases r with
  |cons r1 r2=>
   simp only [Tk.KsAt];exact ⟨_,_,rfl,sF ok kin a1 r1,kats_of ok kin a2 r2⟩
end
end
def KeyAt (K:PySem.W.Frag) (H:Hp) (k:List Tk.KT) (b:Addr):Prop:=∃vs,SqX K H b vs∧KVts K H vs k∧(Tk.KT.tp k).depth≤8
theorem KeyAt.mono {K:PySem.W.Frag} {H H':Hp} {k:List Tk.KT} {b:Addr} (d:Kd H H') (h:KeyAt K H k b):KeyAt K H' k b:=by
 obtain ⟨ts,h1,h2,h3⟩:=h;exact ⟨ts,h1.mono d,h2.mono d,h3⟩
theorem KeyAt.is {P:Program} {w:World} {K:PySem.W.Frag} {H:Hp} {h:Heap} {k:List Tk.KT} {b:Addr} (ok:HOk P w H h) (kin:K.In h) (x:KeyAt K H k b):(Tk.treeKind P w).is h k b:=by
 obtain ⟨vs,h1,h2,h4⟩:=x;have:=sF ok kin (v:= .ref b) (t:= .tp k) (u:= .ref b) (by unfold KVt;exact ⟨b,vs,rfl,h1,h2⟩) rfl
 exact ⟨this,h4⟩
abbrev Ent:=List Tk.KT×Addr×V
abbrev RE:List Ent→List (List Tk.KT×Addr×Value)→Prop:=Paired fun p q=>p.1=q.1∧p.2.1=q.2.1∧RelV p.2.2 q.2.2
noncomputable def dJ (P:Program) (w:World) (a:Addr) (kvs:List Ent):HO:= .ext fun h=>kvs.length≤sizeLine∧(a==sysModules)=false∧
 ∃xs:List (List Tk.KT×Addr×Value),RE kvs xs∧∃o es ep,h.get? a=some o∧o.ExactDict∧o.data= .dict es ep∧es.toList=xs.map (entryOfKey (Tk.treeKind P w))∧(xs.map (·.1)).Nodup
structure DJ (P:Program) (w:World) (K:PySem.W.Frag) (H:Hp) (a:Addr) (kvs:List Ent):Prop where
 at_:H a=some (dJ P w a kvs)
 keys:∀p∈kvs,KeyAt K H p.1 p.2.1
noncomputable def valJ (kvs:List Ent) (k:List Tk.KT):Option V:=(kvs.find? fun p=>decide (p.1=k)).map (·.2.2)
noncomputable def putJ (kvs:List Ent) (k:List Tk.KT) (b:Addr) (v:V):List Ent:=
 if (valJ kvs k).isSome then kvs.map (fun p=>if p.1=k then (p.1,p.2.1,v) else p) else kvs++ [(k,b,v)]
theorem jI {p:Ent} {r:List Ent} {k:List Tk.KT} (e:p.1=k):valJ (p::r) k=some p.2.2:=by simp [valJ,zT,e]
theorem gO {p:Ent} {r:List Ent} {k:List Tk.KT} (e:¬p.1=k):valJ (p::r) k=valJ r k:=by simp [valJ,zT,e]
theorem fZ (kvs:List Ent) (k:List Tk.KT) (b:Addr) (v:V):(putJ kvs k b v).length≤kvs.length+1:=by
 unfold putJ;split
 · rw [yM];omega
 · rw [z7,za,List.length_nil];omega
theorem RE.val {kvs:List Ent} {xs:List (List Tk.KT×Addr×Value)} (r:RE kvs xs) (k:List Tk.KT):RelO (valJ kvs k) ((atKey xs k).map (·.2)):=by
 induction r with
 |nil=>exact True.intro
 | @cons p q ps qs h t ih=>
  obtain ⟨h1,_,h2⟩:=h;by_cases e:p.1=k
  · have e':q.1=k:=h1.symm.trans e;have b:atKey (q::qs) k=some q.2:=by simp [atKey,zT,e']
    rw [jI e,b];exact h2
  · have e':¬q.1=k:=fun z=>e (h1.trans z);have b:atKey (q::qs) k=atKey qs k:=by simp [atKey,zT,e']
    rw [gO e,b];exact ih
theorem RE.repl {kvs:List Ent} {xs:List (List Tk.KT×Addr×Value)} (r:RE kvs xs) (k:List Tk.KT) {y:V} {u:Value} (ry:RelV y u):
 RE (kvs.map fun p=>if p.1=k then (p.1,p.2.1,y) else p) (xs.map (putAt k u)):=by
 induction r with
 |nil=>exact .nil
 | @cons p q ps qs h t ih=>
  rw [zc,zc];refine .cons ?_ ih;obtain ⟨h1,h2,h3⟩:=h;unfold putAt;by_cases e:p.1=k
  · rw [if_pos e,if_pos (h1.symm.trans e)];exact ⟨h1,h2,ry⟩
  · rw [if_neg e,if_neg (fun z=>e (h1.trans z))];exact ⟨h1,h2,h3⟩
theorem RE.put {kvs:List Ent} {xs:List (List Tk.KT×Addr×Value)} (r:RE kvs xs) (k:List Tk.KT) {b:Addr} {y:V} {u:Value} (ry:RelV y u):RE (putJ kvs k b y) (storedH xs k b u):=by
 have e:(valJ kvs k).isSome=(atKey xs k).isSome:=by
  rw [(r.val k).isSome_eq,Option.isSome_map]
 unfold putJ storedH;rw [e];by_cases q:(atKey xs k).isSome=true
 · rw [if_pos q,if_pos q];exact r.repl k ry
 · rw [if_neg q,if_neg q];exact Paired.snoc r ⟨rfl,rfl,ry⟩
theorem qZ {kvs:List Ent} {k:List Tk.KT} {b:Addr} {v:V} {p:Ent} (h:p∈putJ kvs k b v):(∃q∈kvs,p.1=q.1∧p.2.1=q.2.1)∨(p.1=k∧p.2.1=b):=by
 unfold putJ at h;split at h
 · obtain ⟨q,m,e⟩:=zo.mp h;split at e
   · subst e;exact .inl ⟨q,m,rfl,rfl⟩
   · subst e;exact .inl ⟨q,m,rfl,rfl⟩
 · rcases ze.mp h with m|m
   · exact .inl ⟨p,m,rfl,rfl⟩
   · rw [z5.mp m];exact .inr ⟨rfl,rfl⟩
theorem Kd.updJ {P:Program} {w:World} {H:Hp} {a:Addr} {kvs:List Ent} {o:HO} (h:H a=some (dJ P w a kvs)):Kd H (upd H a o):=by
 refine ⟨fun b zs e=> ?_,fun b zs e=>⟨zs,?_⟩⟩
 · rw [af (fun z=>by rw [z,h] at e;cases e)];exact e
 · rw [af (fun z=>by rw [z,h] at e;cases e)];exact e
theorem Kd.updK {H:Hp} {a:Addr} {kvs:List (Key×V)} {o:HO} (h:H a=some (.dK kvs)):Kd H (upd H a o):=by
 refine ⟨fun b zs e=> ?_,fun b zs e=>⟨zs,?_⟩⟩
 · rw [af (fun z=>by rw [z,h] at e;cases e)];exact e
 · rw [af (fun z=>by rw [z,h] at e;cases e)];exact e
theorem DJ.put {P:Program} {w:World} {K:PySem.W.Frag} {H:Hp} {a b:Addr} {kvs:List Ent} {k:List Tk.KT} {v:V} (d:DJ P w K H a kvs) (hk:KeyAt K H k b):DJ P w K (upd H a (dJ P w a (putJ kvs k b v))) a (putJ kvs k b v):=by
 refine ⟨a8,fun p m=> ?_⟩;refine KeyAt.mono (Kd.updJ d.at_) ?_;rcases qZ m with ⟨q,mq,e1,e2⟩|⟨e1,e2⟩
 · rw [e1,e2];exact d.keys q mq
 · rw [e1,e2];exact hk
theorem DJ.kd {P:Program} {w:World} {K:PySem.W.Frag} {H H':Hp} {a:Addr} {kvs:List Ent} (d:DJ P w K H a kvs) (k:Kd H H') (e:H' a=some (dJ P w a kvs)):DJ P w K H' a kvs:=⟨e,fun p m=>(d.keys p m).mono k⟩
section
variable {P:Program} {w:World} {H:Hp} {h:Heap} {a:Addr}
theorem nV {K:PySem.W.Frag} {kvs:List Ent} (ok:HOk P w H h) (kin:K.In h) (d:DJ P w K H a kvs):kvs.length≤sizeLine∧(a==sysModules)=false∧∃xs,RE kvs xs∧h.DictOfH (Tk.treeKind P w) a xs:=by
 obtain ⟨⟨z,y,xs,r,o,es,ep,h1,h2,h3,h4,h5⟩,_⟩:=(show ObjOk P w H h a (dJ P w a kvs) from ok a _ d.at_);refine ⟨z,y,xs,r,o,es,ep,h1,h2,h3,h4,?_,h5⟩
 have all:∀ {l:List Ent} {m:List (List Tk.KT×Addr×Value)},RE l m→(∀p∈l,KeyAt K H p.1 p.2.1)→∀x∈m,(Tk.treeKind P w).is h x.1 x.2.1:=by
  intro l m q
  induction q with
  |nil=>intro _ x hx;exact nomatch hx
  | @cons p q ps qs hq t ih=>
   intro kp x hx;rcases yV.mp hx with e|hx
   · subst e;rw [←hq.1,←hq.2.1];exact (kp p yO).is ok kin
   · exact ih (fun p m=>kp p (yR _ m)) x hx
 exact all r d.keys
theorem m4 {kvs:List Ent} {xs:List (List Tk.KT×Addr×Value)} {H':Hp} {h':Heap} (z:kvs.length≤sizeLine) (y:(a==sysModules)=false) (r:RE kvs xs)
 (d:∃o es ep,h'.get? a=some o∧o.ExactDict∧o.data= .dict es ep∧es.toList=xs.map (entryOfKey (Tk.treeKind P w))∧(xs.map (·.1)).Nodup):ObjOk P w H' h' a (dJ P w a kvs):=by
 obtain ⟨o,es,ep,h1,h2⟩:=d;refine ⟨⟨z,y,xs,r,o,es,ep,h1,h2⟩,⟨o,h1⟩,?_⟩;rintro g1 g2 ⟨z,y,xs,r,o,es,ep,h1,h2⟩ st;exact ⟨z,y,xs,r,o,es,ep,st _ h1,h2⟩
end
noncomputable def pM (P:Program) (w:World):TE:=fun _ H Q=>∀p,H p=none→Q (.ref p) (upd H p (dJ P w p []))
noncomputable def qP (P:Program) (w:World) (K:PySem.W.Frag) (td ty tv:TE):TS:=fun D σ H=>tv σ H fun v H1=>td σ H1 fun x H2=>ty σ H2 fun y H3=>∃a b k kvs,x= .ref a∧y= .ref b∧DJ P w K H3 a kvs∧KeyAt K H3 k b∧kvs.length < sizeLine∧D.nx σ (upd H3 a (dJ P w a (putJ kvs k b v)))
noncomputable def pN (P:Program) (w:World) (K:PySem.W.Frag) (td ty tx:TE):TE:=fun σ H Q=>td σ H fun x H1=>∃a kvs,x= .ref a∧DJ P w K H1 a kvs∧ty σ H1 fun y H2=>tx σ H2 fun z H3=>∃b k,y= .ref b∧DJ P w K H3 a kvs∧KeyAt K H3 k b∧Q ((valJ kvs k).getD z) H3
section
variable {X:Cx} {pos pos' apos cpos:Pos} {o i e f value:Expr} {td ty tv tx:TE}
theorem kq {P:Program} {w:World} {H:Hp} (h:Heap) (hb:sysModules < h.objs.size):ObjOk P w H (h.push {cls:= .type "dict",data:= .dict #[]}) h.objs.size (dJ P w h.objs.size []):=
 m4 (zf _) (beq_eq_false_iff_ne.mpr (Ne.symm (yZ hb))) .nil ⟨_, #[],0,Heap.get?_push_size _ rfl,⟨rfl,rfl,rfl⟩,rfl,rfl,List.nodup_nil⟩
theorem rE:PE X (.Dict [] [] pos) (pM X.prog X.w):=fun pins s σ H Q I h=>
 wpAny_Dict_empty ⟨.ref s.heap.objs.size,_,I.laid (a:=s.heap.objs.size) (o:=dJ X.prog X.w s.heap.objs.size []) (t':=s.toks) (fun _ _ q=>Heap.get?_push_of_some _ q) (yP _) (kq s.heap I.big),rfl,h _ (I.hok.fresh (yP _))⟩
theorem rj (hu:X.A.units+30 < cLine) (ho:PE X o td) (hi:PE X i ty) (hv:PE X value tv) (hs:swapsWith value (some (.Subscript o i pos')) pos.line X.env=pure false):
 PS X (.Assign [.Subscript o i pos'] value pos) (qP X.prog X.w X.K td ty tv):=by
 intro pins s σ H D I h;refine wpAny_Assign_Subscript (thn (hv pins s σ H _ I h) fun r s1 ⟨v,H1,I1,rv,q1⟩=>thn (ho pins s1 σ H1 _ I1 q1) fun u s2 ⟨x,H2,I2,rx,q2⟩=>thn (hi pins s2 σ H2 _ I2 q2) fun iv s3 ⟨y,H3,I3,ry,a,b,k,kvs,ex,ey,d,kb,hl,q3⟩=> ?_) hs;subst ex ey;obtain rfl:u=Value.ref a:=rx;obtain rfl:iv=Value.ref b:=ry;obtain ⟨z,hd,xs,rel,dd⟩:=nV I3.hok I3.kIn d;have hz:xs.length≤sizeLine:=by rw [←Paired.length rel];exact z
 have hl2:(putJ kvs k b v).length≤sizeLine:=by have:=fZ kvs k b v;omega
 refine wpAny_setItem_heap (hsz:=hz) (by show X.A.units+1+20 < cLine;omega) (kb.is I3.hok I3.kIn) dd fun h' dd' hs=>⟨σ,_,?_,q3⟩
 obtain ⟨q,es,ep,hq,h2,h3,h4,_,h5⟩:=dd';exact gG I3 (by rw [d.at_];exact True.intro) hs ⟨q,hq⟩ (m4 hl2 hd (rel.put k rv) ⟨q,es,ep,hq,h2,h3,h4,h5⟩)
theorem rF (hu:X.A.units+30 < cLine) (ho:PE X o td) (he:PE X e ty) (hf:PE X f tx) (m:M2 X o "get" apos e f cpos):PE X (.Call (.Attribute o "get" apos) [e,f] [] cpos) (pN X.prog X.w X.K td ty tx):=by
 intro pins s σ H Q I h;refine wpAny_Call_method m.base m.few m.line PySem.F.plainAttrs_dict PySem.F.slot_dict_get PySem.F.type_dict_get (thn (ho pins s σ H _ I h) fun u s1 ⟨x,H1,I1,rx,a,kvs,ex,d,q1⟩=> ?_);subst ex;obtain rfl:u=Value.ref a:=rx
 have ty0:s1.TypeIs (.ref a) "dict"∧∀b,Value.ref a= .ref b→∃ob,s1.heap.get? b=some ob∧ob.dict=none:=by
  obtain ⟨_,_,xs,_,dd⟩:=nV I1.hok I1.kIn d;refine ⟨dd.typeIs,fun b q=> ?_⟩;cases q;obtain ⟨ob,_,_,h1,h2,_⟩:=dd;exact ⟨ob,h1,h2.2.1⟩
 refine ⟨ty0.1,ty0.2,?_⟩;rw [m.trees]
 refine Calls.callWith_builtin rfl (Calls.evalArgs_plain (Calls.spliced_cons (thn (he pins s1 σ H1 _ I1 q1) fun iv s2 ⟨y,H2,I2,ry,q2⟩=>
  Calls.spliced_cons (thn (hf pins s2 σ H2 _ I2 q2) fun fv s3 ⟨z,H3,I3,rz,b,k,ey,d3,kb,q3⟩=>Calls.spliced_nil ?_))))
 subst ey;obtain rfl:iv=Value.ref b:=ry;obtain ⟨_,hd,xs,rel,dd⟩:=nV I3.hok I3.kIn d3;exact call_meetsIn PySem.F.slot_dict_get dd.typeIs PySem.F.entry_dict_get (PySem.F.args_dict_get_3 _ _ _) (meetsH_dict_get_default (Tk.treeKind X.prog X.w) a b hd fv) ⟨by show X.A.units+1+20 < cLine;omega,k,xs,kb.is I3.hok I3.kIn,dd,⟨_,H3,I3.tok _,(rel.val k).getD rz,q3⟩⟩
variable {P:Program} {w:World} {K:PySem.W.Frag}
theorem pe_newJ (hP:X.prog=P) (hw:X.w=w):PE X (.Dict [] [] pos) (pM P w):=by
 subst hP hw;exact rE
theorem ps_putJ (hP:X.prog=P) (hw:X.w=w) (hK:X.K=K) (hu:X.A.units+30 < cLine) (ho:PE X o td) (hi:PE X i ty) (hv:PE X value tv) (hs:swapsWith value (some (.Subscript o i pos')) pos.line X.env=pure false):
 PS X (.Assign [.Subscript o i pos'] value pos) (qP P w K td ty tv):=by
 subst hP hw hK;exact rj hu ho hi hv hs
theorem pe_getJ (hP:X.prog=P) (hw:X.w=w) (hK:X.K=K) (hu:X.A.units+30 < cLine) (ho:PE X o td) (he:PE X e ty) (hf:PE X f tx) (m:M2 X o "get" apos e f cpos):PE X (.Call (.Attribute o "get" apos) [e,f] [] cpos) (pN P w K td ty tx):=by
 subst hP hw hK;exact rF hu ho he hf m
end
end Dj
namespace Tre
open PySem L2
theorem gW {x y:Str} (h:x.cps.toList=y.cps.toList):x=y:=by
 cases x;cases y;simp only [Str.mk.injEq];exact Array.toList_inj.mp h
theorem fj {ts us:List Tr} (h:∀t∈ts,∀u∈us,code t=code u→t=u) (e:codes ts=codes us):ts=us:=by
 induction ts generalizing us with
 |nil=>cases us with
  |nil=>rfl
  |cons u us=>simp [codes] at e
 |cons t ts ih=>
  cases us with
  |nil=>simp [codes] at e
  |cons u us=>
   simp only [codes,Ab] at e;rw [h t yO u yO e.1,ih (fun a ma b mb=>h a (yR _ ma) b (yR _ mb)) e.2]
theorem nl {x y:String} (h:(Str.ofString x).cps.toList≠(Str.ofString y).cps.toList) {r s:List Co}:Co.tup (.str (Str.ofString x).cps.toList::r)=Co.tup (.str (Str.ofString y).cps.toList::s)→False:=fun e=>by
 simp only [Co.tup.injEq,Ab,Co.str.injEq] at e;exact h e.1
theorem xF:∀(n:Nat) {k:So} {t u:Tr},t.depth≤n→Ty k t→Ty k u→code t=code u→t=u:=by
 intro n
 induction n with
 |zero=>
  intro k t u hd h1 h2;cases h1<;>simp [Tr.depth] at hd
 |succ n ih=>
  intro k t u hd h1 h2 e
  have sub:∀ {ts:List Tr} {t:Tr},(Tr.tup ts).depth≤n+1→t∈ts→t.depth≤n:=fun h m=>by
   unfold Tr.depth at h;have:=bv m;omega
  have sub2:∀ {ts l:List Tr} {t:Tr},(Tr.tup ts).depth≤n+1→Tr.tup l∈ts→t∈l→t.depth≤n:=fun h m m2=>by
   have h3:=sub h m;unfold Tr.depth at h3;have:=bv m2;omega
  cases h1<;>cases h2<;>simp only [code,codes] at e
  all_goals first
   |exact (nl (by decide +kernel) e).elim
   |skip
  all_goals simp only [Co.tup.injEq,Ab,Co.str.injEq,Co.num.injEq,and_true,true_and] at e
  · rw [gW e]
  · rename_i x ts _ h1 y us _ h2;rw [gW e.1,fj (fun a ma b mb=>ih (sub2 hd (by simp) ma) (h1 a ma) (h2 b mb)) e.2]
  · rw [e.1,e.2]
  · rename_i t1 f1 a1 b1 t2 f2 a2 b2;rw [ih (sub hd (by simp)) a1 a2 e.1,ih (sub hd (by simp)) b1 b2 e.2]
  · rw [gW e]
  · rename_i p1 f1 a1 b1 p2 f2 a2 b2;rw [fj (fun a ma b mb=>ih (sub2 hd (by simp) ma) (a1 a ma) (a2 b mb)) e.1,ih (sub hd (by simp)) b1 b2 e.2]
  · rename_i t1 u1 a1 b1 t2 u2 a2 b2;rw [ih (sub hd (by simp)) a1 a2 e.1,ih (sub hd (by simp)) b1 b2 e.2]
  · rename_i w1 a1 w2 a2;rw [ih (sub hd (by simp)) a1 a2 e]
  · rename_i l1 a1 l2 a2;rw [fj (fun a ma b mb=>ih (sub2 hd (by simp) ma) (a1 a ma) (a2 b mb)) e]
  · rename_i l1 a1 l2 a2;rw [fj (fun a ma b mb=>ih (sub2 hd (by simp) ma) (a1 a ma) (a2 b mb)) e]
  · rename_i w1 b1 a1 w2 b2 a2
    have e2:b1=b2:=by
     have:=e.2;cases b1<;>cases b2<;>simp at this ⊢
    rw [ih (sub hd (by simp)) a1 a2 e.1,e2]
end Tre
namespace Wd
open PySem L2 Tre Mth Dj
def Lt2 (e:Nat) (x:Int):Prop:=x.natAbs < 2^e
theorem Lt2.mono {m n:Nat} {x:Int} (h:Lt2 m x) (hn:m≤n):Lt2 n x:=zd h (zN (by decide) hn)
theorem Lt2.big {n:Nat} {x:Int} (h:Lt2 n x) (hn:n≤8000):Big x:=h.mono hn
theorem Lt2.div {e:Nat} {x y:Int} (h:Lt2 e x):Lt2 e (x / y):=z6 (cM x y) h
theorem Lt2.mul {m n:Nat} {x y:Int} (h1:Lt2 m x) (h2:Lt2 n y):Lt2 (m+n) (x*y):=by
 unfold Lt2 at*;rw [zr,Nat.pow_add];exact Nat.mul_lt_mul'' h1 h2
theorem Lt2.add {m:Nat} {x y:Int} (h1:Lt2 m x) (h2:Lt2 m y):Lt2 (m+1) (x+y):=by
 unfold Lt2 at*;have:=Int.natAbs_add_le x y;rw [Nat.pow_succ];omega
theorem mX {m n:Nat} {a b c d:Int} (ha:Lt2 m a) (hb:Lt2 m b) (hc:Lt2 n c) (hd:Lt2 n d):Lt2 (m+n+1) (pX a b c d)∧Lt2 (m+n+1) (pY a b c d):=by
 refine ⟨?_,?_⟩
 · unfold pX;refine Lt2.div ?_;unfold pT;refine Lt2.add (ha.mul hd.div) ?_;rw [Nat.add_comm];exact hc.mul hb.div
 · unfold pY;exact (hb.div.mul hd.div).mono (by omega)
theorem jM {m n:Nat} {a b c d:Int} (ha:Lt2 m a) (hb:Lt2 m b) (hc:Lt2 n c) (hd:Lt2 n d):Lt2 (m+n) (tX a b c d)∧Lt2 (m+n) (tY a b c d):=⟨ha.div.mul hc.div,hb.div.mul hd.div⟩
theorem rn {a b c d:Int} (hb:0 < b) (hd:0 < d):0 < pY a b c d:=by
 have g0:(0:Int) < (Int.gcd b d:Int):=by
  have:=zj b (show d≠0 by omega)
  omega
 have e0:(0:Int) < pE a b c d:=by
  have:=zj (pT a b c d) (show (Int.gcd b d:Int)≠0 by omega)
  unfold pE;omega
 unfold pY;have h1:0 < b / (Int.gcd b d:Int):=Int.ediv_pos_of_pos_of_dvd hb (by omega) (Int.gcd_dvd_left b d)
 have h2:0 < d / pE a b c d:=by
  refine Int.ediv_pos_of_pos_of_dvd hd (by omega) ?_
  unfold pE;exact Int.dvd_trans (Ae (pT a b c d) (Int.gcd b d:Int)) (Ae b d)
 exact Int.mul_pos h1 h2
theorem ou {a b c d:Int} (hb:0 < b) (hd:0 < d):0 < tY a b c d:=by
 have g1:(0:Int) < (Int.gcd c b:Int):=by
  have:=zj c (show b≠0 by omega)
  omega
 have g2:(0:Int) < (Int.gcd a d:Int):=by
  have:=zj a (show d≠0 by omega)
  omega
 unfold tY;exact Int.mul_pos (Int.ediv_pos_of_pos_of_dvd hb (by omega) (Ae c b)) (Int.ediv_pos_of_pos_of_dvd hd (by omega) (Ae a d))
abbrev Fr:=Int×Int
noncomputable def frT (p:Fr):Tr:= .tup [.int p.1, .int p.2]
noncomputable def frK (p:Fr):Tk.KT:= .tp [.lf (.inl p.1), .lf (.inl p.2)]
structure Gf (e:Nat) (p:Fr):Prop where
 pos:0 < p.2
 top:Lt2 e p.1
 bot:Lt2 e p.2
theorem Gf.mono {m n:Nat} {p:Fr} (h:Gf m p) (hn:m≤n):Gf n p:=⟨h.pos,h.top.mono hn,h.bot.mono hn⟩
noncomputable def zero:Fr:=(0,1)
def Gv (p:Fr):Prop:=Gf 200 p∧eg p.1 p.2
theorem uH:Gf 200 zero:=⟨by decide,by show (0:Nat) < 2^200;exact Nat.pow_pos (by decide),by show (1:Nat) < 2^200;decide +kernel⟩
theorem nO:Gv zero:=⟨uH,by decide,by decide⟩
noncomputable def dR (p q:Fr):Fr:=(pX p.1 p.2 q.1 q.2,pY p.1 p.2 q.1 q.2)
noncomputable def cC (p q:Fr):Fr:=(tX p.1 p.2 q.1 q.2,tY p.1 p.2 q.1 q.2)
theorem Gf.plus {m n:Nat} {p q:Fr} (h1:Gf m p) (h2:Gf n q):Gf (m+n+1) (dR p q):=⟨rn h1.pos h2.pos,(mX h1.top h1.bot h2.top h2.bot).1,(mX h1.top h1.bot h2.top h2.bot).2⟩
theorem Gf.times {m n:Nat} {p q:Fr} (h1:Gf m p) (h2:Gf n q):Gf (m+n) (cC p q):=⟨ou h1.pos h2.pos,(jM h1.top h1.bot h2.top h2.bot).1,(jM h1.top h1.bot h2.top h2.bot).2⟩
structure Wld where
 fl:Str→Bool
 va:Str→Fr
 ca:List Tk.KT→Fr
structure Wld.Ok (W:Wld):Prop where
 va:∀x,Gv (W.va x)
 ca:∀k,Gv (W.ca k)
mutual
noncomputable def valT (W:Wld):Tr→Fr
 | .tup (_:: .str x::r)=>match r with
  | []=>W.va x
  |t::_=>W.ca [.lf (.inr x), .tp (keyT W t)]
 |_=>zero
noncomputable def keyT (W:Wld):Tr→List Tk.KT
 | .tup ts=>valsT W ts
 |_=> []
noncomputable def valsT (W:Wld):List Tr→List Tk.KT
 | []=> []
 |t::ts=>frK (valT W t)::valsT W ts
end
def Gp (p:Tr):Prop:=∃tm f,p= .tup [tm,frT f]∧Ty .tm tm∧tm.depth≤5∧Gf 603 f
inductive Gw:Tr→Prop
 |fl (x:Str):Gw (.tup [s_ "flag", .str x])
 |mo (ps:List Tr) (f:Fr):ps.length≤3→(∀p∈ps,Gp p)→Gf 900 f→Gw (.tup [s_ "most", .tup ps,frT f])
 |li (t u:Tr):Ty .tm t→Ty .tm u→t.depth≤7→u.depth≤7→Gw (.tup [s_ "like",t,u])
 |no (w:Tr):Gw w→Gw (.tup [s_ "not",w])
 |bo (l:List Tr):l.length≤3→(∀w∈l,Gw w)→Gw (.tup [s_ "both", .tup l])
 |ei (l:List Tr):l.length≤3→(∀w∈l,Gw w)→Gw (.tup [s_ "either", .tup l])
theorem Gw.ty {t:Tr} (h:Gw t):Ty .ws t:=by
 induction h with
 |fl x=>exact .fl x
 |mo ps f _ hp _=>
  refine .mo ps _ (fun p m=> ?_) (.fr _ _);obtain ⟨tm,f,rfl,h1,_⟩:=hp p m;exact .pr _ _ h1 (.fr _ _)
 |li t u h1 h2 _ _=>exact .li t u h1 h2
 |no w _ ih=>exact .no w ih
 |bo l _ _ ih=>exact .bo l ih
 |ei l _ _ ih=>exact .ei l ih
inductive Gl:Tr→Prop
 |mk (t:Tr) (b:Bool):Gw t→Gl (.tup [t, .bl b])
theorem Gl.ty {t:Tr} (h:Gl t):Ty .lt t:=by
 cases h with
 |mk t b h=>exact .lt t b h.ty
end Wd
namespace Su
open PySem L2 Tre Mth Wd
noncomputable def rv (p:Fr):Rat:=(p.1:Rat) / (p.2:Rat)
abbrev Sh (p:Fr):Prop:=eg p.1 p.2
theorem ne0 {b:Int} (h:0 < b):(b:Rat)≠0:=by
 simp only [ne_eq,Rat.intCast_eq_zero_iff];omega
theorem yn {p q:Fr} (h1:0 < p.2) (h2:0 < q.2):rv p=rv q↔p.1*q.2=q.1*p.2:=by
 have a:=ne0 h1;have b:=ne0 h2;unfold rv;constructor
 · intro h;have:(p.1:Rat)*q.2=q.1*p.2:=by grind
   exact_mod_cast this
 · intro h;have:(p.1:Rat)*q.2=q.1*p.2:=by exact_mod_cast h
   grind
theorem lK {p q:Fr} (h1:Sh p) (h2:Sh q) (e:rv p=rv q):p=q:=by
 rw [yn h1.1 h2.1] at e;obtain ⟨a,b⟩:=p;obtain ⟨c,d⟩:=q;obtain ⟨b0,g1⟩:=h1;obtain ⟨d0,g2⟩:=h2;dsimp only at*;have n1:a.natAbs*d.natAbs=c.natAbs*b.natAbs:=by rw [←zr,←zr,e]
 have g1':Nat.Coprime b.natAbs a.natAbs:=by rw [Nat.coprime_comm];exact g1
 have g2':Nat.Coprime d.natAbs c.natAbs:=by rw [Nat.coprime_comm];exact g2
 have d1:b.natAbs∣d.natAbs:=g1'.dvd_of_dvd_mul_left ⟨c.natAbs,by rw [n1,Nat.mul_comm]⟩
 have d2:d.natAbs∣b.natAbs:=g2'.dvd_of_dvd_mul_left ⟨a.natAbs,by rw [←n1,Nat.mul_comm]⟩
 have e1:=Nat.dvd_antisymm d1 d2;have e2:b=d:=by omega
 subst e2;have e3:a=c:=Int.eq_of_mul_eq_mul_right (by omega) e
 rw [e3]
theorem gw {p q:Fr} (h1:Sh p) (h2:Sh q):Sh (dR p q):=(mV h1 h2).1
theorem jh {p q:Fr} (h1:Sh p) (h2:Sh q):rv (dR p q)=rv p+rv q:=by
 obtain ⟨s,e⟩:=mV h1 h2;have a:=ne0 h1.1;have b:=ne0 h2.1;have c:=ne0 s.1;have e':((pX p.1 p.2 q.1 q.2:Int):Rat)*(p.2*q.2)=(p.1*q.2+q.1*p.2)*(pY p.1 p.2 q.1 q.2:Int):=by exact_mod_cast e
 unfold rv dR;dsimp only;grind
theorem dG {p q:Fr} (h1:Sh p) (h2:Sh q):Sh (cC p q):=(jL h1 h2).1
theorem hE {p q:Fr} (h1:Sh p) (h2:Sh q):rv (cC p q)=rv p*rv q:=by
 obtain ⟨s,e⟩:=jL h1 h2;have a:=ne0 h1.1;have b:=ne0 h2.1;have c:=ne0 s.1;have e':((tX p.1 p.2 q.1 q.2:Int):Rat)*(p.2*q.2)=p.1*q.1*(tY p.1 p.2 q.1 q.2:Int):=by exact_mod_cast e
 unfold rv cC;dsimp only;grind
theorem gp:Sh zero:=⟨by decide,by decide⟩
theorem rv_zero:rv zero=0:=by
 show ((0:Int):Rat) / ((1:Int):Rat)=0;have:((0:Int):Rat)=0:=by simp
 rw [this];grind
theorem vf {p:Fr} (h:Sh p):rv p=0↔p=zero:=by
 constructor
 · intro e;exact lK h gp (e.trans rv_zero.symm)
 · rintro rfl;exact rv_zero
abbrev Pq:=Tr×Fr
noncomputable def prT (p:Pq):Tr:= .tup [p.1,frT p.2]
open Classical in
noncomputable def tot (t:Tr):List Pq→Rat
 | []=>0
 |p::r=>(if p.1=t then rv p.2 else 0)+tot t r
theorem eh (t:Tr) (a b:List Pq):tot t (a++b)=tot t a+tot t b:=by
 induction a with
 |nil=>simp only [Ak,tot];grind
 |cons p r ih=>simp only [zv,tot,ih];grind
open Classical in
theorem j4 (t:Tr) (p:Pq):tot t [p]=if p.1=t then rv p.2 else 0:=by
 simp only [tot];grind
theorem pz {t:Tr} {a b:List Pq} (h:a.Perm b):tot t a=tot t b:=by
 induction h with
 |nil=>rfl
 |cons x _ ih=>simp only [tot,ih]
 |swap x y l=>simp only [tot];grind
 |trans _ _ h1 h2=>rw [h1,h2]
theorem eY {t:Tr}:∀ {l:List Pq},(∀p∈l,p.1≠t)→tot t l=0
 | [],_=>rfl
 |p::r,h=>by
  simp only [tot];rw [if_neg (h p yO),eY fun q m=>h q (yR _ m)];grind
abbrev Asc (us:List Pq):Prop:=us.Pairwise fun a b=>ltT a.1 b.1=true
theorem wS (t:Tr):ltT t t=false:=by
 cases e:ltT t t with
 |false=>rfl
 |true=>exact (dY e).symm.trans e |>.symm
theorem ic {t u:Tr} (h:ltT t u=true):t≠u:=fun z=>by
 rw [z,wS] at h;cases h
theorem oJ {a b c:Tr} (h1:ltT a b=true) (h2:ltT b c=true):ltT a c=true:=ltT_iff.mpr (eD (ltT_iff.mp h1) (ltT_iff.mp h2))
theorem jG {us:List Pq} (h:Asc us) {p:Pq} (m:p∈us):tot p.1 us=rv p.2:=by
 induction us with
 |nil=>cases m
 |cons q r ih=>
  obtain ⟨h1,h2⟩:=List.pairwise_cons.mp h;simp only [tot];rcases yV.mp m with e|m
  · subst e;rw [if_pos rfl,eY fun x mx=>(ic (h1 x mx)).symm];grind
  · rw [if_neg (ic (h1 p m)),ih h2 m];grind
structure Can (ps us:List Pq):Prop where
 asc:Asc us
 sh:∀p∈us,Sh p.2∧p.2≠zero
 eq:∀t,tot t us=tot t ps
theorem Can.mem {ps us vs:List Pq} (h1:Can ps us) (h2:Can ps vs) {p:Pq} (m:p∈us):p∈vs:=by
 have e1:=jG h1.asc m;rw [h1.eq,←h2.eq] at e1;have n0:rv p.2≠0:=fun z=>(h1.sh p m).2 ((vf (h1.sh p m).1).mp z);refine Classical.byContradiction fun no=> ?_;by_cases q:∀x∈vs,x.1≠p.1
 · rw [eY q] at e1;exact n0 e1.symm
 · obtain ⟨x,hx⟩:=Classical.not_forall.mp q;obtain ⟨mx,ex⟩:=Classical.not_imp.mp hx;have ex:=Classical.not_not.mp ex;have e2:=jG h2.asc mx;rw [ex,e1] at e2;have e3:=lK (h1.sh p m).1 (h2.sh x mx).1 e2;have:x=p:=Prod.ext ex e3.symm;rw [this] at mx;exact no mx
theorem tj:∀ {us vs:List Pq},Asc us→Asc vs→(∀p,p∈us↔p∈vs)→us=vs
 | [],[],_,_,_=>rfl
 | [],b::vs,_,_,h=>by
  have:=(h b).mpr yO;cases this
 |a::us,[],_,_,h=>by
  have:=(h a).mp yO;cases this
 |a::us,b::vs,h1,h2,h=>by
  obtain ⟨a1,a2⟩:=List.pairwise_cons.mp h1;obtain ⟨b1,b2⟩:=List.pairwise_cons.mp h2
  have e:a=b:=by
   rcases yV.mp ((h a).mp yO) with e|m
   · exact e
   · rcases yV.mp ((h b).mpr yO) with e|m'
     · exact e.symm
     · have:=dY (b1 a m);rw [a1 b m'] at this;cases this
  subst e;rw [tj a2 b2 fun p=> ?_];constructor
  · intro m;rcases yV.mp ((h p).mp (yR _ m)) with e|m'
    · rw [e] at m;exact absurd rfl (ic (a1 a m))
    · exact m'
  · intro m;rcases yV.mp ((h p).mpr (yR _ m)) with e|m'
    · rw [e] at m;exact absurd rfl (ic (b1 a m))
    · exact m'
theorem Can.uniq {ps us vs:List Pq} (h1:Can ps us) (h2:Can ps vs):us=vs:=tj h1.asc h2.asc fun p=>⟨h1.mem h2,h2.mem h1⟩
theorem Can.to {ps qs us:List Pq} (h:Can ps us) (e:∀t,tot t ps=tot t qs):Can qs us:=⟨h.asc,h.sh,fun t=>(h.eq t).trans (e t)⟩
structure Run (ds us:List Pq):Prop where
 asc:Asc us
 sh:∀p∈us,Sh p.2
 eq:∀t,tot t us=tot t ds
 key:∀p∈us,∃d∈ds,d.1=p.1
theorem Run.nil:Run [] []:=⟨.nil,(fun p m=>by cases m),fun t=>rfl,fun p m=>by cases m⟩
theorem Run.app {ds us:List Pq} {u:Pq} (h:Run ds us) (hl:∀p∈us,ltT p.1 u.1=true) (hs:Sh u.2):Run (ds++ [u]) (us++ [u]):=by
 refine ⟨?_,fun p m=> ?_,fun t=>by rw [eh,eh,h.eq],fun p m=> ?_⟩
 · refine List.pairwise_append.mpr ⟨h.asc,List.pairwise_singleton _ _,fun a ma b mb=> ?_⟩;rw [z5.mp mb];exact hl a ma
 · rcases ze.mp m with m|m
   · exact h.sh p m
   · rw [z5.mp m];exact hs
 · rcases ze.mp m with m|m
   · obtain ⟨d,md,e⟩:=h.key p m;exact ⟨d,zw _ md,e⟩
   · rw [z5.mp m];exact ⟨u,yX _ yO,rfl⟩
theorem Run.add {ds us:List Pq} {t:Tr} {f g:Fr} (h:Run ds (us++ [(t,f)])) (hs:Sh g):Run (ds++ [(t,g)]) (us++ [(t,dR f g)]):=by
 have hf:Sh f:=h.sh (t,f) (yX _ yO);obtain ⟨a1,_,a3⟩:=List.pairwise_append.mp h.asc;refine ⟨?_,fun p m=> ?_,fun u=> ?_,fun p m=> ?_⟩
 · refine List.pairwise_append.mpr ⟨a1,List.pairwise_singleton _ _,fun a ma b mb=> ?_⟩;rw [z5.mp mb];exact a3 a ma (t,f) yO
 · rcases ze.mp m with m|m
   · exact h.sh p (zw _ m)
   · rw [z5.mp m];exact gw hf hs
 · have e:=h.eq u;rw [eh,j4] at e;rw [eh,eh,j4,j4,←e,jh hf hs];dsimp only;by_cases z:t=u
   · simp only [if_pos z];grind
   · simp only [if_neg z];grind
 · rcases ze.mp m with m|m
   · obtain ⟨d,md,e⟩:=h.key p (zw _ m);exact ⟨d,zw _ md,e⟩
   · rw [z5.mp m];exact ⟨(t,g),yX _ yO,rfl⟩
theorem lg (t:Tr) {us:List Pq} (h:∀p∈us,Sh p.2):tot t (us.filter fun p=>decide (p.2≠zero))=tot t us:=by
 induction us with
 |nil=>rfl
 |cons p r ih=>
  have ih:=ih fun q m=>h q (yR _ m);rw [List.filter_cons];by_cases z:p.2=zero
  · have e:decide (p.2≠zero)=false:=by simp [z]
    rw [e,if_neg (by decide),ih]
    simp only [tot,z,rv_zero];grind
  · have e:decide (p.2≠zero)=true:=by simp [z]
    rw [e,if_pos rfl];simp only [tot,ih]
theorem Run.fin {ps us:List Pq} (h:Run ps us):Can ps (us.filter fun p=>decide (p.2≠zero)):=by
 refine ⟨h.asc.filter _,fun p m=> ?_,fun t=>(lg t h.sh).trans (h.eq t)⟩;obtain ⟨m1,m2⟩:=zK.mp m;exact ⟨h.sh p m1,by simpa using m2⟩
theorem uv {p q:Pq} (h:ltT p.1 q.1=true):ltT (prT p) (prT q)=true:=by
 rw [ltT_iff] at h ⊢;show LtC (.tup (code p.1::_)) (.tup (code q.1::_));simp only [LtC,LtCs];exact .inl h
theorem ny {p q:Pq} (h:ltT (prT q) (prT p)=false):ltT q.1 p.1=false:=by
 cases e:ltT q.1 p.1 with
 |false=>rfl
 |true=>rw [uv e] at h;cases h
theorem vj {t u:Tr} (h1:ltT u t=false) (h2:eqT t u=false):ltT t u=true:=by
 cases e:ltT t u with
 |true=>rfl
 |false=>rw [wU e h1] at h2;cases h2
theorem uW {t u:Tr} (h1:Ty .tm t) (h2:Ty .tm u) (h:eqT t u=true):t=u:=xF t.depth (yP _) h1 h2 ((e6 t u).mp h)
end Su
namespace L2
open PySem PySem.Spec PyProof.Rows
def mw (J:It) (D:Addr) (tc:TT) (te:TE) (rest:L2.St) (Q:VK) (H1:Hp):Prop:=
 ∃W:Nat→Nat→List V→Hp→Prop,(∃m,W 0 m [] (upd H1 D (.lst [])))∧∀i m acc H2,W i m acc H2→
  (J.stop i H2∧Q (.ref D) H2)∨
  (J.go i H2∧∀x H3,J.yld i H2 x H3→aG 0 x (none::rest) H3 fun σ4 H4=>Ext (none::rest) σ4∧tc σ4 H4 fun b H5=>if b=true then te σ4 H5 fun v H6=>H6 D=some (.lst acc)∧acc.length < sizeLine∧∃m',m' < m∧W (i+1) m' (acc++ [v]) (upd H6 D (.lst (acc++ [v])))
   else∃m',m' < m∧W (i+1) m' acc H5)
theorem ck {mp:List (Option Nat)} {wi:TI} {tc:TT} {te:TE} {σ rest:L2.St} {H:Hp} {Q:VK} (e:subS mp σ=none::rest) (h:wi σ H fun J H1=>∀D,H1 D=none→mw J D tc te rest Q H1):cz mp wi (aG 0) tc te σ H Q:=by
 unfold cz;rw [e];exact h
def CompS (n i:Nat) (acc:List V) (Pv:Nat→List V→Hp→Prop):Hp→Prop:=fun H5=>∃m',m' < n - i∧(m'=n - (i+1)∧i+1≤n∧Pv (i+1) acc H5)
theorem CompS.mk {n i:Nat} {acc:List V} {Pv:Nat→List V→Hp→Prop} {H5:Hp} (hi:i < n) (h:Pv (i+1) acc H5):CompS n i acc Pv H5:=⟨n - (i+1),by omega,rfl,hi,h⟩
theorem cq {K:PySem.W.Frag} {a D:Addr} {xs:List V} {tc:TT} {te:TE} {rest:L2.St} {Q:VK} {H1:Hp} (Pv:Nat→List V→Hp→Prop) (h0:Pv 0 [] (upd H1 D (.lst [])))
 (hl:∀i acc H,Pv i acc H→SqL K H a xs)
 (hs:∀i x acc H,i < xs.length→xs[i]?=some x→Pv i acc H→tc (some x::rest) H fun b H5=>if b=true then te (some x::rest) H5 (CompN xs.length i D acc Pv) else CompS xs.length i acc Pv H5)
 (hd:∀acc H,Pv xs.length acc H→Q (.ref D) H):mw (Itl K a) D tc te rest Q H1:=by
 refine ⟨fun i m acc H=>m=xs.length - i∧i≤xs.length∧Pv i acc H,⟨xs.length,by simp,zf _,h0⟩,?_⟩
 rintro i m acc H ⟨rfl,hi,p⟩;by_cases hlt:i < xs.length
 · refine .inr ⟨⟨xs,xs[i],hl i acc H p,by simp [hlt]⟩,fun x H' y=>⟨ext1,?_⟩⟩
   obtain ⟨e,y⟩:=y;subst e;exact hs i x acc _ hlt (y xs (hl i acc _ p)) p
 · have e:i=xs.length:=by omega
   subst e;exact .inl ⟨⟨xs,hl _ acc H p,yP _⟩,hd acc H p⟩
end L2
namespace Zp
open PySem
inductive Src where
 |lst|tup
def Src.It (k:Src) (h:Heap) (it l:Addr) (i:Nat):Prop:=match k with
 | .lst=>h.IsListIter it l i
 | .tup=>h.IsTupleIter it l i
def Src.Sq (k:Src) (h:Heap) (l:Addr) (xs:Array Value):Prop:=match k with
 | .lst=>h.IsList l xs
 | .tup=>h.IsTuple l xs
theorem dk {k:Src} {h h':Heap} {a l:Addr} {i:Nat} (x:k.It h a l i) (e:∀o,h.get? a=some o→h'.get? a=some o):k.It h' a l i:=by
 cases k
 · exact Heap.IsListIter.at x e
 · exact Heap.IsTupleIter.at x e
theorem jO {k:Src} {h h':Heap} {l:Addr} {xs:Array Value} (x:k.Sq h l xs) (e:∀o,h.get? l=some o→h'.get? l=some o):k.Sq h' l xs:=by
 cases k
 · exact Heap.IsList.at x e
 · exact Heap.IsTuple.at x e
theorem jz {k:Src} {h:Heap} {a l:Addr} {i:Nat} (x:k.It h a l i):∃o,h.get? a=some o∧∀v,o.data≠ .cell v:=by
 cases k
 all_goals
  obtain ⟨o,e,_,d⟩:=x;exact ⟨o,e,fun v z=>by rw [d] at z;cases z⟩
section
variable {prog:Program} {w:World} {A:Around} {E:Value→Shared→Prop} {s:Shared} {k:Src} {it l:Addr} {i:Nat} {xs:Array Value} {x:Value} {Q:Value→Shared→Prop}
theorem jq (st:k.It s.heap it l i) (sq:k.Sq s.heap l xs) (hx:xs[i]?=some x) (q:∀h',k.It h' it l (i+1)→Heap.SameBut it s.heap h'→Q x {s with heap:=h'}):
 wpAny (model prog w) A (Builtin.SmallTypes.nextOf (.ref it)) Q E s:=by
 cases k
 · exact wpAny_nextOf_list_item st sq hx q
 · obtain ⟨o,e1,e2,e3⟩:=id st;obtain ⟨p,f1,_,n,f3⟩:=sq;have ty:=Heap.IsTupleIter.typeIs st;rw [Builtin.SmallTypes.nextOf];refine wpAny_bind (wpAny_callSpecial?_slot (name:=Str.ofString "__next__") ty F.slot_tuple_iterator_next (wpAny_call_entry F.slot_tuple_iterator_next ty F.entry_tuple_iterator_next ?_ (F.args_tuple_iterator_next_1 _)));show wpAny _ _ (do let y←field (.ref it) 0;_) _ _ s
   refine wpAny_bind (wpAny_field e1 e3 (x:= .ref l) rfl ?_);show wpAny _ _ (if (Value.ref l==Value.none)=true then _ else _) _ _ _;refine (if_neg (show¬((Value.ref l==Value.none)=true) from zk))▸ ?_;show wpAny _ _ (do let y←field (.ref it) 1;_) _ _ s
   refine wpAny_bind (wpAny_field e1 e3 (x:= .int i 0) rfl ?_);show wpAny _ _ (do let y←seqItems? (.ref l);_) _ _ s
   refine wpAny_bind (wpAny_seqItems f1 f3 ?_);simp only [hx,zZ];refine wpAny_bind (wpAny_setField e1 e3 (by simp) (wpAny_pure ⟨x,rfl,wpAny_pure (q _ ?_ (Heap.SameBut.update ..))⟩))
   refine ⟨_,Heap.get?_update_self _ e1 (Obj.isFreed_of_fields (Obj.data_mapFields e3 _)),(Obj.cls_mapFields ..).trans e2,?_⟩;rw [Obj.data_mapFields e3];simp [rawInt]
theorem rT (hh:A.handled=none) (st:k.It s.heap it l i) (sq:k.Sq s.heap l xs) (hx:xs[i]?=none) (q:∀h' e,Heap.ExtBut it s.heap h'→(∃o,h'.get? e=some o∧o.cls= .type "StopIteration")→E (.ref e) {s with heap:=h'}):
 wpAny (model prog w) A (Builtin.SmallTypes.nextOf (.ref it)) Q E s:=by
 cases k
 · exact wpAny_nextOf_list_end hh st sq hx q
 · obtain ⟨o,e1,e2,e3⟩:=id st;obtain ⟨p,f1,_,n,f3⟩:=sq;have ty:=Heap.IsTupleIter.typeIs st;rw [Builtin.SmallTypes.nextOf];refine wpAny_bind (wpAny_callSpecial?_slot (name:=Str.ofString "__next__") ty F.slot_tuple_iterator_next (wpAny_call_entry F.slot_tuple_iterator_next ty F.entry_tuple_iterator_next ?_ (F.args_tuple_iterator_next_1 _)));show wpAny _ _ (do let y←field (.ref it) 0;_) _ _ s
   refine wpAny_bind (wpAny_field e1 e3 (x:= .ref l) rfl ?_);show wpAny _ _ (if (Value.ref l==Value.none)=true then _ else _) _ _ _;refine (if_neg (show¬((Value.ref l==Value.none)=true) from zk))▸ ?_;show wpAny _ _ (do let y←field (.ref it) 1;_) _ _ s
   refine wpAny_bind (wpAny_field e1 e3 (x:= .int i 0) rfl ?_);show wpAny _ _ (do let y←seqItems? (.ref l);_) _ _ s
   refine wpAny_bind (wpAny_seqItems f1 f3 ?_);simp only [hx,zZ];refine wpAny_bind (wpAny_rule (wpAny_bind (wpAny_setField e1 e3 (by simp) ?_)))
   show wpAny _ _ (do let y←newExc (.type "StopIteration") [];_) _ _ _
   refine wpAny_bind ?_;simp only [newTuple,newExc];refine wpAny_bind (wpAny_newObj_type (wpAny_bind (m:=firstArgMember _ _) (wpAny_of_eq (a:=Value.none) (by first|rfl|(simp only [firstArgMember];rfl)) (wpAny_newObj_type ?_ (by size_fits)))) (by size_fits))
   simp only [raiseNew];refine wpAny_bind (wpAny_handled ?_)
   first|rw [show A.in1.handled=none from hh]|rw [hh]
   exact wpAny_bind (wpAny_pure (wpAny_throw (q _ _ (((Heap.SameBut.update ..).extBut.push _).push _) ⟨_,Heap.get?_push_size _ rfl,rfl⟩)))
end
open PySem
section
variable {prog:Program} {w:World} {A:Around} {E:Value→Shared→Prop} {s:Shared} {k:Src} {z TI TO i1 i2 l1 l2:Addr} {j:Nat} {xs ys:Array Value} {x y a b:Value}
theorem tE {Q:Value→Shared→Prop} (D:ZipApart z TI TO i1 i2 l1 l2) (hz:IsZip s.heap z TI TO .none) (hI:IsPair s.heap TI (.ref i1) (.ref i2)) (hO:IsPair s.heap TO a b)
 (t1:k.It s.heap i1 l1 j) (t2:k.It s.heap i2 l2 j) (q1:k.Sq s.heap l1 xs) (q2:k.Sq s.heap l2 ys) (ex:xs[j]?=some x) (ey:ys[j]?=some y)
 (q:∀h',IsZip h' z TI TO (rawInt s.heap.objs.size)→IsPair h' TO x y→k.It h' i1 l1 (j+1)→k.It h' i2 l2 (j+1)→IsPair h' s.heap.objs.size x y→h'.objs.size=s.heap.objs.size+1→
  (∀c o,c≠z→c≠TO→c≠i1→c≠i2→s.heap.get? c=some o→h'.get? c=some o)→Q (.ref s.heap.objs.size) {s with heap:=h'}):
 wpAny (model prog w) A (Builtin.«zip.__next__» ⟨[.ref z],[]⟩) (fun r s'=>∃v,r= .done (.ret v)∧Q v s') E s:=by
 show wpAny _ _ (do let u←field (.ref z) 2;_) _ _ _
 refine wpAny_bind (wpAny_field hz rfl (x:= .bool false) rfl ?_);show wpAny _ _ (do let u←field (.ref z) 3;_) _ _ _
 refine wpAny_bind (wpAny_field hz rfl (x:= .ref TI) rfl (wpAny_bind (wpAny_seqItems hI rfl ?_)));show wpAny _ _ (do let u←Builtin.SmallTypes.ownedTupleIsFree (.ref z);_) _ _ _
 refine wpAny_bind ?_;rw [Builtin.SmallTypes.ownedTupleIsFree];refine wpAny_bind (wpAny_field hz rfl (x:= .none) rfl (wpAny_pure ?_));simp only [if_true];refine wpAny_bind (wpAny_rule (wpAny_bind (wpAny_field hz rfl (x:= .ref TO) rfl (wpAny_bind (wpAny_setField_rec hz (by simp) fun g1 y1 s1=> ?_)))))
 have y1:IsZip g1 z TI TO .ellipsis:=y1;refine wpAny_bind ?_;simp only [List.forIn_cons,List.forIn_nil,List.zipIdx_nil,List.zipIdx_cons];refine wpAny_bind (wpAny_bind (wpAny_onRaise ?_));show wpAny _ _ (do let u←Builtin.SmallTypes.nextOf (.ref i1);_) _ _ _
 refine wpAny_bind (jq (s:= {s with heap:=g1}) (dk t1 fun o e=>s1.extBut _ o D.i1z e) (jO q1 fun o e=>s1.extBut _ o D.l1z e) ex fun g2 u1 s2=>wpAny_pure ?_);have o2:IsPair g2 TO a b:=s2.extBut _ _ D.TOi1 (s1.extBut _ _ D.TOz hO);refine wpAny_bind (wpAny_seqItems o2 rfl (wpAny_bind (wpAny_updateSeq_pair (s:= {s with heap:=g2}) o2 fun g3 o3 s3=> ?_)));have o3:IsPair g3 TO x b:=o3;refine wpAny_bind (wpAny_letGo (wpAny_pure (wpAny_bind (wpAny_bind (wpAny_onRaise ?_)))));show wpAny _ _ (do let u←Builtin.SmallTypes.nextOf (.ref i2);_) _ _ _
 refine wpAny_bind (jq (s:= {s with heap:=g3}) (dk t2 fun o e=>s3.extBut _ o D.TOi2.symm (s2.extBut _ o D.i12.symm (s1.extBut _ o D.i2z e))) (jO q2 fun o e=>s3.extBut _ o D.l2TO (s2.extBut _ o D.l2i1 (s1.extBut _ o D.l2z e))) ey fun g4 u2 s4=>wpAny_pure ?_);have o4:IsPair g4 TO x b:=s4.extBut _ _ D.TOi2 o3;refine wpAny_bind (wpAny_seqItems o4 rfl (wpAny_bind (wpAny_updateSeq_pair (s:= {s with heap:=g4}) o4 fun g5 o5 s5=> ?_)));have o5:IsPair g5 TO x y:=o5;refine wpAny_bind (wpAny_letGo (wpAny_pure (wpAny_pure (wpAny_bind (wpAny_seqItems o5 rfl (wpAny_bind (wpAny_newTuple ?_)))))));have sz:g5.objs.size=s.heap.objs.size:=by rw [s5.1,s4.1,s3.1,s2.1,s1.1]
 have all:∀c o,c≠z→c≠TO→c≠i1→c≠i2→s.heap.get? c=some o→g5.get? c=some o:=fun c o c1 c2 c3 c4 e=>s5.extBut _ _ c2 (s4.extBut _ _ c4 (s3.extBut _ _ c2 (s2.extBut _ _ c3 (s1.extBut _ _ c1 e))));have y5:IsZip g5 z TI TO .ellipsis:=s5.extBut _ _ D.TOz.symm (s4.extBut _ _ D.i2z.symm (s3.extBut _ _ D.TOz.symm (s2.extBut _ _ D.i1z.symm y1)));have v1:k.It g5 i1 l1 (j+1):=dk u1 fun o e=>s5.extBut _ o D.TOi1.symm (s4.extBut _ o D.i12 (s3.extBut _ o D.TOi1.symm e));have v2:k.It g5 i2 l2 (j+1):=dk u2 fun o e=>s5.extBut _ o D.TOi2.symm e;have lz:z < g5.objs.size:=Heap.lt_size y5;show wpAny _ _ (do let u←Builtin.SmallTypes.ownedTupleHandOut (.ref z) (.ref g5.objs.size);_) _ _ _
 refine wpAny_bind ?_;rw [Builtin.SmallTypes.ownedTupleHandOut];have y6:IsZip (g5.push {cls:= .type "tuple",data:= .seq #[x,y]}) z TI TO .ellipsis:=Heap.get?_push_of_some _ y5;refine wpAny_bind (wpAny_setField_rec y6 (by simp) fun g7 y7 s7=> ?_)
 have y7:IsZip g7 z TI TO (rawInt g5.objs.size):=y7;refine wpAny_setField_rec y7 (by simp) fun g8 y8 s8=> ?_
 have y8:IsZip g8 z TI TO (rawInt g5.objs.size):=y8;have up:∀c o,c≠z→g5.get? c=some o→g8.get? c=some o:=fun c o n e=>s8.extBut _ _ n (s7.extBut _ _ n (Heap.get?_push_of_some _ e));have p8:IsPair g8 g5.objs.size x y:=s8.extBut _ _ (Nat.ne_of_gt lz) (s7.extBut _ _ (Nat.ne_of_gt lz) (Heap.get?_push_size _ rfl));have z8:g8.objs.size=g5.objs.size+1:=by rw [s8.1,s7.1,Heap.size_push]
 rw [sz] at y8 p8 z8;refine wpAny_pure ⟨_,rfl,?_⟩;show Q (.ref g5.objs.size) _;rw [sz];exact q g8 y8 (up _ _ D.TOz o5) (dk v1 fun o e=>up _ o D.i1z e) (dk v2 fun o e=>up _ o D.i2z e) p8 z8 fun c o c1 c2 c3 c4 e=>up c o c1 (all c o c1 c2 c3 c4 e)
theorem vB {Q:Fin→Shared→Prop} (hh:A.handled=none) (D:ZipApart z TI TO i1 i2 l1 l2) (hz:IsZip s.heap z TI TO .none) (hI:IsPair s.heap TI (.ref i1) (.ref i2)) (hO:IsPair s.heap TO a b)
 (t1:k.It s.heap i1 l1 j) (t2:k.It s.heap i2 l2 j) (q1:k.Sq s.heap l1 xs) (q2:k.Sq s.heap l2 ys) (ends:xs[j]?=none)
 (q:∀h' e,(∀c o,c≠z→c≠TO→c≠i1→c≠i2→s.heap.get? c=some o→h'.get? c=some o)→(∃o,h'.get? e=some o∧o.cls= .type "StopIteration")→E (.ref e) {s with heap:=h'}):
 wpAny (model prog w) A (Builtin.«zip.__next__» ⟨[.ref z],[]⟩) Q E s:=by
 show wpAny _ _ (do let u←field (.ref z) 2;_) _ _ _
 refine wpAny_bind (wpAny_field hz rfl (x:= .bool false) rfl ?_);show wpAny _ _ (do let u←field (.ref z) 3;_) _ _ _
 refine wpAny_bind (wpAny_field hz rfl (x:= .ref TI) rfl (wpAny_bind (wpAny_seqItems hI rfl ?_)));show wpAny _ _ (do let u←Builtin.SmallTypes.ownedTupleIsFree (.ref z);_) _ _ _
 refine wpAny_bind ?_;rw [Builtin.SmallTypes.ownedTupleIsFree];refine wpAny_bind (wpAny_field hz rfl (x:= .none) rfl (wpAny_pure ?_));simp only [if_true];refine wpAny_bind (wpAny_rule (wpAny_bind (wpAny_field hz rfl (x:= .ref TO) rfl (wpAny_bind (wpAny_setField_rec hz (by simp) fun g1 y1 s1=> ?_)))))
 have y1:IsZip g1 z TI TO .ellipsis:=y1;refine wpAny_bind ?_;simp only [List.forIn_cons,List.forIn_nil,List.zipIdx_nil,List.zipIdx_cons];refine wpAny_bind (wpAny_bind (wpAny_onRaise ?_));show wpAny _ _ (do let u←Builtin.SmallTypes.nextOf (.ref i1);_) _ _ _
 refine wpAny_bind (rT (s:= {s with heap:=g1}) hh (dk t1 fun o e=>s1.extBut _ o D.i1z e) (jO q1 fun o e=>s1.extBut _ o D.l1z e) ends fun g2 e s2 he=> ?_);obtain ⟨oe,e1,e2⟩:=he;have y2:IsZip g2 z TI TO .ellipsis:=s2 _ _ D.i1z.symm y1;have ne:e≠z:=fun n=>by subst n;rw [y2] at e1;cases e1;simp at e2
 exact wpAny_setField_rec y2 (by simp) fun g3 _ s3=>q g3 e (fun c o c1 _ c3 _ n=>s3.extBut _ _ c1 (s2 _ _ c3 (s1.extBut _ _ c1 n))) ⟨oe,s3.extBut _ _ ne e1,e2⟩
theorem tG {Q:Option Value→Shared→Prop} (D:ZipApart z TI TO i1 i2 l1 l2) (hz:IsZip s.heap z TI TO .none) (hI:IsPair s.heap TI (.ref i1) (.ref i2)) (hO:IsPair s.heap TO a b)
 (t1:k.It s.heap i1 l1 j) (t2:k.It s.heap i2 l2 j) (q1:k.Sq s.heap l1 xs) (q2:k.Sq s.heap l2 ys) (ex:xs[j]?=some x) (ey:ys[j]?=some y)
 (q:∀h',IsZip h' z TI TO (rawInt s.heap.objs.size)→IsPair h' TO x y→k.It h' i1 l1 (j+1)→k.It h' i2 l2 (j+1)→IsPair h' s.heap.objs.size x y→h'.objs.size=s.heap.objs.size+1→
  (∀c o,c≠z→c≠TO→c≠i1→c≠i2→s.heap.get? c=some o→h'.get? c=some o)→Q (some (.ref s.heap.objs.size)) {s with heap:=h'}):
 wpAny (model prog w) A (pyNext (.ref z)) Q E s:=by
 have ty:s.TypeIs (.ref z) "zip":=⟨_,hz,rfl⟩;rw [pyNext]
 exact wpAny_bind (wpAny_attempt (wpAny_callSpecial?_slot (name:=Str.ofString "__next__") ty F.slot_zip_next (wpAny_call_entry F.slot_zip_next ty F.entry_zip_next
  (tE D hz hI hO t1 t2 q1 q2 ex ey fun h' a1 a2 a3 a4 a5 a6 a7=>wpAny_pure (q h' a1 a2 a3 a4 a5 a6 a7)) (F.args_zip_next_1 _))))
theorem vC {Q:Option Value→Shared→Prop} (hh:A.handled=none) (D:ZipApart z TI TO i1 i2 l1 l2) (hz:IsZip s.heap z TI TO .none) (hI:IsPair s.heap TI (.ref i1) (.ref i2)) (hO:IsPair s.heap TO a b)
 (t1:k.It s.heap i1 l1 j) (t2:k.It s.heap i2 l2 j) (q1:k.Sq s.heap l1 xs) (q2:k.Sq s.heap l2 ys) (ends:xs[j]?=none)
 (q:∀h',(∀c o,c≠z→c≠TO→c≠i1→c≠i2→s.heap.get? c=some o→h'.get? c=some o)→Q none {s with heap:=h'}):wpAny (model prog w) A (pyNext (.ref z)) Q E s:=by
 have ty:s.TypeIs (.ref z) "zip":=⟨_,hz,rfl⟩;rw [pyNext];refine wpAny_bind (wpAny_attempt (wpAny_callSpecial?_slot (name:=Str.ofString "__next__") ty F.slot_zip_next (wpAny_call_entry F.slot_zip_next ty F.entry_zip_next (vB hh D hz hI hO t1 t2 q1 q2 ends fun h' e up he=> ?_) (F.args_zip_next_1 _))));obtain ⟨o,e1,e2⟩:=he;exact wpAny_bind (wpAny_isInstance (T:="StopIteration") (b:=true) ⟨o,e1,e2⟩ isSubtype_stop (wpAny_pure (q _ up)))
end
open PySem
abbrev zA (h:Heap) (l:Addr):Heap:=h.push {cls:= .type "tuple_iterator",data:= .fields #[.ref l, .int 0 0]}
abbrev zB (h:Heap) (l m:Addr):Heap:=zA (zA h l) m
abbrev zC (h:Heap) (l m:Addr):Heap:=(zB h l m).push {cls:= .type "tuple",data:= .seq #[.ref h.objs.size, .ref (zA h l).objs.size]}
abbrev zD (h:Heap) (l m:Addr):Heap:=(zC h l m).push {cls:= .type "tuple",data:= .seq #[.none, .none]}
abbrev zE (h:Heap) (l m:Addr):Heap:=(zD h l m).push {cls:= .type "zip",data:= .fields #[.none, .bool false, .bool false, .ref (zB h l m).objs.size, .ref (zC h l m).objs.size]}
theorem uq (l m:Addr) (xs ys:Array Value):Meets (Builtin.«zip.__new__» ⟨[.type "zip", .ref l, .ref m],[]⟩) (fun _ R s=>s.heap.IsTuple l xs∧s.heap.IsTuple m ys∧
 R (.ok (.ret (.ref (zD s.heap l m).objs.size))) {s with heap:=zE s.heap l m}):=
 .of_wp fun prog w A R s h=>by
  obtain ⟨hp,g,d,tk,os⟩:=s;obtain ⟨p1,p2,h⟩:=h;have hsub:=sub_zip;have p1:Heap.IsTuple (Shared.heap ⟨hp,g,d,tk,os⟩) l xs:=p1;have p2:Heap.IsTuple (Shared.heap ⟨zA hp l,g,d,tk,os⟩) m ys:=Heap.IsTuple.at p2 fun o e=>Heap.get?_push_of_some _ e
  wp_walk using wpAny_pyIter_tuple p1,wpAny_pyIter_tuple p2
  exact ⟨_,rfl,h⟩
section
variable {prog:Program} {w:World} {A:Around} {E:Value→Shared→Prop} {s:Shared}
theorem kO {k:Src} {l m:Addr} {xs ys:Array Value} {Q:Value→Shared→Prop} (p1:k.Sq s.heap l xs) (p2:k.Sq s.heap m ys)
 (q:∀h',IsZip h' (s.heap.objs.size+4) (s.heap.objs.size+2) (s.heap.objs.size+3) .none→IsPair h' (s.heap.objs.size+2) (.ref s.heap.objs.size) (.ref (s.heap.objs.size+1))→
  IsPair h' (s.heap.objs.size+3) .none .none→k.It h' s.heap.objs.size l 0→k.It h' (s.heap.objs.size+1) m 0→h'.objs.size=s.heap.objs.size+5→
  (∀c o,s.heap.get? c=some o→h'.get? c=some o)→Q (.ref (s.heap.objs.size+4)) {s with heap:=h'}):
 wpAny (model prog w) A (call (.type "zip") [.ref l, .ref m]) Q E s:=by
 cases k
 · exact call_zip_2 p1 p2 q
 · refine callType_new F.called_zip (by decide) (F.typeCall_zip_2 _ _) (F.newCall_zip_2 _ _) (fun obj=>F.args_object_init_3 obj _ _) F.entry_zip_new (uq l m xs ys) ⟨p1,p2,?_⟩
   have a1:(zA s.heap l).objs.size=s.heap.objs.size+1:=Heap.size_push ..;have a2:(zB s.heap l m).objs.size=s.heap.objs.size+2:=by rw [Heap.size_push,a1]
   have a3:(zC s.heap l m).objs.size=s.heap.objs.size+3:=by rw [Heap.size_push,a2]
   have a4:(zD s.heap l m).objs.size=s.heap.objs.size+4:=by rw [Heap.size_push,a3]
   have a5:(zE s.heap l m).objs.size=s.heap.objs.size+5:=by rw [Heap.size_push,a4]
   have b5:(zE s.heap l m).get? (zD s.heap l m).objs.size=some _:=Heap.get?_push_size _ rfl;have b4:(zE s.heap l m).get? (zC s.heap l m).objs.size=some _:=Heap.get?_push_of_some _ (Heap.get?_push_size _ rfl);have b3:(zE s.heap l m).get? (zB s.heap l m).objs.size=some _:=Heap.get?_push_of_some _ (Heap.get?_push_of_some _ (Heap.get?_push_size _ rfl));have b2:(zE s.heap l m).get? (zA s.heap l).objs.size=some _:=Heap.get?_push_of_some _ (Heap.get?_push_of_some _ (Heap.get?_push_of_some _ (Heap.get?_push_size _ rfl)));have b1:(zE s.heap l m).get? s.heap.objs.size=some _:=Heap.get?_push_of_some _ (Heap.get?_push_of_some _ (Heap.get?_push_of_some _ (Heap.get?_push_of_some _ (Heap.get?_push_size _ rfl))));show _∧_;rw [a2,a3,a4] at b5;rw [a1,a2] at b3;rw [a3] at b4;rw [a1] at b2;rw [a4];exact ⟨⟨_,b5,rfl⟩,q _ b5 b3 b4 ⟨_,b1,rfl,rfl⟩ ⟨_,b2,rfl,rfl⟩ a5 fun c o e=>Heap.get?_push_of_some _ (Heap.get?_push_of_some _ (Heap.get?_push_of_some _ (Heap.get?_push_of_some _ (Heap.get?_push_of_some _ e))))⟩
end
end Zp
namespace L2
open PySem PySem.Spec PyProof.Rows Zp
def Sqk (k:Src) (K:PySem.W.Frag) (H:Hp) (a:Addr) (xs:List V):Prop:=match k with
 | .lst=>SqL K H a xs
 | .tup=>SqT K H a xs
theorem Inv.sqk {X:Cx} {pins:List (Addr×Obj)} {σ:St} {H:Hp} {s:Shared} {k:Src} {a:Addr} {xs:List V} (I:Inv X pins σ H s) (h:Sqk k X.K H a xs):∃its:List Value,Vals xs its∧k.Sq s.heap a its.toArray∧xs.length≤sizeLine:=by
 cases k
 · obtain ⟨its,r,p,z⟩:=I.list h;exact ⟨its,r,p.isList,z⟩
 · obtain ⟨its,r,p,z⟩:=I.tuple h;exact ⟨its,r,p,z⟩
theorem Inv.sqk_inj {X:Cx} {pins:List (Addr×Obj)} {σ:St} {H:Hp} {s:Shared} {k:Src} {a:Addr} {xs ys:List V} (I:Inv X pins σ H s) (h:Sqk k X.K H a xs) (h':Sqk k X.K H a ys):xs=ys:=by
 cases k
 · exact I.list_inj h h'
 · exact I.tuple_inj h h'
noncomputable def Itz (k:Src) (K:PySem.W.Frag) (a b:Addr):It:=
 ⟨fun i H=>∃xs ys x y,Sqk k K H a xs∧Sqk k K H b ys∧xs[i]?=some x∧ys[i]?=some y,
  fun i H v H'=>∃T x y,v= .ref T∧H T=none∧H'=upd H T (.tup [x,y])∧(∀xs,Sqk k K H a xs→xs[i]?=some x)∧(∀ys,Sqk k K H b ys→ys[i]?=some y)∧i < sizeLine,
  fun i H=>∃xs ys,Sqk k K H a xs∧Sqk k K H b ys∧xs.length≤i⟩
section
variable {X:Cx} {pins:List (Addr×Obj)} {σ:St} {H:Hp} {s:Shared}
theorem Inv.turneds {h':Heap} {t':Nat} {fp:List Addr} (I:Inv X pins σ H s) (k:∀b o,b∉fp→s.heap.get? b=some o→h'.get? b=some o) (hf:∀b∈fp,FpOk X pins H b):Inv X pins σ H {s with heap:=h',toks:=t'}:=by
 refine I.call' (s':= {s with heap:=h',toks:=t'}) (ch:=fp) rfl ⟨fun b o e _ _ hx=>k b o hx e,fun b o e _ _ hx=>⟨o.slots,k b o hx e⟩,fun _ _ _ n _=>n,fun b o e hx=>⟨o,k b o hx e⟩,fun _ _ e=>e,fun _ _ _ e=>e,fun b ps e=>⟨#[],by rw [e];simp⟩⟩ ?_ I.bare fun b hb=> ?_
 · intro b o e;have nb:∀c u,H c=some u→c∉fp:=fun c u e z=>by rw [(hf c z).1] at e;cases e
   refine (I.hok b o e).stay (fun c v hc q=>k c v ?_ q) (fun _ q=>q) fun _ _ q=>q;rcases hc with z|z
   · rw [z];exact nb b o e
   · exact nb c _ z
 · obtain ⟨g0,g1,g2,g3,g4,g5⟩:=hf b hb;exact ⟨g3,g1,g4,g5⟩
end
theorem cO {P:Program} {w:World} {K:PySem.W.Frag} {es:List Expr} {kk:Nat} {pos:Pos} {k:Src} (a b z TI TO i1 i2:Addr) (hd: [z,TI,TO,i1,i2].Nodup):
 Turn P w K (.Tuple es kk pos) (Itz k K a b) [z,TI,TO,i1,i2] z (fun i h=>IsZip h z TI TO .none∧IsPair h TI (.ref i1) (.ref i2)∧(∃u v,IsPair h TO u v)∧k.It h i1 a i∧k.It h i2 b i∧a∉ [z,TI,TO,i1,i2]∧b∉ [z,TI,TO,i1,i2]) where
 mem:=by simp
 obj:=fun i h ⟨h1,h2,⟨u,v,h3⟩,h4,h5,_⟩ c hc=>by
  simp only [yV,zm,or_false] at hc;rcases hc with rfl|rfl|rfl|rfl|rfl
  · exact ⟨_,h1,fun v e=>by cases (show Data.fields _=Data.cell v from e)⟩
  · exact ⟨_,h2,fun v e=>by cases (show Data.seq _ _=Data.cell v from e)⟩
  · exact ⟨_,h3,fun v e=>by cases (show Data.seq _ _=Data.cell v from e)⟩
  · exact jz h4
  · exact jz h5
 keep:=fun i h h' ⟨h1,h2,⟨u,v,h3⟩,h4,h5,h6⟩ kp=>⟨kp z (by simp) _ h1,kp TI (by simp) _ h2,⟨u,v,kp TO (by simp) _ h3⟩,dk h4 fun o e=>kp i1 (by simp) o e,dk h5 fun o e=>kp i2 (by simp) o e,h6⟩
 item:=by
  intro X hP hw hK hc i pins s σ H E I hf ⟨h1,h2,⟨u0,v0,h3⟩,h4,h5,h6,h7⟩ hg;subst hP hw hK;refine hZq fun q_ e_=> ?_;obtain ⟨xs,ys,x,y,g1,g2,g3,g4⟩:=hg;subst e_;refine hZq fun q_ e_=> ?_;obtain ⟨as,r1,p1,z1⟩:=I.sqk g1;subst e_;refine hZq fun q_ e_=> ?_;obtain ⟨bs,r2,p2,z2⟩:=I.sqk g2;subst e_;obtain ⟨u,e1,q1⟩:=r1.get g3;obtain ⟨v,e2,q2⟩:=r2.get g4;simp only [Aa,yV,zm,or_false,not_or,List.nodup_nil,and_true,not_false_eq_true] at hd h6 h7;refine hZq fun q_ e_=> ?_;obtain ⟨⟨d1,d2,d3,d4⟩,⟨d5,d6,d7⟩,⟨d8,d9⟩,d10⟩:=hd;subst e_;have D:ZipApart z TI TO i1 i2 a b:=⟨Ne.symm d1,Ne.symm d2,Ne.symm d3,Ne.symm d4,d5,d6,d7,d8,d9,d10,h6.1,h6.2.2.1,h6.2.2.2.1,h6.2.2.2.2,h7.1,h7.2.2.1,h7.2.2.2.1,h7.2.2.2.2⟩;refine tG D h1 h2 h3 h4 h5 p1 p2 (x:=u) (y:=v) (by simpa using e1) (by simpa using e2) fun h' a1 a2 a3 a4 a5 a6 up=>⟨_,rfl,?_⟩
  refine wpAny_letOwnedTupleGo_zip (s:= {s with heap:=h'}) a1 fun h'' b1 sb=> ?_;have T:=s.heap.objs.size;have fr:H s.heap.objs.size=none:=I.hok.fresh (yP _);have lt:∀ {c:Addr} {o:Obj},s.heap.get? c=some o→c≠s.heap.objs.size:=fun e=>yZ (Heap.lt_size e)
  have all:∀c o,c∉ [z,TI,TO,i1,i2]→s.heap.get? c=some o→h''.get? c=some o:=fun c o n e=>by
   simp only [yV,zm,or_false,not_or] at n;exact sb.extBut c o n.1 (up c o n.1 n.2.2.1 n.2.2.2.1 n.2.2.2.2 e)
  have nz:s.heap.objs.size≠z:=(lt h1).symm;have pT:IsPair h'' s.heap.objs.size u v:=sb.extBut _ _ nz a5
  have fp:∀b∈ [z,TI,TO,i1,i2],upd H s.heap.objs.size (.tup [x,y]) b=none:=fun c hc=>by
   have nc:c≠s.heap.objs.size:=by
    simp only [yV,zm,or_false] at hc;rcases hc with rfl|rfl|rfl|rfl|rfl
    · exact lt h1
    · exact lt h2
    · exact lt h3
    · obtain ⟨o,e,_⟩:=jz h4;exact lt e
    · obtain ⟨o,e,_⟩:=jz h5;exact lt e
   rw [af nc];exact (hf c hc).1
  refine ⟨.ref s.heap.objs.size,upd H s.heap.objs.size (.tup [x,y]),?_,rfl,⟨_,x,y,rfl,fr,rfl,fun zs hz=> ?_,fun zs hz=> ?_,zd (yW.mp g3).1 z1⟩,⟨b1,?_,⟨u,v,?_⟩,?_,?_,?_,?_⟩,fp⟩
  ·
   refine I.call' (s':= {s with heap:=h''}) (ch:= [z,TI,TO,i1,i2]) rfl ⟨fun b o e _ _ hx=>all b o hx e,fun b o e _ _ hx=>⟨o.slots,all b o hx e⟩,fun c o e n _=>by rw [af (lt e)];exact n,fun b o e hx=>⟨o,all b o hx e⟩,fun c zs e=>by rw [af (aD e fr)];exact e,fun c o zs e=>by rw [af (aD e fr)];exact e,fun c ps e=>⟨#[],by rw [af (aD e fr),e];simp⟩⟩ ?_ I.bare fun b hb=> ?_
   · intro c o e;by_cases hcT:c=s.heap.objs.size
     · subst hcT;rw [a8] at e;cases e;exact ⟨by show 2≤sizeLine;decide,[u,v], .cons q1 (.cons q2 .nil),⟨_,pT,rfl,_,rfl⟩⟩
     · rw [af hcT] at e;have nb:∀c u,H c=some u→c∉ [z,TI,TO,i1,i2]:=fun c u e hz=>by rw [(hf c hz).1] at e;cases e
       refine (I.hok c o e).stay (fun d v hc q=>all d v ?_ q) (fun d q=> ?_) fun d m q=> ?_
       · rcases hc with hz|hz
         · rw [hz];exact nb c o e
         · exact nb d _ hz
       · rw [af (aD q fr)];exact q
       · rw [af (aD q fr)];exact q
   · obtain ⟨g0,g1,g2,g3,g4,g5⟩:=hf b hb;exact ⟨g3,g1,g4,g5⟩
  · rw [I.sqk_inj hz g1];exact g3
  · rw [I.sqk_inj hz g2];exact g4
  · exact sb.extBut _ _ D.TIz (up _ _ D.TIz D.TITO D.TIi1 D.TIi2 h2)
  · exact sb.extBut _ _ D.TOz a2
  · exact dk a3 fun o e=>sb.extBut _ o D.i1z e
  · exact dk a4 fun o e=>sb.extBut _ o D.i2z e
  · simpa using h6
  · simpa using h7
 done:=by
  intro X hP hw hK hc i pins s σ H E I hf ⟨h1,h2,⟨u0,v0,h3⟩,h4,h5,h6,h7⟩ hg;subst hP hw hK;refine hZq fun q_ e_=> ?_;obtain ⟨xs,ys,g1,g2,g3⟩:=hg;subst e_;refine hZq fun q_ e_=> ?_;obtain ⟨as,r1,p1,z1⟩:=I.sqk g1;subst e_;refine hZq fun q_ e_=> ?_;obtain ⟨bs,r2,p2,z2⟩:=I.sqk g2;subst e_;have hl:=r1.length;simp only [Aa,yV,zm,or_false,not_or,List.nodup_nil,and_true,not_false_eq_true] at hd h6 h7;refine hZq fun q_ e_=> ?_;obtain ⟨⟨d1,d2,d3,d4⟩,⟨d5,d6,d7⟩,⟨d8,d9⟩,d10⟩:=hd;subst e_;have D:ZipApart z TI TO i1 i2 a b:=⟨Ne.symm d1,Ne.symm d2,Ne.symm d3,Ne.symm d4,d5,d6,d7,d8,d9,d10,h6.1,h6.2.2.1,h6.2.2.2.1,h6.2.2.2.2,h7.1,h7.2.2.1,h7.2.2.2.1,h7.2.2.2.2⟩;refine vC (I.ok.hd hc) D h1 h2 h3 h4 h5 p1 p2 (by simp;omega) fun h' up=>⟨rfl,I.turneds (t':=s.toks) (fun c o n e=> ?_) hf⟩
  simp only [yV,zm,or_false,not_or] at n;exact up c o n.1 n.2.2.1 n.2.2.2.1 n.2.2.2.2 e
 self:=fun _ _ _ _ _ st h=>wpAny_pyIter_zip st.1 h
section
variable {X:Cx}
def iZip (k:Src) (K:PySem.W.Frag) (ta:TA):TI:=fun σ H R=>ta σ H fun vs H1=>∃a b xs ys,vs= [.ref a, .ref b]∧Sqk k K H1 a xs∧Sqk k K H1 b ys∧R (Itz k K a b) H1
theorem jo {k:Src} {es:List Expr} {kk:Nat} {pt:Pos} {x y:Expr} {ta:TA} {p pos:Pos} (hg:Gl X "zip") (hm:X.mg "zip"=none) (ha:PA X [x,y] ta) (hs:starEach [x,y] X.env= [(false,eval x X.env),(false,eval y X.env)]:=by rfl) (hs2:starEach [y] X.env= [(false,eval y X.env)]:=by rfl):
 PI X (.Tuple es kk pt) (.Call (.Name "zip" p) [x,y] [] pos) (iZip k X.K ta):=by
 intro pins s σ H R I h;refine Call_ (eU I hg hm PyProof.Rows.boot_zip (PyProof.Rows.callWith_type1 (thn (ha pos pins s σ H _ I h) fun us s1 ⟨vs,H1,I1,r1,q1⟩=> ?_) (by rw [hs,hs2]) (by rw [hs2];rfl)))
 refine hZq fun q_ e_=> ?_;obtain ⟨a,b,xs,ys,e,k1,k2,q⟩:=q1;subst e_;subst e
 cases r1 with
 |cons r rr=>
  cases rr with
  |cons r' rr=>
   cases rr;cases r;cases r';refine hZq fun q_ e_=> ?_;obtain ⟨as,_,p1,_⟩:=I1.sqk k1;subst e_;refine hZq fun q_ e_=> ?_;obtain ⟨bs,_,p2,_⟩:=I1.sqk k2;subst e_;refine kO p1 p2 fun h' hz hI hO t1 t2 sz up=> ?_;refine wpAny_pyIter_zip (s:= {s1 with heap:=h'}) hz ?_
   have lta:a < s1.heap.objs.size:=by
    cases k
    · obtain ⟨o,e,_⟩:=p1;exact Heap.lt_size e
    · obtain ⟨o,e,_⟩:=p1;exact Heap.lt_size e
   have ltb:b < s1.heap.objs.size:=by
    cases k
    · obtain ⟨o,e,_⟩:=p2;exact Heap.lt_size e
    · obtain ⟨o,e,_⟩:=p2;exact Heap.lt_size e
   have na:∀j,a≠s1.heap.objs.size+j:=fun j=>yZ (zd lta (zP ..));have nb:∀j,b≠s1.heap.objs.size+j:=fun j=>yZ (zd ltb (zP ..))
   have le:∀c∈ [s1.heap.objs.size+4,s1.heap.objs.size+2,s1.heap.objs.size+3,s1.heap.objs.size+0,s1.heap.objs.size+1],s1.heap.objs.size≤c:=fun c hc=>by
    simp only [yV,zm,or_false] at hc;rcases hc with rfl|rfl|rfl|rfl|rfl<;>exact zP ..
   refine ⟨s1.heap.objs.size+4,[s1.heap.objs.size+4,s1.heap.objs.size+2,s1.heap.objs.size+3,s1.heap.objs.size+0,s1.heap.objs.size+1],_,_,H1,rfl,I1.kept (t':=s1.toks) up,cO a b _ _ _ _ _ (by simp),⟨hz,hI,⟨_,_,hO⟩,t1,t2,?_,?_⟩,fun c hc=>I1.fpOk (le c hc) (I1.hok.fresh (le c hc)),q⟩
   · simp only [yV,zm,or_false,not_or];exact ⟨na 4,na 2,na 3,na 0,na 1⟩
   · simp only [yV,zm,or_false,not_or];exact ⟨nb 4,nb 2,nb 3,nb 0,nb 1⟩
open PySem PySem.Spec PyProof.Rows Zp
theorem fQ:∀ {bs:List Bool} {us:List Value},Vals (bs.map V.bl) us→us=bs.map Value.bool
 | [],_,r=>by cases r;rfl
 |b::bs,_,r=>by
  rw [zc] at r
  cases r with
  |cons r1 r2=>rw [fQ r2,(show _=Value.bool b from r1)];rfl
theorem iR (hc:X.calm=true):cB X (.builtin "all") (fun xs H Q=>∃(p:Addr) (bs:List Bool),xs= [.ref p]∧SqL X.K H p (bs.map V.bl)∧Q (.bl (bs.all id)) H):=by
 intro pins s σ H xs us Q I r h;obtain ⟨p,bs,rfl,hp,q⟩:=h;obtain ⟨u,rfl,ru⟩:=cP r;cases ru;obtain ⟨its,rv,pl,_⟩:=I.list hp;have e:=fQ rv;subst e;have hlt:p < s.heap.objs.size:=by obtain ⟨_,e,_⟩:=pl.isList;exact Heap.lt_size e
 refine call_all_walk (wpAny_pyIter_list pl.isList ⟨s.heap.objs.size,[s.heap.objs.size,p],[s.heap.objs.size],(bs.map Value.bool).toArray.size,_,_,fun i=>(bs[i]?).getD true,rfl,Walks.list (A:=X.A.in1) (I.ok.hd hc) _ p (yZ hlt) _,
  ⟨⟨_,Heap.get?_push_size _ rfl,rfl,rfl⟩,pl.isList.push _⟩,fun i v s' Q' E' hP hQ=> ?_,fun h' tk hk=> ?_⟩)
 · have hP':(bs.map Value.bool)[i]?=some v:=by simpa using hP
   rw [yQ] at hP';obtain ⟨b,e,rfl⟩:=yS.mp hP';dsimp only at hQ;rw [e] at hQ;exact wpAny_truthy_bool hQ
 · have e:((List.range (bs.map Value.bool).toArray.size).all fun i=>(bs[i]?).getD true)=bs.all id:=by
    rw [yU,yM];exact PyProof.Rows.LSm.range_all bs
   rw [e];refine ⟨.bl _,H,I.kept (t':=tk) fun b x ex=>hk b x (fun hm=> ?_) (Heap.get?_push_of_some _ ex),rfl,q⟩;rw [z5.mp hm] at ex;exact zW _ (Heap.lt_size ex)
end
end L2
namespace Tre
open PySem L2 Zp
end Tre
namespace Tre
open PySem PySem.Spec PyProof.Rows L2
section
variable {X:Cx}
theorem tq {H:Hp} {t:Tr} {e:Value→Bool}:∀ {xs:List V} {us:List Value} {ts:List Tr},Vals xs us→TrsAt H xs ts→(∀v u s,RelV v u→TrAt H v s→e u=eqT s t)→us.any e=ts.any fun s=>eqT s t
 |_,_,[],r,h,_=>by
  unfold TrsAt at h;subst h;cases r;rfl
 |_,_,s::ts,r,h,he=>by
  unfold TrsAt at h;obtain ⟨v,q,rfl,h1,h2⟩:=h
  cases r with
  |cons r1 r2=>rw [List.any_cons,List.any_cons,tq r2 h2 he,he _ _ _ r1 h1]
open PySem PySem.Spec PyProof.Rows L2
def SqE (H:Hp) (p:Addr) (xs:List V):Prop:=H p=some (.lst xs)∨H p=some (.tup xs)
def rIn (b:Bool):R2:=fun x y H Q=>∃p xs ts t,y= .ref p∧SqE H p xs∧TrsAt H xs ts∧TrAt H x t∧(∀u∈ts,u.depth≤40)∧t.pure∧Q (.bl ((ts.any fun u=>eqT u t)==b)) H
theorem ka {pins:List (Addr×Obj)} {s:Shared} {σ:L2.St} {H:Hp} {xs:List V} {ts:List Tr} {t:Tr} {x:V} {v:Value} {its:List Value} (hu:X.A.units+50 < cLine) (I:Inv X pins σ H s) (rx:RelV x v) (r:Vals xs its) (hT:TrsAt H xs ts) (ht:TrAt H x t) (hd:∀u∈ts,u.depth≤40) (hpu:t.pure):
 ∃e:Value→Bool,(∀w,w∈its.toArray→SeqAt.EqAt X.A.in1 s w v (e w))∧its.toArray.any e=ts.any fun s=>eqT s t:=by
 classical
 have he:∀v' u' s',RelV v' u'→TrAt H v' s'→decide (∃v s,RelV v u'∧TrAt H v s∧eqT s t=true)=eqT s' t:=fun v' u' s' r' h'=>by
  cases e:eqT s' t with
  |true=>exact decide_eq_true ⟨v',s',r',h',e⟩
  |false=>
   refine decide_eq_false ?_;rintro ⟨v2,s2,r2,h2,e2⟩;cases r2.inj r';rw [TrAt.det h2 h',e] at e2;cases e2
 refine ⟨fun u'=>decide (∃v s,RelV v u'∧TrAt H v s∧eqT s t=true),fun w hw=> ?_,?_⟩
 · have hw':w∈its:=by simpa using hw
   obtain ⟨j,hj,ej⟩:=zS hw';have l1:=r.length;have l2:=hT.len;have t1:ts[j]?=some (ts[j]'(by omega)):=yN _
   obtain ⟨v',e1,a1⟩:=hT.get t1;obtain ⟨u',e2,q2⟩:=r.get e1;rw [yN hj,ej] at e2;cases e2;dsimp only;rw [he _ _ _ q2 a1];exact j3 I 40 (hd _ (yT t1)) (.inr hpu) a1 ht q2 rx (by show X.A.units+1+40+1 < cLine;omega)
 · rw [List.any_toArray];exact tq r hT he
theorem t8 (b:Bool):(b==true)=b:=by cases b<;>rfl
theorem wm (hu:X.A.units+50 < cLine):OpR X (compareOp .In) (rIn true):=by
 intro pins s σ H x y v u Q I rx ry h;obtain ⟨p,xs,ts,t,rfl,hp,hT,ht,hd,hpu,q⟩:=h;cases ry;rcases hp with hp|hp
 · obtain ⟨its,r,pl,hz⟩:=I.list (SqL.of hp);obtain ⟨e,h1,h2⟩:=ka hu I rx r hT ht hd hpu;refine SeqAt.in_listAt e pl.isList h1 ⟨.bl _,H,I,rfl,?_⟩;rw [h2,←t8 (ts.any fun s=>eqT s t)];exact q
 · obtain ⟨its,r,pl,hz⟩:=I.tuple (SqT.of hp);obtain ⟨e,h1,h2⟩:=ka hu I rx r hT ht hd hpu;refine SeqAt.in_tupleAt e (show s.heap.IsTuple p its.toArray from pl) h1 ⟨.bl _,H,I,rfl,?_⟩;rw [h2,←t8 (ts.any fun s=>eqT s t)];exact q
end
end Tre
namespace L2
open PySem PySem.Spec PyProof.Rows
section
variable {X:Cx}
theorem iQ (hc:X.calm=true):cB X (.builtin "any") (fun xs H Q=>∃(p:Addr) (bs:List Bool),xs= [.ref p]∧SqL X.K H p (bs.map V.bl)∧Q (.bl (bs.any id)) H):=by
 intro pins s σ H xs us Q I r h;obtain ⟨p,bs,rfl,hp,q⟩:=h;obtain ⟨u,rfl,ru⟩:=cP r;cases ru;obtain ⟨its,rv,pl,_⟩:=I.list hp;have e:=fQ rv;subst e;have hlt:p < s.heap.objs.size:=by obtain ⟨_,e,_⟩:=pl.isList;exact Heap.lt_size e
 refine call_any_walk (wpAny_pyIter_list pl.isList ⟨s.heap.objs.size,[s.heap.objs.size,p],[s.heap.objs.size],(bs.map Value.bool).toArray.size,_,_,fun i=>(bs[i]?).getD false,rfl,Walks.list (A:=X.A.in1) (I.ok.hd hc) _ p (yZ hlt) _,
  ⟨⟨_,Heap.get?_push_size _ rfl,rfl,rfl⟩,pl.isList.push _⟩,fun i v s' Q' E' hP hQ=> ?_,fun h' tk hk=> ?_⟩)
 · have hP':(bs.map Value.bool)[i]?=some v:=by simpa using hP
   rw [yQ] at hP';obtain ⟨b,e,rfl⟩:=yS.mp hP';dsimp only at hQ;rw [e] at hQ;exact wpAny_truthy_bool hQ
 · have e:((List.range (bs.map Value.bool).toArray.size).any fun i=>(bs[i]?).getD false)=bs.any id:=by
    rw [yU,yM];exact PyProof.Rows.LSm.range_any bs
   rw [e];refine ⟨.bl _,H,I.kept (t':=tk) fun b x ex=>hk b x (fun hm=> ?_) (Heap.get?_push_of_some _ ex),rfl,q⟩;rw [z5.mp hm] at ex;exact zW _ (Heap.lt_size ex)
end
theorem kB {K K':PySem.W.Frag} {a:Addr} {mp:List (Option Nat)} {tl:TE} {te:TE} {Q:VK} {σ rest:L2.St} {H H1:Hp} {xs:List V} (e:subS mp σ=none::none::rest)
 (ha:∀Q:VK,Q (.ref a) H1→tl σ H Q) (h1:SqT K H1 a xs)
 (h:∀D,H1 D=none→∃Pv:Nat→List V→Hp→Prop,Pv 0 [] (upd H1 D (.lst []))∧(∀i acc H,Pv i acc H→SqT K H a xs)∧
  (∀i z acc H,i < xs.length→Pv i acc H→xs[i]?=some z→∃T x y,z= .ref T∧SqT K' H T [x,y]∧te (some x::some y::rest) H (CompN xs.length i D acc Pv))∧∀acc H,Pv xs.length acc H→Q (.ref D) H):
 cz mp (iTup K tl) (gTup K' 2 (aV (aG 0) (aV (aG 1) gNil))) cJ te σ H Q:=by
 unfold cz;rw [e];refine ha _ ⟨a,rfl,⟨xs,h1⟩,fun D nD=> ?_⟩;obtain ⟨Pv,p0,pq,ps,pd⟩:=h D nD;refine ⟨fun i m acc H=>m=xs.length - i∧i≤xs.length∧Pv i acc H,⟨xs.length,by simp,zf _,p0⟩,?_⟩
 rintro i m acc H ⟨rfl,hi,p⟩;have q1:=pq i acc H p;by_cases hlt:i < xs.length
 · refine .inr ⟨⟨xs,xs[i],q1,by simp [hlt]⟩,?_⟩
   rintro v H' ⟨rfl,y⟩;have ev:=y xs q1;obtain ⟨T,x,z,rfl,hT,hte⟩:=ps i v acc _ hlt p ev;exact ⟨T,[x,z],rfl,hT,rfl,x,[z],rfl,z,[],rfl,rfl,ext2,hte⟩
 · have ei:i=xs.length:=by omega
   subst ei;exact .inl ⟨⟨xs,q1,yP _⟩,pd acc H p⟩
end L2
namespace Wd
open PySem L2 Tre Mth Dj
def FlG (kF:List (Key×V)):Prop:=∀x v,valV kF (.inr x)=some v→∃b,v=V.bl b
def VaG (H:Hp) (kV:List (Key×V)):Prop:=∀x v,valV kV (.inr x)=some v→∃p,TrAt H v (frT p)∧Gv p
def CaG (H:Hp) (kC:List Ent):Prop:=∀k v,valJ kC k=some v→∃p,TrAt H v (frT p)∧Gv p
structure WS (P:Program) (w:World) (K:PySem.W.Frag) (H:Hp) (F D C:Addr) (n:Nat):Prop where
 ne:F≠D
 fl:∃kF,H F=some (.dK kF)∧FlG kF∧kF.length≤n
 va:∃kV,H D=some (.dK kV)∧VaG H kV∧kV.length≤n
 ca:∃kC,DJ P w K H C kC∧CaG H kC∧kC.length≤n
section
variable {P:Program} {w:World} {K:PySem.W.Frag} {H H':Hp} {F D C:Addr} {n:Nat}
end
def WAt (P:Program) (w:World) (K:PySem.W.Frag) (H:Hp) (v:V) (W:Wld):Prop:=∃r F D C kF kV kC,v= .ref r∧H r=some (.tup [.ref F, .ref D, .ref C])∧
 (H F=some (.dK kF)∧∀x,(valV kF (.inr x)).getD (.bl false)= .bl (W.fl x))∧
 (H D=some (.dK kV)∧∀x,(∃u,valV kV (.inr x)=some u∧TrAt H u (frT (W.va x)))∨(valV kV (.inr x)=none∧W.va x=zero))∧
 (DJ P w K H C kC∧∀k,(∃u,valJ kC k=some u∧TrAt H u (frT (W.ca k)))∨(valJ kC k=none∧W.ca k=zero))
section
variable {P:Program} {w:World} {K:PySem.W.Frag} {H H':Hp} {F D C r:Addr} {n:Nat} {v:V} {W:Wld}
theorem WS.at_ (h:WS P w K H F D C n) (e:H r=some (.tup [.ref F, .ref D, .ref C])):∃W:Wld,W.Ok∧WAt P w K H (.ref r) W:=by
 obtain ⟨kF,f1,f2,f3⟩:=h.fl;obtain ⟨kV,v1,v2,v3⟩:=h.va;obtain ⟨kC,c1,c2,c3⟩:=h.ca
 have hF:∀x:Str,∃b,(valV kF (.inr x)).getD (.bl false)= .bl b:=fun x=>by
  cases q:valV kF (.inr x) with
  |none=>exact ⟨false,rfl⟩
  |some v=>
   obtain ⟨b,rfl⟩:=f2 x v q;exact ⟨b,rfl⟩
 have hV:∀x:Str,∃p,Gv p∧((∃u,valV kV (.inr x)=some u∧TrAt H u (frT p))∨(valV kV (.inr x)=none∧p=zero)):=fun x=>by
  cases q:valV kV (.inr x) with
  |none=>exact ⟨zero,nO, .inr ⟨rfl,rfl⟩⟩
  |some v=>
   obtain ⟨p,h1,h2⟩:=v2 x v q;exact ⟨p,h2, .inl ⟨v,rfl,h1⟩⟩
 have hC:∀k:List Tk.KT,∃p,Gv p∧((∃u,valJ kC k=some u∧TrAt H u (frT p))∨(valJ kC k=none∧p=zero)):=fun k=>by
  cases q:valJ kC k with
  |none=>exact ⟨zero,nO, .inr ⟨rfl,rfl⟩⟩
  |some v=>
   obtain ⟨p,h1,h2⟩:=c2 k v q;exact ⟨p,h2, .inl ⟨v,rfl,h1⟩⟩
 exact ⟨⟨fun x=>Classical.choose (hF x),fun x=>Classical.choose (hV x),fun k=>Classical.choose (hC k)⟩,⟨fun x=>(Classical.choose_spec (hV x)).1,fun k=>(Classical.choose_spec (hC k)).1⟩,
  r,F,D,C,kF,kV,kC,rfl,e,⟨f1,fun x=>Classical.choose_spec (hF x)⟩,⟨v1,fun x=>(Classical.choose_spec (hV x)).2⟩,⟨c1,fun k=>(Classical.choose_spec (hC k)).2⟩⟩
end
end Wd
namespace L2
open PySem Tre Wd
theorem dq {t rest:TS} {Z:Ends} {σ:L2.St} {H:Hp} (R:L2.St→Hp→Prop) (hR:∀σ' H',R σ' H'→rest Z σ' H') (h:∀nx:L2.St→Hp→Prop,(∀σ' H',R σ' H'→nx σ' H')→t {Z with nx:=nx} σ H):tSeq t rest Z σ H:=h _ hR
theorem am {i:Nat} {v:V} {σ:L2.St} {H:Hp} {k:L2.St→Hp→Prop} (h:k (σ.set i (some v)) H):aG i v σ H k:=h
theorem eN {Z:Ends} {σ:L2.St} {H:Hp} (h:Z.nx σ H):uY Z σ H:=h
theorem tM {r:List V→Hp→VK→Prop} {te:TE} {i:Nat} {u:TS} {Z:Ends} {σ:L2.St} {H:Hp} (h:te σ H fun v H1=>r [v] H1 fun x H2=>aG i x σ H2 (u Z)):tSeq (tAsg (tCB r (eJ te tNil)) (aG i)) u Z σ H:=h
theorem j0 {r:List V→Hp→VK→Prop} {te:TE} {Z:Ends} {σ:L2.St} {H:Hp} (h:te σ H fun v H1=>r [v] H1 Z.rt):tRet (tCB r (eJ te tNil)) Z σ H:=h
theorem tO {te:TE} {Z:Ends} {σ:L2.St} {H:Hp} (h:te σ H Z.rt):tRet te Z σ H:=h
theorem pH {te:TE} {σ:L2.St} {H:Hp} {Q:List V→Hp→Prop} (h:te σ H fun v H1=>Q [v] H1):eJ te tNil σ H Q:=h
theorem ki {H:Hp} {v:V} {x:Str} {r:List Tr} (h:TrAt H v (.tup (.str x::r))):∃a vs,v= .ref a∧H a=some (.tup (.str x::vs))∧TrsAt H vs r:=by
 unfold TrAt at h;obtain ⟨a,vs,e,h1,h2⟩:=h;obtain ⟨y,r1,rfl,h3,h4⟩:=h2.inv;unfold TrAt at h3;subst h3;exact ⟨a,r1,e,h1,h4⟩
theorem at2 {H:Hp} {v:V} {k:Str} {t:Tr} (h:TrAt H v (.tup [.str k,t])):∃a y,v= .ref a∧H a=some (.tup [.str k,y])∧TrAt H y t:=by
 obtain ⟨a,vs,e,h1,h2⟩:=ki h;obtain ⟨y,r,rfl,h3,h4⟩:=h2.inv;unfold TrsAt at h4;subst h4;exact ⟨a,y,e,h1,h3⟩
theorem at3 {H:Hp} {v:V} {k:Str} {t u:Tr} (h:TrAt H v (.tup [.str k,t,u])):∃a y z,v= .ref a∧H a=some (.tup [.str k,y,z])∧TrAt H y t∧TrAt H z u:=by
 obtain ⟨a,vs,e,h1,h2⟩:=ki h;obtain ⟨y,r,rfl,h3,h4⟩:=h2.inv;obtain ⟨z,r2,rfl,h5,h6⟩:=h4.inv;unfold TrsAt at h6;subst h6;exact ⟨a,y,z,e,h1,h3,h5⟩
theorem at_s {H:Hp} {v:V} {x:Str} (h:TrAt H v (.str x)):v= .str x:=by
 unfold TrAt at h;exact h
theorem at_t {H:Hp} {v:V} {ts:List Tr} (h:TrAt H v (.tup ts)):∃a vs,v= .ref a∧H a=some (.tup vs)∧TrsAt H vs ts:=by
 unfold TrAt at h;exact h
theorem xC {H:Hp} {x:Str}:TrAt H (.str x) (.str x):=by unfold TrAt;rfl
theorem fR {H:Hp} {r:Addr} {vs:List V} {ts:List Tr} (h:H r=some (.tup vs)) (h1:TrsAt H vs ts):TrAt H (.ref r) (.tup ts):=by
 unfold TrAt;exact ⟨r,vs,rfl,h,h1⟩
theorem bX {H:Hp} {v:V} {a b:Tr} (h:TrAt H v (.tup [a,b])):∃r x y,v= .ref r∧H r=some (.tup [x,y])∧TrAt H x a∧TrAt H y b:=by
 unfold TrAt at h;obtain ⟨r,vs,e,h1,h2⟩:=h;obtain ⟨x,r1,rfl,h3,h4⟩:=h2.inv;obtain ⟨y,r2,rfl,h5,h6⟩:=h4.inv;unfold TrsAt at h6;subst h6;exact ⟨r,x,y,e,h1,h3,h5⟩
theorem uE {H:Hp} {v:V} {a b:Int} (h:TrAt H v (.tup [.int a, .int b])):∃r,v= .ref r∧H r=some (.tup [.int a, .int b]):=by
 obtain ⟨r,x,y,e,h1,h2,h3⟩:=bX h;unfold TrAt at h2 h3;subst h2 h3;exact ⟨r,e,h1⟩
theorem c6 {H:Hp} {r:Addr} {x y:V} {a b:Tr} (h:H r=some (.tup [x,y])) (h1:TrAt H x a) (h2:TrAt H y b):TrAt H (.ref r) (.tup [a,b]):=by
 unfold TrAt;exact ⟨r,_,rfl,h, .cons h1 (.cons h2 .nil)⟩
theorem dy {H:Hp} {r:Addr} {a b:Int} (h:H r=some (.tup [.int a, .int b])):TrAt H (.ref r) (.tup [.int a, .int b]):=c6 h (by unfold TrAt;rfl) (by unfold TrAt;rfl)
theorem e9 {H:Hp} {v:V} {p:Fr} (h:TrAt H v (frT p)):∃r,v= .ref r∧H r=some (.tup [.int p.1, .int p.2]):=uE h
theorem iN {n:Nat}:∀ {ts:List Tr},(∀t∈ts,t.depth≤n)→Trs.depth ts≤n
 | [],_=>by unfold Trs.depth;omega
 |t::ts,h=>by
  unfold Trs.depth;have h1:=h t yO;have h2:=iN fun u m=>h u (yR t m);omega
theorem uu {α:Type} (f:α→Bool) (l:List α):(l.map f).any id=l.any f:=by
 rw [List.any_map];rfl
end L2
namespace L2
open PySem PySem.Spec PyProof.Rows
section
variable {X:Cx}
def rNeP (K:PySem.W.Frag):R2:=fun x y H Q=>∃(p q:Addr) (a b c d:Int),x= .ref p∧y= .ref q∧SqT K H p [.int a, .int b]∧SqT K H q [.int c, .int d]∧Q (.bl (!decide (a=c∧b=d))) H
theorem rK (hu:X.A.units+1 < cLine):OpR X (compareOp .NotEq) (rNeP X.K):=by
 intro pins s σ H x y v u Q I rx ry h;obtain ⟨p,q,a,b,c,d,e1,e2,hp,hq,k⟩:=h;subst e1 e2;cases (show v=Value.ref p from rx);cases (show u=Value.ref q from ry);obtain ⟨its,r1,t1,_⟩:=I.tuple hp;obtain ⟨its2,r2,t2,_⟩:=I.tuple hq;obtain ⟨u1,u2,rfl,⟨w1,rfl⟩,⟨w2,rfl⟩⟩:=Vals.two r1;obtain ⟨u3,u4,rfl,⟨w3,rfl⟩,⟨w4,rfl⟩⟩:=Vals.two r2;refine SeqAt.RcNeAt.tuples (A:=X.A) (e:=fun j=>if j=0 then a==c else b==d) (show s.heap.IsTuple p _ from t1) (show s.heap.IsTuple q _ from t2) (by omega) (fun j h1 h2=> ?_) X.prog X.w X.xe _ ?_
 · match j,h1,h2 with
   |0,_,_=>exact PySem.SeqAt.EqAt.int_int a w1 c w3
   |1,_,_=>exact PySem.SeqAt.EqAt.int_int b w2 d w4
   |j+2,h1,_=>
    have:j+2 < 2:=h1;omega
 · refine ⟨.bl (!decide (a=c∧b=d)),H,I,?_,k⟩;show Value.bool (!(((a==c)&& ((b==d)&&true))&&true))=Value.bool (!decide (a=c∧b=d));congr 2;rw [Bool.and_true,Bool.and_true,Ac];simp
end
end L2
namespace Tre
open PySem L2
theorem TrsAt.set {H:Hp} {v:V} {t:Tr} (hv:TrAt H v t):∀ {vs:List V} {ts:List Tr} {i:Nat},TrsAt H vs ts→TrsAt H (vs.set i v) (ts.set i t)
 |vs,[],i,h=>by
  unfold TrsAt at h;subst h;simp;exact .nil
 |vs,u::ts,0,h=>by
  obtain ⟨w,r,rfl,h1,h2⟩:=h.inv;exact .cons hv h2
 |vs,u::ts,i+1,h=>by
  obtain ⟨w,r,rfl,h1,h2⟩:=h.inv;exact .cons h1 (TrsAt.set hv h2)
theorem fo {t:Tr} (h:Ty .tm t):∃ts,t= .tup ts:=by
 cases h<;>exact ⟨_,rfl⟩
end Tre
namespace Su
open PySem L2 Tre Mth Wd
theorem uz {α:Type} {rs:List α} {y:α} (pos:0 < rs.length) (ey:rs[rs.length - 1]?=some y):atI rs (-1)=some y:=by
 unfold atI ixN;rw [if_neg (by decide),if_pos (by omega),show (-1+(rs.length:Int)).toNat=rs.length - 1 by omega]
 exact ey
theorem uy {n:Nat} (pos:0 < n):ixN n (-1)=some (n - 1):=by
 unfold ixN;rw [if_neg (by decide),if_pos (by omega),show (-1+(n:Int)).toNat=n - 1 by omega]
theorem i3 {α β:Type} {f:α→β} {us vs:List β} (h:us.Perm vs):∀ {ps:List α},vs=ps.map f→∃qs:List α,us=qs.map f∧qs.Perm ps:=by
 induction h with
 |nil=>intro ps e;exact ⟨[],rfl,by cases ps with|nil=>exact .nil|cons p ps=>simp at e⟩
 |cons x _ ih=>
  intro ps e
  cases ps with
  |nil=>simp at e
  |cons p ps=>
   rw [zc,Ab] at e;obtain ⟨qs,e1,e2⟩:=ih e.2;exact ⟨p::qs,by rw [zc,e1,e.1],e2.cons p⟩
 |swap x y l=>
  intro ps e
  cases ps with
  |nil=>simp at e
  |cons p ps=>
   cases ps with
   |nil=>simp at e
   |cons q ps=>
    simp only [zc,Ab] at e;obtain ⟨e1,e2,e3⟩:=e;exact ⟨q::p::ps,by simp only [zc,e1,e2,e3], .swap p q ps⟩
 |trans _ _ h1 h2=>
  intro ps e;obtain ⟨ms,e1,p1⟩:=h2 e;obtain ⟨qs,e2,p2⟩:=h1 e1;exact ⟨qs,e2,p2.trans p1⟩
structure Gq (e:Nat) (p:Pq):Prop where
 ty:Ty .tm p.1
 dep:p.1.depth≤7
 gf:Gf e p.2
 sh:Sh p.2
theorem Gq.mono {m n:Nat} {p:Pq} (h:Gq m p) (hn:m≤n):Gq n p:=⟨h.ty,h.dep,h.gf.mono hn,h.sh⟩
theorem Gq.pr {e:Nat} {p:Pq} (h:Gq e p):Ty .pr (prT p)∧(prT p).depth≤8:=by
 refine ⟨.pr _ _ h.ty (.fr _ _),?_⟩;have:=h.dep;unfold prT frT;simp only [Tr.depth,Trs.depth];omega
theorem av {α:Type} {us:List α} {i:Nat} {u:α} (e:us[i]?=some u):us.take (i+1)=us.take i++ [u]:=by
 rw [List.take_add_one,e];rfl
theorem uJ {p:Fr}:(!decide (p.1=0∧p.2=1))=decide (p≠zero):=by
 by_cases h:p=zero
 · subst h;decide
 · have:¬(p.1=0∧p.2=1):=fun q=>h (Prod.ext q.1 q.2);simp [this,h]
open PySem L2 Tre Mth Wd
noncomputable def scale (q:Fr) (p:Pq):Pq:=(p.1,cC p.2 q)
noncomputable def negF (f:Fr):Fr:=(-f.1,f.2)
noncomputable def neg (p:Pq):Pq:=(p.1,negF p.2)
theorem vM {f:Fr} (h:Sh f):Sh (negF f):=im h
theorem lJ (f:Fr):rv (negF f)= -rv f:=by
 unfold rv negF;simp only [Rat.intCast_neg];grind
open Classical in
theorem tP (t:Tr) (ps:List Pq):tot t (ps.map neg)= -tot t ps:=by
 induction ps with
 |nil=>simp only [List.map_nil,tot];grind
 |cons p r ih=>
  simp only [zc,tot,ih];show (if p.1=t then rv (negF p.2) else 0)+_=_;rw [lJ];by_cases z:p.1=t
  · simp only [if_pos z];grind
  · simp only [if_neg z];grind
noncomputable def m1:Fr:=(-1,1)
noncomputable def p1:Fr:=(1,1)
end Su
namespace L2
theorem ne_int {a b:Int} (h:a=b):(!decide (V.int a=V.int b))=false:=by
 rw [h,decide_eq_true rfl];rfl
open PySem PySem.Spec PyProof.Rows
section
variable {X:Cx}
theorem gU:∀ {ys:List Str} {us:List Value},Vals (ys.map V.str) us→StrsAre us ys
 | [],_,r=>by cases r;exact .nil
 |y::ys,_,r=>by
  rw [zc] at r
  cases r with
  |cons r1 r2=>
   obtain ⟨t,rfl⟩:=r1;exact .cons y t (gU r2)
def yv (K:PySem.W.Frag):V→List V→Hp→VK→Prop:=fun x vs H Q=>∃(sep:Str) (l:Addr) (ys:List Str),x= .str sep∧vs= [.ref l]∧SqL K H l (ys.map V.str)∧(ys.map (·.length)).sum+ys.length*sep.length≤16777216∧Q (.str (Txt.join sep ys)) H
theorem ur:MtM X "str.join" (yv X.K):=by
 intro pins s σ H x vs v us Q I rx rv h;obtain ⟨sep,l,ys,rfl,rfl,hl,hz,q⟩:=h;obtain ⟨t,rfl⟩:=rx;obtain ⟨u,rfl,ru⟩:=rv.one;cases ru;obtain ⟨its,r,p,_⟩:=I.list hl;exact PyProof.Rows.join_list p.isList (by simpa using gU r) hz fun t' k=>⟨.str _,H,I.tok k,⟨_,rfl⟩,q⟩
end
end L2
namespace Dec
open PySem PySem.NumText L2 Mth
theorem len_app (x y:Str):(x++y).length=x.length+y.length:=by rw [←cX,ir,z7,cX,cX]
end Dec
namespace Tw
open PySem L2 Tre Wd Mth Dec Su
mutual
noncomputable def tmC:Tr→List Nat
 | .tup (_:: .str x::r)=>match r with
  | []=>cl x
  |t::_=>40::cl x++tmK t++ [41]
 |_=> []
noncomputable def tmK:Tr→List Nat
 | .tup ts=>tmsC ts
 |_=> []
noncomputable def tmsC:List Tr→List Nat
 | []=> []
 |t::ts=>32::tmC t++tmsC ts
end
theorem f6 (k x:Str):tmC (.tup [.str k, .str x])=cl x:=by rw [tmC]
theorem eA (k x:Str) (ts:List Tr):tmC (.tup [.str k, .str x, .tup ts])=40::cl x++tmsC ts++ [41]:=by rw [tmC,tmK]
noncomputable def spC (cs:List (List Nat)):List Nat:=(cs.map (32:: ·)).flatten
theorem eZ:∀ts,tmsC ts=spC (ts.map tmC)
 | []=>by rw [tmsC];rfl
 |t::ts=>by
  rw [tmsC,eZ ts];rfl
theorem tU (a b:List (List Nat)):spC (a++b)=spC a++spC b:=by
 unfold spC;rw [z4,List.flatten_append]
theorem mN {B:Nat}:∀ {cs:List (List Nat)},(∀c∈cs,c.length≤B)→(spC cs).length≤cs.length*(B+1)
 | [],_=>zf _
 |c::cs,h=>by
  have h1:=h c yO;have h2:=mN fun d m=>h d (yR c m);have e:spC (c::cs)=(32::c)++spC cs:=rfl;rw [e,z7,za,za,Nat.succ_mul];omega
theorem xW:cl (Str.ofString " ")= [32]:=by decide +kernel
theorem yB:cl (Str.ofString "(")= [40]:=by decide +kernel
theorem yo:cl (Str.ofString ")")= [41]:=by decide +kernel
theorem kM (y:Str) (ys:List Str):cl (Txt.join (Str.ofString " ") (y::ys))=cl y++spC (ys.map cl):=by
 have e:Txt.join (Str.ofString " ") (y::ys)=Str.join (Str.ofString " ") (y::ys):=StrLaws.glued_eq_join _ _;rw [e];clear e
 induction ys generalizing y with
 |nil=>
  show cl y=cl y++spC [];simp [spC]
 |cons z ys ih=>
  have e2:Str.join (Str.ofString " ") (y::z::ys)=y++Str.ofString " "++Str.join (Str.ofString " ") (z::ys):=rfl;rw [e2,ir,ir,xW,ih z];simp [spC]
theorem pO {B:Nat}:∀ {ys:List Str},(∀y∈ys,y.length≤B)→(ys.map (·.length)).sum≤ys.length*B
 | [],_=>zf _
 |y::ys,h=>by
  have h1:=h y yO;have h2:=pO fun z m=>h z (yR y m);simp only [zc,List.sum_cons,za];rw [Nat.succ_mul];omega
noncomputable def frC (p:Fr):List Nat:=txt p.1 p.2
structure Tb (t:Tr):Prop where
 ty:Ty .tm t
 dep:t.depth≤7
 len:(tmC t).length≤1000
structure Pb (p:Pq):Prop where
 tb:Tb p.1
 gf:Gf 200 p.2
noncomputable def prC (p:Pq):List (List Nat):= [frC p.2,tmC p.1]
noncomputable def hd (k:Str):List Nat:=40::cl k
inductive Wx:Nat→Tr→List Nat→Prop
 |fl (n:Nat) (x:Str):x.length≤8→Wx n (.tup [s_ "flag", .str x]) (cl x)
 |mo (n:Nat) (ps:List Pq) (f:Fr):ps.length≤3→(∀p∈ps,Pb p)→Gf 200 f→Wx n (.tup [s_ "most", .tup (ps.map prT),frT f]) (hd "most"++spC (ps.flatMap prC++ [frC f])++ [41])
 |li (n:Nat) (t u:Tr):Tb t→Tb u→Wx n (.tup [s_ "like",t,u]) (hd "like"++spC [tmC t,tmC u]++ [41])
 |no (n:Nat) (t:Tr) (c:List Nat):Wx n t c→Wx (n+1) (.tup [s_ "not",t]) (hd "not"++spC [c]++ [41])
 |bo (n:Nat) (l:List (Tr×List Nat)):l.length≤3→(∀p∈l,Wx n p.1 p.2)→Wx (n+1) (.tup [s_ "both", .tup (l.map (·.1))]) (hd "all"++spC (l.map (·.2))++ [41])
 |ei (n:Nat) (l:List (Tr×List Nat)):l.length≤3→(∀p∈l,Wx n p.1 p.2)→Wx (n+1) (.tup [s_ "either", .tup (l.map (·.1))]) (hd "any"++spC (l.map (·.2))++ [41])
open PySem PyProof.Rows L2 Tre Wd Mth Dec Su
inductive Wi:Nat→Str→Tr→List (List Nat)→Prop
 |mo (n:Nat) (ps:List Pq) (f:Fr):ps.length≤3→(∀p∈ps,Pb p)→Gf 200 f→Wi n "most" (.tup [s_ "most", .tup (ps.map prT),frT f]) (ps.flatMap prC++ [frC f])
 |li (n:Nat) (t u:Tr):Tb t→Tb u→Wi n "like" (.tup [s_ "like",t,u]) [tmC t,tmC u]
 |no (n:Nat) (t:Tr) (c:List Nat):Wx n t c→Wi (n+1) "not" (.tup [s_ "not",t]) [c]
 |bo (n:Nat) (l:List (Tr×List Nat)):l.length≤3→(∀p∈l,Wx n p.1 p.2)→Wi (n+1) "both" (.tup [s_ "both", .tup (l.map (·.1))]) (l.map (·.2))
 |ei (n:Nat) (l:List (Tr×List Nat)):l.length≤3→(∀p∈l,Wx n p.1 p.2)→Wi (n+1) "either" (.tup [s_ "either", .tup (l.map (·.1))]) (l.map (·.2))
def FwP (k k':Str):Prop:=(k= "not"∧k'= "not")∨(k= "both"∧k'= "all")∨(k= "either"∧k'= "any")∨(k= "like"∧k'= "like")∨(k= "most"∧k'= "most")
theorem Wx.inner {n:Nat} {t:Tr} {c:List Nat} (h:Wx n t c):(∃x:Str,t= .tup [s_ "flag", .str x]∧c=cl x∧x.length≤8)∨∃k k' cs,Wi n k t cs∧FwP k k'∧c=hd k'++spC cs++ [41]:=by
 cases h with
 |fl _ x h=>exact .inl ⟨x,rfl,rfl,h⟩
 |mo _ ps f h1 h2 h3=>exact .inr ⟨_,_,_, .mo n ps f h1 h2 h3, .inr (.inr (.inr (.inr ⟨rfl,rfl⟩))),rfl⟩
 |li _ t u h1 h2=>exact .inr ⟨_,_,_, .li n t u h1 h2, .inr (.inr (.inr (.inl ⟨rfl,rfl⟩))),rfl⟩
 |no m t c h=>exact .inr ⟨_,_,_, .no m t c h, .inl ⟨rfl,rfl⟩,rfl⟩
 |bo m l h1 h2=>exact .inr ⟨_,_,_, .bo m l h1 h2, .inr (.inl ⟨rfl,rfl⟩),rfl⟩
 |ei m l h1 h2=>exact .inr ⟨_,_,_, .ei m l h1 h2, .inr (.inr (.inl ⟨rfl,rfl⟩)),rfl⟩
section
variable {X:Cx} {D:Addr}
end
end Tw
namespace Trm
open PySem
inductive Tm where
 |nm (x:Str)
 |ap (f:Str) (ts:List Tm)
def Ltr (c:Nat):Prop:=97≤c∧c≤122
structure Nm (x:Str):Prop where
 pos:0 < x.length
 le:x.length≤8
 ltr:∀c∈x.cps.toList,Ltr c
mutual
noncomputable def Tm.depth:Tm→Nat
 | .nm _=>0
 | .ap _ ts=>Tms.depth ts+1
noncomputable def Tms.depth:List Tm→Nat
 | []=>0
 |t::ts=>max (Tm.depth t) (Tms.depth ts)
end
open PySem
noncomputable def cl (x:Str):List Nat:=x.cps.toList
theorem cl_inj {x y:Str} (h:cl x=cl y):x=y:=by
 cases x;cases y;simp only [Str.mk.injEq];exact Array.toList_inj.mp h
theorem cX (x:Str):(cl x).length=x.length:=by simp [cl,Str.length]
theorem nm_cl {x:Str} (h:Nm x):∃c l,cl x=c::l∧Ltr c:=by
 cases e:cl x with
 |nil=>
  have:=cX x;rw [e] at this;have:=h.pos;simp at*;omega
 |cons c l=>exact ⟨c,l,rfl,h.ltr c (by show c∈cl x;rw [e];exact yO)⟩
end Trm
namespace Tw
open PySem L2 Tre Wd Mth Dec Su
abbrev Nm:=Trm.Nm
abbrev Ltr:=Trm.Ltr
inductive Lt:Tr→Prop
 |nm (x:Str):Nm x→Lt (.tup [s_ "name", .str x])
 |ap (f:Str) (ts:List Tr):Nm f→0 < ts.length→(∀t∈ts,Lt t)→Lt (.tup [s_ "call", .str f, .tup ts])
def St (Q:Nat→Prop) (r:List Nat):Prop:=∀c l,r=c::l→¬Q c
theorem ji {Q:Nat→Prop}:∀ {x y r s:List Nat},(∀c∈x,Q c)→(∀c∈y,Q c)→St Q r→St Q s→x++r=y++s→x=y∧r=s
 | [],[],_,_,_,_,_,_,e=>⟨rfl,e⟩
 | [],b::y,r,s,_,hy,hr,_,e=>absurd (hy b yO) (hr b _ e)
 |a::x,[],r,s,hx,_,_,hs,e=>absurd (hx a yO) (hs a _ e.symm)
 |a::x,b::y,r,s,hx,hy,hr,hs,e=>by
  rw [zv,zv] at e;obtain ⟨e1,e2⟩:=List.cons.inj e;obtain ⟨q1,q2⟩:=ji (fun c m=>hx c (yR _ m)) (fun c m=>hy c (yR _ m)) hr hs e2;exact ⟨by rw [e1,q1],q2⟩
def En (r:List Nat):Prop:=∀c l,r=c::l→c=32∨c=41
theorem En.st {Q:Nat→Prop} {r:List Nat} (h:En r) (h1:¬Q 32) (h2:¬Q 41):St Q r:=fun c l e=>by
 rcases h c l e with rfl|rfl
 · exact h1
 · exact h2
theorem En.nil:En []:=fun c l e=>by cases e
theorem En.b (l:List Nat):En (32::l):=fun c m e=>by cases e;exact .inl rfl
theorem En.k (l:List Nat):En (41::l):=fun c m e=>by cases e;exact .inr rfl
theorem fq (cs:List (List Nat)) (r:List Nat):En (spC cs++41::r):=by
 cases cs with
 |nil=>exact En.k r
 |cons c cs=>exact En.b _
theorem nl32:¬Ltr 32:=by unfold Ltr Trm.Ltr;omega
theorem nl41:¬Ltr 41:=by unfold Ltr Trm.Ltr;omega
theorem pR {α:Type} (c:α→List Nat) {Q:α→Prop}:∀ {ts us:List α} {r s:List Nat},(∀t∈ts,∀u,Q u→∀r s,En r→En s→c t++r=c u++s→t=u∧r=s)→(∀u∈us,Q u)→
 spC (ts.map c)++41::r=spC (us.map c)++41::s→ts=us∧r=s
 | [],[],r,s,_,_,e=>by
  simp only [spC,List.map_nil,List.flatten_nil,Ak] at e;exact ⟨rfl,(List.cons.inj e).2⟩
 | [],u::us,r,s,_,_,e=>by
  have e':41::r=32::(c u++spC (us.map c)++41::s):=by simpa [spC] using e
  cases e'
 |t::ts,[],r,s,_,_,e=>by
  have e':32::(c t++spC (ts.map c)++41::r)=41::s:=by simpa [spC] using e
  cases e'
 |t::ts,u::us,r,s,ht,hu,e=>by
  have e':32::(c t++(spC (ts.map c)++41::r))=32::(c u++(spC (us.map c)++41::s)):=by simpa [spC] using e
  obtain ⟨e1,e2⟩:=ht t yO u (hu u yO) _ _ (fq _ _) (fq _ _) (List.cons.inj e').2;obtain ⟨e3,e4⟩:=pR c (fun t m=>ht t (yR _ m)) (fun u m=>hu u (yR _ m)) e2;exact ⟨by rw [e1,e3],e4⟩
theorem nm_cl {x:Str} (h:Nm x):∃c l,cl x=c::l∧Ltr c:=Trm.nm_cl h
theorem jr {x:Str} (h:Nm x):∀c∈cl x,Ltr c:=h.ltr
theorem vF {t:Tr} (h:Lt t):∀(u:Tr),Lt u→∀(r s:List Nat),En r→En s→tmC t++r=tmC u++s→t=u∧r=s:=by
 induction h with
 |nm x hx=>
  intro u hu r s hr hs e
  cases hu with
  |nm y hy=>
   unfold s_ at e ⊢;rw [f6,f6] at e;obtain ⟨e1,e2⟩:=ji (jr hx) (jr hy) (hr.st nl32 nl41) (hs.st nl32 nl41) e;exact ⟨by rw [cl_inj e1],e2⟩
  |ap g us hg h0 hu=>
   unfold s_ at e;rw [f6,eA] at e;obtain ⟨c,l,q,hc⟩:=nm_cl hx;rw [q,zv] at e;have:c=40:=(List.cons.inj e).1;subst this;unfold Ltr Trm.Ltr at hc;omega
 |ap f ts hf h0 ht ih=>
  intro u hu r s hr hs e
  cases hu with
  |nm y hy=>
   unfold s_ at e;rw [f6,eA] at e;obtain ⟨c,l,q,hc⟩:=nm_cl hy;rw [q,zv] at e;have:40=c:=(List.cons.inj e).1;subst this;unfold Ltr Trm.Ltr at hc;omega
  |ap g us hg h0' hu=>
   unfold s_ at e ⊢;rw [eA,eA,eZ,eZ] at e;have e':cl f++(spC (ts.map tmC)++41::r)=cl g++(spC (us.map tmC)++41::s):=by simpa using e
   obtain ⟨e1,e2⟩:=ji (jr hf) (jr hg) ((fq _ _).st nl32 nl41) ((fq _ _).st nl32 nl41) e';obtain ⟨e3,e4⟩:=pR tmC ih hu e2;exact ⟨by rw [cl_inj e1,e3],e4⟩
theorem brk {k l:Str} {cs ds:List (List Nat)} {r s:List Nat} (hk:∀c∈cl k,Ltr c) (hl:∀c∈cl l,Ltr c) (e:(hd k++spC cs++ [41])++r=(hd l++spC ds++ [41])++s):k=l∧spC cs++41::r=spC ds++41::s:=by
 have e':cl k++(spC cs++41::r)=cl l++(spC ds++41::s):=by simpa [hd] using e
 obtain ⟨e1,e2⟩:=ji hk hl ((fq _ _).st nl32 nl41) ((fq _ _).st nl32 nl41) e';exact ⟨cl_inj e1,e2⟩
end Tw
namespace Fs
section
variable {α:Type}
end
end Fs
namespace Tw
open PySem L2 Tre Wd Mth Dec Su
end Tw
namespace Fm
open PySem L2 Tre Wd Mth Dec Su Tw
inductive Gt:Tr→Prop
 |nm (x:Str):Nm x→Gt (.tup [s_ "name", .str x])
 |ap (f:Str) (ts:List Tr):Nm f→0 < ts.length→ts.length≤3→(∀t∈ts,Gt t)→Gt (.tup [s_ "call", .str f, .tup ts])
theorem Gt.lt {t:Tr} (h:Gt t):Lt t:=by
 induction h with
 |nm x hx=>exact .nm x hx
 |ap f ts hf h0 h3 _ ih=>exact .ap f ts hf h0 ih
theorem Gt.ty {t:Tr} (h:Gt t):Ty .tm t:=by
 induction h with
 |nm x hx=>exact .nm x
 |ap f ts hf h0 h3 _ ih=>exact .ap f ts h3 ih
theorem Gt.inj {t u:Tr} (h:Gt t) (h':Gt u) (e:tmC t=tmC u):t=u:=(vF h.lt u h'.lt [] [] En.nil En.nil (by rw [e])).1
noncomputable def tk:Tr→List Tr
 | .tup [_,_, .tup ts]=>ts
 |_=> []
theorem xJ (x:Str):tk (.tup [s_ "name", .str x])= []:=rfl
theorem xK (f:Str) (ts:List Tr):tk (.tup [s_ "call", .str f, .tup ts])=ts:=rfl
inductive Sb:Tr→Tr→Prop
 |refl (t:Tr):Sb t t
 |step {x u t:Tr}:u∈tk t→Sb x u→Sb x t
theorem Gt.tk {t u:Tr} (h:Gt t) (m:u∈tk t):Gt u∧u.depth < t.depth:=by
 cases h with
 |nm x hx=>rw [xJ] at m;cases m
 |ap f ts hf h0 h3 hh=>
  rw [xK] at m;refine ⟨hh u m,?_⟩;have:=bv m;simp only [Tr.depth,Trs.depth];omega
theorem Sb.tk {x t y:Tr} (h:Sb x t) (m:y∈tk x):Sb y t:=by
 induction h with
 |refl=>exact .step m (.refl _)
 |step m' _ ih=>exact .step m' ih
def Clt (acc:List Tr):Prop:=∀x∈acc,∀y∈tk x,y∈acc
theorem Clt.sb {acc:List Tr} (c:Clt acc) {x t:Tr} (h:Sb x t):t∈acc→x∈acc:=by
 induction h with
 |refl=>exact fun m=>m
 |step m _ ih=>exact fun ha=>ih (c _ ha _ m)
theorem sub_len {α:Type}:∀ {l U:List α},l.Nodup→(∀x∈l,x∈U)→l.length≤U.length
 | [],U,_,_=>zf _
 |x::l,U,h,hs=>by
  obtain ⟨h1,h2⟩:=Aa.mp h;obtain ⟨a,b,rfl⟩:=List.append_of_mem (hs x yO)
  have:l.length≤(a++b).length:=sub_len h2 fun y my=>by
   have:=hs y (yR _ my);simp only [ze,yV] at this ⊢;rcases this with h|rfl|h
   · exact .inl h
   · exact absurd my h1
   · exact .inr h
  simp only [z7,za] at this ⊢;omega
open Classical in
noncomputable def ix (us:List Tr) (t:Tr):Nat:=us.findIdx fun x=>decide (x=t)
open Classical in
theorem yD {us:List Tr} {t:Tr} (m:t∈us):us[ix us t]?=some t:=by
 unfold ix;have h:us.findIdx (fun x=>decide (x=t)) < us.length:=List.findIdx_lt_length_of_exists ⟨t,m,by simp⟩
 have:=List.findIdx_getElem (w:=h);rw [yN h];exact congrArg some (of_decide_eq_true this)
theorem vi {α:Type} {l:List α} (h:l.Nodup) {i j:Nat} {x:α} (h1:l[i]?=some x) (h2:l[j]?=some x):i=j:=by
 obtain ⟨hi,e1⟩:=yW.mp h1;obtain ⟨hj,e2⟩:=yW.mp h2;have n:=List.nodup_iff_pairwise_ne.mp h;rw [List.pairwise_iff_getElem] at n;rcases Nat.lt_trichotomy i j with q|q|q
 · exact absurd (e1.trans e2.symm) (n i j hi hj q)
 · exact q
 · exact absurd (e2.trans e1.symm) (n j i hj hi q)
theorem ix_eq {us:List Tr} (nd:us.Nodup) {i:Nat} {t:Tr} (e:us[i]?=some t):ix us t=i:=vi nd (yD (yT e)) e
end Fm
namespace L2
open PySem PySem.Spec PyProof.Rows Zp
noncomputable def Ite (K:PySem.W.Frag) (a:Addr):It:=
 ⟨fun i H=>∃xs x,SqL K H a xs∧xs[i]?=some x,
  fun i H v H'=>∃T x,v= .ref T∧H T=none∧H'=upd H T (.tup [.int i,x])∧(∀xs,SqL K H a xs→xs[i]?=some x)∧i < sizeLine,
  fun i H=>∃xs,SqL K H a xs∧xs.length≤i⟩
theorem or {P:Program} {w:World} {K:PySem.W.Frag} {es:List Expr} {kk:Nat} {pos:Pos} (a e it:Addr) (hd:e≠it):
 Turn P w K (.Tuple es kk pos) (Ite K a) [e,it] e (fun i h=>(∃old,IsEnum h e it i old)∧h.IsListIter it a i∧a∉ [e,it]) where
 mem:=by simp
 obj:=fun i h ⟨⟨u,h1⟩,h2,_⟩ c hc=>by
  simp only [yV,zm,or_false] at hc;rcases hc with rfl|rfl
  · exact ⟨_,h1,fun v e=>by cases (show Data.fields _=Data.cell v from e)⟩
  · obtain ⟨o,e1,_,e3⟩:=h2;exact ⟨o,e1,fun v e=>by rw [e3] at e;cases e⟩
 keep:=fun i h h' ⟨⟨u,h1⟩,h2,h3⟩ kp=>⟨⟨u,kp e (by simp) _ h1⟩,h2.at fun o x=>kp it (by simp) o x,h3⟩
 item:=by
  intro X hP hw hK hc i pins s σ H E I hf ⟨⟨u0,h1⟩,h2,h6⟩ hg;subst hP hw hK;refine hZq fun q_ e_=> ?_;obtain ⟨xs,x,g1,g3⟩:=hg;subst e_;refine hZq fun q_ e_=> ?_;obtain ⟨as,r1,p1,z1⟩:=I.list g1;subst e_;obtain ⟨u,e1,q1⟩:=r1.get g3;have p1:=p1.isList;simp only [yV,zm,or_false,not_or] at h6;refine wpAny_pyNext_enum_item h1 h2 p1 (x:=u) (by simpa using e1) hd fun h' a1 a3 a5 a6 up=>⟨_,rfl,?_⟩
  refine wpAny_letOwnedTupleGo_enum (s:= {s with heap:=h',toks:=s.toks+1}) a1 fun h'' b1 sb=> ?_;have fr:H s.heap.objs.size=none:=I.hok.fresh (yP _);have lt:∀ {c:Addr} {o:Obj},s.heap.get? c=some o→c≠s.heap.objs.size:=fun e=>yZ (Heap.lt_size e)
  have all:∀c o,c∉ [e,it]→s.heap.get? c=some o→h''.get? c=some o:=fun c o n ee=>by
   simp only [yV,zm,or_false,not_or] at n;exact sb.extBut c o n.1 (up c o n.1 n.2 ee)
  have nz:s.heap.objs.size≠e:=(lt h1).symm;have pT:h''.get? s.heap.objs.size=some {cls:= .type "tuple",data:= .seq #[.int i s.toks,u]}:=sb.extBut _ _ nz a5
  have fp:∀b∈ [e,it],upd H s.heap.objs.size (.tup [.int i,x]) b=none:=fun c hc=>by
   have nc:c≠s.heap.objs.size:=by
    simp only [yV,zm,or_false] at hc;rcases hc with rfl|rfl
    · exact lt h1
    · obtain ⟨o,ee,_⟩:=h2;exact lt ee
   rw [af nc];exact (hf c hc).1
  refine ⟨.ref s.heap.objs.size,upd H s.heap.objs.size (.tup [.int i,x]),?_,rfl,⟨_,x,rfl,fr,rfl,fun zs hz=> ?_,zd (yW.mp g3).1 z1⟩,⟨⟨u,by simpa using b1⟩,?_,?_⟩,fp⟩
  ·
   refine I.call' (s':= {s with heap:=h'',toks:=s.toks+1}) (ch:= [e,it]) rfl ⟨fun b o e _ _ hx=>all b o hx e,fun b o e _ _ hx=>⟨o.slots,all b o hx e⟩,fun c o e n _=>by rw [af (lt e)];exact n,fun b o e hx=>⟨o,all b o hx e⟩,fun c zs e=>by rw [af (aD e fr)];exact e,fun c o zs e=>by rw [af (aD e fr)];exact e,fun c ps e=>⟨#[],by rw [af (aD e fr),e];simp⟩⟩ ?_ I.bare fun b hb=> ?_
   · intro c o ee;by_cases hcT:c=s.heap.objs.size
     · subst hcT;rw [a8] at ee;cases ee;exact ⟨by show 2≤sizeLine;decide,[.int i s.toks,u], .cons ⟨_,rfl⟩ (.cons q1 .nil),⟨_,pT,rfl,_,rfl⟩⟩
     · rw [af hcT] at ee;have nb:∀c u,H c=some u→c∉ [e,it]:=fun c u e hz=>by rw [(hf c hz).1] at e;cases e
       refine (I.hok c o ee).stay (fun d v hc q=>all d v ?_ q) (fun d q=> ?_) fun d m q=> ?_
       · rcases hc with hz|hz
         · rw [hz];exact nb c o ee
         · exact nb d _ hz
       · rw [af (aD q fr)];exact q
       · rw [af (aD q fr)];exact q
   · obtain ⟨g0,g1,g2,g3,g4,g5⟩:=hf b hb;exact ⟨g3,g1,g4,g5⟩
  · rw [I.list_inj hz g1];exact g3
  · exact a3.extBut sb.extBut hd.symm
  · simpa using h6
 done:=by
  intro X hP hw hK hc i pins s σ H E I hf ⟨⟨u0,h1⟩,h2,h6⟩ hg;subst hP hw hK;obtain ⟨xs,g1,g3⟩:=hg;refine hZq fun q_ e_=> ?_;obtain ⟨as,r1,p1,z1⟩:=I.list g1;subst e_;have hl:=r1.length;refine wpAny_pyNext_enum_end (I.ok.hd hc) h1 h2 p1.isList (by simp;omega) fun h' up=>⟨rfl,I.turneds (t':=s.toks) (fun c o n ee=> ?_) hf⟩
  simp only [yV,zm,or_false,not_or] at n;exact up c o n.2 ee
 self:=fun _ _ _ _ _ st h=>by
  obtain ⟨⟨u,h1⟩,_⟩:=st;exact wpAny_pyIter_enum h1 h
section
variable {X:Cx}
def vm (K:PySem.W.Frag) (ta:TA):TI:=fun σ H R=>ta σ H fun vs H1=>∃a xs,vs= [.ref a]∧SqL K H1 a xs∧R (Ite K a) H1
theorem uc {es:List Expr} {kk:Nat} {pt:Pos} {x:Expr} {ta:TA} {p pos:Pos} (hg:Gl X "enumerate") (hm:X.mg "enumerate"=none) (ha:PA X [x] ta) (hs:starEach [x] X.env= [(false,eval x X.env)]:=by rfl):
 PI X (.Tuple es kk pt) (.Call (.Name "enumerate" p) [x] [] pos) (vm X.K ta):=by
 intro pins s σ H R I h;refine Call_ (eU I hg hm PyProof.Rows.boot_enumerate (PyProof.Rows.callWith_type1 (thn (ha pos pins s σ H _ I h) fun us s1 ⟨vs,H1,I1,r1,q1⟩=> ?_) (by rw [hs];rfl) rfl))
 obtain ⟨a,xs,e,k1,q⟩:=q1;subst e
 cases r1 with
 |cons r rr=>
  cases rr;cases r;obtain ⟨as,_,p1,_⟩:=I1.list k1;have p1:=p1.isList
  have lta:a < s1.heap.objs.size:=by
   obtain ⟨o,e,_⟩:=p1;exact Heap.lt_size e
  refine call_enumerate_list p1 fun h' h1 h2 sz up=> ?_;refine wpAny_pyIter_enum (s:= {s1 with heap:=h'}) h1 ?_;have na:∀j,a≠s1.heap.objs.size+j:=fun j=>yZ (zd lta (zP ..))
  have le:∀c∈ [s1.heap.objs.size+1,s1.heap.objs.size+0],s1.heap.objs.size≤c:=fun c hc=>by
   simp only [yV,zm,or_false] at hc;rcases hc with rfl|rfl<;>exact zP ..
  refine ⟨s1.heap.objs.size+1,[s1.heap.objs.size+1,s1.heap.objs.size+0],_,_,H1,rfl,I1.kept (t':=s1.toks) up,or a _ _ (by simp),⟨⟨_,h1⟩,h2,?_⟩,fun c hc=>I1.fpOk (le c hc) (I1.hok.fresh (le c hc)),q⟩
  simp only [yV,zm,or_false,not_or];exact ⟨na 1,na 0⟩
end
end L2
namespace L2
section
open PySem
variable {prog:Program} {w:World} {A:Around} {R:Result→Shared→Prop} {s:Shared}
theorem ga {kx vx target iter:Expr} {ifs:List Expr} {scope:Scope} {pos:Pos} {it:Value} {D:Addr} {env:Env} (I:Nat→Shared→Prop)
 (turn:∀n s,I n s→wpAny (model prog w) A (pyNext it) (fun r s₁=>match r with
  |none=>R (.ok .next) s₁
  |some v=>wpAny (model prog w) A (letOwnedTupleGo target it v) (fun _ s₁'=>wpAny (model prog w) A (assign target env v) (fun _ s₂=>
   wpAny (model prog w) A (forIn ifs true fun c r=>if r=true then do let ok←isTrue c env (eval c env);pure (ForInStep.yield ok) else pure (ForInStep.yield r)) (fun ok s₃=>
    if ok=true then wpAny (model prog w) A (eval kx env) (fun kv s₄=>wpAny (model prog w) A (eval vx env) (fun vv s₅=>
     wpAny (model prog w) A (dictSet D kv vv) (fun _ s₆=>∃m,m < n∧I m s₆) (fun _ _=>False) s₅) (fun _ _=>False) s₄) (fun _ _=>False) s₃
    else∃m,m < n∧I m s₃) (fun _ _=>False) s₂) (fun _ _=>False) s₁') (fun _ _=>False) s₁) (fun _ _=>False) s)
 (n:Nat) (h:I n s):codeAny (model prog w) A (.compLoop (.DictComp kx vx [⟨target,iter,ifs,0⟩] scope pos) 0 it (.ref D) env) R s:=by
 refine codeAny_loop rfl I (fun n s hI=> ?_) n h;show wpAny _ A ((compTurn (.DictComp kx vx [⟨target,iter,ifs,0⟩] scope pos) 0 it (.ref D) env).onRaise (fun x=>do noteFrame x env;theTreesLotGoes x)) _ _ s
 refine wpAny_noted ?_;rw [compTurn_dict];refine wpAny_bind (wpAny_standAt (wpAny_bind (wpAny_mono (turn n s hI) (fun r s₁ h₁=> ?_) fun _ _ z=>z.elim)))
 cases r with
 |none=>exact wpAny_pure h₁
 |some v=>
  refine wpAny_bind (wpAny_mono h₁ (fun _ s₁' h₁'=> ?_) fun _ _ z=>z.elim);refine wpAny_bind (wpAny_mono h₁' (fun _ s₂ h₂=>wpAny_bind (wpAny_mono h₂ (fun ok s₃ h₃=> ?_) fun _ _ z=>z.elim)) fun _ _ z=>z.elim)
  cases ok with
  |false=>exact wpAny_pure ⟨rfl,h₃⟩
  |true=>
   exact wpAny_bind (wpAny_bind (wpAny_mono h₃ (fun kv s₄ h₄=>wpAny_bind (wpAny_holding (wpAny_mono h₄ (fun vv s₅ h₅=>wpAny_bind (wpAny_standAt (wpAny_holding (wpAny_mono h₅ (fun _ s₆ h₆=>wpAny_pure ⟨rfl,h₆⟩) fun _ _ z=>z.elim)))) fun _ _ z=>z.elim))) fun _ _ z=>z.elim))
end
open PySem PySem.Spec PyProof.Rows
def lq (mp:List (Option Nat)) (wi:TI) (g:TG) (tc:TT) (tk te:TE):TE:=fun σ H Q=>wi σ H fun J H1=>∀D,H1 D=none→
 ∃W:Nat→Nat→List (Key×V)→Hp→Prop,(∃m,W 0 m [] (upd H1 D (.dK [])))∧∀i m acc H2,W i m acc H2→
  (J.stop i H2∧Q (.ref D) H2)∨
  (J.go i H2∧∀x H3,J.yld i H2 x H3→g x (subS mp σ) H3 fun σ4 H4=>Ext (subS mp σ) σ4∧tc σ4 H4 fun b H5=>if b=true then tk σ4 H5 fun y H6=>∃k,y=kV k∧te σ4 H6 fun v H7=>H7 D=some (.dK acc)∧acc.length < sizeLine∧∃m',m' < m∧W (i+1) m' (putK acc k v) (upd H7 D (.dK (putK acc k v)))
   else∃m',m' < m∧W (i+1) m' acc H5)
section
variable {X:Cx} {pins:List (Addr×Obj)} {σ:St} {H:Hp} {s:Shared}
variable {kx vx target iter:Expr} {ifs:List Expr} {scope:Scope} {NC:List Str} {mp:List (Option Nat)} {pos:Pos} {wi:TI} {g:TG} {tc:TT} {tk te:TE}
theorem rH (hcalm:X.calm=true) (hi:PI X target iter wi) (hg:∀C s H fp pn,PG (XC X scope NC C s H fp pn) target g) (ht:∀C s H fp pn,PTs (XC X scope NC C s H fp pn) ifs tc) (hkx:∀C s H fp pn,PE (XC X scope NC C s H fp pn) kx tk) (he:∀C s H fp pn,PE (XC X scope NC C s H fp pn) vx te)
 (hl:mp.length=NC.length:=by rfl) (hm:i8 X.N NC mp scope.names X.env.scope.names=true:=by rfl) (hc:c5 scope.names X.env.cells=true:=by rfl) (hk:scope.kind= .function:=by rfl)
 (hnc:∀y∈scope.names,y.2≠ .cell:=by decide +kernel) (hnm:∀y∈scope.names,y.2= .local→scope.names.lookup y.1=some .local:=by decide +kernel) (hs:∀x,foldedSetIterable iter X.env x=pure x:=by intro _;rfl):
 PE X (.DictComp kx vx [⟨target,iter,ifs,0⟩] scope pos) (lq mp wi g tc tk te):=by
 intro pins s σ H Q I h;rw [arm_eval_DictComp];refine wpAny_comprehension_free (use:=none) rfl hs (gM hc) hk hnm (thn (hi pins s σ H _ I h) fun v s1 h1=>thn h1 fun itv s2 h2=> ?_);refine hZq fun q_ e_=> ?_;obtain ⟨it,fp,tn,J,H2,e,I2,T,st2,f2,W⟩:=h2;subst e_;subst e;refine wpAny_newObj_type ?_;have nD:H2 s2.heap.objs.size=none:=I2.hok.fresh (yP _)
 have I3:Inv X pins σ (upd H2 s2.heap.objs.size (.dK [])) {s2 with heap:=s2.heap.push {cls:= .type "dict",data:= .dict #[]}}:=
  I2.laid (t':=s2.toks) (fun b u e=>Heap.get?_push_of_some _ e) (yP _) (ko s2.heap I2.big)
 refine hZq fun q_ e_=> ?_;obtain ⟨W,⟨m0,w0⟩,turn⟩:=W _ nD;subst e_
 have lt2:∀b∈fp,b < s2.heap.objs.size:=fun b hb=>by
  obtain ⟨o,e,_⟩:=T.obj 0 _ st2 b hb;exact Heap.lt_size e
 have nDf:∀b∈fp,b≠s2.heap.objs.size:=fun b hb=>yZ (lt2 b hb)
 have f3:∀b∈fp,FpOk X pins (upd H2 s2.heap.objs.size (.dK [])) b:=fun b hb=>by
  obtain ⟨g0,g1⟩:=f2 b hb;exact ⟨by rw [af (nDf b hb)];exact g0,g1⟩
 have st3:tn 0 (s2.heap.push {cls:= .type "dict",data:= .dict #[]}):=T.keep 0 _ _ st2 fun b _ o e=>Heap.get?_push_of_some _ e
 have lt3:∀b∈fp,b < (s2.heap.push {cls:= .type "dict",data:= .dict #[]}).objs.size:=fun b hb=>by
  rw [Heap.size_push];exact zI (lt2 b hb)
 generalize hD:s2.heap.objs.size=D at*;generalize hs3:({s2 with heap:=s2.heap.push {cls:= .type "dict",data:= .dict #[]}}:Shared)=s3 at*;have hh3:s3.heap=s2.heap.push {cls:= .type "dict",data:= .dict #[]}:=by rw [←hs3]
 rw [←hh3] at st3 lt3;generalize hH3:upd H2 D (.dK [])=H3 at*;refine wpAny_newFunctionEnv (around:=some X.env) hnc (by intro y hy;cases hy) (fun h4 hn4 hsb4=> ?_) hk
 have kp4:∀b o,s3.heap.get? b=some o→h4.get? b=some o:=fun b o e=>hsb4.extBut b o (yZ (Heap.lt_size e)) (Heap.get?_push_of_some _ e);have I4:=I3.block (tk:=s3.toks+([]:List (Str×Value)).length) f3 lt3 hk hnc hc hl hm kp4 hn4;have st4:tn 0 h4:=T.keep 0 _ _ st3 fun b _ o e=>kp4 b o e
 have fin:∀(s5:Shared) (σ5:St) (H5:Hp),Inv (XC X scope NC s3.heap.objs.size s3 H3 fp (X.pn++pins)) [] σ5 H5 s5→Q (.ref D) H5→compPost (model X.prog X.w) X.A X.xe none (EP X pins σ Q) (.ref D) s3.heap.objs.size (.ok .next) s5:=by
  intro s5 σ5 H5 I5 q5;obtain ⟨m5,hn5,_⟩:=id I5.loc;refine ⟨m5,hn5,fun h6 sb6=>⟨.ref D,H5,?_,rfl,q5⟩⟩;have kp6:∀b o,b≠s3.heap.objs.size→s5.heap.get? b=some o→h6.get? b=some o:=fun b o hb e=>sb6.extBut b o hb e;have nC:∀b o,s3.heap.get? b=some o→b≠s3.heap.objs.size:=fun b o e=>yZ (Heap.lt_size e);have un:Un (frs X.stack) fp H3 H5 s3.heap s5.heap:=I5.base;have hfree:H5 s3.heap.objs.size=none:=I5.free;refine I3.call' (s':= {s5 with heap:=h6}) (ch:=fp) I5.os ⟨fun b o e n hb hx=>kp6 b o (nC b o e) (un.keep b o e n hb hx),fun b o e n hb hx=> ?_,un.free,fun b o e hx=> ?_,un.tups,un.frzs,un.tbls⟩ ?_ I5.bare (fun b hb=> ?_)
  · obtain ⟨sl,e1⟩:=un.slot b o e n hb hx;exact ⟨sl,kp6 b _ (nC b o e) e1⟩
  · obtain ⟨o',e1⟩:=un.there b o e hx;exact ⟨o',kp6 b o' (nC b o e) e1⟩
  · intro b o e;have nb:b≠s3.heap.objs.size:=fun z=>by rw [z,hfree] at e;cases e
    refine (I5.hok b o e).stay (fun c v hc' r=>kp6 c v ?_ r) (fun _ r=>r) fun _ _ r=>r;rcases hc' with z|z
    · rw [z];exact nb
    · intro y;rw [y,hfree] at z;cases z
  · obtain ⟨g0,g1,g2,g3,g4,g5⟩:=f3 b hb;exact ⟨g3,g1,g4,g5⟩
 have loop:codeAny (model X.prog X.w) X.A (.compLoop (.DictComp kx vx [⟨target,iter,ifs,0⟩] scope pos) 0 (.ref it) (.ref D) (compEnvC scope (cr scope.names X.env.cells []) s3.heap.objs.size X.env)) (compPost (model X.prog X.w) X.A X.xe none (EP X pins σ Q) (.ref D) s3.heap.objs.size)
  {s3 with heap:=h4,toks:=s3.toks+([]:List (Str×Value)).length}:=by
  refine ga (fun n s'=>∃i acc σ' H',Inv (XC X scope NC s3.heap.objs.size s3 H3 fp (X.pn++pins)) [] σ' H' s'∧Ext (subS mp σ) σ'∧tn i s'.heap∧(∀b∈fp,H' b=none)∧W i n acc H') ?_ m0
   ⟨0,[],subS mp σ,H3,I4,fun _ _ e=>e,st4,fun b hb=>(f3 b hb).1,w0⟩
  intro n s5 z_;refine hZq fun q_ e_=> ?_;obtain ⟨i,acc,σ5,H5,I5,hσ,st5,fr5,w5⟩:=z_;subst e_;have I5':Inv (XC X scope NC s3.heap.objs.size s3 H3 fp (X.pn++pins)) [] (subS mp σ) H5 s5:=I5.weak (by rw [I5.len];unfold subS;rw [yM];exact hl) hσ
  have fpk:∀ {H':Hp},(∀b∈fp,H' b=none)→∀b∈fp,FpOk (XC X scope NC s3.heap.objs.size s3 H3 fp (X.pn++pins)) [] H' b:=fun hn b hb=>by
   refine hZq fun q_ e_=> ?_;obtain ⟨g0,g1,g2,g3,g4,g5⟩:=f3 b hb;subst e_;refine ⟨hn b hb,yZ (lt3 b hb),?_, .inl hb,(I4.ok.exf b hb).2,fun p hp=>g5 p (by simpa using hp)⟩
   exact I4.ok.exfs b hb
  rcases turn i n acc H5 w5 with ⟨stop,q⟩|⟨go,step⟩
  · refine thn (T.done (XC X scope NC s3.heap.objs.size s3 H3 fp (X.pn++pins)) rfl rfl rfl hcalm i [] s5 _ H5 (fun _ _=>False) I5' (fpk fr5) st5 stop) fun r s6 ⟨hr,I6⟩=> ?_;subst hr;exact fin s6 _ H5 I6 q
  · refine thn (T.item (XC X scope NC s3.heap.objs.size s3 H3 fp (X.pn++pins)) rfl rfl rfl hcalm i [] s5 _ H5 (fun _ _=>False) I5' (fpk fr5) st5 go) fun r s6 ⟨u,hr,h6⟩=> ?_;subst hr;refine thn h6 fun _ s7 ⟨x,H7,I7,r7,y7,st7,fr7⟩=> ?_;have I7':=I7.pinned (fpk fr7) (T.obj _ _ st7);refine thn (hg _ _ _ _ _ _ s7 _ H7 x u _ I7' r7 (step x H7 y7)) fun _ s8 ⟨σ8,H8,I8,ext8,q8⟩=> ?_;refine thn (ht _ _ _ _ _ _ s8 σ8 H8 _ I8 q8) fun ok s9 ⟨H9,I9,q9⟩=> ?_
    have again:∀ {σ':St} {H':Hp} {s':Shared} {acc':List (Key×V)} {m':Nat},Inv (XC X scope NC s3.heap.objs.size s3 H3 fp (X.pn++pins)) ([]++dU fp s7.heap) σ' H' s'→Ext (subS mp σ) σ'→m' < n→W (i+1) m' acc' H'→
     ∃m,m < n∧∃i acc σ' H',Inv (XC X scope NC s3.heap.objs.size s3 H3 fp (X.pn++pins)) [] σ' H' s'∧Ext (subS mp σ) σ'∧tn i s'.heap∧(∀b∈fp,H' b=none)∧W i m acc H':=by
     intro σ' H' s' acc' m' I' hσ' hm' w';refine ⟨m',hm',i+1,acc',σ',H',I'.unpinned,hσ',T.keep _ _ _ st7 fun b hb o e=>(I'.pin (b,o) (yX _ (yX _ (bh hb e)))).1,fun b hb=> ?_,w'⟩;obtain ⟨o,e,d⟩:=T.obj _ _ st7 b hb;exact (I'.pin (b,o) (yX _ (yX _ (bh hb e)))).2.1
    cases ok with
    |false=>
     rw [if_neg zk] at q9;rw [if_neg zk];obtain ⟨m',hm',w'⟩:=q9;exact again I9 ext8 hm' w'
    |true=>
     rw [if_pos rfl] at q9;rw [if_pos rfl];refine thn (hkx _ _ _ _ _ _ s9 σ8 H9 _ I9 q9) fun kv s10 ⟨y,H10,I10,r10,k,ek,qv⟩=> ?_;subst ek;refine thn (he _ _ _ _ _ _ s10 σ8 H10 _ I10 qv) fun v s11 ⟨z,H11,I11,r11,hD11,hz,m',hm',w'⟩=> ?_;refine hZq fun q_ e_=> ?_;obtain ⟨z1,hd1,vs1,rel1,dd1⟩:=nU I11.hok hD11;subst e_;have hz1:vs1.length≤sizeLine:=by rw [←rel1.length];exact z1
     have hl1:(putK acc k z).length≤sizeLine:=by have:=fY acc k z;omega
     refine wpAny_dictSet_pairs (hsz:=hz1) (nF r10) dd1 fun h' dd' hs=> ?_;have he':∃q,h'.get? D=some q:=let ⟨q,_,_,hq,_⟩:=dd';⟨q,hq⟩;exact again (gG I11 (by rw [hD11];exact True.intro) hs he' (sV hl1 hd1 (rel1.put k r11) dd')) ext8 hm' w'
 exact codeAny_compStart_dict loop (T.self _ 0 _ _ _ st4 loop)
end
end L2
namespace L2
section
open PySem
variable {prog:Program} {w:World} {A:Around} {R:Result→Shared→Prop} {s:Shared}
end
open PySem PySem.Spec PyProof.Rows
section
variable {X:Cx} {pins:List (Addr×Obj)} {σ:St} {H:Hp} {s:Shared}
variable {elt target iter t2 i2:Expr} {scope:Scope} {NC:List Str} {mp:List (Option Nat)} {pos:Pos} {wi:TI} {g:TG} {wi2:TI} {g2:TG} {te:TE}
end
end L2
namespace Dj
open PySem PySem.Spec PySem.W PyProof.Rows L2 Tre
def RawD (h:Heap) (d:Addr) (es:Array DictEntry) (ep:Nat):Prop:=∃o,h.get? d=some o∧o.ExactDict∧o.data= .dict es ep
theorem RawD.kp {h h':Heap} {d:Addr} {es:Array DictEntry} {ep:Nat} (x:RawD h d es ep) (e:∀o,h.get? d=some o→h'.get? d=some o):RawD h' d es ep:=by
 obtain ⟨o,h1,h2⟩:=x;exact ⟨o,e o h1,h2⟩
section
variable {prog:Program} {w:World} {A:Around} {E:Value→Shared→Prop} {s:Shared} {d it:Addr} {es:Array DictEntry} {ep:Nat}
end
open PySem PySem.Spec PySem.W PyProof.Rows L2 Tre Srt
section
variable {prog:Program} {w:World} {A:Around} {E:Value→Shared→Prop} {s:Shared} {T:String} {r d:Addr} {n:Nat} {P:Nat→Value→Prop} {OK:Heap→Prop}
theorem kE {Q:List Value→Shared→Prop} (K:KdlSrc prog w T r d n P OK) (hh:A.handled=none) (hok:OK s.heap) (hn:n≤sizeLine)
 (hQ:∀h' tk (acc:Array Value),(∀b o,s.heap.get? b=some o→h'.get? b=some o)→s.heap.objs.size < h'.objs.size→ItemsOf P acc n→Q acc.toList {s with heap:=h',toks:=tk}):wpAny (model prog w) A (collect (.ref r)) Q E s:=by
 have hlt:=K.there _ hok;unfold collect;refine wpAny_bind (wpAny_runValue (codeAny_builtin PySem.F.entry_proto_collect ?_));rw [Around.under_plainId PySem.F.plain_proto_collect _];show wpAny _ A.in1 (newList [] >>=fun l=>again (.builtin "list.__iadd__" ⟨[l, .ref r],[]⟩)) _ _ s;refine wpAny_bind (wpAny_newObj_type (wpAny_pure ⟨plainId_quiet PySem.F.plain_list_iadd _,codeAny_builtin PySem.F.entry_list_iadd ?_⟩));rw [Around.under_plainId PySem.F.plain_list_iadd _];have hS:(s.heap.push {cls:= .type "list",data:= .seq ([]:List Value).toArray}).get? s.heap.objs.size=some {cls:= .type "list",data:= .seq ([]:List Value).toArray}:=Heap.get?_push_size _ rfl;show wpAny _ A.in1 (Builtin.List.listExtendWith (.ref s.heap.objs.size) (.ref r) (.ref s.heap.objs.size)) _ _ _
 refine kdl_extend (R:=fun r' s'=>match r' with
  | .ok (.ret v)=>wpAny (model prog w) A (match v with
   | .ref a=>do match (←load a).data with
    | .seq xs _=>pure xs.toList
    |_=>unsupported "internal:collect"
   |_=>unsupported "internal:collect") Q E s'
  | .ok _=>False
  | .error e=>E e s') (s:= {s with heap:=s.heap.push {cls:= .type "list",data:= .seq ([]:List Value).toArray}}) K hh (K.keep _ _ hok fun b _ o e=>Heap.get?_push_of_some _ e) _ (Nat.ne_of_gt hlt.1) (Nat.ne_of_gt hlt.2) _ _ hS (fun h' tk acc' c' hk hS' hacc=> ?_) hn
 show wpAny _ A (load s.heap.objs.size >>=_) _ _ _;refine wpAny_bind (wpAny_load hS' (wpAny_pure (hQ h' tk acc' (fun b o e=>hk b o (yZ (Heap.lt_size e)) (Heap.get?_push_of_some _ e)) (Heap.lt_size hS') hacc)))
end
section
variable {prog:Program} {w:World} {A:Around} {E:Value→Shared→Prop} {s:Shared} {lt:Nat→Nat→Bool} {κ:SortKind}
theorem iD {l:Addr} {vs:List Value} {Q:Value→Shared→Prop} (O:Ord lt) (h64:vs.length < 64)
 (hcol:∀Q':List Value→Shared→Prop,(∀h' tk,(∀b o,s.heap.get? b=some o→h'.get? b=some o)→s.heap.objs.size < h'.objs.size→Q' vs {s with heap:=h',toks:=tk})→wpAny (model prog w) A.in1 (collect (.ref l)) Q' E s)
 (hkind:2≤vs.length→∀h' tk,(∀b o,s.heap.get? b=some o→h'.get? b=some o)→∀(E':Value→Shared→Prop) (R:SortKind→Shared→Prop),R κ {s with heap:=h',toks:=tk}→wpAny (model prog w) A.in1.in1 (keyKind' vs.toArray) R E' {s with heap:=h',toks:=tk})
 (hask:∀h' tk,(∀b o,s.heap.get? b=some o→h'.get? b=some o)→∀i j (R:Bool→Shared→Prop),i < vs.length→j < vs.length→R (lt i j) {s with heap:=h',toks:=tk}→kas_ask prog w A.in1.in1 κ vs i j R {s with heap:=h',toks:=tk})
 (h:∀p:Array Nat,Pm vs.length p→Up lt p vs.length→∀h' tk D e,(∀b o,s.heap.get? b=some o→h'.get? b=some o)→s.heap.objs.size≤D→h'.get? D=some (seqObj "list" (List.toArray (p.toList.map fun i=>vs.getD i Value.none)) e)→Q (.ref D) {s with heap:=h',toks:=tk}):
 wpAny (model prog w) A (call (.builtin "sorted") [.ref l]) Q E s:=by
 refine Calls.call_function_entry kind_sorted plain_sorted entry_sorted (args_sorted1 _) ?_;unfold Builtin.«sorted»;refine wpAny_bind (m:=checkCount "sorted" 1 1 _) (wpAny_pure (wpAny_bind (hcol _ fun h1 tk k1 sz=> ?_)));refine wpAny_bind (wpAny_newList (s:= {s with heap:=h1,toks:=tk}) ?_ (by rw [sizeLine_eq];omega))
 have hoL:(h1.push (seqObj "list" vs.toArray 0)).get? h1.objs.size=some (seqObj "list" vs.toArray 0):=Heap.get?_push_size _ rfl;have keep:∀b o,s.heap.get? b=some o→(h1.push (seqObj "list" vs.toArray 0)).get? b=some o∧b≠h1.objs.size:=fun b o q=>⟨Heap.get?_push_of_some _ (k1 b o q),yZ (Heap.lt_size (k1 b o q))⟩;show wpAny _ _ _ _ _ {s with heap:=h1.push (seqObj "list" vs.toArray 0),toks:=tk}
 refine wpAny_bind (wpAny_holding (wpAny_call_entry slot_list_sort ⟨_,hoL,rfl⟩ entry_list_sort (eL (s:= {s with heap:=h1.push (seqObj "list" vs.toArray 0),toks:=tk}) (lt:=lt) (κ:=κ) O hoL h64 (fun h2 h' st R hR=>hkind h2 h' tk (fun b o e=>st b o (keep b o e).2 (keep b o e).1) _ R hR)
  (fun h' st i j R hi hj hR=>hask h' tk (fun b o e=>st b o (keep b o e).2 (keep b o e).1) i j R hi hj hR) fun p a1 a2=>⟨_,rfl,?_⟩) (args_list_sort _)))
 obtain ⟨e,he⟩:=sortedHeap_at (out:=List.toArray (p.toList.map fun i=>vs.getD i Value.none)) hoL;refine wpAny_pure ⟨_,rfl,h p a1 a2 _ tk _ e (fun b o q=> ?_) (Nat.le_of_lt sz) he⟩;rw [sortedHeap_old (keep b o q).2 (Heap.lt_size (keep b o q).1)];exact (keep b o q).1
end
theorem jy {prog:Program} {w:World} {A:Around} {s:Shared} {fin:Bool} {Q:Bool→Shared→Prop}:∀ {as bs:List Value} {q:List (Bool×Bool)} {i:Nat},0 < i→bU A s as bs q→Q (lexV fin q) s→KatLex prog w A true fin Q (as.zip bs) i s
 | [],_,q,i,_,h,hq=>by
  unfold bU at h;subst h;rw [List.zip_nil_left];exact kat_nil hq
 |_::_,[],q,i,_,h,hq=>by
  unfold bU at h;subst h;rw [List.zip_nil_right];exact kat_nil hq
 |a::as,b::bs,[],i,_,h,hq=>h.elim
 |a::as,b::bs,(e,l)::q,i,h0,h,hq=>by
  obtain ⟨h1,h2,h3⟩:=h;rw [zR];refine kat_cons (h1 prog w _ _ ?_)
  cases e with
  |true=>exact kat_yes (jy (by omega) (h3 rfl) hq)
  |false=>
   refine kat_no ?_
   have e0:(true&&i==0)=false:=by
    cases i with
    |zero=>omega
    |succ i=>rfl
   rw [e0];exact kat_one a b (h2 rfl prog w _ _ hq)
theorem uC {prog:Program} {w:World} {A:Around} {s:Shared} {fin:Bool} {Q:Bool→Shared→Prop} {x y:Str} {t u:Tok} {as bs:List Value} {q:List (Bool×Bool)} (h:bU A s as bs q)
 (hq:Q (lexV fin ((x==y,decide (x.cps.toList < y.cps.toList))::q)) s):KatLex prog w A true fin Q ((Value.str x t::as).zip (Value.str y u::bs)) 0 s:=by
 rw [zR];refine kat_cons (SeqAt.EqAt.str_str x t y u prog w _ _ ?_)
 cases e:(x==y) with
 |true=>
  rw [e] at hq;exact kat_yes (jy (by decide) h hq)
 |false=>
  rw [e] at hq;refine kat_no ?_;exact oneLt_str hq
def Hs (t:Tr):Prop:=∃x r,t= .tup (.str x::r)
section
variable {X:Cx} {pins:List (Addr×Obj)} {σ:L2.St} {H:Hp} {s:Shared}
theorem nB (I:Inv X pins σ H s):∀ {vs:List V} {ts:List Tr} {as:List Value},TrsAt H vs ts→Vals vs as→(∀t∈ts,Hs t)→∃fs,KatTups s.heap as fs∧fs.length=as.length∧∀v∈fs,∃(x:Str) (t:Tok),v= .str x t
 |vs,[],as,h,r,_=>by
  unfold TrsAt at h;subst h;cases r;exact ⟨[], .nil,rfl,fun v m=>by cases m⟩
 |vs,t::ts,as,h,r,hh=>by
  obtain ⟨v,vr,rfl,h1,h2⟩:=h.inv
  cases r with
  |cons r1 r2=>
   obtain ⟨fs,f1,f2,f3⟩:=nB I h2 r2 fun u m=>hh u (yR _ m);obtain ⟨x,rr,rfl⟩:=hh t yO;unfold TrAt at h1;obtain ⟨a,ws,rfl,g,k⟩:=h1;cases r1;obtain ⟨y,yr,rfl,k1,k2⟩:=k.inv;unfold TrAt at k1;subst k1;obtain ⟨bs,o,n,q1,ho,hc,hd⟩:=cu I g
   cases q1 with
   |cons q1 q2=>
    obtain ⟨tk,rfl⟩:=q1;refine ⟨_,KatTups.cons ho hc hd rfl f1,by simp [f2],fun v m=> ?_⟩
    rcases yV.mp m with e|m
    · exact ⟨x,tk,e⟩
    · exact f3 v m
end
end Dj
namespace L2
open PySem PySem.Spec PyProof.Rows
section
variable {X:Cx}
def yu:V→List V→Hp→VK→Prop:=fun x vs H Q=>∃a kvs k v,x= .ref a∧vs= [kV k,v]∧H a=some (.dK kvs)∧kvs.length < sizeLine∧
 (∀z,valV kvs k=some z→Q z H)∧(valV kvs k=none→Q v (upd H a (.dK (kvs++ [(k,v)]))))
theorem iy:MtM X "dict.setdefault" yu:=by
 intro pins s σ H x vs u us Q I rx rv h;obtain ⟨a,kvs,k,v,rfl,rfl,hH,hz,h1,h2⟩:=h;cases rx;obtain ⟨u1,u2,rfl,r1,r2⟩:=rv.two;obtain ⟨z,hd,ws,rel,dd⟩:=nU I.hok hH
 refine call_meetsIn PySem.F.slot_dict_setdefault dd.typeIs PySem.F.entry_dict_setdefault (PySem.F.args_dict_setdefault_3 _ _ _) (kt_meets_setdefault (aM X.prog X.w) a (nF r1) hd u2)
  ⟨ws,dd,by rw [←rel.length];exact z,fun q hq=> ?_,fun hq h' dd' hs=> ?_⟩
 · have rk:=rel.val k;rw [hq] at rk
   cases e:valV kvs k with
   |none=>rw [e] at rk;exact rk.elim
   |some y=>rw [e] at rk;exact ⟨y,H,I.tok _,rk,h1 y e⟩
 · have rk:=rel.val k;rw [hq] at rk
   cases e:valV kvs k with
   |some y=>rw [e] at rk;exact rk.elim
   |none=>
    have he:∃q,h'.get? a=some q:=let ⟨q,_,_,hq,_⟩:=dd';⟨q,hq⟩;have hp:=rel.put k r2;rw [qY v e] at hp;exact ⟨v,_,gG I (by rw [hH];exact True.intro) hs he (sV (by rw [z7,List.length_singleton];omega) hd hp dd'),r2,h2 e⟩
noncomputable def iW (v d:Addr):HO:= .ext fun h=>h.IsValuesView v d
theorem tI {P:Program} {w:World} {H:Hp} {h:Heap} {v d:Addr} (x:h.IsValuesView v d):ObjOk P w H h v (iW v d):=by
 obtain ⟨o,e,r⟩:=x;exact ⟨⟨o,e,r⟩,⟨_,e⟩,fun _ _ ⟨o',y,c⟩ k=>⟨o',k _ y,c⟩⟩
def tZ:V→List V→Hp→VK→Prop:=fun x vs H Q=>∃a kvs,x= .ref a∧vs= []∧H a=some (.dK kvs)∧∀v,H v=none→Q (.ref v) (upd H v (iW v a))
theorem oE:MtM X "dict.values" tZ:=by
 intro pins s σ H x vs u us Q I rx rv h;obtain ⟨a,kvs,rfl,rfl,hH,q⟩:=h;cases rx;cases rv.zero;obtain ⟨z,hd,ws,rel,dd⟩:=nU I.hok hH;refine call_meetsIn PySem.F.slot_dict_values dd.typeIs PySem.F.entry_dict_values (PySem.F.args_dict_values_1 _) (meets_dict_values (aM X.prog X.w) a hd) ⟨⟨ws,dd⟩,?_⟩;exact ⟨.ref _,_,I.laid (t':=s.toks) (fun b ob e=>Heap.get?_push_of_some _ e) (yP _) (tI ⟨_,Heap.get?_push_size _ rfl,rfl,rfl⟩),rfl,q _ (I.hok.fresh (yP _))⟩
end
end L2
namespace Dj
open PySem PySem.Spec PySem.W PyProof.Rows L2 Tre Srt
section
variable {X:Cx} {pins:List (Addr×Obj)} {σ:L2.St} {H:Hp} {s:Shared}
def SrQ (H:Hp) (ts:List Tr) (Q:VK):Prop:=∀(D:Addr) (ws:List V) (us:List Tr),H D=none→us.Perm ts→TrsAt H ws us→(∀(i j:Nat) (t u:Tr),i≤j→us[i]?=some t→us[j]?=some u→ltT u t=false)→Q (.ref D) (upd H D (.lst ws))
theorem jQ {Q:VK} {a:Addr} {as:List Value} {vs:List V} {ts:List Tr} (hu:X.A.units+60 < cLine) (I:Inv X pins σ H s) (rv:Vals vs as) (hT:TrsAt H vs ts) (hlen:ts.length < 64) (hts:∀t∈ts,Hs t∧t.pure∧t.depth≤40) (hcm:∀t∈ts,∀u∈ts,Cm t u)
 (hcol:∀(E:Value→Shared→Prop) (Q':List Value→Shared→Prop),(∀h' tk,(∀b o,s.heap.get? b=some o→h'.get? b=some o)→s.heap.objs.size < h'.objs.size→Q' as {s with heap:=h',toks:=tk})→wpAny (model X.prog X.w) X.A.in1 (collect (.ref a)) Q' E s)
 (q:SrQ H ts Q):wpAny (model X.prog X.w) X.A (call (.builtin "sorted") [.ref a]) (EP X pins σ Q) X.xe s:=by
 have l1:=hT.len;have l2:=rv.length;have O:Srt.Ord fun i j=>ltT (ts.getD i .non) (ts.getD j .non):=⟨fun a b h=>dY h,fun a b c h1 h2=>lT h1 h2⟩
 have at_:∀i,i < as.length→∃t v a,ts.getD i .non=t∧t∈ts∧TrAt H v t∧RelV v a∧as.getD i Value.none=a:=fun i hi=>by
  have hi':i < ts.length:=by omega
  obtain ⟨v,e1,e2⟩:=hT.get (i:=i) (t:=ts[i]) (yN hi');obtain ⟨a,e3,e4⟩:=rv.get e1;exact ⟨ts[i],v,a,by rw [z9,yN hi'];rfl,zM hi',e2,e4,by rw [z9,e3];rfl⟩
 refine iD (κ:=tuples' true) (vs:=as) O (by omega) (fun Q' hQ'=> ?_) (fun h2 h' tk kp E' R hR=> ?_) (fun h' tk kp i j R hi hj hR=> ?_) fun p hp hup h' tk D e kp sz he=> ?_
 · exact hcol _ Q' hQ'
 · have I':Inv X pins σ H {s with heap:=h',toks:=tk}:=I.kept (t':=tk) kp;refine hZq fun q_ e_=> ?_;obtain ⟨fs,k1,k2,k3⟩:=nB I' hT rv fun t m=>(hts t m).1;subst e_;refine kat_kind (T:=Value.type "str") k1 (by omega) (fun v m=> ?_) (by decide +kernel) ?_
   · obtain ⟨x,t,rfl⟩:=k3 v m;exact .now
   · rw [show (Value.type "str" !=Value.type "tuple")=true by decide +kernel]
     exact hR
 · have I':Inv X pins σ H {s with heap:=h',toks:=tk}:=I.kept (t':=tk) kp;refine hZq fun q_ e_=> ?_;obtain ⟨t,v,a,et,mt,ht,ra,ea⟩:=at_ i hi;subst e_;refine hZq fun q_ e_=> ?_;obtain ⟨u,v',b,eu,mu,hu',rb,eb⟩:=at_ j hj;subst e_;have hc':=hcm t mt u mu;refine hZq fun q_ e_=> ?_;obtain ⟨⟨x1,r1,rfl⟩,p1,d1⟩:=hts t mt;subst e_;refine hZq fun q_ e_=> ?_;obtain ⟨⟨x2,r2,rfl⟩,p2,d2⟩:=hts u mu;subst e_;unfold TrAt at ht hu';refine hZq fun q_ e_=> ?_;obtain ⟨x0,vs0,rfl,g0,g1⟩:=ht;subst e_;refine hZq fun q_ e_=> ?_;obtain ⟨y0,ws0,rfl,g2,g3⟩:=hu';subst e_;cases ra;cases rb;refine hZq fun q_ e_=> ?_;obtain ⟨as0,o,n,q3,ho,hcl,hd'⟩:=cu I' g0;subst e_;refine hZq fun q_ e_=> ?_;obtain ⟨bs0,o',n',q4,ho',hcl',hd2⟩:=cu I' g2;subst e_;have z0:=g1.len;have z1:=g3.len;have z2:=q3.length;have z3:=q4.length;refine hZq fun q_ e_=> ?_;obtain ⟨y1,yr1,rfl,w1,w2⟩:=g1.inv;subst e_;refine hZq fun q_ e_=> ?_;obtain ⟨y2,yr2,rfl,w3,w4⟩:=g3.inv;subst e_;unfold TrAt at w1 w3;subst w1 w3
   cases q3 with
   |cons q3 q3'=>
    cases q4 with
    |cons q4 q4'=>
     obtain ⟨tk1,rfl⟩:=q3;obtain ⟨tk2,rfl⟩:=q4;unfold Tr.depth at d1;unfold Trs.depth at d1;unfold Tr.pure at p1;unfold Trs.pure at p1;unfold kas_ask;rw [ea,eb];refine kat_lt (b:=true) ho hd' ho' hd2 ?_;rw [A3,A3];have hu1:X.A.in1.in1.units+40+1 < cLine:=by show X.A.units+1+1+40+1 < cLine;omega
     have e:∀q,lexV (decide ((Value.str x1 tk1::_).toArray.size < (Value.str x2 tk2::_).toArray.size)) ((x1==x2,decide (x1.cps.toList < x2.cps.toList))::q)=lexV (decide ((Tr.str x1::r1).length < (Tr.str x2::r2).length)) ((x1==x2,decide (x1.cps.toList < x2.cps.toList))::q):=fun q=>by
      rw [yU,yU,←z2,←z3,z0,z1]
     by_cases ex:(x1==x2)=true
     · unfold Cm at hc';unfold Cms at hc'
       have hc2:Cms r1 r2:=by
        rcases hc' with ⟨_,c⟩|⟨n,_⟩
        · exact c
        · unfold Tre.eqT at n;rw [ex] at n;cases n
       have hx':=fG (A:=X.A.in1.in1) I' hu1 (fun d pp cc a1 a2 b1 b2=>gi I' 40 d pp cc a1 a2 b1 b2 hu1) (by omega) (.inl p1.2) hc2 w2 w4 q3' q4'
       refine uC hx' ?_;rw [e]
       have e2:lexV (decide ((Tr.str x1::r1).length < (Tr.str x2::r2).length)) ((x1==x2,decide (x1.cps.toList < x2.cps.toList))::qs r1 r2)=ltT (ts.getD i .non) (ts.getD j .non):=by
        rw [et,eu];refine aY ?_;rw [ltT_iff];have el:decide ((Tr.str x1::r1).length < (Tr.str x2::r2).length)=decide (r1.length < r2.length):=by simp
        have e4:=(j8 x1 x2).mp ex;simp only [lexV,ex,if_true,el,eF,Tre.code,Tre.codes,LtC,LtCs,e4];constructor
        · intro h;exact .inr ⟨trivial,h⟩
        · rintro (h|h)
          · exact absurd h (List.lt_irrefl _)
          · exact h.2
       rw [e2];exact hR
     · have exf:(x1==x2)=false:=by simpa using ex
       rw [zR];refine kat_cons (SeqAt.EqAt.str_str x1 tk1 x2 tk2 X.prog X.w _ _ ?_);rw [exf];refine kat_no ?_;refine oneLt_str ?_
       have e2:decide (x1.cps.toList < x2.cps.toList)=ltT (ts.getD i .non) (ts.getD j .non):=by
        rw [et,eu];refine aY ?_;rw [ltT_iff,decide_eq_true_iff];have ne:x1.cps.toList≠x2.cps.toList:=fun z=>ex ((j8 x1 x2).mpr z);simp only [Tre.code,Tre.codes,LtC,LtCs,Co.str.injEq];constructor
        · intro h;exact .inl h
        · rintro (h|h)
          · exact h
          · exact absurd h.1 ne
       rw [e2];exact hR
 · have hin:∀i∈p.toList,i < ts.length:=fun i m=>by
    have:=zH.mp (List.Perm.mem_iff hp |>.mp m);omega
   refine ⟨.ref D,upd H D (.lst (p.toList.map fun i=>vs.getD i .non)),I.laid (t':=tk) kp sz ?_,rfl,?_⟩
   · refine ⟨?_,p.toList.map fun i=>as.getD i Value.none,e,Vals.map rv fun i m=>by have:=hin i m;omega,he⟩
     rw [yM,zq,hp.size];have:(64:Nat)≤sizeLine:=by decide +kernel
     omega
   · refine q _ _ (p.toList.map fun i=>ts.getD i .non) (I.hok.fresh sz) ?_ (TrsAt.map hT hin) fun i j t u hij e1 e2=> ?_
     · have:=List.Perm.map (fun i=>ts.getD i Tr.non) hp;rw [show as.length=ts.length by omega,dg] at this
       exact this
     · rw [yQ] at e1 e2;obtain ⟨a,ea,rfl⟩:=yS.mp e1;obtain ⟨b,eb,rfl⟩:=yS.mp e2
       have hj:j < as.length:=by
        have:=(yW.mp eb).1;rw [zq,hp.size] at this;exact this
       have:=hup i j hij hj;rw [cE,cE,←zx,←zx,ea,eb] at this;exact this
def qU:List V→Hp→VK→Prop:=fun xs H Q=>∃(v a:Addr) (kvs:List (Key×V)) (ts:List Tr),xs= [.ref v]∧H v=some (iW v a)∧H a=some (.dK kvs)∧TrsAt H (kvs.map (·.2)) ts∧ts.length < 64∧(∀t∈ts,Hs t∧t.pure∧t.depth≤40)∧(∀t∈ts,∀u∈ts,Cm t u)∧SrQ H ts Q
theorem call_sortedV (hc:X.calm=true) (hu:X.A.units+60 < cLine):cB X (.builtin "sorted") qU:=by
 intro pins s σ H xs us Q I r h;obtain ⟨v,a,kvs,ts,rfl,hv,hH,hT,hlen,hts,hcm,q⟩:=h;obtain ⟨u,rfl,ru⟩:=cP r;cases ru;obtain ⟨z,hd,ws,rel,dd⟩:=nU I.hok hH;obtain ⟨hview,_⟩:=(show ObjOk X.prog X.w H s.heap v (iW v a) from I.hok v _ hv);obtain ⟨ep,hat⟩:=dd.dictAt
 have rr:Vals (kvs.map (·.2)) (ws.map (·.2)):=by
  clear hat dd z q hH hT
  induction rel with
  |nil=>exact .nil
  |cons r1 _ ih=>exact .cons r1.2 ih
 refine jQ hu I rr hT hlen hts hcm (fun E Q' hQ'=> ?_) q;refine kE (A:=X.A.in1) (PySem.W.kdl_values (knd:=aM X.prog X.w) (kvs:=ws) (ep:=ep)) (I.ok.hd hc) ⟨hview,hat⟩ (by rw [←rel.length];exact z) fun h' tk acc k1 sz hacc=> ?_
 have e:acc.toList=ws.map (·.2):=PySem.W.kdl_vals_eq acc.toList (by rw [zq];exact hacc.1) fun j x ex=>hacc.2 j x (by rw [←zx];exact ex)
 rw [e];exact hQ' h' tk k1 sz
end
end Dj
namespace Dj
open PySem PySem.Spec PySem.W PyProof.Rows L2
section
variable {prog:Program} {w:World} {K:Type} [DecidableEq K] {knd:HeapKind prog w K} {A:Around} {E:Value→Shared→Prop} {s:Shared}
end
section
variable {X:Cx} {o e f:Expr} {apos cpos:Pos} {td ty tx:TE}
end
end Dj
namespace L2
open PySem PySem.Spec PyProof.Rows
section
variable {prog:Program} {w:World} {A:Around} {R:Result→Shared→Prop} {it S:Addr} {fp wr:List Addr} {n:Nat} {P:Nat→Value→Prop} {St:Nat→Heap→Prop} {kw:List (Str×Value)}
end
section
variable {X:Cx}
end
open PySem PySem.Spec PyProof.Rows
section
variable {X:Cx} {CX:CXT} {k i:Nat} {f:Addr} {fd:FuncData} {ps:List Str} {sp:Sp} {x y:Str} {p py pos epos:Pos} {e:Expr} {es:List Expr} {t:TA}
end
section
variable {X:Cx} {pins:List (Addr×Obj)} {σ σ':St} {H:Hp} {s:Shared} {h9:Heap} {tk:Nat}
end
section
variable {X:Cx} {body suite:List Stmt} {b0:Stmt} {tb:TSX} {ts:TS} {i:Nat} {n cx:Str} {np hpos pos:Pos} {W:Addr}
end
section
variable {X:Cx} {k:Nat} {f a:Addr} {fd:FuncData} {ps:List Str} {sp:Sp} {E:XK} {x:Str} {p pos:Pos} {e:Expr} {es:List Expr} {t:TA}
end
open PySem PySem.Spec PyProof.Rows
theorem rc {X:Cx} {b:List Stmt}:PSs X b (fun _ _ _=>False):=fun _ _ _ _ _ _ h=>h.elim
end L2
namespace K40
open PySem L2 Mth
noncomputable def top (i:Nat):Stmt:=PySem.Challenge.pw_smallword_k40_whole_never_both.main.body.getD i (.Pass ⟨0,0,0,0⟩)
noncomputable abbrev sCd:Stmt:=top 5
noncomputable abbrev sFr:Stmt:=top 6
noncomputable abbrev qK:Stmt:=top 7
noncomputable abbrev lE:Stmt:=top 8
noncomputable abbrev qL:Stmt:=top 9
noncomputable abbrev qJ:Stmt:=top 10
noncomputable abbrev sBr:Stmt:=top 12
noncomputable abbrev sSt:Stmt:=top 13
noncomputable abbrev sSum:Stmt:=top 15
noncomputable abbrev iE:Stmt:=uF (top 17) 0
noncomputable abbrev sTof:Stmt:=top 18
noncomputable abbrev sSet:Stmt:=top 19
noncomputable abbrev sTmo:Stmt:=top 20
noncomputable abbrev sShi:Stmt:=top 21
noncomputable abbrev sSco:Stmt:=top 22
noncomputable abbrev sWho:Stmt:=top 23
noncomputable abbrev sCto:Stmt:=top 24
noncomputable abbrev sIsl:Stmt:=top 25
noncomputable abbrev sSll:Stmt:=top 26
noncomputable abbrev sTur:Stmt:=top 27
noncomputable abbrev sTud:Stmt:=top 28
noncomputable abbrev sLby:Stmt:=top 29
noncomputable abbrev sRef:Stmt:=top 30
noncomputable abbrev sWag:Stmt:=top 31
noncomputable abbrev sHco:Stmt:=top 32
noncomputable abbrev sWby:Stmt:=top 33
noncomputable abbrev sLio:Stmt:=top 34
noncomputable abbrev sStr:Stmt:=top 35
noncomputable abbrev sTli:Stmt:=top 36
noncomputable abbrev sNua:Stmt:=top 37
noncomputable abbrev sMee:Stmt:=top 39
noncomputable abbrev sIsm:Stmt:=top 40
noncomputable abbrev lH:Stmt:=top 41
noncomputable abbrev lG:Stmt:=top 42
noncomputable abbrev sWgd:Stmt:=top 43
noncomputable abbrev qN:Stmt:=top 45
noncomputable abbrev lF:Stmt:=top 46
noncomputable abbrev fw:Stmt:=top 47
noncomputable abbrev jf:Stmt:=top 48
noncomputable abbrev sLaw:Stmt:=top 49
theorem aa {H:Hp} {p:Addr} {o:HO} (h:H p=none):Same H (upd H p o):=fun b u e=>by
 rw [af (aD e h)];exact e
theorem aq {H H':Hp} {D:Addr} {o:HO} (h:H D=none) (s:Same H H'):Same H (upd H' D o):=fun b u e=>by
 rw [af (aD e h)];exact s b u e
theorem Bg.div {x y:Int} (h:Big x):Big (x / y):=z6 (cM x y) h
section
variable {P:Program} {w:World} {K:PySem.W.Frag} {mg:Str→Option Value} {base:Heap} {T0:Addr}
structure Blt (mg:Str→Option Value):Prop where
 ab:mg "abs"=none
 le:mg "len"=none
 ra:mg "range"=none
 isi:mg "isinstance"=none
 tu:mg "tuple"=none
 it:mg "int"=none
 bo:mg "bool"=none
 li:mg "list"=none
 st:mg "str"=none
 al:mg "all"=none
 an:mg "any"=none
 su:mg "sum"=none
 zi:mg "zip"=none
 so:mg "sorted"=none
 ve:mg "ValueError"=none
 re:mg "repr"=none
 en:mg "enumerate"=none
 ma:mg "max"=none
 mi:mg "min"=none
def spCd:Sp:=fun vs H Q _=>∃(a b:Int),vs= [.int a, .int b]∧Q (.int (Int.gcd a b:Int)) H
theorem scC:FnScope ["one","other"] ["one","other"] (ag sCd):= .of
theorem uR (a:Int):(if a < 0 then -a else a)=(Int.gcd a 0:Int):=by
 rw [Int.gcd_zero_right];split<;>omega
theorem jU {f:Addr} {fd:FuncData} (F:Fun K "common_divisor" "common_divisor" sCd f fd) (B:Blt mg):FnOk P w K mg base CX0 1 f fd ["one","other"] spCd:=by
 refine F.ok scC (fun vs H Q E h=> ?_) (fun cdv A outer s H vs Q E hr h=> ?_)
 · obtain ⟨a,b,rfl,_⟩:=h;rfl
 · obtain ⟨a,b,rfl,k⟩:=h
   refine ⟨_,ae (jS PassesOwn.never (aF rL (pv 1) ac (aE _)) (ah (vZ (i:=0) (j:=1) rfl scC.nd rfl rfl (by decide) rfl rfl (a0 (pv 1) (a0 (aj ug (pv 0) (pv 1)) a9)) rfl)))
    (ah (ax (aB kU rfl B.ab kX (a0 (pv 0) a9)))),?_⟩
   refine p5 (fun σ H'=>H'=H∧∃x y:Int,σ= [some (.int x),some (.int y)]∧Int.gcd x y=Int.gcd a b) (fun σ _=>match σ with| [_,some (.int y)]=>y.natAbs|_=>0) ⟨rfl,a,b,rfl,rfl⟩ ?_ ?_
   · rintro σ H' ⟨rfl,x,y,rfl,e⟩;refine ⟨_,rfl,rfl,_,rfl,?_⟩;by_cases z:y=0
     · subst z;rw [decide_eq_true rfl];refine iteF ?_;refine ⟨_,rfl,x,rfl,?_⟩;rw [uR,e];exact k
     · have z':¬(V.int y=V.int 0):=fun q=>z (V.int.inj q);rw [decide_eq_false z'];refine iteT ?_;refine ⟨_,rfl,_,rfl,_,rfl,x,y,rfl,rfl,z,_,_,rfl,?_⟩;refine ⟨⟨rfl,y,x.fmod y,rfl,?_⟩,?_⟩
       · rw [sK,e]
       · exact uK z
   · intro σ H' R R' hR h;obtain ⟨v,e1,e2,q,e3,h⟩:=h;exact ⟨v,e1,e2,q,e3,hR _ _ h⟩
theorem dw {t b:Int} (h:Big b) (z:b≠0):Big (Int.gcd t b:Int):=by
 have:Int.gcd t b≤b.natAbs:=Int.gcd_le_natAbs_right t (by omega)
 unfold Big at*;omega
open PySem L2 Mth Tre
def ft (K:PySem.W.Frag):Sp:=fun vs H Q _=>∃(p q:Addr) (a b c d:Int),vs= [.ref p, .ref q]∧SqT K H p [.int a, .int b]∧SqT K H q [.int c, .int d]∧
 (0 < b∧0 < d∧Big a∧Big b∧Big c∧Big d)∧∀(r:Addr) (H':Hp),H r=none→Same H H'→H' r=some (.tup [.int (pX a b c d), .int (pY a b c d)])→Q (.ref r) H'
theorem ly {vs:List V} {H:Hp} {Q:VK} {E:XK} (h:ft K vs H Q E):vs.length=2:=by
 obtain ⟨p,q,a,b,c,d,rfl,_⟩:=h;rfl
theorem scP:FnScope ["one","other","shared","top","divisor"] ["one","other"] (ag qK):= .of
theorem uk {f fC:Addr} {fd fdC:FuncData} (F:Fun K "plus" "plus" qK f fd) (FC:Fun K "common_divisor" "common_divisor" sCd fC fdC) (bC:Binds K fdC ["one","other"] []) (mC:mg "common_divisor"=some (.ref fC)) (B:Blt mg):
 FnOk P w K mg base CX0 2 f fd ["one","other"] (ft K):=by
 have GC:FnOk P w K mg base CX0 1 fC fdC ["one","other"] spCd:=jU FC B;refine F.ok scP (fun vs H Q E h=>ly h) (fun cdv A outer s H vs Q E hr h=> ?_);refine hZq fun q_ e_=> ?_;obtain ⟨p,q,a,b,c,d,rfl,hp,hq,⟨b0,d0,sa,sb,sc,sd⟩,k⟩:=h;subst e_
 refine ⟨_,ae (psA 2 scP.nd (ai GC hr rfl mC FC.kp bC .nil ar (a0 (ao aA (pv 0) ac fun _ _=>rfl) (a0 (ao aA (pv 1) ac fun _ _=>rfl) a9))))
  (ae (psA 3 scP.nd (aj aR (aj aX (ao aA (pv 0) ac fun _ _=>rfl) (aj be (ao aA (pv 1) ac fun _ _=>rfl) (pv 2)))
   (aj aX (ao aA (pv 1) ac fun _ _=>rfl) (aj be (ao aA (pv 0) ac fun _ _=>rfl) (pv 2)))))
  (ae (psA 4 scP.nd (ai GC hr rfl mC FC.kp bC .nil ar (a0 (pv 3) (a0 (pv 2) a9))))
  (ah (ax (aU (a0 (aj be (pv 3) (pv 4)) (a0 (aj aX (aj be (ao aA (pv 0) ac fun _ _=>rfl) (pv 2)) (aj be (ao aA (pv 1) ac fun _ _=>rfl) (pv 4))) a9))))))),?_⟩
 have g0:(0:Int) < (Int.gcd b d:Int):=by
  have:=zj b (show d≠0 by omega)
  omega
 have gS:Big (Int.gcd b d:Int):=dw sd (by omega)
 have e0:(0:Int) < pE a b c d:=by
  have:=zj (pT a b c d) (show (Int.gcd b d:Int)≠0 by omega)
  unfold pE;omega
 have eS:Big (pE a b c d):=dw gS (by omega)
 refine ⟨_,rfl,p,_,1, .int b,rfl,rfl,hp,rfl,_,rfl,q,_,1, .int d,rfl,rfl,hq,rfl,b,d,rfl,?_⟩;refine ⟨_,rfl,p,_,0, .int a,rfl,rfl,hp,rfl,_,rfl,q,_,1, .int d,rfl,rfl,hq,rfl,_,rfl,d,_,rfl,rfl,⟨g0,gS⟩,a,_,rfl,rfl,⟨sa,(Bg.div sd)⟩,_,rfl,q,_,0, .int c,rfl,rfl,hq,rfl,_,rfl,p,_,1, .int b,rfl,rfl,hp,rfl,_,rfl,b,_,rfl,rfl,⟨g0,gS⟩,c,_,rfl,rfl,⟨sc,(Bg.div sb)⟩,_,_,rfl,rfl,?_⟩;refine ⟨_,rfl,_,rfl,pT a b c d,(Int.gcd b d:Int),rfl,?_⟩;refine ⟨_,rfl,_,rfl,pT a b c d,pE a b c d,rfl,rfl,⟨e0,eS⟩,_,rfl,p,_,1, .int b,rfl,rfl,hp,rfl,_,rfl,b,_,rfl,rfl,⟨g0,gS⟩,_,rfl,q,_,1, .int d,rfl,rfl,hq,rfl,_,rfl,d,pE a b c d,rfl,rfl,⟨e0,eS⟩,_,_,rfl,rfl,⟨(Bg.div sb),(Bg.div sd)⟩,two,fun r hr'=> ?_⟩;exact k r _ hr' (aa hr') a8
def gj (K:PySem.W.Frag):Sp:=fun vs H Q _=>∃(p q:Addr) (a b c d:Int),vs= [.ref p, .ref q]∧SqT K H p [.int a, .int b]∧SqT K H q [.int c, .int d]∧
 (0 < b∧0 < d∧Big a∧Big b∧Big c∧Big d)∧∀(r:Addr) (H':Hp),H r=none→Same H H'→H' r=some (.tup [.int (tX a b c d), .int (tY a b c d)])→Q (.ref r) H'
theorem scTi:FnScope ["one","other","first","second"] ["one","other"] (ag lE):= .of
theorem rN {f fC:Addr} {fd fdC:FuncData} (F:Fun K "times" "times" lE f fd) (FC:Fun K "common_divisor" "common_divisor" sCd fC fdC) (bC:Binds K fdC ["one","other"] []) (mC:mg "common_divisor"=some (.ref fC)) (B:Blt mg):
 FnOk P w K mg base CX0 2 f fd ["one","other"] (gj K):=by
 have GC:FnOk P w K mg base CX0 1 fC fdC ["one","other"] spCd:=jU FC B;refine F.okb scTi fun vs H Q E h=> ?_;refine hZq fun q_ e_=> ?_;obtain ⟨p,q,a,b,c,d,rfl,hp,hq,⟨b0,d0,sa,sb,sc,sd⟩,k⟩:=h;subst e_;refine ⟨rfl,fun cdv A outer s hr=> ?_⟩
 refine ⟨_,ae (psA 2 scTi.nd (ai GC hr rfl mC FC.kp bC .nil ar (a0 (ao aA (pv 0) ac fun _ _=>rfl) (a0 (ao aA (pv 1) ac fun _ _=>rfl) a9))))
  (ae (psA 3 scTi.nd (ai GC hr rfl mC FC.kp bC .nil ar (a0 (ao aA (pv 1) ac fun _ _=>rfl) (a0 (ao aA (pv 0) ac fun _ _=>rfl) a9))))
  (ah (ax (aU (a0 (aj aX (aj be (ao aA (pv 0) ac fun _ _=>rfl) (pv 2)) (aj be (ao aA (pv 1) ac fun _ _=>rfl) (pv 3)))
   (a0 (aj aX (aj be (ao aA (pv 0) ac fun _ _=>rfl) (pv 3)) (aj be (ao aA (pv 1) ac fun _ _=>rfl) (pv 2))) a9)))))),?_⟩
 have g1:(0:Int) < (Int.gcd a d:Int):=by
  have:=zj a (show d≠0 by omega)
  omega
 have s1:Big (Int.gcd a d:Int):=dw sd (by omega)
 have g2:(0:Int) < (Int.gcd c b:Int):=by
  have:=zj c (show b≠0 by omega)
  omega
 have s2:Big (Int.gcd c b:Int):=dw sb (by omega)
 refine ⟨_,rfl,p,_,0, .int a,rfl,rfl,hp,rfl,_,rfl,q,_,1, .int d,rfl,rfl,hq,rfl,a,d,rfl,?_⟩;refine ⟨_,rfl,q,_,0, .int c,rfl,rfl,hq,rfl,_,rfl,p,_,1, .int b,rfl,rfl,hp,rfl,c,b,rfl,?_⟩
 refine ⟨_,rfl,p,_,0, .int a,rfl,rfl,hp,rfl,_,rfl,a,_,rfl,rfl,⟨g1,s1⟩,_,rfl,q,_,0, .int c,rfl,rfl,hq,rfl,_,rfl,c,_,rfl,rfl,⟨g2,s2⟩,_,_,rfl,rfl,⟨Bg.div sa,Bg.div sc⟩,
  _,rfl,p,_,1, .int b,rfl,rfl,hp,rfl,_,rfl,b,_,rfl,rfl,⟨g2,s2⟩,_,rfl,q,_,1, .int d,rfl,rfl,hq,rfl,_,rfl,d,_,rfl,rfl,⟨g1,s1⟩,_,_,rfl,rfl,⟨Bg.div sb,Bg.div sd⟩,two,fun r hr'=> ?_⟩
 exact k r _ hr' (aa hr') a8
open PySem L2 Mth Dec Tre Wd Tw
def spBr (K:PySem.W.Frag):Sp:=fun vs H Q _=>∃(l:Addr) (y:Str) (ys:List Str),vs= [.ref l]∧SqL K H l ((y::ys).map V.str)∧y.length≤1000∧ys.length≤10∧(∀z∈ys,z.length≤600000)∧∀z,cl z=40::cl y++spC (ys.map cl)++ [41]→Q (.str z) H
theorem scBr:FnScope ["words"] ["words"] (ag sBr):= .of
theorem yy {f:Addr} {fd:FuncData} (F:Fun K "bracketed" "bracketed" sBr f fd):FnOk P w K mg base CX0 1 f fd ["words"] (spBr K):=by
 refine F.okb scBr fun vs H Q E h=> ?_;obtain ⟨l,y,ys,rfl,hl,hy,hn,hz,k⟩:=h;refine ⟨rfl,fun cdv A outer s hr=> ?_⟩;refine ⟨_,ah (ax (aj i7 (aj i7 dX (cS PySem.F.plainAttrs_str PySem.F.slot_str_join PySem.F.type_str_join ur dX (a0 (pv 0) a9))) dX)),?_⟩;have e1:(Str.ofString " ").length=1:=by decide +kernel
 have e2:(Str.ofString "(").length=1:=by decide +kernel
 have e3:(Str.ofString ")").length=1:=by decide +kernel
 have hs:=pO hz;have hm:ys.length*600000≤10*600000:=zy _ hn
 have hj:(Txt.join (Str.ofString " ") (y::ys)).length≤6002000:=by
  have h2:=mN (B:=600000) (cs:=ys.map cl) (fun c m=>by
   obtain ⟨z,mz,rfl⟩:=zo.mp m;rw [cX]
   exact hz z mz)
  rw [yM] at h2;have h3:ys.length*(600000+1)≤10*600001:=zy _ hn;rw [←cX,kM,z7,cX];omega
 have hL:(16000000:Nat)≤sizeLine:=by decide +kernel
 refine ⟨rfl,_,rfl,_,l,y::ys,rfl,rfl,hl,by rw [e1];simp only [zc,List.sum_cons,za];omega,_,_,rfl,rfl,by rw [e2];omega,_,_,rfl,rfl,by rw [Dec.len_app,e2,e3];omega,k _ ?_⟩
 rw [ir,ir,yB,yo,kM];simp
def spSt (n:Nat):Sp:=fun vs H Q _=>∃(v:V) (t:Tr),vs= [v]∧TrAt H v t∧Ty .tm t∧t.depth < n∧(tmC t).length≤1000∧∀z H',Same H H'→cl z=tmC t→Q (.str z) H'
theorem scSt:FnScope ["term"] ["term"] (ag sSt):= .of
theorem pD {ts:List Tr} {t:Tr} (m:t∈ts):(tmC t).length≤(tmsC ts).length:=by
 rw [eZ];obtain ⟨a,b,rfl⟩:=List.append_of_mem m;rw [z4,tU,zc];show _≤(_++((32::tmC t)++spC (b.map tmC))).length;simp only [z7,za];omega
theorem yx {f fB:Addr} {fd fdB:FuncData} (F:Fun K "shown_term" "shown_term" sSt f fd) (bF:Binds K fd ["term"] []) (mF:mg "shown_term"=some (.ref f)) (FB:Fun K "bracketed" "bracketed" sBr fB fdB) (bB:Binds K fdB ["words"] []) (mB:mg "bracketed"=some (.ref fB)):
 ∀n,FnOk P w K mg base CX0 (n+1) f fd ["term"] (spSt n):=by
 have GB:FnOk P w K mg base CX0 1 fB fdB ["words"] (spBr K):=yy FB;intro n
 induction n with
 |zero=>exact ⟨fun vs H Q E ⟨_,_,_,_,_,h,_⟩=>absurd h (by omega),fun A outer s H args us vs Q E _ _ _ _ ⟨_,_,_,_,_,h,_⟩=>absurd h (by omega)⟩
 |succ n ih=>
  refine F.ok scSt (fun vs H Q E h=> ?_) (fun cdv A outer s H vs Q E hr h=> ?_)
  · obtain ⟨v,t,rfl,_⟩:=h;rfl
  refine hZq fun q_ e_=> ?_;obtain ⟨v,t,rfl,hv,hw,hd,hl,k⟩:=h;subst e_;have hr1:Room 1 _:=hr.mono (by omega)
  refine ⟨_,ae (cf (aF dB (ao aA (pv 0) ac fun _ _=>rfl) dX (aE _)) (ah (ax (ao aA (pv 0) ac fun _ _=>rfl))) bg)
   (ah (ax (ai GB hr1 rfl mB FB.kp bB .nil ar (a0 (aj eQ (bO (a0 (ao aA (pv 0) ac fun _ _=>rfl) a9))
    (aQ (NC:= ["inner"]) (mp:= [none]) rfl (eP (ao aA (pv 0) ac fun _ _=>rfl)) (fun _ _ _ _ _=>pgA 0 (show (["inner"]:List Str).Nodup by decide +kernel)) (fun _ _ _ _ _=>aN) (fun _ _ _ _ _=>ai ih hr rfl mF F.kp bF .nil ar (a0 (pv 0) a9)))) a9)))),?_⟩
  cases hw with
  |nm x=>
   refine hZq fun q_ e_=> ?_;obtain ⟨r,y,rfl,h1,h2⟩:=at2 hv;subst e_;have h3:=at_s h2;subst h3;refine ⟨_,rfl,r,_,0, .str "name",rfl,rfl,SqT.of h1,rfl,rfl,_,rfl,?_⟩;rw [decide_eq_true rfl];refine iteT ⟨_,rfl,r,_,1, .str x,rfl,rfl,SqT.of h1,rfl,?_⟩;exact k _ H (Same.refl H) (f6 _ _).symm
  |ap g ts ht3 hty=>
   refine hZq fun q_ e_=> ?_;obtain ⟨r,y,z,rfl,h1,h2,h3⟩:=at3 hv;subst e_;have e2:=at_s h2;subst e2;refine hZq fun q_ e_=> ?_;obtain ⟨q,vs,rfl,h4,h5⟩:=at_t h3;subst e_;refine ⟨_,rfl,r,_,0, .str "call",rfl,rfl,SqT.of h1,rfl,rfl,_,rfl,?_⟩;rw [decide_eq_false (show¬V.str "call"=V.str "name" by decide +kernel)]
   refine iteF ?_;refine ⟨_,rfl,r,_,1, .str g,rfl,rfl,SqT.of h1,rfl,by show 1≤sizeLine;decide,fun l nl=> ?_⟩
   have s1:Same H (upd H l (.lst [.str g])):=aa nl;refine bN rfl ?_;refine ⟨_,rfl,r,_,2, .ref q,rfl,rfl,SqT.of (s1 _ _ h1),rfl,q,rfl,⟨vs,SqT.of (s1 _ _ h4)⟩,fun D nD=> ?_⟩;have hlen:=h5.len;have hL:(100000:Nat)≤sizeLine:=by decide +kernel
   have hl':=hl;unfold s_ at hl';rw [eA] at hl';simp only [z7,za,cX] at hl';refine ky (xs:=vs) (fun i acc H'=>Same (upd H l (.lst [.str g])) H'∧H' D=some (.lst acc)∧∃ys:List Str,acc=ys.map V.str∧ys.map cl=(ts.take i).map tmC) ⟨aa nD,a8,[],rfl,rfl⟩ (fun i acc H' p=>SqT.of (p.1 _ _ (s1 _ _ h4))) ?_ ?_
   · rintro i x acc H' hi ex ⟨sH,hD,ys,rfl,ey⟩;obtain ⟨t,et,htt⟩:=h5.get' ex;have mt:=yT et;have hsub:=pD mt;have yl:=congrArg List.length ey;rw [yM,yM,zh] at yl;refine ⟨_,rfl,x,t,rfl,htt.mono (Kd.of_same (s1.trans sH)),hty t mt,?_,by omega,fun z H6 s6 ez=>CompN.mk hi ?_ (s6 _ _ hD) ⟨aq nD (sH.trans s6),a8,ys++ [z],by rw [z4];rfl,?_⟩⟩
     · have hd2:=hd;simp only [Tr.depth,Trs.depth] at hd2;have:=bv mt;omega
     · rw [yM];omega
     · rw [z4,ey,List.take_add_one,et];simp [ez]
   · rintro acc H' ⟨sH,hD,ys,rfl,ey⟩;rw [hlen,zg] at ey;have hl2:H' l=some (.lst [.str g]):=sH _ _ a8;have yl:=congrArg List.length ey;rw [yM,yM] at yl;refine ⟨l,D,[.str g],_,rfl,rfl,hl2,hD,by simp only [yM,za,List.length_nil];omega,fun p np=> ?_⟩
     refine ⟨p,g,ys,rfl,SqL.of ?_,by omega,by omega,fun y my=> ?_,fun z ez=> ?_⟩
     · rw [a8];rfl
     · have:cl y∈ts.map tmC:=by rw [←ey];exact List.mem_map_of_mem my
       obtain ⟨t,mt,e⟩:=zo.mp this;have:=pD mt;rw [←cX,←e];omega
     · refine k z _ (s1.trans (sH.trans (aa np))) ?_;unfold s_;rw [ez,eA,eZ,ey]
end
end K40
namespace Su
open PySem L2 Tre Mth Wd
noncomputable def lin (g:Tr→Rat):List Pq→Rat
 | []=>0
 |p::r=>rv p.2*g p.1+lin g r
theorem jw (g:Tr→Rat) (a b:List Pq):lin g (a++b)=lin g a+lin g b:=by
 induction a with
 |nil=>simp only [Ak,lin];grind
 |cons p r ih=>simp only [zv,lin,ih];grind
theorem ux (g:Tr→Rat) (a:List Pq):lin g (a.map neg)= -lin g a:=by
 induction a with
 |nil=>simp only [List.map_nil,lin];grind
 |cons p r ih=>
  simp only [zc,lin,ih];show rv (negF p.2)*g p.1+_=_;rw [lJ];grind
theorem oO (g:Tr→Rat) {q:Fr} (hq:Sh q) {a:List Pq} (h:∀p∈a,Sh p.2):lin g (a.map (scale q))=lin g a*rv q:=by
 induction a with
 |nil=>simp only [List.map_nil,lin];grind
 |cons p r ih=>
  simp only [zc,lin,ih fun x m=>h x (yR _ m)];show rv (cC p.2 q)*g p.1+_=_;rw [hE (h p yO) hq];grind
open Classical in
theorem oN (g:Tr→Rat) (k:Tr) (l:List Pq):lin g l=g k*tot k l+lin g (l.filter fun p=>decide (p.1≠k)):=by
 induction l with
 |nil=>simp only [List.filter_nil,lin,tot];grind
 |cons p r ih=>
  rw [List.filter_cons];by_cases z:p.1=k
  · have e:decide (p.1≠k)=false:=by simp [z]
    rw [e,if_neg (by decide)]
    simp only [lin,tot,if_pos z,ih,z];grind
  · have e:decide (p.1≠k)=true:=by simp [z]
    rw [e,if_pos rfl];simp only [lin,tot,if_neg z,ih];grind
open Classical in
theorem pA (t k:Tr) (l:List Pq):tot t (l.filter fun p=>decide (p.1≠k))=if t=k then 0 else tot t l:=by
 induction l with
 |nil=>simp only [List.filter_nil,tot];grind
 |cons p r ih=>
  rw [List.filter_cons];by_cases z:p.1=k
  · have e:decide (p.1≠k)=false:=by simp [z]
    rw [e,if_neg (by decide),ih]
    by_cases y:t=k
    · simp only [if_pos y]
    · simp only [if_neg y,tot,if_neg (fun q:p.1=t=>y (q.symm.trans z))];grind
  · have e:decide (p.1≠k)=true:=by simp [z]
    rw [e,if_pos rfl];simp only [tot,ih];by_cases y:t=k
    · simp only [if_pos y];rw [if_neg (fun q:p.1=t=>z (q.trans y))];grind
    · simp only [if_neg y]
open Classical in
theorem k7 (g:Tr→Rat):∀(n:Nat) (l:List Pq),l.length≤n→(∀t,tot t l=0)→lin g l=0
 |_,[],_,_=>rfl
 |0,p::r,h,_=>by simp at h
 |n+1,p::r,h,ht=>by
  rw [oN g p.1,ht,k7 g n]
  · grind
  · have e:decide (p.1≠p.1)=false:=by simp
    rw [List.filter_cons,e,if_neg (by decide)]
    have:=zp (fun q:Pq=>decide (q.1≠p.1)) r;simp only [za] at h;omega
  · intro t;rw [pA];split
    · rfl
    · exact ht t
theorem wX (g:Tr→Rat) {a b:List Pq} (h:∀t,tot t a=tot t b):lin g a=lin g b:=by
 have:=k7 g _ (a++b.map neg) (yP _) fun t=>by rw [eh,tP,h];grind
 rw [jw,ux] at this;grind
theorem Can.lin {ps us:List Pq} (h:Can ps us) (g:Tr→Rat):lin g us=lin g ps:=wX g h.eq
theorem Can.key {ps us:List Pq} (h:Can ps us) {p:Pq} (m:p∈us):∃q∈ps,q.1=p.1:=by
 refine Classical.byContradiction fun no=> ?_;have e:=jG h.asc m;rw [h.eq,eY fun q mq ez=>no ⟨q,mq,ez⟩] at e;exact (h.sh p m).2 ((vf (h.sh p m).1).mp e.symm)
noncomputable def vl (W:Wld) (t:Tr):Rat:=rv (valT W t)
theorem ym {p q:Fr} (h1:0 < p.2) (h2:0 < q.2):p.1*q.2≤q.1*p.2↔rv p≤rv q:=by
 have a:(0:Rat) < p.2:=by exact_mod_cast h1
 have b:(0:Rat) < q.2:=by exact_mod_cast h2
 have e:(p.1*q.2≤q.1*p.2)↔((p.1:Rat)*q.2≤q.1*p.2):=by
  rw [←Rat.intCast_mul,←Rat.intCast_mul,Rat.intCast_le_intCast]
 rw [e];unfold rv;have ia:(0:Rat) < (p.2:Rat)⁻¹:=Rat.inv_pos.mpr a;have ib:(0:Rat) < (q.2:Rat)⁻¹:=Rat.inv_pos.mpr b;rw [Rat.div_def,Rat.div_def];have na:(p.2:Rat)*(p.2:Rat)⁻¹=1:=Rat.mul_inv_cancel _ (by grind)
 have nb:(q.2:Rat)*(q.2:Rat)⁻¹=1:=Rat.mul_inv_cancel _ (by grind)
 generalize (p.2:Rat)⁻¹=x at*;generalize (q.2:Rat)⁻¹=y at*;generalize (p.2:Rat)=c at*;generalize (q.2:Rat)=d at*;generalize (p.1:Rat)=m at*;generalize (q.1:Rat)=n at*;constructor
 · intro h;have h3:=Rat.mul_le_mul_of_nonneg_right h (Rat.le_of_lt ia);have h4:=Rat.mul_le_mul_of_nonneg_right h3 (Rat.le_of_lt ib);have e1:m*d*x*y=m*x:=by clear h h3 h4 e;grind
   have e2:n*c*x*y=n*y:=by clear h h3 h4 e;grind
   rw [e1,e2] at h4;exact h4
 · intro h;have h3:=Rat.mul_le_mul_of_nonneg_right h (Rat.le_of_lt a);have h4:=Rat.mul_le_mul_of_nonneg_right h3 (Rat.le_of_lt b);have e1:m*x*c*d=m*d:=by clear h h3 h4 e;grind
   have e2:n*y*c*d=n*c:=by clear h h3 h4 e;grind
   rw [e1,e2] at h4;exact h4
open PySem L2 Tre Mth Wd
open Classical in
noncomputable def cnt (t:Tr):List Pq→Nat
 | []=>0
 |p::r=>(if p.1=t then 1 else 0)+cnt t r
theorem gH (t:Tr) (a b:List Pq):cnt t (a++b)=cnt t a+cnt t b:=by
 induction a with
 |nil=>simp [cnt]
 |cons p r ih=>simp only [zv,cnt,ih];omega
theorem kG {t:Tr} {a b:List Pq} (h:a.Perm b):cnt t a=cnt t b:=by
 induction h with
 |nil=>rfl
 |cons x _ ih=>simp only [cnt,ih]
 |swap x y l=>simp only [cnt];omega
 |trans _ _ i1 i2=>exact i1.trans i2
theorem uM (t:Tr) (p:Pq) (e:p.1=t):cnt t [p]=1:=by simp [cnt,e]
theorem kJ {t:Tr}:∀ {l:List Pq},(∀p∈l,p.1≠t)→cnt t l=0
 | [],_=>rfl
 |p::r,h=>by
  simp only [cnt,if_neg (h p yO),kJ fun x m=>h x (yR _ m)]
theorem oh {t:Tr}:∀ {us:List Pq},Asc us→cnt t us≤1
 | [],_=>zf _
 |p::r,h=>by
  obtain ⟨h1,h2⟩:=List.pairwise_cons.mp h;by_cases e:p.1=t
  · rw [cnt,if_pos e,kJ fun q m z=>ic (h1 q m) (e.trans z.symm)];exact yP _
  · rw [cnt,if_neg e];have:=oh (t:=t) h2;omega
theorem og {t:Tr} {f:Pq→Pq} (hf:∀p,(f p).1=p.1):∀l:List Pq,cnt t (l.map f)=cnt t l
 | []=>rfl
 |p::r=>by
  have e:=hf p;simp only [zc,cnt,og hf r];by_cases z:p.1=t
  · rw [if_pos z,if_pos (e.trans z)]
  · rw [if_neg z,if_neg fun q=>z (e.symm.trans q)]
theorem dz:∀ {us:List Pq} {T:List Tr},Asc us→(∀u∈us,u.1∈T)→us.length≤T.length
 | [],_,_,_=>zf _
 |p::r,T,h,hm=>by
  classical
  obtain ⟨h1,h2⟩:=List.pairwise_cons.mp h
  have ih:=dz (T:=T.filter fun t=>decide (t≠p.1)) h2 fun u m=>zK.mpr ⟨hm u (yR _ m),by
   have:=ic (h1 u m);simp only [decide_eq_true_eq]
   exact fun z=>this z.symm⟩
  have:(T.filter fun t=>decide (t≠p.1)).length < T.length:=by
   refine Nat.lt_of_le_of_ne (zp _ _) fun e=> ?_;have:=List.length_filter_eq_length_iff.mp e p.1 (hm p yO);simp at this
  rw [za];omega
structure Bd where
 us:List Pq
 m:Fr
 st:Bool
noncomputable def bdT (b:Bd):Tr:= .tup [.tup (b.us.map prT),frT b.m, .bl b.st]
abbrev Wt:=Nat×Fr
noncomputable def wtT (k:Wt):Tr:= .tup [.int (k.1:Int),frT k.2]
noncomputable def bdAt (bs:List Bd) (i:Nat):Bd:=bs.getD i ⟨[],zero,false⟩
noncomputable def bQ (bs:List Bd):List Wt→List Pq
 | []=> []
 |k::r=>(bdAt bs k.1).us.map (scale k.2)++bQ bs r
noncomputable def totR (bs:List Bd):List Wt→Rat
 | []=>0
 |k::r=>rv (bdAt bs k.1).m*rv k.2+totR bs r
theorem oU (bs:List Bd) (a b:List Wt):bQ bs (a++b)=bQ bs a++bQ bs b:=by
 induction a with
 |nil=>rfl
 |cons k r ih=>simp only [zv,bQ,ih,List.append_assoc]
theorem pC (bs:List Bd) (a b:List Wt):totR bs (a++b)=totR bs a+totR bs b:=by
 induction a with
 |nil=>simp only [Ak,totR];grind
 |cons k r ih=>simp only [zv,totR,ih];grind
theorem oT (bs:List Bd) (k:Wt):bQ bs [k]=(bdAt bs k.1).us.map (scale k.2):=by simp [bQ]
theorem pB (bs:List Bd) (k:Wt):totR bs [k]=rv (bdAt bs k.1).m*rv k.2:=by simp only [totR];grind
structure Gb (T:List Tr) (e:Nat) (b:Bd):Prop where
 asc:Asc b.us
 mem:∀u∈b.us,u.1∈T
 gq:∀u∈b.us,Gq e u
 sh:Sh b.m
 gf:Gf e b.m
theorem kY {bs:List Bd} {i:Nat} (h:i < bs.length):bs[i]?=some (bdAt bs i):=by
 unfold bdAt;rw [yN h,z9,yN h];rfl
theorem dm {bs:List Bd} {i:Nat} (h:i < bs.length):bdAt bs i∈bs:=yT (kY h)
theorem kh {T:List Tr} {e:Nat} {bs:List Bd} (hb:∀b∈bs,Gb T e b) (t:Tr):∀ {ks:List Wt},(∀k∈ks,k.1 < bs.length)→cnt t (bQ bs ks)≤ks.length
 | [],_=>zf _
 |k::r,h=>by
  have h1:=oh (t:=t) (hb _ (dm (h k yO))).asc;have h2:=kh hb t (ks:=r) fun x m=>h x (yR _ m);rw [bQ,gH,og (f:=scale k.2) fun _=>rfl,za];omega
theorem flat_len {T:List Tr} {e:Nat} {bs:List Bd} (hb:∀b∈bs,Gb T e b):∀ {ks:List Wt},(∀k∈ks,k.1 < bs.length)→(bQ bs ks).length≤ks.length*T.length
 | [],_=>zf _
 |k::r,h=>by
  have g:=hb _ (dm (h k yO));have h1:=dz g.asc g.mem;have h2:=flat_len hb (ks:=r) fun x m=>h x (yR _ m);rw [bQ,z7,yM,za,Nat.succ_mul];omega
theorem nR {T:List Tr} {e m:Nat} {bs:List Bd} (hb:∀b∈bs,Gb T e b):∀ {ks:List Wt},(∀k∈ks,k.1 < bs.length)→(∀k∈ks,Sh k.2∧Gf m k.2)→∀p∈bQ bs ks,Gq (e+m) p
 | [],_,_,p,mp=>by cases mp
 |k::r,h,hw,p,mp=>by
  rw [bQ] at mp;rcases ze.mp mp with mp|mp
  · obtain ⟨u,mu,rfl⟩:=zo.mp mp;have g:=(hb _ (dm (h k yO))).gq u mu;obtain ⟨s,gk⟩:=hw k yO;exact ⟨g.ty,g.dep,g.gf.times gk,dG g.sh s⟩
  · exact nR hb (fun x mx=>h x (yR _ mx)) (fun x mx=>hw x (yR _ mx)) p mp
end Su
namespace Tre
open PySem PySem.Spec PyProof.Rows L2
section
variable {X:Cx}
def rEqT:R2:=fun x y H Q=>∃ts us,TrAt H x (.tup ts)∧TrAt H y (.tup us)∧(Trs.pure ts∨Trs.pure us)∧Trs.depth ts≤40∧Q (.bl (eqTs ts us)) H
def rNeT:R2:=fun x y H Q=>∃ts us,TrAt H x (.tup ts)∧TrAt H y (.tup us)∧(Trs.pure ts∨Trs.pure us)∧Trs.depth ts≤40∧Q (.bl (!eqTs ts us)) H
theorem k8 {pins:List (Addr×Obj)} {σ:L2.St} {H:Hp} {s:Shared} {A:Around} {ts us:List Tr} {vs ws:List V} {as bs:List Value} (I:Inv X pins σ H s) (hu:A.units+42 < cLine) (h1:TrsAt H vs ts) (h2:TrsAt H ws us) (hp:Trs.pure ts∨Trs.pure us) (hd:Trs.depth ts≤40) (r1:Vals vs as) (r2:Vals ws bs)
 (j:Nat) (g1:j < as.toArray.size) (g2:j < bs.toArray.size):SeqAt.EqAt A s as.toArray[j] bs.toArray[j] (eqJ ts us j):=by
 have l1:=h1.len;have l2:=h2.len;have l3:=r1.length;have l4:=r2.length;have h1':j < as.length:=by simpa using g1
 have h2':j < bs.length:=by simpa using g2
 have t1:ts[j]?=some (ts[j]'(by omega)):=yN _
 have t2:us[j]?=some (us[j]'(by omega)):=yN _
 obtain ⟨v,e1,a1⟩:=h1.get t1;obtain ⟨w,e2,a2⟩:=h2.get t2;obtain ⟨u1,e3,q1⟩:=r1.get e1;obtain ⟨u2,e4,q2⟩:=r2.get e2;have z1:as.toArray[j]=u1:=by rw [List.getElem_toArray];rw [yN h1'] at e3;exact zb e3
 have z2:bs.toArray[j]=u2:=by rw [List.getElem_toArray];rw [yN h2'] at e4;exact zb e4
 rw [z1,z2,sP t1 t2];refine j3 I 40 ?_ ?_ a1 a2 q1 q2 (by omega)
 · have:=bv (yT t1);omega
 · rcases hp with hp|hp
   · exact .inl (dM hp (yT t1))
   · exact .inr (dM hp (yT t2))
theorem wn (hu:X.A.units+50 < cLine):OpR X (compareOp .Eq) rEqT:=by
 intro pins s σ H x y v u Q I rx ry h;obtain ⟨ts,us,h1,h2,hp,hd,q⟩:=h;unfold TrAt at h1 h2;obtain ⟨a,vs,rfl,g1,k1⟩:=h1;obtain ⟨b,ws,rfl,g2,k2⟩:=h2;cases rx;cases ry;obtain ⟨as,r1,p1,_⟩:=I.tuple (SqT.of g1);obtain ⟨bs,r2,p2,_⟩:=I.tuple (SqT.of g2);refine PySem.SeqAt.eq_tupleAt (e:=eqJ ts us) (show s.heap.IsTuple a as.toArray from p1) (show s.heap.IsTuple b bs.toArray from p2) (by omega) (fun j g1 g2=>k8 I (by first|omega|(show X.A.units+1+42 < cLine;omega)) k1 k2 hp hd r1 r2 j g1 g2) ?_
 refine ⟨.bl (eqTs ts us),H,I,?_,q⟩;rw [yU,yU,←r1.length,←r2.length,k1.len,k2.len,←fe];rfl
theorem wg (hu:X.A.units+50 < cLine):OpR X (compareOp .NotEq) rNeT:=by
 intro pins s σ H x y v u Q I rx ry h;obtain ⟨ts,us,h1,h2,hp,hd,q⟩:=h;unfold TrAt at h1 h2;obtain ⟨a,vs,rfl,g1,k1⟩:=h1;obtain ⟨b,ws,rfl,g2,k2⟩:=h2;cases rx;cases ry;obtain ⟨as,r1,p1,_⟩:=I.tuple (SqT.of g1);obtain ⟨bs,r2,p2,_⟩:=I.tuple (SqT.of g2);refine SeqAt.RcNeAt.tuples (A:=X.A) (e:=eqJ ts us) (show s.heap.IsTuple a as.toArray from p1) (show s.heap.IsTuple b bs.toArray from p2) (by omega) (fun j g1 g2=>k8 I (by show X.A.units+1+42 < cLine;omega) k1 k2 hp hd r1 r2 j g1 g2) X.prog X.w X.xe _ ?_
 refine ⟨.bl (!eqTs ts us),H,I,?_,q⟩;rw [yU,yU,←r1.length,←r2.length,k1.len,k2.len,←fe];rfl
end
end Tre
namespace L2
open PySem
section
variable {X:Cx} {tg:Expr}
end
end L2
namespace K40
open PySem L2 Mth Tre Wd Su
noncomputable def lcmF (s:Int):List Fr→Int
 | []=>s
 |f::r=>lcmF (s / (Int.gcd s f.2:Int)*f.2) r
theorem sk (s:Int) (a b:List Fr):lcmF s (a++b)=lcmF (lcmF s a) b:=by
 induction a generalizing s with
 |nil=>rfl
 |cons f r ih=>simp only [zv,lcmF,ih]
theorem lcm1 {s b:Int} (hs:0 < s) (hb:0 < b):0 < s / (Int.gcd s b:Int)*b∧s∣s / (Int.gcd s b:Int)*b∧b∣s / (Int.gcd s b:Int)*b∧(s / (Int.gcd s b:Int)*b).natAbs≤s.natAbs*b.natAbs:=by
 obtain ⟨x',y',e1,e2,_,e3,_⟩:=cZ (x:=s) (y:=b) (by omega)
 have hg:0 < (Int.gcd s b:Int):=by
  have:Int.gcd s b≠0:=fun z=>by
   rw [z] at e2;have:b=0:=by rw [e2];exact Ai _
   omega
  omega
 rw [e3];have hx:0 < x':=cp (k:=(Int.gcd s b:Int)) (by omega) (by rw [←e1];exact hs)
 refine ⟨Int.mul_pos hx hb,⟨y',?_⟩,⟨x',zU _ _⟩,?_⟩
 · generalize (Int.gcd s b:Int)=g at*;subst e1;rw [e2];grind
 · rw [zr];refine zy _ ?_
   have:x'.natAbs≤((Int.gcd s b:Int)*x').natAbs:=by
    rw [zr];exact Nat.le_mul_of_pos_left _ (by omega)
   rw [←e1] at this;exact this
theorem gC {M:Nat}:∀ {fs:List Fr} {s:Int},0 < s→(∀f∈fs,0 < f.2∧f.2.natAbs≤M)→0 < lcmF s fs∧s∣lcmF s fs∧(∀f∈fs,f.2∣lcmF s fs)∧(lcmF s fs).natAbs≤s.natAbs*M^fs.length
 | [],s,hs,_=>⟨hs,Int.dvd_refl _,fun f m=>(by cases m),by simp [lcmF]⟩
 |f::r,s,hs,h=>by
  obtain ⟨a1,a2,a3,a4⟩:=lcm1 hs (h f yO).1;obtain ⟨b1,b2,b3,b4⟩:=gC (M:=M) (fs:=r) a1 fun g m=>h g (yR _ m);refine ⟨b1,Int.dvd_trans a2 b2,fun g m=> ?_,?_⟩
  · rcases yV.mp m with rfl|m
    · exact Int.dvd_trans a3 b2
    · exact b3 g m
  · refine yY b4 ?_;rw [za,Nat.pow_succ,Nat.mul_comm (M^r.length),←Nat.mul_assoc];exact zy _ (yY a4 (Nat.mul_le_mul_left _ (h f yO).2))
section
variable {P:Program} {w:World} {K:PySem.W.Frag} {mg:Str→Option Value} {base:Heap} {T0:Addr}
def mM:Sp:=fun vs H Q _=>∃(t b:Int),vs= [.int t, .int b]∧0 < b∧Big b∧∀p,H p=none→Q (.ref p) (upd H p (.tup [.int (fx t b), .int (fy t b)]))
theorem scF:FnScope ["top","bottom","divisor"] ["top","bottom"] (ag sFr):= .of
theorem wQ {f fC:Addr} {fd fdC:FuncData} (F:Fun K "fraction" "fraction" sFr f fd) (FC:Fun K "common_divisor" "common_divisor" sCd fC fdC) (bC:Binds K fdC ["one","other"] []) (mC:mg "common_divisor"=some (.ref fC)) (B:Blt mg):FnOk P w K mg base CX0 2 f fd ["top","bottom"] mM:=by
 have GC:FnOk P w K mg base CX0 1 fC fdC ["one","other"] spCd:=jU FC B;refine F.okb scF fun vs H Q E h=> ?_;obtain ⟨t,b,rfl,h0,hb,k⟩:=h;refine ⟨rfl,fun cdv A outer s hr=> ?_⟩
 refine ⟨_,ae (cf (aF dB (pv 1) ac (aE _)) rc bg)
  (ae (psA 2 scF.nd (ai GC hr rfl mC FC.kp bC .nil ar (a0 (pv 0) (a0 (pv 1) a9))))
  (ae (cf (aF iF (pv 1) ac (aE _)) rc bg)
  (ah (ax (aU (a0 (aj jT (pv 0) (pv 2)) (a0 (aj jT (pv 1) (pv 2)) a9))))))),?_⟩
 have z:b≠0:=by omega
 have z':¬(V.int b=V.int 0):=fun q=>z (V.int.inj q);refine ⟨_,rfl,rfl,_,rfl,?_⟩;rw [decide_eq_false z'];refine iteF ?_;refine ⟨_,rfl,_,rfl,t,b,rfl,?_⟩;refine ⟨_,rfl,b,0,rfl,rfl,_,rfl,?_⟩;rw [decide_eq_false (show¬b < 0 by omega)]
 refine iteF ?_;have ed:dv t b=(Int.gcd t b:Int):=by unfold dv;rw [if_neg (by omega)]
 have n0:(Int.gcd t b:Int)≠0:=by rw [←ed];exact sQ z
 refine ⟨_,rfl,_,rfl,t,_,rfl,rfl,⟨n0,dw hb z⟩,_,rfl,_,rfl,b,_,rfl,rfl,⟨n0,dw hb z⟩,two,fun p hp=> ?_⟩;have:=k p hp;unfold fx fy at this;rw [ed] at this;exact this
def qm:Sp:=fun vs H Q _=>∃(v:V) (us:List Pq),vs= [v]∧TrAt H v (.tup (us.map prT))∧us.length≤64∧∀(l:Addr) (ws:List V) (H':Hp),Same H H'→H l=none→H' l=some (.lst ws)→TrsAt H' ws (us.map fun u=>frT u.2)→Q (.ref l) H'
theorem yd:FnScope ["pairs"] ["pairs"] (ag sShi):= .of
theorem wE {f:Addr} {fd:FuncData} (F:Fun K "shares_in" "shares_in" sShi f fd):FnOk P w K mg base CX0 1 f fd ["pairs"] qm:=by
 refine F.okb yd fun vs H Q E h=> ?_;obtain ⟨v,us,rfl,hv,hl,k⟩:=h;refine ⟨rfl,fun cdv A outer s hr=> ?_⟩
 refine ⟨_,ah (ax (aQ (NC:= ["term","share"]) (mp:= [none,none]) (g:=gTup K 2 (aV (aG 0) (aV (aG 1) gNil))) rfl (eP (pv 0))
  (fun _ _ _ _ _=>aW (n:=2) rfl (ak (pgA 0 (show (["term","share"]:List Str).Nodup by decide +kernel)) (ak (pgA 1 (show (["term","share"]:List Str).Nodup by decide +kernel)) aL))) (fun _ _ _ _ _=>aN)
  (fun _ _ _ _ _=>pv 1))),?_⟩
 have hL20:(20000:Nat)≤sizeLine:=by decide +kernel
 obtain ⟨au,xs,rfl,hau,hxs⟩:=at_t hv;have xl:=hxs.len;rw [yM] at xl;refine kB (K':=K) (xs:=xs) (rest:= []) (a:=au) rfl (fun Q q=>⟨_,rfl,q⟩) (SqT.of hau) fun L nL=> ?_;refine ⟨fun j acc' H'=>Same H H'∧H' L=some (.lst acc')∧TrsAt H' acc' ((us.take j).map fun u=>frT u.2),⟨aa nL,a8,by rw [zG];exact .nil⟩,fun j acc' H' p=>SqT.of (p.1 _ _ hau),?_,?_⟩
 · rintro j z acc' H' hj ⟨s2,hL,hA2⟩ ez;obtain ⟨t',et',ht'⟩:=(hxs.mono (Kd.of_same s2)).get' ez;rw [yQ] at et';obtain ⟨⟨tm,fr⟩,eq,rfl⟩:=yS.mp et';obtain ⟨T',x,y,rfl,hT',hx,hy⟩:=bX ht';have al2:=hA2.len;rw [yM,zh] at al2;refine ⟨T',x,y,rfl,SqT.of hT',_,rfl,?_⟩;have kd:=Kd.upd (ys:=acc'++ [y]) hL;refine CompN.mk hj (by omega) hL ⟨aq nL s2,a8,?_⟩
   rw [av eq,z4];exact TrsAt.app (.cons (hy.mono kd) .nil) (hA2.mono kd)
 · rintro acc' H2 ⟨s2,hL,hA2⟩;rw [xl,zg] at hA2;exact k L acc' H2 s2 nL hL hA2
def qu:Sp:=fun vs H Q _=>∃(l:Addr) (ws:List V) (fs:List Fr) (M:Nat),vs= [.ref l]∧H l=some (.lst ws)∧TrsAt H ws (fs.map frT)∧(∀f∈fs,0 < f.2∧f.2.natAbs≤M)∧0 < M∧M^(fs.length+1) < 2^8000∧Q (.int (lcmF 1 fs)) H
theorem scSco:FnScope ["shares","scale","top","bottom"] ["shares"] (ag sSco):= .of
theorem wG {f fC:Addr} {fd fdC:FuncData} (F:Fun K "scale_of" "scale_of" sSco f fd) (FC:Fun K "common_divisor" "common_divisor" sCd fC fdC) (bC:Binds K fdC ["one","other"] []) (mC:mg "common_divisor"=some (.ref fC)) (B:Blt mg):FnOk P w K mg base CX0 2 f fd ["shares"] qu:=by
 have GC:FnOk P w K mg base CX0 1 fC fdC ["one","other"] spCd:=jU FC B;refine F.okb scSco fun vs H Q E h=> ?_;refine hZq fun q_ e_=> ?_;obtain ⟨l,ws,fs,M,rfl,hl,hT,hfs,hM0,hM,k⟩:=h;subst e_;refine ⟨rfl,fun cdv A outer s hr=> ?_⟩
 refine ⟨_,ae (psA 1 scSco.nd ac)
  (ae (cg PassesOwn.never rfl (aO (pv 0)) (aW rfl (ak (pgA 2 scSco.nd) (ak (pgA 3 scSco.nd) aL)))
   (ah (psA 1 scSco.nd (aj aX (aj be (pv 1) (ai GC hr rfl mC FC.kp bC .nil ar (a0 (pv 1) (a0 (pv 3) a9)))) (pv 3)))))
  (ah (ax (pv 1)))),?_⟩
 have wl:=hT.len;rw [yM] at wl;refine ⟨_,rfl,l,rfl,⟨_,SqL.of hl⟩,?_⟩;refine e5 (xs:=ws) (fun i σ H'=>H'=H∧∃v2 v3:Option V,σ= [some (.ref l),some (.int (lcmF 1 (fs.take i))),v2,v3]) ⟨rfl,none,none,rfl⟩ (fun i σ H' _ p=>by rw [p.1];exact SqL.of hl) ?_ ?_
 · rintro i x σ H1 ex ⟨rfl,v2,v3,rfl⟩;obtain ⟨t,et,ht⟩:=hT.get' ex;rw [yQ] at et;obtain ⟨fr,ef,rfl⟩:=yS.mp et;obtain ⟨rf,rfl,hrf⟩:=e9 ht;have il:i < fs.length:=(yW.mp ef).1;obtain ⟨f0,fM⟩:=hfs fr (yT ef);refine hZq fun q_ e_=> ?_;obtain ⟨c1,_,_,c4⟩:=gC (M:=M) (fs:=fs.take i) (s:=1) (by decide) fun g m=>hfs g (zY m)
   subst e_;have p1:M^(fs.take i).length≤M^(fs.length+1):=zN hM0 (by rw [zh];omega)
   have p2:M^1≤M^(fs.length+1):=zN hM0 (by omega)
   rw [Nat.pow_one] at p2
   have b1:Big (lcmF 1 (fs.take i)):=by
    unfold Big;have:(1:Int).natAbs=1:=rfl;rw [this,Nat.one_mul] at c4;omega
   have b2:Big fr.2:=by unfold Big;omega
   have g0:0 < (Int.gcd (lcmF 1 (fs.take i)) fr.2:Int):=by
    have:0 < Int.gcd (lcmF 1 (fs.take i)) fr.2:=zj _ (by omega)
    omega
   refine ⟨rf,_,rfl,SqT.of hrf,rfl,_,_,rfl,_,_,rfl,rfl,?_⟩;refine ⟨_,rfl,_,rfl,_,rfl,_,_,rfl,_,_,rfl,rfl,⟨g0,dw b2 (by omega)⟩,_,rfl,_,_,rfl,rfl,⟨?_,b2⟩,rfl,some (.int fr.1),some (.int fr.2),?_⟩
   · unfold Big at*;exact z6 (cM _ _) b1
   · rw [av ef,sk];rfl
 · rintro σ H1 ⟨rfl,v2,v3,rfl⟩;rw [wl,zg];exact ⟨_,rfl,k⟩
noncomputable def wh (f:Fr) (s:Int):Int:=f.1*(s / f.2)
def mG:Sp:=fun vs H Q _=>∃(v:V) (f:Fr) (s:Int),vs= [v, .int s]∧TrAt H v (frT f)∧0 < f.2∧Big f.2∧Big f.1∧Big s∧Q (.int (wh f s)) H
theorem xY:FnScope ["share","scale"] ["share","scale"] (ag sWho):= .of
theorem wp {f:Addr} {fd:FuncData} (F:Fun K "whole_of" "whole_of" sWho f fd):FnOk P w K mg base CX0 1 f fd ["share","scale"] mG:=by
 refine F.okb xY fun vs H Q E h=> ?_;obtain ⟨v,f,sc,rfl,hv,f0,b2,b1,bs,k⟩:=h;refine ⟨rfl,fun cdv A outer s hr=> ?_⟩;refine ⟨_,ah (ax (aj aX (ao aA (pv 0) ac fun _ _=>rfl) (aj be (pv 1) (ao aA (pv 0) ac fun _ _=>rfl)))),?_⟩;obtain ⟨rf,rfl,hrf⟩:=e9 hv;refine ⟨_,rfl,rf,_,0,_,rfl,rfl,SqT.of hrf,rfl,_,rfl,_,rfl,rf,_,1,_,rfl,rfl,SqT.of hrf,rfl,_,_,rfl,rfl,⟨f0,b2⟩,_,_,rfl,rfl,⟨b1,?_⟩,k⟩;unfold Big at*;exact z6 (cM _ _) bs
theorem uU {f:Fr} {s:Int} (h:0 < f.2):(wh f s).natAbs≤f.1.natAbs*s.natAbs:=by
 unfold wh;rw [zr];exact Nat.mul_le_mul_left _ (cM _ _)
end
end K40
namespace L2
open PySem
open PySem PySem.Spec PyProof.Rows
section
variable {prog:Program} {w:World} {A:Around} {E:Value→Shared→Prop} {s:Shared}
end
section
variable {X:Cx} {o:Expr} {lo:Expr} {p2 tpos pos:Pos} {ta tl:TE}
end
end L2
namespace K40
open PySem L2 Mth Tre Wd Su Tw Fm
theorem SqL.same {K:PySem.W.Frag} {H H':Hp} {a:Addr} {xs:List V} (s:Same H H') (h:SqL K H a xs):SqL K H' a xs:=h.imp (fun x=>x.imp (fun e=>s _ _ e) fun ⟨o,e⟩=>⟨o,s _ _ e⟩) id
def Rk (H:Hp) (e:Key×V) (t:Tr):Prop:=∃z:Str,e.1=Sum.inr z∧Dec.cl z=tmC t∧Gt t∧TrAt H e.2 t
def DictT (H:Hp) (kvs:List (Key×V)) (acc:List Tr):Prop:=Paired (Rk H) kvs acc
def But1 (d:Addr) (H H':Hp):Prop:=∀x o,x≠d→H x=some o→H' x=some o
theorem But1.trans {d:Addr} {H H1 H2:Hp} (a:But1 d H H1) (b:But1 d H1 H2):But1 d H H2:=fun x o n e=>b x o n (a x o n e)
theorem But1.of_same {d:Addr} {H H':Hp} (s:Same H H'):But1 d H H':=fun x o _ e=>s x o e
theorem But1.kd {d:Addr} {H H':Hp} {kvs:List (Key×V)} (hd:H d=some (.dK kvs)) (b:But1 d H H'):Kd H H':=by
 have ne:∀ {a:Addr} {o:HO},H a=some o→(∀z,o≠ .dK z)→a≠d:=fun e h z=>by
  rw [z,hd] at e;exact h _ (zb e).symm
 exact ⟨fun a xs e=>b a _ (ne e fun z t=>by cases t) e,fun a xs e=>⟨xs,b a _ (ne e fun z t=>by cases t) e⟩⟩
theorem DictT.mono {H H':Hp} {kvs:List (Key×V)} {acc:List Tr} (h:DictT H kvs acc) (k:Kd H H'):DictT H' kvs acc:=Paired.imp' (fun e t ⟨z,a,b,c,d⟩=>⟨z,a,b,c,d.mono k⟩) h
theorem DictT.len {H:Hp} {kvs:List (Key×V)} {acc:List Tr} (h:DictT H kvs acc):kvs.length=acc.length:=Paired.length h
theorem DictT.vals {H:Hp} {kvs:List (Key×V)} {acc:List Tr} (h:DictT H kvs acc):TrsAt H (kvs.map (·.2)) acc:=by
 unfold DictT at h
 induction h with
 |nil=>exact .nil
 |cons h1 _ ih=>
  obtain ⟨z,_,_,_,d⟩:=h1;exact .cons d ih
theorem DictT.gt {H:Hp} {kvs:List (Key×V)} {acc:List Tr} (h:DictT H kvs acc):∀t∈acc,Gt t:=by
 unfold DictT at h
 induction h with
 |nil=>intro t m;cases m
 |cons h1 _ ih=>
  intro t m;rcases yV.mp m with rfl|m
  · obtain ⟨z,_,_,g,_⟩:=h1;exact g
  · exact ih t m
theorem DictT.none_iff {H:Hp} {kvs:List (Key×V)} {acc:List Tr} {t:Tr} {z:Str} (h:DictT H kvs acc) (hg:Gt t) (hz:Dec.cl z=tmC t):valV kvs (Sum.inr z)=none↔¬t∈acc:=by
 have e:=dE (Sum.inr z:Key) kvs
 have e2:(kvs.any fun kv=>decide (kv.1=(Sum.inr z:Key)))=true↔t∈acc:=by
  clear e;unfold DictT at h
  induction h with
  |nil=>simp
  | @cons kv u kvs us h1 _ ih=>
   rw [List.any_cons,Bool.or_eq_true,yV,ih]
   have:decide (kv.1=(Sum.inr z:Key))=true↔t=u:=by
    obtain ⟨z',a,b,g,_⟩:=h1;rw [decide_eq_true_iff,a];constructor
    · intro q;have q':=Sum.inr.inj q;subst q';exact hg.inj g (hz.symm.trans b)
    · rintro rfl;rw [Dec.cl_inj (b.trans hz.symm)]
   rw [this]
 rw [←e2,e];cases valV kvs (Sum.inr z:Key)<;>simp
def CompD (n i:Nat) (D:Addr) (acc:List (Key×V)) (Pv:Nat→List (Key×V)→Hp→Prop) (k:Key):VK:=fun v H7=>H7 D=some (.dK acc)∧acc.length < sizeLine∧∃m',m' < n - i∧(m'=n - (i+1)∧i+1≤n∧Pv (i+1) (putK acc k v) (upd H7 D (.dK (putK acc k v))))
theorem CompD.mk {n i:Nat} {D:Addr} {acc:List (Key×V)} {Pv:Nat→List (Key×V)→Hp→Prop} {k:Key} {v:V} {H7:Hp} (hi:i < n) (hl:acc.length < sizeLine) (h1:H7 D=some (.dK acc)) (h2:Pv (i+1) (putK acc k v) (upd H7 D (.dK (putK acc k v)))):CompD n i D acc Pv k v H7:=
 ⟨h1,hl,n - (i+1),by omega,rfl,hi,h2⟩
theorem oV {K K':PySem.W.Frag} {a:Addr} {mp:List (Option Nat)} {tl:TE} {tk te:TE} {Q:VK} {σ rest:L2.St} {H H1:Hp} {xs:List V} (e:subS mp σ=none::none::rest)
 (ha:∀Q:VK,Q (.ref a) H1→tl σ H Q) (h1:SqT K H1 a xs)
 (h:∀D,H1 D=none→∃Pv:Nat→List (Key×V)→Hp→Prop,Pv 0 [] (upd H1 D (.dK []))∧(∀i acc H,Pv i acc H→SqT K H a xs)∧
  (∀i z acc H,i < xs.length→Pv i acc H→xs[i]?=some z→∃T x y,z= .ref T∧SqT K' H T [x,y]∧tk (some x::some y::rest) H fun yk H6=>∃k,yk=kV k∧te (some x::some y::rest) H6 (CompD xs.length i D acc Pv k))∧∀acc H,Pv xs.length acc H→Q (.ref D) H):
 lq mp (iTup K tl) (gTup K' 2 (aV (aG 0) (aV (aG 1) gNil))) cJ tk te σ H Q:=by
 unfold lq;rw [e];refine ha _ ⟨a,rfl,⟨xs,h1⟩,fun D nD=> ?_⟩;obtain ⟨Pv,p0,pq,ps,pd⟩:=h D nD;refine ⟨fun i m acc H=>m=xs.length - i∧i≤xs.length∧Pv i acc H,⟨xs.length,by simp,zf _,p0⟩,?_⟩
 rintro i m acc H ⟨rfl,hi,p⟩;have q1:=pq i acc H p;by_cases hlt:i < xs.length
 · refine .inr ⟨⟨xs,xs[i],q1,by simp [hlt]⟩,?_⟩
   rintro v H' ⟨rfl,y⟩;obtain ⟨T,x,z,rfl,hT,hte⟩:=ps i v acc _ hlt p (y xs q1);exact ⟨T,[x,z],rfl,hT,rfl,x,[z],rfl,z,[],rfl,rfl,ext2,hte⟩
 · have ei:i=xs.length:=by omega
   subst ei;exact .inl ⟨⟨xs,q1,yP _⟩,pd acc H p⟩
end K40
namespace K40
open PySem L2 Mth Tre
theorem t9 {ns:List Int} {i:Int} (h0:0≤i) (h1:i < ns.length):∃(z:Int),atI (ns.map V.int) i=some (.int z)∧z=ns.getD i.toNat 0:=by
 obtain ⟨j,rfl⟩:∃j:Nat,i=(j:Int):=⟨i.toNat,by omega⟩
 have hj:j < ns.length:=by omega
 exact ⟨ns[j],aJ (by rw [yQ,yN hj];rfl),by rw [zZ,z9,yN hj];rfl⟩
noncomputable def vd (z kk m:Int):Int:=(z%1000003+31*kk*kk+1)*48271%999983*7919%524287%m
noncomputable def sR (ns:List Int) (kk m:Int):Int:=
 if ns.length=0 then vd 0 kk m else if ns.getD 0 0%2=1 then ns.getD (kk%(ns.length:Int)).toNat 0 / 2^(20*(kk / (ns.length:Int))+1).toNat%1048576%m else vd (ns.getD (kk%(ns.length:Int)).toNat 0) kk m
theorem gN {m:Int} (h0:0≤m) (h:m≤1000000000000):Big m:=by
 unfold Big;have:(1000000000000:Nat) < 2^8000:=by decide +kernel
 exact z6 (by omega) this
section
variable {P:Program} {w:World} {K:PySem.W.Frag} {mg:Str→Option Value} {base:Heap} {T0:Addr}
def fu (K:PySem.W.Frag):Sp:=fun vs H Q _=>∃(a:Addr) (ns:List Int) (kk m:Int),vs= [.ref a, .int kk, .int m]∧SqL K H a (ns.map V.int)∧ns.length≤63∧0≤kk∧kk≤100000∧0 < m∧∀r:Int,0≤r→r < m→r=sR ns kk m→Q (.int r) H
theorem scD:FnScope ["_law_script","_law_k","_law_many","_law_cell","_law_seed"] ["_law_script","_law_k","_law_many"] (ag qN):= .of
theorem uo {f:Addr} {fd:FuncData} (F:Fun K "_law_draw" "_law_draw" qN f fd) (B:Blt mg):FnOk P w K mg base CX0 1 f fd ["_law_script","_law_k","_law_many"] (fu K):=by
 refine F.okb scD fun vs H Q E h=> ?_;refine hZq fun q_ e_=> ?_;obtain ⟨a,ns,kk,m,rfl,hS,h63,k0,k5,m0,k⟩:=h;subst e_;refine ⟨rfl,fun cdv A outer s hr=> ?_⟩
 refine ⟨_,ae (psA 3 scD.nd (dh (aF eK (aB ay rfl B.le PySem.boot_len (a0 (pv 0) a9)) ac (aE _))
  (ao aw (pv 0) (aj cV (pv 1) (aB ay rfl B.le PySem.boot_len (a0 (pv 0) a9))) fun _ _=>rfl) ac))
  (ae (cf (PW.pt (jj (aF eK (aB ay rfl B.le PySem.boot_len (a0 (pv 0) a9)) ac (aE _)) (gx (aF dB (aj cV (ao aw (pv 0) ac fun _ _=>rfl) ac) ac (aE _)))))
   (ah (ax (aj cV (aj cV (aj we (pv 3) (aj aR (aj ci ac (aj uh (pv 1) (aB ay rfl B.le PySem.boot_len (a0 (pv 0) a9)))) ac)) ac) (pv 2)))) bg)
  (ae (psA 4 scD.nd (aj aR (aj aR (aj cV (pv 3) ac) (aj aX (aj ci ac (pv 1)) (pv 1))) ac))
  (ah (ax (aj cV (aj cV (aj ci (aj cV (aj ci (pv 4) ac) ac) ac) ac) (pv 2)))))),?_⟩
 by_cases z0:ns.length=0
 · have e0:ns= []:=List.length_eq_zero_iff.mp z0;subst e0;refine ⟨_,rfl,a,_,rfl, .inl hS,_,0,rfl,rfl,_,rfl,?_⟩;refine iteF ?_;refine ⟨_,rfl,a,_,rfl, .inl hS,_,0,rfl,rfl,_,rfl,?_⟩;refine iteF ?_;refine iteF ?_;refine ⟨_,rfl,0,1000003,rfl,rfl,(by show (0:Int) < 1000003;decide),_,rfl,31,kk,rfl,rfl, .inl ⟨by decide,by decide⟩,_,rfl,_,kk,rfl,rfl,⟨gN (by omega) (by omega),gN k0 (by omega)⟩,_,_,rfl,rfl,_,_,rfl,rfl,?_⟩
   refine ⟨_,rfl,_,48271,rfl,rfl, .inr ⟨by decide,by decide⟩,_,999983,rfl,rfl,(by show (0:Int) < 999983;decide),_,7919,rfl,rfl, .inr ⟨by decide,by decide⟩,_,524287,rfl,rfl,(by show (0:Int) < 524287;decide),_,rfl,_,m,rfl,rfl,m0,?_⟩
   exact k _ (Int.emod_nonneg _ (by omega)) (Int.emod_lt_of_pos _ m0) rfl
 · have lp:(0:Int) < (ns.length:Int):=by omega
   obtain ⟨z,hz,ez⟩:=t9 (ns:=ns) (i:=kk%(ns.length:Int)) (Int.emod_nonneg _ (by omega)) (Int.emod_lt_of_pos _ lp)
   obtain ⟨y,hy,ey⟩:=t9 (ns:=ns) (i:=0) (by omega) lp
   have g0:decide ((0:Int) < (ns.length:Int))=true:=decide_eq_true lp;refine ⟨_,rfl,a,_,rfl, .inl hS,_,0,rfl,rfl,_,rfl,?_⟩;rw [yM,g0];refine iteT ?_;refine ⟨_,rfl,_,rfl,_,rfl,a,_,rfl, .inl hS,kk,_,rfl,rfl,(by rw [yM];omega),a,_,kk%(ns.length:Int), .int z,rfl,(by rw [yM]),hS,hz,?_⟩
   refine ⟨_,rfl,a,_,rfl, .inl hS,_,0,rfl,rfl,_,rfl,?_⟩;rw [yM,g0];refine iteT ?_;refine ⟨_,rfl,a,_,0, .int y,rfl,rfl,hS,hy,_,2,rfl,rfl,(by show (0:Int) < 2;decide),rfl,_,rfl,?_⟩
   refine ite2 (fun hd=> ?_) (fun hd=> ?_)
   · have hb:ns.getD 0 0%2=1:=by
      have:=of_decide_eq_true hd;rw [←show y=ns.getD 0 0 from ey];exact V.int.inj this
     refine ⟨_,rfl,_,rfl,_,rfl,a,_,rfl, .inl hS,kk,_,rfl,rfl,⟨by rw [yM];omega,by rw [yM];omega⟩,20,_,rfl,rfl, .inl ⟨by decide,by decide⟩,_,1,rfl,rfl,z,_,rfl,rfl,?_,_,1048576,rfl,rfl,(by show (0:Int) < 1048576;decide),_,rfl,_,m,rfl,rfl,m0,?_⟩
     · have:=Int.ediv_nonneg k0 (b:=((ns.map V.int).length:Int)) (by omega)
       omega
     · exact k _ (Int.emod_nonneg _ (by omega)) (Int.emod_lt_of_pos _ m0) (by subst ez;unfold sR;rw [if_neg z0,if_pos hb,yM])
   · have hb:¬ns.getD 0 0%2=1:=by
      rw [←show y=ns.getD 0 0 from ey];exact fun q=>hd (decide_eq_true (congrArg V.int q))
     refine ⟨_,rfl,z,1000003,rfl,rfl,(by show (0:Int) < 1000003;decide),_,rfl,31,kk,rfl,rfl, .inl ⟨by decide,by decide⟩,_,rfl,_,kk,rfl,rfl,⟨gN (by omega) (by omega),gN k0 (by omega)⟩,_,_,rfl,rfl,_,_,rfl,rfl,?_⟩
     refine ⟨_,rfl,_,48271,rfl,rfl, .inr ⟨by decide,by decide⟩,_,999983,rfl,rfl,(by show (0:Int) < 999983;decide),_,7919,rfl,rfl, .inr ⟨by decide,by decide⟩,_,524287,rfl,rfl,(by show (0:Int) < 524287;decide),_,rfl,_,m,rfl,rfl,m0,?_⟩
     exact k _ (Int.emod_nonneg _ (by omega)) (Int.emod_lt_of_pos _ m0) (by subst ez;unfold sR;rw [if_neg z0,if_neg hb];rfl)
open PySem L2 Mth Tre Wd Su
def qh:Sp:=fun vs H Q _=>∃(l:Addr) (ws:List V) (ps:List Pq) (c e:Nat),vs= [.ref l]∧H l=some (.lst ws)∧TrsAt H ws (ps.map prT)∧ps.length < 64∧(∀t,cnt t ps≤c)∧c*(e+1)≤8000∧e≤8000∧(∀p∈ps,Gq e p)∧
 ∀(v:V) (H':Hp) (us:List Pq),Same H H'→TrAt H' v (.tup (us.map prT))→Can ps us→us.length≤ps.length→(∀u∈us,Gq (c*(e+1)) u)→Q v H'
theorem scSum:FnScope ["pairs","totals","term","share"] ["pairs"] (ag sSum):= .of
theorem wB {f fP Z:Addr} {fd fdP:FuncData} (F:Fun K "sum_of" "sum_of" sSum f fd) (B:Blt mg) (GP:FnOk P w K mg base CX0 2 fP fdP ["one","other"] (ft K)) (kP:PySem.W.keepIn K (.ref fP)=true) (bP:Binds K fdP ["one","other"] []) (mP:mg "plus"=some (.ref fP))
 (mZ:mg "ZERO"=some (.ref Z)) (hZ:∀H:Hp,SqT K H Z [.int 0, .int 1]):FnOk P w K mg base CX0 3 f fd ["pairs"] qh:=by
 refine F.okb scSum fun vs H Q E h=> ?_;refine hZq fun q_ e_=> ?_;obtain ⟨l,ws,ps,c,e,rfl,hl,hT,n64,hc,hne,e8,hty,k⟩:=h;subst e_;refine ⟨rfl,fun cdv A outer s hr=> ?_⟩;have hun:=hr.units;have hu1:=nK hr
 refine ⟨_,ae (psA 1 scSum.nd (bO a9))
  (ae (cg PassesOwn.never rfl (aO (aB (gc (z6 (A0 (by decide) _) hun)) rfl B.so PyProof.Rows.boot_sorted (a0 (pv 0) a9))) (aW rfl (ak (pgA 2 scSum.nd) (ak (pgA 3 scSum.nd) aL)))
   (ah (cf (PW.pt (jj (jR (pv 1) (by intro _;rfl)) (gx (aF (wn (z6 (A0 (by decide) _) hun)) (ao aA (ao aw (pv 1) (c9 bq ac) fun _ _=>rfl) ac fun _ _=>rfl) (pv 2) (aE _)))))
    (ah (dQ (aU (a0 (pv 2) (a0 (ai GP hr rfl mP kP bP .nil ar (a0 (ao aA (ao aw (pv 1) (c9 bq ac) fun _ _=>rfl) ac fun _ _=>rfl) (a0 (pv 3) a9))) a9))) (fz (pv 1) (c9 bq ac) df)))
    (ah (bu (cS PySem.F.plainAttrs_list PySem.F.slot_list_append PySem.F.type_list_append bf (pv 1) (a0 (aU (a0 (pv 2) (a0 (pv 3) a9))) a9)))))))
  (ah (ax (bV cY rfl B.tu PyProof.Rows.boot_tuple (a0
   (aQ (NC:= ["total"]) (mp:= [none]) rfl (aO (pv 1)) (fun _ _ _ _ _=>pgA 0 (by simp)) (fun _ _ _ _ _=>cK (aF (r:=rNeP K) (rK hu1) (ao (r:=rIxT K) aA (pv 0) ac fun _ _=>rfl) (gy (v:= .ref Z) rfl mZ rfl) (aE _))) (fun _ _ _ _ _=>pv 0)) a9))))),?_⟩
 have hL:(20000:Nat)≤sizeLine:=by decide +kernel
 refine ⟨by show 0≤sizeLine;decide,fun D nD=> ?_⟩
 have s1:Same H (upd H D (.lst [])):=aa nD
 have tyT:∀t∈ps.map prT,Ty .pr t∧t.depth≤8:=fun t m=>by
  obtain ⟨p,mp,rfl⟩:=zo.mp m;exact (hty p mp).pr
 refine ⟨_,rfl,l,ws,_,rfl,s1 _ _ hl,hT.mono (Kd.of_same s1),by rw [yM];omega,fun t m=>⟨uV (.inr (tyT t m).1),eX (tyT t m).1,by have:=(tyT t m).2;omega⟩,fun t m u mu=>p9 30 (by have:=(tyT t m).2;omega) (tyT t m).1 (tyT u mu).1,fun S ws' us nS pm hT' srt=> ?_⟩
 obtain ⟨qs,rfl,pq⟩:=i3 pm rfl;have s2:=aa (o:= .lst ws') nS;have nS0:=s1.free nS;have nDS:D≠S:=fun z=>by rw [←z,a8] at nS;cases nS
 have ul:qs.length=ps.length:=pq.length_eq;have wl:=hT'.len;rw [yM] at wl;have hty':∀t∈qs,Gq e t:=fun t m=>hty t (pq.mem_iff.mp m)
 have ord:∀(i:Nat) (u:Pq),qs[i]?=some u→∀d∈qs.take i,ltT u.1 d.1=false:=by
  intro i u eu d md;obtain ⟨j,hj,ej⟩:=zS md;rw [zh] at hj
  have ej':qs[j]?=some d:=by
   rw [List.getElem_take] at ej;rw [←ej];exact yN _
  exact ny (srt j i _ _ (by omega) (by rw [yQ,ej'];rfl) (by rw [yQ,eu];rfl))
 refine ⟨S,rfl,⟨ws',SqL.of a8⟩,?_⟩
 refine e5 (xs:=ws') (fun i σ H'=>Same H H'∧H' S=some (.lst ws')∧TrsAt H' ws' (qs.map prT)∧∃(rs:List V) (trs:List Pq) (v2 v3:Option V),σ= [some (.ref l),some (.ref D),v2,v3]∧H' D=some (.lst rs)∧TrsAt H' rs (trs.map prT)∧Run (qs.take i) trs∧(∀t∈trs,Gq (cnt t.1 (qs.take i)*(e+1)) t)∧trs.length≤i)
  ⟨s1.trans s2,a8,hT'.mono (Kd.of_same s2),[],[],none,none,rfl,s2 _ _ a8, .nil,by rw [zG];exact Run.nil,(fun t m=>by cases m),yP _⟩ (fun i σ H' _ p=>SqL.of p.2.1) ?_ ?_
 · rintro i x σ H' ex ⟨sH,hS,hTS,rs,trs,v2,v3,rfl,hD,hR,hRun,hRt,hRl⟩;obtain ⟨u,eu,hu⟩:=hTS.get' ex;rw [yQ] at eu;refine hZq fun q_ e_=> ?_;obtain ⟨⟨tm,fr⟩,eq,rfl⟩:=yS.mp eu;subst e_;have mu:=yT eq;have ilt:i < qs.length:=(yW.mp eq).1;have gu:=hty' _ mu;refine hZq fun q_ e_=> ?_;obtain ⟨r,xt,xf,rfl,hr',hxt,hxf⟩:=bX hu;subst e_;obtain ⟨rf,rfl,hrf⟩:=e9 hxf;have rl:=hR.len;rw [yM] at rl;have etk:=av eq;have up:∀u,cnt u (qs.take i)≤cnt u (qs.take (i+1)):=fun u=>by rw [etk,gH];omega
   have ei:cnt tm (qs.take (i+1))*(e+1)=cnt tm (qs.take i)*(e+1)+e+1:=by rw [etk,gH,uM tm (tm,fr) rfl,Nat.succ_mul];omega
   have cle:∀u,cnt u (qs.take i)≤c:=fun u=>by
    have h1:=hc u;rw [←kG pq,←List.take_append_drop i qs,gH] at h1;omega
   have ile:∀u,cnt u (qs.take i)*(e+1)≤8000:=fun u=>yY (zy _ (cle u)) hne;refine ⟨r,_,rfl,SqT.of hr',rfl,_,_,rfl,_,_,rfl,rfl,?_⟩
   have app:(∀p∈trs,ltT p.1 tm=true)→∀p,H' p=none→Same H (upd (upd H' p (.tup [xt, .ref rf])) D (.lst (rs++ [.ref p])))∧(upd (upd H' p (.tup [xt, .ref rf])) D (.lst (rs++ [.ref p]))) S=some (.lst ws')∧TrsAt (upd (upd H' p (.tup [xt, .ref rf])) D (.lst (rs++ [.ref p]))) ws' (qs.map prT)∧
    ∃(rs':List V) (trs':List Pq) (v2' v3':Option V),[some (V.ref l),some (.ref D),some xt,some (.ref rf)]= [some (.ref l),some (.ref D),v2',v3']∧(upd (upd H' p (.tup [xt, .ref rf])) D (.lst (rs++ [.ref p]))) D=some (.lst rs')∧TrsAt (upd (upd H' p (.tup [xt, .ref rf])) D (.lst (rs++ [.ref p]))) rs' (trs'.map prT)∧Run (qs.take (i+1)) trs'∧(∀t∈trs',Gq (cnt t.1 (qs.take (i+1))*(e+1)) t)∧trs'.length≤i+1:=by
    intro hlt p np;have sp:Same H' (upd H' p (.tup [xt, .ref rf])):=aa np;have hDp:=sp _ _ hD;have kd:=(Kd.of_same sp).trans (Kd.upd (ys:=rs++ [.ref p]) hDp)
    have hp':(upd (upd H' p (.tup [xt, .ref rf])) D (.lst (rs++ [.ref p]))) p=some (.tup [xt, .ref rf]):=by
     rw [af (fun z=>by rw [z,hD] at np;cases np)]
     exact a8
    refine ⟨aq nD (sH.trans sp),(af nDS.symm).trans (sp _ _ hS),hTS.mono kd,_,trs++ [(tm,fr)],_,_,rfl,a8,?_,?_,fun t m=> ?_,by rw [z7];simp only [za,List.length_nil];omega⟩
    · rw [z4];exact TrsAt.app (.cons (c6 hp' (hxt.mono kd) (hxf.mono kd)) .nil) (hR.mono kd)
    · rw [etk];exact hRun.app hlt gu.sh
    · rcases ze.mp m with m|m
      · exact (hRt t m).mono (zy _ (up _))
      · rw [z5.mp m];exact gu.mono (by show e≤cnt tm (qs.take (i+1))*(e+1);rw [ei];omega)
   refine ⟨_,rfl,!rs.isEmpty, .inl ⟨rs,SqL.of hD,rfl⟩,?_⟩;by_cases z:rs= []
   · have zt:trs= []:=List.length_eq_zero_iff.mp (by rw [←rl,z];rfl)
     rw [z];refine iteF ?_;refine iteF ?_;rw [←z];refine ⟨_,rfl, .inl ⟨rfl,_,SqL.of hD⟩,_,rfl,_,rfl,two,fun p np=> ?_⟩;refine ⟨D,rs,_,rfl,rfl,aa np _ _ hD,by omega,?_⟩
     exact app (fun p m=>by rw [zt] at m;cases m) p np
   · have z':rs.isEmpty=false:=by simpa using z
     rw [z'];refine iteT ?_;have pos:0 < rs.length:=List.length_pos_iff.mpr z;have zt:trs≠ []:=fun q=>by rw [q] at rl;simp at rl;exact z rl
     obtain ⟨tr0,⟨tm',fr'⟩,rfl⟩:∃l a,trs=l++ [a]:=⟨trs.dropLast,trs.getLast zt,(List.dropLast_concat_getLast zt).symm⟩;have rl':rs.length - 1=tr0.length:=by rw [z7,List.length_singleton] at rl;omega
     obtain ⟨y,ey,hy⟩:=hR.get (i:=rs.length - 1) (t:=prT (tm',fr')) (by rw [yQ,rl',A4 (yP _),Nat.sub_self];rfl)
     have gl:=hRt (tm',fr') (yX _ yO);refine hZq fun q_ e_=> ?_;obtain ⟨ry,yt,yf,rfl,hry,hyt,hyf⟩:=bX hy;subst e_;obtain ⟨ryf,rfl,hryf⟩:=e9 hyf;obtain ⟨l1,e1⟩:=fo gu.ty;obtain ⟨l2,e2⟩:=fo gl.ty;have pu:=eX gl.ty;have dd2:=gl.dep;dsimp only at e1 e2 pu dd2 hxt hyt;rw [e2] at pu dd2;unfold Tr.pure at pu;unfold Tr.depth at dd2;have eat:=uz pos ey;refine ⟨_,rfl,_,rfl,D,rs,-1,_,rfl,rfl,SqL.of hD,eat,ry,_,0,yt,rfl,rfl,SqT.of hry,rfl,_,rfl,l2,l1,by rw [←e2];exact hyt,by rw [←e1];exact hxt, .inl pu,by omega,_,rfl,?_⟩
     cases q:eqTs l2 l1 with
     |true=>
      have em:tm'=tm:=uW gl.ty gu.ty (by rw [e1,e2];unfold eqT;exact q)
      refine iteT ?_;refine ⟨_,rfl,_,rfl,_,rfl,D,rs,-1,_,rfl,rfl,SqL.of hD,eat,ry,_,1, .ref ryf,rfl,rfl,SqT.of hry,rfl,_,rfl,ryf,rf,_,_,_,_,rfl,SqT.of hryf,SqT.of hrf,⟨gl.gf.pos,gu.gf.pos,gl.gf.top.big (ile _),gl.gf.bot.big (ile _),gu.gf.top.big e8,gu.gf.bot.big e8⟩,fun rp H2 nrp sp2 hrp=> ?_⟩;refine ⟨two,fun p np=> ?_⟩;have sp3:Same H' (upd H2 p (.tup [xt, .ref rp])):=sp2.trans (aa np);have hD3:=sp3 _ _ hD;refine ⟨_,rfl,_,rfl,D,rs,-1,rs.length - 1,rfl,rfl,hD3,uy pos,?_⟩;have kd:=(Kd.of_same sp3).trans (Kd.upd (ys:=rs.set (rs.length - 1) (.ref p)) hD3);have nDp:p≠D:=fun z=>by rw [z,sp2 _ _ hD] at np;cases np
      have hp':(upd (upd H2 p (.tup [xt, .ref rp])) D (.lst (rs.set (rs.length - 1) (.ref p)))) p=some (.tup [xt, .ref rp]):=by
       rw [af nDp];exact a8
      have hrp':(upd (upd H2 p (.tup [xt, .ref rp])) D (.lst (rs.set (rs.length - 1) (.ref p)))) rp=some (.tup [.int (dR fr' fr).1, .int (dR fr' fr).2]):=by
       rw [af (fun z=>by rw [z,sp2 _ _ hD] at hrp;cases hrp)]
       exact aa np _ _ hrp
      refine ⟨aq nD (sH.trans sp3),(af nDS.symm).trans (sp3 _ _ hS),hTS.mono kd,_,tr0++ [(tm,dR fr' fr)],_,_,rfl,a8,?_,?_,fun t m=> ?_,?_⟩
      · have:=TrsAt.set (i:=rs.length - 1) (c6 (b:=frT (dR fr' fr)) hp' (hxt.mono kd) (dy hrp')) (hR.mono kd);rw [rl',z4,zc,List.map_nil,List.set_append_right _ _ (by rw [yM];exact yP _),yM,Nat.sub_self] at this
        rw [rl',z4];exact this
      · rw [etk];subst em;exact hRun.add gu.sh
      · rcases ze.mp m with m|m
        · exact (hRt t (zw _ m)).mono (zy _ (up _))
        · rw [z5.mp m];subst em;exact ⟨gu.ty,gu.dep,by show Gf (cnt tm' (qs.take (i+1))*(e+1)) _;rw [ei];exact gl.gf.plus gu.gf,gw gl.sh gu.sh⟩
      · rw [z7,List.length_singleton] at hRl ⊢;omega
     |false=>
      have lt1:ltT tm' tm=true:=by
       obtain ⟨d,md,ed⟩:=hRun.key (tm',fr') (yX _ yO);have:=ord i _ eq d md;rw [ed] at this;exact vj this (by rw [e1,e2];unfold eqT;exact q)
      refine iteF ?_;refine ⟨_,rfl, .inl ⟨rfl,_,SqL.of hD⟩,_,rfl,_,rfl,two,fun p np=> ?_⟩;refine ⟨D,rs,_,rfl,rfl,aa np _ _ hD,by omega,?_⟩
      refine app (fun p m=> ?_) p np;rcases ze.mp m with m|m
      · exact oJ ((List.pairwise_append.mp hRun.asc).2.2 p m (tm',fr') yO) lt1
      · rw [z5.mp m];exact lt1
 · rintro σ H' ⟨sH,hS,hTS,rs,trs,v2,v3,rfl,hD,hR,hRun,hRt,hRl⟩;have rl:=hR.len;rw [yM] at rl;rw [wl] at hRt;rw [wl,ul] at hRl;rw [wl,zg] at hRun;rw [zg] at hRt;dsimp only;refine j0 ?_;refine ck rfl ?_;refine ⟨_,rfl,D,rfl,⟨rs,SqL.of hD⟩,fun D2 nD2=> ?_⟩;have nDD:D≠D2:=aD hD nD2;refine cq (xs:=rs) (fun i acc H''=>Same H' H''∧H'' D2=some (.lst acc)∧TrsAt H'' acc (((trs.take i).filter fun p=>decide (p.2≠zero)).map prT)) ⟨aa nD2,a8,by rw [zG];exact .nil⟩ (fun i acc H'' p=>SqL.of (p.1 _ _ hD)) ?_ ?_
   · rintro i x acc H'' hi ex ⟨sH2,hD2,hA⟩;obtain ⟨t,et,ht⟩:=(hR.mono (Kd.of_same sH2)).get' ex;rw [yQ] at et;refine hZq fun q_ e_=> ?_;obtain ⟨⟨tm,fr⟩,eq,rfl⟩:=yS.mp et;subst e_;refine hZq fun q_ e_=> ?_;obtain ⟨r,xt,xf,rfl,hr',hxt,hxf⟩:=bX ht;subst e_;obtain ⟨rf,rfl,hrf⟩:=e9 hxf;have al:=hA.len;rw [yM] at al;have al2:=zp (fun p:Pq=>decide (p.2≠zero)) (trs.take i);rw [zh] at al2;refine ⟨_,rfl,r,_,1, .ref rf,rfl,rfl,SqT.of hr',rfl,rf,Z,fr.1,fr.2,0,1,rfl,rfl,SqT.of hrf,hZ _,_,rfl,?_⟩;rw [uJ]
     have ef:(trs.take (i+1)).filter (fun p=>decide (p.2≠zero))=(trs.take i).filter (fun p=>decide (p.2≠zero))++(if decide (fr≠zero)=true then [(tm,fr)] else []):=by
      rw [av eq,zF,List.filter_cons];rfl
     refine ite2 (fun y=> ?_) (fun y=>CompS.mk hi ⟨sH2,hD2,?_⟩)
     · have kd:=Kd.upd (ys:=acc++ [.ref r]) hD2;refine ⟨_,rfl,CompN.mk hi (by omega) hD2 ⟨aq nD2 sH2,a8,?_⟩⟩
       rw [ef,if_pos y,z4];exact TrsAt.app (.cons (ht.mono kd) .nil) (hA.mono kd)
     · rw [ef,if_neg y,List.append_nil];exact hA
   · rintro acc H'' ⟨sH2,hD2,hA⟩;rw [rl,zg] at hA;refine ⟨D2,acc,rfl, .inl ⟨SqL.of hD2,fun p np=> ?_⟩⟩;have sp:=aa (o:= .tup acc) np;refine k (.ref p) _ _ (sH.trans (sH2.trans sp)) (fR a8 (hA.mono (Kd.of_same sp))) (hRun.fin.to fun t=>pz pq) ?_ fun u m=> ?_
     · exact yY (zp _ _) hRl
     · exact (hRt u (zK.mp m).1).mono (zy _ (by rw [kG pq];exact hc _))
def lx (K:PySem.W.Frag):Sp:=fun vs H Q _=>∃(p:Addr) (a b:Int),vs= [.ref p]∧SqT K H p [.int a, .int b]∧Q (.int (if a < 0 then -1 else if 0 < a then 1 else 0)) H
theorem scSi:FnScope ["one"] ["one"] (ag qJ):= .of
theorem uj {f:Addr} {fd:FuncData} (F:Fun K "sign_of" "sign_of" qJ f fd):FnOk P w K mg base CX0 1 f fd ["one"] (lx K):=by
 refine F.okb scSi fun vs H Q E h=> ?_;obtain ⟨p,a,b,rfl,hp,k⟩:=h;refine ⟨rfl,fun cdv A outer s hr=> ?_⟩
 refine ⟨_,ae (cf (aF iF (ao aA (pv 0) ac fun _ _=>rfl) ac (aE _)) (ah (ax (c9 bq ac))) bg)
  (ah (ax (dh (aF eK (ao aA (pv 0) ac fun _ _=>rfl) ac (aE _)) ac ac))),?_⟩
 refine ⟨_,rfl,p,_,0, .int a,rfl,rfl,hp,rfl,a,0,rfl,rfl,_,rfl,?_⟩;by_cases z:a < 0
 · rw [if_pos z] at k;rw [decide_eq_true z];exact iteT ⟨1,rfl,k⟩
 · rw [if_neg z] at k;rw [decide_eq_false z];refine iteF ?_;refine ⟨_,rfl,p,_,0, .int a,rfl,rfl,hp,rfl,a,0,rfl,rfl,_,rfl,?_⟩;by_cases y:0 < a
   · rw [if_pos y] at k;rw [decide_eq_true y];exact iteT k
   · rw [if_neg y] at k;rw [decide_eq_false y];exact iteF k
theorem Same.tup {K:PySem.W.Frag} {H H':Hp} {a:Addr} {xs:List V} (e:Same H H') (h:SqT K H a xs):SqT K H' a xs:=by
 rcases h with (h|⟨o,h⟩)|h
 · exact .inl (.inl (e _ _ h))
 · exact .inl (.inr ⟨o,e _ _ h⟩)
 · exact .inr h
theorem Gf.one {e:Nat} (h:1≤e):Gf e zero:=⟨by decide,zd (show (0:Nat) < 2^1 by decide) (zN (by decide) h),zd (show (1:Nat) < 2^1 by decide) (zN (by decide) h)⟩
theorem vz {H:Hp} {v:V} {b:Bd} (h:TrAt H v (bdT b)):∃p x r,v= .ref p∧H p=some (.tup [x, .ref r, .bl b.st])∧TrAt H x (.tup (b.us.map prT))∧H r=some (.tup [.int b.m.1, .int b.m.2]):=by
 unfold bdT TrAt at h;obtain ⟨p,vs,rfl,hp,h⟩:=h;obtain ⟨x,r1,rfl,h1,h⟩:=h.inv;obtain ⟨y,r2,rfl,h2,h⟩:=h.inv;obtain ⟨z,r3,rfl,h3,h⟩:=h.inv;unfold TrsAt at h;unfold TrAt at h3;subst h h3;obtain ⟨r,rfl,hr⟩:=e9 h2;exact ⟨p,x,r,rfl,hp,h1,hr⟩
theorem oZ {H:Hp} {v:V} {k:Wt} (h:TrAt H v (wtT k)):∃p r,v= .ref p∧H p=some (.tup [.int (k.1:Int), .ref r])∧H r=some (.tup [.int k.2.1, .int k.2.2]):=by
 unfold wtT at h;obtain ⟨p,x,y,rfl,hp,h1,h2⟩:=bX h;obtain ⟨r,rfl,hr⟩:=e9 h2;unfold TrAt at h1;subst h1;exact ⟨p,r,rfl,hp,hr⟩
theorem lY {H:Hp} {bvs:List V} {bs:List Bd} (h:TrsAt H bvs (bs.map bdT)) {i:Nat} (hi:i < bs.length):∃p x r,atI bvs (i:Int)=some (.ref p)∧H p=some (.tup [x, .ref r, .bl (bdAt bs i).st])∧TrAt H x (.tup ((bdAt bs i).us.map prT))∧H r=some (.tup [.int (bdAt bs i).m.1, .int (bdAt bs i).m.2]):=by
 obtain ⟨v,ev,hv⟩:=h.get (i:=i) (t:=bdT (bdAt bs i)) (by rw [yQ,kY hi];rfl)
 obtain ⟨p,x,r,rfl,h1,h2,h3⟩:=vz hv;exact ⟨p,x,r,aJ ev,h1,h2,h3⟩
structure Ad (H:Hp) (lb lw:Addr) (bvs wvs:List V) (T:List Tr) (bs:List Bd) (ks:List Wt) (e m:Nat):Prop where
 hb:H lb=some (.lst bvs)
 tb:TrsAt H bvs (bs.map bdT)
 hw:H lw=some (.lst wvs)
 tw:TrsAt H wvs (ks.map wtT)
 gb:∀b∈bs,Gb T e b
 tl:T.length≤5
 kl:ks.length≤8
 kb:∀k∈ks,k.1 < bs.length
 kg:∀k∈ks,Sh k.2∧Gf m k.2
 h8:1+8*(e+m+1)≤8000
theorem Ad.same {H H':Hp} {lb lw:Addr} {bvs wvs:List V} {T:List Tr} {bs:List Bd} {ks:List Wt} {e m:Nat} (s:Same H H') (h:Ad H lb lw bvs wvs T bs ks e m):Ad H' lb lw bvs wvs T bs ks e m:=
 ⟨s _ _ h.hb,h.tb.mono (Kd.of_same s),s _ _ h.hw,h.tw.mono (Kd.of_same s),h.gb,h.tl,h.kl,h.kb,h.kg,h.h8⟩
def jb (K:PySem.W.Frag):Sp:=fun vs H Q _=>∃(lb lw:Addr) (bvs wvs:List V) (T:List Tr) (bs:List Bd) (ks:List Wt) (e m:Nat),vs= [.ref lb, .ref lw]∧Ad H lb lw bvs wvs T bs ks e m∧
 ∀(p r:Addr) (x0:V) (us:List Pq) (tt:Fr) (H':Hp),Same H H'→H' p=some (.tup [x0, .ref r])→TrAt H' x0 (.tup (us.map prT))→SqT K H' r [.int tt.1, .int tt.2]→Can (bQ bs ks) us→(∀u∈us,Gq (8*(e+m+1)) u)→Sh tt→rv tt=totR bs ks→Q (.ref p) H'
theorem scAd:FnScope ["bounds","weights","pairs","total","place","weight"] ["bounds","weights"] (ag lH):= .of
theorem rR {f fS fT fP Z:Addr} {fd dS dT dP:FuncData} (F:Fun K "added" "added" lH f fd)
 (gS:FnOk P w K mg base CX0 3 fS dS ["pairs"] qh) (kS:PySem.W.keepIn K (.ref fS)=true) (bS:Binds K dS ["pairs"] []) (mS:mg "sum_of"=some (.ref fS))
 (gT:FnOk P w K mg base CX0 2 fT dT ["one","other"] (gj K)) (kT:PySem.W.keepIn K (.ref fT)=true) (bT:Binds K dT ["one","other"] []) (mT:mg "times"=some (.ref fT))
 (gP:FnOk P w K mg base CX0 2 fP dP ["one","other"] (ft K)) (kP:PySem.W.keepIn K (.ref fP)=true) (bP:Binds K dP ["one","other"] []) (mP:mg "plus"=some (.ref fP))
 (mZ:mg "ZERO"=some (.ref Z)) (hZ:∀H:Hp,SqT K H Z [.int 0, .int 1]):FnOk P w K mg base CX0 4 f fd ["bounds","weights"] (jb K):=by
 refine F.okb scAd fun vs H Q E h=> ?_;refine hZq fun q_ e_=> ?_;obtain ⟨lb,lw,bvs,wvs,T,bs,ks,e,m,rfl,ad,k⟩:=h;subst e_;refine ⟨rfl,fun cdv A outer s hr=> ?_⟩;have hr2:Room 2 _:=hr.mono (by decide)
 refine ⟨_,ae (psA 2 scAd.nd (bO a9))
  (ae (psA 3 scAd.nd (gy (v:= .ref Z) rfl mZ rfl))
  (ae (cg PassesOwn.never rfl (aO (pv 1)) (aW rfl (ak (pgA 4 scAd.nd) (ak (eC (i:=5) scAd.nd rfl (Or.inr rfl) (Or.inl rfl)) aL)))
   (ae (bu (cS PySem.F.plainAttrs_list PySem.F.slot_list_extend PySem.F.type_list_extend oG (pv 2) (a0
    (aQ (NC:= ["term","share","weight"]) (mp:= [none,none,some 5]) (g:=gTup K 2 (aV (aG 0) (aV (aG 1) gNil))) rfl (eP (ao aA (ao aw (pv 0) (pv 4) fun _ _=>rfl) ac fun _ _=>rfl))
     (fun _ _ _ _ _=>aW (n:=2) rfl (ak (eC (i:=0) (show (["term","share","weight"]:List Str).Nodup by decide +kernel) rfl (Or.inl rfl) (Or.inr rfl)) (ak (eC (i:=1) (show (["term","share","weight"]:List Str).Nodup by decide +kernel) rfl (Or.inl rfl) (Or.inr rfl)) aL))) (fun _ _ _ _ _=>aN)
     (fun _ _ _ _ _=>aU (a0 (pv 0) (a0 (ai gT hr2 rfl mT kT bT .nil ar (a0 (pv 1) (a0 (pv 2) a9))) a9)))) a9)))
   (ah (psA 3 scAd.nd (ai gP hr2 rfl mP kP bP .nil ar (a0 (pv 3) (a0 (ai gT hr2 rfl mT kT bT .nil ar (a0 (ao aA (ao aw (pv 0) (pv 4) fun _ _=>rfl) ac fun _ _=>rfl) (a0 (pv 5) a9))) a9))))))
  ) (ah (ax (aU (a0 (ai gS (hr.mono (by decide)) rfl mS kS bS .nil ar (a0 (pv 2) a9)) (a0 (pv 3) a9))))))),?_⟩
 have hL20:(20000:Nat)≤sizeLine:=by decide +kernel
 have h8:=ad.h8;have kl:=ad.kl;have wl:=ad.tw.len;rw [yM] at wl;refine ⟨by show 0≤sizeLine;decide,fun D nD=> ?_⟩
 have s1:Same H (upd H D (.lst [])):=aa nD;refine ⟨_,rfl,lw,rfl,⟨_,SqL.of (s1 _ _ ad.hw)⟩,?_⟩
 refine e5 (xs:=wvs) (fun i σ H'=>Same H H'∧∃(acc:List V) (r:Addr) (tt:Fr) (v4 v5:Option V),σ= [some (.ref lb),some (.ref lw),some (.ref D),some (.ref r),v4,v5]∧H' D=some (.lst acc)∧TrsAt H' acc ((bQ bs (ks.take i)).map prT)∧SqT K H' r [.int tt.1, .int tt.2]∧Sh tt∧rv tt=totR bs (ks.take i)∧Gf (1+i*(e+m+1)) tt)
  ⟨s1,[],Z,zero,none,none,rfl,a8,by rw [zG];exact .nil,hZ _,gp,by rw [zG,rv_zero];rfl,Gf.one (by omega)⟩ (fun i σ H' _ p=>SqL.of (p.1 _ _ ad.hw)) ?_ ?_
 · rintro i x σ H1 ex ⟨sH,acc,r,tt,v4,v5,rfl,hD,hA,hr',shT,eT,gT'⟩;have ad1:=ad.same sH;obtain ⟨t,et,ht⟩:=ad1.tw.get' ex;rw [yQ] at et;obtain ⟨kk,ek,rfl⟩:=yS.mp et;have mk:=yT ek;have ilt:i < ks.length:=(yW.mp ek).1;refine hZq fun q_ e_=> ?_;obtain ⟨pw,rw',rfl,hpw,hrw⟩:=oZ ht;subst e_;obtain ⟨shK,gK⟩:=ad.kg kk mk;refine hZq fun q_ e_=> ?_;obtain ⟨pb,xu,rm,eb,hpb,hxu,hrm⟩:=lY ad1.tb (ad.kb kk mk);subst e_;have gB:=ad.gb _ (dm (ad.kb kk mk));refine hZq fun q_ e_=> ?_;obtain ⟨au,xs,rfl,hau,hxs⟩:=at_t hxu;subst e_;have xl:=hxs.len;rw [yM] at xl;have etk:=av ek;have ul:=dz gB.asc gB.mem;have tl:=ad.tl;have al:=hA.len;rw [yM] at al;have fl:=Su.flat_len ad.gb (ks:=ks.take i) fun x m=>ad.kb x (zY m);rw [zh] at fl;have fl2:(min i ks.length)*T.length≤8*5:=zX (by omega) tl
   refine ⟨pw,_,rfl,SqT.of hpw,rfl,_,_,rfl,_,_,rfl,rfl,?_⟩;refine ⟨_,rfl, .inl ⟨rfl,_,SqL.of hD⟩,?_⟩;refine pH ?_;refine kB (K':=K) (xs:=xs) (rest:= [some (.ref rw')]) (a:=au) rfl (fun Q q=>⟨_,rfl,_,rfl,lb,bvs,_,_,rfl,rfl,SqL.of ad1.hb,eb,pb,_,0,_,rfl,rfl,SqT.of hpb,rfl,q⟩) (SqT.of hau) fun L nL=> ?_;refine ⟨fun j acc' H'=>Same H1 H'∧H' L=some (.lst acc')∧TrsAt H' acc' ((((bdAt bs kk.1).us.take j).map (scale kk.2)).map prT),⟨aa nL,a8,by rw [zG];exact .nil⟩,fun j acc' H' p=>SqT.of (p.1 _ _ hau),?_,?_⟩
   · rintro j z acc' H' hj ⟨s2,hL,hA2⟩ ez;obtain ⟨t',et',ht'⟩:=(hxs.mono (Kd.of_same s2)).get' ez;rw [yQ] at et';refine hZq fun q_ e_=> ?_;obtain ⟨⟨tm,fr⟩,eq,rfl⟩:=yS.mp et';subst e_;have g:=gB.gq _ (yT eq);refine hZq fun q_ e_=> ?_;obtain ⟨T',x,y,rfl,hT',hx,hy⟩:=bX ht';subst e_;obtain ⟨rf,rfl,hrf⟩:=e9 hy;have al2:=hA2.len;rw [yM,yM,zh] at al2;refine ⟨T',x, .ref rf,rfl,SqT.of hT',?_⟩;refine ⟨_,rfl,_,rfl,_,rfl,rf,rw',fr.1,fr.2,kk.2.1,kk.2.2,rfl,SqT.of hrf,SqT.of (s2 _ _ hrw),⟨g.gf.pos,gK.pos,g.gf.top.big (by omega),g.gf.bot.big (by omega),gK.top.big (by omega),gK.bot.big (by omega)⟩,fun rm' H6 _ s6 hrm'=> ?_⟩
     refine ⟨two,fun p np=> ?_⟩;have sp:=aa (o:= .tup [x, .ref rm']) np;have s7:=s6.trans sp;have hL7:=s7 _ _ hL;have kd:=(Kd.of_same s7).trans (Kd.upd (ys:=acc'++ [.ref p]) hL7);have nLp:p≠L:=fun z=>by rw [z,s6 _ _ hL] at np;cases np
     have nLr:rm'≠L:=fun z=>by rw [z,s6 _ _ hL] at hrm';cases hrm'
     refine CompN.mk hj (by omega) hL7 ⟨aq nL (s2.trans s7),a8,?_⟩
     rw [av eq,z4,z4];refine TrsAt.app (.cons ?_ .nil) (hA2.mono kd);exact c6 (a:=tm) (b:=frT (cC fr kk.2)) ((af nLp).trans a8) (hx.mono kd) (dy ((af nLr).trans (sp _ _ hrm')))
   · rintro acc' H2 ⟨s2,hL,hA2⟩;rw [xl,zg] at hA2;have hD2:=s2 _ _ hD;have al2:=hA2.len;rw [yM,yM] at al2;refine ⟨D,L,acc,acc',rfl,rfl,hD2,hL,by omega,?_⟩
     have kd:=Kd.upd (ys:=acc++acc') hD2;have hD3:(upd H2 D (.lst (acc++acc'))) D=some (.lst (acc++acc')):=a8;have sH3:Same H (upd H2 D (.lst (acc++acc'))):=aq nD (sH.trans s2)
     have hA3:TrsAt (upd H2 D (.lst (acc++acc'))) (acc++acc') ((bQ bs (ks.take (i+1))).map prT):=by
      rw [etk,oU,oT,z4];exact TrsAt.app (hA2.mono kd) ((hA.mono (Kd.of_same s2)).mono kd)
     have nDr:∀ {q:Addr} {vs:List V},H1 q=some (.tup vs)→(upd H2 D (.lst (acc++acc'))) q=some (.tup vs):=fun {q vs} e=>by
      rw [af (fun z=>by rw [z,hD] at e;cases e)]
      exact s2 _ _ e
     have hr3:SqT K (upd H2 D (.lst (acc++acc'))) r [.int tt.1, .int tt.2]:=by
      rcases hr' with q|q
      · rcases q with q|⟨o,q⟩
        · exact .inl (.inl (nDr q))
        · refine .inl (.inr ⟨o,?_⟩);rw [af (fun z=>by rw [z,hD] at q;cases q)]
          exact s2 _ _ q
      · exact .inr q
     have hrw3:=nDr hrw;have hpb3:=nDr hpb;have hrm3:=nDr hrm;have hb3:(upd H2 D (.lst (acc++acc'))) lb=some (.lst bvs):=sH3 _ _ ad.hb;generalize upd H2 D (.lst (acc++acc'))=H3 at hD3 sH3 hA3 hr3 hrw3 hpb3 hrm3 hb3 ⊢;refine eN ?_
     try dsimp only
     have bt:1+i*(e+m+1)≤8000:=by
      have:i*(e+m+1)≤8*(e+m+1):=zy _ (by omega)
      omega
     have gmK:=gB.gf.times gK;refine ⟨_,rfl,_,rfl,_,rfl,lb,bvs,_,_,rfl,rfl,SqL.of hb3,eb,pb,_,1,_,rfl,rfl,SqT.of hpb3,rfl,_,rfl,rm,rw',_,_,_,_,rfl,SqT.of hrm3,SqT.of hrw3,⟨gB.gf.pos,gK.pos,gB.gf.top.big (by omega),gB.gf.bot.big (by omega),gK.top.big (by omega),gK.bot.big (by omega)⟩,fun q4 H4 n4 s4 h4=> ?_⟩
     refine ⟨r,q4,tt.1,tt.2,_,_,rfl,Same.tup s4 hr3,SqT.of h4,⟨gT'.pos,gmK.pos,gT'.top.big bt,gT'.bot.big bt,gmK.top.big (by omega),gmK.bot.big (by omega)⟩,fun q5 H5 n5 s5 h5=> ?_⟩
     refine ⟨sH3.trans (s4.trans s5),acc++acc',q5,dR tt (cC (bdAt bs kk.1).m kk.2),_,_,rfl,s5 _ _ (s4 _ _ hD3),hA3.mono (Kd.of_same (s4.trans s5)),SqT.of h5,gw shT (dG gB.sh shK),?_,?_⟩
     · rw [jh shT (dG gB.sh shK),hE gB.sh shK,eT,etk,pC,pB]
     · have ee:1+(i+1)*(e+m+1)=1+i*(e+m+1)+(e+m)+1:=by rw [Nat.succ_mul];omega
       rw [ee];exact gT'.plus gmK
 · rintro σ H1 ⟨sH,acc,r,tt,v4,v5,rfl,hD,hA,hr',shT,eT,gT'⟩;rw [wl,zg] at hA eT;have fl:=Su.flat_len ad.gb ad.kb;have fl2:ks.length*T.length≤8*5:=zX ad.kl ad.tl;have cn:∀t,cnt t (bQ bs ks)≤8:=fun t=>yY (kh ad.gb t ad.kb) ad.kl;refine ⟨_,rfl,D,acc,bQ bs ks,8,e+m,rfl,hD,hA,by omega,cn,by omega,by omega,nR ad.gb ad.kb ad.kg,fun x0 H2 us s2 hx0 hcan _ hg=> ?_⟩
   refine ⟨_,rfl,two,fun p np=> ?_⟩;have sp:=aa (o:= .tup [x0, .ref r]) np;exact k p r x0 us tt _ (sH.trans (s2.trans sp)) a8 (hx0.mono (Kd.of_same sp)) (Same.tup (s2.trans sp) hr') hcan hg shT eT
open PySem L2 Mth Tre Wd Su Tw Fm
structure Gm (T:List Tr) (t:Tr):Prop where
 gt:Gt t
 dep:t.depth≤39
 len:(tmC t).length≤1000
 mem:t∈T
theorem yG {t:Tr} (h:Gt t):Dj.Hs t:=by
 cases h with
 |nm x hx=>exact ⟨_,_,rfl⟩
 |ap f ts _ _ _ _=>exact ⟨_,_,rfl⟩
noncomputable def sumT (ps:List Pq):Tr:= .tup (ps.map prT)
def qe:Sp:=fun vs H Q _=>∃(l:Addr) (xs:List V) (pss:List (List Pq)) (T:List Tr),vs= [.ref l]∧H l=some (.lst xs)∧TrsAt H xs (pss.map sumT)∧(∀ps∈pss,∀p∈ps,Gm T p.1)∧T.length < 64∧
 ∀D ws us H',H D=none→Same H H'→H' D=some (.lst ws)→TrsAt H' ws us→us.Nodup→(∀x,x∈us↔∃ps∈pss,∃p∈ps,p.1=x)→Q (.ref D) H'
theorem scTmo:FnScope ["sums","found","pairs","term","share"] ["sums"] (ag sTmo):= .of
theorem wz {f fS:Addr} {fd fdS:FuncData} (F:Fun K "terms_of" "terms_of" sTmo f fd) (B:Blt mg)
 (GS:FnOk P w K mg base CX0 41 fS fdS ["term"] (spSt 40)) (kS:PySem.W.keepIn K (.ref fS)=true) (bS:Binds K fdS ["term"] []) (mS:mg "shown_term"=some (.ref fS)):
 FnOk P w K mg base CX0 42 f fd ["sums"] qe:=by
 refine F.okb scTmo fun vs H Q E h=> ?_;refine hZq fun q_ e_=> ?_;obtain ⟨l,xs,pss,T,rfl,hl,hT,hg,hT64,k⟩:=h;subst e_;refine ⟨rfl,fun cdv A outer s hr=> ?_⟩;have hu60:(A.deeper (PyProof.Rows.envOfC (Str.ofString "terms_of") (ag sTmo) s.heap.objs.size f cdv)).units+60 < cLine:=by have:=hr.units;omega
 refine ⟨_,ae (psA 1 scTmo.nd rD)
  (ae (cg PassesOwn.never rfl (aO (pv 0)) (pgA 2 scTmo.nd)
   (ah (cg PassesOwn.never rfl (eP (pv 2)) (aW rfl (ak (pgA 3 scTmo.nd) (ak (pgA 4 scTmo.nd) aL)))
    (ah (bu (cS PySem.F.plainAttrs_dict PySem.F.slot_dict_setdefault PySem.F.type_dict_setdefault iy (pv 1) (a0 (ai GS hr rfl mS kS bS .nil ar (a0 (pv 3) a9)) (a0 (pv 3) a9))))))))
  (ah (ax (aB (Dj.call_sortedV rfl hu60) rfl B.so PyProof.Rows.boot_sorted (a0 (wa PySem.F.plainAttrs_dict PySem.F.slot_dict_values PySem.F.type_dict_values oE (pv 1)) a9))))),?_⟩
 have hL20:(20000:Nat)≤sizeLine:=by decide +kernel
 intro d nd;have s1:Same H (upd H d (.dK [])):=aa nd;have ldn:l≠d:=fun q=>by rw [q,nd] at hl;cases hl
 have hd1:(upd H d (.dK [])) d=some (.dK []):=a8;have hlen:=hT.len;rw [yM] at hlen;refine ⟨_,rfl,l,rfl,⟨xs,SqL.of (s1 _ _ hl)⟩,?_⟩
 refine e5 (xs:=xs) (fun i σ H'=>(∃v2 v3 v4,σ= [some (.ref l),some (.ref d),v2,v3,v4])∧But1 d (upd H d (.dK [])) H'∧∃kvs' acc',H' d=some (.dK kvs')∧DictT H' kvs' acc'∧acc'.Nodup∧(∀x,x∈acc'↔∃ps∈pss.take i,∃p∈ps,p.1=x))
  ⟨⟨none,none,none,rfl⟩,fun x o _ e=>e,[],[],hd1, .nil,List.nodup_nil,fun x=>by simp⟩ (fun i σ H' _ p=>SqL.of (p.2.1 _ _ ldn (s1 _ _ hl))) ?_ ?_
 · rintro i x σ H' ex ⟨⟨v2,v3,v4,rfl⟩,b1,kvs',acc',hd',hD',hnd',hm'⟩;obtain ⟨u,eu,hu⟩:=hT.get' ex;rw [yQ] at eu;obtain ⟨ps,ep,rfl⟩:=yS.mp eu;have mps:=yT ep;have tp0:Kd H H':=(Kd.of_same s1).trans (b1.kd hd1);refine hZq fun q_ e_=> ?_;obtain ⟨au,ys,rfl,hau,hys⟩:=at_t (hu.mono tp0);subst e_;have yl:=hys.len;rw [yM] at yl;have aud:au≠d:=fun q=>by rw [q,hd'] at hau;cases hau
   have hin:∀x∈acc',x∈T:=fun x m=>by
    refine hZq fun q_ e_=> ?_;obtain ⟨qs,mq,p,mp,rfl⟩:=(hm' x).mp m;subst e_;exact (hg qs (zY mq) p mp).mem
   refine ⟨_,rfl,au,rfl,⟨ys,SqT.of hau⟩,?_⟩
   refine nQ (xs:=ys) (fun j σ H''=>(∃v3 v4,σ= [some (.ref l),some (.ref d),some (.ref au),v3,v4])∧But1 d H' H''∧∃kvs'' acc'',H'' d=some (.dK kvs'')∧DictT H'' kvs'' acc''∧acc''.Nodup∧(∀x,x∈acc''↔x∈acc'∨∃p∈ps.take j,p.1=x))
    ⟨⟨v3,v4,rfl⟩,fun x o _ e=>e,kvs',acc',hd',hD',hnd',fun x=>by simp⟩ (fun i σ H'' _ p=>SqT.of (p.2.1 _ _ aud hau)) ?_ ?_
   · rintro j z σ H2 ez ⟨⟨v3,v4,rfl⟩,b2,kvs2,acc2,hd2,hD2,hnd2,hm2⟩;have kd2:Kd H' H2:=b2.kd hd';obtain ⟨t',et',ht'⟩:=(hys.mono kd2).get' ez;rw [yQ] at et';refine hZq fun q_ e_=> ?_;obtain ⟨⟨tm,fr⟩,eq,rfl⟩:=yS.mp et';subst e_;refine hZq fun q_ e_=> ?_;obtain ⟨T',x,y,rfl,hT',hx,hy⟩:=bX ht';subst e_;have g:=hg ps mps _ (yT eq);refine ⟨T',_,rfl,SqT.of hT',rfl,_,_,rfl,_,_,rfl,rfl,?_⟩;refine ⟨_,rfl, .inr (.inr (.inl ⟨rfl, .inl ⟨kvs2,hd2⟩⟩)),_,rfl,x,tm,rfl,hx,g.gt.ty,(by have:tm.depth≤39:=g.dep;omega),g.len,fun z H3 s3 ez3=>⟨_,rfl,?_⟩⟩
     have hd3:=s3 _ _ hd2;have hD3:=hD2.mono (Kd.of_same s3)
     have hin2:∀x∈acc2,x∈T:=fun x m=>by
      rcases (hm2 x).mp m with m|⟨p,mp,rfl⟩
      · exact hin x m
      · exact (hg ps mps p (zY mp)).mem
     have l2:=sub_len hnd2 hin2;refine ⟨d,kvs2,Sum.inr z,x,rfl,rfl,hd3,by rw [hD3.len];omega,fun y' ev=> ?_,fun ev=> ?_⟩
     · have mt:tm∈acc2:=by
        by_cases m:tm∈acc2
        · exact m
        · rw [(hD3.none_iff g.gt ez3).mpr m] at ev;cases ev
       refine ⟨⟨_,_,rfl⟩,b2.trans (But1.of_same s3),kvs2,acc2,hd3,hD3,hnd2,fun x=> ?_⟩;rw [hm2,av eq];simp only [ze,z5];constructor
       · rintro (h|⟨p,mp,e⟩)
         · exact .inl h
         · exact .inr ⟨p, .inl mp,e⟩
       · rintro (h|⟨p,mp|rfl,e⟩)
         · exact .inl h
         · exact .inr ⟨p,mp,e⟩
         · exact (hm2 x).mp (e▸mt)
     · have mo:=(hD3.none_iff g.gt ez3).mp ev;have tp2:Kd H3 (upd H3 d (.dK (kvs2++ [(Sum.inr z,x)]))):=Dj.Kd.updK hd3;refine ⟨⟨_,_,rfl⟩,(b2.trans (But1.of_same s3)).trans fun x o nx e=>by rw [af nx];exact e,kvs2++ [(Sum.inr z,x)],acc2++ [tm],a8,Paired.snoc (hD3.mono tp2) ⟨z,rfl,ez3,g.gt,(hx.mono (Kd.of_same s3)).mono tp2⟩,?_,fun x=> ?_⟩
       · rw [List.nodup_append];exact ⟨hnd2,by simp,fun a ma b mb=>by rw [z5.mp mb];exact fun q=>mo (q▸ma)⟩
       · rw [ze,hm2,av eq];simp only [ze,z5];constructor
         · rintro ((h|⟨p,mp,e⟩)|h)
           · exact .inl h
           · exact .inr ⟨p, .inl mp,e⟩
           · exact .inr ⟨_, .inr rfl,h.symm⟩
         · rintro (h|⟨p,mp|rfl,e⟩)
           · exact .inl (.inl h)
           · exact .inl (.inr ⟨p,mp,e⟩)
           · exact .inr e.symm
   · rintro σ H2 ⟨⟨v3,v4,rfl⟩,b2,kvs2,acc2,hd2,hD2,hnd2,hm2⟩;rw [yl,zg] at hm2;refine ⟨⟨_,_,_,rfl⟩,b1.trans b2,kvs2,acc2,hd2,hD2,hnd2,fun x=> ?_⟩;rw [hm2,hm',av ep];simp only [ze,z5];constructor
     · rintro (⟨qs,mq,h⟩|h)
       · exact ⟨qs, .inl mq,h⟩
       · exact ⟨ps, .inr rfl,h⟩
     · rintro ⟨qs,mq|rfl,h⟩
       · exact .inl ⟨qs,mq,h⟩
       · exact .inr h
 · rintro σ H2 ⟨⟨v2,v3,v4,rfl⟩,b2,kvs2,acc2,hd2,hD2,hnd2,hm2⟩;rw [hlen,zg] at hm2;refine ⟨_,rfl, .inr (.inr (.inl ⟨rfl, .inl ⟨kvs2,hd2⟩⟩)),d,kvs2,rfl,rfl,hd2,fun x nx=> ?_⟩;have s3:Same H2 (upd H2 x (iW x d)):=aa nx
   have gts:∀t∈acc2,Gm T t:=fun t m=>by
    refine hZq fun q_ e_=> ?_;obtain ⟨qs,mq,p,mp,rfl⟩:=(hm2 t).mp m;subst e_;exact hg qs mq p mp
   have hle:acc2.length≤T.length:=sub_len hnd2 fun y my=>(gts y my).mem;refine ⟨x,d,kvs2,acc2,rfl,a8,s3 _ _ hd2,hD2.vals.mono (Kd.of_same s3),by omega,fun t m=>⟨yG (gts t m).gt,eX (gts t m).gt.ty,by have:=(gts t m).dep;omega⟩,fun t m u m'=>p9 40 (by have:=(gts t m).dep;omega) (gts t m).gt.ty (gts u m').gt.ty,fun D ws us nD hp hws hup=> ?_⟩
   have sH:Same H (upd (upd H2 x (iW x d)) D (.lst ws)):=fun y o e=>aa nD _ _ (s3 _ _ (b2 y o (aD e nd) (s1 _ _ e)));refine k D ws us _ ?_ sH a8 (hws.mono (Kd.of_same (aa nD))) (hp.nodup_iff.mpr hnd2) fun y=>by rw [hp.mem_iff,hm2]
   have n2:=s3.free nD
   cases e:H D with
   |none=>rfl
   |some o=>rw [b2 D o (aD e nd) (s1 _ _ e)] at n2;cases n2
open Classical in
noncomputable def cw (s:Int) (t:Tr):List Pq→Int
 | []=>0
 |p::r=>if p.1=t then wh p.2 s else cw s t r
theorem o8 {s:Int} {t:Tr} {p:Pq}:∀ {a:List Pq},p.1≠t→cw s t (a++ [p])=cw s t a
 | [],h=>by simp [cw,h]
 |q::r,h=>by
  simp only [zv,cw];split
  · rfl
  · exact o8 h
theorem sY {s:Int} {t:Tr} {p:Pq}:∀ {a:List Pq},p.1=t→(∀q∈a,q.1≠t)→cw s t (a++ [p])=wh p.2 s
 | [],h,_=>by simp [cw,h]
 |q::r,h,hn=>by
  simp only [zv,cw];rw [if_neg (hn q yO)];exact sY h fun x m=>hn x (yR _ m)
theorem vw {s:Int} {t:Tr} {e:Nat} {M:Nat}:∀ {a:List Pq},(∀p∈a,0 < p.2.2∧p.2.1.natAbs≤M)→(cw s t a).natAbs≤M*s.natAbs
 | [],_=>by simp [cw]
 |q::r,h=>by
  simp only [cw];split
  · exact yY (uU (h q yO).1) (zy _ (h q yO).2)
  · exact vw (e:=e) fun p m=>h p (yR _ m)
theorem cQ {te:TE} {i:Nat} {u:TS} {Z:Ends} {σ:L2.St} {H:Hp} (h:te σ H fun v H1=>aG i v σ H1 (u Z)):tSeq (tAsg te (aG i)) u Z σ H:=h
def qF:Sp:=fun vs H Q _=>∃(v:V) (ps:List Pq) (lt:Addr) (ws:List V) (us T:List Tr) (s:Int) (e:Nat),vs= [v, .ref lt, .int s]∧TrAt H v (sumT ps)∧Asc ps∧(∀p∈ps,Gm T p.1∧Gq e p)∧e≤8000∧Big s∧T.length < 64∧
 H lt=some (.lst ws)∧TrsAt H ws us∧(∀t∈us,Gm T t)∧us.length < 64∧∀l H',H l=none→Same H H'→H' l=some (.lst ((us.map fun t=>cw s t ps).map V.int))→Q (.ref l) H'
theorem scCto:FnScope ["pairs","terms","scale","counts"] ["pairs","terms","scale"] (ag sCto):= .of
theorem wR {f fS fW:Addr} {fd fdS fdW:FuncData} (F:Fun K "counts_of" "counts_of" sCto f fd)
 (GS:FnOk P w K mg base CX0 41 fS fdS ["term"] (spSt 40)) (kS:PySem.W.keepIn K (.ref fS)=true) (bS:Binds K fdS ["term"] []) (mS:mg "shown_term"=some (.ref fS))
 (GW:FnOk P w K mg base CX0 1 fW fdW ["share","scale"] mG) (kW:PySem.W.keepIn K (.ref fW)=true) (bW:Binds K fdW ["share","scale"] []) (mW:mg "whole_of"=some (.ref fW)):
 FnOk P w K mg base CX0 42 f fd ["pairs","terms","scale"] qF:=by
 refine F.okb scCto fun vs H Q E h=> ?_;refine hZq fun q_ e_=> ?_;obtain ⟨v,ps,lt,ws,us,T,sc,e,rfl,hv,hasc,hps,he,hsc,hT64,hlt,hws,hus,ul,k⟩:=h;subst e_;refine ⟨rfl,fun cdv A outer s hr=> ?_⟩;have hu1:=nK hr;have hr1:Room 1 _:=hr.mono (by decide)
 have nd3:(["term","share","scale"]:List Str).Nodup:=by decide +kernel
 have nd2:(["term","counts"]:List Str).Nodup:=by decide +kernel
 refine ⟨_,ae (psR 3 scCto.nd (rH (NC:= ["term","share","scale"]) (mp:= [none,none,some 2]) (g:=gTup K 2 (aV (aG 0) (aV (aG 1) gNil))) rfl (eP (pv 0))
  (fun _ _ _ _ _=>aW (n:=2) rfl (ak (pgA 0 nd3) (ak (pgA 1 nd3) aL))) (fun _ _ _ _ _=>aN)
  (fun _ _ _ _ _=>ai GS hr rfl mS kS bS .nil ar (a0 (pv 0) a9)) (fun _ _ _ _ _=>ai GW hr1 rfl mW kW bW .nil ar (a0 (pv 1) (a0 (pv 2) a9)))))
  (ah (ax (aQ (NC:= ["term","counts"]) (mp:= [none,some 3]) rfl (aO (pv 1)) (fun _ _ _ _ _=>pgA 0 nd2) (fun _ _ _ _ _=>aN)
   (fun _ _ _ _ _=>rG hu1 (pv 1) (ai GS hr rfl mS kS bS .nil ar (a0 (pv 0) a9)) ac ⟨rfl,rfl,rfl,rfl⟩)))),?_⟩
 have hL20:(20000:Nat)≤sizeLine:=by decide +kernel
 refine hZq fun q_ e_=> ?_;obtain ⟨au,xs,rfl,hau,hxs⟩:=at_t hv;subst e_;have xl:=hxs.len;rw [yM] at xl;have pl:=dz hasc fun u m=>(hps u m).1.mem;refine cQ ?_;refine oV (K':=K) (xs:=xs) (rest:= [some (.int sc)]) (a:=au) rfl (fun Q q=>⟨_,rfl,q⟩) (SqT.of hau) fun L nL=> ?_;refine ⟨fun j acc H'=>Same H H'∧H' L=some (.dK acc)∧acc.length≤j∧∀(t:Tr) (z:Str),Gt t→Dec.cl z=tmC t→(valV acc (Sum.inr z)).getD (.int 0)= .int (cw sc t (ps.take j)),⟨aa nL,a8,yP _,fun t z _ _=>by rw [zG];rfl⟩,fun j acc' H' p=>SqT.of (p.1 _ _ hau),?_,?_⟩
 · rintro j z acc H' hj ⟨s2,hL,hal,hval⟩ ez;obtain ⟨t',et',ht'⟩:=(hxs.mono (Kd.of_same s2)).get' ez;rw [yQ] at et';refine hZq fun q_ e_=> ?_;obtain ⟨⟨tm,fr⟩,eq,rfl⟩:=yS.mp et';subst e_;refine hZq fun q_ e_=> ?_;obtain ⟨T',x,y,rfl,hT',hx,hy⟩:=bX ht';subst e_;obtain ⟨g,gq⟩:=hps _ (yT eq);have jl:j < ps.length:=(yW.mp eq).1;refine ⟨T',x,y,rfl,SqT.of hT',?_⟩;refine ⟨_,rfl,x,tm,rfl,hx,g.gt.ty,(by have:tm.depth≤39:=g.dep;omega),g.len,fun z H6 s6 ez6=>⟨Sum.inr z,rfl,?_⟩⟩
   refine ⟨_,rfl,_,rfl,y,fr,sc,rfl,hy.mono (Kd.of_same s6),gq.gf.pos,gq.gf.bot.big (by omega),gq.gf.top.big (by omega),hsc,?_⟩
   refine CompD.mk hj (by omega) (s6 _ _ hL) ⟨aq nL (s2.trans s6),a8,?_,fun t z' gt ez'=> ?_⟩
   · have:=fY acc (Sum.inr z) (.int (wh fr sc));omega
   · rw [p7,av eq];by_cases q:(Sum.inr z':Key)=Sum.inr z
     · rw [if_pos q];have q':=Sum.inr.inj q;subst q';have et:t=tm:=gt.inj g.gt (ez'.symm.trans ez6);subst et;rw [sY (p:=(t,fr)) (t:=t) rfl fun q mq=> ?_]
       · rfl
       · obtain ⟨i,hi,e1⟩:=zS mq;rw [zh] at hi;rw [List.getElem_take] at e1;have:=List.pairwise_iff_getElem.mp hasc i j (by omega) jl (by omega)
         rw [e1,show ps[j]=(t,fr) from (yW.mp eq).2] at this;exact ic this
     · rw [if_neg q,hval t z' gt ez',o8];intro h;have h':tm=t:=h;subst h';exact q (by rw [Dec.cl_inj (ez'.trans ez6.symm)])
 intro kvs H1 z_;refine hZq fun q_ e_=> ?_;obtain ⟨s1,hL,hal,hval⟩:=z_;subst e_;rw [xl,zg] at hval;have hlt1:=s1 _ _ hlt;have wl:=hws.len;refine ⟨_,rfl,lt,rfl,⟨ws,SqL.of hlt1⟩,fun D nD=> ?_⟩;refine bG (xs:=ws) (fun j acc H'=>Same H1 H'∧H' D=some (.lst acc)∧acc=((us.take j).map fun t=>cw sc t ps).map V.int) ⟨aa nD,a8,rfl⟩ (fun j acc H' p=>SqL.of (p.1 _ _ hlt1)) ?_ ?_
 · rintro j x acc H' hj ex ⟨s2,hD,rfl⟩;obtain ⟨t,et,ht⟩:=(hws.mono (Kd.of_same (s1.trans s2))).get' ex;have g:=hus t (yT et);have hL2:=s2 _ _ hL;refine ⟨_,rfl,L,rfl, .inl ⟨kvs, .inl hL2⟩,?_⟩;refine ⟨_,rfl,x,t,rfl,ht,g.gt.ty,(by have:=g.dep;omega),g.len,fun z H6 s6 ez6=>⟨_,DGet.k (k:=Sum.inr z) (s6 _ _ hL2),?_⟩⟩
   have jl:j < us.length:=(yW.mp et).1;refine CompN.mk hj (by rw [yM,yM,zh];omega) (s6 _ _ hD) ⟨aq nD (s2.trans s6),a8,?_⟩
   rw [hval t z g.gt ez6,av et];simp
 · rintro acc H2 ⟨s2,hD,rfl⟩;rw [wl,zg] at hD;exact k D H2 (s1.free nD) (s1.trans s2) hD
end
end K40
namespace Zp
open PySem
section
variable {prog:Program} {w:World} {A:Around} {E:Value→Shared→Prop} {s:Shared} {k:Src} {z TI TO i1 i2 l1 l2:Addr} {j:Nat} {xs ys:Array Value} {x y a b:Value}
theorem tF {Q:Fin→Shared→Prop} (hh:A.handled=none) (D:ZipApart z TI TO i1 i2 l1 l2) (hz:IsZip s.heap z TI TO .none) (hI:IsPair s.heap TI (.ref i1) (.ref i2)) (hO:IsPair s.heap TO a b)
 (t1:k.It s.heap i1 l1 j) (t2:k.It s.heap i2 l2 j) (q1:k.Sq s.heap l1 xs) (q2:k.Sq s.heap l2 ys) (ex:xs[j]?=some x) (ends:ys[j]?=none)
 (q:∀h' e,(∀c o,c≠z→c≠TO→c≠i1→c≠i2→s.heap.get? c=some o→h'.get? c=some o)→(∃o,h'.get? e=some o∧o.cls= .type "StopIteration")→E (.ref e) {s with heap:=h'}):
 wpAny (model prog w) A (Builtin.«zip.__next__» ⟨[.ref z],[]⟩) Q E s:=by
 show wpAny _ _ (do let u←field (.ref z) 2;_) _ _ _
 refine wpAny_bind (wpAny_field hz rfl (x:= .bool false) rfl ?_);show wpAny _ _ (do let u←field (.ref z) 3;_) _ _ _
 refine wpAny_bind (wpAny_field hz rfl (x:= .ref TI) rfl (wpAny_bind (wpAny_seqItems hI rfl ?_)));show wpAny _ _ (do let u←Builtin.SmallTypes.ownedTupleIsFree (.ref z);_) _ _ _
 refine wpAny_bind ?_;rw [Builtin.SmallTypes.ownedTupleIsFree];refine wpAny_bind (wpAny_field hz rfl (x:= .none) rfl (wpAny_pure ?_));simp only [if_true];refine wpAny_bind (wpAny_rule (wpAny_bind (wpAny_field hz rfl (x:= .ref TO) rfl (wpAny_bind (wpAny_setField_rec hz (by simp) fun g1 y1 s1=> ?_)))))
 have y1:IsZip g1 z TI TO .ellipsis:=y1;refine wpAny_bind ?_;simp only [List.forIn_cons,List.forIn_nil,List.zipIdx_nil,List.zipIdx_cons];refine wpAny_bind (wpAny_bind (wpAny_onRaise ?_));show wpAny _ _ (do let u←Builtin.SmallTypes.nextOf (.ref i1);_) _ _ _
 refine wpAny_bind (jq (s:= {s with heap:=g1}) (dk t1 fun o e=>s1.extBut _ o D.i1z e) (jO q1 fun o e=>s1.extBut _ o D.l1z e) ex fun g2 u1 s2=>wpAny_pure ?_);have o2:IsPair g2 TO a b:=s2.extBut _ _ D.TOi1 (s1.extBut _ _ D.TOz hO);refine wpAny_bind (wpAny_seqItems o2 rfl (wpAny_bind (wpAny_updateSeq_pair (s:= {s with heap:=g2}) o2 fun g3 o3 s3=> ?_)));have o3:IsPair g3 TO x b:=o3;refine wpAny_bind (wpAny_letGo (wpAny_pure (wpAny_bind (wpAny_bind (wpAny_onRaise ?_)))));show wpAny _ _ (do let u←Builtin.SmallTypes.nextOf (.ref i2);_) _ _ _
 refine wpAny_bind (rT (s:= {s with heap:=g3}) hh (dk t2 fun o e=>s3.extBut _ o D.TOi2.symm (s2.extBut _ o D.i12.symm (s1.extBut _ o D.i2z e))) (jO q2 fun o e=>s3.extBut _ o D.l2TO (s2.extBut _ o D.l2i1 (s1.extBut _ o D.l2z e))) ends fun g4 e s4 he=> ?_);obtain ⟨oe,e1,e2⟩:=he;have y4:IsZip g4 z TI TO .ellipsis:=s4 _ _ D.i2z.symm (s3.extBut _ _ D.TOz.symm (s2.extBut _ _ D.i1z.symm y1));have ne:e≠z:=fun n=>by subst n;rw [y4] at e1;cases e1;simp at e2
 exact wpAny_setField_rec y4 (by simp) fun g5 _ s5=>q g5 e (fun c o c1 c2 c3 c4 n=>s5.extBut _ _ c1 (s4 _ _ c4 (s3.extBut _ _ c2 (s2.extBut _ _ c3 (s1.extBut _ _ c1 n))))) ⟨oe,s5.extBut _ _ ne e1,e2⟩
theorem tH {Q:Option Value→Shared→Prop} (hh:A.handled=none) (D:ZipApart z TI TO i1 i2 l1 l2) (hz:IsZip s.heap z TI TO .none) (hI:IsPair s.heap TI (.ref i1) (.ref i2)) (hO:IsPair s.heap TO a b)
 (t1:k.It s.heap i1 l1 j) (t2:k.It s.heap i2 l2 j) (q1:k.Sq s.heap l1 xs) (q2:k.Sq s.heap l2 ys) (ex:xs[j]?=some x) (ends:ys[j]?=none)
 (q:∀h',(∀c o,c≠z→c≠TO→c≠i1→c≠i2→s.heap.get? c=some o→h'.get? c=some o)→Q none {s with heap:=h'}):wpAny (model prog w) A (pyNext (.ref z)) Q E s:=by
 have ty:s.TypeIs (.ref z) "zip":=⟨_,hz,rfl⟩;rw [pyNext];refine wpAny_bind (wpAny_attempt (wpAny_callSpecial?_slot (name:=Str.ofString "__next__") ty F.slot_zip_next (wpAny_call_entry F.slot_zip_next ty F.entry_zip_next (tF hh D hz hI hO t1 t2 q1 q2 ex ends fun h' e up he=> ?_) (F.args_zip_next_1 _))));obtain ⟨o,e1,e2⟩:=he;exact wpAny_bind (wpAny_isInstance (T:="StopIteration") (b:=true) ⟨o,e1,e2⟩ isSubtype_stop (wpAny_pure (q _ up)))
end
end Zp
namespace L2
open PySem PySem.Spec PyProof.Rows Zp
noncomputable def Itz2 (k:Src) (K:PySem.W.Frag) (a b:Addr):It:=⟨(Itz k K a b).go,(Itz k K a b).yld,fun i H=>(Itz k K a b).stop i H∨∃xs ys,Sqk k K H a xs∧Sqk k K H b ys∧i < xs.length∧ys.length≤i⟩
theorem oo {P:Program} {w:World} {K:PySem.W.Frag} {es:List Expr} {kk:Nat} {pos:Pos} {k:Src} (a b z TI TO i1 i2:Addr) (hd: [z,TI,TO,i1,i2].Nodup):
 Turn P w K (.Tuple es kk pos) (Itz2 k K a b) [z,TI,TO,i1,i2] z (fun i h=>IsZip h z TI TO .none∧IsPair h TI (.ref i1) (.ref i2)∧(∃u v,IsPair h TO u v)∧k.It h i1 a i∧k.It h i2 b i∧a∉ [z,TI,TO,i1,i2]∧b∉ [z,TI,TO,i1,i2]) where
 mem:=(cO (P:=P) (w:=w) (es:=es) (kk:=kk) (pos:=pos) (k:=k) (K:=K) a b z TI TO i1 i2 hd).mem
 obj:=(cO (P:=P) (w:=w) (es:=es) (kk:=kk) (pos:=pos) (k:=k) (K:=K) a b z TI TO i1 i2 hd).obj
 keep:=(cO (P:=P) (w:=w) (es:=es) (kk:=kk) (pos:=pos) (k:=k) (K:=K) a b z TI TO i1 i2 hd).keep
 item:=(cO (P:=P) (w:=w) (es:=es) (kk:=kk) (pos:=pos) (k:=k) (K:=K) a b z TI TO i1 i2 hd).item
 self:=(cO (P:=P) (w:=w) (es:=es) (kk:=kk) (pos:=pos) (k:=k) (K:=K) a b z TI TO i1 i2 hd).self
 done:=by
  intro X hP hw hK hc i pins s σ H E I hf st hg;rcases hg with hg|hg
  · exact (cO (P:=P) (w:=w) (es:=es) (kk:=kk) (pos:=pos) (k:=k) (K:=K) a b z TI TO i1 i2 hd).done X hP hw hK hc i pins s σ H E I hf st hg
  · obtain ⟨h1,h2,⟨u0,v0,h3⟩,h4,h5,h6,h7⟩:=st;subst hP hw hK;obtain ⟨xs,ys,g1,g2,g3,g4⟩:=hg;obtain ⟨as,r1,p1,z1⟩:=I.sqk g1;obtain ⟨bs,r2,p2,z2⟩:=I.sqk g2;have hl:=r1.length;have hl2:=r2.length;simp only [Aa,yV,zm,or_false,not_or,List.nodup_nil,and_true,not_false_eq_true] at hd h6 h7;obtain ⟨⟨d1,d2,d3,d4⟩,⟨d5,d6,d7⟩,⟨d8,d9⟩,d10⟩:=hd;have D:ZipApart z TI TO i1 i2 a b:=⟨Ne.symm d1,Ne.symm d2,Ne.symm d3,Ne.symm d4,d5,d6,d7,d8,d9,d10,h6.1,h6.2.2.1,h6.2.2.2.1,h6.2.2.2.2,h7.1,h7.2.2.1,h7.2.2.2.1,h7.2.2.2.2⟩;have hi:i < as.length:=by omega
    refine tH (I.ok.hd hc) D h1 h2 h3 h4 h5 p1 p2 (x:=as[i]) (by simp [hi]) (by simp;omega) fun h' up=>⟨rfl,I.turneds (t':=s.toks) (fun c o n e=> ?_) hf⟩
    simp only [yV,zm,or_false,not_or] at n;exact up c o n.1 n.2.2.1 n.2.2.2.1 n.2.2.2.2 e
section
variable {X:Cx}
def vk (k:Src) (K:PySem.W.Frag) (ta:TA):TI:=fun σ H R=>ta σ H fun vs H1=>∃a b xs ys,vs= [.ref a, .ref b]∧Sqk k K H1 a xs∧Sqk k K H1 b ys∧R (Itz2 k K a b) H1
theorem ub {k:Src} {es:List Expr} {kk:Nat} {pt:Pos} {x y:Expr} {ta:TA} {p pos:Pos} (hg:Gl X "zip") (hm:X.mg "zip"=none) (ha:PA X [x,y] ta) (hs:starEach [x,y] X.env= [(false,eval x X.env),(false,eval y X.env)]:=by rfl) (hs2:starEach [y] X.env= [(false,eval y X.env)]:=by rfl):
 PI X (.Tuple es kk pt) (.Call (.Name "zip" p) [x,y] [] pos) (vk k X.K ta):=by
 intro pins s σ H R I h;refine Call_ (eU I hg hm PyProof.Rows.boot_zip (PyProof.Rows.callWith_type1 (thn (ha pos pins s σ H _ I h) fun us s1 ⟨vs,H1,I1,r1,q1⟩=> ?_) (by rw [hs,hs2]) (by rw [hs2];rfl)))
 obtain ⟨a,b,xs,ys,e,k1,k2,q⟩:=q1;subst e
 cases r1 with
 |cons r rr=>
  cases rr with
  |cons r' rr=>
   cases rr;cases r;cases r';obtain ⟨as,_,p1,_⟩:=I1.sqk k1;obtain ⟨bs,_,p2,_⟩:=I1.sqk k2;refine kO p1 p2 fun h' hz hI hO t1 t2 sz up=> ?_;refine wpAny_pyIter_zip (s:= {s1 with heap:=h'}) hz ?_
   have lta:a < s1.heap.objs.size:=by
    cases k
    · obtain ⟨o,e,_⟩:=p1;exact Heap.lt_size e
    · obtain ⟨o,e,_⟩:=p1;exact Heap.lt_size e
   have ltb:b < s1.heap.objs.size:=by
    cases k
    · obtain ⟨o,e,_⟩:=p2;exact Heap.lt_size e
    · obtain ⟨o,e,_⟩:=p2;exact Heap.lt_size e
   have na:∀j,a≠s1.heap.objs.size+j:=fun j=>yZ (zd lta (zP ..));have nb:∀j,b≠s1.heap.objs.size+j:=fun j=>yZ (zd ltb (zP ..))
   have le:∀c∈ [s1.heap.objs.size+4,s1.heap.objs.size+2,s1.heap.objs.size+3,s1.heap.objs.size+0,s1.heap.objs.size+1],s1.heap.objs.size≤c:=fun c hc=>by
    simp only [yV,zm,or_false] at hc;rcases hc with rfl|rfl|rfl|rfl|rfl<;>exact zP ..
   refine ⟨s1.heap.objs.size+4,[s1.heap.objs.size+4,s1.heap.objs.size+2,s1.heap.objs.size+3,s1.heap.objs.size+0,s1.heap.objs.size+1],_,_,H1,rfl,I1.kept (t':=s1.toks) up,oo a b _ _ _ _ _ (by simp),⟨hz,hI,⟨_,_,hO⟩,t1,t2,?_,?_⟩,fun c hc=>I1.fpOk (le c hc) (I1.hok.fresh (le c hc)),q⟩
   · simp only [yV,zm,or_false,not_or];exact ⟨na 4,na 2,na 3,na 0,na 1⟩
   · simp only [yV,zm,or_false,not_or];exact ⟨nb 4,nb 2,nb 3,nb 0,nb 1⟩
end
def vA (J:It) (mp:List (Option Nat)) (g:TG) (te:TE) (σ:L2.St) (Q:VK) (H1:Hp):Prop:=∀D,H1 D=none→
 ∃W:Nat→Nat→List V→Hp→Prop,(∃m,W 0 m [] (upd H1 D (.lst [])))∧∀i m acc H2,W i m acc H2→
  (J.stop i H2∧Q (.ref D) H2)∨
  (J.go i H2∧∀x H3,J.yld i H2 x H3→g x (subS mp σ) H3 fun σ4 H4=>Ext (subS mp σ) σ4∧cJ σ4 H4 fun b H5=>if b=true then te σ4 H5 fun v H6=>H6 D=some (.lst acc)∧acc.length < sizeLine∧∃m',m' < m∧W (i+1) m' (acc++ [v]) (upd H6 D (.lst (acc++ [v]))) else∃m',m' < m∧W (i+1) m' acc H5)
theorem ow {k:Src} {K:PySem.W.Frag} {mp:List (Option Nat)} {ta:TA} {g:TG} {te:TE} {σ:L2.St} {H:Hp} {Q:VK} (h:ta σ H fun vs H1=>∃a b xs ys,vs= [.ref a, .ref b]∧Sqk k K H1 a xs∧Sqk k K H1 b ys∧vA (Itz2 k K a b) mp g te σ Q H1):cz mp (vk k K ta) g cJ te σ H Q:=h
theorem t6 {k:Src} {K K':PySem.W.Frag} {a b:Addr} {mp:List (Option Nat)} {te:TE} {Q:VK} {σ rest:L2.St} {H1:Hp} {xs ys:List V} (e:subS mp σ=none::none::rest) (hl:ys.length≤xs.length)
 (h:∀D,H1 D=none→∃Pv:Nat→List V→Hp→Prop,Pv 0 [] (upd H1 D (.lst []))∧(∀i acc H,Pv i acc H→Sqk k K H a xs∧Sqk k K H b ys)∧
  (∀i T x y acc H,i < ys.length→i < sizeLine→Pv i acc H→xs[i]?=some x→ys[i]?=some y→H T=none→te (some x::some y::rest) (upd H T (.tup [x,y])) (CompN ys.length i D acc Pv))∧∀acc H,Pv ys.length acc H→Q (.ref D) H):
 vA (Itz2 k K a b) mp (gTup K' 2 (aV (aG 0) (aV (aG 1) gNil))) te σ Q H1:=by
 intro D nD;rw [e];obtain ⟨Pv,p0,pq,ps,pd⟩:=h D nD;refine ⟨fun i m acc H=>m=ys.length - i∧i≤ys.length∧Pv i acc H,⟨ys.length,by simp,zf _,p0⟩,?_⟩
 rintro i m acc H ⟨rfl,hi,p⟩;obtain ⟨q1,q2⟩:=pq i acc H p;by_cases hlt:i < ys.length
 · refine .inr ⟨⟨xs,ys,xs[i],ys[i],q1,q2,by simp,by simp [hlt]⟩,?_⟩
   rintro v H' ⟨T,x,y,rfl,nT,rfl,y1,y2,z⟩;refine ⟨T,[x,y],rfl,SqT.of a8,rfl,x,[y],rfl,y,[],rfl,rfl,ext2,?_⟩;exact ps i T x y acc H hlt z p (y1 xs q1) (y2 ys q2) nT
 · have ei:i=ys.length:=by omega
   subst ei;refine .inl ⟨?_,pd acc H p⟩;by_cases hx:xs.length≤ys.length
   · exact .inl ⟨xs,ys,q1,q2,hx⟩
   · exact .inr ⟨xs,ys,q1,q2,by omega,yP _⟩
end L2
namespace Dj
open PySem PySem.Spec PyProof.Rows L2 Tre
noncomputable def lj (P:Program) (w:World) (K:PySem.W.Frag) (mp:List (Option Nat)) (wi:TI) (g:TG) (tc:TT) (tk te:TE):TE:=fun σ H Q=>wi σ H fun J H1=>∀D,H1 D=none→
 ∃W:Nat→Nat→List Ent→Hp→Prop,(∃m,W 0 m [] (upd H1 D (dJ P w D [])))∧∀i m acc H2,W i m acc H2→
  (J.stop i H2∧Q (.ref D) H2)∨
  (J.go i H2∧∀x H3,J.yld i H2 x H3→g x (subS mp σ) H3 fun σ4 H4=>Ext (subS mp σ) σ4∧tc σ4 H4 fun b H5=>if b=true then tk σ4 H5 fun y H6=>∃b k,y= .ref b∧te σ4 H6 fun v H7=>DJ P w K H7 D acc∧KeyAt K H7 k b∧acc.length < sizeLine∧∃m',m' < m∧W (i+1) m' (putJ acc k b v) (upd H7 D (dJ P w D (putJ acc k b v)))
   else∃m',m' < m∧W (i+1) m' acc H5)
section
variable {X:Cx} {pins:List (Addr×Obj)} {σ:L2.St} {H:Hp} {s:Shared}
variable {kx vx target iter:Expr} {ifs:List Expr} {scope:Scope} {NC:List Str} {mp:List (Option Nat)} {pos:Pos} {wi:TI} {g:TG} {tc:TT} {tk te:TE}
theorem pe_compJ (hcalm:X.calm=true) (hu:X.A.units+30 < cLine) (hi:PI X target iter wi) (hg:∀C s H fp pn,PG (XC X scope NC C s H fp pn) target g) (ht:∀C s H fp pn,PTs (XC X scope NC C s H fp pn) ifs tc) (hkx:∀C s H fp pn,PE (XC X scope NC C s H fp pn) kx tk) (he:∀C s H fp pn,PE (XC X scope NC C s H fp pn) vx te)
 (hl:mp.length=NC.length:=by rfl) (hm:i8 X.N NC mp scope.names X.env.scope.names=true:=by rfl) (hc:c5 scope.names X.env.cells=true:=by rfl) (hk:scope.kind= .function:=by rfl)
 (hnc:∀y∈scope.names,y.2≠ .cell:=by decide +kernel) (hnm:∀y∈scope.names,y.2= .local→scope.names.lookup y.1=some .local:=by decide +kernel) (hs:∀x,foldedSetIterable iter X.env x=pure x:=by intro _;rfl):
 PE X (.DictComp kx vx [⟨target,iter,ifs,0⟩] scope pos) (lj X.prog X.w X.K mp wi g tc tk te):=by
 intro pins s σ H Q I h;rw [arm_eval_DictComp];refine wpAny_comprehension_free (use:=none) rfl hs (gM hc) hk hnm (thn (hi pins s σ H _ I h) fun v s1 h1=>thn h1 fun itv s2 h2=> ?_);refine hZq fun q_ e_=> ?_;obtain ⟨it,fp,tn,J,H2,e,I2,T,st2,f2,W⟩:=h2;subst e_;subst e;refine wpAny_newObj_type ?_;have nD:H2 s2.heap.objs.size=none:=I2.hok.fresh (yP _)
 have I3:Inv X pins σ (upd H2 s2.heap.objs.size (dJ X.prog X.w s2.heap.objs.size [])) {s2 with heap:=s2.heap.push {cls:= .type "dict",data:= .dict #[]}}:=
  I2.laid (t':=s2.toks) (fun b u e=>Heap.get?_push_of_some _ e) (yP _) (kq s2.heap I2.big)
 refine hZq fun q_ e_=> ?_;obtain ⟨W,⟨m0,w0⟩,turn⟩:=W _ nD;subst e_
 have lt2:∀b∈fp,b < s2.heap.objs.size:=fun b hb=>by
  obtain ⟨o,e,_⟩:=T.obj 0 _ st2 b hb;exact Heap.lt_size e
 have nDf:∀b∈fp,b≠s2.heap.objs.size:=fun b hb=>yZ (lt2 b hb)
 have f3:∀b∈fp,FpOk X pins (upd H2 s2.heap.objs.size (dJ X.prog X.w s2.heap.objs.size [])) b:=fun b hb=>by
  obtain ⟨g0,g1⟩:=f2 b hb;exact ⟨by rw [af (nDf b hb)];exact g0,g1⟩
 have st3:tn 0 (s2.heap.push {cls:= .type "dict",data:= .dict #[]}):=T.keep 0 _ _ st2 fun b _ o e=>Heap.get?_push_of_some _ e
 have lt3:∀b∈fp,b < (s2.heap.push {cls:= .type "dict",data:= .dict #[]}).objs.size:=fun b hb=>by
  rw [Heap.size_push];exact zI (lt2 b hb)
 generalize hD:s2.heap.objs.size=D at*;generalize hs3:({s2 with heap:=s2.heap.push {cls:= .type "dict",data:= .dict #[]}}:Shared)=s3 at*;have hh3:s3.heap=s2.heap.push {cls:= .type "dict",data:= .dict #[]}:=by rw [←hs3]
 rw [←hh3] at st3 lt3;generalize hH3:upd H2 D (dJ X.prog X.w D [])=H3 at*;refine wpAny_newFunctionEnv (around:=some X.env) hnc (by intro y hy;cases hy) (fun h4 hn4 hsb4=> ?_) hk
 have kp4:∀b o,s3.heap.get? b=some o→h4.get? b=some o:=fun b o e=>hsb4.extBut b o (yZ (Heap.lt_size e)) (Heap.get?_push_of_some _ e);have I4:=I3.block (tk:=s3.toks+([]:List (Str×Value)).length) f3 lt3 hk hnc hc hl hm kp4 hn4;have st4:tn 0 h4:=T.keep 0 _ _ st3 fun b _ o e=>kp4 b o e
 have fin:∀(s5:Shared) (σ5:L2.St) (H5:Hp),Inv (XC X scope NC s3.heap.objs.size s3 H3 fp (X.pn++pins)) [] σ5 H5 s5→Q (.ref D) H5→compPost (model X.prog X.w) X.A X.xe none (EP X pins σ Q) (.ref D) s3.heap.objs.size (.ok .next) s5:=by
  intro s5 σ5 H5 I5 q5;obtain ⟨m5,hn5,_⟩:=id I5.loc;refine ⟨m5,hn5,fun h6 sb6=>⟨.ref D,H5,?_,rfl,q5⟩⟩;have kp6:∀b o,b≠s3.heap.objs.size→s5.heap.get? b=some o→h6.get? b=some o:=fun b o hb e=>sb6.extBut b o hb e;have nC:∀b o,s3.heap.get? b=some o→b≠s3.heap.objs.size:=fun b o e=>yZ (Heap.lt_size e);have un:Un (frs X.stack) fp H3 H5 s3.heap s5.heap:=I5.base;have hfree:H5 s3.heap.objs.size=none:=I5.free;refine I3.call' (s':= {s5 with heap:=h6}) (ch:=fp) I5.os ⟨fun b o e n hb hx=>kp6 b o (nC b o e) (un.keep b o e n hb hx),fun b o e n hb hx=> ?_,un.free,fun b o e hx=> ?_,un.tups,un.frzs,un.tbls⟩ ?_ I5.bare (fun b hb=> ?_)
  · obtain ⟨sl,e1⟩:=un.slot b o e n hb hx;exact ⟨sl,kp6 b _ (nC b o e) e1⟩
  · obtain ⟨o',e1⟩:=un.there b o e hx;exact ⟨o',kp6 b o' (nC b o e) e1⟩
  · intro b o e;have nb:b≠s3.heap.objs.size:=fun z=>by rw [z,hfree] at e;cases e
    refine (I5.hok b o e).stay (fun c v hc' r=>kp6 c v ?_ r) (fun _ r=>r) fun _ _ r=>r;rcases hc' with z|z
    · rw [z];exact nb
    · intro y;rw [y,hfree] at z;cases z
  · obtain ⟨g0,g1,g2,g3,g4,g5⟩:=f3 b hb;exact ⟨g3,g1,g4,g5⟩
 have loop:codeAny (model X.prog X.w) X.A (.compLoop (.DictComp kx vx [⟨target,iter,ifs,0⟩] scope pos) 0 (.ref it) (.ref D) (compEnvC scope (cr scope.names X.env.cells []) s3.heap.objs.size X.env)) (compPost (model X.prog X.w) X.A X.xe none (EP X pins σ Q) (.ref D) s3.heap.objs.size)
  {s3 with heap:=h4,toks:=s3.toks+([]:List (Str×Value)).length}:=by
  refine ga (fun n s'=>∃i acc σ' H',Inv (XC X scope NC s3.heap.objs.size s3 H3 fp (X.pn++pins)) [] σ' H' s'∧Ext (subS mp σ) σ'∧tn i s'.heap∧(∀b∈fp,H' b=none)∧W i n acc H') ?_ m0
   ⟨0,[],subS mp σ,H3,I4,fun _ _ e=>e,st4,fun b hb=>(f3 b hb).1,w0⟩
  intro n s5 z_;refine hZq fun q_ e_=> ?_;obtain ⟨i,acc,σ5,H5,I5,hσ,st5,fr5,w5⟩:=z_;subst e_;have I5':Inv (XC X scope NC s3.heap.objs.size s3 H3 fp (X.pn++pins)) [] (subS mp σ) H5 s5:=I5.weak (by rw [I5.len];unfold subS;rw [yM];exact hl) hσ
  have fpk:∀ {H':Hp},(∀b∈fp,H' b=none)→∀b∈fp,FpOk (XC X scope NC s3.heap.objs.size s3 H3 fp (X.pn++pins)) [] H' b:=fun hn b hb=>by
   refine hZq fun q_ e_=> ?_;obtain ⟨g0,g1,g2,g3,g4,g5⟩:=f3 b hb;subst e_;refine ⟨hn b hb,yZ (lt3 b hb),?_, .inl hb,(I4.ok.exf b hb).2,fun p hp=>g5 p (by simpa using hp)⟩
   exact I4.ok.exfs b hb
  rcases turn i n acc H5 w5 with ⟨stop,q⟩|⟨go,step⟩
  · refine thn (T.done (XC X scope NC s3.heap.objs.size s3 H3 fp (X.pn++pins)) rfl rfl rfl hcalm i [] s5 _ H5 (fun _ _=>False) I5' (fpk fr5) st5 stop) fun r s6 ⟨hr,I6⟩=> ?_;subst hr;exact fin s6 _ H5 I6 q
  · refine thn (T.item (XC X scope NC s3.heap.objs.size s3 H3 fp (X.pn++pins)) rfl rfl rfl hcalm i [] s5 _ H5 (fun _ _=>False) I5' (fpk fr5) st5 go) fun r s6 ⟨u,hr,h6⟩=> ?_;subst hr;refine thn h6 fun _ s7 ⟨x,H7,I7,r7,y7,st7,fr7⟩=> ?_;have I7':=I7.pinned (fpk fr7) (T.obj _ _ st7);refine thn (hg _ _ _ _ _ _ s7 _ H7 x u _ I7' r7 (step x H7 y7)) fun _ s8 ⟨σ8,H8,I8,ext8,q8⟩=> ?_;refine thn (ht _ _ _ _ _ _ s8 σ8 H8 _ I8 q8) fun ok s9 ⟨H9,I9,q9⟩=> ?_
    have again:∀ {σ':L2.St} {H':Hp} {s':Shared} {acc':List Ent} {m':Nat},Inv (XC X scope NC s3.heap.objs.size s3 H3 fp (X.pn++pins)) ([]++dU fp s7.heap) σ' H' s'→Ext (subS mp σ) σ'→m' < n→W (i+1) m' acc' H'→
     ∃m,m < n∧∃i acc σ' H',Inv (XC X scope NC s3.heap.objs.size s3 H3 fp (X.pn++pins)) [] σ' H' s'∧Ext (subS mp σ) σ'∧tn i s'.heap∧(∀b∈fp,H' b=none)∧W i m acc H':=by
     intro σ' H' s' acc' m' I' hσ' hm' w';refine ⟨m',hm',i+1,acc',σ',H',I'.unpinned,hσ',T.keep _ _ _ st7 fun b hb o e=>(I'.pin (b,o) (yX _ (yX _ (bh hb e)))).1,fun b hb=> ?_,w'⟩;obtain ⟨o,e,d⟩:=T.obj _ _ st7 b hb;exact (I'.pin (b,o) (yX _ (yX _ (bh hb e)))).2.1
    cases ok with
    |false=>
     rw [if_neg zk] at q9;rw [if_neg zk];obtain ⟨m',hm',w'⟩:=q9;exact again I9 ext8 hm' w'
    |true=>
     rw [if_pos rfl] at q9;rw [if_pos rfl];refine thn (hkx _ _ _ _ _ _ s9 σ8 H9 _ I9 q9) fun kv s10 ⟨y,H10,I10,r10,b,k,ek,qv⟩=> ?_;subst ek;obtain rfl:kv=Value.ref b:=r10;refine thn (he _ _ _ _ _ _ s10 σ8 H10 _ I10 qv) fun v s11 ⟨z,H11,I11,r11,d11,kb,hz,m',hm',w'⟩=> ?_;refine hZq fun q_ e_=> ?_;obtain ⟨z1,hd1,xs1,rel1,dd1⟩:=nV I11.hok I11.kIn d11;subst e_;have hz1:xs1.length≤sizeLine:=by rw [←Paired.length rel1];exact z1
     have hl1:(putJ acc k b z).length≤sizeLine:=by have:=fZ acc k b z;omega
     refine wpAny_dictSet_heap (hsz:=hz1) (by show X.A.units+20 < cLine;omega) (kb.is I11.hok I11.kIn) dd1 fun h' dd' hs=> ?_
     refine hZq fun q_ e_=> ?_;obtain ⟨q,es,ep,hq,h2,h3,h4,_,h5⟩:=dd';subst e_;exact again (gG I11 (by rw [d11.at_];exact True.intro) hs ⟨q,hq⟩ (m4 hl1 hd1 (rel1.put k r11) ⟨q,es,ep,hq,h2,h3,h4,h5⟩)) ext8 hm' w'
 exact codeAny_compStart_dict loop (T.self _ 0 _ _ _ st4 loop)
end
end Dj
namespace L2
open PySem PySem.Spec PyProof.Rows
theorem mh {K:PySem.W.Frag} {a:Addr} {mp:List (Option Nat)} {ta:TA} {g:TG} {tc:TT} {te:TE} {Q:VK} {σ:L2.St} {H1:Hp} {xs:List V}
 (ha:∀Q:List V→Hp→Prop,Q [.ref a] H1→ta σ H1 Q) (h1:SqL K H1 a xs)
 (h:∀D,H1 D=none→∃Pv:Nat→List V→Hp→Prop,Pv 0 [] (upd H1 D (.lst []))∧(∀i acc H,Pv i acc H→SqL K H a xs)∧
  (∀i T x acc H,i < xs.length→i < sizeLine→Pv i acc H→xs[i]?=some x→H T=none→g (.ref T) (subS mp σ) (upd H T (.tup [.int i,x])) fun σ4 H4=>Ext (subS mp σ) σ4∧tc σ4 H4 fun b H5=>if b=true then te σ4 H5 (CompN xs.length i D acc Pv) else CompS xs.length i acc Pv H5)∧∀acc H,Pv xs.length acc H→Q (.ref D) H):
 cz mp (vm K ta) g tc te σ H1 Q:=by
 unfold cz;refine ha _ ⟨a,xs,rfl,h1,fun D nD=> ?_⟩;refine hZq fun q_ e_=> ?_;obtain ⟨Pv,p0,pq,ps,pd⟩:=h D nD;subst e_;refine ⟨fun i m acc H=>m=xs.length - i∧i≤xs.length∧Pv i acc H,⟨xs.length,by simp,zf _,p0⟩,?_⟩
 rintro i m acc H ⟨rfl,hi,p⟩;have q1:=pq i acc H p;by_cases hlt:i < xs.length
 · refine .inr ⟨⟨xs,xs[i],q1,by simp [hlt]⟩,?_⟩
   intro v H' z_;refine hZq fun q_ e_=> ?_;obtain ⟨T,x,rfl,nT,rfl,y1,z⟩:=z_;subst e_;exact ps i T x acc H hlt z p (y1 xs q1) nT
 · have ei:i=xs.length:=by omega
   subst ei;exact .inl ⟨⟨xs,q1,yP _⟩,pd acc H p⟩
theorem iO {K:PySem.W.Frag} {a b:Addr} {mp:List (Option Nat)} {ta:TA} {g:TG} {tc:TT} {te:TE} {Q:VK} {σ:L2.St} {H1:Hp} {xs ys:List V} (hl:xs.length≤ys.length)
 (ha:∀Q:List V→Hp→Prop,Q [.ref a, .ref b] H1→ta σ H1 Q) (h1:SqL K H1 a xs) (h2:SqL K H1 b ys)
 (h:∀D,H1 D=none→∃Pv:Nat→List V→Hp→Prop,Pv 0 [] (upd H1 D (.lst []))∧(∀i acc H,Pv i acc H→SqL K H a xs∧SqL K H b ys)∧
  (∀i T x y acc H,i < xs.length→i < sizeLine→Pv i acc H→xs[i]?=some x→ys[i]?=some y→H T=none→g (.ref T) (subS mp σ) (upd H T (.tup [x,y])) fun σ4 H4=>Ext (subS mp σ) σ4∧tc σ4 H4 fun b H5=>if b=true then te σ4 H5 (CompN xs.length i D acc Pv) else CompS xs.length i acc Pv H5)∧∀acc H,Pv xs.length acc H→Q (.ref D) H):
 cz mp (iZip .lst K ta) g tc te σ H1 Q:=by
 unfold cz;refine ha _ ⟨a,b,xs,ys,rfl,h1,h2,fun D nD=> ?_⟩;obtain ⟨Pv,p0,pq,ps,pd⟩:=h D nD;refine ⟨fun i m acc H=>m=xs.length - i∧i≤xs.length∧Pv i acc H,⟨xs.length,by simp,zf _,p0⟩,?_⟩
 rintro i m acc H ⟨rfl,hi,p⟩;obtain ⟨q1,q2⟩:=pq i acc H p;by_cases hlt:i < xs.length
 · refine .inr ⟨⟨xs,ys,xs[i],ys[i]'(by omega),q1,q2,by simp [hlt],yN _⟩,?_⟩
   rintro v H' ⟨T,x,y,rfl,nT,rfl,y1,y2,z⟩;exact ps i T x y acc H hlt z p (y1 xs q1) (y2 ys q2) nT
 · have ei:i=xs.length:=by omega
   subst ei;exact .inl ⟨⟨xs,ys,q1,q2,yP _⟩,pd acc H p⟩
theorem sL {K:PySem.W.Frag} {a b:Addr} {xs ys:List V} {g:TG} {tb:TS} {D:Ends} {σ:St} {H:Hp} (hl:xs.length≤ys.length) (Pv:Nat→St→Hp→Prop) (h0:Pv 0 σ H) (hq:∀i σ H,i≤xs.length→Pv i σ H→SqL K H a xs∧SqL K H b ys)
 (hs:∀i T x y σ H,xs[i]?=some x→ys[i]?=some y→i < sizeLine→Pv i σ H→H T=none→g (.ref T) σ (upd H T (.tup [x,y])) fun σ2 H2=>tb {D with nx:=Pv (i+1),ct:=Pv (i+1),bk:=D.nx} σ2 H2) (hd:∀σ H,Pv xs.length σ H→D.nx σ H):
 ∃W:Nat→Nat→St→Hp→Prop,(∃m,W 0 m σ H)∧∀i m σ H,W i m σ H→
  ((Itz .lst K a b).stop i H∧D.nx σ H)∨((Itz .lst K a b).go i H∧∃N:St→Hp→Prop,(∀σ' H',N σ' H'→∃m',m' < m∧W (i+1) m' σ' H')∧∀x H',(Itz .lst K a b).yld i H x H'→g x σ H' fun σ2 H2=>tb {D with nx:=N,ct:=N,bk:=D.nx} σ2 H2):=by
 refine ⟨fun i m σ H=>m=xs.length - i∧i≤xs.length∧Pv i σ H,⟨xs.length,by simp,zf _,h0⟩,?_⟩
 rintro i m σ H ⟨rfl,hi,p⟩;obtain ⟨q1,q2⟩:=hq i σ H hi p;by_cases hlt:i < xs.length
 · refine .inr ⟨⟨xs,ys,xs[i],ys[i]'(by omega),q1,q2,by simp [hlt],yN _⟩,Pv (i+1),fun σ' H' p'=>⟨xs.length - (i+1),by omega,rfl,hlt,p'⟩,?_⟩
   rintro v H' ⟨T,x,y,rfl,nT,rfl,y1,y2,z⟩;exact hs i T x y σ H (y1 xs q1) (y2 ys q2) z p nT
 · have ei:i=xs.length:=by omega
   subst ei;exact .inl ⟨⟨xs,ys,q1,q2,yP _⟩,hd σ H p⟩
end L2
namespace Dj
open PySem PySem.Spec PyProof.Rows L2 Tre
noncomputable def CompJ (P:Program) (w:World) (K:PySem.W.Frag) (n i:Nat) (D:Addr) (acc:List Ent) (Pv:Nat→List Ent→Hp→Prop) (k:List Tk.KT) (b:Addr):VK:=fun v H7=>DJ P w K H7 D acc∧KeyAt K H7 k b∧acc.length < sizeLine∧∃m',m' < n - i∧(m'=n - (i+1)∧i+1≤n∧Pv (i+1) (putJ acc k b v) (upd H7 D (dJ P w D (putJ acc k b v))))
theorem CompJ.mk {P:Program} {w:World} {K:PySem.W.Frag} {n i:Nat} {D:Addr} {acc:List Ent} {Pv:Nat→List Ent→Hp→Prop} {k:List Tk.KT} {b:Addr} {v:V} {H7:Hp} (hi:i < n) (hl:acc.length < sizeLine) (h1:DJ P w K H7 D acc) (hk:KeyAt K H7 k b) (h2:Pv (i+1) (putJ acc k b v) (upd H7 D (dJ P w D (putJ acc k b v)))):CompJ P w K n i D acc Pv k b v H7:=
 ⟨h1,hk,hl,n - (i+1),by omega,rfl,hi,h2⟩
theorem comp_zipJ {P:Program} {w:World} {K K':PySem.W.Frag} {a b:Addr} {mp:List (Option Nat)} {ta:TA} {tk te:TE} {Q:VK} {σ rest:L2.St} {H1:Hp} {xs ys:List V} (e:subS mp σ=none::none::rest) (hl:xs.length≤ys.length)
 (ha:∀Q:List V→Hp→Prop,Q [.ref a, .ref b] H1→ta σ H1 Q) (h1:SqL K H1 a xs) (h2:SqL K H1 b ys)
 (h:∀D,H1 D=none→∃Pv:Nat→List Ent→Hp→Prop,Pv 0 [] (upd H1 D (dJ P w D []))∧(∀i acc H,Pv i acc H→SqL K H a xs∧SqL K H b ys)∧
  (∀i T x y acc H,i < xs.length→Pv i acc H→xs[i]?=some x→ys[i]?=some y→H T=none→tk (some x::some y::rest) (upd H T (.tup [x,y])) fun yk H6=>∃b' k,yk= .ref b'∧te (some x::some y::rest) H6 (CompJ P w K xs.length i D acc Pv k b'))∧∀acc H,Pv xs.length acc H→Q (.ref D) H):
 lj P w K mp (iZip .lst K ta) (gTup K' 2 (aV (aG 0) (aV (aG 1) gNil))) cJ tk te σ H1 Q:=by
 unfold lj;rw [e];refine ha _ ⟨a,b,xs,ys,rfl,h1,h2,fun D nD=> ?_⟩;refine hZq fun q_ e_=> ?_;obtain ⟨Pv,p0,pq,ps,pd⟩:=h D nD;subst e_;refine ⟨fun i m acc H=>m=xs.length - i∧i≤xs.length∧Pv i acc H,⟨xs.length,by simp,zf _,p0⟩,?_⟩
 rintro i m acc H ⟨rfl,hi,p⟩;obtain ⟨q1,q2⟩:=pq i acc H p;by_cases hlt:i < xs.length
 · refine .inr ⟨⟨xs,ys,xs[i],ys[i]'(by omega),q1,q2,by simp [hlt],yN _⟩,?_⟩
   intro v H' z_;refine hZq fun q_ e_=> ?_;obtain ⟨T,x,y,rfl,nT,rfl,y1,y2,z⟩:=z_;subst e_;exact ⟨T,[x,y],rfl,SqT.of a8,rfl,x,[y],rfl,y,[],rfl,rfl,ext2,ps i T x y acc H hlt p (y1 xs q1) (y2 ys q2) nT⟩
 · have ei:i=xs.length:=by omega
   subst ei;exact .inl ⟨⟨xs,ys,q1,q2,yP _⟩,pd acc H p⟩
end Dj
namespace L2
open PySem PySem.Spec PyProof.Rows
theorem oP {P:Program} {w:World} {K:PySem.W.Frag} {mg mb:Str→Option Value} {CX:CXT} {k:Nat} {fa a:Addr} {fd:FuncData} {x:Str} {sp:Sp} {s₁:Shared} {vs:List Value} {ns:List Int}
 (KX:K.In s₁.heap) (hns:s₁.heap.Ns mainGlobals mg) (hb:s₁.heap.Ns builtinsNs mb) (hbb:∀x:Str,x≠"__name__"→mb x=bootBuiltins x) (hlim:s₁.heap.NoLimit) (hg:s₁.gens= #[])
 (ha:s₁.heap.get? a=some {cls:= .type "list",data:= .seq vs.toArray}) (hi:IntsAre vs ns) (hl:ns.length≤sizeLine) (hr:Room k callerA)
 {T0 c0:Addr} (hT0:s₁.heap.get? T0=some (PySem.W.tabObj #[])) (kT0:K.lookup T0=none) (cT0:PySem.W.codeHdIn K c0 T0=true) (hbm:s₁.heap.BuiltinsAt mg T0)
 (F:∀base:Heap,K.In base→base.Ns mainGlobals mg→base.BuiltinsAt mg T0→FnOk P w K mg base CX k fa fd [x] sp) (hbind:∀(s:Shared) (u:Value),BindsTo s fd ⟨[u],[]⟩ [(x,u)])
 (hsp:∀H:Hp,H T0=some (.tbl #[])→SqL K H a (ns.map V.int)→sp [.ref a] H (fun v _=>v= .bl true) fun _ _ _=>False)
 (hCX:∀H e s',CX [] H s₁ (fun _ _ _=>False) e s'→False):
 codeAny (model P w) callerA (.call (.ref fa) ⟨[.ref a],[]⟩) (fun r s'=>r= .ok (.ret (.bool true))∧OldK s₁.heap s'.heap∧s'.os=s₁.os∧AllBare s'.gens) s₁:=by
 have rv:=iz hi;have lenV:=hi.length
 have core:∀H:Hp,Only H→SqL K H a (ns.map V.int)→HOk P w H s₁.heap→(∀b,H b≠none→b=a)→(H a≠none→K.lookup a=none)→
  codeAny (model P w) callerA (.call (.ref fa) ⟨[.ref a],[]⟩) (fun r s'=>r= .ok (.ret (.bool true))∧OldK s₁.heap s'.heap∧s'.os=s₁.os∧AllBare s'.gens) s₁:=by
  intro H₁ hO hS₁ hok₁ hA₁ hK
  have aT:a≠T0:=fun z=>by
   rw [←z,ha] at hT0;cases hT0
  have hTn:H₁ T0=none:=by
   cases q:H₁ T0 with
   |none=>rfl
   |some u=>exact absurd (hA₁ T0 (by rw [q];simp)).symm aT
  obtain ⟨H,eH⟩:∃H,H=upd H₁ T0 (.tbl #[]):=⟨_,rfl⟩;have hHT:H T0=some (.tbl #[]):=by rw [eH];exact a8
  have hH:∀b,b≠T0→H b=H₁ b:=fun b n=>by rw [eH];exact af n
  have hA:∀b,H b≠none→b=a∨b=T0:=fun b n=>by
   by_cases z:b=T0
   · exact .inr z
   · exact .inl (hA₁ b (by rw [←hH b z];exact n))
  have hS:SqL K H a (ns.map V.int):=by
   rcases hS₁ with (h|⟨o,h⟩)|h
   · exact .inl (.inl ((hH a aT).trans h))
   · exact .inl (.inr ⟨o,(hH a aT).trans h⟩)
   · exact .inr h
  have hok:HOk P w H s₁.heap:=fun b u e=>by
   by_cases hb:b=T0
   · subst hb;rw [hHT] at e;cases e;exact hT0
   · rw [hH b hb] at e;exact (hok₁ b u e).stay (fun c v _ q=>q) (fun c q=>by rw [hH c (fun z=>by rw [z,hTn] at q;cases q)];exact q) fun c xs q=>by rw [hH c (fun z=>by rw [z,hTn] at q;cases q)];exact q
  have base_of:∀ {b:Addr} {o:Obj},s₁.heap.get? b=some o→H b=none→(hidT s₁.heap H).get? b=some o:=fun e n=>sI e n
  have noA:∀ {b:Addr} {o:Obj} {es:Array DictEntry} {ep:Nat},s₁.heap.get? b=some o→o.data= .dict es ep→H b=none:=fun {b o es ep} e d=>by
   cases q:H b with
   |none=>rfl
   |some u=>
    rcases hA b (by rw [q];simp) with e'|e'
    · subst e';rw [ha] at e;cases e;have d':Data.seq vs.toArray _=Data.dict es ep:=d;cases d'
    · subst e';rw [hT0] at e;cases e;cases d
  have nsK:∀ {b:Addr} {m:Str→Option Value},s₁.heap.Ns b m→(hidT s₁.heap H).Ns b m:=fun {b m} ⟨o,es,ep,e,d,r⟩=>⟨o,es,ep,base_of e (noA e d),d,r⟩
  have hKb:K.In (hidT s₁.heap H):=fun b o e=>base_of (KX b o e) (by
   cases q:H b with
   |none=>rfl
   |some u=>
    rcases hA b (by rw [q];simp) with e'|e'
    · subst e';rw [hK (by rw [←hH b aT,q];simp)] at e;cases e
    · subst e'
      rw [kT0] at e;cases e)
  have hM:Mod K mg (hidT s₁.heap H):=⟨hKb,nsK hns,⟨mb,nsK hb,hbb⟩,let ⟨mc,h1,h2⟩:=hlim;⟨mc,nsK h1,h2⟩⟩
  have hbm':(hidT s₁.heap H).BuiltinsAt mg T0:=by
   refine hZq fun q_ e_=> ?_;obtain ⟨bm,ob,b1,b2,b3,b4,b5,b6,b7,b8⟩:=hbm;subst e_;refine ⟨bm,ob,b1,b2,b3,b4,base_of b5 ?_,b6,b7,b8⟩
   cases q:H bm with
   |none=>rfl
   |some u=>
    rcases hA bm (by rw [q];simp) with e'|e'
    · subst e';rw [ha] at b5;cases b5;cases b8
    · exact absurd e' b4
  have e0:Env0 P w K mg (hidT s₁.heap H) callerA [] s₁ H:=⟨rfl,hM,fun b o e=>⟨(nj e).1, .inl (nj e).2⟩,Nat.le_of_eq (oR _ _),trivial,fun b hb=>absurd (show b∈([]:List Addr) from hb) (by simp),hok, .of_eq hg⟩
  refine codeAny_mono ((F _ hKb (nsK hns) hbm').run callerA [] s₁ H ⟨[.ref a],[]⟩ [.ref a] [.ref a] _ _ hr e0 (hbind s₁ (.ref a)) (.cons rfl .nil) (hsp H hHT hS)) fun r s' h=> ?_
  cases r with
  |error e=>exact (hCX H e s' h).elim
  |ok fl=>
   cases fl with
   |next=>exact False.elim h
   |brk=>exact False.elim h
   |cont=>exact False.elim h
   |ret u=>
    refine hZq fun q_ e_=> ?_;obtain ⟨v,H',os,bare,un,hok',r',q⟩:=h;subst e_;have q':v= .bl true:=q;subst q';obtain rfl:u=Value.bool true:=r';have htab:=((PySem.W.codeHd_of_K KX cT0).tab hT0).isCodeTable;obtain ⟨more,hm⟩:=un.tbls T0 _ hHT;have hm':=hok' T0 _ hm
    suffices old:∀b o,b≠T0→s₁.heap.get? b=some o→s'.heap.get? b=some o by
     refine ⟨rfl,⟨fun b o e=> ?_,fun b o e=> ?_⟩,os,bare⟩
     · by_cases hb:b=T0
       · subst hb;rw [hT0] at e;cases e;exact .inr (.inl ⟨htab,rfl, #[],more,rfl,hm'⟩)
       · exact .inl (old b o hb e)
     · by_cases hb:b=T0
       · subst hb;exact ⟨_,hm'⟩
       · exact ⟨o,old b o hb e⟩
    intro b o hb e
    cases q:H b with
    |none=>exact un.keep b o e (.inl q) (by intro z;exact absurd (show b∈([]:List Addr) from z) (by simp)) (by simp)
    |some u=>
     rw [hH b hb] at q;rcases hO b with z|⟨ob,xs,z⟩
     · rw [q] at z;cases z
     · have z2:=un.frzs b ob _ ((hH b hb).trans z);obtain ⟨e1,_⟩:=hok₁ b _ z;obtain ⟨e2,_⟩:=hok' b _ z2;rw [e] at e1;cases e1;exact e2
 cases hk:K.lookup a with
 |some o=>
  have e:=KX a o hk;rw [ha] at e;cases e;refine core (fun _=>none) (fun _=> .inl rfl) (.inr ⟨_,vs.toArray,_,hk,rfl,rfl,rfl,by rw [yU,lenV];exact hl,by simpa using rv⟩) (fun b u z=>by have z':(none:Option HO)=some u:=z;cases z') (fun b z=>absurd rfl z) fun z=>absurd rfl z
 |none=>
  refine core (fun b=>if b=a then some (.frz {cls:= .type "list",data:= .seq vs.toArray} (.lst (ns.map V.int))) else none) (fun b=> ?_) (.inl (.inr ⟨{cls:= .type "list",data:= .seq vs.toArray},if_pos rfl⟩)) (fun b u z=> ?_) (fun b z=> ?_) fun _=>hk
  · by_cases hb:b=a
    · exact .inr ⟨_,_,if_pos hb⟩
    · exact .inl (if_neg hb)
  · by_cases hb:b=a
    · have z':=(if_pos hb).symm.trans z;cases z';subst hb;exact ⟨ha,by rw [yM];exact hl,vs,_,rv,ha⟩
    · have z':=(if_neg hb).symm.trans z;cases z'
  · by_cases hb:b=a
    · exact hb
    · exact absurd (if_neg hb) z
theorem walk_ofT {l:PySem.W.OpenLaw} {n k:Nat} {q:Program} {loose:List Str} {XP:(Str→Option Value)→Heap→Prop} {YP:World→Heap→Prop} {d:DefRec} {K:Params→PySem.W.Frag} {CX:World→CXT} {sp:World→Addr→Sp} {T0:Addr} {x:Str}
 (hn:l.most=some n) (hn2:n≤sizeLine) (hdf:d.params.defaults= []) (hr:Room k callerA)
 (hY:∀(w:World) (h:Heap),YP w h→(K w.params).In h) (hYT:∀(w:World) (h:Heap),YP w h→h.get? T0=some (PySem.W.tabObj #[]))
 (F:∀(w:World) (mg:Str→Option Value) (fa:Addr) (h:Heap),(K w.params).In h→h.Ns mainGlobals mg→mg d.name=some (.ref fa)→
  ∃(c0:Addr),(K w.params).lookup T0=none∧PySem.W.codeHdIn (K w.params) c0 T0=true∧∃fd:FuncData,(∀(s:Shared) (u:Value),BindsTo s fd ⟨[u],[]⟩ [(x,u)])∧
   ∀base:Heap,(K w.params).In base→base.Ns mainGlobals mg→base.BuiltinsAt mg T0→FnOk l.prog w (K w.params) mg base (CX w) k fa fd [x] (sp w T0))
 (hsp:∀(w:World) (H:Hp) (a:Addr) (ns:List Int),ns.length≤n→H T0=some (.tbl #[])→SqL (K w.params) H a (ns.map V.int)→sp w T0 [.ref a] H (fun v _=>v= .bl true) fun _ _ _=>False)
 (hCX:∀(w:World) (H:Hp) (s:Shared) (e:Value) (s':Shared),CX w [] H s (fun _ _ _=>False) e s'→False):
 PySem.W.WalkO q loose XP YP l.row.toRowW d [] (fun f vs=>PySem.call f vs):=by
 refine Att.attach_call hn hdf fun w s₀ s₁ mg mb fa o pm cd doc a vs ns G Y ho hd hcd hmg hobj hints hlen hg=> ?_;have KX:=hY w _ Y;obtain ⟨c0,kT0,cT0,fd,hb,hF⟩:=F w mg fa _ KX G.T.g hmg;have hT0:=hYT w _ Y;obtain ⟨bm,ob,b1,b2,b3,b4,b5,b6⟩:=G.T.bmain
 have hbP:bm≠T0:=fun q=>by
  rw [q,hT0] at b3;cases b3;cases b4
 have hbG:bm≠mainGlobals:=fun q=>by
  obtain ⟨o,es,ep,e,hd,_⟩:=G.T.g;rw [q,e] at b3;cases b3;rw [hd] at b6;cases b6
 exact oP KX G.T.g G.T.b G.T.builtins G.T.nolimit hg hobj hints (yY hlen hn2) hr hT0 kT0 cT0 ⟨bm,ob,b1,b2,hbG,hbP,b3,b4,b5,b6⟩ hF hb (fun H hO hS=>hsp w H a ns hlen hO hS) fun H e s'=>hCX w H s₁ e s'
open PySem PySem.Spec PyProof.Rows
theorem oY (a u v:Value):argsOk "min" ⟨[a],[(Str.ofString "key",u),(Str.ofString "default",v)]⟩:=by unfold argsOk;kernel_rfl
theorem du:(toString "min"++toString ".loop":String)= "min.loop":=by decide
section
variable {prog:Program} {w:World} {A:Around} {R:Result→Shared→Prop} {it S q:Addr} {fp wr:List Addr} {n:Nat} {P:Nat→Value→Prop} {St:Nat→Heap→Prop} {kw:List (Str×Value)} {s₀:Shared} {G:Heap→Prop} {kf:Nat→Int}
def Kp (wr:List Addr) (S:Addr) (h h':Heap):Prop:=∀b o,b∉wr→b≠S→h.get? b=some o→h'.get? b=some o
theorem Kp.trans {wr:List Addr} {S:Addr} {a b c:Heap} (x:Kp wr S a b) (y:Kp wr S b c):Kp wr S a c:=fun d o h1 h2 e=>y d o h1 h2 (x d o h1 h2 e)
theorem oI (W:Walks prog w A.in1 it fp wr n P St) (nS:S∉fp) (hG:∀h h',G h→Kp wr S h h'→G h')
 (turn:∀i v h tk,i < n→P i v→G h→wpAny (model prog w) A.in1 (call (.ref q) [v]) (fun x s''=>∃t h' tk',x=Value.int (kf i) t∧s''= {s₀ with heap:=h',toks:=tk'}∧∀b o,h.get? b=some o→h'.get? b=some o) (fun _ _=>False) {s₀ with heap:=h,toks:=tk}):
 ∀(k j i:Nat) (h:Heap) (tk:Nat) (vb:Value) (tb:Tok) (c:Nat),j+k=n→St j h→G h→
 h.get? S=some ({cls:= .type "list",data:= .seq #[vb,Value.int (kf i) tb] c}:Obj)→P i vb→i < n→(∀j',j' < j→kf i≤kf j')→
 (∀(i:Nat) (v:Value) (h':Heap) (tk:Nat),i < n→P i v→(∀j,j < n→kf i≤kf j)→Kp wr S h h'→R (.ok (.ret v)) {s₀ with heap:=h',toks:=tk})→
 codeAny (model prog w) A (.builtin "min.loop" ⟨[.ref it, .ref q, .ref S],kw⟩) R {s₀ with heap:=h,toks:=tk}:=by
 have nw:S∉wr:=fun z=>nS (W.sub _ z);intro k
 induction k with
 |zero=>
  intro j i h tk vb tb c e st hg gS pb hi hb hR;have e':j=n:=by omega
  subst e';refine codeAny_builtin PySem.F.entry_min_loop ?_;rw [Around.under_plainId PySem.F.plain_min_loop _];show wpAny _ A.in1 (seqItems? (.ref S) >>=fun _=>_) _ _ _;refine wpAny_bind (wpAny_seqItems gS rfl ?_);show wpAny _ A.in1 (tryCatch (pyNext (.ref it)) _ >>=fun _=>_) _ _ _;refine wpAny_bind (wpAny_tryCatch (W.done _ _ _ st fun h1 tk1 k1=> ?_));have gS1:=k1 S _ nw gS;show wpAny _ A.in1 (updateSeq S (fun _=> #[]) >>=fun _=>_) _ _ _;refine wpAny_bind (wpAny_updateSeq gS1 rfl (wpAny_bind (wpAny_letGo (wpAny_pure ?_))));exact hR i vb _ tk1 hi pb hb fun b o nb nbS eb=>(Heap.get?_update_other _ _ (Ne.symm nbS)).trans (k1 b o nb eb)
 |succ k ih=>
  intro j i h tk vb tb c e st hg gS pb hi hb hR;refine codeAny_builtin PySem.F.entry_min_loop ?_;rw [Around.under_plainId PySem.F.plain_min_loop _];show wpAny _ A.in1 (seqItems? (.ref S) >>=fun _=>_) _ _ _;refine wpAny_bind (wpAny_seqItems gS rfl ?_);show wpAny _ A.in1 (tryCatch (pyNext (.ref it)) _ >>=fun _=>_) _ _ _;refine wpAny_bind (wpAny_tryCatch (W.item j _ _ _ (by omega) st fun v h1 tk1 pv st1 k1=> ?_))
  have gS1:=k1 S _ nw gS;have kp1:Kp wr S h h1:=fun b o nb _ eb=>k1 b o nb eb;show wpAny _ A.in1 (tryCatch (holding [v] (call (.ref q) [v])) _ >>=_) _ _ _;refine wpAny_bind (wpAny_tryCatch (wpAny_holding (wpAny_mono (turn j v h1 tk1 (by omega) pv (hG _ _ hg kp1)) (fun x s'' he=> ?_) fun _ _ hF=>hF.elim)))
  refine hZq fun q_ e_=> ?_;obtain ⟨t2,h2,tk2,rfl,rfl,k2⟩:=he;subst e_;have kp2:Kp wr S h h2:=fun b o nb nS eb=>k2 b o (kp1 b o nb nS eb);have st2:St (j+1) h2:=W.frame _ _ _ st1 fun b hb o eo=>k2 b o eo;have gS2:=k2 _ _ gS1;show wpAny _ A.in1 (tryCatch (holding [v, .int (kf j) t2] (richCompare .Lt (.int (kf j) t2) (.int (kf i) tb) >>=_)) _ >>=_) _ _ _;refine wpAny_bind (wpAny_tryCatch (wpAny_holding (wpAny_bind (CmpOf.ints_lt (prog:=prog) (w:=w) (A:=A.in1) (P:=fun i v=>∃t,v= .int (kf i) t) kf (fun i v h=>h) j i _ _ _ _ _ ⟨t2,rfl⟩ ⟨tb,rfl⟩ ?_))));refine wpAny_bind (wpAny_holding (wpAny_truthy_bool ?_));refine wpAny_bind (wpAny_letGo (wpAny_pure ?_));by_cases hb':kf j < kf i
  · simp only [hb',decide_true,if_true];refine wpAny_bind (wpAny_updateSeq gS2 rfl (wpAny_bind (wpAny_letGo ?_)));rw [du];have kp3:Kp wr S h (h2.update S (Obj.mapSeq fun _=> #[v, .int (kf j) t2])):=fun b o nb nbS eb=>(Heap.get?_update_other _ _ (Ne.symm nbS)).trans (kp2 b o nb nbS eb);refine wpAny_pure ⟨plainId_quiet PySem.F.plain_min_loop _,ih (j+1) j _ _ v t2 _ (by omega) (W.frame _ _ _ st2 fun b hb o eo=>(Heap.get?_update_other _ _ (fun z:S=b=>nS (by rw [z];exact hb))).trans eo) (hG _ _ hg kp3) (Heap.get?_update_self _ gS2 rfl) pv (by omega) (fun j' hj=> ?_) fun i' v' h3 tk3 a1 a2 a3 a4=>hR i' v' h3 tk3 a1 a2 a3 (kp3.trans a4)⟩
    by_cases z:j'=j
    · rw [z];exact Int.le_refl _
    · have:=hb j' (by omega);omega
  · simp only [hb',decide_false,Bool.false_eq_true,if_false];refine wpAny_bind (wpAny_letGo ?_);rw [du];refine wpAny_pure ⟨plainId_quiet PySem.F.plain_min_loop _,ih (j+1) i _ _ vb tb c (by omega) st2 (hG _ _ hg kp2) gS2 pb hi (fun j' hj=> ?_) fun i' v' h3 tk3 a1 a2 a3 a4=>hR i' v' h3 tk3 a1 a2 a3 (kp2.trans a4)⟩
    by_cases z:j'=j
    · rw [z];omega
    · exact hb j' (by omega)
theorem lP (W:Walks prog w A.in1 it fp wr n P St) (nS:S∉fp) (hG:∀h h',G h→Kp wr S h h'→G h')
 (turn:∀i v h tk,i < n→P i v→G h→wpAny (model prog w) A.in1 (call (.ref q) [v]) (fun x s''=>∃t h' tk',x=Value.int (kf i) t∧s''= {s₀ with heap:=h',toks:=tk'}∧∀b o,h.get? b=some o→h'.get? b=some o) (fun _ _=>False) {s₀ with heap:=h,toks:=tk})
 (d:Value) {h:Heap} {tk:Nat} {c:Nat} (st:St 0 h) (hg:G h)
 (gS:h.get? S=some ({cls:= .type "list",data:= .seq #[] c}:Obj))
 (h0:n=0→∀(h':Heap) (tk:Nat),Kp wr S h h'→R (.ok (.ret d)) {s₀ with heap:=h',toks:=tk})
 (hR:∀(i:Nat) (v:Value) (h':Heap) (tk:Nat),i < n→P i v→(∀j,j < n→kf i≤kf j)→Kp wr S h h'→R (.ok (.ret v)) {s₀ with heap:=h',toks:=tk}):
 codeAny (model prog w) A (.builtin "min.loop" ⟨[.ref it, .ref q, .ref S],[(Str.ofString "default",d)]⟩) R {s₀ with heap:=h,toks:=tk}:=by
 have nw:S∉wr:=fun z=>nS (W.sub _ z);refine codeAny_builtin PySem.F.entry_min_loop ?_;rw [Around.under_plainId PySem.F.plain_min_loop _];show wpAny _ A.in1 (seqItems? (.ref S) >>=fun _=>_) _ _ _;refine wpAny_bind (wpAny_seqItems gS rfl ?_);show wpAny _ A.in1 (tryCatch (pyNext (.ref it)) _ >>=fun _=>_) _ _ _;by_cases z:n=0
 · refine wpAny_bind (wpAny_tryCatch (W.done _ _ _ (by rw [z];exact st) fun h1 tk1 k1=> ?_))
   refine wpAny_bind (wpAny_rule (wpAny_pure ?_));exact h0 z _ tk1 fun b o nb _ eb=>k1 b o nb eb
 · refine wpAny_bind (wpAny_tryCatch (W.item 0 _ _ _ (by omega) st fun v h1 tk1 pv st1 k1=> ?_))
   have gS1:=k1 S _ nw gS;have kp1:Kp wr S h h1:=fun b o nb _ eb=>k1 b o nb eb;show wpAny _ A.in1 (tryCatch (holding [v] (call (.ref q) [v])) _ >>=_) _ _ _;refine wpAny_bind (wpAny_tryCatch (wpAny_holding (wpAny_mono (turn 0 v h1 tk1 (by omega) pv (hG _ _ hg kp1)) (fun x s'' he=> ?_) fun _ _ hF=>hF.elim)))
   refine hZq fun q_ e_=> ?_;obtain ⟨t2,h2,tk2,rfl,rfl,k2⟩:=he;subst e_;have kp2:Kp wr S h h2:=fun b o nb nS eb=>k2 b o (kp1 b o nb nS eb);have st2:St 1 h2:=W.frame _ _ _ st1 fun b hb o eo=>k2 b o eo;have gS2:=k2 _ _ gS1;show wpAny _ A.in1 (updateSeq S (fun _=> #[v, .int (kf 0) t2]) >>=_) _ _ _;refine wpAny_bind (wpAny_updateSeq gS2 rfl ?_);rw [du];have kp3:Kp wr S h (h2.update S (Obj.mapSeq fun _=> #[v, .int (kf 0) t2])):=fun b o nb nbS eb=>(Heap.get?_update_other _ _ (Ne.symm nbS)).trans (kp2 b o nb nbS eb);refine wpAny_pure ⟨plainId_quiet PySem.F.plain_min_loop _,oI W nS hG turn (n - 1) 1 0 _ _ v t2 _ (by omega) (W.frame _ _ _ st2 fun b hb o eo=>(Heap.get?_update_other _ _ (fun z:S=b=>nS (by rw [z];exact hb))).trans eo) (hG _ _ hg kp3) (Heap.get?_update_self _ gS2 rfl) pv (by omega) (fun j' hj=> ?_) fun i' v' h3 tk3 a1 a2 a3 a4=>hR i' v' h3 tk3 a1 a2 a3 (kp3.trans a4)⟩
   rw [show j'=0 by omega]
   exact Int.le_refl _
end
open PySem PySem.Spec PyProof.Rows
noncomputable def CdX (c:Addr) (q:Str):HO:= .ext fun h=>h.CodeRec (.ref c) q
theorem xB {P:Program} {w:World} {H:Hp} {h:Heap} {c:Addr} {q:Str} (x:h.CodeRec (.ref c) q):ObjOk P w H h c (CdX c q):=by
 refine ⟨x,?_,fun h1 h2 y k=> ?_⟩
 · obtain ⟨c',o,vs,t,e,ho,_⟩:=x;cases e;exact ⟨o,ho⟩
 · obtain ⟨c',o,vs,t,e,ho,z⟩:=y;cases e;exact ⟨c,o,vs,t,rfl,k o ho,z⟩
def Lam (T0:Addr) (pos:Pos) (q:Str) (H:Hp):Prop:=H T0=some (.tbl #[])∨∃c,H T0=some (.tbl #[rawInt pos.line,rawInt pos.col, .ref c])∧H c=some (CdX c q)
theorem Lam.tb {T0:Addr} {pos:Pos} {q:Str} {H:Hp} (h:Lam T0 pos q H):∃ps,H T0=some (.tbl ps):=by
 rcases h with h|⟨c,h,_⟩
 · exact ⟨_,h⟩
 · exact ⟨_,h⟩
def ButT (T0:Addr) (H H':Hp):Prop:=∀b o,b≠T0→H b=some o→H' b=some o
section
variable {X:Cx} {pins:List (Addr×Obj)} {σ:St} {H:Hp} {s:Shared} {T0 c0:Addr} {params:Arguments} {body:Expr} {scope:Scope} {pos:Pos} {clos:List (Str×Addr)} {Q:Value→Shared→Prop} {E:Value→Shared→Prop} {q:Str}
theorem Inv.pinF {f:Addr} {o:Obj} (I:Inv X pins σ H s) (hf:s.heap.get? f=some o) (hn:H f=none) (hL:f≠X.env.locals) (hs:f∉X.fs) (hd:∀v,o.data≠ .cell v):Inv X ((f,o)::pins) σ H s:=by
 refine {I with pin:=fun p hp=> ?_};rcases ze.mp hp with hp|hp
 · exact I.pin p (zw _ hp)
 · rcases yV.mp hp with rfl|hp
   · exact ⟨hf,hn,hL,hs,hd⟩
   · exact I.pin p (yX _ hp)
theorem Inv.unpin {p:Addr×Obj} (I:Inv X (p::pins) σ H s):Inv X pins σ H s:=by
 refine {I with pin:=fun p hp=> ?_};rcases ze.mp hp with hp|hp
 · exact I.pin p (zw _ hp)
 · exact I.pin p (yX _ (yR _ hp))
theorem ss (I:Inv X pins σ H s) (hcode:X.env.code= .ref c0) (C:PySem.W.codeHdIn X.K c0 T0=true) (hB:X.base.BuiltinsAt X.mg T0) (hdef:defaultsOf params X.env=([],[])) (hcl:closureFor scope X.env=pure clos)
 (hL:Lam T0 pos (X.env.qual++"<lambda>") H)
 (h:∀f c' ctv H' s',Inv X ((f,PySem.W.kla_obj "<lambda>" (X.env.qual++"<lambda>") params body scope clos ((X.mg "__name__").getD .none) c' ctv)::pins) σ H' s'→ButT T0 H H'→Lam T0 pos (X.env.qual++"<lambda>") H'→s'.heap.CodeRec (.ref c') (X.env.qual++"<lambda>")→Q (.ref f) s'):
 wpAny (model X.prog X.w) X.A (eval (.Lambda params body scope pos) X.env) Q E s:=by
 refine PySem.W.kla_eval hdef ?_;have hg:s.heap.Ns mainGlobals X.mg:=I.mod.glob.keeps I.bk;have Ch:PySem.W.CodeHd s.heap c0 T0:=PySem.W.codeHd_of_K I.kIn C
 have hb:s.heap.BuiltinsAt X.mg T0:=by
  refine hZq fun q_ e_=> ?_;obtain ⟨bm,ob,b1,b2,b3,b4,b5,b6⟩:=hB;subst e_;exact ⟨bm,ob,b1,b2,b3,b4,I.bk _ _ b5,b6⟩
 refine hZq fun q_ e_=> ?_;obtain ⟨m,⟨oL,_,_,hoL,_⟩,_⟩:=id I.loc;subst e_;have lL:=Heap.lt_size hoL
 have fsl:∀b∈X.fs,b < s.heap.objs.size:=fun b hb'=>by
  obtain ⟨o,ho,_⟩:=(I.ok.funs.mem hb').2;obtain ⟨o',ho'⟩:=I.base.there b o ho (fun z=>I.ok.exfs b z hb');exact Heap.lt_size ho'
 rcases hL with hL|⟨c,hL,hc⟩
 · have hP:s.heap.get? T0=some (PySem.W.tabObj #[]):=I.hok T0 _ hL
   have hgP:mainGlobals≠T0:=fun e=>by
    refine hZq fun q_ e_=> ?_;obtain ⟨o,es,ep,e1,hd,_⟩:=hg;subst e_;rw [e,hP] at e1;cases e1;cases hd
   refine PySem.W.kla_makeFunction (mg:=X.mg) hcl I.ok.glob hg hcode Ch hP trivial rfl hgP hb fun c' ctv h' tk hx hge hlt hrec htb=> ?_;have hcn:H c'=none:=I.hok.fresh hge;have cT:c'≠T0:=fun e=>by rw [e,hL] at hcn;cases hcn
   have k':∀b o,b≠T0→s.heap.get? b=some o→(h'.push (PySem.W.kla_obj "<lambda>" (X.env.qual++"<lambda>") params body scope clos ((X.mg "__name__").getD .none) c' ctv)).get? b=some o:=fun b o n e=>Heap.get?_push_of_some _ (hx b o n e);have htb':=Heap.get?_push_of_some (PySem.W.kla_obj "<lambda>" (X.env.qual++"<lambda>") params body scope clos ((X.mg "__name__").getD .none) c' ctv) htb
   have hrec':(h'.push (PySem.W.kla_obj "<lambda>" (X.env.qual++"<lambda>") params body scope clos ((X.mg "__name__").getD .none) c' ctv)).CodeRec (.ref c') (X.env.qual++"<lambda>"):=by
    refine hZq fun q_ e_=> ?_;obtain ⟨c2,o,vs,t,e,ho,z⟩:=hrec;subst e_;exact ⟨c2,o,vs,t,e,Heap.get?_push_of_some _ ho,z⟩
   have hf:=Heap.get?_push_size h' (o:=PySem.W.kla_obj "<lambda>" (X.env.qual++"<lambda>") params body scope clos ((X.mg "__name__").getD .none) c' ctv) rfl;generalize hh2:h'.push (PySem.W.kla_obj "<lambda>" (X.env.qual++"<lambda>") params body scope clos ((X.mg "__name__").getD .none) c' ctv)=h2 at*
   have tb:∀b o,H b=some o→(∀ps,o≠ .tbl ps)→b≠T0:=fun b o e n z=>by
    rw [z,hL] at e;exact n _ (zb e).symm
   have hH:∀b,b≠T0→b≠c'→(upd (upd H T0 (.tbl #[rawInt pos.line,rawInt pos.col, .ref c'])) c' (CdX c' (X.env.qual++"<lambda>"))) b=H b:=fun b n1 n2=>by rw [af n2,af n1]
   have nc:∀b o,s.heap.get? b=some o→b≠c':=fun b o e z=>by
    have:=Heap.lt_size e;rw [z] at this;exact absurd this (Nat.not_lt.mpr hge)
   have ncH:∀b o,H b=some o→b≠c':=fun b o e z=>by rw [z,hcn] at e;cases e
   have hT2:(upd (upd H T0 (.tbl #[rawInt pos.line,rawInt pos.col, .ref c'])) c' (CdX c' (X.env.qual++"<lambda>"))) T0=some (.tbl #[rawInt pos.line,rawInt pos.col, .ref c']):=by rw [af (Ne.symm cT),a8]
   have hok2:HOk X.prog X.w (upd (upd H T0 (.tbl #[rawInt pos.line,rawInt pos.col, .ref c'])) c' (CdX c' (X.env.qual++"<lambda>"))) h2:=fun b u e=>by
    by_cases b1:b=c'
    · subst b1;rw [a8] at e;cases e;exact xB hrec'
    · by_cases b2:b=T0
      · subst b2;rw [hT2] at e;cases e;show h2.get? _=some _;rw [htb'];rfl
      · rw [hH b b2 b1] at e;refine (I.hok b u e).stay (fun c v z q=>k' c v ?_ q) (fun c q=> ?_) fun c xs q=> ?_
        · rcases z with rfl|z
          · exact b2
          · exact tb _ _ z (by intro ps y;cases y)
        · rw [hH c (tb _ _ q (by intro ps y;cases y)) (ncH _ _ q)]
          exact q
        · rw [hH c (tb _ _ q (by intro ps y;cases y)) (ncH _ _ q)]
          exact q
   have idT:∀b,Idl (H b)→b≠T0:=fun b i z=>by
    rw [z,hL] at i;rcases i with i|⟨xs,i⟩<;>cases i
   have I2:=I.step (h':=h2) (H':=upd (upd H T0 (.tbl #[rawInt pos.line,rawInt pos.col, .ref c'])) c' (CdX c' (X.env.qual++"<lambda>"))) (g':=s.gens) (d':=s.drawn) (t':=tk) (ch:= []) (fun _ z=>nomatch z) (fun b o _ _ _ e n=>k' b o (idT b n) e)
    (fun b o _ _ _ e n=>⟨o.slots,k' b o (idT b (.inl n)) e⟩) (fun b o _ e n=>by rw [hH b (idT b (.inl n)) (nc b o e)];exact n)
    (fun b o _ e=>by
     by_cases z:b=T0
     · exact ⟨_,z▸htb'⟩
     · exact ⟨o,k' b o z e⟩)
    (fun b xs e=>by rw [hH b (tb _ _ e (by intro ps y;cases y)) (ncH _ _ e)];exact e) (fun b o u e=>by rw [hH b (tb _ _ e (by intro ps y;cases y)) (ncH _ _ e)];exact e)
    (fun b ps e=>by
     by_cases z:b=T0
     · subst z;rw [hL] at e;cases e;exact ⟨#[rawInt pos.line,rawInt pos.col, .ref c'],by rw [hT2];rfl⟩
     · exact ⟨#[],by rw [hH b z (ncH _ _ e),e];simp⟩)
    (fun m' ⟨o,es,ep,e,r⟩=>⟨o,es,ep,k' _ o (fun z=>by have:=I.free;rw [z,hL] at this;cases this) e,r⟩) hok2 I.bare
   have szf:s.heap.objs.size≤h'.objs.size:=by omega
   refine h h'.objs.size c' ctv _ _ (I2.pinF hf ?_ ?_ ?_ (by intro v z;cases z)) (fun b o n e=>by rw [hH b n (ncH _ _ e)];exact e) (.inr ⟨c',hT2,a8⟩) hrec'
   · rw [hH _ (fun z=>by have:=Heap.lt_size hP;rw [←z] at this;exact absurd this (Nat.not_lt.mpr szf)) (fun z=>by rw [←z] at hlt;exact absurd hlt (zW _))]
     exact I.hok.fresh szf
   · exact fun z=>by rw [←z] at lL;exact absurd lL (Nat.not_lt.mpr szf)
   · exact fun z=>absurd (fsl _ z) (Nat.not_lt.mpr szf)
 · have hP:s.heap.get? T0=some (PySem.W.tabObj #[rawInt pos.line,rawInt pos.col, .ref c]):=I.hok T0 _ hL;have hrec:s.heap.CodeRec (.ref c) (X.env.qual++"<lambda>"):=(I.hok c _ hc).1;refine PySem.W.kla_makeFunctionHit (mg:=X.mg) (cv:= .ref c) hcl I.ok.glob hg hcode Ch hP trivial (by simp [codeAmong,rawInt]) hb fun ctv h' tk hk hsz=> ?_
   have k':∀b o,s.heap.get? b=some o→(h'.push (PySem.W.kla_obj "<lambda>" (X.env.qual++"<lambda>") params body scope clos ((X.mg "__name__").getD .none) c ctv)).get? b=some o:=fun b o e=>Heap.get?_push_of_some _ (hk b o e);have hf:=Heap.get?_push_size h' (o:=PySem.W.kla_obj "<lambda>" (X.env.qual++"<lambda>") params body scope clos ((X.mg "__name__").getD .none) c ctv) rfl;refine h h'.objs.size c ctv H _ ((I.kept (t':=tk) k').pinF hf (I.hok.fresh hsz) ?_ ?_ (by intro v z;cases z)) (fun b o _ e=>e) (.inr ⟨c,hL,hc⟩) ?_
   · exact fun z=>by rw [←z] at lL;exact absurd lL (Nat.not_lt.mpr hsz)
   · exact fun z=>absurd (fsl _ z) (Nat.not_lt.mpr hsz)
   · obtain ⟨c2,o,vs,t,e,ho,z⟩:=hrec;exact ⟨c2,o,vs,t,e,k' _ _ ho,z⟩
end
open PySem PySem.Spec PyProof.Rows
noncomputable abbrev lmSc:Scope:= {kind:= .function,names:= [(Str.ofString "place", .local),(Str.ofString "numbers", .free)],isGenerator:=false,isCoroutine:=false,more:= []}
noncomputable abbrev lmAr (p:Pos):Arguments:= {posonlyargs:= [],args:= [{arg:="place",annotation:=none,pos:=p}],vararg:=none,kwonlyargs:= [],kw_defaults:= [],kwarg:=none,defaults:= []}
noncomputable abbrev lmBd (p1 p2 p3:Pos):Expr:= .Subscript (.Name "numbers" p1) (.Name "place" p2) p3
theorem uw {env:Env} {c:Addr} (h:env.cells.lookup (Str.ofString "numbers")=some c):closureFor lmSc env=pure [(Str.ofString "numbers",c)]:=by
 have e:cellOf env (Str.ofString "numbers")=pure c:=by unfold cellOf;rw [h]
 unfold closureFor;simp only [List.forIn_cons,List.forIn_nil,pure_bind,bind_pure_comp];simp [e]
theorem sv {prog:Program} {w:World} {A:Around} {s:Shared} {f a c c':Addr} {q:Str} {p0 p1 p2 p3:Pos} {pm ctv:Value} {its:Array Value} {i k:Int} {t u:Tok} (hroom:A.depth < recursionLimit)
 (ho:s.heap.get? f=some (PySem.W.kla_obj "<lambda>" q (lmAr p0) (lmBd p1 p2 p3) lmSc [(Str.ofString "numbers",c)] pm c' ctv)) (hrec:s.heap.CodeRec (.ref c') q) (hlim:s.heap.NoLimit)
 (hcell:s.heap.IsCell c (some (.ref a))) (hl:s.heap.IsList a its) (h0:0≤i) (hfit:i < 2^63) (hx:its[i.toNat]?=some (.int k u)):
 wpAny (model prog w) A (call (.ref f) [.int i t]) (fun x s''=>∃t h' tk',x=Value.int k t∧s''= {s with heap:=h',toks:=tk'}∧∀b o,s.heap.get? b=some o→h'.get? b=some o) (fun _ _=>False) s:=by
 refine wpAny_call (PySem.W.kla_callFunE hroom ho rfl rfl rfl rfl hrec ?_);rw [show bindArgs (PySem.W.kla_fn "<lambda>" q (lmAr p0) (lmBd p1 p2 p3) lmSc [(Str.ofString "numbers",c)] pm (.ref c') ctv) ⟨[.int i t],[]⟩=pure [(Str.ofString "place", .int i t)] from rfl]
 refine wpAny_pure (wpAny_newFunctionEnv (scope:=lmSc) (by decide +kernel) (by
  intro x m;rw [z5.mp m];show List.lookup (Str.ofString "place") lmSc.names=_
  decide +kernel) (fun h₁ hns hsb=>⟨hlim.fresh _ hsb,PySem.W.kla_codeExpr ?_⟩) rfl)
 have hk₁:∀b o,s.heap.get? b=some o→h₁.get? b=some o:=fun b o e=>hsb.extBut b o (yZ (Heap.lt_size e)) (Heap.get?_push_of_some _ e);refine Subscript_ (wpAny_Name (wpAny_loadName_free rfl (show List.lookup (Str.ofString "numbers") lmSc.names=some .free by decide +kernel) (c:=c) (v:= .ref a) ?_ (hcell.keeps hk₁) ?_ (by decide +kernel)) (by decide +kernel))
 · show List.lookup (Str.ofString "numbers") [(Str.ofString "numbers",c)]=some c;simp
 refine wpAny_Name (wpAny_loadName_local rfl (show List.lookup (Str.ofString "place") lmSc.names=some .local by decide +kernel) hns (v:= .int i t) ?_ ?_) (by decide +kernel)
 · show List.lookup (Str.ofString "place") [(Str.ofString "place",Value.int i t)]=_;simp
 obtain ⟨ol,hol,hr⟩:=hl;refine item_listR (s:= {s with heap:=h₁,toks:=_}) (items:=its) ⟨ol,hk₁ _ _ hol,hr⟩ h0 hfit hx ?_;exact ⟨u,h₁,_,rfl,rfl,hk₁⟩
theorem SqL.butT {K:PySem.W.Frag} {H H':Hp} {T0 a:Addr} {xs:List V} {ps:Array Value} (hT:H T0=some (.tbl ps)) (b:ButT T0 H H') (h:SqL K H a xs):SqL K H' a xs:=by
 rcases h with (h|⟨o,h⟩)|h
 · exact .inl (.inl (b _ _ (fun z=>by rw [z,hT] at h;cases h) h))
 · exact .inl (.inr ⟨o,b _ _ (fun z=>by rw [z,hT] at h;cases h) h⟩)
 · exact .inr h
noncomputable def nv (ps:List Nat):List V:=ps.map fun (p:Nat)=>V.int (p:Int)
def vH (K:PySem.W.Frag) (T0:Addr) (pos:Pos) (q:Str):TE:=fun σ H Q=>∃(a b:Addr) (ns:List Int) (ps:List Nat),σ[0]?=some (some (.ref a))∧σ[1]?=some (some (.ref b))∧SqL K H a (ns.map V.int)∧SqL K H b (nv ps)∧(∀p∈ps,p < ns.length)∧Lam T0 pos q H∧
 (ps= []→∀H',ButT T0 H H'→Lam T0 pos q H'→Q .non H')∧∀p∈ps,(∀r∈ps,ns.getD p 0≤ns.getD r 0)→∀H',ButT T0 H H'→Lam T0 pos q H'→Q (.int (p:Int)) H'
theorem rC {X:Cx} {T0 c0:Addr} {p p' p0 p1 p2 p3 p4 pos kp kp2 cpos:Pos} {k:Nat} (hc:X.calm=true) (hr:Room k X.A) (hN:X.N= [Str.ofString "numbers",Str.ofString "places"]) (hn:X.env.scope.names.lookup (Str.ofString "numbers")=some .cell) (hpl:Vis X.env.scope (Str.ofString "places"))
 (hcode:X.env.code= .ref c0) (C:PySem.W.codeHdIn X.K c0 T0=true) (hB:X.base.BuiltinsAt X.mg T0) (hg:Gl X (Str.ofString "min")) (hm:X.mg (Str.ofString "min")=none):
 PE X (.Call (.Name "min" p) [.Name "places" p'] [⟨some (Str.ofString "key"), .Lambda (lmAr p0) (lmBd p1 p2 p3) lmSc pos,kp⟩,⟨some (Str.ofString "default"), .Constant .none 0 p4,kp2⟩] cpos) (vH X.K T0 pos (X.env.qual++"<lambda>")):=by
 intro pins s σ H Q I h;refine hZq fun q_ e_=> ?_;obtain ⟨a,b,ns,ps,e0,e1,ha,hb,hps,hL,hnil,hbest⟩:=h;subst e_;refine wpAny_Call_Name_kw (eU I hg hm boot_min ?_ (by decide) (by decide))
 refine PyProof.Rows.callWith_kw (thn ((a0 (rA (i:=1) (by rw [hN];rfl) hpl (by decide) (by decide)) a9) cpos pins s σ H (fun vs H1=>vs= [.ref b]∧H1=H) I ⟨_,e1,rfl,rfl⟩) fun us s1 ⟨vs,H1,I1,r1,q1⟩=> ?_)
 obtain ⟨rfl,rfl⟩:=q1;obtain ⟨u,rfl,ru⟩:=cP r1;cases ru;obtain ⟨ps0,hT⟩:=hL.tb;show wpAny _ _ (evalAll ((do let v←eval (.Lambda (lmAr p0) (lmBd p1 p2 p3) lmSc pos) X.env;standAt cpos;pure v)::(do let v←eval (.Constant .none 0 p4) X.env;standAt cpos;pure v):: [])) _ _ s1
 have lk:=I1.loc;obtain ⟨m,hns,hlk⟩:=lk;obtain ⟨u,ru,l⟩:=hlk 0 (Str.ofString "numbers") (.ref a) (by rw [hN];rfl) e0 (.inr (.inl hn))
 cases ru
 obtain ⟨c,hcl,hcell⟩:∃c,X.env.cells.lookup (Str.ofString "numbers")=some c∧s1.heap.IsCell c (some (.ref a)):=by
  rcases l with ⟨l,_⟩|⟨_,l⟩
  · have:X.env.scope.names.lookup (Str.ofString "numbers")=some .local:=l;rw [hn] at this;cases this
  · exact l
 refine wpAny_evalAll_cons (wpAny_bind (ss I1 hcode C hB rfl (uw hcl) hL fun f c' ctv H2 s2 I2 bt hL2 hrec=>wpAny_bind (wpAny_standAt (wpAny_pure ?_))));refine wpAny_evalAll_cons (wpAny_bind (Constant_none (wpAny_bind (wpAny_standAt (wpAny_pure (wpAny_evalAll_nil ?_))))));show wpAny _ X.A (call (.builtin "min") [.ref b] [(Str.ofString "key", .ref f),(Str.ofString "default", .none)]) _ _ s2;have hb2:=SqL.butT hT bt hb;have ha2:=SqL.butT hT bt ha;refine hZq fun q_ e_=> ?_;obtain ⟨its,rv,pl,_⟩:=I2.list hb2;subst e_;refine hZq fun q_ e_=> ?_;obtain ⟨ita,rva,pla,hza⟩:=I2.list ha2;subst e_;have hlen:=rv.length;unfold nv at hlen;rw [yM] at hlen;have hlt:b < s2.heap.objs.size:=by obtain ⟨_,e,_⟩:=pl.isList;exact Heap.lt_size e
 have hfo:=(I2.pin _ (yX _ yO)).1
 have hcell2:s2.heap.IsCell c (some (.ref a)):=by
  obtain ⟨m2,_,hlk2⟩:=I2.loc;obtain ⟨u,ru,l⟩:=hlk2 0 (Str.ofString "numbers") (.ref a) (by rw [hN];rfl) e0 (.inr (.inl hn))
  cases ru;rcases l with ⟨l,_⟩|⟨_,c2,l1,l2⟩
  · have:X.env.scope.names.lookup (Str.ofString "numbers")=some .local:=l;rw [hn] at this;cases this
  · rw [hcl] at l1;cases l1;exact l2
 refine PyProof.Rows.kmk_tree PySem.F.kind_min PySem.F.plain_min PySem.F.entry_min (oY _ _ _) ?_;show wpAny _ X.A.in1 (Builtin.Builtins.bindParams "min" ["key","default"] 0 ⟨[],[(Str.ofString "key", .ref f),(Str.ofString "default", .none)]⟩ >>=fun _=>_) _ _ s2;refine wpAny_bind (wpAny_of_eq (show Builtin.Builtins.bindParams "min" ["key","default"] 0 ⟨[],[(Str.ofString "key", .ref f),(Str.ofString "default", .none)]⟩=pure [some (.ref f),some .none] from rfl) ?_);refine wpAny_bind (wpAny_pure (wpAny_bind (wpAny_pyIter_list pl.isList (wpAny_bind (wpAny_newObj_type ?_ (zf _))))));rw [du];have sz1:∀o:Obj,(s2.heap.push o).objs.size=s2.heap.objs.size+1:=fun o=>Heap.size_push ..
 have kp0:∀ {h':Heap},Kp [s2.heap.objs.size] (s2.heap.push {cls:= .type "list_iterator",data:= .fields #[.ref b, .int 0 0]}).objs.size ((s2.heap.push {cls:= .type "list_iterator",data:= .fields #[.ref b, .int 0 0]}).push {cls:= .type "list",data:= .seq ([]:List Value).toArray}) h'→∀b o,s2.heap.get? b=some o→h'.get? b=some o:=fun hk b x ex=>hk b x (fun hm=>by
  rw [z5.mp hm] at ex;exact zW _ (Heap.lt_size ex)) (fun e=>by
  have l:=Heap.lt_size ex;rw [e] at l
  exact absurd l (by rw [sz1];exact Nat.not_lt.mpr (Nat.le_succ _))) (Heap.get?_push_of_some _ (Heap.get?_push_of_some _ ex))
 have fin:∀ {x:V} {v:Value} {h':Heap} {tk:Nat},(∀b o,s2.heap.get? b=some o→h'.get? b=some o)→RelV x v→Q x H2→EP X pins σ Q v {s2 with heap:=h',toks:=tk}:=fun hk r q=>⟨_,H2,(I2.unpin).kept hk,r,q⟩
 have it_of:∀i v,its.toArray[i]?=some v→∃(hi:i < ps.length) (t:Tok),v= .int (ps[i]:Int) t:=fun i v e=>by
  have e':its[i]?=some v:=by simpa using e
  have hi:i < ps.length:=by have:=(yW.mp e').1;omega
  obtain ⟨y,ey,ry⟩:=rv.get (i:=i) (x:= .int (ps[i]:Int)) (by unfold nv;rw [yQ,yN hi];rfl)
  rw [e'] at ey;cases ey;exact ⟨hi,ry⟩
 refine wpAny_pure ⟨plainId_quiet PySem.F.plain_min_loop _,lP (s₀:=s2) (G:=fun h=>∀b o,s2.heap.get? b=some o→h.get? b=some o) (kf:=fun i=>ns.getD (ps.getD i 0) 0) (Walks.list (A:=X.A.in1) (I2.ok.hd hc) s2.heap.objs.size b (yZ hlt) its.toArray) (fun hm=> ?_) (fun h h' g k b o e=> ?_) (fun i v h tk hi pv g=> ?_) .none
  ⟨⟨_,Heap.get?_push_of_some _ (Heap.get?_push_size _ rfl),rfl,rfl⟩,(pl.isList.push _).push _⟩ (fun b o e=>Heap.get?_push_of_some _ (Heap.get?_push_of_some _ e)) (Heap.get?_push_size _ rfl) (fun hz h' tk hk=> ?_) fun i v h' tk hi pv hall hk=> ?_⟩
 · rcases yV.mp hm with e|hm
   · exact absurd ((sz1 _).symm.trans e) (Nat.succ_ne_self _)
   · exact absurd ((sz1 _).symm.trans (z5.mp hm)) (Nat.ne_of_gt (zI hlt))
 · refine k b o (fun hm=> ?_) (fun e'=> ?_) (g b o e)
   · rw [z5.mp hm] at e;exact zW _ (Heap.lt_size e)
   · have l:=Heap.lt_size e;rw [e'] at l;exact absurd l (by rw [sz1];exact Nat.not_lt.mpr (Nat.le_succ _))
 · obtain ⟨hi',t,rfl⟩:=it_of i v pv;have hp:=hps _ (zM hi');have ei:ps.getD i 0=ps[i]:=by simp [hi']
   obtain ⟨y,ey,ry⟩:=rva.get (i:=ps[i]) (x:= .int ns[ps[i]]) (by rw [yQ,yN hp];rfl)
   obtain ⟨ty,rfl⟩:=ry;obtain ⟨oa,hoa,hra⟩:=pla.isList;have hz:=fE;rw [yM] at hza;refine sv (s:= {s2 with heap:=h,toks:=tk}) (a:=a) (its:=ita.toArray) (show X.A.in1.depth < _ from hr.depth) (g _ _ hfo) ?_ ?_ (hcell2.keeps g) ⟨oa,g _ _ hoa,hra⟩ (by omega) ?_ (u:=ty) ?_
   · obtain ⟨c2,o,vs,t,e,ho,z⟩:=hrec;exact ⟨c2,o,vs,t,e,g _ _ ho,z⟩
   · exact I2.nolimit.keeps g
   · have:((ps[i]:Nat):Int) < (sizeLine:Int):=by omega
     omega
   · show (ita.toArray)[((ps[i]:Nat):Int).toNat]?=some (.int (ns.getD (ps.getD i 0) 0) ty);rw [ei,zZ,show ns.getD ps[i] 0=ns[ps[i]] by simp [hp]]
     simpa using ey
 · rw [yU] at hz;exact fin (x:= .non) (kp0 hk) rfl (hnil (List.eq_nil_of_length_eq_zero (by omega)) H2 bt hL2)
 · obtain ⟨hi',t,rfl⟩:=it_of i v pv;have ei:ps.getD i 0=ps[i]:=by simp [hi']
   refine fin (x:= .int (ps[i]:Int)) (kp0 hk) ⟨_,rfl⟩ (hbest _ (zM hi') (fun r mr=> ?_) H2 bt hL2);obtain ⟨j,hj,rfl⟩:=zS mr;have:=hall j (by rw [yU];omega)
   rw [ei,show ps.getD j 0=ps[j] by simp [hj]] at this
   exact this
end L2
namespace Wg
noncomputable def sumN:Nat→(Nat→Int)→Int
 |0,_=>0
 |n+1,f=>sumN n f+f n
theorem sumN_congr {n:Nat} {f g:Nat→Int} (h:∀i,i < n→f i=g i):sumN n f=sumN n g:=by
 induction n with
 |zero=>rfl
 |succ n ih=>
  rw [sumN,sumN,ih fun i hi=>h i (zI hi),h n (A6 n)]
theorem sumN_add {n:Nat} {f g:Nat→Int}:sumN n (fun i=>f i+g i)=sumN n f+sumN n g:=by
 induction n with
 |zero=>rfl
 |succ n ih=>
  simp only [sumN,ih];omega
theorem b9 {n:Nat} {x:Int} {f:Nat→Int}:sumN n (fun i=>x*f i)=x*sumN n f:=by
 induction n with
 |zero=>simp [sumN]
 |succ n ih=>simp only [sumN,ih,Int.mul_add]
theorem sumN_zero {n:Nat} {f:Nat→Int} (h:∀i,i < n→f i=0):sumN n f=0:=by
 induction n with
 |zero=>rfl
 |succ n ih=>
  rw [sumN,ih fun i hi=>h i (zI hi),h n (A6 n)];rfl
theorem sumN_one {n k:Nat} {f:Nat→Int} (hk:k < n) (h:∀i,i < n→i≠k→f i=0):sumN n f=f k:=by
 induction n with
 |zero=>omega
 |succ n ih=>
  rw [sumN];by_cases e:k=n
  · subst e;rw [sumN_zero fun i hi=>h i (zI hi) (by omega)]
    omega
  · rw [ih (by omega) fun i hi=>h i (zI hi),h n (A6 n) (fun z=>e z.symm)]
    omega
theorem pP {n k:Nat} {f:Nat→Int} (hk:k+1 < n) (h:∀i,i < n→i≠k→i≠k+1→f i=0):sumN n f=f k+f (k+1):=by
 induction n with
 |zero=>omega
 |succ n ih=>
  rw [sumN];by_cases e:k+1=n
  · subst e;rw [sumN_one (k:=k) (by omega) fun i hi hne=>h i (by omega) hne (by omega)]
  · rw [ih (by omega) fun i hi=>h i (zI hi),h n (A6 n) (by omega) (by omega)]
    omega
noncomputable def sgn:Nat→Int
 |0=>1
 |n+1=> -sgn n
abbrev Vec:=Nat→Int
noncomputable def setV (B:Nat→Vec) (i:Nat) (v:Vec):Nat→Vec:=fun k=>if k=i then v else B k
theorem bZ {B:Nat→Vec} {i:Nat} {v:Vec}:setV B i v i=v:=by unfold setV;rw [if_pos rfl]
theorem cD {B:Nat→Vec} {i k:Nat} {v:Vec} (h:k≠i):setV B i v k=B k:=by unfold setV;rw [if_neg h]
noncomputable def skip (j:Nat) (B:Nat→Vec):Nat→Vec:=fun k c=>B (if k < j then k else k+1) (c+1)
noncomputable def det:Nat→(Nat→Vec)→Int
 |0,_=>1
 |m+1,B=>sumN (m+1) fun j=>sgn j*B j 0*det m (skip j B)
theorem fK:∀(m:Nat) {B C:Nat→Vec},(∀k c,k < m→c < m→B k c=C k c)→det m B=det m C
 |0,_,_,_=>rfl
 |m+1,B,C,h=>by
  rw [det,det];refine sumN_congr fun j hj=> ?_;rw [h j 0 hj (by omega),fK m (B:=skip j B) (C:=skip j C) fun k c hk hc=> ?_]
  unfold skip;split
  · exact h k (c+1) (by omega) (by omega)
  · exact h (k+1) (c+1) (by omega) (by omega)
theorem cU {B:Nat→Vec} {i:Nat} {v:Vec}:skip i (setV B i v)=skip i B:=by
 funext k c;unfold skip;rw [cD (by split<;>omega)]
noncomputable def pos (j i:Nat):Nat:=if i < j then i else i - 1
noncomputable def sh (v:Vec):Vec:=fun c=>v (c+1)
theorem gY {B:Nat→Vec} {i j:Nat} {v:Vec} (h:j≠i):skip j (setV B i v)=setV (skip j B) (pos j i) (sh v):=by
 funext k c;unfold skip setV pos sh;by_cases hij:i < j
 · rw [if_pos hij];by_cases hk:k < j
   · rw [if_pos hk];by_cases e:k=i
     · rw [if_pos e,if_pos e]
     · rw [if_neg e,if_neg e];show _=B (if k < j then k else k+1) (c+1);rw [if_pos hk]
   · rw [if_neg hk,if_neg (by omega),if_neg (by omega)]
     show _=B (if k < j then k else k+1) (c+1);rw [if_neg hk]
 · rw [if_neg hij];by_cases hk:k < j
   · rw [if_pos hk,if_neg (by omega),if_neg (by omega)]
     show _=B (if k < j then k else k+1) (c+1);rw [if_pos hk]
   · rw [if_neg hk];by_cases e:k+1=i
     · rw [if_pos e,if_pos (by omega)]
     · rw [if_neg e,if_neg (by omega)]
       show _=B (if k < j then k else k+1) (c+1);rw [if_neg hk]
theorem jB:∀(m:Nat) (B:Nat→Vec) (i:Nat) (x y:Int) (u v:Vec),i < m→det m (setV B i fun c=>x*u c+y*v c)=x*det m (setV B i u)+y*det m (setV B i v)
 |0,_,i,_,_,_,_,h=>by omega
 |m+1,B,i,x,y,u,v,h=>by
  rw [det,det,det,←b9,←b9,←sumN_add];refine sumN_congr fun j hj=> ?_;by_cases e:j=i
  · subst e;rw [bZ,bZ,bZ,cU,cU,cU];simp only [Int.mul_add,Int.add_mul];congr 1<;>simp only [←Af]<;>congr 1<;>rw [zU (sgn j)]
  · rw [cD e,cD e,cD e,gY e,gY e,gY e];have hp:pos j i < m:=by unfold pos;split<;>omega
    have:=jB m (skip j B) (pos j i) x y (sh u) (sh v) hp;have e2:(sh fun c=>x*u c+y*v c)=fun c=>x*sh u c+y*sh v c:=rfl;rw [e2,this,Int.mul_add];rw [Al _ x,Al _ y]
theorem gE:∀(m:Nat) (B:Nat→Vec) (a:Nat),a+1 < m→B a=B (a+1)→det m B=0
 |0,_,_,h,_=>by omega
 |m+1,B,a,h,e=>by
  rw [det,pP (k:=a) h]
  · have hs:skip a B=skip (a+1) B:=by
     funext k c;unfold skip;by_cases hk:k < a
     · rw [if_pos hk,if_pos (by omega)]
     · rw [if_neg hk];by_cases hk2:k < a+1
       · have:k=a:=by omega
         subst this;rw [if_pos hk2,e]
       · rw [if_neg hk2]
    rw [hs,e];show _+ -sgn a*_*_=_;rw [Int.neg_mul,Int.neg_mul];omega
  · intro j hj h1 h2
    have:det m (skip j B)=0:=by
     by_cases hl:a+1 < j
     · refine gE m (skip j B) a (by omega) ?_
       funext c;unfold skip;rw [if_pos (by omega),if_pos hl,e]
     · have hg:j < a:=by omega
       obtain ⟨b,rfl⟩:∃b,a=b+1:=⟨a - 1,by omega⟩
       refine gE m (skip j B) b (by omega) ?_
       funext c;unfold skip;rw [if_neg (by omega),if_neg (by omega),e]
    rw [this,Int.mul_zero]
theorem set_comm {B:Nat→Vec} {i j:Nat} {u v:Vec} (h:i≠j):setV (setV B i u) j v=setV (setV B j v) i u:=by
 funext k;unfold setV;by_cases e:k=j
 · rw [if_pos e,if_neg (by omega),if_pos e]
 · rw [if_neg e];by_cases e2:k=i
   · rw [if_pos e2,if_pos e2]
   · rw [if_neg e2,if_neg e2,if_neg e]
theorem gZ {B:Nat→Vec} {i:Nat}:setV B i (B i)=B:=by
 funext k;unfold setV;by_cases e:k=i
 · rw [if_pos e,e]
 · rw [if_neg e]
theorem jC {m:Nat} (B:Nat→Vec) (i:Nat) (u v:Vec) (h:i < m):det m (setV B i fun c=>u c+v c)=det m (setV B i u)+det m (setV B i v):=by
 have:=jB m B i 1 1 u v h;rw [Int.one_mul,Int.one_mul] at this;rw [←this];congr 2;funext c;rw [Int.one_mul,Int.one_mul]
theorem jA {m:Nat} (B:Nat→Vec) (i:Nat) (x:Int) (u:Vec) (h:i < m):det m (setV B i fun c=>x*u c)=x*det m (setV B i u):=by
 have:=jB m B i x 0 u u h;rw [Ai,Int.add_zero] at this;rw [←this];congr 2;funext c;rw [Ai,Int.add_zero]
theorem sW {m:Nat} (B:Nat→Vec) (a:Nat) (u v:Vec) (h:a+1 < m):det m (setV (setV B a u) (a+1) v)= -det m (setV (setV B a v) (a+1) u):=by
 have z:∀w:Vec,det m (setV (setV B a w) (a+1) w)=0:=fun w=>gE m _ a h (by rw [bZ,cD (by omega),bZ])
 have t:=z fun c=>u c+v c
 have q:∀w:Vec,det m (setV (setV B a fun c=>u c+v c) (a+1) w)=det m (setV (setV B a u) (a+1) w)+det m (setV (setV B a v) (a+1) w):=by
  intro w;rw [set_comm (by omega),jC _ _ _ _ (by omega),set_comm (by omega),set_comm (i:=a+1) (j:=a) (u:=w) (v:=v) (by omega)]
 rw [jC _ _ _ _ h,q,q] at t;rw [z u,z v] at t;omega
theorem m8:∀(d m:Nat) (B:Nat→Vec) (i:Nat),i+d+1 < m→B i=B (i+d+1)→det m B=0
 |0,m,B,i,h,e=>gE m B i h e
 |d+1,m,B,i,h,e=>by
  have hb:B=setV (setV B (i+d+1) (B (i+d+1))) (i+d+1+1) (B (i+d+1+1)):=by rw [gZ,gZ]
  rw [hb,sW B (i+d+1) _ _ h];rw [m8 d m (setV (setV B (i+d+1) (B (i+d+1+1))) (i+d+1+1) (B (i+d+1))) i (by omega)]
  · rfl
  · rw [cD (by omega),cD (by omega),cD (by omega),bZ]
    exact e
theorem uL {m:Nat} {B:Nat→Vec} {i j:Nat} (hi:i < m) (hj:j < m) (hne:i≠j) (e:B i=B j):det m B=0:=by
 by_cases h:i < j
 · obtain ⟨d,rfl⟩:∃d,j=i+d+1:=⟨j - i - 1,by omega⟩
   exact m8 d m B i hj e
 · obtain ⟨d,rfl⟩:∃d,i=j+d+1:=⟨i - j - 1,by omega⟩
   exact m8 d m B j hi e.symm
theorem nW {m:Nat} (B:Nat→Vec) (i:Nat) (h:i < m) (e:Nat→Int) (W:Nat→Vec):∀n:Nat,det m (setV B i fun c=>sumN n fun k=>e k*W k c)=sumN n fun k=>e k*det m (setV B i (W k))
 |0=>by
  have:=jA B i 0 (fun _=>0) h;rw [Ai (det m _)] at this;show det m (setV B i fun _=>0)=0;exact this
 |n+1=>by
  rw [sumN,←nW B i h e W n,←jA B i (e n) (W n) h,←jC _ _ _ _ h];rfl
theorem jD {m:Nat} (B:Nat→Vec) (D:Int) (V:Vec) (e:Nat→Int) (hV:∀c,c < m→D*V c=sumN m fun k=>e k*B k c) (i:Nat) (h:i < m):D*det m (setV B i V)=e i*det m B:=by
 rw [←jA B i D V h];rw [fK m (C:=setV B i fun c=>sumN m fun k=>e k*B k c)]
 · rw [nW B i h e B m,sumN_one (k:=i) h]
   · rw [gZ]
   · intro k hk hne;rw [uL (i:=k) (j:=i) hk h hne,Int.mul_zero];rw [bZ,cD hne]
 · intro k c hk hc;by_cases e':k=i
   · subst e';rw [bZ,bZ];exact hV c hc
   · rw [cD e',cD e']
theorem f7 {n r:Nat} {f:Nat→Int} {a:Int} (h:r < n):(sumN n fun i=>if i=r then a else f i)=sumN n f - f r+a:=by
 induction n with
 |zero=>omega
 |succ n ih=>
  rw [sumN,sumN];by_cases e:r=n
  · subst e;rw [if_pos rfl,sumN_congr (g:=f) fun i hi=>if_neg (by omega)]
    omega
  · rw [ih (by omega),if_neg (by omega)]
    omega
structure Tb where
 bot:Int
 ln:Nat→Nat→Int
 sd:Nat→Nat
 hd:Nat→Nat
noncomputable def Tb.W (T:Tb) (V:Nat→Vec) (R:Nat→Vec) (n c:Nat):Vec:=fun t=>if c < n then -V (T.hd c) t else R c t
structure Inv (m n:Nat) (V R:Nat→Vec) (T:Tb):Prop where
 pos:0 < T.bot
 det:(det m fun i=>V (T.sd i)).natAbs=T.bot.natAbs
 ln:∀c t,c < n+2→t < m→(sumN m fun i=>T.ln i c*V (T.sd i) t)=T.bot*T.W V R n c t
noncomputable def sg (p:Int):Int:=if p > 0 then 1 else -1
theorem qI (p:Int):sg p*p=(p.natAbs:Int):=by
 unfold sg;by_cases h:p > 0
 · rw [if_pos h];omega
 · rw [if_neg h];omega
theorem xX (p:Int):sg p*sg p=1:=by
 unfold sg;by_cases h:p > 0
 · rw [if_pos h];rfl
 · rw [if_neg h];rfl
noncomputable def Tb.num (T:Tb) (r q i c:Nat):Int:=T.ln i c*(T.ln r q).natAbs - sg (T.ln r q)*T.ln i q*T.ln r c
noncomputable def piv (T:Tb) (r q:Nat):Tb where
 bot:=(T.ln r q).natAbs
 ln:=fun i c=>if i=r then (if c=q then sg (T.ln r q)*T.bot else -sg (T.ln r q)*T.ln r c)
  else if c=q then sg (T.ln r q)*T.ln i q else T.num r q i c / T.bot
 sd:=fun i=>if i=r then T.hd q else T.sd i
 hd:=fun c=>if c=q then T.sd r else T.hd c
theorem yA (T:Tb) (r q c:Nat):T.num r q r c=0:=by
 unfold Tb.num;rw [qI,zU];omega
theorem xE {a b:Int} (h:a.natAbs=b.natAbs):∃s:Int,a=s*b∧b=s*a∧s*s=1:=by
 rcases Int.natAbs_eq_natAbs_iff.1 h with e|e
 · exact ⟨1,by omega,by omega,rfl⟩
 · exact ⟨-1,by omega,by omega,rfl⟩
theorem w6 {V:Nat→Vec} {T:Tb} {r q:Nat}:(fun i=>V ((piv T r q).sd i))=setV (fun i=>V (T.sd i)) r (V (T.hd q)):=by
 funext i;unfold setV piv;by_cases e:i=r
 · rw [if_pos e];simp only [e,if_true]
 · rw [if_neg e];simp only [e,if_false]
theorem n9 {m n:Nat} {V R:Nat→Vec} {T:Tb} (I:Inv m n V R T) {r q:Nat} (hr:r < m) (hq:q < n):(det m fun i=>V ((piv T r q).sd i)).natAbs=(T.ln r q).natAbs:=by
 rw [w6]
 have h:=jD (fun i=>V (T.sd i)) (-T.bot) (V (T.hd q)) (fun i=>T.ln i q) (fun t ht=>by
  rw [I.ln q t (by omega) ht]
  unfold Tb.W
  rw [if_pos hq,Int.mul_neg,Int.neg_mul]) r hr
 have h2:=congrArg Int.natAbs h;rw [zr,zr,I.det,A9,Nat.mul_comm] at h2;have:=I.pos;exact Nat.eq_of_mul_eq_mul_right (by omega) h2
theorem nu {i r:Nat} {a b c d:Int}:(if i=r then a else b)*(if i=r then c else d)=if i=r then a*c else b*d:=by
 by_cases e:i=r
 · rw [if_pos e,if_pos e,if_pos e]
 · rw [if_neg e,if_neg e,if_neg e]
theorem rq {V:Nat→Vec} {T:Tb} {r q i t:Nat}:V ((piv T r q).sd i) t=if i=r then V (T.hd q) t else V (T.sd i) t:=by
 unfold piv;by_cases e:i=r
 · simp only [e,if_true]
 · simp only [e,if_false]
theorem Inv.col {m n:Nat} {V R:Nat→Vec} {T:Tb} (I:Inv m n V R T) {q t:Nat} (hq:q < n) (ht:t < m):(sumN m fun i=>T.ln i q*V (T.sd i) t)= -(T.bot*V (T.hd q) t):=by
 rw [I.ln q t (by omega) ht]
 unfold Tb.W;rw [if_pos hq,Int.mul_neg]
theorem mY {m n:Nat} {V R:Nat→Vec} {T:Tb} (I:Inv m n V R T) {r q:Nat} (hr:r < m) (hq:q < n) {c t:Nat} (hc:c < n+2) (ht:t < m):
 (sumN m fun i=>(if i=r then -sg (T.ln r q)*T.bot*T.ln r c else T.num r q i c)*V ((piv T r q).sd i) t)=T.bot*(T.ln r q).natAbs*T.W V R n c t:=by
 have e1:∀i,i < m→(if i=r then -sg (T.ln r q)*T.bot*T.ln r c else T.num r q i c)*V ((piv T r q).sd i) t=if i=r then -sg (T.ln r q)*T.bot*T.ln r c*V (T.hd q) t else T.num r q i c*V (T.sd i) t:=by
  intro i hi;rw [rq (V:=V),nu]
 rw [sumN_congr e1,f7 hr,yA]
 have e2:∀i,i < m→T.num r q i c*V (T.sd i) t=(T.ln r q).natAbs*(T.ln i c*V (T.sd i) t)+(-(sg (T.ln r q)*T.ln r c))*(T.ln i q*V (T.sd i) t):=by
  intro i hi;unfold Tb.num;grind
 rw [sumN_congr e2,sumN_add,b9,b9,I.ln c t hc ht,I.col hq ht];grind
theorem ua {m n:Nat} {V R:Nat→Vec} {T:Tb} (I:Inv m n V R T) {r q:Nat} (hr:r < m) (hq:q < n) (hp:T.ln r q≠0) {c:Nat} (hc:c < n+2) {i:Nat} (hi:i < m) (hne:i≠r):
 ∃x:Int,T.num r q i c=T.bot*x∧x.natAbs=(det m (setV (fun i=>V ((piv T r q).sd i)) i (T.W V R n c))).natAbs:=by
 have h:=jD (fun i=>V ((piv T r q).sd i)) (T.bot*(T.ln r q).natAbs) (T.W V R n c) (fun i=>if i=r then -sg (T.ln r q)*T.bot*T.ln r c else T.num r q i c) (fun t ht=>(mY I hr hq hc ht).symm) i hi;obtain ⟨s,h1,h2,h3⟩:=xE (a:=det m fun i=>V ((piv T r q).sd i)) (b:=((T.ln r q).natAbs:Int)) (by rw [n9 I hr hq];rfl)
 rw [h1] at h;simp only [hne,if_false] at h;have hz:((T.ln r q).natAbs:Int)≠0:=by omega
 refine ⟨s*det m (setV (fun i=>V ((piv T r q).sd i)) i (T.W V R n c)),Int.eq_of_mul_eq_mul_right hz ?_,?_⟩
 · generalize det m (setV (fun i=>V ((piv T r q).sd i)) i (T.W V R n c))=d at h;generalize T.num r q i c=u at h;generalize ((T.ln r q).natAbs:Int)=p at h;grind
 · rw [zr];have:s.natAbs*s.natAbs=1:=by rw [←zr,h3];rfl
   rw [Nat.eq_one_of_mul_eq_one_right this,Nat.one_mul]
theorem u9 {m n:Nat} {V R:Nat→Vec} {T:Tb} (I:Inv m n V R T) {r q:Nat} (hr:r < m) (hq:q < n) (hp:T.ln r q≠0) {c:Nat} (hc:c < n+2) {i:Nat} (hi:i < m) (hne:i≠r):
 T.bot*(T.num r q i c / T.bot)=T.num r q i c:=by
 obtain ⟨x,h,_⟩:=ua I hr hq hp hc hi hne;have:=I.pos;rw [h,Int.mul_ediv_cancel_left _ (by omega)]
theorem piv_inv {m n:Nat} {V R:Nat→Vec} {T:Tb} (I:Inv m n V R T) {r q:Nat} (hr:r < m) (hq:q < n) (hp:T.ln r q≠0):Inv m n V R (piv T r q):=by
 refine ⟨?_,?_,?_⟩
 · show (0:Int) < (T.ln r q).natAbs;omega
 · rw [n9 I hr hq];rfl
 · intro c t hc ht;by_cases e:c=q
   · subst e
     have e1:∀i,i < m→(piv T r c).ln i c*V ((piv T r c).sd i) t=if i=r then sg (T.ln r c)*T.bot*V (T.hd c) t else sg (T.ln r c)*(T.ln i c*V (T.sd i) t):=by
      intro i hi;rw [rq (V:=V)];show (if i=r then (if c=c then _ else _) else if c=c then _ else _)*_=_;rw [if_pos rfl,if_pos rfl,nu,Af (sg _) (T.ln i c)]
     rw [sumN_congr e1,f7 hr,b9,I.col hq ht];show _=((T.ln r c).natAbs:Int)*(if c < n then -V (if c=c then T.sd r else T.hd c) t else R c t);rw [if_pos hq,if_pos rfl,←qI];grind
   · have e1:∀i,i < m→T.bot*((piv T r q).ln i c*V ((piv T r q).sd i) t)=(if i=r then -sg (T.ln r q)*T.bot*T.ln r c else T.num r q i c)*V ((piv T r q).sd i) t:=by
      intro i hi;show T.bot*((if i=r then (if c=q then _ else _) else if c=q then _ else _)*_)=_;rw [if_neg e,if_neg e,←Af];congr 1;by_cases ei:i=r
      · rw [if_pos ei,if_pos ei];grind
      · rw [if_neg ei,if_neg ei];exact u9 I hr hq hp hc hi ei
     have hb:T.bot≠0:=by have:=I.pos;omega
     refine Int.eq_of_mul_eq_mul_left hb ?_;rw [←b9,sumN_congr e1,mY I hr hq hc ht,Af];congr 2;show (if c < n then -V (T.hd c) t else R c t)=(if c < n then -V (if c=q then T.sd r else T.hd c) t else R c t);rw [if_neg e]
noncomputable def fac:Nat→Nat
 |0=>1
 |n+1=>(n+1)*fac n
theorem tT {n K:Nat} {f:Nat→Int} (h:∀i,i < n→(f i).natAbs≤K):(sumN n f).natAbs≤n*K:=by
 induction n with
 |zero=>exact zf _
 |succ n ih=>
  rw [sumN,Nat.succ_mul];exact yY (Int.natAbs_add_le _ _) (Nat.add_le_add (ih fun i hi=>h i (by omega)) (h n (by omega)))
theorem mO:∀j:Nat,(sgn j).natAbs=1
 |0=>rfl
 |j+1=>by rw [sgn,A9,mO j]
theorem m6 {M:Nat}:∀(m:Nat) (B:Nat→Vec),(∀k c,k < m→c < m→(B k c).natAbs≤M)→(det m B).natAbs≤fac m*M^m
 |0,_,_=>yP _
 |m+1,B,h=>by
  rw [det,fac,Nat.mul_assoc];refine tT fun j hj=> ?_;rw [zr,zr,mO,Nat.one_mul,Nat.pow_succ,←Nat.mul_assoc,Nat.mul_comm];refine zX (m6 m (skip j B) fun k c hk hc=> ?_) (h j 0 hj (by omega))
  unfold skip;split
  · exact h _ _ (by omega) (by omega)
  · exact h _ _ (by omega) (by omega)
theorem Inv.entry {m n:Nat} {V R:Nat→Vec} {T:Tb} (I:Inv m n V R T) {i c:Nat} (hi:i < m) (hc:c < n+2):(T.ln i c).natAbs=(Wg.det m (setV (fun i=>V (T.sd i)) i (T.W V R n c))).natAbs:=by
 have h:=congrArg Int.natAbs (jD (fun i=>V (T.sd i)) T.bot (T.W V R n c) (fun i=>T.ln i c) (fun t ht=>(I.ln c t hc ht).symm) i hi);rw [zr,zr,I.det,Nat.mul_comm] at h;have:=I.pos;exact (Nat.eq_of_mul_eq_mul_right (by omega) h).symm
theorem Inv.bot_le {m n M:Nat} {V R:Nat→Vec} {T:Tb} (I:Inv m n V R T) (hV:∀k t,t < m→(V k t).natAbs≤M):T.bot.natAbs≤fac m*M^m:=by
 rw [←I.det];exact m6 m _ fun k c hk hc=>hV _ c hc
theorem Inv.ln_le {m n M:Nat} {V R:Nat→Vec} {T:Tb} (I:Inv m n V R T) (hV:∀k t,t < m→(V k t).natAbs≤M) (hR:∀c t,c < n+2→t < m→(R c t).natAbs≤M) {i c:Nat} (hi:i < m) (hc:c < n+2):(T.ln i c).natAbs≤fac m*M^m:=by
 rw [I.entry hi hc];refine m6 m _ fun k t hk ht=> ?_;by_cases e:k=i
 · subst e;rw [bZ];unfold Tb.W;split
   · rw [A9];exact hV _ t ht
   · exact hR c t hc ht
 · rw [cD e];exact hV _ t ht
theorem iB {g:Nat→Nat→Int}:∀(m n:Nat),(sumN m fun i=>sumN n fun c=>g i c)=sumN n fun c=>sumN m fun i=>g i c
 |0,n=>by
  show 0=_;exact (sumN_zero fun c hc=>rfl).symm
 |m+1,n=>by
  show _+_=sumN n fun c=>(sumN m fun i=>g i c)+g m c;rw [sumN_add,iB m n]
theorem yE {m:Nat} {B:Nat→Vec} (hB:det m B≠0) (y:Nat→Int) (h:∀t,t < m→(sumN m fun i=>y i*B i t)=0) {i:Nat} (hi:i < m):y i=0:=by
 have:=jD B 0 (fun _=>0) y (fun t ht=>by rw [h t ht];rfl) i hi
 rw [Ai] at this;exact (Int.mul_eq_zero.1 this.symm).resolve_right hB
theorem Inv.nz {m n:Nat} {V R:Nat→Vec} {T:Tb} (I:Inv m n V R T):(Wg.det m fun i=>V (T.sd i))≠0:=by
 intro h;have h1:=I.det;have:=I.pos;rw [h] at h1;have h2:(0:Int).natAbs=0:=rfl;omega
theorem sumN_mulr {n:Nat} {x:Int} {f:Nat→Int}:(sumN n fun i=>f i*x)=sumN n f*x:=by
 rw [zU,←b9];exact sumN_congr fun i hi=>zU _ _
theorem Inv.row {m n:Nat} {V R:Nat→Vec} {T:Tb} (I:Inv m n V R T) (x:Nat→Int) (b e:Int)
 (hx:∀t,t < m→((sumN m fun i=>x (T.sd i)*V (T.sd i) t)+sumN n fun c=>x (T.hd c)*V (T.hd c) t)=b*R n t+e*R (n+1) t) {i:Nat} (hi:i < m):
 T.bot*x (T.sd i)=(sumN n fun c=>T.ln i c*x (T.hd c))+b*T.ln i n+e*T.ln i (n+1):=by
 have key:=yE I.nz (fun i=>T.bot*x (T.sd i)+ -1*((sumN n fun c=>T.ln i c*x (T.hd c))+b*T.ln i n+e*T.ln i (n+1))) (fun t ht=> ?_) hi
 · omega
 · have e1:∀i,i < m→(T.bot*x (T.sd i)+ -1*((sumN n fun c=>T.ln i c*x (T.hd c))+b*T.ln i n+e*T.ln i (n+1)))*V (T.sd i) t
    =T.bot*(x (T.sd i)*V (T.sd i) t)+ -1*((sumN n fun c=>T.ln i c*x (T.hd c)*V (T.sd i) t)+b*(T.ln i n*V (T.sd i) t)+e*(T.ln i (n+1)*V (T.sd i) t)):=by
    intro i hi;rw [sumN_mulr];grind
   rw [sumN_congr e1,sumN_add,b9,b9,sumN_add,sumN_add,b9,b9,iB]
   have e2:∀c,c < n→(sumN m fun i=>T.ln i c*x (T.hd c)*V (T.sd i) t)= -T.bot*(x (T.hd c)*V (T.hd c) t):=by
    intro c hc;rw [sumN_congr (g:=fun i=>x (T.hd c)*(T.ln i c*V (T.sd i) t)) fun i hi=>by grind,b9,I.col hc ht]
    grind
   rw [sumN_congr e2,b9,I.ln n t (by omega) ht,I.ln (n+1) t (by omega) ht]
   have w1:T.W V R n n t=R n t:=if_neg (by omega)
   have w2:T.W V R n (n+1) t=R (n+1) t:=if_neg (by omega)
   rw [w1,w2];have:=hx t ht;grind
theorem c7 {f:Nat→Int}:∀ {n:Nat},(∀i,i < n→0≤f i)→0≤sumN n f
 |0,_=>Int.le_refl _
 |n+1,h=>by
  rw [sumN];have:=c7 (n:=n) fun i hi=>h i (by omega)
  have:=h n (by omega)
  omega
theorem cR {f:Nat→Int} {k:Nat}:∀ {n:Nat},(∀i,i < n→0≤f i)→k < n→f k≤sumN n f
 |0,_,hk=>by omega
 |n+1,h,hk=>by
  rw [sumN];have h2:=h n (by omega)
  by_cases e:k=n
  · subst e;have:=c7 (n:=k) fun i hi=>h i (by omega)
    omega
  · have:=cR (n:=n) (fun i hi=>h i (by omega)) (by omega:k < n)
    omega
theorem gR {f:Nat→Int} {k l:Nat}:∀ {n:Nat},(∀i,i < n→0≤f i)→k < n→l < n→k≠l→f k+f l≤sumN n f
 |0,_,hk,_,_=>by omega
 |n+1,h,hk,hl,hne=>by
  rw [sumN];have h2:=h n (by omega)
  by_cases e:k=n
  · subst e;have:=cR (k:=l) (n:=k) (fun i hi=>h i (by omega)) (by omega)
    omega
  · by_cases e2:l=n
    · subst e2;have:=cR (k:=k) (n:=l) (fun i hi=>h i (by omega)) (by omega)
      omega
    · have:=gR (n:=n) (fun i hi=>h i (by omega)) (by omega:k < n) (by omega:l < n) hne
      omega
def Pm (m n:Nat) (T:Tb):Prop:=∀f:Nat→Int,(sumN m fun i=>f (T.sd i))+(sumN n fun c=>f (T.hd c))=sumN (m+n) f
noncomputable def ind (k:Nat):Nat→Int:=fun x=>if x=k then 1 else 0
theorem cW (k x:Nat):0≤ind k x:=by unfold ind;split<;>omega
theorem cA (k:Nat):ind k k=1:=if_pos rfl
theorem eV {k x:Nat} (h:x≠k):ind k x=0:=if_neg h
theorem j7 {k N:Nat}:sumN N (ind k)≤1:=by
 by_cases h:k < N
 · rw [sumN_one h fun i hi hne=>eV hne,cA];exact Int.le_refl _
 · rw [sumN_zero fun i hi=>eV (by omega)]
   decide
theorem Pm.sd_lt {m n:Nat} {T:Tb} (P:Pm m n T) {i:Nat} (hi:i < m):T.sd i < m+n:=by
 refine Classical.byContradiction fun h=> ?_;have h1:=P (ind (T.sd i));rw [sumN_zero (f:=ind (T.sd i)) (n:=m+n) fun j hj=>eV (by omega)] at h1
 have h2:=cR (f:=fun j=>ind (T.sd i) (T.sd j)) (fun j hj=>cW _ _) hi;have h3:=c7 (f:=fun c=>ind (T.sd i) (T.hd c)) (n:=n) fun j hj=>cW _ _;rw [cA] at h2;omega
theorem Pm.hd_lt {m n:Nat} {T:Tb} (P:Pm m n T) {c:Nat} (hc:c < n):T.hd c < m+n:=by
 refine Classical.byContradiction fun h=> ?_;have h1:=P (ind (T.hd c));rw [sumN_zero (f:=ind (T.hd c)) (n:=m+n) fun j hj=>eV (by omega)] at h1
 have h2:=cR (f:=fun j=>ind (T.hd c) (T.hd j)) (fun j hj=>cW _ _) hc;have h3:=c7 (f:=fun j=>ind (T.hd c) (T.sd j)) (n:=m) fun j hj=>cW _ _;rw [cA] at h2;omega
theorem Pm.inj {m n:Nat} {T:Tb} (P:Pm m n T) {i j:Nat} (hi:i < m) (hj:j < m) (e:T.sd i=T.sd j):i=j:=by
 refine Classical.byContradiction fun h=> ?_;have h1:=P (ind (T.sd i));have h4:=j7 (k:=T.sd i) (N:=m+n);have h2:=gR (f:=fun j=>ind (T.sd i) (T.sd j)) (fun j hj=>cW _ _) hi hj h;have h3:=c7 (f:=fun c=>ind (T.sd i) (T.hd c)) (n:=n) fun j hj=>cW _ _;rw [←e,cA] at h2;omega
theorem Pm.injh {m n:Nat} {T:Tb} (P:Pm m n T) {i j:Nat} (hi:i < n) (hj:j < n) (e:T.hd i=T.hd j):i=j:=by
 refine Classical.byContradiction fun h=> ?_;have h1:=P (ind (T.hd i));have h4:=j7 (k:=T.hd i) (N:=m+n);have h2:=gR (f:=fun j=>ind (T.hd i) (T.hd j)) (fun j hj=>cW _ _) hi hj h;have h3:=c7 (f:=fun c=>ind (T.hd i) (T.sd c)) (n:=m) fun j hj=>cW _ _;rw [←e,cA] at h2;omega
theorem Pm.disj {m n:Nat} {T:Tb} (P:Pm m n T) {i c:Nat} (hi:i < m) (hc:c < n):T.sd i≠T.hd c:=by
 intro e;have h1:=P (ind (T.sd i));have h4:=j7 (k:=T.sd i) (N:=m+n);have h2:=cR (f:=fun j=>ind (T.sd i) (T.sd j)) (fun j hj=>cW _ _) hi;have h3:=cR (f:=fun c=>ind (T.sd i) (T.hd c)) (fun j hj=>cW _ _) hc;rw [cA] at h2;rw [←e,cA] at h3;omega
theorem Pm.cov {m n:Nat} {T:Tb} (P:Pm m n T) {k:Nat} (hk:k < m+n):(∃i,i < m∧T.sd i=k)∨∃c,c < n∧T.hd c=k:=by
 refine Classical.byContradiction fun h=> ?_;have h1:=P (ind k);rw [sumN_one hk fun i hi hne=>eV hne,cA,sumN_zero fun i hi=>eV fun e=>h (.inl ⟨i,hi,e⟩),sumN_zero fun i hi=>eV fun e=>h (.inr ⟨i,hi,e⟩)] at h1;omega
theorem Pm.piv {m n:Nat} {T:Tb} (P:Pm m n T) {r q:Nat} (hr:r < m) (hq:q < n):Pm m n (piv T r q):=by
 intro f
 have e1:(fun i=>f ((Wg.piv T r q).sd i))=fun i=>if i=r then f (T.hd q) else f (T.sd i):=by
  funext i;show f (if i=r then _ else _)=_;split<;>rfl
 have e2:(fun c=>f ((Wg.piv T r q).hd c))=fun c=>if c=q then f (T.sd r) else f (T.hd c):=by
  funext c;show f (if c=q then _ else _)=_;split<;>rfl
 rw [e1,e2,f7 (f:=fun i=>f (T.sd i)) hr,f7 (f:=fun i=>f (T.hd i)) hq,←P f];omega
noncomputable def val (n:Nat) (M:Int) (T:Tb) (i:Nat):Int:=M*T.ln i n+T.ln i (n+1)
noncomputable def pt (m n:Nat) (M:Int) (T:Tb) (k:Nat):Int:=sumN m fun i=>if T.sd i=k then val n M T i else 0
theorem r4 {m n:Nat} {M:Int} {T:Tb} (P:Pm m n T) {i:Nat} (hi:i < m):pt m n M T (T.sd i)=val n M T i:=by
 unfold pt;rw [sumN_one hi fun j hj hne=>if_neg fun e=>hne (P.inj hj hi e),if_pos rfl]
theorem r6 {m n:Nat} {M:Int} {T:Tb} (P:Pm m n T) {c:Nat} (hc:c < n):pt m n M T (T.hd c)=0:=by
 unfold pt;exact sumN_zero fun j hj=>if_neg (P.disj hj hc)
theorem vV {m n:Nat} {V R:Nat→Vec} {M:Int} {T T':Tb} (I:Inv m n V R T) (P:Pm m n T) (I':Inv m n V R T') (P':Pm m n T') {i:Nat} (hi:i < m):
 T'.bot*pt m n M T (T'.sd i)=(sumN n fun c=>T'.ln i c*pt m n M T (T'.hd c))+T.bot*val n M T' i:=by
 rw [I'.row (pt m n M T) (T.bot*M) T.bot (fun t ht=> ?_) hi]
 · unfold val;grind
 · rw [P' fun k=>pt m n M T k*V k t,←P fun k=>pt m n M T k*V k t]
   have e1:∀i,i < m→pt m n M T (T.sd i)*V (T.sd i) t=M*(T.ln i n*V (T.sd i) t)+T.ln i (n+1)*V (T.sd i) t:=by
    intro i hi;rw [r4 P hi];unfold val;grind
   rw [sumN_congr e1,sumN_add,b9,sumN_zero (n:=n) (fun c hc=>by rw [r6 P hc,Ai]),I.ln n t (by omega) ht,I.ln (n+1) t (by omega) ht]
   have w1:T.W V R n n t=R n t:=if_neg (by omega)
   have w2:T.W V R n (n+1) t=R (n+1) t:=if_neg (by omega)
   rw [w1,w2];grind
theorem pQ {f:Nat→Int} {k:Nat}:∀ {n:Nat},(∀i,i < n→f i≤0)→k < n→sumN n f≤f k:=by
 intro n h hk;have:=cR (f:=fun i=> -1*f i) (k:=k) (n:=n) (fun i hi=>by have:=h i hi;omega) hk
 rw [b9] at this;omega
structure Stp (m n:Nat) (M:Int) (T:Tb) (r q:Nat):Prop where
 hr:r < m
 hq:q < n
 sl:T.sd r < m
 neg:val n M T r < 0
 least:∀i,i < m→T.sd i < m→val n M T i < 0→T.sd r≤T.sd i
 pos:0 < T.ln r q
 head:∀c,c < n→0 < T.ln r c→T.hd q≤T.hd c
def side (m:Nat) (T:Tb) (k:Nat):Prop:=∃i,i < m∧T.sd i=k
theorem qH {m n:Nat} {T:Tb} (P:Pm m n T) {r q:Nat} (hr:r < m) (hq:q < n) {k:Nat}:side m (piv T r q) k↔(k=T.hd q∨(side m T k∧k≠T.sd r)):=by
 constructor
 · rintro ⟨i,hi,e⟩;have e':(if i=r then T.hd q else T.sd i)=k:=e;by_cases h:i=r
   · rw [if_pos h] at e';exact .inl e'.symm
   · rw [if_neg h] at e';refine .inr ⟨⟨i,hi,e'⟩,fun z=>h (P.inj hi hr (e'.trans z))⟩
 · rintro (e|⟨⟨i,hi,e⟩,hne⟩)
   · exact ⟨r,hr,(if_pos rfl).trans e.symm⟩
   · exact ⟨i,hi,(if_neg fun z=>hne (by rw [←e,z])).trans e⟩
theorem yK {m n:Nat} {V R:Nat→Vec} {M:Int} {T T':Tb} (I:Inv m n V R T) (P:Pm m n T) (I':Inv m n V R T') (P':Pm m n T') {r q r' q':Nat}
 (S:Stp m n M T r q) (S':Stp m n M T' r' q') (e:T.sd r=T'.hd q')
 (ha:T'.sd r' < T.sd r) (hb:∀c,c < n→c≠q'→T'.hd c < T.sd r∨¬side m T (T'.hd c)):False:=by
 have nn:∀k,k < T.sd r→0≤pt m n M T k:=by
  intro k hk;have hkm:k < m+n:=by have:=P.sd_lt S.hr;omega
  rcases P.cov hkm with ⟨i,hi,e⟩|⟨c,hc,e⟩
  · rw [←e,r4 P hi];refine Classical.byContradiction fun h=> ?_;have:=S.least i hi (by have:=S.sl;omega) (by omega)
    omega
  · rw [←e,r6 P hc];exact Int.le_refl _
 have h:=vV (M:=M) I P I' P' S'.hr;have h1:0≤T'.bot*pt m n M T (T'.sd r'):=Int.mul_nonneg (by have:=I'.pos;omega) (nn _ ha)
 have h2:T.bot*val n M T' r' < 0:=Int.mul_neg_of_pos_of_neg I.pos S'.neg
 have h3:∀c,c < n→T'.ln r' c*pt m n M T (T'.hd c)≤0:=by
  intro c hc;by_cases ec:c=q'
  · subst ec;rw [←e,r4 P S.hr];exact Int.le_of_lt (Int.mul_neg_of_pos_of_neg S'.pos S.neg)
  · rcases hb c hc ec with hl|hs
    · have hn:T'.ln r' c≤0:=by
       refine Classical.byContradiction fun z=> ?_;have:=S'.head c hc (by omega)
       omega
      exact Int.mul_nonpos_of_nonpos_of_nonneg hn (nn _ hl)
    · have:pt m n M T (T'.hd c)=0:=by
       rcases P.cov (P'.hd_lt hc) with h|⟨d,hd,e⟩
       · exact absurd h hs
       · rw [←e,r6 P hd]
      rw [this,Int.mul_zero];exact Int.le_refl _
 have h4:=pQ h3 S'.hq;have h5:=h3 q' S'.hq;omega
theorem ke {P:Nat→Prop} {a:Nat} (ha:P a):∀N:Nat,(∀k,P k→k < N)→∃g,P g∧∀k,P k→k≤g
 |0,h=>absurd (h a ha) (by omega)
 |N+1,h=>by
  by_cases z:P N
  · exact ⟨N,z,fun k hk=>by have:=h k hk;omega⟩
  · refine ke ha N fun k hk=> ?_;have:=h k hk;have:k≠N:=fun e=>z (e▸hk);omega
structure Rn (m n:Nat) (V R:Nat→Vec) (M:Int) (T:Nat→Tb) (r q:Nat→Nat) (J:Nat):Prop where
 inv:Inv m n V R (T 0)
 pm:Pm m n (T 0)
 st:∀j,j < J→Stp m n M (T j) (r j) (q j)
 nx:∀j,j < J→T (j+1)=piv (T j) (r j) (q j)
section
variable {m n:Nat} {V R:Nat→Vec} {M:Int} {T:Nat→Tb} {r q:Nat→Nat} {J:Nat}
theorem Rn.all (H:Rn m n V R M T r q J):∀j,j≤J→Inv m n V R (T j)∧Pm m n (T j)
 |0,_=>⟨H.inv,H.pm⟩
 |j+1,h=>by
  have ⟨I,P⟩:=H.all j (by omega)
  have S:=H.st j (by omega)
  rw [H.nx j (by omega)]
  exact ⟨piv_inv I S.hr S.hq (by have:=S.pos;omega),P.piv S.hr S.hq⟩
theorem Rn.side (H:Rn m n V R M T r q J) {j k:Nat} (h:j < J):side m (T (j+1)) k↔(k=(T j).hd (q j)∨(side m (T j) k∧k≠(T j).sd (r j))):=by
 have S:=H.st j h;rw [H.nx j h];exact qH (H.all j (by omega)).2 S.hr S.hq
theorem Rn.leaves (H:Rn m n V R M T r q J) {k a:Nat} (ha:Wg.side m (T a) k):∀d,a+d≤J→¬Wg.side m (T (a+d)) k→∃j,j < J∧(T j).sd (r j)=k
 |0,_,h=>absurd ha h
 |d+1,hd,h=>by
  by_cases z:Wg.side m (T (a+d)) k
  · refine ⟨a+d,by omega,?_⟩
    refine Classical.byContradiction fun hne=>h ?_;exact (H.side (j:=a+d) (by omega)).2 (.inr ⟨z,fun e=>hne e.symm⟩)
  · exact H.leaves ha d (by omega) z
theorem Rn.enters (H:Rn m n V R M T r q J) {k a:Nat} (ha:¬Wg.side m (T a) k):∀d,a+d≤J→Wg.side m (T (a+d)) k→∃j,j < J∧(T j).hd (q j)=k
 |0,_,h=>absurd h ha
 |d+1,hd,h=>by
  by_cases z:Wg.side m (T (a+d)) k
  · exact H.enters ha d (by omega) z
  · rcases (H.side (j:=a+d) (by omega)).1 h with e|⟨z2,_⟩
    · exact ⟨a+d,by omega,e.symm⟩
    · exact absurd z2 z
theorem Rn.const (H:Rn m n V R M T r q J) {k:Nat} (hk:¬∃j,j < J∧((T j).sd (r j)=k∨(T j).hd (q j)=k)):∀j,j≤J→(Wg.side m (T j) k↔Wg.side m (T 0) k)
 |0,_=>Iff.rfl
 |j+1,h=>by
  rw [←H.const hk j (by omega),H.side (j:=j) (by omega)]
  constructor
  · rintro (e|⟨z,_⟩)
    · exact absurd ⟨j,by omega, .inr e.symm⟩ hk
    · exact z
  · exact fun z=> .inr ⟨z,fun e=>hk ⟨j,by omega, .inl e.symm⟩⟩
theorem Rn.no_circle (H:Rn m n V R M T r q J) (hJ:0 < J) (same:∀k,Wg.side m (T 0) k↔Wg.side m (T J) k):False:=by
 have lv:∀j,j < J→Wg.side m (T j) ((T j).sd (r j)):=fun j h=>⟨r j,(H.st j h).hr,rfl⟩;have en:∀j,j < J→¬Wg.side m (T j) ((T j).hd (q j)):=fun j h ⟨i,hi,e⟩=>(H.all j (by omega)).2.disj hi (H.st j h).hq e
 have ne:∀j,j < J→(T j).sd (r j)≠(T j).hd (q j):=fun j h=>(H.all j (by omega)).2.disj (H.st j h).hr (H.st j h).hq
 obtain ⟨g,hg,hgr⟩:=ke (P:=fun k=>∃j,j < J∧((T j).sd (r j)=k∨(T j).hd (q j)=k)) ⟨0,hJ, .inl rfl⟩ (m+n) (by
  rintro k ⟨j,hj,e|e⟩
  · rw [←e];exact (H.all j (by omega)).2.sd_lt (H.st j hj).hr
  · rw [←e];exact (H.all j (by omega)).2.hd_lt (H.st j hj).hq)
 have both:(∃j,j < J∧(T j).sd (r j)=g)∧∃j,j < J∧(T j).hd (q j)=g:=by
  obtain ⟨j,hj,e|e⟩:=hg
  · refine ⟨⟨j,hj,e⟩,?_⟩;have s1:Wg.side m (T j) g:=e▸lv j hj
    have s2:¬Wg.side m (T (j+1)) g:=by
     rw [H.side hj];rintro (z|⟨_,z⟩)
     · exact ne j hj (e.trans z)
     · exact z e.symm
    by_cases z:Wg.side m (T 0) g
    · have:=(same g).1 z;obtain ⟨d,rfl⟩:∃d,J=j+1+d:=⟨J - j - 1,by omega⟩
      exact H.enters s2 d (yP _) this
    · exact H.enters (a:=0) z j (by omega) (by rw [Nat.zero_add];exact s1)
  · refine ⟨?_,⟨j,hj,e⟩⟩;have s1:¬Wg.side m (T j) g:=e▸en j hj;have s2:Wg.side m (T (j+1)) g:=(H.side hj).2 (.inl e.symm);by_cases z:Wg.side m (T 0) g
    · exact H.leaves (a:=0) z j (by omega) (by rw [Nat.zero_add];exact s1)
    · have:¬Wg.side m (T J) g:=fun y=>z ((same g).2 y);obtain ⟨d,rfl⟩:∃d,J=j+1+d:=⟨J - j - 1,by omega⟩
      exact H.leaves s2 d (yP _) this
 obtain ⟨⟨j1,h1,e1⟩,⟨j2,h2,e2⟩⟩:=both;have A1:=H.all j1 (by omega)
 have A2:=H.all j2 (by omega)
 refine yK A1.1 A1.2 A2.1 A2.2 (H.st j1 h1) (H.st j2 h2) (e1.trans e2.symm) ?_ ?_
 · have:=hgr _ ⟨j2,h2, .inl rfl⟩;have:=ne j2 h2;omega
 · intro c hc hne;have hcg:(T j2).hd c≠g:=fun e=>hne (A2.2.injh hc (H.st j2 h2).hq (e.trans e2.symm));by_cases f:∃j,j < J∧((T j).sd (r j)=(T j2).hd c∨(T j).hd (q j)=(T j2).hd c)
   · have:=hgr _ f;exact .inl (by omega)
   · refine .inr fun z=> ?_;have:=(H.const f j2 (by omega)).2 ((H.const f j1 (by omega)).1 z)
     obtain ⟨i,hi,e⟩:=this;exact A2.2.disj hi hc e
end
theorem vo:∀(K J:Nat) (f:Nat→Nat),(∀i,i≤J→f i < K)→(∀i j,i≤J→j≤J→f i=f j→i=j)→J < K
 |0,J,f,h,_=>absurd (h 0 (by omega)) (by omega)
 |K+1,0,f,_,_=>by omega
 |K+1,J+1,f,h,inj=>by
  have:=vo K J (fun i=>if f i=K then f (J+1) else f i) (fun i hi=>by
   by_cases e:f i=K
   · have h1:=h (J+1) (by omega)
     have h2:f (J+1)≠K:=fun z=>by have:=inj i (J+1) (by omega) (by omega) (e.trans z.symm);omega
     simp only [e,if_true];omega
   · have:=h i (by omega)
     simp only [e,if_false]
     omega) (fun i j hi hj e=>by
   by_cases a:f i=K
   · by_cases b:f j=K
     · exact inj i j (by omega) (by omega) (a.trans b.symm)
     · simp only [a,b,if_true,if_false] at e;have:=inj _ _ (by omega) (by omega) e
       omega
   · by_cases b:f j=K
     · simp only [a,b,if_true,if_false] at e;have:=inj _ _ (by omega) (by omega) e
       omega
     · simp only [a,b,if_false] at e
       exact inj _ _ (by omega) (by omega) e)
  omega
open Classical in
noncomputable def code (S:Nat→Prop):Nat→Nat
 |0=>0
 |k+1=>2*code S k+if S k then 1 else 0
theorem o9 (S:Nat→Prop):∀N,code S N < 2^N
 |0=>by rw [code];decide
 |N+1=>by
  have:=o9 S N;rw [code,Nat.pow_succ];split<;>omega
theorem ip {S S':Nat→Prop}:∀N,code S N=code S' N→∀k,k < N→(S k↔S' k)
 |0,_,k,hk=>by omega
 |N+1,h,k,hk=>by
  rw [code,code] at h;by_cases a:S N
  · by_cases b:S' N
    · rw [if_pos a,if_pos b] at h;by_cases e:k=N
      · subst e;exact ⟨fun _=>b,fun _=>a⟩
      · exact ip N (by omega) k (by omega)
    · rw [if_pos a,if_neg b] at h;omega
  · by_cases b:S' N
    · rw [if_neg a,if_pos b] at h;omega
    · rw [if_neg a,if_neg b] at h;by_cases e:k=N
      · subst e;exact ⟨fun z=>absurd z a,fun z=>absurd z b⟩
      · exact ip N (by omega) k (by omega)
section
variable {m n:Nat} {V R:Nat→Vec} {M:Int} {T:Nat→Tb} {r q:Nat→Nat} {J:Nat}
theorem Rn.part (H:Rn m n V R M T r q J) {i d:Nat} (h:i+d≤J):Rn m n V R M (fun k=>T (i+k)) (fun k=>r (i+k)) (fun k=>q (i+k)) d:=
 ⟨(H.all i (by omega)).1,(H.all i (by omega)).2,fun j hj=>H.st (i+j) (by omega),fun j hj=>H.nx (i+j) (by omega)⟩
theorem Rn.no_twice (H:Rn m n V R M T r q J) {i j:Nat} (hij:i < j) (hj:j≤J) (e:code (Wg.side m (T i)) (m+n)=code (Wg.side m (T j)) (m+n)):False:=by
 obtain ⟨d,rfl⟩:∃d,j=i+d:=⟨j - i,by omega⟩
 refine (H.part hj).no_circle (by omega) fun k=> ?_
 show Wg.side m (T i) k↔Wg.side m (T (i+d)) k;by_cases hk:k < m+n
 · exact ip (m+n) e k hk
 · constructor
   · rintro ⟨a,ha,z⟩;have:=(H.all i (by omega)).2.sd_lt ha
     omega
   · rintro ⟨a,ha,z⟩;have:=(H.all (i+d) hj).2.sd_lt ha;omega
theorem Rn.few (H:Rn m n V R M T r q J):J < 2^(m+n):=by
 refine vo (2^(m+n)) J (fun i=>code (Wg.side m (T i)) (m+n)) (fun i hi=>o9 _ _) fun i j hi hj e=> ?_;rcases Nat.lt_trichotomy i j with h|h|h
 · exact (H.no_twice h hj e).elim
 · exact h
 · exact (H.no_twice h hi e.symm).elim
end
def Stl (m n k:Nat) (T:Tb):Prop:=∀c,c < k→c < n→m≤T.hd c→∀i,i < m→T.sd i < m→T.ln i c=0
theorem Stl.piv {m n k:Nat} {V R:Nat→Vec} {T:Tb} (I:Inv m n V R T) (h:Stl m n k T) {r q:Nat} (hr:r < m) (hq:q < n) (hs:T.sd r < m) (hp:T.ln r q≠0):Stl m n k (piv T r q):=by
 intro c hc hn hh i hi hsi;have hh':m≤if c=q then T.sd r else T.hd c:=hh;have hsi':(if i=r then T.hd q else T.sd i) < m:=hsi;have e:c≠q:=fun e=>by rw [if_pos e] at hh';omega
 rw [if_neg e] at hh';show (if i=r then (if c=q then _ else _) else if c=q then _ else T.num r q i c / T.bot)=0;rw [if_neg e,if_neg e];have z:=h c hc hn hh' r hr hs;by_cases ei:i=r
 · rw [if_pos ei,z,Int.mul_zero]
 · rw [if_neg ei] at hsi' ⊢;have z2:=h c hc hn hh' i hi hsi';unfold Tb.num;rw [z,z2];simp
theorem kr:∀(m:Nat) (B:Nat→Vec),(∀k c,k < m→c < m→B k c=if k=c then 1 else 0)→det m B=1
 |0,_,_=>rfl
 |m+1,B,h=>by
  rw [det,sumN_one (k:=0) (by omega)]
  · rw [h 0 0 (by omega) (by omega),if_pos rfl,kr m (skip 0 B)]
    · rfl
    · intro k c hk hc;unfold skip;rw [if_neg (by omega),h (k+1) (c+1) (by omega) (by omega)]
      by_cases e:k=c
      · rw [if_pos e,if_pos (by omega)]
      · rw [if_neg e,if_neg (by omega)]
  · intro j hj hne;rw [h j 0 hj (by omega),if_neg hne,Int.mul_zero,Ai]
theorem jN {f:Nat→Int} {m:Nat}:∀n:Nat,sumN m f+(sumN n fun c=>f (m+c))=sumN (m+n) f
 |0=>by
  show sumN m f+0=sumN m f;omega
 |n+1=>by
  show sumN m f+((sumN n fun c=>f (m+c))+f (m+n))=sumN (m+n) f+f (m+n);rw [←jN n];omega
noncomputable def tb0 (m:Nat) (L:Nat→Nat→Int):Tb:=⟨1,L,fun i=>i,fun c=>m+c⟩
noncomputable def V0 (m:Nat) (L:Nat→Nat→Int):Nat→Vec:=fun k t=>if k < m then (if k=t then 1 else 0) else -L t (k - m)
noncomputable def R0 (L:Nat→Nat→Int):Nat→Vec:=fun c t=>L t c
theorem inv0 {m n:Nat} {L:Nat→Nat→Int}:Inv m n (V0 m L) (R0 L) (tb0 m L):=by
 refine ⟨(by decide:(0:Int) < 1),?_,?_⟩
 · rw [kr m _ fun k c hk hc=>by
    show (if k < m then (if k=c then (1:Int) else 0) else _)=_
    rw [if_pos hk]]
   rfl
 · intro c t hc ht
   rw [sumN_one (k:=t) ht fun i hi hne=>by
    show L i c*(if i < m then (if i=t then (1:Int) else 0) else _)=0
    rw [if_pos hi,if_neg hne,Int.mul_zero]]
   show L t c*(if t < m then (if t=t then (1:Int) else 0) else _)=1*(if c < n then -(if m+c < m then (if m+c=t then (1:Int) else 0) else -L t (m+c - m)) else L t c);rw [if_pos ht,if_pos rfl,if_neg (by omega:¬m+c < m),Nat.add_sub_cancel_left]
   split<;>omega
theorem pm0 {m n:Nat} {L:Nat→Nat→Int}:Pm m n (tb0 m L):=fun f=>jN n
theorem lex_neg {u v M:Int} (h:v.natAbs < M.natAbs) (hM:0 < M):(u < 0∨(u=0∧v < 0))↔M*u+v < 0:=by
 constructor
 · rintro (z|⟨z,y⟩)
   · have:M*u≤M* -1:=Int.mul_le_mul_of_nonneg_left (by omega) (by omega)
     omega
   · rw [z];omega
 · intro z;rcases Int.lt_trichotomy u 0 with y|y|y
   · exact .inl y
   · subst y;exact .inr ⟨rfl,by omega⟩
   · have:M*1≤M*u:=Int.mul_le_mul_of_nonneg_left (by omega) (by omega)
     omega
noncomputable def wt (n:Nat) (T:Tb) (i k:Nat):Int:=(if k=T.sd i then T.bot else 0)+sumN n fun c=>if k=T.hd c then -T.ln i c else 0
section
variable {m n:Nat} {L:Nat→Nat→Int} {T:Tb}
end
noncomputable def ls {α:Type} (n:Nat) (f:Nat→α):List α:=(List.range n).map f
theorem ls_len {α:Type} {n:Nat} {f:Nat→α}:(ls n f).length=n:=by unfold ls;rw [yM,zJ]
theorem ls_at {α:Type} {n i:Nat} {f:Nat→α} (h:i < n):(ls n f)[i]?=some (f i):=by
 unfold ls;rw [yQ,List.getElem?_range h];rfl
theorem ls_congr {α:Type} {n:Nat} {f g:Nat→α} (h:∀i,i < n→f i=g i):ls n f=ls n g:=List.map_congr_left fun i hi=>h i (zH.1 hi)
theorem se {α β:Type} {n:Nat} {f:Nat→α} {g:α→β}:(ls n f).map g=ls n fun i=>g (f i):=by
 unfold ls;rw [Ah];rfl
theorem wV {α β γ:Type} {n:Nat} {f:Nat→α} {g:Nat→β} {h:α→β→γ}:List.zipWith h (ls n f) (ls n g)=ls n fun i=>h (f i) (g i):=by
 unfold ls;rw [List.zipWith_map,List.zipWith_self]
theorem ju {α:Type} {n q:Nat} {f:Nat→α} {a:α}:(ls n f).set q a=ls n fun i=>if i=q then a else f i:=by
 refine List.ext_getElem? fun i=> ?_;rw [List.getElem?_set,ls_len];by_cases hi:i < n
 · rw [ls_at hi,ls_at hi];by_cases e:q=i
   · subst e;rw [if_pos rfl,if_pos hi,if_pos rfl]
   · rw [if_neg e,if_neg fun z=>e z.symm]
 · have o:∀g:Nat→α,(ls n g)[i]?=none:=fun g=>A8 (by rw [ls_len];omega)
   rw [o,o];by_cases e:q=i
   · subst e;rw [if_pos rfl,if_neg hi]
   · rw [if_neg e]
theorem turned0 {n r q i:Nat} {T:Tb} (hi:i≠r) (h:sg (T.ln r q)*T.ln i q=0):((ls (n+2) (T.ln i)).map fun x=>x*((T.ln r q).natAbs:Int) / T.bot)=ls (n+2) ((piv T r q).ln i):=by
 rw [se];refine ls_congr fun c hc=> ?_;show _=if i=r then _ else if c=q then _ else T.num r q i c / T.bot;rw [if_neg hi];by_cases e:c=q
 · subst e;rw [if_pos rfl,h]
   have hz:T.ln i c=0:=by
    have:=xX (T.ln r c);have h2:sg (T.ln r c)*(sg (T.ln r c)*T.ln i c)=0:=by rw [h,Int.mul_zero]
    rw [←Af,this,Int.one_mul] at h2;exact h2
   rw [hz,Ai,Int.zero_ediv]
 · rw [if_neg e];unfold Tb.num;rw [h,Ai,Int.sub_zero]
theorem turned1 {n r q i:Nat} {T:Tb} (hi:i≠r):(List.zipWith (fun x y=>(x*((T.ln r q).natAbs:Int) - sg (T.ln r q)*T.ln i q*y) / T.bot) (ls (n+2) (T.ln i)) (ls (n+2) (T.ln r))).set q (sg (T.ln r q)*T.ln i q)=ls (n+2) ((piv T r q).ln i):=by
 rw [wV,ju];refine ls_congr fun c hc=> ?_;show _=if i=r then _ else if c=q then _ else T.num r q i c / T.bot;rw [if_neg hi];rfl
theorem turnedR {n r q:Nat} {T:Tb}:((ls (n+2) (T.ln r)).map fun x=> -sg (T.ln r q)*x).set q (sg (T.ln r q)*T.bot)=ls (n+2) ((piv T r q).ln r):=by
 rw [se,ju];refine ls_congr fun c hc=> ?_;show _=if r=r then (if c=q then _ else _) else _;rw [if_pos rfl]
theorem piv_sides {m r q:Nat} {T:Tb}:(ls m T.sd).set r (T.hd q)=ls m (piv T r q).sd:=by
 rw [ju];rfl
theorem piv_heads {n r q:Nat} {T:Tb}:(ls n T.hd).set q (T.sd r)=ls n (piv T r q).hd:=by
 rw [ju];rfl
theorem Stl.next {m n k:Nat} {T:Tb} (h:Stl m n k T) (hk:∀i,i < m→T.sd i < m→T.ln i k=0):Stl m n (k+1) T:=by
 intro c hc hn hh i hi hs;by_cases e:c=k
 · subst e;exact hk i hi hs
 · exact h c (by omega) hn hh i hi hs
theorem Stl.turn {m n k:Nat} {V R:Nat→Vec} {T:Tb} (I:Inv m n V R T) (h:Stl m n k T) {r:Nat} (hr:r < m) (hk:k < n) (hs:T.sd r < m) (hp:T.ln r k≠0):Stl m n (k+1) (Wg.piv T r k):=by
 intro c hc hn hh i hi hsi;by_cases e:c=k
 · subst e;have:m≤if c=c then T.sd r else T.hd c:=hh;rw [if_pos rfl] at this;omega
 · exact Stl.piv I h hr hk hs hp c (by omega) hn hh i hi hsi
end Wg
namespace K40
open PySem L2 Mth Tre Wd Su Tw Fm
theorem cy {X:Cx} {K:PySem.W.Frag} {e:Expr} {f:Str} {pos:Pos} {ta:TE} (hK:X.K=K) (he:PE X e ta) (hb:attributeBase e f X.env (eval e X.env)=eval e X.env):PE X (.Attribute e f pos) (tFld K ta f):=by
 subst hK;exact aP he hb
theorem di {σ:L2.St} {H:Hp} {A B:Hp→Prop} (h:A H):cJ σ H fun b H5=>if b=true then A H5 else B H5:=by
 show if true=true then A H else B H;rw [if_pos rfl];exact h
structure Tk (K:PySem.W.Frag) (C:Addr):Prop where
 cls:Cls K C
 nt:NoAttr K C "terms"
 ns:NoAttr K C "scales"
 nl:NoAttr K C "lines"
 nb:NoAttr K C "bottom"
 nd:NoAttr K C "sides"
 nh:NoAttr K C "heads"
structure TA where
 C:Addr
 a:Addr
 dx:Addr
 pt:Addr
 psc:Addr
 pss:Addr
 ph:Addr
noncomputable def flds (D:TA) (pl:Addr) (b:Int):List (Str×V):= [(Str.ofString "terms", .ref D.pt),(Str.ofString "scales", .ref D.psc),(Str.ofString "lines", .ref pl),(Str.ofString "bottom", .int b),(Str.ofString "sides", .ref D.pss),(Str.ofString "heads", .ref D.ph)]
def Rws (H:Hp) (D:TA) (ls:List V) (m:Nat) (f:Nat→List Int):Prop:=ls.length=m∧∀i,i < m→∃q,ls[i]?=some (.ref q)∧H q=some (.lst ((f i).map V.int))∧q≠D.pss∧q≠D.ph
structure Tab (D:TA) (m n:Nat) (scs:List Int) (us:List Tr) (ws:List V) (pl:Addr) (ls:List V) (T:Wg.Tb) (H:Hp):Prop where
 ob:H D.a=some (.ins D.C D.dx (flds D pl T.bot))
 tm:H D.pt=some (.lst ws)
 tt:TrsAt H ws us
 ul:us.length=n
 sc:H D.psc=some (.lst (scs.map V.int))
 sl:scs.length=m
 li:H pl=some (.lst ls)
 ro:Rws H D ls m fun i=>Wg.ls (n+2) (T.ln i)
 sd:H D.pss=some (.lst (nv (Wg.ls m T.sd)))
 hd:H D.ph=some (.lst (nv (Wg.ls n T.hd)))
 n1:D.pss≠D.pt
 n2:D.pss≠D.psc
 n3:D.pss≠D.ph
 n4:D.pss≠pl
 n5:D.ph≠D.pt
 n6:D.ph≠D.psc
 n7:D.ph≠pl
 m64:m≤64
 n64:n≤64
theorem Rws.keep {H H':Hp} {D:TA} {ls:List V} {m:Nat} {f:Nat→List Int} (k:∀q,q≠D.pss→q≠D.ph→∀xs,H q=some (.lst xs)→H' q=some (.lst xs)) (h:Rws H D ls m f):Rws H' D ls m f:=by
 refine ⟨h.1,fun i hi=> ?_⟩;obtain ⟨q,a,b,c,d⟩:=h.2 i hi;exact ⟨q,a,k q c d _ b,c,d⟩
theorem Tab.same {D:TA} {m n:Nat} {scs:List Int} {us:List Tr} {ws:List V} {pl:Addr} {ls:List V} {T:Wg.Tb} {H H':Hp} (s:Same H H') (h:Tab D m n scs us ws pl ls T H):Tab D m n scs us ws pl ls T H':=
 ⟨s _ _ h.ob,s _ _ h.tm,h.tt.mono (Kd.of_same s),h.ul,s _ _ h.sc,h.sl,s _ _ h.li,h.ro.keep fun q _ _ xs e=>s _ _ e,s _ _ h.sd,s _ _ h.hd,h.n1,h.n2,h.n3,h.n4,h.n5,h.n6,h.n7,h.m64,h.n64⟩
theorem Tab.butT {T0:Addr} {ps:Array Value} {D:TA} {m n:Nat} {scs:List Int} {us:List Tr} {ws:List V} {pl:Addr} {ls:List V} {T:Wg.Tb} {H H':Hp} (hT:H T0=some (.tbl ps)) (b:ButT T0 H H') (h:Tab D m n scs us ws pl ls T H):Tab D m n scs us ws pl ls T H':=by
 have k:∀ {a:Addr} {o:HO},H a=some o→(∀p,o≠ .tbl p)→H' a=some o:=fun {a o} e q=>b _ _ (fun z=>by rw [z,hT] at e;exact q _ (zb e).symm) e
 have kl:∀ {a:Addr} {xs:List V},H a=some (.lst xs)→H' a=some (.lst xs):=fun e=>k e (by intro p z;cases z)
 have kd:Kd H H':=⟨fun a xs e=>k e (by intro p z;cases z),fun a xs e=>⟨xs,kl e⟩⟩
 exact ⟨k h.ob (by intro p z;cases z),kl h.tm,h.tt.mono kd,h.ul,kl h.sc,h.sl,kl h.li,h.ro.keep fun q _ _ xs e=>kl e,kl h.sd,kl h.hd,h.n1,h.n2,h.n3,h.n4,h.n5,h.n6,h.n7,h.m64,h.n64⟩
theorem iG {m i:Nat} {f:Nat→Nat} (h:i < m):(nv (Wg.ls m f))[i]?=some (.int (f i:Nat)):=by
 unfold nv;rw [yQ,Wg.ls_at h];rfl
theorem cj {m:Nat} {f:Nat→Nat}:(nv (Wg.ls m f)).length=m:=by
 unfold nv;rw [yM,Wg.ls_len]
theorem fX {n c:Nat} {f:Nat→Int} (h:c < n):((Wg.ls n f).map V.int)[c]?=some (.int (f c)):=by
 rw [yQ,Wg.ls_at h];rfl
noncomputable def slk (m:Nat) (T:Wg.Tb):List Nat:=(List.range m).filter fun i=>decide (T.sd i < m)
theorem slk_mem {m:Nat} {T:Wg.Tb} {i:Nat}:i∈slk m T↔i < m∧T.sd i < m:=by
 unfold slk;rw [zK,zH,decide_eq_true_iff]
section
variable {P:Program} {w:World} {K:PySem.W.Frag} {mg:Str→Option Value} {base:Heap} {T0:Addr}
def qC:Sp:=fun vs H Q _=>∃(D:TA) (m n:Nat) (scs:List Int) (us:List Tr) (ws:List V) (pl:Addr) (ls:List V) (T:Wg.Tb) (k:Int),vs= [.ref D.a, .int k]∧Tk K D.C∧Tab D m n scs us ws pl ls T H∧Q (.bl (decide (k < (m:Int)))) H
theorem yi:FnScope ["table","number"] ["table","number"] (ag sIsl):= .of
theorem wO {f:Addr} {fd:FuncData} (F:Fun K "is_slack" "is_slack" sIsl f fd) (B:Blt mg):FnOk P w K mg base CX0 1 f fd ["table","number"] (qC (K:=K)):=by
 refine F.okb yi fun vs H Q E h=> ?_;obtain ⟨D,m,n,scs,us,ws,pl,ls,T,k,rfl,hk,hT,q⟩:=h;refine ⟨rfl,fun cdv A outer s hr=> ?_⟩;refine ⟨_,ah (ax (cL iF (pv 1) (aB ay rfl B.le PySem.boot_len (a0 (aP (pv 0) rfl) a9)) (aE _))),?_⟩;refine ⟨_,rfl,_,rfl,D.a,D.C,D.dx,_,_,rfl,hT.ob,hk.cls,hk.ns,rfl,D.psc,_,rfl, .inl (SqL.of hT.sc),k,_,rfl,rfl,?_⟩;rw [yM,hT.sl];exact q
def jP:Sp:=fun vs H Q _=>∃(D:TA) (m n:Nat) (scs:List Int) (us:List Tr) (ws:List V) (pl:Addr) (ls:List V) (T:Wg.Tb),vs= [.ref D.a]∧Tk K D.C∧Tab D m n scs us ws pl ls T H∧∀l H',H l=none→Same H H'→H' l=some (.lst (nv (slk m T)))→Q (.ref l) H'
theorem yc:FnScope ["table"] ["table"] (ag sSll):= .of
theorem wD {f fI:Addr} {fd dI:FuncData} (F:Fun K "slack_lines" "slack_lines" sSll f fd) (B:Blt mg)
 (gI:FnOk P w K mg base CX0 1 fI dI ["table","number"] (qC (K:=K))) (kI:PySem.W.keepIn K (.ref fI)=true) (bI:Binds K dI ["table","number"] []) (mI:mg "is_slack"=some (.ref fI)):
 FnOk P w K mg base CX0 2 f fd ["table"] (jP (K:=K)):=by
 refine F.okb yc fun vs H Q E h=> ?_;refine hZq fun q_ e_=> ?_;obtain ⟨D,m,n,scs,us,ws,pl,ls,T,rfl,hk,hT,q⟩:=h;subst e_;refine ⟨rfl,fun cdv A outer s hr=> ?_⟩;have nd3:(["at","side","table"]:List Str).Nodup:=by decide +kernel
 refine ⟨_,ah (ax (aQ (NC:= ["at","side","table"]) (mp:= [none,none,some 0]) (g:=gTup K 2 (aV (aG 0) (aV (aG 1) gNil))) rfl (uc rfl B.en (a0 (aP (pv 0) rfl) a9)) (fun _ _ _ _ _=>aW (n:=2) rfl (ak (pgA 0 nd3) (ak (pgA 1 nd3) aL)))
  (fun _ _ _ _ _=>cK (eO (ai gI hr rfl mI kI bI .nil ar (a0 (pv 2) (a0 (pv 1) a9))) fun _=>rfl)) (fun _ _ _ _ _=>pv 0))),?_⟩
 have hL20:(20000:Nat)≤sizeLine:=by decide +kernel
 have m64:=hT.m64;refine mh (a:=D.pss) (xs:=nv (Wg.ls m T.sd)) (fun Q q=>⟨_,rfl,D.a,D.C,D.dx,_,_,rfl,hT.ob,hk.cls,hk.nd,rfl,q⟩) (SqL.of hT.sd) fun L nL=> ?_;refine ⟨fun j acc H'=>Same H H'∧H' L=some (.lst acc)∧acc=nv ((List.range j).filter fun i=>decide (T.sd i < m)),⟨aa nL,a8,rfl⟩,fun j acc H' p=>SqL.of (p.1 _ _ hT.sd),?_,?_⟩
 · rintro i Tt x acc H' hi _ ⟨s2,hL,rfl⟩ ex nT;rw [cj] at hi;rw [iG hi] at ex;cases ex;have sT:=aa (o:= .tup [.int i, .int (T.sd i:Nat)]) nT;refine ⟨Tt,_,rfl,SqT.of a8,rfl,_,_,rfl,_,_,rfl,rfl,ext2,?_⟩;refine ⟨_,rfl,_,rfl,D,m,n,scs,us,ws,pl,ls,T,_,rfl,hk,hT.same (s2.trans sT),_,rfl,?_⟩
   have al:(nv ((List.range i).filter fun i=>decide (T.sd i < m))).length≤i:=by
    unfold nv;rw [yM];exact yY (zp _ _) (by rw [zJ];exact yP _)
   by_cases z:T.sd i < m
   · rw [decide_eq_true (show ((T.sd i:Nat):Int) < (m:Int) by omega)]
     refine iteT ?_;refine ⟨_,rfl,CompN.mk (by rw [cj];exact hi) (by omega) (sT _ _ hL) ⟨aq nL (s2.trans sT),a8,?_⟩⟩
     rw [zO,zF];simp [nv,z]
   · rw [decide_eq_false (show¬((T.sd i:Nat):Int) < (m:Int) by omega)]
     refine iteF ?_;refine CompS.mk (by rw [cj];exact hi) ⟨s2.trans sT,sT _ _ hL,?_⟩
     rw [zO,zF];simp [nv,z]
 · rintro acc H2 ⟨s2,hL,rfl⟩;rw [cj] at hL;exact q L H2 nL s2 hL
end
end K40
namespace L2
open PySem PySem.Spec PyProof.Rows
theorem fN {K K':PySem.W.Frag} {a:Addr} {mp:List (Option Nat)} {tl:TE} {tc:TT} {te:TE} {Q:VK} {σ rest:L2.St} {H H1:Hp} {xs:List V} (e:subS mp σ=none::none::rest)
 (ha:∀Q:VK,Q (.ref a) H1→tl σ H Q) (h1:SqL K H1 a xs)
 (h:∀D,H1 D=none→∃Pv:Nat→List V→Hp→Prop,Pv 0 [] (upd H1 D (.lst []))∧(∀i acc H,Pv i acc H→SqL K H a xs)∧
  (∀i z acc H,i < xs.length→Pv i acc H→xs[i]?=some z→∃T x y,z= .ref T∧SqT K' H T [x,y]∧tc (some x::some y::rest) H fun b H5=>if b=true then te (some x::some y::rest) H5 (CompN xs.length i D acc Pv) else CompS xs.length i acc Pv H5)∧∀acc H,Pv xs.length acc H→Q (.ref D) H):
 cz mp (nJ K tl) (gTup K' 2 (aV (aG 0) (aV (aG 1) gNil))) tc te σ H Q:=by
 unfold cz;rw [e];refine ha _ ⟨a,rfl,⟨xs,h1⟩,fun D nD=> ?_⟩;obtain ⟨Pv,p0,pq,ps,pd⟩:=h D nD;refine ⟨fun i m acc H=>m=xs.length - i∧i≤xs.length∧Pv i acc H,⟨xs.length,by simp,zf _,p0⟩,?_⟩
 rintro i m acc H ⟨rfl,hi,p⟩;have q1:=pq i acc H p;by_cases hlt:i < xs.length
 · refine .inr ⟨⟨xs,xs[i],q1,by simp [hlt]⟩,?_⟩
   rintro v H' ⟨rfl,y⟩;have ev:=y xs q1;obtain ⟨T,x,z,rfl,hT,hte⟩:=ps i v acc _ hlt p ev;exact ⟨T,[x,z],rfl,hT,rfl,x,[z],rfl,z,[],rfl,rfl,ext2,hte⟩
 · have ei:i=xs.length:=by omega
   subst ei;exact .inl ⟨⟨xs,q1,yP _⟩,pd acc H p⟩
end L2
namespace Dj
open PySem PySem.Spec PyProof.Rows L2 Tre Wd Su
section
variable {X:Cx} {pos:Pos} {o i:Expr} {td ty:TE} {P:Program} {w:World} {K:PySem.W.Frag}
end
mutual
noncomputable def ktT:Tr→Tk.KT
 | .int i=> .lf (.inl i)
 | .str x=> .lf (.inr x)
 | .tup ts=> .tp (ktTs ts)
 |_=> .tp []
noncomputable def ktTs:List Tr→List Tk.KT
 | []=> []
 |t::ts=>ktT t::ktTs ts
end
noncomputable def ktL:Tr→List Tk.KT
 | .tup ts=>ktTs ts
 |_=> []
mutual
def Kp:Tr→Prop
 | .int _=>True
 | .str _=>True
 | .tup ts=>Kps ts
 |_=>False
def Kps:List Tr→Prop
 | []=>True
 |t::ts=>Kp t∧Kps ts
end
theorem uA {ts:List Tr} (h:∀t∈ts,Kp t):Kps ts:=by
 induction ts with
 |nil=>trivial
 |cons t ts ih=>exact ⟨h t yO,ih fun u m=>h u (yR _ m)⟩
theorem pF {t:Tr} (h:Ty .tm t):Kp t:=by
 generalize e:So.tm=k at h
 induction h with
 |nm x=>simp only [Kp,Kps,and_self]
 |ap x ts _ _ ih=>simp only [Kp,Kps,and_true,true_and];exact uA fun t m=>ih t m e
 |fr=>cases e
 |pr=>cases e
 |fl=>cases e
 |mo=>cases e
 |li=>cases e
 |no=>cases e
 |bo=>cases e
 |ei=>cases e
 |lt=>cases e
mutual
theorem xa:∀ {t u:Tr},Kp t→Kp u→ktT t=ktT u→t=u
 | .int i, .int j,_,_,e=>by simp only [ktT,Tk.KT.lf.injEq,Sum.inl.injEq] at e;rw [e]
 | .int i, .str y,_,_,e=>by simp [ktT] at e
 | .int i, .tup us,_,_,e=>by simp [ktT] at e
 | .str x, .int j,_,_,e=>by simp [ktT] at e
 | .str x, .str y,_,_,e=>by simp only [ktT,Tk.KT.lf.injEq,Sum.inr.injEq] at e;rw [e]
 | .str x, .tup us,_,_,e=>by simp [ktT] at e
 | .tup ts, .int j,_,_,e=>by simp [ktT] at e
 | .tup ts, .str y,_,_,e=>by simp [ktT] at e
 | .tup ts, .tup us,h1,h2,e=>by
  simp only [ktT,Tk.KT.tp.injEq] at e;rw [kts_inj h1 h2 e]
theorem kts_inj:∀ {ts us:List Tr},Kps ts→Kps us→ktTs ts=ktTs us→ts=us
 | [],[],_,_,_=>rfl
 | [],_::_,_,_,e=>by simp [ktTs] at e
 |_::_,[],_,_,e=>by simp [ktTs] at e
 |t::ts,u::us,h1,h2,e=>by
  simp only [ktTs,Ab] at e;rw [xa h1.1 h2.1 e.1,kts_inj h1.2 h2.2 e.2]
end
theorem nA {t u:Tr} (h1:Ty .tm t) (h2:Ty .tm u) (e:ktL t=ktL u):t=u:=by
 have k1:=pF h1;have k2:=pF h2;obtain ⟨ts,rfl⟩:=fo h1;obtain ⟨us,rfl⟩:=fo h2;rw [kts_inj k1 k2 e]
mutual
theorem xc:∀ {t:Tr},Kp t→(ktT t).depth=t.depth
 | .int i,_=>by simp [ktT,Tk.KT.depth,Tr.depth]
 | .str x,_=>by simp [ktT,Tk.KT.depth,Tr.depth]
 | .tup ts,k=>by
  simp only [ktT,Tk.KT.depth,Tr.depth];rw [kts_dep k]
theorem kts_dep:∀ {ts:List Tr},Kps ts→Tk.KTs.depth (ktTs ts)=Trs.depth ts
 | [],_=>by simp [ktTs,Tk.KTs.depth,Trs.depth]
 |t::ts,k=>by
  simp only [ktTs,Tk.KTs.depth,Trs.depth];rw [xc k.1,kts_dep k.2]
end
section
variable {K:PySem.W.Frag} {H:Hp}
mutual
theorem wZ:∀ {v:V} {t:Tr},Kp t→TrAt H v t→KVt K H v (ktT t)
 |v, .int i,_,h=>by unfold TrAt at h;simp only [ktT,KVt];exact h
 |v, .str x,_,h=>by unfold TrAt at h;simp only [ktT,KVt];exact h
 |v, .tup ts,k,h=>by
  unfold TrAt at h;obtain ⟨r,vs,e,h1,h2⟩:=h;simp only [ktT,KVt];exact ⟨r,vs,e, .inl h1,kvts_of k h2⟩
theorem kvts_of:∀ {vs:List V} {ts:List Tr},Kps ts→TrsAt H vs ts→KVts K H vs (ktTs ts)
 |vs,[],_,h=>by unfold TrsAt at h;simp only [ktTs,KVts];exact h
 |vs,t::ts,k,h=>by
  obtain ⟨v,r,e,h1,h2⟩:=h.inv;simp only [ktTs,KVts];exact ⟨v,r,e,wZ k.1 h1,kvts_of k.2 h2⟩
end
theorem key_tm {b:Addr} {t:Tr} (ty:Ty .tm t) (hd:t.depth≤7) (h:TrAt H (.ref b) t):KeyAt K H (ktL t) b:=by
 have kp:=pF ty;obtain ⟨ts,rfl⟩:=fo ty;unfold TrAt at h;obtain ⟨r,vs,e,h1,h2⟩:=h;cases e;refine ⟨vs, .inl h1,kvts_of kp h2,?_⟩;have:= @kts_dep ts kp;simp only [Tr.depth] at hd;simp only [ktL,Tk.KT.depth];omega
end
theorem tm_ref {H:Hp} {v:V} {t:Tr} (ty:Ty .tm t) (h:TrAt H v t):∃b,v= .ref b:=by
 obtain ⟨ts,rfl⟩:=fo ty;unfold TrAt at h;obtain ⟨r,vs,e,_⟩:=h;exact ⟨r,e⟩
def En (H:Hp) (g:Tr→Fr) (e:Ent) (t:Tr):Prop:=e.1=ktL t∧TrAt H (.ref e.2.1) t∧TrAt H e.2.2 (frT (g t))
structure DAt (P:Program) (w:World) (K:PySem.W.Frag) (H:Hp) (a:Addr) (ks:List Tr) (g:Tr→Fr):Prop where
 ex:∃kvs,DJ P w K H a kvs∧Paired (En H g) kvs ks
 ty:∀t∈ks,Ty .tm t∧t.depth≤7
 nd:ks.Nodup
section
variable {P:Program} {w:World} {K:PySem.W.Frag} {H H':Hp} {a:Addr} {ks:List Tr} {g:Tr→Fr}
theorem en_mono {kvs:List Ent} (k:Kd H H') (h:Paired (En H g) kvs ks):Paired (En H' g) kvs ks:=Paired.imp' (fun e t x=>⟨x.1,x.2.1.mono k,x.2.2.mono k⟩) h
theorem DAt.kd (x:DAt P w K H a ks g) (k:Kd H H') (hs:∀o,(∀xs,o≠ .lst xs)→H a=some o→H' a=some o):DAt P w K H' a ks g:=by
 obtain ⟨kvs,d,p⟩:=x.ex;exact ⟨⟨kvs,d.kd k (hs _ (fun _ z=>by cases z) d.at_),en_mono k p⟩,x.ty,x.nd⟩
theorem DAt.same (x:DAt P w K H a ks g) (s:Same H H'):DAt P w K H' a ks g:=x.kd (Kd.of_same s) fun o _ e=>s _ _ e
theorem en_val {kvs:List Ent} (h:Paired (En H g) kvs ks) (ty:∀t∈ks,Ty .tm t) {t:Tr} (tt:Ty .tm t):(t∈ks→∃v,valJ kvs (ktL t)=some v∧TrAt H v (frT (g t)))∧(t∉ks→valJ kvs (ktL t)=none):=by
 induction h with
 |nil=>exact ⟨fun m=>(by cases m),fun _=>rfl⟩
 | @cons e u es us h1 _ ih=>
  obtain ⟨i1,i2⟩:=ih fun x m=>ty x (yR _ m);by_cases z:u=t
  · subst z;exact ⟨fun _=>⟨e.2.2,jI h1.1,h1.2.2⟩,fun n=>absurd yO n⟩
  · have ne:¬e.1=ktL t:=fun q=>z (nA (ty u yO) tt (h1.1.symm.trans q));refine ⟨fun m=> ?_,fun n=> ?_⟩
    · rw [gO ne];rcases yV.mp m with e'|m
      · exact absurd e'.symm z
      · exact i1 m
    · rw [gO ne];exact i2 fun m=>n (yR _ m)
theorem DAt.val (x:DAt P w K H a ks g) {t:Tr} (tt:Ty .tm t):∃kvs,DJ P w K H a kvs∧kvs.length=ks.length∧(t∈ks→∃v,valJ kvs (ktL t)=some v∧TrAt H v (frT (g t)))∧(t∉ks→valJ kvs (ktL t)=none):=by
 obtain ⟨kvs,d,p⟩:=x.ex;exact ⟨kvs,d,Paired.length p,en_val p (fun t m=>(x.ty t m).1) tt⟩
open Classical in
noncomputable def setG (g:Tr→Fr) (t:Tr) (f:Fr):Tr→Fr:=fun u=>if u=t then f else g u
open Classical in
noncomputable def addK (ks:List Tr) (t:Tr):List Tr:=if t∈ks then ks else ks++ [t]
theorem xv {kvs:List Ent} {t:Tr} {f:Fr} {v:V} (hv:TrAt H v (frT f)) (tt:Ty .tm t) (h:Paired (En H g) kvs ks) (ty:∀t∈ks,Ty .tm t):Paired (En H (setG g t f)) (kvs.map fun p=>if p.1=ktL t then (p.1,p.2.1,v) else p) ks:=by
 induction h with
 |nil=>exact .nil
 | @cons e u es us h1 _ ih=>
  rw [zc];refine .cons ?_ (ih fun x m=>ty x (yR _ m));by_cases z:u=t
  · subst z;rw [if_pos h1.1];refine ⟨h1.1,h1.2.1,?_⟩;unfold setG;rw [if_pos rfl];exact hv
  · have ne:¬e.1=ktL t:=fun q=>z (nA (ty u yO) tt (h1.1.symm.trans q));rw [if_neg ne];refine ⟨h1.1,h1.2.1,?_⟩;unfold setG;rw [if_neg z];exact h1.2.2
theorem xr {kvs:List Ent} {t:Tr} {f:Fr} (n:t∉ks) (h:Paired (En H g) kvs ks):Paired (En H (setG g t f)) kvs ks:=by
 induction h with
 |nil=>exact .nil
 | @cons e u es us h1 _ ih=>
  refine .cons ⟨h1.1,h1.2.1,?_⟩ (ih fun m=>n (yR _ m));unfold setG;rw [if_neg (fun z=>n (by rw [←z];exact yO))]
  exact h1.2.2
theorem DAt.put (x:DAt P w K H a ks g) {t:Tr} {b:Addr} {v:V} {f:Fr} (tt:Ty .tm t) (hd:t.depth≤7) (hb:TrAt H (.ref b) t) (hv:TrAt H v (frT f)) {kvs:List Ent} (d:DJ P w K H a kvs) (hk:DAt P w K H a ks g→Paired (En H g) kvs ks):
 DAt P w K (upd H a (dJ P w a (putJ kvs (ktL t) b v))) a (addK ks t) (setG g t f):=by
 have p:=hk x;have kd:=Kd.updJ (o:=dJ P w a (putJ kvs (ktL t) b v)) d.at_;have ev:=en_val p (fun t m=>(x.ty t m).1) tt;refine ⟨⟨_,d.put (key_tm tt hd hb),?_⟩,fun u m=> ?_,?_⟩
 · refine en_mono kd ?_;unfold putJ addK;by_cases m:t∈ks
   · obtain ⟨v',e',_⟩:=ev.1 m;rw [e',if_pos m,if_pos (show (some v').isSome=true from rfl)];exact xv hv tt p fun t m=>(x.ty t m).1
   · rw [ev.2 m,if_neg m,if_neg (by simp)]
     refine Paired.snoc (xr m p) ⟨rfl,hb,?_⟩;unfold setG;rw [if_pos rfl];exact hv
 · unfold addK at m;split at m
   · exact x.ty u m
   · rcases ze.mp m with m|m
     · exact x.ty u m
     · rw [z5.mp m];exact ⟨tt,hd⟩
 · unfold addK;split
   · exact x.nd
   · rename_i n;exact List.nodup_append.mpr ⟨x.nd,(by simp),fun u mu y my=>by rw [z5.mp my];exact fun z=>n (by rw [←z];exact mu)⟩
theorem DAt.keys (x:DAt P w K H a ks g):∃kvs,DJ P w K H a kvs∧TrsAt H (kvs.map fun e=>V.ref e.2.1) ks:=by
 obtain ⟨kvs,d,p⟩:=x.ex;refine ⟨kvs,d,?_⟩;clear d x
 induction p with
 |nil=>exact .nil
 |cons h1 _ ih=>exact .cons h1.2.1 ih
end
open PySem PySem.Spec PyProof.Rows L2 Tre Wd Su
section
variable {X:Cx} {pins:List (Addr×Obj)} {σ:L2.St} {H:Hp} {s:Shared} {a:Addr}
end
end Dj
namespace Dj
open PySem PySem.Spec PySem.W PyProof.Rows L2 Tre
abbrev IiAt (h:Heap) (it d:Addr) (i n ep:Nat) (f0:Value) (f:Bool) (ok ov:Value):Prop:=
 h.get? it=some {cls:= .type "dict_itemiterator",dict:=none,data:= .fields #[f0, .bool f, .ref d, .int i 0, .int n 0, .int ep 0,ok,ov],slots:= #[]}
def Ii (h:Heap) (it d:Addr) (i n ep:Nat):Prop:=∃f0 f ok ov,IiAt h it d i n ep f0 f ok ov∧(f0= .none∨∃a:Nat,f0=rawInt a)
section
variable {prog:Program} {w:World} {A:Around} {E:Value→Shared→Prop} {s:Shared} {d it v:Addr} {es:Array DictEntry} {ep:Nat}
theorem Ii.kp {h h':Heap} {i n:Nat} (x:Ii h it d i n ep) (e:∀o,h.get? it=some o→h'.get? it=some o):Ii h' it d i n ep:=by
 obtain ⟨f0,f,ok,ov,hit,hf0⟩:=x;exact ⟨f0,f,ok,ov,e _ hit,hf0⟩
end
section
variable {X:Cx}
end
end Dj
namespace L2
open PySem PySem.Spec PyProof.Rows
theorem kz {n:Nat} {D:Addr} {tc:TT} {te:TE} {rest:L2.St} {Q:VK} {H1:Hp} (Pv:Nat→List V→Hp→Prop) (h0:Pv 0 [] (upd H1 D (.lst [])))
 (hs:∀(i:Nat) acc H,i < n→Pv i acc H→tc (some (.int (0+(i:Int)))::rest) H fun b H5=>if b=true then te (some (.int (0+(i:Int)))::rest) H5 (CompN n i D acc Pv) else CompS n i acc Pv H5)
 (hd:∀acc H,Pv n acc H→Q (.ref D) H):mw (Itr 0 n) D tc te rest Q H1:=by
 refine ⟨fun i m acc H=>m=n - i∧i≤n∧Pv i acc H,⟨n,by simp,zf _,h0⟩,?_⟩
 rintro i m acc H ⟨rfl,hi,p⟩;by_cases hlt:i < n
 · refine .inr ⟨hlt,fun x H' y=>⟨ext1,?_⟩⟩;obtain ⟨e,y⟩:=y;subst e y;exact hs i acc _ hlt p
 · have e:i=n:=by omega
   subst e;exact .inl ⟨yP _,hd acc H p⟩
section
variable {X:Cx}
end
end L2
namespace Tre
open PySem PySem.Spec PyProof.Rows L2
section
variable {X:Cx}
end
open PySem PySem.Spec PyProof.Rows L2
section
variable {X:Cx}
end
open PySem PySem.Spec PyProof.Rows L2
section
variable {X:Cx}
end
end Tre
namespace K40
open PySem L2 Mth Tre Wd Su
def Adj (ks:List Wt):Prop:=∀j,j+1 < ks.length→(ks.getD j (0,zero)).1 < (ks.getD (j+1) (0,zero)).1
def Brs (bs:List Bd) (ks:List Wt):Prop:=Adj ks∧(∀k∈ks,0 < k.2.1)∧Can (bQ bs ks) []∧(totR bs ks < 0∨(totR bs ks=0∧∃k∈ks,(bdAt bs k.1).st=true))
theorem xL {r:List V→Hp→VK→Prop} {te:TE} {σ:L2.St} {H:Hp} {k:Bool→Hp→Prop} (h:te σ H fun v H1=>r [v] H1 fun x H2=>∃b,x= .bl b∧k b H2):tB (tCB r (eJ te tNil)) σ H k:=h
theorem vP (a:Int):decide ((if a < 0 then (-1:Int) else if 0 < a then 1 else 0)≤0)= !decide (0 < a):=by
 by_cases h:a < 0
 · rw [if_pos h,decide_eq_true (by decide),decide_eq_false (by omega)]
   rfl
 · rw [if_neg h];by_cases h2:0 < a
   · rw [if_pos h2,decide_eq_false (by decide),decide_eq_true h2]
     rfl
   · rw [if_neg h2,decide_eq_true (by decide),decide_eq_false h2]
     rfl
theorem vQ (a:Int):decide ((0:Int) < (if a < 0 then (-1:Int) else if 0 < a then 1 else 0))=decide (0 < a):=by
 by_cases h:a < 0
 · rw [if_pos h,decide_eq_false (by decide),decide_eq_false (by omega)]
 · rw [if_neg h];by_cases h2:0 < a
   · rw [if_pos h2,decide_eq_true (by decide),decide_eq_true h2]
   · rw [if_neg h2,decide_eq_false (by decide),decide_eq_false h2]
theorem vO (a:Int):decide ((if a < 0 then (-1:Int) else if 0 < a then 1 else 0) < (0:Int))=decide (a < 0):=by
 by_cases h:a < 0
 · rw [if_pos h,decide_eq_true (by decide),decide_eq_true h]
 · rw [if_neg h];by_cases h2:0 < a
   · rw [if_pos h2,decide_eq_false (by decide),decide_eq_false h]
   · rw [if_neg h2,decide_eq_false (by decide),decide_eq_false h]
theorem jg {p:Fr} (h:0 < p.2):0 < rv p↔0 < p.1:=by
 have h2:(0:Rat) < (p.2:Rat):=by exact_mod_cast h
 unfold rv;constructor
 · intro q
   have:(0:Rat) < (p.1:Rat):=by
    have:=Rat.mul_pos q h2
    rwa [Rat.div_mul_cancel (by grind)] at this
   exact_mod_cast this
 · intro q;have q2:(0:Rat) < (p.1:Rat):=by exact_mod_cast q
   rw [Rat.div_def];exact Rat.mul_pos q2 (Rat.inv_pos.mpr h2)
theorem qQ {p:Fr} (h:0 < p.2):rv p < 0↔p.1 < 0:=by
 have:=jg (p:=negF p) h;rw [lJ] at this;have e:(negF p).1= -p.1:=rfl;rw [e] at this;constructor
 · intro q;have:=this.mp (by grind)
   omega
 · intro q;have:=this.mpr (by omega)
   grind
theorem vT {p:Fr} (h:0 < p.2):rv p=0↔p.1=0:=by
 have h1:=jg h;have h2:=qQ h;constructor
 · intro q;rw [q] at h1 h2;have n1:¬0 < p.1:=fun z=>absurd (h1.mpr z) (by decide)
   have n2:¬p.1 < 0:=fun z=>absurd (h2.mpr z) (by decide)
   omega
 · intro q;unfold rv;rw [q];have:((0:Int):Rat)=0:=rfl;rw [this];grind
theorem pj {r:List V→Hp→VK→Prop} {te:TE} {σ:L2.St} {H:Hp} {Q:VK} (h:te σ H fun v H1=>r [v] H1 Q):tCB r (eJ te tNil) σ H Q:=h
section
variable {P:Program} {w:World} {K:PySem.W.Frag} {mg:Str→Option Value} {base:Heap} {T0:Addr}
def ja (K:PySem.W.Frag):Sp:=fun vs H Q _=>∃(lb lw:Addr) (bvs wvs:List V) (T:List Tr) (bs:List Bd) (ks:List Wt) (e m:Nat),vs= [.ref lb, .ref lw]∧Ad H lb lw bvs wvs T bs ks e m∧
 ∀(b:Bool) (H':Hp),Same H H'→(b=true↔Brs bs ks)→Q (.bl b) H'
theorem scBe:FnScope ["bounds","weights","places","rising","pairs","total"] ["bounds","weights"] (ag lG):= .of
theorem rQ {f fS fA:Addr} {fd dS dA:FuncData} (F:Fun K "bears" "bears" lG f fd) (B:Blt mg)
 (gS:FnOk P w K mg base CX0 1 fS dS ["one"] (lx K)) (kS:PySem.W.keepIn K (.ref fS)=true) (bS:Binds K dS ["one"] []) (mS:mg "sign_of"=some (.ref fS))
 (gA:FnOk P w K mg base CX0 4 fA dA ["bounds","weights"] (jb K)) (kA:PySem.W.keepIn K (.ref fA)=true) (bA:Binds K dA ["bounds","weights"] []) (mA:mg "added"=some (.ref fA)):FnOk P w K mg base CX0 5 f fd ["bounds","weights"] (ja K):=by
 refine F.okb scBe fun vs H Q E h=> ?_;refine hZq fun q_ e_=> ?_;obtain ⟨lb,lw,bvs,wvs,T,bs,ks,e,m,rfl,ad,k⟩:=h;subst e_;refine ⟨rfl,fun cdv A outer s hr=> ?_⟩;have hun:=hr.units;have hr1:Room 1 _:=hr.mono (by decide)
 have hu60:=z6 (A0 (show 60≤64 by decide) _) hun
 have hu50:=z6 (A0 (show 50≤64 by decide) _) hun
 refine ⟨_,ae (dr (NC:= ["place","weight"]) (mp:= [none,none]) (g:=gTup K 2 (aV (aG 0) (aV (aG 1) gNil))) (i:=2) rfl scBe.nd rfl rfl rfl (aO (pv 1)) (fun _ _ _ _ _=>aW (n:=2) rfl (ak (pgA 0 (show (["place","weight"]:List Str).Nodup by decide +kernel)) (ak (pgA 1 (show (["place","weight"]:List Str).Nodup by decide +kernel)) aL))) (fun _ _ _ _ _=>aN) (fun _ _ _ _ _=>pv 0))
  (ae (psA 3 scBe.nd (aB (iR rfl) rfl B.al PyProof.Rows.boot_all (a0 (aQ (NC:= ["one","other"]) (mp:= [none,none]) (g:=gTup K 2 (aV (aG 0) (aV (aG 1) gNil))) rfl (ub (k:= .lst) rfl B.zi (a0 (pv 2) (a0 (i4 je (pv 2) (jk ac) jm) a9))) (fun _ _ _ _ _=>aW (n:=2) rfl (ak (pgA 0 (show (["one","other"]:List Str).Nodup by decide +kernel)) (ak (pgA 1 (show (["one","other"]:List Str).Nodup by decide +kernel)) aL))) (fun _ _ _ _ _=>aN) (fun _ _ _ _ _=>cL iF (pv 0) (pv 1) (aE _))) a9)))
  (ae (cf (PW.pt (vh (vX (eO (pv 3) fun _=>rfl)) (qX (eO (aB (iQ rfl) rfl B.an PyProof.Rows.boot_any (a0 (aQ (NC:= ["place","weight"]) (mp:= [none,none]) (g:=gTup K 2 (aV (aG 0) (aV (aG 1) gNil))) rfl (aO (pv 1)) (fun _ _ _ _ _=>aW (n:=2) rfl (ak (pgA 0 (show (["place","weight"]:List Str).Nodup by decide +kernel)) (ak (pgA 1 (show (["place","weight"]:List Str).Nodup by decide +kernel)) aL))) (fun _ _ _ _ _=>aN) (fun _ _ _ _ _=>cL yw (ai gS hr1 rfl mS kS bS .nil ar (a0 (pv 1) a9)) ac (aE _))) a9)) fun _=>rfl))))
   (ah (ax rJ)) bg)
  (ae (dQ (ai gA hr rfl mA kA bA .nil ar (a0 (pv 0) (a0 (pv 1) a9))) (aW rfl (ak (pgA 4 scBe.nd) (ak (pgA 5 scBe.nd) aL))))
  (ae (cf (PW.pt (vh (aF (wg hu50) (pv 4) (aU a9) (aE _)) (qX (aF eK (ai gS hr1 rfl mS kS bS .nil ar (a0 (pv 5) a9)) ac (aE _)))))
   (ah (ax rJ)) bg)
  (ah (ax (rB (cL iF (ai gS hr1 rfl mS kS bS .nil ar (a0 (pv 5) a9)) ac (aE _)) (jp (aB (iQ rfl) rfl B.an PyProof.Rows.boot_any (a0 (aQ (NC:= ["place","bounds"]) (mp:= [none,some 0]) rfl (aO (pv 2)) (fun _ _ _ _ _=>pgA 0 (show (["place","bounds"]:List Str).Nodup by decide +kernel)) (fun _ _ _ _ _=>aN) (fun _ _ _ _ _=>ao (r:=rIxT K) aA (ao (r:=rIxL K) aw (pv 1) (pv 0) fun _ _=>rfl) ac fun _ _=>rfl)) a9)))))))))),?_⟩
 have hL20:(20000:Nat)≤sizeLine:=by decide +kernel
 have kl:=ad.kl;have wl:=ad.tw.len;rw [yM] at wl;refine cQ ?_;refine fN (K':=K) (xs:=wvs) (rest:= []) (a:=lw) rfl (fun Q q=>⟨_,rfl,q⟩) (SqL.of ad.hw) fun L nL=> ?_;refine ⟨fun i acc H'=>Same H H'∧H' L=some (.lst acc)∧acc=(ks.take i).map fun k=>V.int (k.1:Int),⟨aa nL,a8,rfl⟩,fun i acc H' p=>SqL.of (p.1 _ _ ad.hw),?_,?_⟩
 · rintro i z acc H1 hi ⟨s1,hL,rfl⟩ ez;obtain ⟨t,et,ht⟩:=ad.tw.get' ez;rw [yQ] at et;obtain ⟨kk,ek,rfl⟩:=yS.mp et;refine hZq fun q_ e_=> ?_;obtain ⟨pw,rw',rfl,hpw,hrw⟩:=oZ ht;subst e_;refine ⟨pw,_,_,rfl,SqT.of (s1 _ _ hpw),?_⟩;refine di ⟨_,rfl,CompN.mk hi ?_ hL ⟨aq nL s1,a8,?_⟩⟩
   · rw [yM,zh];omega
   · rw [av ek,z4];rfl
 rintro acc H1 ⟨s1,hL,rfl⟩;rw [wl,zg] at hL;refine am ?_
 try dsimp only
 refine tM ?_;refine ow ?_;refine ⟨_,rfl,_,rfl,_,rfl,L,_,rfl,SqL.of hL,fun b nb=> ?_⟩
 have ec:cutV (ks.map fun k=>V.int (k.1:Int)) (some 1) none=(ks.drop 1).map fun k=>V.int (k.1:Int):=by
  unfold cutV;rw [show (1:Int)=((1:Nat):Int) by rfl,HT.sIx_nat,HT.sIx_none]
  cases ks with
  |nil=>rfl
  |cons k0 r=>
   have:min 1 ((k0::r).map fun k=>V.int (k.1:Int)).length=1:=by rw [yM,za];omega
   rw [this,List.take_of_length_le (by rw [Ag];exact yP _),List.map_drop]
 rw [ec];have sb:=aa (o:= .lst ((ks.drop 1).map fun k=>V.int (k.1:Int))) nb;have hb:=a8 (H:=H1) (a:=b) (o:= .lst ((ks.drop 1).map fun k=>V.int (k.1:Int)));have s2:=s1.trans sb;have hL2:=sb _ _ hL;generalize upd H1 b (.lst ((ks.drop 1).map fun k=>V.int (k.1:Int)))=H2 at sb hb s2 hL2 ⊢;refine ⟨L,b,_,_,rfl,SqL.of hL2,SqL.of hb,?_⟩;refine t6 (K':=K) (rest:= []) (xs:=ks.map fun k=>V.int (k.1:Int)) (ys:=(ks.drop 1).map fun k=>V.int (k.1:Int)) rfl (by rw [yM,yM,Ag];omega) fun D nD=> ?_
 refine ⟨fun i acc H'=>Same H2 H'∧H' D=some (.lst acc)∧∃bl:List Bool,acc=bl.map V.bl∧bl.length=i∧(bl.all id=true↔∀j,j < i→(ks.getD j (0,zero)).1 < (ks.getD (j+1) (0,zero)).1),⟨aa nD,a8,[],rfl,rfl,by simp⟩,fun i acc H' p=>⟨SqL.of (p.1 _ _ hL2),SqL.of (p.1 _ _ hb)⟩,?_,?_⟩
 · rintro i Tt x y acc H3 hi _ ⟨s3,hD,bl,rfl,bll,hbl⟩ ex ey nT;rw [yM,Ag] at hi;rw [yQ] at ex ey;obtain ⟨k1,e1,rfl⟩:=yS.mp ex;obtain ⟨k2,e2,rfl⟩:=yS.mp ey;rw [List.getElem?_drop,Nat.add_comm] at e2;have sT:=aa (o:= .tup [.int (k1.1:Int), .int (k2.1:Int)]) nT;refine ⟨_,rfl,_,rfl,(k1.1:Int),(k2.1:Int),rfl,rfl,?_⟩;refine CompN.mk (by rw [yM,Ag];exact hi) ?_ (sT _ _ hD) ⟨aq nD (s3.trans sT),a8,bl++ [decide ((k1.1:Int) < (k2.1:Int))],by rw [z4];rfl,by rw [z7,bll];rfl,?_⟩
   · rw [yM];omega
   · have g1:ks.getD i (0,zero)=k1:=by rw [z9,e1];rfl
     have g2:ks.getD (i+1) (0,zero)=k2:=by rw [z9,e2];rfl
     rw [List.all_append,A7,hbl];constructor
     · rintro ⟨h1,h2⟩ j hj;by_cases z:j=i
       · subst z;rw [g1,g2];simp only [List.all_cons,id_eq,List.all_nil,Bool.and_true,decide_eq_true_eq] at h2;omega
       · exact h1 j (by omega)
     · intro h;refine ⟨fun j hj=>h j (by omega),?_⟩
       have:=h i (by omega)
       rw [g1,g2] at this;simp only [List.all_cons,id_eq,List.all_nil,Bool.and_true,decide_eq_true_eq];omega
 intro acc H3 z_;refine hZq fun q_ e_=> ?_;obtain ⟨s3,hD,bl,rfl,bll,hbl⟩:=z_;subst e_;rw [yM,Ag] at bll;refine ⟨D,bl,rfl,SqL.of hD,?_⟩
 have adj:bl.all id=true↔Adj ks:=by
  rw [hbl,yM,Ag];unfold Adj;exact ⟨fun h j hj=>h j (by omega),fun h j hj=>h j (by omega)⟩
 have s23:=s2.trans s3;have hL3:=s3 _ _ hL2;clear hbl bll hD hb;refine am ?_
 try dsimp only
 have shK:∀k∈ks,Sh k.2:=fun k m=>(ad.kg k m).1;have no:∀H',Same H H'→¬Brs bs ks→Q (.bl false) H':=fun H' s' nb=>k false H' s' ⟨fun z=>(by cases z),fun z=>absurd z nb⟩
 refine ⟨_,rfl,_,rfl,?_⟩
 cases eb:bl.all id with
 |false=>
  refine iteT (iteT ?_)
  exact no _ s23 fun z=>by
   rw [adj.mpr z.1] at eb;cases eb
 |true=>
  refine iteF ?_;have hadj:=adj.mp eb;have hw3:=s23 _ _ ad.hw;refine xL ?_;refine fN (K':=K) (xs:=wvs) (rest:= []) (a:=lw) rfl (fun Q q=>⟨_,rfl,q⟩) (SqL.of hw3) fun L2' nL2=> ?_;refine ⟨fun i acc H'=>Same H3 H'∧H' L2'=some (.lst acc)∧acc=((ks.take i).map fun k=> !decide (0 < k.2.1)).map V.bl,⟨aa nL2,a8,rfl⟩,fun i acc H' p=>SqL.of (p.1 _ _ hw3),?_,?_⟩
  · rintro i z acc H4 hi ⟨s4,hL4,rfl⟩ ez;obtain ⟨t,et,ht⟩:=ad.tw.get' ez;rw [yQ] at et;obtain ⟨kk,ek,rfl⟩:=yS.mp et;refine hZq fun q_ e_=> ?_;obtain ⟨pw,rw',rfl,hpw,hrw⟩:=oZ ht;subst e_;have s34:=s23.trans s4;refine ⟨pw,_,_,rfl,SqT.of (s34 _ _ hpw),?_⟩;refine di ⟨_,rfl,rw',_,_,rfl,SqT.of (s34 _ _ hrw),_,_,rfl,rfl,?_⟩;dsimp only;rw [vP];refine CompN.mk hi ?_ hL4 ⟨aq nL2 s4,a8,?_⟩
    · rw [yM,yM,zh];omega
    · rw [av ek,z4,z4];rfl
  rintro acc H4 ⟨s4,hL4,rfl⟩;rw [wl,zg] at hL4;refine ⟨L2',_,rfl,SqL.of hL4,_,rfl,?_⟩;have s24:=s23.trans s4
  cases ea:(ks.map fun k=> !decide (0 < k.2.1)).any id with
  |true=>
   refine iteT ?_;refine no _ s24 fun z=> ?_;rw [List.any_eq_true] at ea;obtain ⟨b,mb,hb⟩:=ea;obtain ⟨k',mk',rfl⟩:=zo.mp mb;have:=z.2.1 k' mk';rw [decide_eq_true this] at hb;cases hb
  |false=>
   have pos:∀k∈ks,0 < k.2.1:=fun k' mk'=>by
    rw [List.any_eq_false] at ea;have:=ea _ (List.mem_map_of_mem mk');by_cases z:0 < k'.2.1
    · exact z
    · rw [decide_eq_false z] at this;exact absurd rfl this
   refine iteF ?_;have ad4:=ad.same s24;have hL5:=s4 _ _ hL3;refine ⟨_,rfl,_,rfl,lb,lw,bvs,wvs,T,bs,ks,e,m,rfl,ad4,fun p r x0 us tt H5 s5 hp hx0 hr' hcan hgq shT eT=> ?_⟩;refine ⟨p,_,rfl,SqT.of hp,rfl,_,_,rfl,_,_,rfl,rfl,?_⟩;have s25:=s24.trans s5;have hL6:=s5 _ _ hL5
   have pu:Trs.pure (us.map prT):=dN fun t m'=>by
    obtain ⟨u,mu,rfl⟩:=zo.mp m';exact eX (hgq u mu).pr.1
   have dd:Trs.depth (us.map prT)≤8:=iN fun t m'=>by
    obtain ⟨u,mu,rfl⟩:=zo.mp m';exact (hgq u mu).pr.2
   refine ⟨_,rfl,by show 0≤sizeLine;decide,fun z nz=> ?_⟩
   have sz:=aa (o:= .tup []) nz;refine ⟨us.map prT,[],hx0.mono (Kd.of_same sz),fR a8 .nil, .inl pu,by omega,_,rfl,?_⟩
   have s26:=s25.trans sz;have hL7:=sz _ _ hL6;have hr7:=Same.tup sz hr';have hb7:=s26 _ _ ad.hb;have tb7:=ad.tb.mono (Kd.of_same s26);generalize upd H5 z (.tup [])=H6 at sz s26 hL7 hr7 hb7 tb7 ⊢
   have e0:(!eqTs (us.map prT) [])=decide (us≠ []):=by
    cases us with
    |nil=>rfl
    |cons u l=>rfl
   rw [e0];by_cases zu:us= []
   · rw [decide_eq_false (fun q=>q zu)];refine iteF ?_;subst zu;refine ⟨_,rfl,r,_,_,rfl,hr7,_,0,rfl,rfl,_,rfl,?_⟩;dsimp only;rw [vQ];by_cases z1:0 < tt.1
     · rw [decide_eq_true z1];refine iteT ?_;refine no _ s26 fun zz=> ?_;have:=(jg shT.1).mpr z1;rw [eT] at this;rcases zz.2.2.2 with q|⟨q,_⟩<;>grind
     · rw [decide_eq_false z1];refine iteF ?_;refine ⟨_,rfl,r,_,_,rfl,hr7,_,0,rfl,rfl,_,rfl,?_⟩;dsimp only;rw [vO];by_cases z2:tt.1 < 0
       · rw [decide_eq_true z2];refine iteT (k true _ s26 ⟨fun _=>⟨hadj,pos,hcan, .inl ?_⟩,fun _=>rfl⟩);rw [←eT];exact (qQ shT.1).mpr z2
       · rw [decide_eq_false z2];refine iteF ?_
         have t0:totR bs ks=0:=by
          rw [←eT];exact (vT shT.1).mpr (by omega)
         refine pj ?_;refine bN rfl ?_;refine ⟨_,rfl,L,rfl,⟨_,SqL.of hL7⟩,fun M nM=> ?_⟩;refine bG (xs:=ks.map fun k=>V.int (k.1:Int)) (fun i acc H'=>Same H6 H'∧H' M=some (.lst acc)∧acc=((ks.take i).map fun k=>(bdAt bs k.1).st).map V.bl) ⟨aa nM,a8,rfl⟩ (fun i acc H' p=>SqL.of (p.1 _ _ hL7)) ?_ ?_
         · rintro i x acc H7 hi ex ⟨s7,hM,rfl⟩;rw [yQ] at ex;obtain ⟨kk,ek,rfl⟩:=yS.mp ex;refine hZq fun q_ e_=> ?_;obtain ⟨pb,xu,rm,eb',hpb,hxu,hrm⟩:=lY (tb7.mono (Kd.of_same s7)) (ad.kb kk (yT ek));subst e_;refine ⟨_,rfl,_,rfl,lb,bvs,_,_,rfl,rfl,SqL.of (s7 _ _ hb7),eb',pb,_,2,_,rfl,rfl,SqT.of hpb,rfl,?_⟩;refine CompN.mk hi ?_ hM ⟨aq nM s7,a8,?_⟩
           · rw [yM,yM,zh];omega
           · rw [av ek,z4,z4];rfl
         · rintro acc H7 ⟨s7,hM,rfl⟩;rw [yM,zg] at hM;refine ⟨M,_,rfl,SqL.of hM,k _ _ (s26.trans s7) ?_⟩;rw [uu,List.any_eq_true];constructor
           · rintro ⟨k',mk',hk'⟩;exact ⟨hadj,pos,hcan, .inr ⟨t0,k',mk',hk'⟩⟩
           · rintro ⟨_,_,_,q⟩;rcases q with q|⟨_,q⟩
             · rw [t0] at q;exact absurd q (by decide)
             · exact q
   · rw [decide_eq_true zu];refine iteT (iteT ?_);exact no _ s26 fun zz=>zu (hcan.uniq zz.2.2.1)
open Classical in
noncomputable def gv (ks:List Tr) (G:Tr→Fr) (t:Tr):Rat:=if t∈ks then rv (G t) else 0
def Mt (ks:List Tr) (G:Tr→Fr) (b:Bd):Prop:=lin (gv ks G) b.us < rv b.m∨(lin (gv ks G) b.us=rv b.m∧b.st=false)
theorem vS {p q:Fr} (h1:0 < p.2) (h2:0 < q.2):p.1*q.2 < q.1*p.2↔rv p < rv q:=by
 have h:=ym (p:=q) (q:=p) h2 h1;rw [←Rat.not_le,←h];omega
def lA (K:PySem.W.Frag):Sp:=fun vs H Q _=>∃(p q:Addr) (a b c d:Int),vs= [.ref p, .ref q]∧SqT K H p [.int a, .int b]∧SqT K H q [.int c, .int d]∧Big a∧Big b∧Big c∧Big d∧Q (.bl (decide (a*d < c*b))) H
theorem scLe:FnScope ["one","other"] ["one","other"] (ag qL):= .of
theorem um {f:Addr} {fd:FuncData} (F:Fun K "is_less" "is_less" qL f fd):FnOk P w K mg base CX0 1 f fd ["one","other"] (lA K):=by
 refine F.okb scLe fun vs H Q E h=> ?_;obtain ⟨p,q,a,b,c,d,rfl,hp,hq,ba,bb,bc,bd,k⟩:=h;refine ⟨rfl,fun cdv A outer s hr=> ?_⟩;refine ⟨_,ah (ax (cL iF (aj aX (ao aA (pv 0) ac fun _ _=>rfl) (ao aA (pv 1) ac fun _ _=>rfl)) (aj aX (ao aA (pv 1) ac fun _ _=>rfl) (ao aA (pv 0) ac fun _ _=>rfl)) (aE _))),?_⟩;exact ⟨_,rfl,p,_,0, .int a,rfl,rfl,hp,rfl,_,rfl,q,_,1, .int d,rfl,rfl,hq,rfl,_,_,rfl,rfl,⟨ba,bd⟩,_,rfl,q,_,0, .int c,rfl,rfl,hq,rfl,_,rfl,p,_,1, .int b,rfl,rfl,hp,rfl,_,_,rfl,rfl,⟨bc,bb⟩,_,_,rfl,rfl,k⟩
structure Nd (P:Program) (w:World) (K:PySem.W.Frag) (H:Hp) (d:Addr) (ks:List Tr) (G:Tr→Fr) (m:Nat):Prop where
 da:Dj.DAt P w K H d ks G
 g:∀t∈ks,Sh (G t)∧Gf m (G t)
theorem Nd.same {H H':Hp} {d:Addr} {ks:List Tr} {G:Tr→Fr} {m:Nat} (s:Same H H') (h:Nd P w K H d ks G m):Nd P w K H' d ks G m:=⟨h.da.same s,h.g⟩
def qB (P:Program) (w:World) (K:PySem.W.Frag):Sp:=fun vs H Q _=>∃(v:V) (d:Addr) (b:Bd) (T:List Tr) (e m:Nat) (ks:List Tr) (G:Tr→Fr),vs= [v, .ref d]∧TrAt H v (bdT b)∧Gb T e b∧T.length≤9∧Nd P w K H d ks G m∧1+9*(e+m+2)≤8000∧
 ∀(r:Bool) (H':Hp),Same H H'→(r=true↔Mt ks G b)→Q (.bl r) H'
theorem scIsm:FnScope ["bound","numbers","pairs","limit","strict","total","term","share"] ["bound","numbers"] (ag sIsm):= .of
theorem wN {f fT fP fL Z:Addr} {fd dT dP dL:FuncData} (F:Fun K "is_met" "is_met" sIsm f fd)
 (gT:FnOk P w K mg base CX0 2 fT dT ["one","other"] (gj K)) (kT:PySem.W.keepIn K (.ref fT)=true) (bT:Binds K dT ["one","other"] []) (mT:mg "times"=some (.ref fT))
 (gP:FnOk P w K mg base CX0 2 fP dP ["one","other"] (ft K)) (kP:PySem.W.keepIn K (.ref fP)=true) (bP:Binds K dP ["one","other"] []) (mP:mg "plus"=some (.ref fP))
 (gL:FnOk P w K mg base CX0 1 fL dL ["one","other"] (lA K)) (kL:PySem.W.keepIn K (.ref fL)=true) (bL:Binds K dL ["one","other"] []) (mL:mg "is_less"=some (.ref fL))
 (mZ:mg "ZERO"=some (.ref Z)) (hZ:∀H:Hp,SqT K H Z [.int 0, .int 1]):FnOk P w K mg base CX0 3 f fd ["bound","numbers"] (qB P w K):=by
 refine F.okb scIsm fun vs H Q E h=> ?_;refine hZq fun q_ e_=> ?_;obtain ⟨v,d,b,T,e,m,ks,G,rfl,hv,gB,hT9,hN,h8,k⟩:=h;subst e_;refine ⟨rfl,fun cdv A outer s hr=> ?_⟩;have hr1:Room 1 _:=hr.mono (by decide)
 have hu30:(A.deeper (PyProof.Rows.envOfC (Str.ofString "is_met") (ag sIsm) s.heap.objs.size f cdv)).units+30 < cLine:=by have:=hr.units;omega
 have hu1:=nK hr
 refine ⟨_,ae (dQ (pv 0) (aW (n:=3) rfl (ak (pgA 2 scIsm.nd) (ak (pgA 3 scIsm.nd) (ak (pgA 4 scIsm.nd) aL)))))
  (ae (psA 5 scIsm.nd (gy (v:= .ref Z) rfl mZ rfl))
  (ae (cg PassesOwn.never rfl (eP (pv 2)) (aW rfl (ak (pgA 6 scIsm.nd) (ak (pgA 7 scIsm.nd) aL)))
   (ah (psA 5 scIsm.nd (ai gP hr rfl mP kP bP .nil ar (a0 (pv 5) (a0 (ai gT hr rfl mT kT bT .nil ar (a0 (pv 7) (a0 (Dj.pe_getJ (P:=P) (w:=w) (K:=K) rfl rfl rfl hu30 (pv 1) (pv 6) (gy (v:= .ref Z) rfl mZ rfl) ⟨rfl,rfl,rfl,rfl⟩) a9))) a9))))))
  (ah (ax (rB (ai gL hr1 rfl mL kL bL .nil ar (a0 (pv 5) (a0 (pv 3) a9))) (jp (wd (cL (wo hu1) (pv 5) (pv 3) (aE _)) (jp (w8 (pv 4)))))))))),?_⟩
 refine hZq fun q_ e_=> ?_;obtain ⟨pb,x,rm,rfl,hpb,hx,hrm⟩:=vz hv;subst e_;refine hZq fun q_ e_=> ?_;obtain ⟨au,xs,rfl,hau,hxs⟩:=at_t hx;subst e_;have xl:=hxs.len;rw [yM] at xl;have ul:=dz gB.asc gB.mem;refine ⟨_,rfl,pb,_,rfl,SqT.of hpb,rfl,_,_,rfl,_,_,rfl,_,_,rfl,rfl,?_⟩;refine ⟨_,rfl,au,rfl,⟨_,SqT.of hau⟩,?_⟩
 refine nQ (xs:=xs) (fun i σ H'=>Same H H'∧∃(r:Addr) (tt:Fr) (v6 v7:Option V),σ= [some (.ref pb),some (.ref d),some (.ref au),some (.ref rm),some (.bl b.st),some (.ref r),v6,v7]∧SqT K H' r [.int tt.1, .int tt.2]∧Sh tt∧rv tt=lin (gv ks G) (b.us.take i)∧Gf (1+i*(e+m+2)) tt)
  ⟨fun x o e=>e,Z,zero,none,none,rfl,hZ _,gp,by rw [rv_zero,zG];rfl,Gf.one (by omega)⟩ (fun i σ H' _ p=>SqT.of (p.1 _ _ hau)) ?_ ?_
 · rintro i z σ H1 ez ⟨sH,r,tt,v6,v7,rfl,hr',shT,eT,gT'⟩;obtain ⟨t',et',ht'⟩:=(hxs.mono (Kd.of_same sH)).get' ez;rw [yQ] at et';refine hZq fun q_ e_=> ?_;obtain ⟨⟨tm,fr⟩,eq,rfl⟩:=yS.mp et';subst e_;have g:=gB.gq _ (yT eq);have shf:=g.sh;have il:i < b.us.length:=(yW.mp eq).1
   have i9:1+i*(e+m+2)+(e+m+2)≤8000:=by
    have:(i+1)*(e+m+2)≤9*(e+m+2):=zy _ (by omega)
    rw [Nat.add_mul] at this;omega
   refine hZq fun q_ e_=> ?_;obtain ⟨T',x1,y1,rfl,hT',hx1,hy1⟩:=bX ht';subst e_;obtain ⟨rf,rfl,hrf⟩:=e9 hy1;obtain ⟨b',rfl⟩:=Dj.tm_ref g.ty hx1;have N1:=hN.same sH;refine hZq fun q_ e_=> ?_;obtain ⟨kvs,DJ1,_,kv1,kv2⟩:=N1.da.val g.ty;subst e_
   obtain ⟨rg,ff,egd,hrg,shg,gg,erv⟩:∃(rg:Addr) (ff:Fr),(Dj.valJ kvs (Dj.ktL tm)).getD (.ref Z)= .ref rg∧SqT K H1 rg [.int ff.1, .int ff.2]∧Sh ff∧Gf (m+1) ff∧rv ff=gv ks G tm:=by
    by_cases mk:tm∈ks
    · obtain ⟨v1,ev,hv1⟩:=kv1 mk;obtain ⟨rg,rfl,hrg⟩:=e9 hv1;refine ⟨rg,G tm,by rw [ev];rfl,SqT.of hrg,(N1.g tm mk).1,(N1.g tm mk).2.mono (by omega),?_⟩
      unfold gv;rw [if_pos mk]
    · refine ⟨Z,zero,by rw [kv2 mk];rfl,hZ _,gp,Gf.one (by omega),?_⟩
      unfold gv;rw [if_neg mk];exact rv_zero
   refine ⟨T',_,rfl,SqT.of hT',rfl,_,_,rfl,_,_,rfl,rfl,?_⟩;refine ⟨_,rfl,_,rfl,_,rfl,d,kvs,rfl,DJ1,_,rfl,b',Dj.ktL tm,rfl,DJ1,Dj.key_tm g.ty g.dep hx1,?_⟩;rw [egd];refine ⟨rf,rg,fr.1,fr.2,ff.1,ff.2,rfl,SqT.of hrf,hrg,⟨g.gf.pos,gg.pos,g.gf.top.big (by omega),g.gf.bot.big (by omega),gg.top.big (by omega),gg.bot.big (by omega)⟩,fun r2 H2 nr2 s2 hr2=> ?_⟩
   have g2:Gf (e+(m+1)) (cC fr ff):=g.gf.times gg;refine ⟨r,r2,tt.1,tt.2,(cC fr ff).1,(cC fr ff).2,rfl,Same.tup s2 hr',SqT.of hr2,⟨gT'.pos,g2.pos,gT'.top.big (by omega),gT'.bot.big (by omega),g2.top.big (by omega),g2.bot.big (by omega)⟩,fun r3 H3 nr3 s3 hr3=> ?_⟩
   refine ⟨sH.trans (s2.trans s3),r3,dR tt (cC fr ff),_,_,rfl,SqT.of hr3,gw shT (dG shf shg),?_,?_⟩
   · rw [jh shT (dG shf shg),hE shf shg,eT,erv,av eq,jw];simp only [lin];grind
   · have:=gT'.plus g2;refine this.mono ?_;rw [Nat.add_mul];omega
 · rintro σ H1 ⟨sH,r,tt,v6,v7,rfl,hr',shT,eT,gT'⟩;rw [xl,zg] at eT;have hrm1:=sH _ _ hrm
   have i9:1+xs.length*(e+m+2)≤8000:=by
    have:xs.length*(e+m+2)≤9*(e+m+2):=zy _ (by omega)
    omega
   have gm:=gB.gf;refine ⟨_,rfl,_,rfl,r,rm,tt.1,tt.2,b.m.1,b.m.2,rfl,hr',SqT.of hrm1,gT'.top.big i9,gT'.bot.big i9,gm.top.big (by omega),gm.bot.big (by omega),_,rfl,?_⟩
   have e1:=vS gT'.pos gm.pos;by_cases z:tt.1*b.m.2 < b.m.1*tt.2
   · rw [decide_eq_true z];refine iteT (k true H1 sH ⟨fun _=> .inl ?_,fun _=>rfl⟩);rw [←eT];exact e1.mp z
   · rw [decide_eq_false z];refine iteF ?_;refine ⟨_,rfl,_,rfl,r,rm,tt.1,tt.2,b.m.1,b.m.2,rfl,rfl,hr',SqT.of hrm1,_,rfl,?_⟩;have nlt:¬lin (gv ks G) b.us < rv b.m:=by rw [←eT];exact fun y=>z (e1.mpr y)
     by_cases z2:tt.1=b.m.1∧tt.2=b.m.2
     · rw [decide_eq_true z2];refine iteT ?_
       have eR:lin (gv ks G) b.us=rv b.m:=by
        rw [←eT,show tt=b.m from Prod.ext z2.1 z2.2]
       refine ⟨_,rfl,_,rfl,k (!b.st) H1 sH ⟨fun h=> .inr ⟨eR,by simpa using h⟩,fun h=> ?_⟩⟩
       rcases h with h|⟨_,h⟩
       · exact absurd h nlt
       · rw [h];rfl
     · rw [decide_eq_false z2];refine iteF (k false H1 sH ⟨fun h=>(by cases h),fun h=> ?_⟩)
       rcases h with h|⟨h,_⟩
       · exact absurd h nlt
       · exfalso;rw [←eT] at h;have:=lK shT gB.sh h;exact z2 ⟨by rw [this],by rw [this]⟩
end
end K40
namespace L2
open PySem Tre
noncomputable def dC (f:Expr→Option Tr):List Expr→Option (List Tr)
 | []=>some []
 |e::es=>match f e,dC f es with
  |some t,some ts=>some (t::ts)
  |_,_=>none
noncomputable def litE:Nat→Expr→Option Tr
 |0,_=>none
 |n+1,e=>match e with
  | .Constant (.str x) _ _=>some (.str x)
  | .Constant (.int i) _ _=>some (.int i)
  | .UnaryOp .USub (.Constant (.int i) _ _) _=>some (.int (-i))
  | .Tuple es _ _=>if es.length≤100 then (dC (litE n) es).map .tup else none
  |_=>none
noncomputable def litL (n:Nat):Expr→Option (List Tr)
 | .List es _=>if es.length≤100 then dC (litE n) es else none
 |_=>none
def tLit (t:Tr):TE:=fun _ H Q=>∀v H',Same H H'→TrAt H' v t→Q v H'
def uZ (ts:List Tr):TA:=fun _ H Q=>∀vs H',Same H H'→TrsAt H' vs ts→Q vs H'
def xS (ts:List Tr):TE:=fun _ H Q=>∀r vs H',Same H H'→H r=none→H' r=some (.lst vs)→TrsAt H' vs ts→Q (.ref r) H'
section
variable {X:Cx}
theorem PE.imp {e:Expr} {t u:TE} (h:PE X e t) (k:∀σ H Q,u σ H Q→t σ H Q):PE X e u:=fun pins s σ H Q I q=>h pins s σ H Q I (k σ H Q q)
theorem PA.imp {es:List Expr} {t u:TA} (h:PA X es t) (k:∀σ H Q,u σ H Q→t σ H Q):PA X es u:=fun pos pins s σ H Q I q=>h pos pins s σ H Q I (k σ H Q q)
theorem mU {H:Hp} {p:Addr} {o:HO} (h:H p=none):Same H (upd H p o):=fun b u e=>by
 rw [af (aD e h)];exact e
theorem Same.none {H H':Hp} {p:Addr} (s:Same H H') (h:H' p=none):H p=none:=by
 cases e:H p with
 |none=>rfl
 |some o=>rw [s p o e] at h;cases h
theorem ig:∀ {n:Nat} {es:List Expr} {ts:List Tr},dC (litE n) es=some ts→ts.length=es.length
 |n,[],ts,h=>by
  rw [dC] at h;cases h;rfl
 |n,e::es,ts,h=>by
  rw [dC] at h;split at h
  · rename_i t us h1 h2;cases h;rw [za,za,ig h2]
  · cases h
theorem fc:∀n,∀e t,litE n e=some t→PE X e (tLit t)∧∀es,starEach (e::es) X.env=(false,eval e X.env)::starEach es X.env:=by
 intro n
 induction n with
 |zero=>
  intro e t h;rw [litE] at h;cases h
 |succ n ih=>
  have many:∀es ts,dC (litE n) es=some ts→PA X es (uZ ts):=by
   intro es
   induction es with
   |nil=>
    intro ts h;rw [dC] at h;cases h;exact PA.imp a9 fun σ H Q q=>q [] H (Same.refl H) .nil
   |cons e es ih2=>
    intro ts h;rw [dC] at h;split at h
    · rename_i t us h1 h2;cases h;obtain ⟨a1,a2⟩:=ih e t h1;refine PA.imp (a0 a1 (ih2 us h2) (a2 es)) fun σ H Q q=> ?_;intro v H1 s1 hv ws H2 s2 hw;exact q (v::ws) H2 (s1.trans s2) (.cons (hv.mono (Kd.of_same s2)) hw)
    · cases h
  intro e t h;unfold litE at h;split at h
  · cases h;exact ⟨PE.imp dX fun σ H Q q=>q _ H (Same.refl H) xC,fun es=>rfl⟩
  · cases h;exact ⟨PE.imp ac fun σ H Q q=>q _ H (Same.refl H) (by unfold TrAt;rfl),fun es=>rfl⟩
  · cases h;exact ⟨PE.imp (c9 bq ac) fun σ H Q q=>⟨_,rfl,q _ H (Same.refl H) (by unfold TrAt;rfl)⟩,fun es=>rfl⟩
  · rename_i es k pos;split at h
    · rename_i hl;obtain ⟨ts,h1,h2⟩:=yS.mp h;cases h2;refine ⟨PE.imp (aU (many es ts h1)) fun σ H Q q=> ?_,fun es=>rfl⟩;intro vs H1 s1 hv;have l1:=hv.len;have l2:=ig h1
      refine ⟨by have:(100:Nat)≤sizeLine:=by decide +kernel
                 omega,fun p np=> ?_⟩
      have s2:=mU (o:= .tup vs) np;exact q (.ref p) _ (s1.trans s2) (fR a8 (hv.mono (Kd.of_same s2)))
    · cases h
  · cases h
theorem ni (n:Nat):∀ {es:List Expr} {ts:List Tr},dC (litE n) es=some ts→PA X es (uZ ts)
 | [],ts,h=>by
  rw [dC] at h;cases h;exact PA.imp a9 fun σ H Q q=>q [] H (Same.refl H) .nil
 |e::es,ts,h=>by
  rw [dC] at h;split at h
  · rename_i t us h1 h2;cases h;obtain ⟨a1,a2⟩:=fc (X:=X) n e t h1;refine PA.imp (a0 a1 (ni n h2) (a2 es)) fun σ H Q q=> ?_;intro v H1 s1 hv ws H2 s2 hw;exact q (v::ws) H2 (s1.trans s2) (.cons (hv.mono (Kd.of_same s2)) hw)
  · cases h
theorem w9 (n:Nat) {e:Expr} {t:Tr} (h:litE n e=some t):PE X e (tLit t):=(fc n e t h).1
theorem ue (n:Nat) {e:Expr} {ts:List Tr} (h:litL n e=some ts):PE X e (xS ts):=by
 unfold litL at h;split at h
 · rename_i es pos;split at h
   · rename_i hl;refine PE.imp (bO (ni n h)) fun σ H Q q=> ?_;intro vs H1 s1 hv;have l1:=hv.len;have l2:=ig h
     refine ⟨by have:(100:Nat)≤sizeLine:=by decide +kernel
                omega,fun p np=> ?_⟩
     have s2:=mU (o:= .lst vs) np;exact q p vs _ (s1.trans s2) (s1.none np) a8 (hv.mono (Kd.of_same s2))
   · cases h
 · cases h
end
open PySem Tre
noncomputable def asgV:Stmt→Expr
 | .Assign _ v _=>v
 |_=> .Constant .none 0 ⟨0,0,0,0⟩
noncomputable def asgW (s:Stmt) (L:Expr):Stmt:=match s with
 | .Assign ts _ p=> .Assign ts L p
 |s=>s
theorem ox {n:Nat} {L:Expr} {ts:List Tr} (h:litL n L=some ts) {tg:Option Expr} {line:Nat} {env:Env}:swapsWith L tg line env=pure false:=by
 unfold litL at h;split at h
 · rfl
 · cases h
noncomputable def expV:Stmt→Expr
 | .Expr (.Call _ (v::_) _ _) _=>v
 |_=> .Constant .none 0 ⟨0,0,0,0⟩
noncomputable def expW (s:Stmt) (L:Expr):Stmt:=match s with
 | .Expr (.Call f (_::r) k p) q=> .Expr (.Call f (L::r) k p) q
 |s=>s
end L2
namespace K40
open PySem L2 Mth Tre Wd Su
abbrev tN (x:String):Tr:= .tup [.str (Str.ofString "name"), .str (Str.ofString x)]
abbrev tC' (f:String) (ts:List Tr):Tr:= .tup [.str (Str.ofString "call"), .str (Str.ofString f), .tup ts]
noncomputable def T3:List Tr:= [tC' "f" [tN "x",tN "y"],tN "y",tN "x"]
noncomputable def t4:Tr:=tC' "f" [tN "y"]
noncomputable def TT:List Tr:=T3++ [t4]
theorem ty_n (x:String):Ty .tm (tN x):= .nm _
theorem ty_c (f:String) {ts:List Tr} (h:ts.length≤3) (ht:∀t∈ts,Ty .tm t):Ty .tm (tC' f ts):= .ap _ _ h ht
theorem om:∀t∈TT,Ty .tm t∧t.depth≤7:=by
 intro t m;simp only [TT,T3,t4,zv,Ak,yV,zm,or_false] at m;rcases m with rfl|rfl|rfl|rfl
 · refine ⟨ty_c _ (by decide) ?_,by simp [Tr.depth,Trs.depth]⟩
   simp only [yV,zm,or_false];rintro t (rfl|rfl)<;>exact ty_n _
 · exact ⟨ty_n _,by simp [Tr.depth,Trs.depth]⟩
 · exact ⟨ty_n _,by simp [Tr.depth,Trs.depth]⟩
 · exact ⟨ty_c _ (by decide) (by simp only [yV,zm,or_false];rintro t rfl;exact ty_n _),by simp [Tr.depth,Trs.depth]⟩
theorem TT_nd:TT.Nodup:=by
 have cl:∀ {x y:String},(Str.ofString x).cps.toList≠(Str.ofString y).cps.toList→Str.ofString x≠Str.ofString y:=fun h e=>h (by rw [e])
 have h1:Str.ofString "x"≠Str.ofString "y":=cl (by decide +kernel)
 simp [TT,T3,t4,h1,h1.symm]
theorem t3 (vs:List V) (j:Nat):cutV vs none (some (j:Int))=vs.take j:=by
 unfold cutV;rw [HT.sIx_nat,HT.sIx_none,List.drop_zero,Nat.sub_zero,List.take_eq_take_iff];omega
theorem TrsAt.take {H:Hp}:∀ {vs:List V} {ts:List Tr} (n:Nat),TrsAt H vs ts→TrsAt H (vs.take n) (ts.take n)
 |_,_,0,h=>by
  rw [zG,zG];exact .nil
 |vs,[],n+1,h=>by
  unfold Tre.TrsAt at h;subst h;exact .nil
 |vs,t::ts,n+1,h=>by
  obtain ⟨v,r,rfl,h1,h2⟩:=h.inv;exact .cons h1 (TrsAt.take n h2)
section
variable {P:Program} {w:World} {K:PySem.W.Frag} {mg:Str→Option Value} {base:Heap} {T0:Addr}
def j9 (K:PySem.W.Frag):Sp:=fun vs H Q _=>∃(a:Addr) (ns:List Int),vs= [.ref a]∧SqL K H a (ns.map V.int)∧ns.length≤63∧
 ∀(l:Addr) (ws:List V) (n:Nat) (H':Hp),Same H H'→H l=none→H' l=some (.lst ws)→TrsAt H' ws (TT.take n)→1≤n→n≤4→Q (.ref l) H'
theorem scTs:FnScope ["_law_script","_law_some"] ["_law_script"] (ag fw):= .of
noncomputable abbrev bdT_ (i:Nat):Stmt:=(aS fw).getD i (.Pass ⟨0,0,0,0⟩)
theorem xG:aS fw=asgW (bdT_ 0) (asgV (bdT_ 0))::expW (bdT_ 1) (expV (bdT_ 1))::(aS fw).drop 2:=rfl
theorem xI:litL 9 (asgV (bdT_ 0))=some T3:=rfl
theorem xH:litE 9 (expV (bdT_ 1))=some t4:=rfl
theorem rO {f fD:Addr} {fd dD:FuncData} (F:Fun K "_law_terms" "_law_terms" fw f fd)
 (gD:FnOk P w K mg base CX0 1 fD dD ["_law_script","_law_k","_law_many"] (fu K)) (kD:PySem.W.keepIn K (.ref fD)=true) (bD:Binds K dD ["_law_script","_law_k","_law_many"] []) (mD:mg "_law_draw"=some (.ref fD)):FnOk P w K mg base CX0 2 f fd ["_law_script"] (j9 K):=by
 refine F.okb scTs fun vs H Q E h=> ?_;obtain ⟨a,ns,rfl,hS,h63,k⟩:=h;refine ⟨rfl,fun cdv A outer s hr=> ?_⟩;have eB:=xG;have e1:=xI;have e2:=xH;rw [eB];clear eB;generalize asgV (bdT_ 0)=L1 at e1 ⊢;generalize expV (bdT_ 1)=L2' at e2 ⊢
 refine ⟨_,ae (psA 1 scTs.nd (ue 9 e1) (hs:=ox e1))
  (ae (bu (cS PySem.F.plainAttrs_list PySem.F.slot_list_append PySem.F.type_list_append bf (pv 1) (a0 (w9 9 e2) a9 ((fc 9 _ _ e2).2 _)) rfl (by rw [(fc 9 _ _ e2).2 _];rfl) rfl ((fc 9 _ _ e2).2 _)))
  (ah (ax (i4 je (pv 1) jm (jk (aj aR ac (ai gD hr rfl mD kD bD .nil ar (a0 (pv 0) (a0 ac (a0 ac a9)))))))))),?_⟩
 have hL20:(20000:Nat)≤sizeLine:=by decide +kernel
 intro l ws H1 s1 nl hl hT;refine am ?_
 try dsimp only
 refine ⟨_,rfl, .inl ⟨rfl,_,SqL.of hl⟩,?_⟩;intro v H2 s2 hv;have wl:=hT.len;refine ⟨l,ws,v,rfl,rfl,s2 _ _ hl,by rw [wl];show 3 < sizeLine;omega,?_⟩
 have kd:=Kd.upd (ys:=ws++ [v]) (s2 _ _ hl);have hl3:=a8 (H:=H2) (a:=l) (o:= .lst (ws++ [v]));have sH:Same H (upd H2 l (.lst (ws++ [v]))):=aq nl (s1.trans s2);have hT3:TrsAt (upd H2 l (.lst (ws++ [v]))) (ws++ [v]) TT:=TrsAt.app (.cons (hv.mono kd) .nil) ((hT.mono (Kd.of_same s2)).mono kd);generalize upd H2 l (.lst (ws++ [v]))=H3 at hl3 sH hT3 ⊢;refine eN ?_
 try dsimp only
 refine ⟨_,rfl,_,rfl,a,ns,1,4,rfl,SqL.same sH hS,h63,by decide,by decide,by decide,fun r r0 r5 _=> ?_⟩
 refine ⟨1,r,rfl,rfl,_,rfl,l,ws++ [v],rfl,SqL.of hl3,fun p np=> ?_⟩;have sp:=aa (o:= .lst (cutV (ws++ [v]) none (some (1+r)))) np;obtain ⟨n,rfl⟩:∃n:Nat,r=(n:Int):=⟨r.toNat,by omega⟩
 have ec:cutV (ws++ [v]) none (some (1+(n:Int)))=(ws++ [v]).take (n+1):=by
  rw [show 1+(n:Int)=((n+1:Nat):Int) by omega]
  exact t3 _ _
 refine k p _ (n+1) _ (sH.trans sp) (sH.free np) a8 ?_ (by omega) (by omega)
 rw [ec] at sp ⊢;exact TrsAt.take _ (hT3.mono (Kd.of_same sp))
structure Smf (n:Nat) (f:Fr):Prop where
 sh:Sh f
 top:f.1.natAbs≤n
 bot:f.2.natAbs≤3
theorem vN {t b:Int} (b0:0 < b) (b3:b≤3) (h:¬t%b=0):Sh ((t,b):Fr):=by
 refine ⟨b0,?_⟩;show Int.gcd t b=1;have g0:0 < Int.gcd t b:=zj _ (by omega)
 have g1:(Int.gcd t b:Int)∣b:=Ae ..;have g2:(Int.gcd t b:Int)∣t:=Int.gcd_dvd_left ..;have gl:(Int.gcd t b:Int)≤b:=Int.le_of_dvd b0 g1;have hb:b=1∨b=2∨b=3:=by omega
 generalize Int.gcd t b=g at*;rcases hb with rfl|rfl|rfl
 · omega
 · have:g=1∨g=2:=by omega
   rcases this with rfl|rfl
   · rfl
   · exact absurd (Int.emod_eq_zero_of_dvd g2) h
 · have:g=1∨g=2∨g=3:=by omega
   rcases this with rfl|rfl|rfl
   · rfl
   · exact absurd (Int.emod_eq_zero_of_dvd g1) (by decide)
   · exact absurd (Int.emod_eq_zero_of_dvd g2) h
def gn (K:PySem.W.Frag):Sp:=fun vs H Q _=>∃(a:Addr) (ns:List Int) (kk:Int) (far:Nat),vs= [.ref a, .int kk, .int (far:Int)]∧SqL K H a (ns.map V.int)∧ns.length≤63∧0≤kk∧kk≤90000∧far≤100∧
 ∀(r:Addr) (fr:Fr) (H':Hp),H r=none→Same H H'→H' r=some (.tup [.int fr.1, .int fr.2])→Smf far fr→Q (.ref r) H'
theorem scSh:FnScope ["_law_script","_law_base","_law_far","_law_top","_law_bottom"] ["_law_script","_law_base","_law_far"] (ag lF):= .of
theorem rP {f fD:Addr} {fd dD:FuncData} (F:Fun K "_law_share" "_law_share" lF f fd)
 (gD:FnOk P w K mg base CX0 1 fD dD ["_law_script","_law_k","_law_many"] (fu K)) (kD:PySem.W.keepIn K (.ref fD)=true) (bD:Binds K dD ["_law_script","_law_k","_law_many"] []) (mD:mg "_law_draw"=some (.ref fD)):FnOk P w K mg base CX0 2 f fd ["_law_script","_law_base","_law_far"] (gn K):=by
 refine F.okb scSh fun vs H Q E h=> ?_;refine hZq fun q_ e_=> ?_;obtain ⟨a,ns,kk,far,rfl,hS,h63,k0,k9,f1,k⟩:=h;subst e_;refine ⟨rfl,fun cdv A outer s hr=> ?_⟩
 refine ⟨_,ae (psA 3 scSh.nd (aj i5 (ai gD hr rfl mD kD bD .nil ar (a0 (pv 0) (a0 (pv 1) (a0 (aj aR (aj ci ac (pv 2)) ac) a9)))) (pv 2)))
  (ae (psA 4 scSh.nd (aj aR ac (ai gD hr rfl mD kD bD .nil ar (a0 (pv 0) (a0 (aj aR (pv 1) ac) (a0 ac a9))))))
  (ae (cf (aF dB (aj cV (pv 3) (pv 4)) ac (aE _)) (ah (ax (aU (a0 (aj be (pv 3) (pv 4)) (a0 ac a9))))) bg)
  (ah (ax (aU (a0 (pv 3) (a0 (pv 4) a9))))))),?_⟩
 refine ⟨_,rfl,_,rfl,_,rfl,2,(far:Int),rfl,rfl, .inl ⟨by decide,by decide⟩,2*(far:Int),1,rfl,rfl,a,ns,kk,2*(far:Int)+1,rfl,hS,h63,k0,by omega,by omega,fun r1 r10 r19 _=> ?_⟩
 refine ⟨_,rfl,r1,(far:Int),rfl,rfl,?_⟩;refine ⟨_,rfl,_,rfl,kk,1,rfl,rfl,a,ns,kk+1,3,rfl,hS,h63,by omega,by omega,by decide,fun r2 r20 r24 _=> ?_⟩
 refine ⟨1,r2,rfl,rfl,?_⟩;have b0:(0:Int) < 1+r2:=by omega
 have bB:Big (1+r2):=z6 (show (1+r2).natAbs≤3 by omega) (by decide +kernel)
 refine am ?_;refine ⟨_,rfl,_,rfl,r1 - (far:Int),1+r2,rfl,rfl,b0,rfl,_,rfl,?_⟩;by_cases z:(r1 - (far:Int))%(1+r2)=0
 · rw [decide_eq_true (show V.int ((r1 - (far:Int))%(1+r2))=V.int 0 by rw [z])]
   refine iteT ?_;refine ⟨_,rfl,_,rfl,r1 - (far:Int),1+r2,rfl,rfl,⟨b0,bB⟩,two,fun p np=> ?_⟩;refine k p ((r1 - (far:Int)) / (1+r2),1) _ np (aa np) a8 ⟨⟨by show (0:Int) < 1;decide,by show Int.gcd _ 1=1;exact Int.gcd_one_right _⟩,?_,by show 1≤3;decide⟩
   have:=cM (r1 - (far:Int)) (1+r2);show ((r1 - (far:Int)) / (1+r2)).natAbs≤far;omega
 · rw [decide_eq_false (show¬V.int ((r1 - (far:Int))%(1+r2))=V.int 0 from fun e=>z (V.int.inj e))];refine iteF (eN ?_);refine ⟨_,rfl,_,rfl,two,fun p np=> ?_⟩;exact k p (r1 - (far:Int),1+r2) _ np (aa np) a8 ⟨vN b0 (by omega) z,by show (r1 - (far:Int)).natAbs≤far;omega,by show (1+r2).natAbs≤3;omega⟩
theorem xD {qs ps:List Pq} (pm:qs.Perm ps) (nd:(ps.map (·.1)).Nodup) (ty:∀p∈ps,Ty .tm p.1) (hr:∀(i j:Nat) (p q:Pq),i≤j→qs[i]?=some p→qs[j]?=some q→ltT (prT q) (prT p)=false):Asc qs:=by
 have ndq:(qs.map (·.1)).Nodup:=by
  rw [(pm.map (·.1)).nodup_iff];exact nd
 unfold Asc;rw [List.pairwise_iff_getElem];intro i j hi hj hij;have le:=ny (hr i j _ _ (by omega) (yN hi) (yN hj))
 refine vj le ?_
 cases q:eqT (qs[i]).1 (qs[j]).1 with
 |false=>rfl
 |true=>
  have e:=uW (ty _ (pm.mem_iff.mp (zM hi))) (ty _ (pm.mem_iff.mp (zM hj))) q;have n:=List.nodup_iff_pairwise_ne.mp ndq;rw [List.pairwise_iff_getElem] at n;exact absurd (by rw [List.getElem_map,List.getElem_map];exact e) (n i j (by rw [yM];exact hi) (by rw [yM];exact hj) hij)
noncomputable def lv:Nat→Nat
 |0=>3
 |1=>3
 |k+2=>2*lv (k+1)+8
theorem tL {r:List V→Hp→VK→Prop} {te:TE} {i:Nat} {u:TS} {Z:Ends} {σ:L2.St} {H:Hp} (h:te σ H fun v H1=>r [v] H1 fun x H2=>aG i x σ H2 (u Z)):tSeq (tAsg (tCB r (eJ te tNil)) (aG i)) u Z σ H:=h
structure Sb (n:Nat) (b:Bd):Prop where
 asc:Asc b.us
 mem:∀u∈b.us,u.1∈TT
 sm:∀u∈b.us,Smf 3 u.2
 m2:b.m.2=1
 m1:b.m.1.natAbs≤n
theorem Sb.mono {n n':Nat} {b:Bd} (h:Sb n b) (hn:n≤n'):Sb n' b:=⟨h.asc,h.mem,h.sm,h.m2,yY h.m1 hn⟩
theorem uO {us:List Pq} (h:Asc us):Asc (us.map neg):=by
 unfold Asc at*;rw [List.pairwise_map];exact h
theorem vL {n:Nat} {f:Fr} (h:Smf n f):Smf n (negF f):=⟨vM h.sh,by show (-f.1).natAbs≤n;rw [A9];exact h.top,h.bot⟩
def gX (K:PySem.W.Frag):Sp:=fun vs H Q _=>∃(a:Addr) (ns:List Int) (l:Addr) (ws:List V) (n:Nat),vs= [.ref a, .ref l]∧SqL K H a (ns.map V.int)∧ns.length≤63∧H l=some (.lst ws)∧TrsAt H ws (TT.take n)∧1≤n∧n≤4∧
 ∀(lb:Addr) (bvs:List V) (bs:List Bd) (H':Hp),Same H H'→H lb=none→H' lb=some (.lst bvs)→TrsAt H' bvs (bs.map bdT)→(∀b∈bs,Sb 10 b)→1≤bs.length→bs.length≤7→Q (.ref lb) H'
noncomputable def nBo:List Str:= ["_law_script","_law_terms_here","_law_bounds_here","_law_k","_law_pairs","_law_i","_law_share_here","_law_whole","_law_most","_law_other"]
theorem scBo:FnScope nBo ["_law_script","_law_terms_here"] (ag jf):= .of
theorem oB {f fD fS:Addr} {fd dD dS:FuncData} (F:Fun K "_law_bounds" "_law_bounds" jf f fd) (B:Blt mg)
 (gD:FnOk P w K mg base CX0 1 fD dD ["_law_script","_law_k","_law_many"] (fu K)) (kD:PySem.W.keepIn K (.ref fD)=true) (bD:Binds K dD ["_law_script","_law_k","_law_many"] []) (mD:mg "_law_draw"=some (.ref fD))
 (gS:FnOk P w K mg base CX0 2 fS dS ["_law_script","_law_base","_law_far"] (gn K)) (kS:PySem.W.keepIn K (.ref fS)=true) (bS:Binds K dS ["_law_script","_law_base","_law_far"] []) (mS:mg "_law_share"=some (.ref fS)):FnOk P w K mg base CX0 3 f fd ["_law_script","_law_terms_here"] (gX K):=by
 refine F.okb scBo fun vs H Q E h=> ?_;refine hZq fun q_ e_=> ?_;obtain ⟨a,ns,l,ws,n,rfl,hS,h63,hl,hT,n1,n5,k⟩:=h;subst e_;refine ⟨rfl,fun cdv A outer s hr=> ?_⟩;have hun:=hr.units;have hu1:=nK hr;have hr1:Room 1 _:=hr.mono (by decide)
 have hu60:=z6 (A0 (show 60≤64 by decide) _) hun
 have nd1:(["_law_one"]:List Str).Nodup:=by decide +kernel
 refine ⟨_,ae (psA 2 scBo.nd (bO a9))
  (ae (cg PassesOwn.never rfl (c8 rfl B.ra (a0 (aj aR ac (ai gD hr1 rfl mD kD bD .nil ar (a0 (pv 0) (a0 ac (a0 ac a9))))) a9)) (pgA 3 scBo.nd)
   (ae (psA 4 scBo.nd (bO a9))
   (ae (cg PassesOwn.never rfl (c8 rfl B.ra (a0 (aB ay rfl B.le PySem.boot_len (a0 (pv 1) a9)) a9)) (pgA 5 scBo.nd)
    (ae (psA 6 scBo.nd (ai gS hr rfl mS kS bS .nil ar (a0 (pv 0) (a0 (aj aR (aj aR ac (aj ci ac (pv 3))) (aj ci ac (pv 5))) (a0 ac a9)))))
    (ah (cf (PW.pt (jj (aF eK (ai gD hr1 rfl mD kD bD .nil ar (a0 (pv 0) (a0 (aj aR (aj aR ac (aj ci ac (pv 3))) (aj ci ac (pv 5))) (a0 ac a9)))) ac (aE _)) (gx (aF (rK hu1) (pv 6) (aU (a0 ac (a0 ac a9))) (aE _)))))
     (ah (bu (cS PySem.F.plainAttrs_list PySem.F.slot_list_append PySem.F.type_list_append bf (pv 4) (a0 (aU (a0 (ao aw (pv 1) (pv 5) fun _ _=>rfl) (a0 (pv 6) a9))) a9)))) bg))))
   (ae (psA 7 scBo.nd (bV cY rfl B.tu PyProof.Rows.boot_tuple (a0 (aB (gc hu60) rfl B.so PyProof.Rows.boot_sorted (a0 (pv 4) a9)) a9)))
   (ae (psA 8 scBo.nd (aU (a0 (aj i5 (ai gD hr1 rfl mD kD bD .nil ar (a0 (pv 0) (a0 (aj aR ac (pv 3)) (a0 ac a9)))) ac) (a0 ac a9))))
   (ae (cf (PW.pt (jj (aF eK (pv 3) ac (aE _)) (gx (aF dB (ai gD hr1 rfl mD kD bD .nil ar (a0 (pv 0) (a0 (aj aR ac (pv 3)) (a0 ac a9)))) ac (aE _)))))
    (ae (psA 9 scBo.nd (ao aw (pv 2) (ai gD hr1 rfl mD kD bD .nil ar (a0 (pv 0) (a0 (aj aR ac (pv 3)) (a0 (pv 3) a9)))) fun _ _=>rfl))
    (ae (psA 7 scBo.nd (bV cY rfl B.tu PyProof.Rows.boot_tuple (a0 (aQ (NC:= ["_law_one"]) (mp:= [none]) rfl (eP (ao aA (pv 9) ac fun _ _=>rfl)) (fun _ _ _ _ _=>pgA 0 nd1) (fun _ _ _ _ _=>aN)
     (fun _ _ _ _ _=>aU (a0 (ao (r:=rIxT K) aA (pv 0) ac fun _ _=>rfl) (a0 (aU (a0 (c9 bq (ao (r:=rIxT K) aA (ao (r:=rIxT K) aA (pv 0) ac fun _ _=>rfl) ac fun _ _=>rfl)) (a0 (ao (r:=rIxT K) aA (ao (r:=rIxT K) aA (pv 0) ac fun _ _=>rfl) ac fun _ _=>rfl) a9))) a9)))) a9)))
    (ah (psA 8 scBo.nd (aU (a0 (aj i5 (aj aR (c9 bq (ao aA (ao aA (pv 9) ac fun _ _=>rfl) ac fun _ _=>rfl)) (ai gD hr1 rfl mD kD bD .nil ar (a0 (pv 0) (a0 (aj aR ac (pv 3)) (a0 ac a9))))) ac) (a0 ac a9)))))))
    bg)
   (ah (bu (cS PySem.F.plainAttrs_list PySem.F.slot_list_append PySem.F.type_list_append bf (pv 2) (a0 (aU (a0 (pv 7) (a0 (pv 8) (a0 (cL dB (ai gD hr1 rfl mD kD bD .nil ar (a0 (pv 0) (a0 (aj aR ac (pv 3)) (a0 ac a9)))) ac (aE _)) a9)))) a9)))))))))
  ) (ah (ax (pv 2)))),?_⟩
 have hL20:(20000:Nat)≤sizeLine:=by decide +kernel
 have wl:=hT.len;have tl4:TT.length=4:=rfl;rw [zh,tl4] at wl;refine ⟨by show 0≤sizeLine;decide,fun lb nlb=> ?_⟩
 have s0:=aa (o:= .lst []) nlb;have hlb0:=a8 (H:=H) (a:=lb) (o:= .lst []);generalize upd H lb (.lst [])=H0 at s0 hlb0 ⊢;refine am ?_
 try dsimp only
 refine ⟨_,rfl,a,ns,4,7,rfl,SqL.same s0 hS,h63,by decide,by decide,by decide,fun r0 r00 r07 _=> ?_⟩
 obtain ⟨nb,rfl⟩:∃nb:Nat,r0=(nb:Int):=⟨r0.toNat,by omega⟩
 refine ⟨1,(nb:Int),rfl,rfl,1+(nb:Int),rfl,by omega,by omega,?_⟩
 rw [show (1+(nb:Int)).toNat=nb+1 by omega]
 refine cN (n:=nb+1) (fun i σ H'=>Same H H'∧∃(bvs:List V) (bs:List Bd) (x3 x4 x5 x6 x7 x8 x9:Option V),σ= [some (.ref a),some (.ref l),some (.ref lb),x3,x4,x5,x6,x7,x8,x9]∧H' lb=some (.lst bvs)∧TrsAt H' bvs (bs.map bdT)∧(∀b∈bs,Sb (3+i) b)∧bs.length=i)
  ⟨s0,[],[],none,none,none,none,none,none,none,rfl,hlb0, .nil,(fun b m=>by cases m),rfl⟩ ?_ ?_
 · rintro i σ H1 hi ⟨sH,bvs,bs,x3,x4,x5,x6,x7,x8,x9,rfl,hlb,hB,hG,bl⟩;have i6:i≤6:=by omega
   have hS1:=SqL.same sH hS;rw [Aj];refine am ?_
   try dsimp only
   refine ⟨by show 0≤sizeLine;decide,fun D nD=> ?_⟩
   have sD:=aa (o:= .lst []) nD;have hD0:=a8 (H:=H1) (a:=D) (o:= .lst []);generalize upd H1 D (.lst [])=H2 at sD hD0 ⊢;refine am ?_
   try dsimp only
   refine ⟨_,rfl,l,ws,rfl, .inl (SqL.of (sD _ _ (sH _ _ hl))),_,rfl,by omega,by omega,?_⟩
   rw [zZ,wl]
   refine cN (n:=min n 4) (fun j σ H'=>Same H1 H'∧∃(acc:List V) (ps:List Pq) (v5 v6:Option V),σ= [some (.ref a),some (.ref l),some (.ref lb),some (.int (i:Int)),some (.ref D),v5,v6,x7,x8,x9]∧H' D=some (.lst acc)∧TrsAt H' acc (ps.map prT)∧(ps.map (·.1)).Sublist (TT.take j)∧∀p∈ps,(Ty .tm p.1∧p.1.depth≤7)∧Smf 3 p.2)
    ⟨sD,[],[],x5,x6,rfl,hD0, .nil,by rw [zG];exact List.Sublist.refl _,fun p m=>by cases m⟩ ?_ ?_
   · rintro j σ H3 hj ⟨s3,acc,ps,v5,v6,rfl,hD,hA,hSub,hGq⟩;rw [Aj];refine am ?_
     try dsimp only
     have hS3:=SqL.same s3 hS1;refine ⟨_,rfl,_,rfl,20,(i:Int),rfl,rfl, .inl ⟨by decide,by decide⟩,60,20*(i:Int),rfl,rfl,_,rfl,3,(j:Int),rfl,rfl, .inl ⟨by decide,by decide⟩,60+20*(i:Int),3*(j:Int),rfl,rfl,?_⟩
     refine ⟨a,ns,60+20*(i:Int)+3*(j:Int),3,rfl,hS3,h63,by omega,by omega,by decide,fun rs fr H4 nrs s4 hrs sm=> ?_⟩
     have hS4:=SqL.same s4 hS3;refine am ?_
     try dsimp only
     have s34:=s3.trans s4;have al:=hA.len;rw [yM] at al;have sl:=hSub.length_le;rw [yM,zh,tl4] at sl
     have goOn:∀H',Same H4 H'→Same H1 H'∧∃(acc:List V) (ps:List Pq) (v5 v6:Option V),[some (.ref a),some (.ref l),some (.ref lb),some (.int (i:Int)),some (.ref D),some (.int (j:Int)),some (.ref rs),x7,x8,x9]= [some (.ref a),some (.ref l),some (.ref lb),some (.int (i:Int)),some (.ref D),v5,v6,x7,x8,x9]∧H' D=some (.lst acc)∧TrsAt H' acc (ps.map prT)∧(ps.map (·.1)).Sublist (TT.take (j+1))∧∀p∈ps,(Ty .tm p.1∧p.1.depth≤7)∧Smf 3 p.2:=
      fun H' s'=>⟨s34.trans s',acc,ps,_,_,rfl,s' _ _ (s4 _ _ hD),hA.mono (Kd.of_same (s4.trans s')),hSub.trans (List.take_sublist_take_left (by omega)),hGq⟩
     refine ⟨_,rfl,_,rfl,20,(i:Int),rfl,rfl, .inl ⟨by decide,by decide⟩,62,20*(i:Int),rfl,rfl,_,rfl,3,(j:Int),rfl,rfl, .inl ⟨by decide,by decide⟩,62+20*(i:Int),3*(j:Int),rfl,rfl,?_⟩
     refine ⟨a,ns,62+20*(i:Int)+3*(j:Int),3,rfl,hS4,h63,by omega,by omega,by decide,fun r2 _ _ _=> ?_⟩
     refine ⟨r2,0,rfl,rfl,_,rfl,?_⟩;refine ite2 (fun _=> ?_) (fun _=>goOn H4 (Same.refl _));refine ⟨_,rfl,two,fun z nz=> ?_⟩;have sz:=aa (o:= .tup [.int 0, .int 1]) nz;refine ⟨rs,z,fr.1,fr.2,0,1,rfl,rfl,SqT.of (sz _ _ hrs),SqT.of a8,_,rfl,?_⟩;have s5:=s4.trans sz;generalize upd H4 z (.tup [.int 0, .int 1])=H5 at sz s5 ⊢;refine ite2 (fun _=> ?_) (fun _=>goOn H5 sz);have hj5:j < (TT.take n).length:=by rw [zh,tl4];omega
     obtain ⟨xt,ext,hxt⟩:=(hT.mono (Kd.of_same (sH.trans (s3.trans s5)))).get (i:=j) (yN hj5);rw [List.getElem_take] at hxt;have hl5:=(sH.trans (s3.trans s5)) _ _ hl;have hD5:=s5 _ _ hD;refine ⟨_,rfl, .inl ⟨rfl,_,SqL.of hD5⟩,_,rfl,_,rfl,l,ws,(j:Int),xt,rfl,rfl,SqL.of hl5,aJ ext,_,rfl,two,fun p np=> ?_⟩;have sp:=aa (o:= .tup [xt, .ref rs]) np;have hD6:=sp _ _ hD5;refine ⟨D,acc,_,rfl,rfl,hD6,by omega,?_⟩
     have kd:=(Kd.of_same sp).trans (Kd.upd (ys:=acc++ [.ref p]) hD6);have nDp:p≠D:=fun z=>by rw [z,hD5] at np;cases np
     have tyj:=om _ (zM (show j < TT.length by rw [tl4];omega))
     refine ⟨aq nD (s3.trans (s5.trans sp)),acc++ [.ref p],ps++ [(TT[j],fr)],_,_,rfl,a8,?_,?_,fun q mq=> ?_⟩
     · rw [z4];exact TrsAt.app (.cons (c6 (a:=TT[j]) (b:=frT fr) ((af nDp).trans a8) (hxt.mono kd) ((dy (sz _ _ hrs)).mono kd)) .nil) ((hA.mono (Kd.of_same s5)).mono kd)
     · rw [z4,av (yN (show j < TT.length by rw [tl4];omega))]
       exact hSub.append (List.Sublist.refl _)
     · rcases ze.mp mq with mq|mq
       · exact hGq q mq
       · rw [z5.mp mq];exact ⟨tyj,sm⟩
   · rintro σ H3 ⟨s3,acc,ps,v5,v6,rfl,hD,hA,hSub,hGq⟩;refine eN ?_
     try dsimp only
     have sl:=hSub.length_le;rw [yM,zh,tl4] at sl;have memT:∀p∈ps,p.1∈TT:=fun p m=>zY (hSub.subset (List.mem_map_of_mem (f:=(·.1)) m));have ndT:(ps.map (·.1)).Nodup:=hSub.nodup (TT_nd.sublist (List.take_sublist _ _))
     have tyT:∀t∈ps.map prT,Ty .pr t∧t.depth≤8:=fun t m=>by
      obtain ⟨p,mp,rfl⟩:=zo.mp m;obtain ⟨⟨ty,dp⟩,sm⟩:=hGq p mp;exact (Gq.mk ty dp ⟨sm.sh.1,z6 sm.top (show 3 < 2^3 by decide),z6 sm.bot (show 3 < 2^3 by decide)⟩ sm.sh:Gq 3 p).pr
     refine ⟨_,rfl,D,acc,_,rfl,hD,hA,by rw [yM];omega,fun t m=>⟨uV (.inr (tyT t m).1),eX (tyT t m).1,by have:=(tyT t m).2;omega⟩,fun t m u mu=>p9 30 (by have:=(tyT t m).2;omega) (tyT t m).1 (tyT u mu).1,fun S ws' us' nS pm hT' srt=> ?_⟩
     obtain ⟨qs,rfl,pq⟩:=i3 pm rfl;have sS:=aa (o:= .lst ws') nS;refine ⟨S,ws',rfl, .inl ⟨SqL.of a8,fun p np=> ?_⟩⟩;have sp:=aa (o:= .tup ws') np;have hw4:TrAt (upd (upd H3 S (.lst ws')) p (.tup ws')) (.ref p) (.tup (qs.map prT)):=fR a8 (hT'.mono (Kd.of_same (sS.trans sp)));have s14:=s3.trans (sS.trans sp);have ascq:Asc qs:=xD pq ndT (fun p m=>(hGq p m).1.1) fun i j p q hij e1 e2=>srt i j _ _ hij (by rw [yQ,e1];rfl) (by rw [yQ,e2];rfl)
     have memq:∀u∈qs,u.1∈TT:=fun u m=>memT u (pq.mem_iff.mp m);have smq:∀u∈qs,Smf 3 u.2:=fun u m=>(hGq u (pq.mem_iff.mp m)).2;generalize upd (upd H3 S (.lst ws')) p (.tup ws')=H4 at hw4 s14 ⊢;refine am ?_
     try dsimp only
     refine ⟨_,rfl,_,rfl,260,(i:Int),rfl,rfl,a,ns,260+(i:Int),7,rfl,SqL.same s14 hS1,h63,by omega,by omega,by decide,fun r5 r50 r57 _=> ?_⟩
     refine ⟨r5,3,rfl,rfl,two,fun rm nrm=> ?_⟩;have s5:=aa (o:= .tup [.int (r5 - 3), .int 1]) nrm;have hrm:=a8 (H:=H4) (a:=rm) (o:= .tup [.int (r5 - 3), .int 1]);generalize upd H4 rm (.tup [.int (r5 - 3), .int 1])=H5 at s5 hrm ⊢;have s15:=s14.trans s5;have hw5:=hw4.mono (Kd.of_same s5);clear s14 hw4 hA hD hT';refine am ?_
     try dsimp only
     refine dq (fun σ' H'=>Same H1 H'∧∃(xw:V) (r:Addr) (us:List Pq) (mm:Int) (y9:Option V),σ'= [some (.ref a),some (.ref l),some (.ref lb),some (.int (i:Int)),some (.ref D),v5,v6,some xw,some (.ref r),y9]∧TrAt H' xw (.tup (us.map prT))∧H' r=some (.tup [.int mm, .int 1])∧∀st,Sb (3+(i+1)) ⟨us,(mm,1),st⟩) ?_ fun nx hnx=> ?_
     · rintro σ' H6 ⟨s6,xw,r,us,mm,y9,rfl,hxw,hr6,gh⟩;have hlb6:=s6 _ _ hlb;refine ⟨_,rfl, .inl ⟨rfl,_,SqL.of hlb6⟩,_,rfl,_,rfl,_,rfl,_,rfl,340,(i:Int),rfl,rfl,a,ns,340+(i:Int),3,rfl,SqL.same s6 hS1,h63,by omega,by omega,by decide,fun r7 _ _ _=> ?_⟩
       refine ⟨rfl,by show 3≤sizeLine;decide,fun p np=> ?_⟩
       have sp:=aa (o:= .tup [xw, .ref r, .bl (decide (V.int r7=V.int 1))]) np;have hlb7:=sp _ _ hlb6;have bvl:=hB.len;rw [yM] at bvl;refine ⟨lb,bvs,_,rfl,rfl,hlb7,by omega,?_⟩
       have kd:=(Kd.of_same sp).trans (Kd.upd (ys:=bvs++ [.ref p]) hlb7);have nlp:p≠lb:=fun z=>by rw [z,hlb6] at np;cases np
       refine ⟨aq nlb (sH.trans (s6.trans sp)),bvs++ [.ref p],bs++ [⟨us,(mm,1),decide (V.int r7=V.int 1)⟩],_,_,_,_,_,_,_,rfl,a8,?_,fun b mb=> ?_,by rw [z7,bl];rfl⟩
       · rw [z4];refine TrsAt.app (.cons (fR ((af nlp).trans a8) (.cons (hxw.mono kd) (.cons ((dy hr6).mono kd) (.cons (by unfold TrAt;rfl) .nil)))) .nil) ((hB.mono (Kd.of_same s6)).mono kd)
       · rcases ze.mp mb with mb|mb
         · exact (hG b mb).mono (by omega)
         · rw [z5.mp mb];exact gh _
     have no:∀H',Same H5 H'→nx [some (.ref a),some (.ref l),some (.ref lb),some (.int (i:Int)),some (.ref D),v5,v6,some (.ref p),some (.ref rm),x9] H':=fun H' s'=>hnx _ _ ⟨s15.trans s', .ref p,rm,qs,r5 - 3,_,rfl,hw5.mono (Kd.of_same s'),s' _ _ hrm,fun st=>⟨ascq,memq,smq,rfl,by show (r5 - 3).natAbs≤_;omega⟩⟩
     have hS5:=SqL.same s15 hS1;refine ⟨_,rfl,(i:Int),0,rfl,rfl,_,rfl,?_⟩;refine ite2 (fun y1=> ?_) (fun _=>iteF (no H5 (Same.refl _)))
     have ipos:0 < i:=by
      have:=of_decide_eq_true y1;omega
     refine ⟨_,rfl,_,rfl,280,(i:Int),rfl,rfl,a,ns,280+(i:Int),2,rfl,hS5,h63,by omega,by omega,by decide,fun r3 _ _ _=> ?_⟩
     refine ⟨rfl,_,rfl,?_⟩;refine ite2 (fun _=> ?_) (fun _=>no H5 (Same.refl _));have hlb5:=s15 _ _ hlb;refine ⟨_,rfl,_,rfl,_,rfl,300,(i:Int),rfl,rfl,_,rfl,a,ns,300+(i:Int),(i:Int),rfl,hS5,h63,by omega,by omega,by omega,fun rf rf0 rf1 _=> ?_⟩
     obtain ⟨nf,rfl⟩:∃nf:Nat,rf=(nf:Int):=⟨rf.toNat,by omega⟩
     have hB5:=hB.mono (Kd.of_same s15);refine hZq fun q_ e_=> ?_;obtain ⟨pb,xb,rb,eb,hpb,hxb,hrb⟩:=lY hB5 (i:=nf) (by omega)
     subst e_;have gb:=hG _ (dm (bs:=bs) (i:=nf) (by omega))
     refine ⟨lb,bvs,(nf:Int), .ref pb,rfl,rfl,SqL.of hlb5,eb,?_⟩;refine hZq fun q_ e_=> ?_;obtain ⟨au,xs,rfl,hau,hxs⟩:=at_t hxb;subst e_;have xl:=hxs.len;rw [yM] at xl;have usl:=dz gb.asc gb.mem;rw [tl4] at usl;refine am ?_
     try dsimp only
     refine tL ?_;refine bN rfl ?_;refine ⟨_,rfl,pb,_,0,_,rfl,rfl,SqT.of hpb,rfl,au,rfl,⟨_,SqT.of hau⟩,fun L nL=> ?_⟩;refine ky (xs:=xs) (fun j acc' H'=>Same H5 H'∧H' L=some (.lst acc')∧TrsAt H' acc' ((((bdAt bs nf).us.take j).map neg).map prT)) ⟨aa nL,a8,by rw [zG];exact .nil⟩ (fun j acc' H' p=>SqT.of (p.1 _ _ hau)) ?_ ?_
     · rintro j z acc' H' hj ez ⟨s6,hL,hA6⟩;obtain ⟨t',et',ht'⟩:=(hxs.mono (Kd.of_same s6)).get' ez;rw [yQ] at et';refine hZq fun q_ e_=> ?_;obtain ⟨⟨tm,fr⟩,eq,rfl⟩:=yS.mp et';subst e_;refine hZq fun q_ e_=> ?_;obtain ⟨T',x1,y1',rfl,hT1,hx1,hy1⟩:=bX ht';subst e_;obtain ⟨rfa,rfl,hrfa⟩:=e9 hy1;have al6:=hA6.len;rw [yM,yM,zh] at al6;refine ⟨_,rfl,T',_,0,_,rfl,rfl,SqT.of hT1,rfl,_,rfl,T',_,1,_,rfl,rfl,SqT.of hT1,rfl,rfa,_,0,_,rfl,rfl,SqT.of hrfa,rfl,fr.1,rfl,_,rfl,T',_,1,_,rfl,rfl,SqT.of hT1,rfl,rfa,_,1,_,rfl,rfl,SqT.of hrfa,rfl,two,fun q1 nq1=> ?_⟩;have t1:=aa (o:= .tup [.int (-fr.1), .int fr.2]) nq1;refine ⟨two,fun q2 nq2=> ?_⟩;have t2:=aa (o:= .tup [x1, .ref q1]) nq2;have hL7:=(t1.trans t2) _ _ hL;have kd:=(Kd.of_same (t1.trans t2)).trans (Kd.upd (ys:=acc'++ [.ref q2]) hL7);have n1:q1≠L:=fun z=>by rw [z,hL] at nq1;cases nq1
       have n2:q2≠L:=fun z=>by rw [z,t1 _ _ hL] at nq2;cases nq2
       refine CompN.mk hj (by omega) hL7 ⟨aq nL (s6.trans (t1.trans t2)),a8,?_⟩
       rw [av eq,z4,z4];refine TrsAt.app (.cons ?_ .nil) (hA6.mono kd);exact c6 (a:=tm) (b:=frT (negF fr)) ((af n2).trans a8) (hx1.mono kd) (dy ((af n1).trans (t2 _ _ a8)))
     · rintro acc' H6 ⟨s6,hL,hA6⟩;rw [xl,zg] at hA6;refine ⟨L,acc',rfl, .inl ⟨SqL.of hL,fun p6 np6=> ?_⟩⟩;have s7:=aa (o:= .tup acc') np6;have hw7:TrAt (upd H6 p6 (.tup acc')) (.ref p6) (.tup (((bdAt bs nf).us.map neg).map prT)):=fR a8 (hA6.mono (Kd.of_same s7));have s67:=s6.trans s7;generalize upd H6 p6 (.tup acc')=H7 at s7 hw7 s67 ⊢;refine am ?_
       try dsimp only
       refine ⟨_,rfl,pb,_,1,_,rfl,rfl,SqT.of (s67 _ _ hpb),rfl,rb,_,0,_,rfl,rfl,SqT.of (s67 _ _ hrb),rfl,(bdAt bs nf).m.1,rfl,_,rfl,_,rfl,320,(i:Int),rfl,rfl,a,ns,320+(i:Int),3,rfl,SqL.same s67 hS5,h63,by omega,by omega,by decide,fun r8 r80 r83 _=> ?_⟩
       refine ⟨-(bdAt bs nf).m.1,r8,rfl,rfl,-(bdAt bs nf).m.1+r8,1,rfl,rfl,two,fun r9 nr9=> ?_⟩;have s9:=aa (o:= .tup [.int (-(bdAt bs nf).m.1+r8 - 1), .int 1]) nr9;refine hnx _ _ ⟨s15.trans (s67.trans s9), .ref p6,r9,(bdAt bs nf).us.map neg,-(bdAt bs nf).m.1+r8 - 1,_,rfl,hw7.mono (Kd.of_same s9),a8,fun st=>⟨uO gb.asc,fun u mu=> ?_,fun u mu=> ?_,rfl,?_⟩⟩
       · obtain ⟨p,mp,rfl⟩:=zo.mp mu;exact gb.mem p mp
       · obtain ⟨p,mp,rfl⟩:=zo.mp mu;exact vL (gb.sm p mp)
       · have:=gb.m1;show (-(bdAt bs nf).m.1+r8 - 1).natAbs≤3+(i+1);omega
 · rintro σ H1 ⟨sH,bvs,bs,x3,x4,x5,x6,x7,x8,x9,rfl,hlb,hB,hG,bl⟩;exact ⟨_,rfl,k lb bvs bs H1 sH nlb hlb hB (fun b mb=>(hG b mb).mono (by omega)) (by omega) (by omega)⟩
open PySem L2 Mth Tre Wd Su Tw Fm
noncomputable def tdF (xs ys:List Int) (q:Nat) (b0 B p r:Int):List Int:=
 if Wg.sg p*r=0 then xs.map fun x=>x*B / b0 else (List.zipWith (fun x y=>(x*B - Wg.sg p*r*y) / b0) xs ys).set q (Wg.sg p*r)
def pW:Sp:=fun vs H Q _=>∃(a C dx qo ql:Addr) (fs:List (Str×V)) (q:Nat) (b0 B p r:Int) (xs ys:List Int),vs= [.ref a, .ref qo, .ref ql, .int (q:Int), .int b0]∧Tk K C∧H a=some (.ins C dx fs)∧fs.lookup (Str.ofString "bottom")=some (.int B)∧
 H qo=some (.lst (xs.map V.int))∧H ql=some (.lst (ys.map V.int))∧xs.length=ys.length∧xs.length≤1000∧ys[q]?=some p∧xs[q]?=some r∧0 < b0∧Big b0∧Big B∧(∀x∈xs,Big x)∧(∀y∈ys,Big y)∧
 ∀l H',H l=none→Same H H'→H' l=some (.lst ((tdF xs ys q b0 B p r).map V.int))→Q (.ref l) H'
theorem scTud:FnScope ["table","other","line","column","bottom","many","told"] ["table","other","line","column","bottom"] (ag sTud):= .of
theorem wx {f:Addr} {fd:FuncData} (F:Fun K "turned" "turned" sTud f fd) (B:Blt mg):FnOk P w K mg base CX0 1 f fd ["table","other","line","column","bottom"] (pW (K:=K)):=by
 refine F.okb scTud fun vs H Q E h=> ?_;refine hZq fun q_ e_=> ?_;obtain ⟨a,C,dx,qo,ql,fs,q,b0,B',p,r,xs,ys,rfl,hC,ha,hfs,ho,hl,hxy,hx1,hp,hr',b00,bb0,bB,bx,by_,k⟩:=h;subst e_;refine ⟨rfl,fun cdv A outer s hr=> ?_⟩;have nd3:(["number","table","bottom"]:List Str).Nodup:=by decide +kernel
 have nd5:(["number","beside","table","bottom","many"]:List Str).Nodup:=by decide +kernel
 refine ⟨_,ae (psR 5 scTud.nd (dh (aF eK (ao aw (pv 2) (pv 3) fun _ _=>rfl) ac (aE _)) (ao aw (pv 1) (pv 3) fun _ _=>rfl) (c9 bq (ao aw (pv 1) (pv 3) fun _ _=>rfl))))
  (ae (cf (aF dB (pv 5) ac (aE _))
   (ah (ax (aQ (NC:= ["number","table","bottom"]) (mp:= [none,some 0,some 4]) rfl (aO (pv 1)) (fun _ _ _ _ _=>pgA 0 nd3) (fun _ _ _ _ _=>aN)
    (fun _ _ _ _ _=>aj be (aj aX (pv 0) (cy (K:=K) rfl (pv 1) rfl)) (pv 2))))) bg)
  (ae (dr (i:=6) (NC:= ["number","beside","table","bottom","many"]) (mp:= [none,none,some 0,some 4,some 5]) (g:=gTup K 2 (aV (aG 0) (aV (aG 1) gNil))) rfl scTud.nd rfl rfl rfl (jo (k:= .lst) rfl B.zi (a0 (pv 1) (a0 (pv 2) a9)))
   (fun _ _ _ _ _=>aW (n:=2) rfl (ak (pgA 0 nd5) (ak (pgA 1 nd5) aL))) (fun _ _ _ _ _=>aN)
   (fun _ _ _ _ _=>aj be (aj i5 (aj aX (pv 0) (cy (K:=K) rfl (pv 2) rfl)) (aj aX (pv 4) (pv 1))) (pv 3)))
  (ae (dQ (pv 5) (fz (pv 6) (pv 3) df))
  (ah (ax (pv 6)))))),?_⟩
 have hL20:(20000:Nat)≤sizeLine:=by decide +kernel
 have ep:atI (ys.map V.int) (q:Int)=some (.int p):=aJ (by rw [yQ,hp];rfl)
 have er:atI (xs.map V.int) (q:Int)=some (.int r):=aJ (by rw [yQ,hr'];rfl)
 have bR:Big r:=bx r (yT hr');have ql':q < xs.length:=(yW.mp hr').1;refine dq (fun σ' H'=>H=H'∧∃mm:Int,mm=Wg.sg p*r∧Big mm∧σ'= [some (.ref a),some (.ref qo),some (.ref ql),some (.int q),some (.int b0),some (.int mm),none]) ?_ fun nx hnx=> ?_
 · rintro σ' H' ⟨rfl,mm,em,bm,rfl⟩;refine ⟨_,rfl,rfl,_,rfl,?_⟩;by_cases z:mm=0
   · rw [z,decide_eq_true rfl];refine iteT ?_;refine ⟨_,rfl,qo,rfl,⟨_,SqL.of ho⟩,fun D nD=> ?_⟩;refine bG (xs:=xs.map V.int) (fun j acc H3=>Same H H3∧H3 D=some (.lst acc)∧acc=((xs.take j).map fun x=>x*B' / b0).map V.int) ⟨aa nD,a8,rfl⟩ (fun j acc H3 pp=>SqL.of (pp.1 _ _ ho)) ?_ ?_
     · rintro j x acc H3 hj ex ⟨s3,hd3,rfl⟩;rw [yQ] at ex;obtain ⟨y,ey,rfl⟩:=yS.mp ex;have jl:j < xs.length:=(yW.mp ey).1;refine ⟨_,rfl,_,rfl,a,C,dx,fs,_,rfl,s3 _ _ ha,hC.cls,hC.nb,hfs,y,B',rfl,rfl,⟨bx y (yT ey),bB⟩,_,rfl,_,b0,rfl,rfl,⟨b00,bb0⟩,?_⟩;refine CompN.mk hj (by rw [yM,yM,zh];omega) hd3 ⟨aq nD s3,a8,?_⟩
       rw [av ey];simp
     · rintro acc H3 ⟨s3,hd3,rfl⟩;rw [yM,zg] at hd3;refine k D H3 nD s3 ?_;unfold tdF;rw [if_pos (by rw [←em];exact z)]
       exact hd3
   · have z':¬V.int mm=V.int 0:=fun e=>z (V.int.inj e);rw [decide_eq_false z'];refine iteF (eN ?_);dsimp only;refine cQ ?_;refine iO (xs:=xs.map V.int) (ys:=ys.map V.int) (a:=qo) (b:=ql) (by rw [yM,yM];omega) (fun Q q=>⟨_,rfl,_,rfl,q⟩) (SqL.of ho) (SqL.of hl) fun D nD=> ?_
     refine ⟨fun j acc H3=>Same H H3∧H3 D=some (.lst acc)∧acc=((List.zipWith (fun x y=>(x*B' - Wg.sg p*r*y) / b0) xs ys).take j).map V.int,⟨aa nD,a8,rfl⟩,fun j acc H3 pp=>⟨SqL.of (pp.1 _ _ ho),SqL.of (pp.1 _ _ hl)⟩,?_,?_⟩
     · rintro j T x y acc H3 hj _ ⟨s3,hd3,rfl⟩ ex ey nT;rw [yQ] at ex ey;obtain ⟨x',ex',rfl⟩:=yS.mp ex;obtain ⟨y',ey',rfl⟩:=yS.mp ey;have jl:j < xs.length:=(yW.mp ex').1;have sT:=aa (o:= .tup [.int x', .int y']) nT;refine ⟨T,_,rfl,SqT.of a8,rfl,_,_,rfl,_,_,rfl,rfl,ext2,?_⟩;refine di ?_;refine ⟨_,rfl,_,rfl,a,C,dx,fs,_,rfl,sT _ _ (s3 _ _ ha),hC.cls,hC.nb,hfs,x',B',rfl,rfl,⟨bx _ (yT ex'),bB⟩,_,rfl,_,rfl,mm,y',rfl,rfl,⟨bm,by_ _ (yT ey')⟩,_,_,rfl,rfl,_,rfl,_,b0,rfl,rfl,⟨b00,bb0⟩,?_⟩;refine CompN.mk hj (by rw [yM,zh,List.length_zipWith];omega) (sT _ _ hd3) ⟨aq nD (s3.trans sT),a8,?_⟩
       have ez:(List.zipWith (fun x y=>(x*B' - Wg.sg p*r*y) / b0) xs ys)[j]?=some ((x'*B' - Wg.sg p*r*y') / b0):=by rw [List.getElem?_zipWith,ex',ey']
       rw [av ez,em];simp
     · rintro acc H3 ⟨s3,hd3,rfl⟩;have zl:(List.zipWith (fun x y=>(x*B' - Wg.sg p*r*y) / b0) xs ys).length=xs.length:=by rw [List.length_zipWith];omega
       rw [yM,←zl,zg] at hd3;refine am ?_;refine ⟨_,rfl,_,rfl,_,rfl,D,_,(q:Int),q,rfl,rfl,hd3,by rw [yM,zl];unfold ixN;rw [if_pos (by omega),if_pos (by omega)];simp,?_⟩
       refine ⟨_,rfl,?_⟩;refine k D _ nD (aq nD s3) ?_;rw [a8];unfold tdF;rw [if_neg (by rw [←em];exact z),←em,List.map_set]
 refine ⟨_,rfl,_,rfl,ql,_,_,_,rfl,rfl,SqL.of hl,ep,p,0,rfl,rfl,_,rfl,?_⟩;by_cases pp:0 < p
 · rw [decide_eq_true pp];refine iteT ?_;refine ⟨_,rfl,_,rfl,qo,_,_,_,rfl,rfl,SqL.of ho,er,?_⟩;exact hnx _ _ ⟨rfl,r,by unfold Wg.sg;rw [if_pos pp];omega,bR,rfl⟩
 · rw [decide_eq_false pp];refine iteF ?_;refine ⟨_,rfl,_,rfl,qo,_,_,_,rfl,rfl,SqL.of ho,er,r,rfl,?_⟩;refine hnx _ _ ⟨rfl,-r,by unfold Wg.sg;rw [if_neg pp];omega,?_,rfl⟩
   unfold Big at*;rw [A9];exact bR
theorem sO {D:TA} {pl:Addr} {b c:Int}:putF (Str.ofString "bottom") (.int c) (flds D pl b)=flds D pl c:=by
 unfold flds putF;rw [if_neg (by decide +kernel)]
 unfold putF;rw [if_neg (by decide +kernel)]
 unfold putF;rw [if_neg (by decide +kernel)]
 unfold putF;rw [if_pos rfl]
theorem sN {D:TA} {pl ql:Addr} {b:Int}:putF (Str.ofString "lines") (.ref ql) (flds D pl b)=flds D ql b:=by
 unfold flds putF;rw [if_neg (by decide +kernel)]
 unfold putF;rw [if_neg (by decide +kernel)]
 unfold putF;rw [if_pos rfl]
theorem tQ {K:PySem.W.Frag} {ta tv:TE} {f:Str} {u:TS} {Z:Ends} {σ:L2.St} {H:Hp} (h:tv σ H fun y H1=>ta σ H1 fun x H2=>∃a C dx fs,x= .ref a∧H2 a=some (.ins C dx fs)∧Cls K C∧NoAttr K C f∧fs.length < 1000∧(u Z) σ (upd H2 a (.ins C dx (putF f y fs)))):tSeq (sFld K ta tv f) u Z σ H:=h
theorem pI {te:TE} {g:TG} {u:TS} {Z:Ends} {σ:L2.St} {H:Hp} (h:te σ H fun x H1=>g x σ H1 (u Z)):tSeq (tAsg te g) u Z σ H:=h
def ButX (D:TA) (H H':Hp):Prop:=∀x o,x≠D.a→x≠D.pss→x≠D.ph→H x=some o→H' x=some o
theorem ButX.of_same {D:TA} {H H':Hp} (s:Same H H'):ButX D H H':=fun x o _ _ _ e=>s _ _ e
theorem ButX.trans {D:TA} {H H1 H2:Hp} (a:ButX D H H1) (b:ButX D H1 H2):ButX D H H2:=fun x o h1 h2 h3 e=>b x o h1 h2 h3 (a x o h1 h2 h3 e)
theorem kdX {D:TA} {m n:Nat} {scs:List Int} {us:List Tr} {ws:List V} {pl:Addr} {ls:List V} {T:Wg.Tb} {H H':Hp} (h:Tab D m n scs us ws pl ls T H) (b:ButX D H H') (h':∃xs,H' D.pss=some (.lst xs)) (h'':∃xs,H' D.ph=some (.lst xs)):Kd H H':=by
 have ha:=h.ob;have h1:=h.sd;have h2:=h.hd;refine ⟨fun x xs e=>b x _ (fun z=>by rw [z,ha] at e;cases e) (fun z=>by rw [z,h1] at e;cases e) (fun z=>by rw [z,h2] at e;cases e) e,fun x xs e=> ?_⟩
 by_cases e1:x=D.pss
 · rw [e1];exact h'
 · by_cases e2:x=D.ph
   · rw [e2];exact h''
   · exact ⟨xs,b x _ (fun z=>by rw [z,ha] at e;cases e) e1 e2 e⟩
def mJ:Sp:=fun vs H Q _=>∃(D:TA) (m n:Nat) (scs:List Int) (us:List Tr) (ws:List V) (pl:Addr) (ls:List V) (T:Wg.Tb) (r q:Nat),vs= [.ref D.a, .int (r:Int), .int (q:Int)]∧Tk K D.C∧Tab D m n scs us ws pl ls T H∧r < m∧q < n∧T.ln r q≠0∧0 < T.bot∧Big T.bot∧(∀i c,i < m→c < n+2→Big (T.ln i c))∧
 ∀pl' ls' H',ButX D H H'→Tab D m n scs us ws pl' ls' (Wg.piv T r q) H'→Q .non H'
theorem scTur:FnScope ["table","at","column","line","sign","bottom"] ["table","at","column"] (ag sTur):= .of
theorem ww {f fT:Addr} {fd dT:FuncData} (F:Fun K "turn" "turn" sTur f fd) (B:Blt mg)
 (GT:FnOk P w K mg base CX0 1 fT dT ["table","other","line","column","bottom"] (pW (K:=K))) (kT:PySem.W.keepIn K (.ref fT)=true) (bT:Binds K dT ["table","other","line","column","bottom"] []) (mT:mg "turned"=some (.ref fT)):
 FnOk P w K mg base CX0 2 f fd ["table","at","column"] (mJ (K:=K)):=by
 refine F.okb scTur fun vs H Q E h=> ?_;refine hZq fun q_ e_=> ?_;obtain ⟨D,m,n,scs,us,ws,pl,ls,T,r,q,rfl,hk,hT,hrm,hqn,hp,b0,bb,bl,k⟩:=h;subst e_;refine ⟨rfl,fun cdv A outer s hr=> ?_⟩;have nd5:(["other","table","column","line","bottom"]:List Str).Nodup:=by decide +kernel
 have nd2:(["number","sign"]:List Str).Nodup:=by decide +kernel
 refine ⟨_,ae (psR 3 scTur.nd (ao aw (aP (pv 0) rfl) (pv 1) fun _ _=>rfl))
  (ae (psR 4 scTur.nd (dh (aF eK (ao aw (pv 3) (pv 2) fun _ _=>rfl) ac (aE _)) ac (c9 bq ac)))
  (ae (psR 5 scTur.nd (aP (pv 0) rfl))
  (ae (dO (pv 0) (aB kU rfl B.ab kX (a0 (ao aw (pv 3) (pv 2) fun _ _=>rfl) a9)) rfl)
  (ae (dO (pv 0) (aQ (NC:= ["other","table","column","line","bottom"]) (mp:= [none,some 0,some 2,some 3,some 5]) rfl (aO (aP (pv 0) rfl)) (fun _ _ _ _ _=>pgA 0 nd5) (fun _ _ _ _ _=>aN)
   (fun _ _ _ _ _=>ai GT hr rfl mT kT bT .nil ar (a0 (pv 1) (a0 (pv 0) (a0 (pv 3) (a0 (pv 2) (a0 (pv 4) a9))))))) rfl)
  (ae (dQ (aQ (NC:= ["number","sign"]) (mp:= [none,some 4]) rfl (aO (pv 3)) (fun _ _ _ _ _=>pgA 0 nd2) (fun _ _ _ _ _=>aN)
   (fun _ _ _ _ _=>aj aX (c9 bq (pv 1)) (pv 0))) (fz (aP (pv 0) rfl) (pv 1) df))
  (ae (dQ (aj aX (pv 4) (pv 5)) (fz (ao aw (aP (pv 0) rfl) (pv 1) fun _ _=>rfl) (pv 2) df))
  (ah (dQ (aU (a0 (ao aw (aP (pv 0) rfl) (pv 2) fun _ _=>rfl) (a0 (ao aw (aP (pv 0) rfl) (pv 1) fun _ _=>rfl) a9))) (aW (n:=2) rfl (ak (fz (aP (pv 0) rfl) (pv 1) df) (ak (fz (aP (pv 0) rfl) (pv 2) df) aL))))))))))),?_⟩
 have hL20:(20000:Nat)≤sizeLine:=by decide +kernel
 have m64:=hT.m64;have n64:=hT.n64;obtain ⟨ll,lr⟩:=hT.ro;refine hZq fun q_ e_=> ?_;obtain ⟨ql,eql,hql,nq1,nq2⟩:=lr r hrm;subst e_;have eqp:atI ((Wg.ls (n+2) (T.ln r)).map V.int) (q:Int)=some (.int (T.ln r q)):=aJ (fX (by omega))
 have fb:∀b pl,(flds D pl b).lookup (Str.ofString "bottom")=some (.int b):=fun b pl=>rfl;have fl:∀b pl,(flds D pl b).lookup (Str.ofString "lines")=some (.ref pl):=fun b pl=>rfl;have fs:∀b pl,(flds D pl b).lookup (Str.ofString "sides")=some (.ref D.pss):=fun b pl=>rfl;have fh:∀b pl,(flds D pl b).lookup (Str.ofString "heads")=some (.ref D.ph):=fun b pl=>rfl;have sgb:Big (Wg.sg (T.ln r q)):=by unfold Wg.sg Big;split<;>decide +kernel
 have bpq:=bl r q hrm (by omega)
 have eab:(if T.ln r q < 0 then -T.ln r q else T.ln r q)=((T.ln r q).natAbs:Int):=by split<;>omega
 have bB:Big ((T.ln r q).natAbs:Int):=by unfold Big at *;rw [Int.natAbs_natCast];exact bpq
 have nsb:Big (-Wg.sg (T.ln r q)):=by unfold Big at *;rw [A9];exact sgb
 refine ⟨_,rfl,D.a,D.C,D.dx,_,_,rfl,hT.ob,hk.cls,hk.nl,fl _ _,_,rfl,pl,_,(r:Int),_,rfl,rfl,SqL.of hT.li,aJ eql,?_⟩;refine am ?_;dsimp only;refine dq (fun σ' H'=>H=H'∧σ'= [some (.ref D.a),some (.int (r:Int)),some (.int (q:Int)),some (.ref ql),some (.int (Wg.sg (T.ln r q))),none]) ?_ fun nx hnx=> ?_
 · rintro σ' H' ⟨rfl,rfl⟩;refine ⟨_,rfl,D.a,D.C,D.dx,_,_,rfl,hT.ob,hk.cls,hk.nb,fb _ _,_,rfl,_,rfl,ql,_,_,_,rfl,rfl,SqL.of hql,eqp,_,rfl,_,rfl,D.a,D.C,D.dx,_,rfl,hT.ob,hk.cls,hk.nb,(by show 6 < 1000;decide),?_⟩
   rw [eab,sO];obtain ⟨B',eB⟩:∃B':Int,B'=((T.ln r q).natAbs:Int):=⟨_,rfl⟩;rw [←eB] at bB ⊢;obtain ⟨H1,eH1⟩:∃H1,H1=upd H D.a (.ins D.C D.dx (flds D pl B')):=⟨_,rfl⟩;rw [←eH1];have h1a:H1 D.a=some (.ins D.C D.dx (flds D pl B')):=by rw [eH1];exact a8
   have h1l:∀ {x:Addr} {xs:List V},H x=some (.lst xs)→H1 x=some (.lst xs):=fun {x xs} e=>by
    rw [eH1,af (fun z=>by rw [z,hT.ob] at e;cases e)]
    exact e
   try dsimp only
   refine tQ ?_;refine bN rfl ?_;refine ⟨_,rfl,D.a,D.C,D.dx,_,_,rfl,h1a,hk.cls,hk.nl,fl _ _,pl,rfl,⟨_,SqL.of (h1l hT.li)⟩,fun L nL=> ?_⟩;refine bG (xs:=ls) (fun j acc H'=>Same H1 H'∧H' L=some (.lst acc)∧acc.length=j∧∀i,i < j→∃z,acc[i]?=some (.ref z)∧H' z=some (.lst ((tdF (Wg.ls (n+2) (T.ln i)) (Wg.ls (n+2) (T.ln r)) q T.bot B' (T.ln r q) (T.ln i q)).map V.int))∧H1 z=none∧z≠L) ⟨aa nL,a8,rfl,fun i hi=>by omega⟩ (fun j acc H' p=>SqL.of (p.1 _ _ (h1l hT.li))) ?_ ?_
   · rintro j x acc H' hj ex ⟨s2,hL,al,hz⟩;rw [ll] at hj;refine hZq fun q_ e_=> ?_;obtain ⟨qj,eqj,hqj,_,_⟩:=lr j hj;subst e_;rw [eqj] at ex;cases ex;refine ⟨_,rfl,_,rfl,_,rfl,_,rfl,_,rfl,D.a,D.C,D.dx,qj,ql,_,q,T.bot,B',T.ln r q,T.ln j q,Wg.ls (n+2) (T.ln j),Wg.ls (n+2) (T.ln r),rfl,hk,s2 _ _ h1a,fb _ _,s2 _ _ (h1l hqj),s2 _ _ (h1l hql),by rw [Wg.ls_len,Wg.ls_len],by rw [Wg.ls_len];omega,Wg.ls_at (by omega),Wg.ls_at (by omega),b0,bb,bB,?_,?_,fun l H3 nl s3 e3=> ?_⟩
     · intro x mx;obtain ⟨c,hc,rfl⟩:=zo.mp mx;exact bl j c hj (zH.mp hc)
     · intro x mx;obtain ⟨c,hc,rfl⟩:=zo.mp mx;exact bl r c hrm (zH.mp hc)
     · refine CompN.mk (by rw [ll];exact hj) (by omega) (s3 _ _ hL) ⟨aq nL (s2.trans s3),a8,by rw [z7,al];rfl,fun i hi=> ?_⟩
       have nlL:l≠L:=fun z=>by rw [z,hL] at nl;cases nl
       have nl1:H1 l=none:=s2.free nl;rcases Nat.lt_or_ge i j with h|h
       · obtain ⟨z,a1,a2,a3,a4⟩:=hz i h;exact ⟨z,by rw [List.getElem?_append_left (by omega)];exact a1,by rw [af a4];exact s3 _ _ a2,a3,a4⟩
       · have e:i=j:=by omega
         subst e;exact ⟨l,by rw [A4 (by omega),al];simp,by rw [af nlL];exact e3,nl1,nlL⟩
   intro acc H2 z_;refine hZq fun q_ e_=> ?_;obtain ⟨s2,hL2,al,hz⟩:=z_;subst e_;rw [ll] at al hz;have h2a:=s2 _ _ h1a;refine ⟨_,rfl,D.a,D.C,D.dx,_,rfl,h2a,hk.cls,hk.nl,(by show 6 < 1000;decide),?_⟩
   rw [sN];obtain ⟨H3,eH3⟩:∃H3,H3=upd H2 D.a (.ins D.C D.dx (flds D L B')):=⟨_,rfl⟩;rw [←eH3];have h3a:H3 D.a=some (.ins D.C D.dx (flds D L B')):=by rw [eH3];exact a8
   have h3l:∀ {x:Addr} {xs:List V},H2 x=some (.lst xs)→H3 x=some (.lst xs):=fun {x xs} e=>by
    rw [eH3,af (fun z=>by rw [z,h2a] at e;cases e)]
    exact e
   have h3ql:=h3l (s2 _ _ (h1l hql))
   try dsimp only
   refine pI ?_;refine bN rfl ?_;refine ⟨_,rfl,ql,rfl,⟨_,SqL.of h3ql⟩,fun M nM=> ?_⟩;refine bG (xs:=(Wg.ls (n+2) (T.ln r)).map V.int) (fun j acc H'=>Same H3 H'∧H' M=some (.lst acc)∧acc=(((Wg.ls (n+2) (T.ln r)).take j).map fun x=> -Wg.sg (T.ln r q)*x).map V.int) ⟨aa nM,a8,rfl⟩ (fun j acc H' p=>SqL.of (p.1 _ _ h3ql)) ?_ ?_
   · rintro j x acc' H' hj ex ⟨s4,hM,rfl⟩;rw [yQ] at ex;obtain ⟨y,ey,rfl⟩:=yS.mp ex;have jl:j < (Wg.ls (n+2) (T.ln r)).length:=(yW.mp ey).1;have jl':=jl;rw [Wg.ls_len] at jl';rw [Wg.ls_at jl'] at ey;cases ey;refine ⟨_,rfl,_,rfl,_,rfl,_,_,rfl,rfl,⟨nsb,bl r j hrm jl'⟩,?_⟩;refine CompN.mk hj (by rw [yM,yM,zh,Wg.ls_len];omega) hM ⟨aq nM s4,a8,?_⟩
     rw [av (Wg.ls_at jl')];simp
   rintro acc' H4 ⟨s4,hM,rfl⟩;rw [yM,zg] at hM;have h4L:=s4 _ _ (h3l hL2);have h4a:=s4 _ _ h3a;have ixn:∀ {N j:Nat},j < N→ixN N (j:Int)=some j:=fun {N j} h=>by unfold ixN;rw [if_pos (by omega),if_pos (by omega)];simp
   have nLM:L≠M:=fun z=>by rw [←z,h3l hL2] at nM;cases nM
   have naL:D.a≠L:=fun z=>by rw [←z,h1a] at nL;cases nL
   have naM:D.a≠M:=fun z=>by rw [←z,h3a] at nM;cases nM
   refine ⟨_,rfl,D.a,D.C,D.dx,_,_,rfl,h4a,hk.cls,hk.nl,fl _ _,_,rfl,L,_,(r:Int),r,rfl,rfl,h4L,ixn (by omega),?_⟩
   have h5a:(upd H4 L (.lst (acc.set r (.ref M)))) D.a=some (.ins D.C D.dx (flds D L B')):=by rw [af naL];exact h4a
   have h5M:(upd H4 L (.lst (acc.set r (.ref M)))) M=some (.lst (((Wg.ls (n+2) (T.ln r)).map fun x=> -Wg.sg (T.ln r q)*x).map V.int)):=by rw [af nLM.symm];exact hM
   refine ⟨_,rfl,_,rfl,_,_,rfl,rfl,⟨sgb,bb⟩,_,rfl,D.a,D.C,D.dx,_,_,rfl,h5a,hk.cls,hk.nl,fl _ _,_,rfl,L,_,(r:Int),_,rfl,rfl,SqL.of a8,aJ (v:= .ref M) (by rw [List.getElem?_set_self (by omega)]),_,rfl,M,_,(q:Int),q,rfl,rfl,h5M,ixn (by rw [yM,yM,Wg.ls_len];omega),?_⟩
   rw [←List.map_set,Wg.turnedR];obtain ⟨H6,eH6⟩:∃H6,H6=upd (upd H4 L (.lst (acc.set r (.ref M)))) M (.lst ((Wg.ls (n+2) ((Wg.piv T r q).ln r)).map V.int)):=⟨_,rfl⟩;rw [←eH6]
   have h6:∀ {x:Addr} {o:HO},x≠L→x≠M→H4 x=some o→H6 x=some o:=fun {x o} a b e=>by
    rw [eH6,af b,af a];exact e
   have h6M:H6 M=some (.lst ((Wg.ls (n+2) ((Wg.piv T r q).ln r)).map V.int)):=by rw [eH6];exact a8
   have h6L:H6 L=some (.lst (acc.set r (.ref M))):=by rw [eH6,af nLM];exact a8
   have h6a:=h6 naL naM h4a
   have old:∀ {x:Addr} {o:HO},x≠D.a→H x=some o→H6 x=some o:=fun {x o} na e=>by
    have e1:H1 x=some o:=by rw [eH1,af na];exact e
    have e3:H3 x=some o:=by rw [eH3,af na];exact s2 _ _ e1
    exact h6 (fun z=>by rw [←z,e1] at nL;cases nL) (fun z=>by rw [←z,e3] at nM;cases nM) (s4 _ _ e3)
   have nap:∀ {x:Addr} {xs:List V},H x=some (.lst xs)→x≠D.a:=fun {x xs} e z=>by rw [z,hT.ob] at e;cases e
   have h6sd:=old (nap hT.sd) hT.sd;have h6hd:=old (nap hT.hd) hT.hd;refine ⟨_,rfl,D.a,D.C,D.dx,_,_,rfl,h6a,hk.cls,hk.nh,fh _ _,_,rfl,D.ph,_,(q:Int),_,rfl,rfl,SqL.of h6hd,aJ (iG hqn),_,rfl,D.a,D.C,D.dx,_,_,rfl,h6a,hk.cls,hk.nd,fs _ _,_,rfl,D.pss,_,(r:Int),_,rfl,rfl,SqL.of h6sd,aJ (iG hrm),two,fun t nt=> ?_⟩;have sT:=aa (o:= .tup [.int (T.hd q:Nat), .int (T.sd r:Nat)]) nt;have h7a:(upd (upd H6 t (.tup [.int (T.hd q:Nat), .int (T.sd r:Nat)])) D.pss (.lst ((nv (Wg.ls m T.sd)).set r (.int (T.hd q:Nat))))) D.a=some (.ins D.C D.dx (flds D L B')):=by rw [af (nap hT.sd).symm];exact sT _ _ h6a
   have h7h:(upd (upd H6 t (.tup [.int (T.hd q:Nat), .int (T.sd r:Nat)])) D.pss (.lst ((nv (Wg.ls m T.sd)).set r (.int (T.hd q:Nat))))) D.ph=some (.lst (nv (Wg.ls n T.hd))):=by rw [af hT.n3.symm];exact sT _ _ h6hd
   refine ⟨t,_,rfl,SqT.of a8,rfl,_,_,rfl,_,rfl,D.a,D.C,D.dx,_,_,rfl,sT _ _ h6a,hk.cls,hk.nd,fs _ _,_,rfl,D.pss,_,(r:Int),r,rfl,rfl,sT _ _ h6sd,ixn (by rw [cj];exact hrm),_,_,rfl,_,rfl,D.a,D.C,D.dx,_,_,rfl,h7a,hk.cls,hk.nh,fh _ _,_,rfl,D.ph,_,(q:Int),q,rfl,rfl,h7h,ixn (by rw [cj];exact hqn),rfl,?_⟩
   have e1:(nv (Wg.ls m T.sd)).set r (.int (T.hd q:Nat))=nv (Wg.ls m (Wg.piv T r q).sd):=by
    rw [←Wg.piv_sides];unfold nv;rw [List.map_set]
   have e2:(nv (Wg.ls n T.hd)).set q (.int (T.sd r:Nat))=nv (Wg.ls n (Wg.piv T r q).hd):=by
    rw [←Wg.piv_heads];unfold nv;rw [List.map_set]
   rw [e1,e2]
   have fin:∀ {x:Addr} {o:HO},x≠D.pss→x≠D.ph→H6 x=some o→(upd (upd (upd H6 t (.tup [.int (T.hd q:Nat), .int (T.sd r:Nat)])) D.pss (.lst (nv (Wg.ls m (Wg.piv T r q).sd)))) D.ph (.lst (nv (Wg.ls n (Wg.piv T r q).hd)))) x=some o:=fun {x o} a b e=>by
    rw [af b,af a];exact sT _ _ e
   have bx:ButX D H (upd (upd (upd H6 t (.tup [.int (T.hd q:Nat), .int (T.sd r:Nat)])) D.pss (.lst (nv (Wg.ls m (Wg.piv T r q).sd)))) D.ph (.lst (nv (Wg.ls n (Wg.piv T r q).hd)))):=fun x o na ns nh e=>fin ns nh (old na e);have nLs:L≠D.pss:=fun z=>by rw [z,h1l hT.sd] at nL;cases nL
   have nLh:L≠D.ph:=fun z=>by rw [z,h1l hT.hd] at nL;cases nL
   have nMs:M≠D.pss:=fun z=>by rw [z,h3l (s2 _ _ (h1l hT.sd))] at nM;cases nM
   have nMh:M≠D.ph:=fun z=>by rw [z,h3l (s2 _ _ (h1l hT.hd))] at nM;cases nM
   have sdf:(upd (upd (upd H6 t (.tup [.int (T.hd q:Nat), .int (T.sd r:Nat)])) D.pss (.lst (nv (Wg.ls m (Wg.piv T r q).sd)))) D.ph (.lst (nv (Wg.ls n (Wg.piv T r q).hd)))) D.pss=some (.lst (nv (Wg.ls m (Wg.piv T r q).sd))):=by rw [af hT.n3];exact a8
   refine k L (acc.set r (.ref M)) _ bx ⟨?_,bx _ _ (nap hT.tm) hT.n1.symm hT.n5.symm hT.tm,hT.tt.mono (kdX hT bx ⟨_,sdf⟩ ⟨_,a8⟩),hT.ul,bx _ _ (nap hT.sc) hT.n2.symm hT.n6.symm hT.sc,hT.sl,fin nLs nLh h6L,⟨by rw [List.length_set];exact al,fun i hi=> ?_⟩,sdf,a8,hT.n1,hT.n2,hT.n3,nLs.symm,hT.n5,hT.n6,nLh.symm,m64,n64⟩
   · have:=fin (nap hT.sd).symm (nap hT.hd).symm h6a;rw [this,eB];rfl
   · by_cases e:i=r
     · subst e;exact ⟨M,by rw [List.getElem?_set_self (by omega)],fin nMs nMh h6M,nMs,nMh⟩
     · obtain ⟨z,a1,a2,a3,a4⟩:=hz i hi;have z3:=h3l a2;have nzM:z≠M:=fun y=>by rw [←y,z3] at nM;cases nM
       have nzs:z≠D.pss:=fun y=>by rw [y,h1l hT.sd] at a3;cases a3
       have nzh:z≠D.ph:=fun y=>by rw [y,h1l hT.hd] at a3;cases a3
       refine ⟨z,by rw [List.getElem?_set_ne (fun y=>e y.symm)];exact a1,?_,nzs,nzh⟩
       have:=fin nzs nzh (h6 a4 nzM (s4 _ _ z3));rw [this];congr 3;unfold tdF;rw [eB];split
       · rename_i y;exact Wg.turned0 e y
       · exact Wg.turned1 e
 · refine ⟨_,rfl,_,rfl,ql,_,_,_,rfl,rfl,SqL.of hql,eqp,_,0,rfl,rfl,_,rfl,?_⟩;by_cases pp:0 < T.ln r q
   · rw [decide_eq_true pp];refine iteT ?_;refine hnx _ _ ⟨rfl,?_⟩;unfold Wg.sg;rw [if_pos pp];rfl
   · rw [decide_eq_false pp];refine iteF ?_;refine ⟨1,rfl,hnx _ _ ⟨rfl,?_⟩⟩;unfold Wg.sg;rw [if_neg pp];rfl
end
end K40
namespace L2
open PySem PySem.Spec PyProof.Rows
section
variable {X:Cx}
noncomputable def RgV (r:Addr) (n:Nat):HO:= .ext fun h=>∃t u v,IsRange h r 0 n 1 t u v
theorem yp {P:Program} {w:World} {H:Hp} {h:Heap} {r:Addr} {n:Nat} (x:∃t u v,IsRange h r 0 n 1 t u v):ObjOk P w H h r (RgV r n):=by
 obtain ⟨t,u,v,e⟩:=x;exact ⟨⟨t,u,v,e⟩,⟨_,e⟩,fun _ _ ⟨t',u',v',y⟩ k=>⟨t',u',v',k _ y⟩⟩
theorem kR:cB X (.type "range") (fun xs H Q=>∃n:Nat,xs= [.int n]∧∀r,H r=none→Q (.ref r) (upd H r (RgV r n))):=by
 intro pins s σ H xs us Q I r h;obtain ⟨n,rfl,q⟩:=h;obtain ⟨u,rfl,t,rfl⟩:=cP r;refine call_range_1 ?_;exact ⟨.ref _,_,I.laid (t':=s.toks+1+1) (fun b ob e=>Heap.get?_push_of_some _ e) (yP _) (yp ⟨_,_,_,Heap.get?_push_size _ rfl⟩),rfl,q _ (I.hok.fresh (yP _))⟩
theorem ml (hc:X.calm=true):cB X (.type "list") (fun xs H Q=>∃(r:Addr) (n:Nat),xs= [.ref r]∧H r=some (RgV r n)∧n≤1000∧∀l,H l=none→Q (.ref l) (upd H l (.lst ((List.range n).map fun (i:Nat)=>V.int i)))):=by
 intro pins s σ H xs us Q I r h;obtain ⟨r0,n,rfl,hr,hn,q⟩:=h;obtain ⟨u,rfl,ru⟩:=cP r;cases ru;obtain ⟨⟨t,u,v,hR⟩,_⟩:=(show ObjOk X.prog X.w H s.heap r0 (RgV r0 n) from I.hok r0 _ hr);refine call_list_range (n:=n) (I.ok.hd hc) hR (small_one (by omega) (by omega) (by omega) (by omega)) (by rw [rangeSize_one];split<;>omega) (by omega) fun h' tk acc' c' hk hD hacc=> ?_
 have rr:Vals ((List.range n).map fun (i:Nat)=>V.int i) acc'.toList:=by
  have key:∀(ys:List Value) (k:Nat),(∀j x,ys[j]?=some x→∃t,x=Value.int ((k+j:Nat):Int) t)→Vals ((List.range' k ys.length).map fun (i:Nat)=>V.int i) ys:=by
   intro ys
   induction ys with
   |nil=>intro k _;exact .nil
   |cons y ys ih=>
    intro k hk;rw [za,List.range'_succ,zc];obtain ⟨t,e⟩:=hk 0 y rfl;refine .cons ⟨t,by rw [e];rfl⟩ (ih (k+1) fun j x ex=> ?_)
    obtain ⟨t,e⟩:=hk (j+1) x ex;exact ⟨t,by rw [e];congr 1;omega⟩
  have:=key acc'.toList 0 fun j x ex=>by
   obtain ⟨t,e⟩:=hacc.2 j x (by rw [←zx];exact ex)
   exact ⟨t,by rw [e];congr 1;omega⟩
  rw [zq,hacc.1] at this;rw [List.range_eq_range'];exact this
 have hL:(1000:Nat)≤sizeLine:=by decide +kernel
 refine ⟨.ref _,_,I.laid (t':=tk) (o:= .lst ((List.range n).map fun (i:Nat)=>V.int i)) hk (yP _) ⟨by rw [yM,zJ];omega,acc'.toList,c',rr,by rw [Array.toArray_toList];exact hD⟩,rfl,q _ (I.hok.fresh (yP _))⟩
open PySem PySem.Spec PyProof.Rows PySem.W
def u6:V→List V→Hp→VK→Prop:=fun x vs H Q=>∃(l:Addr) (ns:List Int) (k:Int) (j:Nat),x= .ref l∧vs= [.int k]∧H l=some (.lst (ns.map V.int))∧ns[j]?=some k∧(∀i,i < j→ns[i]?≠some k)∧Q (.int (j:Int)) H
theorem sG {ns:List Int} {its:List Value} (r:Vals (ns.map V.int) its) {i:Nat} {k:Int} (hi:i < its.length):isInt k its[i]=decide (ns[i]?=some k):=by
 have hl:=r.length;rw [yM] at hl;obtain ⟨y,ey,ry⟩:=r.get (i:=i) (x:= .int ns[i]) (by rw [yQ,yN (by omega)];rfl)
 obtain ⟨t,rfl⟩:=ry;rw [yN hi] at ey;rw [zb ey,yN (by omega)]
 simp only [isInt,Option.some.injEq];exact Ac.mpr (by simp)
theorem oF:MtM X "list.index" u6:=by
 intro pins s σ H x vs v us Q I rx rv h;obtain ⟨l,ns,k,j,rfl,rfl,hH,hj,hf,q⟩:=h;cases rx;obtain ⟨b,rfl,t,rfl⟩:=cP rv;obtain ⟨z,its,n,r,hl,e⟩:=I.lstM hH;have hl:=r.length;rw [yM] at hl;have jl:j < ns.length:=(yW.mp hj).1;have hz:its.length≤sizeLine:=by rw [yM] at z;omega
 rw [sizeLine_eq] at hz
 refine call_meets PySem.F.slot_list_index ⟨_,e,rfl⟩ PySem.F.entry_list_index (PySem.F.args_list_index_2 _ _)
  (MeetsSeq.list_index l its.toArray n (.int k t) (isInt k) (fun y hy=> ?_) j (by simp;omega) (by simp;omega) ?_ fun i hi hlt=> ?_) ⟨e,⟨.int j,H,I.tok _,⟨_,rfl⟩,q⟩⟩
 · have hy':y∈its:=by simpa using hy
   obtain ⟨i,hi,rfl⟩:=zS hy';obtain ⟨y,ey,ry⟩:=r.get (i:=i) (x:= .int ns[i]) (by rw [yQ,yN (by omega)];rfl)
   obtain ⟨t',rfl⟩:=ry;rw [yN hi] at ey;rw [zb ey];exact MeetsSeq.EqGives.int _ k t' t
 · have:=sG r (i:=j) (k:=k) (by omega)
   rw [decide_eq_true hj] at this;simpa using this
 · have hi':i < its.length:=by simpa using hi
   have:=sG r (i:=i) (k:=k) hi';rw [decide_eq_false (hf i hlt)] at this;simpa using this
noncomputable def RgW (r:Addr) (a n:Nat):HO:= .ext fun h=>∃t u v,IsRange h r a (a+n:Nat) 1 t u v
theorem vW {P:Program} {w:World} {H:Hp} {h:Heap} {r:Addr} {a n:Nat} (x:∃t u v,IsRange h r a (a+n:Nat) 1 t u v):ObjOk P w H h r (RgW r a n):=by
 obtain ⟨t,u,v,e⟩:=x;exact ⟨⟨t,u,v,e⟩,⟨_,e⟩,fun _ _ ⟨t',u',v',y⟩ k=>⟨t',u',v',k _ y⟩⟩
theorem kQ:cB X (.type "range") (fun xs H Q=>∃a n:Nat,xs= [.int a, .int (a+n:Nat)]∧∀r,H r=none→Q (.ref r) (upd H r (RgW r a n))):=by
 intro pins s σ H xs us Q I r h;obtain ⟨a,n,rfl,q⟩:=h;obtain ⟨u1,u2,rfl,⟨t,rfl⟩,⟨u,rfl⟩⟩:=Vals.two r;refine call_range_2 ?_;exact ⟨.ref _,_,I.laid (t':=s.toks+1) (fun b ob e=>Heap.get?_push_of_some _ e) (yP _) (vW ⟨_,_,_,Heap.get?_push_size _ rfl⟩),rfl,q _ (I.hok.fresh (yP _))⟩
theorem mj (hc:X.calm=true):cB X (.type "list") (fun xs H Q=>∃(r:Addr) (a n:Nat),xs= [.ref r]∧H r=some (RgW r a n)∧n≤1000∧a≤1000∧∀l,H l=none→Q (.ref l) (upd H l (.lst ((List.range n).map fun (i:Nat)=>V.int ((a+i:Nat):Int))))):=by
 intro pins s σ H xs us Q I r h;obtain ⟨r0,a,n,rfl,hr,hn,ha,q⟩:=h;obtain ⟨u,rfl,ru⟩:=cP r;cases ru;obtain ⟨⟨t,u,v,hR⟩,_⟩:=(show ObjOk X.prog X.w H s.heap r0 (RgW r0 a n) from I.hok r0 _ hr);refine call_list_range (n:=n) (I.ok.hd hc) hR (small_one (by omega) (by omega) (by omega) (by omega)) (by rw [rangeSize_one];split<;>omega) (by omega) fun h' tk acc' c' hk hD hacc=> ?_
 have rr:Vals ((List.range n).map fun (i:Nat)=>V.int ((a+i:Nat):Int)) acc'.toList:=by
  have key:∀(ys:List Value) (k:Nat),(∀j x,ys[j]?=some x→∃t,x=Value.int ((a+(k+j):Nat):Int) t)→Vals ((List.range' k ys.length).map fun (i:Nat)=>V.int ((a+i:Nat):Int)) ys:=by
   intro ys
   induction ys with
   |nil=>intro k _;exact .nil
   |cons y ys ih=>
    intro k hk;rw [za,List.range'_succ,zc];obtain ⟨t,e⟩:=hk 0 y rfl;refine .cons ⟨t,by rw [e];rfl⟩ (ih (k+1) fun j x ex=> ?_)
    obtain ⟨t,e⟩:=hk (j+1) x ex;exact ⟨t,by rw [e];congr 1;omega⟩
  have:=key acc'.toList 0 fun j x ex=>by
   obtain ⟨t,e⟩:=hacc.2 j x (by rw [←zx];exact ex)
   exact ⟨t,by rw [e];congr 1<;>omega⟩
  rw [zq,hacc.1] at this;rw [List.range_eq_range'];exact this
 have hL:(1000:Nat)≤sizeLine:=by decide +kernel
 refine ⟨.ref _,_,I.laid (t':=tk) (o:= .lst ((List.range n).map fun (i:Nat)=>V.int ((a+i:Nat):Int))) hk (yP _) ⟨by rw [yM,zJ];omega,acc'.toList,c',rr,by rw [Array.toArray_toList];exact hD⟩,rfl,q _ (I.hok.fresh (yP _))⟩
end
end L2
namespace Wg
theorem Rn.snoc {m n:Nat} {V R:Nat→Vec} {M:Int} {T:Nat→Tb} {r q:Nat→Nat} {J:Nat} (H:Rn m n V R M T r q J) {r' q':Nat} (S:Stp m n M (T J) r' q'):
 ∃T2 r2 q2,Rn m n V R M T2 r2 q2 (J+1)∧T2 (J+1)=piv (T J) r' q':=by
 refine ⟨fun j=>if j≤J then T j else piv (T J) r' q',fun j=>if j < J then r j else r',fun j=>if j < J then q j else q',⟨?_,?_,?_,?_⟩,?_⟩
 · show Inv m n V R (if 0≤J then T 0 else _);rw [if_pos (by omega)]
   exact H.inv
 · show Pm m n (if 0≤J then T 0 else _);rw [if_pos (by omega)]
   exact H.pm
 · intro j hj;show Stp m n M (if j≤J then T j else _) (if j < J then r j else r') (if j < J then q j else q');rw [if_pos (by omega)]
   by_cases h:j < J
   · rw [if_pos h,if_pos h];exact H.st j h
   · have e:j=J:=by omega
     subst e;rw [if_neg h,if_neg h];exact S
 · intro j hj;show (if j+1≤J then T (j+1) else _)=piv (if j≤J then T j else _) (if j < J then r j else r') (if j < J then q j else q');rw [if_pos (by omega:j≤J)]
   by_cases h:j < J
   · rw [if_pos h,if_pos h,if_pos (by omega)]
     exact H.nx j h
   · have e:j=J:=by omega
     subst e;rw [if_neg h,if_neg h,if_neg (by omega)]
 · show (if J+1≤J then _ else _)=_;rw [if_neg (by omega)]
structure Sz (m n:Nat) (L:Nat→Nat→Int) (M:Nat):Prop where
 le:∀i c,i < m→c < n+2→(L i c).natAbs≤M
 one:1≤M
theorem Sz.V {m n M:Nat} {L:Nat→Nat→Int} (h:Sz m n L M):∀k t,k < m+n→t < m→(V0 m L k t).natAbs≤M:=by
 intro k t hk ht;unfold V0;have:=h.one;by_cases e:k < m
 · rw [if_pos e];split
   · show 1≤M;exact this
   · exact zf _
 · rw [if_neg e,A9];exact h.le t (k - m) ht (by omega)
noncomputable def cut (m n:Nat) (V:Nat→Vec):Nat→Vec:=fun k t=>if k < m+n then V k t else 0
theorem Inv.cut {m n:Nat} {V R:Nat→Vec} {T:Tb} (I:Inv m n V R T) (P:Pm m n T):Inv m n (Wg.cut m n V) R T:=by
 refine ⟨I.pos,?_,fun c t hc ht=> ?_⟩
 · rw [←I.det];congr 1;refine fK m fun k c hk hc=> ?_;exact if_pos (P.sd_lt hk)
 · have e:Tb.W T (Wg.cut m n V) R n c t=Tb.W T V R n c t:=by
    unfold Tb.W;split
    · rename_i h;show -(if T.hd c < m+n then V (T.hd c) t else 0)=_;rw [if_pos (P.hd_lt h)]
    · rfl
   rw [e,←I.ln c t hc ht];refine sumN_congr fun i hi=> ?_;show T.ln i c*(if T.sd i < m+n then V (T.sd i) t else 0)=_;rw [if_pos (P.sd_lt hi)]
theorem Sz.bounds {m n M:Nat} {L:Nat→Nat→Int} {T:Tb} (h:Sz m n L M) (I:Inv m n (V0 m L) (R0 L) T) (P:Pm m n T):T.bot.natAbs≤fac m*M^m∧∀i c,i < m→c < n+2→(T.ln i c).natAbs≤fac m*M^m:=by
 have hV:∀k t,t < m→(Wg.cut m n (V0 m L) k t).natAbs≤M:=by
  intro k t ht;unfold Wg.cut;split
  · rename_i e;exact h.V k t e ht
  · exact zf _
 refine ⟨(I.cut P).bot_le hV,fun i c hi hc=>(I.cut P).ln_le hV (fun c t hc ht=> ?_) hi hc⟩;exact h.le t c ht hc
end Wg
namespace K40
open PySem L2 Mth Tre Wd Su Tw Fm
structure FunC (K:PySem.W.Frag) (x qual:Str) (st:Stmt) (f:Addr) (fd:FuncData) (c0:Addr):Prop where
 ex:∃(oc:Value) (od:Option Addr) (kV doc pm:Value) (an:Option Addr) (ct:Value) (osl:Array (Option Value)),
  fd=PySem.W.fnOf x qual (bp st) (aS st) (ag st) .none kV doc pm an (.ref c0) ct∧K.lookup f=some ⟨oc,od, .func fd,osl⟩∧PySem.W.codeIn K (.ref c0) qual=true
noncomputable def yC:Pos:=match aS sLby with
 | [.Return (some (.Call _ _ [⟨_, .Lambda _ _ _ pos,_⟩,_] _)) _]=>pos
 |_=>⟨0,0,0,0⟩
abbrev lbQ:Str:=(Str.ofString "least_by"++".<locals>.")++"<lambda>"
abbrev Lm (T0:Addr) (H:Hp):Prop:=Lam T0 yC lbQ H
theorem sM {D:TA} {pl:Addr}:putF (Str.ofString "heads") (.ref D.ph) (putF (Str.ofString "sides") (.ref D.pss) (putF (Str.ofString "bottom") (.int 1) (putF (Str.ofString "lines") (.ref pl) (putF (Str.ofString "scales") (.ref D.psc) (putF (Str.ofString "terms") (.ref D.pt) [])))))=flds D pl 1:=by
 have e:∀(f:Str) (v:V),putF f v []= [(f,v)]:=fun f v=>rfl;have c:∀(f g:Str) (v x:V) (r:List (Str×V)),g≠f→putF f v ((g,x)::r)=(g,x)::putF f v r:=fun f g v x r h=>by unfold putF;rw [if_neg h];cases r<;>rfl
 unfold flds
 repeat (first|rw [e]|rw [c _ _ _ _ _ (by decide +kernel)])
theorem sj (f:Str) (v:V):∀fs:List (Str×V),(putF f v fs).length≤fs.length+1
 | []=>yP _
 |(g,x)::r=>by
  unfold putF;split
  · simp
  · have:=sj f v r;simp only [za];omega
section
variable {P:Program} {w:World} {K:PySem.W.Frag} {mg:Str→Option Value} {base:Heap} {T0:Addr}
def qA (T0:Addr):Sp:=fun vs H Q _=>∃(a b:Addr) (ns:List Int) (ps:List Nat),vs= [.ref a, .ref b]∧SqL K H a (ns.map V.int)∧SqL K H b (nv ps)∧(∀p∈ps,p < ns.length)∧Lm T0 H∧
 (ps= []→∀H',ButT T0 H H'→Lm T0 H'→Q .non H')∧∀p∈ps,(∀r∈ps,ns.getD p 0≤ns.getD r 0)→∀H',ButT T0 H H'→Lm T0 H'→Q (.int (p:Int)) H'
theorem yh:FnScope ["numbers","places"] ["numbers","places"] (ag sLby):= .of
theorem wL {f c0:Addr} {fd:FuncData} (F:FunC K "least_by" "least_by" sLby f fd c0) (B:Blt mg) (C:PySem.W.codeHdIn K c0 T0=true) (hB:base.BuiltinsAt mg T0):FnOk P w K mg base CX0 2 f fd ["numbers","places"] (qA (K:=K) T0):=by
 refine hZq fun q_ e_=> ?_;obtain ⟨oc,od,kV,doc,pm,an,ct,osl,rfl,lk,hcd⟩:=F.ex;subst e_;refine vp lk hcd yh (fun vs H Q E h=> ?_) fun A outer s H vs Q E hr h=> ?_
 · obtain ⟨a,b,ns,ps,rfl,_⟩:=h;rfl
 refine hZq fun q_ e_=> ?_;obtain ⟨a,b,ns,ps,rfl,ha,hb,hps,hL,h1,h2⟩:=h;subst e_
 have hk:PSs (cxOf CX0 P w K mg base ["numbers","places"] "least_by" (ag sLby) f (.ref c0) A outer s H E).nox (aS sLby) _:=
  ah (ax (rC rfl hr rfl rfl (Or.inl rfl) rfl C hB rfl B.mi))
 exact ⟨_,hk.nox,a,b,ns,ps,rfl,rfl,ha,hb,hps,hL,h1,h2⟩
def lu (C:Addr):Sp:=fun vs H Q _=>∃(a dx pt psc pl:Addr) (m n:Nat) (scs:List Int) (us:List Tr) (ws ls:List V) (L:Nat→Nat→Int),vs= [.ref a, .ref pt, .ref psc, .ref pl]∧Tk K C∧H a=some (.ins C dx [])∧H pt=some (.lst ws)∧TrsAt H ws us∧us.length=n∧H psc=some (.lst (scs.map V.int))∧scs.length=m∧H pl=some (.lst ls)∧
 (ls.length=m∧∀i,i < m→∃q,ls[i]?=some (.ref q)∧H q=some (.lst ((Wg.ls (n+2) (L i)).map V.int)))∧m≤64∧n≤64∧
 ∀(D:TA) (H':Hp),D.a=a→D.C=C→But1 a H H'→Tab D m n scs us ws pl ls (Wg.tb0 m L) H'→H D.pss=none→H D.ph=none→Q .non H'
theorem vR:FnScope ["self","terms","scales","lines"] ["self","terms","scales","lines"] (ag iE):= .of
theorem ui {f C:Addr} {fd:FuncData} (F:Fun K "__init__" "Table.__init__" iE f fd) (B:Blt mg):FnOk P w K mg base CX0 1 f fd ["self","terms","scales","lines"] (lu (K:=K) C):=by
 refine F.okb vR fun vs H Q E h=> ?_;refine hZq fun q_ e_=> ?_;obtain ⟨a,dx,pt,psc,pl,m,n,scs,us,ws,ls,L,rfl,hk,ha,hpt,hus,ul,hsc,sl,hpl,hro,m64,n64,k⟩:=h;subst e_;refine ⟨rfl,fun cdv A outer s hr=> ?_⟩
 refine ⟨_,ae (dO (pv 0) (pv 1) rfl) (ae (dO (pv 0) (pv 2) rfl) (ae (dO (pv 0) (pv 3) rfl) (ae (dO (pv 0) ac rfl)
  (ae (dO (pv 0) (bV (ml rfl) rfl B.li PyProof.Rows.boot_list (a0 (bV kR rfl B.ra PyProof.Rows.boot_range (a0 (aB ay rfl B.le PySem.boot_len (a0 (pv 2) a9)) a9)) a9)) rfl)
  (ah (dO (pv 0) (bV (mj rfl) rfl B.li PyProof.Rows.boot_list (a0 (bV kQ rfl B.ra PyProof.Rows.boot_range (a0 (aB ay rfl B.le PySem.boot_len (a0 (pv 2) a9)) (a0 (aj aR (aB ay rfl B.le PySem.boot_len (a0 (pv 2) a9)) (aB ay rfl B.le PySem.boot_len (a0 (pv 1) a9))) a9))) a9)) rfl)))))),?_⟩
 have wl:=hus.len;have nal:∀ {x:Addr} {xs:List V},H x=some (.lst xs)→x≠a:=fun {x xs} e z=>by rw [z,ha] at e;cases e
 refine ⟨_,rfl,_,rfl,a,C,dx,_,rfl,ha,hk.cls,hk.nt,(by show 0 < 1000;decide),?_⟩
 refine ⟨_,rfl,_,rfl,a,C,dx,_,rfl,a8,hk.cls,hk.ns,(by show 1 < 1000;decide),?_⟩
 refine ⟨_,rfl,_,rfl,a,C,dx,_,rfl,a8,hk.cls,hk.nl,(by show 2 < 1000;decide),?_⟩
 refine ⟨_,rfl,a,C,dx,_,rfl,a8,hk.cls,hk.nb,(by show 3 < 1000;decide),?_⟩
 rw [iX,iX,iX];obtain ⟨fs4,ef4⟩:∃fs4,fs4=putF (Str.ofString "bottom") (.int 1) (putF (Str.ofString "lines") (.ref pl) (putF (Str.ofString "scales") (.ref psc) (putF (Str.ofString "terms") (.ref pt) []))):=⟨_,rfl⟩;rw [←ef4];have l4:fs4.length=4:=by rw [ef4];rfl
 have o4:∀ {x:Addr} {xs:List V},H x=some (.lst xs)→(upd H a (.ins C dx fs4)) x=some (.lst xs):=fun {x xs} e=>by rw [af (nal e)];exact e
 refine ⟨_,rfl,psc,_,rfl, .inl (SqL.of (o4 hsc)),m,(by rw [yM,sl]),fun r nr=> ?_⟩
 have nar:a≠r:=fun z=>by rw [←z,a8] at nr;cases nr
 refine ⟨r,m,rfl,a8,by omega,fun ps nps=> ?_⟩
 have nrp:r≠ps:=fun z=>by rw [←z,a8] at nps;cases nps
 have nps4:(upd H a (.ins C dx fs4)) ps=none:=by rw [af nrp.symm] at nps;exact nps
 have nap:a≠ps:=fun z=>by rw [←z,a8] at nps4;cases nps4
 refine ⟨_,rfl,a,C,dx,_,rfl,by rw [af nap,af nar];exact a8,hk.cls,hk.nd,by rw [l4];decide,?_⟩
 obtain ⟨H5,eH5⟩:∃H5,H5=upd (upd (upd (upd H a (.ins C dx fs4)) r (RgV r m)) ps (.lst ((List.range m).map fun (i:Nat)=>V.int i))) a (.ins C dx (putF (Str.ofString "sides") (.ref ps) fs4)):=⟨_,rfl⟩;rw [←eH5];have h5a:H5 a=some (.ins C dx (putF (Str.ofString "sides") (.ref ps) fs4)):=by rw [eH5];exact a8
 have nr0:H r=none:=by rw [af nar.symm] at nr;exact nr
 have nps0:H ps=none:=by rw [af nap.symm] at nps4;exact nps4
 have o5:∀ {x:Addr} {o:HO},x≠a→H x=some o→H5 x=some o:=fun {x o} na e=>by
  rw [eH5,af na,af (fun z=>by rw [z,nps0] at e;cases e),af (fun z=>by rw [z,nr0] at e;cases e),af na]
  exact e
 have h5ps:H5 ps=some (.lst ((List.range m).map fun (i:Nat)=>V.int i)):=by rw [eH5,af nap.symm];exact a8
 refine ⟨_,rfl,psc,_,rfl, .inl (SqL.of (o5 (nal hsc) hsc)),_,rfl,psc,_,rfl, .inl (SqL.of (o5 (nal hsc) hsc)),_,rfl,pt,_,rfl, .inl (SqL.of (o5 (nal hpt) hpt)),_,_,rfl,rfl,m,n,?_,fun r2 nr2=> ?_⟩
 · rw [yM,sl,wl,ul];simp
 refine ⟨r2,m,n,rfl,a8,by omega,by omega,fun ph nph=> ?_⟩
 have nrh:r2≠ph:=fun z=>by rw [←z,a8] at nph;cases nph
 have nph5:H5 ph=none:=by rw [af nrh.symm] at nph;exact nph
 have nah:a≠ph:=fun z=>by rw [←z,h5a] at nph5;cases nph5
 have nar2:a≠r2:=fun z=>by rw [←z,h5a] at nr2;cases nr2
 have nsh:ps≠ph:=fun z=>by rw [←z,h5ps] at nph5;cases nph5
 have nsr:ps≠r2:=fun z=>by rw [←z,h5ps] at nr2;cases nr2
 refine ⟨_,rfl,a,C,dx,_,rfl,by rw [af nah,af nar2];exact h5a,hk.cls,hk.nh,?_,?_⟩
 · have:=sj (Str.ofString "sides") (.ref ps) fs4;rw [l4] at this;omega
 have o7:∀ {x:Addr} {o:HO},x≠a→H5 x=some o→(upd (upd (upd H5 r2 (RgW r2 m n)) ph (.lst ((List.range n).map fun (i:Nat)=>V.int ((m+i:Nat):Int)))) a (.ins C dx (putF (Str.ofString "heads") (.ref ph) (putF (Str.ofString "sides") (.ref ps) fs4)))) x=some o:=fun {x o} na e=>by
  rw [af na,af (fun z=>by rw [z,nph5] at e;cases e),af (fun z=>by rw [z,nr2] at e;cases e)]
  exact e
 have nph0:H ph=none:=by
  cases q:H ph with
  |none=>rfl
  |some o=>rw [o5 nah.symm q] at nph5;cases nph5
 have b1:But1 a H (upd (upd (upd H5 r2 (RgW r2 m n)) ph (.lst ((List.range n).map fun (i:Nat)=>V.int ((m+i:Nat):Int)))) a (.ins C dx (putF (Str.ofString "heads") (.ref ph) (putF (Str.ofString "sides") (.ref ps) fs4)))):=fun x o na e=>o7 na (o5 na e)
 have kd:Kd H (upd (upd (upd H5 r2 (RgW r2 m n)) ph (.lst ((List.range n).map fun (i:Nat)=>V.int ((m+i:Nat):Int)))) a (.ins C dx (putF (Str.ofString "heads") (.ref ph) (putF (Str.ofString "sides") (.ref ps) fs4)))):=by
  refine ⟨fun x xs e=>b1 x _ (fun z=>by rw [z,ha] at e;cases e) e,fun x xs e=>⟨xs,b1 x _ (nal e) e⟩⟩
 have nel:∀ {x y:Addr} {o:HO},H x=some o→H y=none→y≠x:=fun {x y o} e n z=>by rw [z,e] at n;cases n
 refine k ⟨C,a,dx,pt,psc,ps,ph⟩ _ rfl rfl b1 ⟨?_,b1 _ _ (nal hpt) hpt,hus.mono kd,ul,b1 _ _ (nal hsc) hsc,sl,b1 _ _ (nal hpl) hpl,⟨hro.1,fun i hi=> ?_⟩,?_,?_,nel hpt nps0,nel hsc nps0,nsh,nel hpl nps0,nel hpt nph0,nel hsc nph0,nel hpl nph0,m64,n64⟩ nps0 nph0
 · rw [a8,ef4];exact congrArg (fun z=>some (HO.ins C dx z)) (sM (D:=⟨C,a,dx,pt,psc,ps,ph⟩))
 · obtain ⟨q,e1,e2⟩:=hro.2 i hi;exact ⟨q,e1,b1 _ _ (nal e2) e2,(nel e2 nps0).symm,(nel e2 nph0).symm⟩
 · have e:(List.range m).map (fun (i:Nat)=>V.int i)=nv (Wg.ls m (Wg.tb0 m L).sd):=by
    unfold nv Wg.ls;rw [Ah];rfl
   rw [←e];exact o7 nap.symm h5ps
 · have e:(List.range n).map (fun (i:Nat)=>V.int ((m+i:Nat):Int))=nv (Wg.ls n (Wg.tb0 m L).hd):=by
    unfold nv Wg.ls;rw [Ah];rfl
   rw [←e,af nah.symm];exact a8
theorem hU {X:Cx} {K:PySem.W.Frag} {tg l:Expr} {tl:TE} (hK:X.K=K) (h:PE X l tl):PI X tg l (nJ K tl):=by
 subst hK;exact aO h
noncomputable def lim:Nat:=2^2600
structure Wb (m n:Nat) (L:Nat→Nat→Int) (scs:List Int) (C:Nat):Prop where
 ex:∃M,Wg.Sz m n L M∧Wg.fac m*M^m≤C
 sc:∀s∈scs,0 < s∧s.natAbs≤C
 le:1≤C
 big:C < lim
structure Okt (m n:Nat) (L:Nat→Nat→Int) (T:Wg.Tb):Prop where
 inv:Wg.Inv m n (Wg.V0 m L) (Wg.R0 L) T
 pm:Wg.Pm m n T
 st:Wg.Stl m n n T
theorem Wb.bnd {m n C:Nat} {L:Nat→Nat→Int} {scs:List Int} {T:Wg.Tb} (h:Wb m n L scs C) (I:Wg.Inv m n (Wg.V0 m L) (Wg.R0 L) T) (P:Wg.Pm m n T):T.bot.natAbs≤C∧∀i c,i < m→c < n+2→(T.ln i c).natAbs≤C:=by
 obtain ⟨M,h1,h2⟩:=h.ex;obtain ⟨a,b⟩:=h1.bounds I P;exact ⟨yY a h2,fun i c hi hc=>yY (b i c hi hc) h2⟩
theorem cG {C:Nat} {x:Int} (h:x.natAbs≤C) (hb:C < lim):Big x:=
 z6 h (zd hb (zN (by decide) (by decide)))
def qp:Sp:=fun vs H Q _=>∃(D:TA) (m n C:Nat) (scs:List Int) (us:List Tr) (ws:List V) (pl:Addr) (ls:List V) (L:Nat→Nat→Int),vs= [.ref D.a]∧Tk K D.C∧Tab D m n scs us ws pl ls (Wg.tb0 m L) H∧Wb m n L scs C∧
 ∀pl' ls' T H',ButX D H H'→Tab D m n scs us ws pl' ls' T H'→Okt m n L T→Q .non H'
theorem scSet:FnScope ["table","column","hanging"] ["table"] (ag sSet):= .of
theorem wF {f fS fT:Addr} {fd dS dT:FuncData} (F:Fun K "settle" "settle" sSet f fd) (B:Blt mg)
 (GS:FnOk P w K mg base CX0 2 fS dS ["table"] (jP (K:=K))) (kS:PySem.W.keepIn K (.ref fS)=true) (bS:Binds K dS ["table"] []) (mS:mg "slack_lines"=some (.ref fS))
 (GT:FnOk P w K mg base CX0 2 fT dT ["table","at","column"] (mJ (K:=K))) (kT:PySem.W.keepIn K (.ref fT)=true) (bT:Binds K dT ["table","at","column"] []) (mT:mg "turn"=some (.ref fT)):
 FnOk P w K mg base CX0 3 f fd ["table"] (qp (K:=K)):=by
 refine F.okb scSet fun vs H Q E h=> ?_;refine hZq fun q_ e_=> ?_;obtain ⟨D,m,n,C,scs,us,ws,pl,ls,L,rfl,hk,hT,hW,k⟩:=h;subst e_;refine ⟨rfl,fun cdv A outer s hr=> ?_⟩;have nd3:(["at","table","column"]:List Str).Nodup:=by decide +kernel
 refine ⟨_,ah (cg PassesOwn.never rfl (c8 rfl B.ra (a0 (aB ay rfl B.le PySem.boot_len (a0 (aP (pv 0) rfl) a9)) a9)) (eC (i:=1) scSet.nd rfl (Or.inr rfl) (Or.inl rfl))
  (ae (dr (i:=2) (NC:= ["at","table","column"]) (mp:= [none,some 0,some 1]) rfl scSet.nd rfl rfl rfl (hU (K:=K) rfl (ai GS hr rfl mS kS bS .nil ar (a0 (pv 0) a9)))
   (fun _ _ _ _ _=>pgA 0 nd3) (fun _ _ _ _ _=>cK (aF rL (ao (r:=rIxL K) aw (ao (r:=rIxL K) aw (cy (K:=K) rfl (pv 1) rfl) (pv 0) fun _ _=>rfl) (pv 2) fun _ _=>rfl) ac (aE _))) (fun _ _ _ _ _=>pv 0))
  (ah (cf (jR (pv 2) (by intro _;rfl)) (ah (bu (ai GT hr rfl mT kT bT .nil ar (a0 (pv 0) (a0 (ao aw (pv 2) ac fun _ _=>rfl) (a0 (pv 1) a9)))))) bg)))),?_⟩
 have hL20:(20000:Nat)≤sizeLine:=by decide +kernel
 have fl:∀b pl,(flds D pl b).lookup (Str.ofString "lines")=some (.ref pl):=fun b pl=>rfl;have wl:=hT.tt.len;have m64:=hT.m64;have n64:=hT.n64;have ul:=hT.ul;refine ⟨_,rfl,D.a,D.C,D.dx,_,_,rfl,hT.ob,hk.cls,hk.nt,rfl,D.pt,_,rfl, .inl (SqL.of hT.tm),(ws.length:Int),rfl,by omega,by omega,?_⟩
 refine cN (n:=ws.length) (fun i σ H'=>(∃v1 v2,σ= [some (.ref D.a),v1,v2])∧∃pl' ls' T',ButX D H H'∧Tab D m n scs us ws pl' ls' T' H'∧Wg.Inv m n (Wg.V0 m L) (Wg.R0 L) T'∧Wg.Pm m n T'∧Wg.Stl m n i T')
  ⟨⟨none,none,rfl⟩,pl,ls,_,fun x o _ _ _ e=>e,hT,Wg.inv0,Wg.pm0,fun c hc=>absurd hc (Nat.not_lt_zero _)⟩ ?_ ?_
 · rintro i σ H' hi ⟨⟨v1,v2,rfl⟩,pl',ls',T',bx,tb,I,Pm,St⟩;rw [Aj];have hin:i < n:=by omega
   obtain ⟨bb,bl⟩:=hW.bnd I Pm;refine am ?_;dsimp only;refine cQ ?_;refine ck rfl ?_;refine ⟨_,rfl,D,m,n,scs,us,ws,pl',ls',T',rfl,hk,tb,fun l H1 nl s1 hl=> ?_⟩;have tb1:=tb.same s1;refine ⟨l,rfl,⟨_,SqL.of hl⟩,fun L' nL=> ?_⟩;refine cq (xs:=nv (slk m T')) (fun j acc H2=>Same H1 H2∧H2 L'=some (.lst acc)∧acc=nv (((slk m T').take j).filter fun x=>decide (T'.ln x i≠0))) ⟨aa nL,a8,rfl⟩ (fun j acc H2 p=>SqL.of (p.1 _ _ hl)) ?_ ?_
   · rintro j x acc H2 hj ex ⟨s2,hL,rfl⟩;unfold nv at ex;rw [yQ] at ex;obtain ⟨r,er,rfl⟩:=yS.mp ex;obtain ⟨rm,rs⟩:=slk_mem.mp (yT er);have tb2:=tb1.same s2;refine hZq fun q_ e_=> ?_;obtain ⟨q,eq,hq,_,_⟩:=tb2.ro.2 r rm;subst e_
     have al:(((slk m T').take j).filter fun x=>decide (T'.ln x i≠0)).length≤m:=by
      refine yY (zp _ _) (yY (List.length_take_le' _ _) ?_);unfold slk;exact yY (zp _ _) (by rw [zJ];exact yP _)
     refine ⟨_,rfl,D.a,D.C,D.dx,_,_,rfl,tb2.ob,hk.cls,hk.nl,fl _ _,_,rfl,pl',_,(r:Int),_,rfl,rfl,SqL.of tb2.li,aJ eq,_,rfl,q,_,(i:Int),_,rfl,rfl,SqL.of hq,aJ (fX (by omega)),rfl,_,rfl,?_⟩
     by_cases z:T'.ln r i=0
     · rw [decide_eq_true (show V.int (T'.ln r i)=V.int 0 by rw [z])]
       refine iteF ?_;refine CompS.mk hj ⟨s2,hL,?_⟩;rw [av er,zF];simp [z]
     · rw [decide_eq_false (show¬V.int (T'.ln r i)=V.int 0 from fun e=>z (V.int.inj e))];refine iteT ?_;refine ⟨_,rfl,CompN.mk hj (by unfold nv;rw [yM];omega) hL ⟨aq nL s2,a8,?_⟩⟩
       rw [av er,zF];simp [z,nv]
   · rintro acc H2 ⟨s2,hL,rfl⟩;have tb2:=tb1.same s2;have lnv:(nv (slk m T')).length=(slk m T').length:=by unfold nv;rw [yM]
     rw [lnv,zg] at hL;refine am ?_;obtain ⟨hg,ehg⟩:∃hg,hg=(slk m T').filter fun x=>decide (T'.ln x i≠0):=⟨_,rfl⟩;rw [←ehg] at hL;refine ⟨_,rfl,_, .inl ⟨_,SqL.of hL,rfl⟩,?_⟩
     cases hg with
     |nil=>
      refine iteF ?_;refine ⟨⟨_,_,rfl⟩,pl',ls',T',(bx.trans (.of_same s1)).trans (.of_same s2),tb2,I,Pm,St.next fun x hx hs=> ?_⟩;refine Classical.byContradiction fun z=> ?_
      have:x∈(slk m T').filter fun x=>decide (T'.ln x i≠0):=by
       rw [zK,slk_mem];exact ⟨⟨hx,hs⟩,decide_eq_true z⟩
      rw [←ehg] at this;cases this
     |cons r rest=>
      have mr:r∈(slk m T').filter fun x=>decide (T'.ln x i≠0):=by rw [←ehg];exact yO
      rw [zK,slk_mem,decide_eq_true_iff] at mr;obtain ⟨⟨hrm,hrs⟩,hrz⟩:=mr;refine iteT ?_;refine ⟨_,rfl,_,rfl,L',_,((0:Nat):Int),_,rfl,rfl,SqL.of hL,aJ rfl,_,rfl,D,m,n,scs,us,ws,pl',ls',T',r,i,rfl,hk,tb2,hrm,hin,hrz,I.pos,cG bb hW.big,fun a c ha hc=>cG (bl a c ha hc) hW.big,fun pl2 ls2 H3 bx3 tb3=> ?_⟩;exact ⟨⟨_,_,rfl⟩,pl2,ls2,_,((bx.trans (.of_same s1)).trans (.of_same s2)).trans bx3,tb3,Wg.piv_inv I hrm hin hrz,Pm.piv hrm hin,St.turn I hrm hin hrs hrz⟩
 · rintro σ H' ⟨_,pl',ls',T',bx,tb,I,Pm,St⟩;rw [wl,ul] at St;exact k pl' ls' T' H' bx tb ⟨I,Pm,St⟩
end
end K40
namespace Dj
open PySem PySem.Spec PySem.W PyProof.Rows L2 Tre Srt
section
variable {X:Cx}
end
open PySem PySem.Spec PySem.W PyProof.Rows L2 Tre Srt
theorem uD {prog:Program} {w:World} {A:Around} {s:Shared} {fin:Bool} {Q:Bool→Shared→Prop} {x y:Int} {t u:Tok} {as bs:List Value} {q:List (Bool×Bool)} (h:bU A s as bs q)
 (hq:Q (lexV fin ((x==y,decide (x < y))::q)) s):KatLex prog w A true fin Q ((Value.int x t::as).zip (Value.int y u::bs)) 0 s:=by
 rw [zR];refine kat_cons (SeqAt.EqAt.int_int x t y u prog w _ _ ?_)
 cases e:(x==y) with
 |true=>
  rw [e] at hq;exact kat_yes (jy (by decide) h hq)
 |false=>
  rw [e] at hq;refine kat_no ?_;exact oneLt_int hq
def Hi (t:Tr):Prop:=∃x r,t= .tup (.int x::r)
section
variable {X:Cx} {pins:List (Addr×Obj)} {σ:L2.St} {H:Hp} {s:Shared}
theorem nE (I:Inv X pins σ H s):∀ {vs:List V} {ts:List Tr} {as:List Value},TrsAt H vs ts→Vals vs as→(∀t∈ts,Hi t)→∃fs,KatTups s.heap as fs∧fs.length=as.length∧∀v∈fs,∃(x:Int) (t:Tok),v= .int x t
 |vs,[],as,h,r,_=>by
  unfold TrsAt at h;subst h;cases r;exact ⟨[], .nil,rfl,fun v m=>by cases m⟩
 |vs,t::ts,as,h,r,hh=>by
  obtain ⟨v,vr,rfl,h1,h2⟩:=h.inv
  cases r with
  |cons r1 r2=>
   obtain ⟨fs,f1,f2,f3⟩:=nE I h2 r2 fun u m=>hh u (yR _ m);obtain ⟨x,rr,rfl⟩:=hh t yO;unfold TrAt at h1;obtain ⟨a,ws,rfl,g,k⟩:=h1;cases r1;obtain ⟨y,yr,rfl,k1,k2⟩:=k.inv;unfold TrAt at k1;subst k1;obtain ⟨bs,o,n,q1,ho,hc,hd⟩:=cu I g
   cases q1 with
   |cons q1 q2=>
    obtain ⟨tk,rfl⟩:=q1;refine ⟨_,KatTups.cons ho hc hd rfl f1,by simp [f2],fun v m=> ?_⟩
    rcases yV.mp m with e|m
    · exact ⟨x,tk,e⟩
    · exact f3 v m
theorem jc {Q:VK} {a:Addr} {as:List Value} {vs:List V} {ts:List Tr} (hu:X.A.units+60 < cLine) (I:Inv X pins σ H s) (rv:Vals vs as) (hT:TrsAt H vs ts) (hlen:ts.length < 64) (hts:∀t∈ts,Hi t∧t.pure∧t.depth≤40) (hcm:∀t∈ts,∀u∈ts,Cm t u)
 (hcol:∀(E:Value→Shared→Prop) (Q':List Value→Shared→Prop),(∀h' tk,(∀b o,s.heap.get? b=some o→h'.get? b=some o)→s.heap.objs.size < h'.objs.size→Q' as {s with heap:=h',toks:=tk})→wpAny (model X.prog X.w) X.A.in1 (collect (.ref a)) Q' E s)
 (q:SrQ H ts Q):wpAny (model X.prog X.w) X.A (call (.builtin "sorted") [.ref a]) (EP X pins σ Q) X.xe s:=by
 have l1:=hT.len;have l2:=rv.length;have O:Srt.Ord fun i j=>ltT (ts.getD i .non) (ts.getD j .non):=⟨fun a b h=>dY h,fun a b c h1 h2=>lT h1 h2⟩
 have at_:∀i,i < as.length→∃t v a,ts.getD i .non=t∧t∈ts∧TrAt H v t∧RelV v a∧as.getD i Value.none=a:=fun i hi=>by
  have hi':i < ts.length:=by omega
  obtain ⟨v,e1,e2⟩:=hT.get (i:=i) (t:=ts[i]) (yN hi');obtain ⟨a,e3,e4⟩:=rv.get e1;exact ⟨ts[i],v,a,by rw [z9,yN hi'];rfl,zM hi',e2,e4,by rw [z9,e3];rfl⟩
 refine iD (κ:=tuples' true) (vs:=as) O (by omega) (fun Q' hQ'=> ?_) (fun h2 h' tk kp E' R hR=> ?_) (fun h' tk kp i j R hi hj hR=> ?_) fun p hp hup h' tk D e kp sz he=> ?_
 · exact hcol _ Q' hQ'
 · have I':Inv X pins σ H {s with heap:=h',toks:=tk}:=I.kept (t':=tk) kp;refine hZq fun q_ e_=> ?_;obtain ⟨fs,k1,k2,k3⟩:=nE I' hT rv fun t m=>(hts t m).1;subst e_;refine kat_kind (T:=Value.type "int") k1 (by omega) (fun v m=> ?_) (by decide +kernel) ?_
   · obtain ⟨x,t,rfl⟩:=k3 v m;exact .now
   · rw [show (Value.type "int" !=Value.type "tuple")=true by decide +kernel]
     exact hR
 · have I':Inv X pins σ H {s with heap:=h',toks:=tk}:=I.kept (t':=tk) kp;refine hZq fun q_ e_=> ?_;obtain ⟨t,v,a,et,mt,ht,ra,ea⟩:=at_ i hi;subst e_;refine hZq fun q_ e_=> ?_;obtain ⟨u,v',b,eu,mu,hu',rb,eb⟩:=at_ j hj;subst e_;have hc':=hcm t mt u mu;refine hZq fun q_ e_=> ?_;obtain ⟨⟨x1,r1,rfl⟩,p1,d1⟩:=hts t mt;subst e_;refine hZq fun q_ e_=> ?_;obtain ⟨⟨x2,r2,rfl⟩,p2,d2⟩:=hts u mu;subst e_;unfold TrAt at ht hu';refine hZq fun q_ e_=> ?_;obtain ⟨x0,vs0,rfl,g0,g1⟩:=ht;subst e_;refine hZq fun q_ e_=> ?_;obtain ⟨y0,ws0,rfl,g2,g3⟩:=hu';subst e_;cases ra;cases rb;refine hZq fun q_ e_=> ?_;obtain ⟨as0,o,n,q3,ho,hcl,hd'⟩:=cu I' g0;subst e_;refine hZq fun q_ e_=> ?_;obtain ⟨bs0,o',n',q4,ho',hcl',hd2⟩:=cu I' g2;subst e_;have z0:=g1.len;have z1:=g3.len;have z2:=q3.length;have z3:=q4.length;refine hZq fun q_ e_=> ?_;obtain ⟨y1,yr1,rfl,w1,w2⟩:=g1.inv;subst e_;refine hZq fun q_ e_=> ?_;obtain ⟨y2,yr2,rfl,w3,w4⟩:=g3.inv;subst e_;unfold TrAt at w1 w3;subst w1 w3
   cases q3 with
   |cons q3 q3'=>
    cases q4 with
    |cons q4 q4'=>
     obtain ⟨tk1,rfl⟩:=q3;obtain ⟨tk2,rfl⟩:=q4;unfold Tr.depth at d1;unfold Trs.depth at d1;unfold Tr.pure at p1;unfold Trs.pure at p1;unfold kas_ask;rw [ea,eb];refine kat_lt (b:=true) ho hd' ho' hd2 ?_;rw [A3,A3];have hu1:X.A.in1.in1.units+40+1 < cLine:=by show X.A.units+1+1+40+1 < cLine;omega
     have e:∀q,lexV (decide ((Value.int x1 tk1::_).toArray.size < (Value.int x2 tk2::_).toArray.size)) ((x1==x2,decide (x1 < x2))::q)=lexV (decide ((Tr.int x1::r1).length < (Tr.int x2::r2).length)) ((x1==x2,decide (x1 < x2))::q):=fun q=>by
      rw [yU,yU,←z2,←z3,z0,z1]
     by_cases ex:(x1==x2)=true
     · unfold Cm at hc';unfold Cms at hc'
       have hc2:Cms r1 r2:=by
        rcases hc' with ⟨_,c⟩|⟨n,_⟩
        · exact c
        · unfold Tre.eqT at n;rw [ex] at n;cases n
       have hx':=fG (A:=X.A.in1.in1) I' hu1 (fun d pp cc a1 a2 b1 b2=>gi I' 40 d pp cc a1 a2 b1 b2 hu1) (by omega) (.inl p1.2) hc2 w2 w4 q3' q4'
       refine uD hx' ?_;rw [e]
       have e2:lexV (decide ((Tr.int x1::r1).length < (Tr.int x2::r2).length)) ((x1==x2,decide (x1 < x2))::qs r1 r2)=ltT (ts.getD i .non) (ts.getD j .non):=by
        rw [et,eu];refine aY ?_;rw [ltT_iff];have e4:x1=x2:=beq_iff_eq.mp ex;have el:decide ((Tr.int x1::r1).length < (Tr.int x2::r2).length)=decide (r1.length < r2.length):=by simp
        rw [el];simp only [lexV,ex,if_true,eF,Tre.code,Tre.codes,LtC,LtCs,Co.num.injEq,e4,beq_self_eq_true];constructor
        · intro h;exact .inr ⟨trivial,h⟩
        · rintro (h|h)
          · exact absurd h (Int.lt_irrefl _)
          · exact h.2
       rw [e2];exact hR
     · have exf:(x1==x2)=false:=by simpa using ex
       rw [zR];refine kat_cons (SeqAt.EqAt.int_int x1 tk1 x2 tk2 X.prog X.w _ _ ?_);rw [exf];refine kat_no ?_;refine oneLt_int ?_
       have e2:decide (x1 < x2)=ltT (ts.getD i .non) (ts.getD j .non):=by
        rw [et,eu];refine aY ?_;rw [ltT_iff,decide_eq_true_iff];have ne:x1≠x2:=fun z=>ex (beq_iff_eq.mpr z);simp only [Tre.code,Tre.codes,LtC,LtCs,Co.num.injEq];constructor
        · intro h;exact .inl h
        · rintro (h|h)
          · exact h
          · exact absurd h.1 ne
       rw [e2];exact hR
 · have hin:∀i∈p.toList,i < ts.length:=fun i m=>by
    have:=zH.mp (List.Perm.mem_iff hp |>.mp m);omega
   refine ⟨.ref D,upd H D (.lst (p.toList.map fun i=>vs.getD i .non)),I.laid (t':=tk) kp sz ?_,rfl,?_⟩
   · refine ⟨?_,p.toList.map fun i=>as.getD i Value.none,e,Vals.map rv fun i m=>by have:=hin i m;omega,he⟩
     rw [yM,zq,hp.size];have:(64:Nat)≤sizeLine:=by decide +kernel
     omega
   · refine q _ _ (p.toList.map fun i=>ts.getD i .non) (I.hok.fresh sz) ?_ (TrsAt.map hT hin) fun i j t u hij e1 e2=> ?_
     · have:=List.Perm.map (fun i=>ts.getD i Tr.non) hp;rw [show as.length=ts.length by omega,dg] at this
       exact this
     · rw [yQ] at e1 e2;obtain ⟨a,ea,rfl⟩:=yS.mp e1;obtain ⟨b,eb,rfl⟩:=yS.mp e2
       have hj:j < as.length:=by
        have:=(yW.mp eb).1;rw [zq,hp.size] at this;exact this
       have:=hup i j hij hj;rw [cE,cE,←zx,←zx,ea,eb] at this;exact this
def qV:List V→Hp→VK→Prop:=fun xs H Q=>∃(l:Addr) (vs:List V) (ts:List Tr),xs= [.ref l]∧H l=some (.lst vs)∧TrsAt H vs ts∧ts.length < 64∧(∀t∈ts,Hi t∧t.pure∧t.depth≤40)∧(∀t∈ts,∀u∈ts,Cm t u)∧SrQ H ts Q
theorem call_sortedI (hu:X.A.units+60 < cLine):cB X (.builtin "sorted") qV:=by
 intro pins s σ H xs us Q I r h;obtain ⟨l,vs,ts,rfl,hl,hT,hlen,hts,hcm,q⟩:=h;obtain ⟨u,rfl,ru⟩:=cP r;cases ru;obtain ⟨as,rv,pl,_⟩:=I.list (SqL.of hl);have l1:=hT.len;have l2:=rv.length;have h64:(64:Nat)≤sizeLine:=by decide +kernel
 refine jc hu I rv hT hlen hts hcm (fun E Q' hQ'=> ?_) q;refine collect_list pl.isList ?_ (by omega)
 have:=hQ' ((s.heap.push (seqObj "list" #[] 0)).update s.heap.objs.size (Obj.mapSeq (· ++as.toArray))) s.toks (fun b o e=> ?_) ?_
 · simpa using this
 · have hlt:b < s.heap.objs.size:=Heap.lt_size e;rw [Heap.get?_update_ne _ _ _ _ (yZ hlt),Heap.get?_push_ne _ _ _ (yZ hlt)];exact e
 · rw [Heap.size_update,size_push'];exact A6 _
end
end Dj
namespace K40
open PySem L2 Mth Tre Wd Su Tw Fm
theorem fk {t u:Tr} {ts us:List Tr} (h:Cm t u) (hs:Cms ts us):Cms (t::ts) (u::us):=by
 unfold Cms;cases e:Tre.eqT t u
 · exact .inr ⟨rfl,h⟩
 · exact .inl ⟨rfl,hs⟩
theorem bE {us:List Tr}:Cms [] us:=by unfold Cms;trivial
theorem fO {a b:Int}:Cm (.int a) (.int b):=by unfold Cm;trivial
theorem e7 {ts us:List Tr} (h:Cms ts us):Cm (.tup ts) (.tup us):=by unfold Cm;exact h
theorem at_i {H:Hp} {x:Int}:TrAt H (.int x) (.int x):=by unfold TrAt;rfl
noncomputable def cT (p:Nat×Int):Tr:= .tup [.int (p.1:Int), .int p.2]
noncomputable def hcs (n:Nat) (T:Wg.Tb) (i:Nat):List (Nat×Int):=((List.range n).filter fun c=>decide (T.ln i c≠0)).map fun c=>(T.hd c,-T.ln i c)
noncomputable def cnt (n:Nat) (T:Wg.Tb) (i:Nat):List (Nat×Int):=(T.sd i,T.bot)::hcs n T i
noncomputable def wf (scs:List Int) (g:Int) (p:Nat×Int):Fr:=(fx (p.2*scs.getD p.1 0) g,fy (p.2*scs.getD p.1 0) g)
noncomputable def wT (p:Nat×Fr):Tr:= .tup [.int (p.1:Int),frT p.2]
noncomputable def gF (s:Int):List Int→Int
 | []=>s
 |x::r=>gF (Int.gcd s x:Int) r
theorem xo (s:Int) (a b:List Int):gF s (a++b)=gF (gF s a) b:=by
 induction a generalizing s with
 |nil=>rfl
 |cons x r ih=>simp only [zv,gF,ih]
theorem xm {s:Int} {a:List Int} (h:0 < s):0 < gF s a∧(gF s a).natAbs≤s.natAbs:=by
 induction a generalizing s with
 |nil=>exact ⟨h,yP _⟩
 |cons x r ih=>
  have g0:0 < Int.gcd s x:=Int.gcd_pos_of_ne_zero_left _ (by omega)
  have g1:Int.gcd s x≤s.natAbs:=Int.gcd_le_natAbs_left x (by omega)
  obtain ⟨a1,a2⟩:=ih (s:=(Int.gcd s x:Int)) (by omega)
  exact ⟨a1,yY a2 (by rw [Int.natAbs_natCast];exact g1)⟩
theorem ut {n:Nat} {T:Wg.Tb} {i:Nat} {p:Nat×Int} (h:p∈hcs n T i):∃c,c < n∧T.ln i c≠0∧p=(T.hd c,-T.ln i c):=by
 unfold hcs at h;obtain ⟨c,hc,rfl⟩:=zo.mp h;rw [zK,zH,decide_eq_true_iff] at hc;exact ⟨c,hc.1,hc.2,rfl⟩
theorem nN {n:Nat} {T:Wg.Tb} {i:Nat}:(hcs n T i).length≤n:=by
 unfold hcs;rw [yM];exact yY (zp _ _) (by rw [zJ];exact yP _)
section
variable {P:Program} {w:World} {K:PySem.W.Frag} {mg:Str→Option Value} {base:Heap} {T0:Addr}
def qE:Sp:=fun vs H Q _=>∃(D:TA) (m n:Nat) (scs:List Int) (us:List Tr) (ws:List V) (pl:Addr) (ls:List V) (T:Wg.Tb) (i:Nat) (ql:Addr),vs= [.ref D.a, .ref ql]∧Tk K D.C∧Tab D m n scs us ws pl ls T H∧H ql=some (.lst ((Wg.ls (n+2) (T.ln i)).map V.int))∧
 ∀l H' ws',H l=none→Same H H'→H' l=some (.lst ws')→TrsAt H' ws' ((hcs n T i).map cT)→Q (.ref l) H'
theorem yj:FnScope ["table","line"] ["table","line"] (ag sHco):= .of
theorem wP {f:Addr} {fd:FuncData} (F:Fun K "head_counts" "head_counts" sHco f fd) (B:Blt mg):FnOk P w K mg base CX0 1 f fd ["table","line"] (qE (K:=K)):=by
 refine F.okb yj fun vs H Q E h=> ?_;refine hZq fun q_ e_=> ?_;obtain ⟨D,m,n,scs,us,ws,pl,ls,T,i0,ql,rfl,hk,hT,hql,k⟩:=h;subst e_;refine ⟨rfl,fun cdv A outer s hr=> ?_⟩;have nd2:(["head","count"]:List Str).Nodup:=by decide +kernel
 refine ⟨_,ah (ax (aQ (NC:= ["head","count"]) (mp:= [none,none]) (g:=gTup K 2 (aV (aG 0) (aV (aG 1) gNil))) rfl (jo (k:= .lst) rfl B.zi (a0 (aP (pv 0) rfl) (a0 (pv 1) a9)))
  (fun _ _ _ _ _=>aW (n:=2) rfl (ak (pgA 0 nd2) (ak (pgA 1 nd2) aL))) (fun _ _ _ _ _=>cK (aF rL (pv 1) ac (aE _)))
  (fun _ _ _ _ _=>aU (a0 (pv 0) (a0 (c9 bq (pv 1)) a9))))),?_⟩
 have hL20:(20000:Nat)≤sizeLine:=by decide +kernel
 have n64:=hT.n64;refine iO (xs:=nv (Wg.ls n T.hd)) (ys:=(Wg.ls (n+2) (T.ln i0)).map V.int) (a:=D.ph) (b:=ql) (by rw [cj,yM,Wg.ls_len];omega) (fun Q q=>⟨_,rfl,D.a,D.C,D.dx,_,_,rfl,hT.ob,hk.cls,hk.nh,rfl,_,rfl,q⟩) (SqL.of hT.hd) (SqL.of hql) fun L nL=> ?_
 refine ⟨fun j acc H'=>Same H H'∧H' L=some (.lst acc)∧TrsAt H' acc ((((List.range j).filter fun c=>decide (T.ln i0 c≠0)).map fun c=>(T.hd c,-T.ln i0 c)).map cT),⟨aa nL,a8, .nil⟩,fun j acc H' p=>⟨SqL.of (p.1 _ _ hT.hd),SqL.of (p.1 _ _ hql)⟩,?_,?_⟩
 · rintro j Tt x y acc H' hj _ ⟨s2,hL,hA⟩ ex ey nT;rw [cj] at hj;rw [iG hj] at ex;rw [fX (by omega)] at ey
   cases ex;cases ey;have sT:=aa (o:= .tup [.int (T.hd j:Nat), .int (T.ln i0 j)]) nT;refine ⟨Tt,_,rfl,SqT.of a8,rfl,_,_,rfl,_,_,rfl,rfl,ext2,?_⟩;refine ⟨_,rfl,rfl,_,rfl,?_⟩
   have al:acc.length≤j:=by
    rw [hA.len,yM,yM];exact yY (zp _ _) (by rw [zJ];exact yP _)
   by_cases z:T.ln i0 j=0
   · rw [decide_eq_true (show V.int (T.ln i0 j)=V.int 0 by rw [z])]
     refine iteF ?_;refine CompS.mk (by rw [cj];exact hj) ⟨s2.trans sT,sT _ _ hL,?_⟩
     rw [zO,zF];have:(List.filter (fun c=>decide (T.ln i0 c≠0)) [j])= []:=by simp [z]
     rw [this,List.append_nil];exact hA.mono (Kd.of_same sT)
   · rw [decide_eq_false (show¬V.int (T.ln i0 j)=V.int 0 from fun e=>z (V.int.inj e))];refine iteT ?_;refine ⟨_,rfl,_,rfl,_,rfl,two,fun t nt=> ?_⟩;have st:=aa (o:= .tup [.int (T.hd j:Nat), .int (-T.ln i0 j)]) nt;refine CompN.mk (by rw [cj];exact hj) (by omega) (st _ _ (sT _ _ hL)) ⟨aq nL ((s2.trans sT).trans st),a8,?_⟩
     rw [zO,zF];have e1:(List.filter (fun c=>decide (T.ln i0 c≠0)) [j])= [j]:=by simp [z]
     rw [e1,z4,z4];have kd:=Kd.upd (ys:=acc++ [.ref t]) (st _ _ (sT _ _ hL));refine TrsAt.app (.cons ?_ .nil) ((hA.mono (Kd.of_same (sT.trans st))).mono kd);exact (c6 (a:= .int (T.hd j:Nat)) (b:= .int (-T.ln i0 j)) a8 at_i at_i).mono kd
 · rintro acc H2 ⟨s2,hL,hA⟩;rw [cj] at hA;exact k L H2 acc nL s2 hL hA
def pU:Sp:=fun vs H Q _=>∃(D:TA) (m n:Nat) (scs:List Int) (us:List Tr) (ws:List V) (pl:Addr) (ls:List V) (T:Wg.Tb) (lc:Addr) (wc:List V) (cs:List (Nat×Int)) (g:Int),vs= [.ref D.a, .ref lc, .int g]∧Tk K D.C∧Tab D m n scs us ws pl ls T H∧H lc=some (.lst wc)∧TrsAt H wc (cs.map cT)∧
 (∀p∈cs,p.1 < m∧Big p.2)∧(∀s∈scs,Big s)∧0 < g∧Big g∧cs.length < 64∧
 ∀l H' ws2 us2,H l=none→Same H H'→H' l=some (.lst ws2)→TrsAt H' ws2 us2→us2.Perm ((cs.map fun p=>(p.1,wf scs g p)).map wT)→(∀(i j:Nat) (t u:Tr),i≤j→us2[i]?=some t→us2[j]?=some u→ltT u t=false)→Q (.ref l) H'
theorem xZ:FnScope ["table","counts","bottom"] ["table","counts","bottom"] (ag sWby):= .of
theorem wu {f fF:Addr} {fd dF:FuncData} (F:Fun K "weights_by" "weights_by" sWby f fd) (B:Blt mg)
 (GF:FnOk P w K mg base CX0 2 fF dF ["top","bottom"] mM) (kF:PySem.W.keepIn K (.ref fF)=true) (bF:Binds K dF ["top","bottom"] []) (mF:mg "fraction"=some (.ref fF)):
 FnOk P w K mg base CX0 3 f fd ["table","counts","bottom"] (pU (K:=K)):=by
 refine F.okb xZ fun vs H Q E h=> ?_;refine hZq fun q_ e_=> ?_;obtain ⟨D,m,n,scs,us,ws,pl,ls,T,lc,wc,cs,g,rfl,hk,hT,hlc,hwc,hcs,hsc,g0,gb,c64,k⟩:=h;subst e_;refine ⟨rfl,fun cdv A outer s hr=> ?_⟩;have hu60:(A.deeper (PyProof.Rows.envOfC (Str.ofString "weights_by") (ag sWby) s.heap.objs.size f cdv)).units+60 < cLine:=by have:=hr.units;omega
 have nd4:(["place","count","table","bottom"]:List Str).Nodup:=by decide +kernel
 refine ⟨_,ah (ax (aB (Dj.call_sortedI hu60) rfl B.so PyProof.Rows.boot_sorted (a0 (aQ (NC:= ["place","count","table","bottom"]) (mp:= [none,none,some 0,some 2]) (g:=gTup K 2 (aV (aG 0) (aV (aG 1) gNil))) rfl (aO (pv 1))
  (fun _ _ _ _ _=>aW (n:=2) rfl (ak (pgA 0 nd4) (ak (pgA 1 nd4) aL))) (fun _ _ _ _ _=>aN)
  (fun _ _ _ _ _=>aU (a0 (pv 0) (a0 (ai GF hr rfl mF kF bF .nil ar (a0 (aj aX (pv 1) (ao (r:=rIxL K) aw (cy (K:=K) rfl (pv 2) rfl) (pv 0) fun _ _=>rfl)) (a0 (pv 3) a9))) a9)))) a9))),?_⟩
 have hL20:(20000:Nat)≤sizeLine:=by decide +kernel
 have wl:=hwc.len;rw [yM] at wl;refine j0 ?_;refine fN (K':=K) (xs:=wc) (rest:= [some (.ref D.a),some (.int g)]) (a:=lc) rfl (fun Q q=>⟨_,rfl,q⟩) (SqL.of hlc) fun L nL=> ?_;refine ⟨fun j acc H'=>Same H H'∧H' L=some (.lst acc)∧TrsAt H' acc (((cs.take j).map fun p=>(p.1,wf scs g p)).map wT),⟨aa nL,a8,by rw [zG];exact .nil⟩,fun j acc H' p=>SqL.of (p.1 _ _ hlc),?_,?_⟩
 · rintro j z acc H' hj ⟨s2,hL,hA⟩ ez;obtain ⟨t',et',ht'⟩:=(hwc.mono (Kd.of_same s2)).get' ez;rw [yQ] at et';refine hZq fun q_ e_=> ?_;obtain ⟨⟨pc,c⟩,eq,rfl⟩:=yS.mp et';subst e_;refine hZq fun q_ e_=> ?_;obtain ⟨T',x,y,rfl,hT',hx,hy⟩:=bX ht';subst e_;unfold TrAt at hx hy;subst hx hy;obtain ⟨pm,cb⟩:=hcs _ (yT eq);have tb2:=hT.same s2;have sl:=hT.sl
   have esc:scs[pc]?=some (scs.getD pc 0):=by
    rw [z9,yN (by omega)]
    rfl
   refine ⟨T',_,_,rfl,SqT.of hT',?_⟩;refine di ?_;refine ⟨_,rfl,_,rfl,_,rfl,D.a,D.C,D.dx,_,_,rfl,tb2.ob,hk.cls,hk.ns,rfl,_,rfl,D.psc,_,(pc:Int), .int (scs.getD pc 0),rfl,rfl,SqL.of tb2.sc,aJ (by rw [yQ,esc];rfl),c,_,rfl,rfl,⟨cb,hsc _ (yT esc)⟩,_,rfl,c*scs.getD pc 0,g,rfl,g0,gb,fun q nq=> ?_⟩
   have sq:=aa (o:= .tup [.int (fx (c*scs.getD pc 0) g), .int (fy (c*scs.getD pc 0) g)]) nq;refine ⟨two,fun t nt=> ?_⟩;have st:=aa (o:= .tup [.int (pc:Int), .ref q]) nt;refine CompN.mk hj (by rw [hA.len,yM,yM,zh];omega) (st _ _ (sq _ _ hL)) ⟨aq nL ((s2.trans sq).trans st),a8,?_⟩
   have kd:=Kd.upd (ys:=acc++ [.ref t]) (st _ _ (sq _ _ hL));rw [av eq,z4,z4];refine TrsAt.app (.cons ?_ .nil) ((hA.mono (Kd.of_same (sq.trans st))).mono kd);have hq:TrAt (upd (upd H' q (.tup [.int (fx (c*scs.getD pc 0) g), .int (fy (c*scs.getD pc 0) g)])) t (.tup [.int (pc:Int), .ref q])) (.ref q) (frT (wf scs g (pc,c))):=c6 (st _ _ a8) at_i at_i;exact (c6 (a:= .int (pc:Int)) (b:=frT (wf scs g (pc,c))) a8 at_i hq).mono kd
 · rintro acc H2 ⟨s2,hL,hA⟩;rw [wl,zg] at hA;refine ⟨L,acc,_,rfl,hL,hA,by rw [yM,yM];exact c64,fun t mt=> ?_,fun t mt u mu=> ?_,fun D2 ws2 us2 nD2 hp hws2 hup=> ?_⟩
   · obtain ⟨q,mq,rfl⟩:=zo.mp mt;refine ⟨⟨_,_,rfl⟩,?_,?_⟩
     · unfold wT frT Tr.pure Trs.pure Trs.pure Tr.pure Trs.pure Tr.pure Trs.pure;simp [Trs.pure,Tr.pure]
     · unfold wT frT;simp [Tr.depth,Trs.depth]
   · obtain ⟨q,mq,rfl⟩:=zo.mp mt;obtain ⟨q',mq',rfl⟩:=zo.mp mu;exact e7 (fk fO (fk (e7 (fk fO (fk fO bE))) bE))
   · have sD:=aa (o:= .lst ws2) nD2;exact k D2 _ ws2 us2 (s2.free nD2) (s2.trans sD) a8 (hws2.mono (Kd.of_same sD)) hp hup
end
end K40
namespace Tre
open PySem PySem.Spec PyProof.Rows L2
theorem bn {M:Model} {A:Around} {E:Value→Shared→Prop} {s:Shared} {l:Addr} {items:Array Value} {n:Nat} {Q:Array Value→Shared→Prop} (hl:s.heap.get? l=some {cls:= .type "list",data:= .seq items n}) (h:Q items s):wpAny M A (Builtin.List.listItems (.ref l)) Q E s:=by
 unfold Builtin.List.listItems;refine wpAny_bind ?_;unfold seqItems?;refine wpAny_bind (wpAny_load hl ?_);exact wpAny_pure (wpAny_pure h)
theorem jv (l b:Addr) (items items2:Array Value) (n n2:Nat):∀(k i:Nat) (q:List (Bool×Bool)),items.size - i=k→
 Meets (Builtin.«list.__eq__.loop» {pos:= [Value.ref l,Value.ref b,rawInt (i:Int),rawInt 0]}) (fun A R s=>s.heap.get? l=some {cls:= .type "list",data:= .seq items n}∧s.heap.get? b=some {cls:= .type "list",data:= .seq items2 n2}∧
  bU A.in1 s (items.toList.drop i) (items2.toList.drop i) q∧R (.ok (.ret (.bool (lexV (decide (items.size < items2.size)) q)))) s):=by
 intro k
 induction k with
 |zero=>
  intro i q hk prog w A R s h;refine hZq fun q_ e_=> ?_;obtain ⟨hl,hb,hx,h⟩:=h;subst e_;have e1:items[i]?=none:=by simp;omega
  have d1:items.toList.drop i= []:=by simp;omega
  rw [d1] at hx
  have hq:q= []:=by
   cases h2:items2.toList.drop i<;>(rw [h2] at hx;unfold bU at hx;exact hx)
  subst hq;refine wpAny_bind (bn hl (wpAny_bind (bn hb ?_)));show wpAny _ _ (match (items[i]?,items2[i]?) with|(some x,some y)=>_|_=>_) _ _ _
  rw [e1];refine wpAny_bind (bn hl (wpAny_bind (bn hb ?_)));exact wpAny_pure h
 |succ k ih=>
  intro i q hk prog w A R s h;refine hZq fun q_ e_=> ?_;obtain ⟨hl,hb,hx,h⟩:=h;subst e_;have hi:i < items.size:=by omega
  have d1:items.toList.drop i=items[i]::items.toList.drop (i+1):=by
   rw [List.drop_eq_getElem_cons (by simpa using hi)]
   simp
  refine wpAny_bind (bn hl (wpAny_bind (bn hb ?_)));show wpAny _ _ (match (items[i]?,items2[i]?) with|(some x,some y)=>_|_=>_) _ _ _
  rw [d1] at hx;by_cases hj:i < items2.size
  · have d2:items2.toList.drop i=items2[i]::items2.toList.drop (i+1):=by
     rw [List.drop_eq_getElem_cons (by simpa using hj)]
     simp
    rw [d2] at hx;rw [zQ hi,zQ hj]
    cases q with
    |nil=>exact hx.elim
    |cons p q=>
     obtain ⟨e,lo⟩:=p;obtain ⟨he,hlt,hlx⟩:=hx;refine wpAny_bind (he prog w _ _ ?_)
     cases e with
     |true=>
      refine wpAny_pure ⟨plainId_quiet MeetsSeq3.plain_eq_loop _,codeAny_builtin MeetsSeq3.entry_eq_loop ?_⟩;rw [Around.under_plainId MeetsSeq3.plain_eq_loop _];have:=ih (i+1) q (by omega) prog w A R s ⟨hl,hb,hlx rfl,h⟩
      exact this
     |false=>
      refine wpAny_bind (bn hl (wpAny_bind (bn hb ?_)));show wpAny _ _ (match items[i]?,items2[i]?,CmpOp.Lt with|some _,some _,CmpOp.Eq=>_|some _,some _,CmpOp.NotEq=>_|some x,some y,x_1=>_|_,_,_=>_) _ _ _
      rw [zQ hi,zQ hj];refine wpAny_bind (hlt rfl prog w _ _ ?_);exact wpAny_pure h
  · have e2:items2[i]?=none:=by simp;omega
    have d2:items2.toList.drop i= []:=by simp;omega
    rw [d2] at hx;have hq:q= []:=by unfold bU at hx;exact hx
    subst hq;rw [zQ hi,e2];refine wpAny_bind (bn hl (wpAny_bind (bn hb ?_)));exact wpAny_pure h
theorem k6 (l b:Addr) (items items2:Array Value) (n n2:Nat) (q:List (Bool×Bool)):
 Meets (Builtin.«list.__lt__» ⟨[.ref l, .ref b],[]⟩)
  (fun A R s=>s.heap.get? l=some {cls:= .type "list",data:= .seq items n}∧s.heap.get? b=some {cls:= .type "list",data:= .seq items2 n2}∧
   bU A.in1 s items.toList items2.toList q∧R (.ok (.ret (.bool (lexV (decide (items.size < items2.size)) q)))) s):=by
 intro prog w A R s h;obtain ⟨hl,hb,hx,h⟩:=h;refine wpAny_bind (m:=slotArgs _ _ _) (wpAny_pure ?_);refine wpAny_bind (wpAny_isInstance (T:="list") (b:=true) ⟨_,hb,rfl⟩ (by first|exact AutoSeq1.sub_list_list|exact PySem.F.sub_list_list|rfl) ?_)
 refine wpAny_pure ⟨plainId_quiet MeetsSeq3.plain_eq_loop _,codeAny_builtin MeetsSeq3.entry_eq_loop ?_⟩;rw [Around.under_plainId MeetsSeq3.plain_eq_loop _];exact jv l b items items2 n n2 _ 0 q rfl prog w A R s ⟨hl,hb,by simpa using hx,h⟩
open PySem PySem.Spec PySem.W PyProof.Rows L2 Srt
section
variable {X:Cx}
end
open PySem PySem.Spec PySem.W PyProof.Rows L2 Srt
theorem oM {A:Around} {s:Shared} {l b:Addr} {items items2:Array Value} {n n2:Nat} {q:List (Bool×Bool)} (hl:s.heap.get? l=some {cls:= .type "list",data:= .seq items n}) (hb:s.heap.get? b=some {cls:= .type "list",data:= .seq items2 n2}) (hu:A.units < cLine)
 (hx:bU A.in1 s items.toList items2.toList q):LtAt A s (.ref l) (.ref b) (lexV (decide (items.size < items2.size)) q):=by
 intro prog w E Q h
 exact richCompare_meets_room (op:= .Lt) ⟨_,hl,rfl⟩ ⟨_,hb,rfl⟩ PySem.F.slot_list_lt PySem.F.entry_list_lt (PySem.F.args_list_lt_2 _ _) (k6 l b items items2 n n2 q)
  ⟨hl,hb,hx,show Value.bool (lexV (decide (items.size < items2.size)) q)≠Value.notImplemented∧Q (.bool (lexV (decide (items.size < items2.size)) q)) s from ⟨(fun x=>nomatch x),h⟩⟩ hu
variable {X:Cx}
def rLt2:R2:=fun x y H Q=>∃(l b:Addr) (u v:Int),x= .ref l∧y= .ref b∧H l=some (.lst [.int u, .int v])∧H b=some (.lst [.int 0, .int 0])∧Q (.bl (decide (u < 0∨(u=0∧v < 0)))) H
theorem wj (hu:X.A.units+50 < cLine):OpR X (compareOp .Lt) rLt2:=by
 intro pins s σ H x y vx vy Q I rx ry h;obtain ⟨l,b,u,v,rfl,rfl,hl,hb,q⟩:=h;cases rx;cases ry;obtain ⟨its,n,r,e,z⟩:=I.lst hl;obtain ⟨its2,n2,r2,e2,z2⟩:=I.lst hb;have hu1:X.A.in1.units+40+1 < cLine:=by show X.A.units+1+40+1 < cLine;omega
 have at_:∀a c:Int,TrsAt H [.int a, .int c] [.int a, .int c]:=fun a c=> .cons (by unfold TrAt;rfl) (.cons (by unfold TrAt;rfl) .nil)
 have cm:∀a c:Int,Cm (.int a) (.int c):=fun a c=>by unfold Cm;trivial
 have cms:Cms [.int u, .int v] [.int 0, .int 0]:=by
  unfold Cms;cases k:Tre.eqT (.int u) (.int 0)
  · exact .inr ⟨rfl,cm _ _⟩
  · refine .inl ⟨rfl,?_⟩;unfold Cms;cases k2:Tre.eqT (.int v) (.int 0)
    · exact .inr ⟨rfl,cm _ _⟩
    · exact .inl ⟨rfl,by unfold Cms;trivial⟩
 have hx:=fG (A:=X.A.in1) I hu1 (fun d pp cc a1 a2 b1 b2=>gi I 40 d pp cc a1 a2 b1 b2 hu1) (by simp [Trs.depth,Tr.depth]) (.inl (by simp [Trs.pure,Tr.pure])) cms (at_ u v) (at_ 0 0) r r2
 have:=oM (A:=X.A) e e2 (by omega) (by simpa using hx)
 have l2:=r.length;have l3:=r2.length
 have ev:lexV (decide (its.toArray.size < its2.toArray.size)) (qs [.int u, .int v] [.int 0, .int 0])=decide (u < 0∨(u=0∧v < 0)):=by
  have e0:decide (its.toArray.size < its2.toArray.size)=decide (([.int u, .int v]:List Tr).length < ([.int 0, .int 0]:List Tr).length):=by
   rw [yU,yU,←l2,←l3];rfl
  rw [e0];refine aY ?_;rw [eF,decide_eq_true_iff];simp [codes,code,LtCs,LtC]
 rw [ev] at this;exact this X.prog X.w X.xe _ ⟨.bl _,H,I,rfl,q⟩
end Tre
namespace K40
open PySem L2 Mth Tre Wd Su Tw Fm
noncomputable def gcn (scs:List Int) (cs:List (Nat×Int)):Int:=gF 0 (cs.map fun p=>p.2*scs.getD p.1 0)
noncomputable def wts (scs:List Int) (cs:List (Nat×Int)):List (Nat×Fr):=cs.map fun p=>(p.1,wf scs (gcn scs cs) p)
def Ngv (n:Nat) (T:Wg.Tb) (i:Nat):Prop:=T.ln i n < 0∨(T.ln i n=0∧T.ln i (n+1) < 0)
def tD (H H':Hp) (l:Addr) (ws2:List V) (us2:List Tr) (wl:List (Nat×Fr)):Prop:=
 H' l=some (.lst ws2)∧TrsAt H' ws2 us2∧us2.Perm (wl.map wT)∧∀(i j:Nat) (t u:Tr),i≤j→us2[i]?=some t→us2[j]?=some u→ltT u t=false
theorem Okt.head {m n:Nat} {L:Nat→Nat→Int} {T:Wg.Tb} (h:Okt m n L T) {i c:Nat} (hi:i < m) (hs:T.sd i < m) (hc:c < n) (z:T.ln i c≠0):T.hd c < m:=
 Classical.byContradiction fun y=>z (h.st c hc hc (by omega) i hi hs)
theorem Wb.cnts {m n C:Nat} {L:Nat→Nat→Int} {scs:List Int} {T:Wg.Tb} (h:Wb m n L scs C) (O:Okt m n L T) {i:Nat} (hi:i < m) (hs:T.sd i < m):∀p∈cnt n T i,p.1 < m∧p.2.natAbs≤C:=by
 obtain ⟨b1,b2⟩:=h.bnd O.inv O.pm;intro p mp;unfold cnt at mp;rcases yV.mp mp with rfl|mp
 · exact ⟨hs,b1⟩
 · obtain ⟨c,hc,hz,rfl⟩:=ut mp;refine ⟨O.head hi hs hc hz,?_⟩;show (-T.ln i c).natAbs≤C;rw [A9];exact b2 i c hi (by omega)
theorem Wb.gcn {m n C:Nat} {L:Nat→Nat→Int} {scs:List Int} {T:Wg.Tb} (h:Wb m n L scs C) (sl:scs.length=m) (O:Okt m n L T) {i:Nat} (hi:i < m) (hs:T.sd i < m):0 < K40.gcn scs (cnt n T i)∧(K40.gcn scs (cnt n T i)).natAbs≤C*C:=by
 obtain ⟨b1,b2⟩:=h.bnd O.inv O.pm;unfold K40.gcn cnt;simp only [zc,gF]
 have hsc:scs.getD (T.sd i) 0∈scs:=by
  rw [z9,yN (by omega)]
  exact zM _
 obtain ⟨s0,s1⟩:=h.sc _ hsc;have p0:0 < T.bot*scs.getD (T.sd i) 0:=Int.mul_pos O.inv.pos s0
 have e:(Int.gcd 0 (T.bot*scs.getD (T.sd i) 0):Int)=T.bot*scs.getD (T.sd i) 0:=by
  rw [Int.gcd_zero_left];omega
 rw [e];obtain ⟨a1,a2⟩:=xm (a:=(hcs n T i).map fun p=>p.2*scs.getD p.1 0) p0;refine ⟨a1,yY a2 ?_⟩;rw [zr];exact zX b1 s1
theorem big2 {C:Nat} {x:Int} (h:x.natAbs≤C*C) (hb:C < lim):Big x:=by
 exact z6 h (z6 (zX (Nat.le_of_lt hb) (Nat.le_of_lt hb)) (z6 (Nat.le_of_eq (Nat.pow_add 2 2600 2600).symm) (Nat.pow_lt_pow_right (by decide) (by decide))))
section
variable {P:Program} {w:World} {K:PySem.W.Frag} {mg:Str→Option Value} {base:Heap} {T0:Addr}
def pV:Sp:=fun vs H Q _=>∃(D:TA) (m n C:Nat) (scs:List Int) (us:List Tr) (ws:List V) (pl:Addr) (ls:List V) (L:Nat→Nat→Int) (T:Wg.Tb) (i:Nat),vs= [.ref D.a, .int (i:Int)]∧Tk K D.C∧Tab D m n scs us ws pl ls T H∧Wb m n L scs C∧Okt m n L T∧i < m∧T.sd i < m∧n < 60∧
 ∀l H' ws2 us2,H l=none→Same H H'→tD H H' l ws2 us2 (wts scs (cnt n T i))→Q (.ref l) H'
theorem scWag:FnScope ["table","at","counts","shared","place","count"] ["table","at"] (ag sWag):= .of
theorem wv {f fH fC fW:Addr} {fd dH fdC dW:FuncData} (F:Fun K "weights_against" "weights_against" sWag f fd) (B:Blt mg)
 (GH:FnOk P w K mg base CX0 1 fH dH ["table","line"] (qE (K:=K))) (kH:PySem.W.keepIn K (.ref fH)=true) (bH:Binds K dH ["table","line"] []) (mH:mg "head_counts"=some (.ref fH))
 (FC:Fun K "common_divisor" "common_divisor" sCd fC fdC) (bC:Binds K fdC ["one","other"] []) (mC:mg "common_divisor"=some (.ref fC))
 (GW:FnOk P w K mg base CX0 3 fW dW ["table","counts","bottom"] (pU (K:=K))) (kW:PySem.W.keepIn K (.ref fW)=true) (bW:Binds K dW ["table","counts","bottom"] []) (mW:mg "weights_by"=some (.ref fW)):
 FnOk P w K mg base CX0 4 f fd ["table","at"] (pV (K:=K)):=by
 have GC:FnOk P w K mg base CX0 1 fC fdC ["one","other"] spCd:=jU FC B;refine F.okb scWag fun vs H Q E h=> ?_;refine hZq fun q_ e_=> ?_;obtain ⟨D,m,n,C,scs,us,ws,pl,ls,L,T,i,rfl,hk,hT,hW,hO,hi,hs,hn60,k⟩:=h;subst e_;refine ⟨rfl,fun cdv A outer s hr=> ?_⟩;have hr1:Room 1 _:=hr.mono (by decide)
 refine ⟨_,ae (psA 2 scWag.nd (aj eQ (bO (a0 (aU (a0 (ao aw (aP (pv 0) rfl) (pv 1) fun _ _=>rfl) (a0 (aP (pv 0) rfl) a9))) a9)) (ai GH hr1 rfl mH kH bH .nil ar (a0 (pv 0) (a0 (ao aw (aP (pv 0) rfl) (pv 1) fun _ _=>rfl) a9)))))
  (ae (psA 3 scWag.nd ac)
  (ae (cg PassesOwn.never rfl (aO (pv 2)) (aW rfl (ak (pgA 4 scWag.nd) (ak (pgA 5 scWag.nd) aL)))
   (ah (psA 3 scWag.nd (ai GC hr1 rfl mC FC.kp bC .nil ar (a0 (pv 3) (a0 (aj aX (pv 5) (ao aw (aP (pv 0) rfl) (pv 4) fun _ _=>rfl)) a9))))))
  (ah (ax (ai GW hr rfl mW kW bW .nil ar (a0 (pv 0) (a0 (pv 2) (a0 (pv 3) a9)))))))),?_⟩
 have hL20:(20000:Nat)≤sizeLine:=by decide +kernel
 have n64:=hT.n64;have sl:=hT.sl;refine hZq fun q_ e_=> ?_;obtain ⟨q,eq,hq,_,_⟩:=hT.ro.2 i hi;subst e_;obtain ⟨b1,b2⟩:=hW.bnd hO.inv hO.pm;refine ⟨_,rfl,D.a,D.C,D.dx,_,_,rfl,hT.ob,hk.cls,hk.nd,rfl,_,rfl,D.pss,_,(i:Int),_,rfl,rfl,SqL.of hT.sd,aJ (iG hi),_,rfl,D.a,D.C,D.dx,_,_,rfl,hT.ob,hk.cls,hk.nb,rfl,two,fun t nt=> ?_⟩;have sT:=aa (o:= .tup [.int (T.sd i:Nat), .int T.bot]) nt;refine ⟨(by show 1≤sizeLine;decide),fun l1 nl1=> ?_⟩
 have sl1:=aa (o:= .lst [.ref t]) nl1;have tb1:=(hT.same sT).same sl1;refine ⟨_,rfl,_,rfl,D.a,D.C,D.dx,_,_,rfl,tb1.ob,hk.cls,hk.nl,rfl,_,rfl,pl,_,(i:Int),_,rfl,rfl,SqL.of tb1.li,aJ eq,?_⟩;refine ⟨D,m,n,scs,us,ws,pl,ls,T,i,q,rfl,hk,tb1,sl1 _ _ (sT _ _ hq),fun lh H2 wh nlh s2 hlh hwh=> ?_⟩;have whl:=hwh.len;rw [yM] at whl;have hcl:=nN (n:=n) (T:=T) (i:=i);refine ⟨l1,lh,[.ref t],wh,rfl,rfl,s2 _ _ a8,hlh,by show 1+wh.length≤sizeLine;omega,fun lc nlc=> ?_⟩
 have s3:=aa (o:= .lst ([.ref t]++wh)) nlc;have tb3:=(tb1.same s2).same s3;have sAll:Same H (upd H2 lc (.lst ([.ref t]++wh))):=((sT.trans sl1).trans s2).trans s3
 have hc3:TrsAt (upd H2 lc (.lst ([.ref t]++wh))) ([.ref t]++wh) ((cnt n T i).map cT):=by
  unfold cnt;rw [zc];refine .cons ?_ (hwh.mono (Kd.of_same s3));exact c6 (a:= .int (T.sd i:Nat)) (b:= .int T.bot) (s3 _ _ (s2 _ _ (sl1 _ _ a8))) at_i at_i
 obtain ⟨H3,eH3⟩:∃H3,H3=upd H2 lc (.lst ([.ref t]++wh)):=⟨_,rfl⟩;have hlc:H3 lc=some (.lst ([.ref t]++wh)):=by rw [eH3];exact a8
 rw [←eH3] at hc3 tb3 sAll ⊢;obtain ⟨wc,ewc⟩:∃wc,wc=([.ref t]++wh:List V):=⟨_,rfl⟩;rw [←ewc] at hlc hc3;have wcl:=hc3.len;rw [yM] at wcl;have hcn:=hW.cnts hO hi hs;obtain ⟨g0,g1⟩:=hW.gcn sl hO hi hs;refine ⟨_,rfl,lc,rfl,⟨_,SqL.of hlc⟩,?_⟩;refine e5 (xs:=wc) (fun j σ H'=>H'=H3∧∃v4 v5:Option V,σ= [some (.ref D.a),some (.int (i:Int)),some (.ref lc),some (.int (gF 0 (((cnt n T i).take j).map fun p=>p.2*scs.getD p.1 0))),v4,v5]) ⟨rfl,none,none,rfl⟩ (fun j σ H' _ p=>by rw [p.1];exact SqL.of hlc) ?_ ?_
 · rintro j x σ H1 ex ⟨rfl,v4,v5,rfl⟩;obtain ⟨t',et,ht⟩:=hc3.get' ex;rw [yQ] at et;refine hZq fun q_ e_=> ?_;obtain ⟨⟨pc,c⟩,ep,rfl⟩:=yS.mp et;subst e_;refine hZq fun q_ e_=> ?_;obtain ⟨rf,x1,y1,rfl,hrf,hx,hy⟩:=bX ht;subst e_;unfold TrAt at hx hy;subst hx hy;obtain ⟨pm,cb⟩:=hcn _ (yT ep)
   have esc:scs[pc]?=some (scs.getD pc 0):=by
    rw [z9,yN (show pc < scs.length by omega)]
    rfl
   obtain ⟨s0,s1⟩:=hW.sc _ (yT esc);refine ⟨rf,_,rfl,SqT.of hrf,rfl,_,_,rfl,_,_,rfl,rfl,?_⟩;refine ⟨_,rfl,_,rfl,_,rfl,D.a,D.C,D.dx,_,_,rfl,tb3.ob,hk.cls,hk.ns,rfl,_,rfl,D.psc,_,(pc:Int), .int (scs.getD pc 0),rfl,rfl,SqL.of tb3.sc,aJ (by rw [yQ,esc];rfl),c,_,rfl,rfl,⟨cG cb hW.big,cG s1 hW.big⟩,_,_,rfl,?_⟩
   refine ⟨rfl,some (.int (pc:Int)),some (.int c),?_⟩;rw [av ep,z4,xo];rfl
 · rintro σ H1 ⟨rfl,v4,v5,rfl⟩;rw [wcl,zg];refine ⟨_,rfl,_,rfl,_,rfl,D,m,n,scs,us,ws,pl,ls,T,lc,wc,cnt n T i,gcn scs (cnt n T i),rfl,hk,tb3,hlc,hc3,fun p mp=>⟨(hcn p mp).1,cG (hcn p mp).2 hW.big⟩,fun x mx=>cG (hW.sc x mx).2 hW.big,g0,big2 g1 hW.big,?_,fun l H' ws2 us2 nl s4 h1 h2 h3 h4=> ?_⟩
   · unfold cnt;rw [za];omega
   · exact k l H' ws2 us2 (sAll.free nl) (sAll.trans s4) ⟨h1,h2,h3,h4⟩
def ButY (T0:Addr) (D:TA) (H H':Hp):Prop:=∀x o,x≠T0→x≠D.a→x≠D.pss→x≠D.ph→H x=some o→H' x=some o
theorem ButY.trans {T0:Addr} {D:TA} {H H1 H2:Hp} (a:ButY T0 D H H1) (b:ButY T0 D H1 H2):ButY T0 D H H2:=fun x o h0 h1 h2 h3 e=>b x o h0 h1 h2 h3 (a x o h0 h1 h2 h3 e)
theorem ButY.of_same {T0:Addr} {D:TA} {H H':Hp} (s:Same H H'):ButY T0 D H H':=fun x o _ _ _ _ e=>s _ _ e
theorem ButY.of_x {T0:Addr} {D:TA} {H H':Hp} (s:ButX D H H'):ButY T0 D H H':=fun x o _ h1 h2 h3 e=>s x o h1 h2 h3 e
theorem ButY.of_t {T0:Addr} {D:TA} {H H':Hp} (s:ButT T0 H H'):ButY T0 D H H':=fun x o h0 _ _ _ e=>s x o h0 e
theorem Lm.same {T0:Addr} {H H':Hp} (s:Same H H') (h:Lm T0 H):Lm T0 H':=by
 rcases h with h|⟨c,h,h2⟩
 · exact .inl (s _ _ h)
 · exact .inr ⟨c,s _ _ h,s _ _ h2⟩
theorem Lm.butX {T0:Addr} {D:TA} {m n:Nat} {scs:List Int} {us:List Tr} {ws:List V} {pl:Addr} {ls:List V} {T:Wg.Tb} {H H':Hp} (t:Tab D m n scs us ws pl ls T H) (b:ButX D H H') (h:Lm T0 H):Lm T0 H':=by
 have k:∀ {x:Addr} {o:HO},H x=some o→(∀C dx fs,o≠ .ins C dx fs)→(∀xs,o≠ .lst xs)→H' x=some o:=fun {x o} e h1 h2=>by
  refine b x o (fun z=> ?_) (fun z=> ?_) (fun z=> ?_) e
  · rw [z,t.ob] at e;exact h1 _ _ _ (zb e).symm
  · rw [z,t.sd] at e;exact h2 _ (zb e).symm
  · rw [z,t.hd] at e;exact h2 _ (zb e).symm
 rcases h with h|⟨c,h,h2⟩
 · exact .inl (k h (by intro a b c z;cases z) (by intro a z;cases z))
 · exact .inr ⟨c,k h (by intro a b c z;cases z) (by intro a z;cases z),k h2 (by intro a b c z;cases z) (by intro a z;cases z)⟩
theorem Lm.tbl {T0:Addr} {H:Hp} (h:Lm T0 H):∃ps,H T0=some (.tbl ps):=h.tb
theorem rW {m:Nat} {f:Nat→Nat}:nv (Wg.ls m f)=(Wg.ls m fun i=>((f i:Nat):Int)).map V.int:=by
 unfold nv Wg.ls;rw [Ah,Ah];rfl
theorem gz {m i:Nat} {f:Nat→Int} (h:i < m):(Wg.ls m f).getD i 0=f i:=by
 rw [z9,Wg.ls_at h];rfl
theorem cut2 {n:Nat} {f:Nat→Int}:cutV ((Wg.ls (n+2) f).map V.int) (some (-2)) none= [.int (f n), .int (f (n+1))]:=by
 have l:((Wg.ls (n+2) f).map V.int).length=n+2:=by rw [yM,Wg.ls_len]
 have h1:HT.sIx (n+2) 0 (some (-2))=n:=by
  show (if (-2:Int) < 0 then ((-2:Int)+((n+2:Nat):Int)).toNat else min (-2:Int).toNat (n+2))=n;rw [if_pos (by decide)]
  omega
 have h2:HT.sIx (n+2) (n+2) none=n+2:=rfl;unfold cutV;rw [l,h1,h2];refine List.ext_getElem? fun i=> ?_;rw [List.getElem?_take,List.getElem?_drop,yQ];by_cases hi:i < 2
 · rw [if_pos (by omega),Wg.ls_at (by omega)]
   rcases Nat.lt_or_ge i 1 with z|z
   · have:i=0:=by omega
     subst this;rfl
   · have:i=1:=by omega
     subst this;rfl
 · rw [if_neg (by omega)]
   exact (A8 (by simp;omega)).symm
instance {n:Nat} {T:Wg.Tb} {i:Nat}:Decidable (Ngv n T i):=by unfold Ngv;infer_instance
def qw (T0:Addr):Sp:=fun vs H Q _=>∃(D:TA) (m n C:Nat) (scs:List Int) (us:List Tr) (ws:List V) (pl:Addr) (ls:List V) (L:Nat→Nat→Int) (T:Wg.Tb),vs= [.ref D.a]∧Tk K D.C∧Tab D m n scs us ws pl ls T H∧Wb m n L scs C∧Okt m n L T∧Lm T0 H∧n < 60∧
 (∀pl' ls' T' H',ButY T0 D H H'→Lm T0 H'→Tab D m n scs us ws pl' ls' T' H'→Okt m n L T'→(∀i,i < m→T'.sd i < m→¬Ngv n T' i)→Q .non H')∧
 ∀T' i l H' ws2 us2,ButY T0 D H H'→Lm T0 H'→Okt m n L T'→i < m→T'.sd i < m→Ngv n T' i→(∀c,c < n→T'.ln i c≤0)→tD H H' l ws2 us2 (wts scs (cnt n T' i))→l≠D.pss→l≠D.ph→(∀xs,H l≠some (.lst xs))→Q (.ref l) H'
theorem scRef:FnScope ["table","below","at","line","column"] ["table"] (ag sRef):= .of
theorem wH {f fS fL fW fT:Addr} {fd dS dL dW dT:FuncData} (F:Fun K "refuted" "refuted" sRef f fd) (B:Blt mg)
 (GS:FnOk P w K mg base CX0 2 fS dS ["table"] (jP (K:=K))) (kS:PySem.W.keepIn K (.ref fS)=true) (bS:Binds K dS ["table"] []) (mS:mg "slack_lines"=some (.ref fS))
 (GL:FnOk P w K mg base CX0 2 fL dL ["numbers","places"] (qA (K:=K) T0)) (kL:PySem.W.keepIn K (.ref fL)=true) (bL:Binds K dL ["numbers","places"] []) (mL:mg "least_by"=some (.ref fL))
 (GW:FnOk P w K mg base CX0 4 fW dW ["table","at"] (pV (K:=K))) (kW:PySem.W.keepIn K (.ref fW)=true) (bW:Binds K dW ["table","at"] []) (mW:mg "weights_against"=some (.ref fW))
 (GT:FnOk P w K mg base CX0 2 fT dT ["table","at","column"] (mJ (K:=K))) (kT:PySem.W.keepIn K (.ref fT)=true) (bT:Binds K dT ["table","at","column"] []) (mT:mg "turn"=some (.ref fT)):
 FnOk P w K mg base CX0 5 f fd ["table"] (qw (K:=K) T0):=by
 refine F.okb scRef fun vs H Q E h=> ?_;refine hZq fun q_ e_=> ?_;obtain ⟨D,m,n,C,scs,us,ws,pl,ls,L,T,rfl,hk,hT,hW,hO,hLm,hn60,kn,kw⟩:=h;subst e_;refine ⟨rfl,fun cdv A outer s hr=> ?_⟩;have hr2:Room 2 _:=hr.mono (by decide)
 have hu50:(A.deeper (PyProof.Rows.envOfC (Str.ofString "refuted") (ag sRef) s.heap.objs.size f cdv)).units+50 < cLine:=by have:=hr.units;omega
 have nd2:(["at","table"]:List Str).Nodup:=by decide +kernel
 have nd2':(["column","line"]:List Str).Nodup:=by decide +kernel
 refine ⟨_,ah (jS PassesOwn.never (eO rJ fun _=>rfl)
  (ae (dr (i:=1) (NC:= ["at","table"]) (mp:= [none,some 0]) rfl scRef.nd rfl rfl rfl (hU (K:=K) rfl (ai GS hr2 rfl mS kS bS .nil ar (a0 (pv 0) a9)))
   (fun _ _ _ _ _=>pgA 0 nd2) (fun _ _ _ _ _=>cK (aF (wj hu50) (i4 (r:=rSlL K) je (ao (r:=rIxL K) aw (cy (K:=K) rfl (pv 1) rfl) (pv 0) fun _ _=>rfl) (jk (c9 bq ac)) jm) (bO (a0 ac (a0 ac a9))) (aE _))) (fun _ _ _ _ _=>pv 0))
  (ae (psA 2 scRef.nd (ai GL hr2 rfl mL kL bL .nil ar (a0 (aP (pv 0) rfl) (a0 (pv 1) a9))))
  (ae (cf (aF rM (pv 2) lM (aE _)) (ah (ax lM)) bg)
  (ae (psR 3 scRef.nd (ao aw (aP (pv 0) rfl) (pv 2) fun _ _=>rfl))
  (ae (psA 4 scRef.nd (ai GL hr2 rfl mL kL bL .nil ar (a0 (aP (pv 0) rfl) (a0 (aQ (NC:= ["column","line"]) (mp:= [none,some 3]) rfl (c8 rfl B.ra (a0 (aB ay rfl B.le PySem.boot_len (a0 (aP (pv 0) rfl) a9)) a9))
   (fun _ _ _ _ _=>pgA 0 nd2') (fun _ _ _ _ _=>cK (aF eK (ao (r:=rIxL K) aw (pv 1) (pv 0) fun _ _=>rfl) ac (aE _))) (fun _ _ _ _ _=>pv 0)) a9))))
  (ae (cf (aF rM (pv 4) lM (aE _)) (ah (ax (ai GW hr rfl mW kW bW .nil ar (a0 (pv 0) (a0 (pv 2) a9))))) bg)
  (ah (bu (ai GT hr2 rfl mT kT bT .nil ar (a0 (pv 0) (a0 (pv 2) (a0 (pv 4) a9))))))))))))),?_⟩
 have hL20:(20000:Nat)≤sizeLine:=by decide +kernel
 have m64:=hT.m64;have n64:=hT.n64;have fl:∀b pl,(flds D pl b).lookup (Str.ofString "lines")=some (.ref pl):=fun b pl=>rfl;obtain ⟨MM,eMM⟩:∃MM:Int,MM=(C:Int)+1:=⟨_,rfl⟩
 refine ⟨fun k σ H'=>(∃v1 v2 v3 v4,σ= [some (.ref D.a),v1,v2,v3,v4])∧∃pl' ls' T',ButY T0 D H H'∧Lm T0 H'∧Tab D m n scs us ws pl' ls' T' H'∧Okt m n L T'∧∃Tf rf qf J,Wg.Rn m n (Wg.V0 m L) (Wg.R0 L) MM Tf rf qf J∧Tf J=T'∧k=2^(m+n) - J,
  ⟨2^(m+n) - 0,⟨none,none,none,none,rfl⟩,pl,ls,T,fun x o _ _ _ _ e=>e,hLm,hT,hO,fun _=>T,fun _=>0,fun _=>0,0,⟨hO.inv,hO.pm,fun j hj=>absurd hj (Nat.not_lt_zero _),fun j hj=>absurd hj (Nat.not_lt_zero _)⟩,rfl,rfl⟩,?_⟩
 intro k σ H1 z_;refine hZq fun q_ e_=> ?_;obtain ⟨⟨v1,v2,v3,v4,rfl⟩,pl',ls',T',bY,hLm1,tb,O,Tf,rf,qf,J,Run,eT,rfl⟩:=z_;subst e_;refine ⟨true,rfl,iteT ?_⟩;refine ⟨_,fun σ' H' h=>h,?_⟩;obtain ⟨bb,bl⟩:=hW.bnd O.inv O.pm;have lenr:∀(p:Nat→Bool),((List.range m).filter p).length≤m:=fun p=>yY (zp _ _) (by rw [zJ];exact yP _)
 have lenc:∀(p:Nat→Bool) (j:Nat),((List.range j).filter p).length≤j:=fun p j=>yY (zp _ _) (by rw [zJ];exact yP _)
 refine cQ ?_;refine ck rfl ?_;refine ⟨_,rfl,D,m,n,scs,us,ws,pl',ls',T',rfl,hk,tb,fun l H2 nl s1 hl=> ?_⟩;have tb1:=tb.same s1;refine ⟨l,rfl,⟨_,SqL.of hl⟩,fun L' nL=> ?_⟩;refine cq (xs:=nv (slk m T')) (fun j acc H3=>Same H2 H3∧H3 L'=some (.lst acc)∧acc=nv (((slk m T').take j).filter fun x=>decide (Ngv n T' x))) ⟨aa nL,a8,rfl⟩ (fun j acc H3 p=>SqL.of (p.1 _ _ hl)) ?_ ?_
 · rintro j x acc H3 hj ex ⟨s2,hL,rfl⟩;unfold nv at ex;rw [yQ] at ex;obtain ⟨r,er,rfl⟩:=yS.mp ex;obtain ⟨rm,rs⟩:=slk_mem.mp (yT er);have tb2:=tb1.same s2;refine hZq fun q_ e_=> ?_;obtain ⟨q,eq,hq,_,_⟩:=tb2.ro.2 r rm;subst e_;have al:(((slk m T').take j).filter fun x=>decide (Ngv n T' x)).length≤m:=yY (zp _ _) (yY (List.length_take_le' _ _) (lenr _));refine ⟨_,rfl,D.a,D.C,D.dx,_,_,rfl,tb2.ob,hk.cls,hk.nl,fl _ _,_,rfl,pl',_,(r:Int),_,rfl,rfl,SqL.of tb2.li,aJ eq,2,rfl,_,rfl,q,_,rfl,SqL.of hq,fun p np=> ?_⟩;rw [cut2];have sp:=aa (o:= .lst [.int (T'.ln r n), .int (T'.ln r (n+1))]) np;refine ⟨two,fun l2 nl2=> ?_⟩;have sl2:=aa (o:= .lst [.int 0, .int 0]) nl2;refine ⟨p,l2,_,_,rfl,rfl,sl2 _ _ a8,a8,_,rfl,?_⟩;by_cases z:Ngv n T' r
   · rw [show decide (T'.ln r n < 0∨(T'.ln r n=0∧T'.ln r (n+1) < 0))=true from decide_eq_true z];refine iteT ?_;refine ⟨_,rfl,CompN.mk hj (by unfold nv;rw [yM];omega) (sl2 _ _ (sp _ _ hL)) ⟨aq nL ((s2.trans sp).trans sl2),a8,?_⟩⟩
     rw [av er,zF];simp [z,nv]
   · rw [show decide (T'.ln r n < 0∨(T'.ln r n=0∧T'.ln r (n+1) < 0))=false from decide_eq_false z];refine iteF ?_;refine CompS.mk hj ⟨(s2.trans sp).trans sl2,sl2 _ _ (sp _ _ hL),?_⟩;rw [av er,zF];simp [z]
 rintro acc H3 ⟨s2,hL,rfl⟩;have lnv:(nv (slk m T')).length=(slk m T').length:=by unfold nv;rw [yM]
 rw [lnv,zg] at hL;have tb3:=tb1.same s2;have hLm3:=(hLm1.same s1).same s2;have bY3:ButY T0 D H H3:=bY.trans (.of_same (s1.trans s2));obtain ⟨bw,ebw⟩:∃bw,bw=(slk m T').filter fun x=>decide (Ngv n T' x):=⟨_,rfl⟩;rw [←ebw] at hL;have mbw:∀x,x∈bw↔(x < m∧T'.sd x < m)∧Ngv n T' x:=fun x=>by rw [ebw,zK,slk_mem,decide_eq_true_iff]
 refine am ?_;refine ⟨_,rfl,D.a,D.C,D.dx,_,_,rfl,tb3.ob,hk.cls,hk.nd,rfl,_,rfl,D.pss,L',Wg.ls m fun i=>((T'.sd i:Nat):Int),bw,rfl,by rw [←rW];exact SqL.of tb3.sd,SqL.of hL,fun x mx=>by rw [Wg.ls_len];exact ((mbw x).mp mx).1.1,hLm3,fun e0 H4 bt hLm4=> ?_,fun r mr lst H4 bt hLm4=> ?_⟩
 ·
  obtain ⟨ps0,hT0⟩:=hLm3.tbl;have tb4:=tb3.butT hT0 bt;refine am ?_;refine ⟨_,rfl,rfl,_,rfl,?_⟩;rw [decide_eq_true rfl];refine iteT ?_;refine kn pl' ls' T' H4 (bY3.trans (.of_t bt)) hLm4 tb4 O fun i hi hs z=> ?_;have:=(mbw i).mpr ⟨⟨hi,hs⟩,z⟩;rw [e0] at this;cases this
 obtain ⟨ps0,hT0⟩:=hLm3.tbl;have tb4:=tb3.butT hT0 bt;have bY4:=bY3.trans (.of_t (D:=D) bt);obtain ⟨⟨hrm,hrs⟩,hneg⟩:=(mbw r).mp mr;refine hZq fun q_ e_=> ?_;obtain ⟨q,eq,hq,_,_⟩:=tb4.ro.2 r hrm;subst e_;refine am ?_;dsimp only;refine dq (fun σ' H'=>H4=H'∧σ'= [some (.ref D.a),some (.ref L'),some (.int (r:Int)),v3,v4]) ?_ fun nx hnx=> ?_;rotate_left
 · refine ⟨_,rfl,rfl,_,rfl,?_⟩;rw [decide_eq_false (by intro z;cases z)]
   exact iteF (hnx _ _ ⟨rfl,rfl⟩)
 rintro σ' H' ⟨rfl,rfl⟩;refine ⟨_,rfl,D.a,D.C,D.dx,_,_,rfl,tb4.ob,hk.cls,hk.nl,fl _ _,_,rfl,pl',_,(r:Int),_,rfl,rfl,SqL.of tb4.li,aJ eq,?_⟩;refine am ?_;refine ⟨_,rfl,D.a,D.C,D.dx,_,_,rfl,tb4.ob,hk.cls,hk.nh,rfl,?_⟩;refine pH ?_;refine ck rfl ?_;refine ⟨_,rfl,D.a,D.C,D.dx,_,_,rfl,tb4.ob,hk.cls,hk.nh,rfl,D.ph,_,rfl, .inl (SqL.of tb4.hd),(n:Int),by rw [cj],by omega,by omega,fun L2 nL2=> ?_⟩
 refine kz (n:=n) (fun j acc H5=>Same H4 H5∧H5 L2=some (.lst acc)∧acc=nv ((List.range j).filter fun c=>decide (0 < T'.ln r c))) ⟨aa nL2,a8,rfl⟩ ?_ ?_
 · rintro c acc H5 hc ⟨s5,hL2,rfl⟩;rw [Aj];refine ⟨_,rfl,_,rfl,q,_,(c:Int),_,rfl,rfl,SqL.of (s5 _ _ hq),aJ (fX (by omega)),_,0,rfl,rfl,_,rfl,?_⟩
   by_cases z:0 < T'.ln r c
   · rw [decide_eq_true z];refine iteT ?_;refine ⟨_,rfl,CompN.mk hc (by unfold nv;rw [yM];have:=lenc (fun c=>decide (0 < T'.ln r c)) c;omega) hL2 ⟨aq nL2 s5,a8,?_⟩⟩
     rw [zO,zF];simp [z,nv]
   · rw [decide_eq_false z];refine iteF ?_;refine CompS.mk hc ⟨s5,hL2,?_⟩;rw [zO,zF];simp [z]
 rintro acc H5 ⟨s5,hL2,rfl⟩;have tb5:=tb4.same s5;have hLm5:=hLm4.same s5;have bY5:=bY4.trans (.of_same (D:=D) (T0:=T0) s5);obtain ⟨pc,epc⟩:∃pc,pc=(List.range n).filter fun c=>decide (0 < T'.ln r c):=⟨_,rfl⟩;rw [←epc] at hL2;have mpc:∀c,c∈pc↔c < n∧0 < T'.ln r c:=fun c=>by rw [epc,zK,zH,decide_eq_true_iff]
 obtain ⟨ps1,hT1⟩:=hLm5.tbl;refine ⟨D.ph,L2,Wg.ls n fun i=>((T'.hd i:Nat):Int),pc,rfl,by rw [←rW];exact SqL.of tb5.hd,SqL.of hL2,fun x mx=>by rw [Wg.ls_len];exact ((mpc x).mp mx).1,hLm5,fun e0 H6 bt6 hLm6=> ?_,fun c mc lstc H6 bt6 hLm6=> ?_⟩
 ·
  have tb6:=tb5.butT hT1 bt6;refine am ?_;refine ⟨_,rfl,rfl,_,rfl,?_⟩;rw [decide_eq_true rfl];refine iteT ?_;refine ⟨_,rfl,_,rfl,D,m,n,C,scs,us,ws,pl',ls',L,T',r,rfl,hk,tb6,hW,O,hrm,hrs,hn60,fun l2 H7 ws2 us2 nl2 s7 hw=> ?_⟩;have bY6:ButY T0 D H H6:=bY5.trans (.of_t bt6);refine kw T' r l2 H7 ws2 us2 (bY6.trans (.of_same s7)) (hLm6.same s7) O hrm hrs hneg (fun c hc=> ?_) hw (fun z=>by rw [z,tb6.sd] at nl2;cases nl2) (fun z=>by rw [z,tb6.hd] at nl2;cases nl2) fun xs z=> ?_
  · refine Classical.byContradiction fun y=> ?_;have:=(mpc c).mpr ⟨hc,by omega⟩
    rw [e0] at this;cases this
  · by_cases y0:l2=T0
    · subst y0;obtain ⟨ps2,hT2⟩:=hLm6.tbl;rw [hT2] at nl2;cases nl2
    · have:=bY6 l2 _ y0 (fun y=>by rw [y,hT.ob] at z;cases z) (fun y=>by rw [y,tb6.sd] at nl2;cases nl2) (fun y=>by rw [y,tb6.hd] at nl2;cases nl2) z
      rw [this] at nl2;cases nl2
 · have tb6:=tb5.butT hT1 bt6;obtain ⟨hcn,hcp⟩:=(mpc c).mp mc;refine am ?_;dsimp only;refine dq (fun σ' H'=>H6=H'∧σ'= [some (.ref D.a),some (.ref L'),some (.int (r:Int)),some (.ref q),some (.int (c:Int))]) ?_ fun nx hnx=> ?_;rotate_left
   · refine ⟨_,rfl,rfl,_,rfl,?_⟩;rw [decide_eq_false (by intro z;cases z)]
     exact iteF (hnx _ _ ⟨rfl,rfl⟩)
   rintro σ' H' ⟨rfl,rfl⟩;refine ⟨_,rfl,_,rfl,_,rfl,D,m,n,scs,us,ws,pl',ls',T',r,c,rfl,hk,tb6,hrm,hcn,by omega,O.inv.pos,cG bb hW.big,fun a b ha hb=>cG (bl a b ha hb) hW.big,fun pl2 ls2 H7 bx tb7=> ?_⟩
   have vn:∀i,i < m→(Ngv n T' i↔Wg.val n MM T' i < 0):=fun i hi=>by
    unfold Ngv Wg.val;refine Wg.lex_neg ?_ (by omega)
    have:=bl i (n+1) hi (by omega)
    omega
   have S:Wg.Stp m n MM T' r c:=by
    refine ⟨hrm,hcn,hrs,(vn r hrm).mp hneg,fun i hi hs hv=> ?_,hcp,fun c' hc' hp'=> ?_⟩
    · have:=lst i ((mbw i).mpr ⟨⟨hi,hs⟩,(vn i hi).mpr hv⟩);rw [gz hrm,gz hi] at this;omega
    · have:=lstc c' ((mpc c').mpr ⟨hc',hp'⟩);rw [gz hcn,gz hc'] at this;omega
   subst eT;refine hZq fun q_ e_=> ?_;obtain ⟨Tf2,rf2,qf2,Run2,e2⟩:=Run.snoc S;subst e_;refine ⟨2^(m+n) - (J+1),Nat.sub_lt_sub_left Run.few (A6 J),⟨_,_,_,_,rfl⟩,pl2,ls2,_,(bY5.trans (.of_t bt6)).trans (.of_x bx),hLm6.butX tb6 bx,tb7,⟨Wg.piv_inv O.inv hrm hcn (by omega),O.pm.piv hrm hcn,O.st.piv O.inv hrm hcn hrs (by omega)⟩,Tf2,rf2,qf2,J+1,Run2,e2,rfl⟩
end
end K40
namespace L2
open PySem PySem.Spec PyProof.Rows
theorem oW {X:Cx} (hc:X.calm=true):cB X (.builtin "max") (fun xs H Q=>∃(p:Addr) (ns:List Int),xs= [.ref p]∧SqL X.K H p (ns.map V.int)∧0 < ns.length∧∀m,m∈ns→(∀x∈ns,x≤m)→Q (.int m) H):=by
 intro pins s σ H xs us Q I r h;obtain ⟨p,ns,e,hp,h0,q⟩:=h;subst e
 cases r with
 | @cons _ u _ _ r rr=>
  cases rr;cases (show u=Value.ref p from r);obtain ⟨its,rv,pl,_⟩:=I.list hp;have hi:=lW rv;obtain ⟨zs,ez⟩:=hi.allInts.items;have hl:=pl.isList;rw [ez] at hl
  have e3:zs.toList.map (·.1)=ns:=by
   rw [←nums_intItems,←ez];exact hi.numsOf
  have zl:zs.size=ns.length:=by rw [←e3,yM,zq]
  have nat_:∀i,i < zs.size→ns[i]?=some (numAt zs i):=fun i hi'=>by
   rw [←e3,yQ,zx];unfold numAt;rw [zQ hi'];rfl
  refine max_intList (I.ok.hd hc) hl (by omega) fun v h' tk hv hk=> ?_
  obtain ⟨t,rfl⟩:=intItems_at hv;obtain ⟨b1,b2⟩:=argBest_gt (numAt zs) (zs.size - 1);generalize argBest (fun i j=>decide (numAt zs i > numAt zs j)) (zs.size - 1)=k at*;refine ⟨.int (numAt zs k),H,I.kept hk,⟨_,rfl⟩,q _ (yT (nat_ k (by omega))) fun x mx=> ?_⟩
  obtain ⟨j,hj,ej⟩:=zS mx;have:=nat_ j (by omega)
  rw [yN hj,ej] at this;rw [zb this];exact b2 j (by omega)
end L2
namespace K40
open PySem L2 Mth Tre Wd Su Tw Fm
theorem oX {X:Cx} {K:PySem.W.Frag} (hK:X.K=K):cB X (.builtin "len") (fun xs H Q=>∃p ys,xs= [.ref p]∧(SqL K H p ys∨SqT K H p ys)∧Q (.int (ys.length:Int)) H):=by
 subst hK;exact ay
theorem pi {r:R2} {ta tb:TE} {Z:Ends} {σ:L2.St} {H:Hp} (h:ta σ H fun x H1=>tb σ H1 fun y H2=>r x y H2 Z.rt):tRet (tOp r ta tb) Z σ H:=h
noncomputable def lno (m n:Nat) (T:Wg.Tb) (k c:Nat):Int:=(Wg.sumN m fun i=>if T.sd i=k then T.ln i c else 0)+if c < n∧T.hd c=k then T.bot else 0
theorem sf {m n:Nat} {T:Wg.Tb} (P:Wg.Pm m n T) {i c:Nat} (hi:i < m):lno m n T (T.sd i) c=T.ln i c:=by
 unfold lno;rw [Wg.sumN_one hi fun j hj hne=>if_neg fun e=>hne (P.inj hj hi e),if_pos rfl,if_neg fun z=>P.disj hi z.1 z.2.symm,Int.add_zero]
theorem ie {m n:Nat} {T:Wg.Tb} {k c:Nat} (h:∀i,i < m→T.sd i≠k):lno m n T k c=if c < n∧T.hd c=k then T.bot else 0:=by
 unfold lno;rw [Wg.sumN_zero fun i hi=>if_neg (h i hi),Aj]
theorem si {m n:Nat} {T:Wg.Tb} {k:Nat} {M:Int}:lno m n T k n*M+lno m n T k (n+1)=Wg.pt m n M T k:=by
 unfold lno;rw [if_neg (by omega),if_neg (by omega),Int.add_zero,Int.add_zero]
 unfold Wg.pt;rw [←Wg.sumN_mulr,←Wg.sumN_add];refine Wg.sumN_congr fun i hi=> ?_;unfold Wg.val;split<;>grind
theorem lU {m n C:Nat} {T:Wg.Tb} {k c:Nat} (P:Wg.Pm m n T) (hb:T.bot.natAbs≤C) (hl:∀i c,i < m→c < n+2→(T.ln i c).natAbs≤C) (hc:c < n+2):(lno m n T k c).natAbs≤C:=by
 by_cases h:∃i,i < m∧T.sd i=k
 · obtain ⟨i,hi,rfl⟩:=h;rw [sf P hi];exact hl i c hi hc
 · rw [ie fun i hi e=>h ⟨i,hi,e⟩];split
   · exact hb
   · exact zf _
theorem tf {n:Nat} {f:Nat→Int}:atI ((Wg.ls (n+2) f).map V.int) (-1)=some (.int (f (n+1))):=by
 have l:((Wg.ls (n+2) f).map V.int).length=n+2:=by rw [yM,Wg.ls_len]
 unfold atI
 have:ixN (n+2) (-1)=some (n+1):=by
  unfold ixN;rw [if_neg (by decide),if_pos (by omega)]
  congr 1;omega
 rw [l,this];exact fX (by omega)
theorem mn {n:Nat} {f:Nat→Int}:atI ((Wg.ls (n+2) f).map V.int) (-2)=some (.int (f n)):=by
 have l:((Wg.ls (n+2) f).map V.int).length=n+2:=by rw [yM,Wg.ls_len]
 unfold atI
 have:ixN (n+2) (-2)=some n:=by
  unfold ixN;rw [if_neg (by decide),if_pos (by omega)]
  congr 1;omega
 rw [l,this];exact fX (by omega)
theorem rV {H:Hp}:∀ {ps:List Nat},TrsAt H (nv ps) (ps.map fun (p:Nat)=>Tr.int (p:Int))
 | []=> .nil
 |_::_=> .cons at_i rV
theorem tz {k:Nat}:∀ {ps:List Nat},((ps.map fun (p:Nat)=>Tr.int (p:Int)).any fun u=>Tre.eqT u (.int (k:Int)))=decide (k∈ps)
 | []=>by simp
 |p::r=>by
  rw [zc,List.any_cons,tz];unfold Tre.eqT;by_cases e:k=p
  · subst e;simp
  · have:((p:Int)==(k:Int))=false:=by
     rw [beq_eq_false_iff_ne];omega
    rw [this];simp [e]
theorem mem_ls {m:Nat} {f:Nat→Nat} {k:Nat}:k∈Wg.ls m f↔∃i,i < m∧f i=k:=by
 unfold Wg.ls;rw [zo];constructor
 · rintro ⟨i,hi,e⟩;exact ⟨i,zH.mp hi,e⟩
 · rintro ⟨i,hi,e⟩;exact ⟨i,zH.mpr hi,e⟩
section
variable {P:Program} {w:World} {K:PySem.W.Frag} {mg:Str→Option Value} {base:Heap} {T0:Addr}
def qz:Sp:=fun vs H Q _=>∃(D:TA) (m n:Nat) (scs:List Int) (us:List Tr) (ws:List V) (pl:Addr) (ls:List V) (T:Wg.Tb) (k:Nat),vs= [.ref D.a, .int (k:Int)]∧Tk K D.C∧Tab D m n scs us ws pl ls T H∧Wg.Pm m n T∧
 ∀q H',Same H H'→H' q=some (.lst ((Wg.ls (n+2) (lno m n T k)).map V.int))→Q (.ref q) H'
theorem yg:FnScope ["table","number"] ["table","number"] (ag sLio):= .of
theorem wK {f:Addr} {fd:FuncData} (F:Fun K "line_of" "line_of" sLio f fd) (B:Blt mg):FnOk P w K mg base CX0 1 f fd ["table","number"] (qz (K:=K)):=by
 refine F.okb yg fun vs H Q E h=> ?_;refine hZq fun q_ e_=> ?_;obtain ⟨D,m,n,scs,us,ws,pl,ls,T,k,rfl,hk,hT,hP,q⟩:=h;subst e_;refine ⟨rfl,fun cdv A outer s hr=> ?_⟩;have hu50:(A.deeper (PyProof.Rows.envOfC (Str.ofString "line_of") (ag sLio) s.heap.objs.size f cdv)).units+50 < cLine:=by have:=hr.units;omega
 have nd3:(["head","table","number"]:List Str).Nodup:=by decide +kernel
 refine ⟨_,ae (cf (aF (wm hu50) (pv 1) (aP (pv 0) rfl) (by with_unfolding_all rfl)) (ah (ax (ao aw (aP (pv 0) rfl) (cS PySem.F.plainAttrs_list PySem.F.slot_list_index PySem.F.type_list_index oF (aP (pv 0) rfl) (a0 (pv 1) a9)) fun _ _=>rfl))) bg)
  (ah (ax (aj eQ (aQ (NC:= ["head","table","number"]) (mp:= [none,some 0,some 1]) rfl (aO (aP (pv 0) rfl)) (fun _ _ _ _ _=>pgA 0 nd3) (fun _ _ _ _ _=>aN)
   (fun _ _ _ _ _=>dh (aF dB (pv 0) (pv 2) (aE _)) (cy (K:=K) rfl (pv 1) rfl) ac)) (bO (a0 ac (a0 ac a9)))))),?_⟩
 have hL20:(20000:Nat)≤sizeLine:=by decide +kernel
 have n64:=hT.n64
 have dep:∀u∈(Wg.ls m T.sd).map fun (p:Nat)=>Tr.int (p:Int),u.depth≤40:=fun u mu=>by
  obtain ⟨p,_,rfl⟩:=zo.mp mu;simp [Tr.depth]
 refine ⟨_,rfl,_,rfl,D.a,D.C,D.dx,_,_,rfl,hT.ob,hk.cls,hk.nd,rfl,D.pss,_,_, .int (k:Int),rfl, .inl hT.sd,rV,at_i,dep,by simp [Tr.pure],_,rfl,?_⟩
 rw [tz,t8];by_cases hm:k∈Wg.ls m T.sd
 · rw [decide_eq_true hm];refine iteT ?_;obtain ⟨i,hi,e⟩:=mem_ls.mp hm;refine hZq fun q_ e_=> ?_;obtain ⟨qr,eq,hq,_,_⟩:=hT.ro.2 i hi;subst e_;refine ⟨_,rfl,D.a,D.C,D.dx,_,_,rfl,hT.ob,hk.cls,hk.nl,rfl,_,rfl,D.a,D.C,D.dx,_,_,rfl,hT.ob,hk.cls,hk.nd,rfl, .inl ⟨rfl,_,SqL.of hT.sd⟩,_,rfl,D.pss,Wg.ls m fun i=>((T.sd i:Nat):Int),(k:Int),i,rfl,rfl,by rw [←rW];exact hT.sd,by rw [Wg.ls_at hi,e],fun j hj=> ?_,?_⟩
   · rw [Wg.ls_at (by omega)]
     intro z;have z':T.sd j=k:=by have:=zb z;omega
     have:=hP.inj (i:=j) (j:=i) (by omega) hi (z'.trans e.symm)
     omega
   · refine ⟨pl,_,(i:Int),_,rfl,rfl,SqL.of hT.li,aJ eq,?_⟩;refine q qr H (fun _ _ e=>e) ?_;rw [hq];have:Wg.ls (n+2) (T.ln i)=Wg.ls (n+2) (lno m n T k):=Wg.ls_congr fun c hc=>by rw [←e,sf hP hi]
     rw [←this]
 · rw [decide_eq_false hm];refine iteF (eN ?_);have hno:∀i,i < m→T.sd i≠k:=fun i hi e=>hm (mem_ls.mpr ⟨i,hi,e⟩);dsimp only;refine pi ?_;refine bN rfl ?_;refine ⟨_,rfl,D.a,D.C,D.dx,_,_,rfl,hT.ob,hk.cls,hk.nh,rfl,D.ph,rfl,⟨_,SqL.of hT.hd⟩,fun L nL=> ?_⟩;refine bG (xs:=nv (Wg.ls n T.hd)) (fun j acc H'=>Same H H'∧H' L=some (.lst acc)∧acc=(Wg.ls j (lno m n T k)).map V.int∧j≤n) ⟨aa nL,a8,rfl,zf _⟩ (fun j acc H' p=>SqL.of (p.1 _ _ hT.hd)) ?_ ?_
   · rintro j x acc H' hj ex ⟨s2,hL,rfl,_⟩;have hj':=hj;rw [cj] at hj';rw [iG hj'] at ex;cases ex;have tb2:=hT.same s2
     have es:(Wg.ls (j+1) (lno m n T k)).map V.int=(Wg.ls j (lno m n T k)).map V.int++ [.int (lno m n T k j)]:=by
      unfold Wg.ls;rw [zO,z4,z4];rfl
     have al:((Wg.ls j (lno m n T k)).map V.int).length < sizeLine:=by rw [yM,Wg.ls_len];omega
     refine ⟨_,rfl,_,rfl,rfl,_,rfl,?_⟩;by_cases z:T.hd j=k
     · rw [decide_eq_true (show V.int (T.hd j:Nat)=V.int (k:Int) by rw [z])]
       refine iteT ?_;refine ⟨_,rfl,D.a,D.C,D.dx,_,_,rfl,tb2.ob,hk.cls,hk.nb,rfl,?_⟩;refine CompN.mk hj al hL ⟨aq nL s2,a8,?_,hj'⟩;rw [es,ie hno,if_pos ⟨hj',z⟩]
     · rw [decide_eq_false (show¬V.int (T.hd j:Nat)=V.int (k:Int) from fun e=>z (by have:=V.int.inj e;omega))]
       refine iteF ?_;refine CompN.mk hj al hL ⟨aq nL s2,a8,?_,hj'⟩;rw [es,ie hno,if_neg fun y=>z y.2]
   · rintro acc H2 ⟨s2,hL,rfl,_⟩;rw [cj] at hL;refine ⟨two,fun l2 nl2=> ?_⟩;have sl2:=aa (o:= .lst [.int 0, .int 0]) nl2;refine ⟨L,l2,_,_,rfl,rfl,sl2 _ _ hL,a8,by rw [yM,Wg.ls_len];show n+2≤sizeLine;omega,fun p np=> ?_⟩
     refine q p _ ((s2.trans sl2).trans (aa np)) ?_;rw [a8]
     have es:(Wg.ls (n+2) (lno m n T k)).map V.int=(Wg.ls n (lno m n T k)).map V.int++ [.int (lno m n T k n), .int (lno m n T k (n+1))]:=by
      unfold Wg.ls;rw [zO,zO,z4,z4,z4,z4,List.append_assoc];rfl
     rw [es,ie (c:=n) hno,ie (c:=n+1) hno,if_neg (by omega),if_neg (by omega)]
def Rwl (H:Hp) (ls:List V) (n k:Nat) (f:Nat→Nat→Int):Prop:=ls.length=k∧∀j,j < k→∃q,ls[j]?=some (.ref q)∧H q=some (.lst ((Wg.ls (n+2) (f j)).map V.int))
def qg:Sp:=fun vs H Q _=>∃(D:TA) (m n:Nat) (scs:List Int) (us:List Tr) (ws:List V) (pl:Addr) (ls:List V) (T:Wg.Tb),vs= [.ref D.a]∧Tk K D.C∧Tab D m n scs us ws pl ls T H∧Wg.Pm m n T∧
 ∀l ls' H',Same H H'→H' l=some (.lst ls')→Rwl H' ls' n n (fun j=>lno m n T (m+j))→Q (.ref l) H'
theorem ya:FnScope ["table"] ["table"] (ag sTli):= .of
theorem wA {f fL:Addr} {fd dL:FuncData} (F:Fun K "term_lines" "term_lines" sTli f fd) (B:Blt mg)
 (GL:FnOk P w K mg base CX0 1 fL dL ["table","number"] (qz (K:=K))) (kL:PySem.W.keepIn K (.ref fL)=true) (bL:Binds K dL ["table","number"] []) (mL:mg "line_of"=some (.ref fL)):
 FnOk P w K mg base CX0 2 f fd ["table"] (qg (K:=K)):=by
 refine F.okb ya fun vs H Q E h=> ?_;refine hZq fun q_ e_=> ?_;obtain ⟨D,m,n,scs,us,ws,pl,ls,T,rfl,hk,hT,hP,q⟩:=h;subst e_;refine ⟨rfl,fun cdv A outer s hr=> ?_⟩;have nd2:(["number","table"]:List Str).Nodup:=by decide +kernel
 refine ⟨_,ah (ax (aQ (NC:= ["number","table"]) (mp:= [none,some 0]) rfl (c8 rfl B.ra (a0 (aB ay rfl B.le PySem.boot_len (a0 (aP (pv 0) rfl) a9)) a9)) (fun _ _ _ _ _=>pgA 0 nd2) (fun _ _ _ _ _=>aN)
  (fun _ _ _ _ _=>ai GL hr rfl mL kL bL .nil ar (a0 (pv 1) (a0 (aj aR (aB (oX (K:=K) rfl) rfl B.le PySem.boot_len (a0 (cy (K:=K) rfl (pv 1) rfl) a9)) (pv 0)) a9))))),?_⟩
 have hL20:(20000:Nat)≤sizeLine:=by decide +kernel
 have n64:=hT.n64;have wl:=hT.tt.len;have ul:=hT.ul;have sl:=hT.sl;refine tO ?_;refine bN rfl ?_;refine ⟨_,rfl,D.a,D.C,D.dx,_,_,rfl,hT.ob,hk.cls,hk.nt,rfl,D.pt,_,rfl, .inl (SqL.of hT.tm),(n:Int),by rw [wl,ul],by omega,by omega,fun L nL=> ?_⟩
 refine m9 (n:=n) (fun j acc H'=>Same H H'∧H' L=some (.lst acc)∧acc.length=j∧∀i,i < j→∃z,acc[i]?=some (.ref z)∧H' z=some (.lst ((Wg.ls (n+2) (lno m n T (m+i))).map V.int))∧z≠L) ⟨aa nL,a8,rfl,fun i hi=>absurd hi (Nat.not_lt_zero _)⟩ ?_ ?_
 · rintro j acc H' hj ⟨s2,hL,al,hz⟩;rw [Aj];have tb2:=hT.same s2;refine ⟨_,rfl,_,rfl,D.a,D.C,D.dx,_,_,rfl,tb2.ob,hk.cls,hk.ns,rfl,D.psc,_,rfl, .inl (SqL.of tb2.sc),_,rfl,_,_,rfl,rfl,D,m,n,scs,us,ws,pl,ls,T,m+j,?_,hk,tb2,hP,fun z H3 s3 e3=> ?_⟩
   · rw [yM,sl];simp
   · have nz:z≠L:=fun y=>by
      have h1:=s3 _ _ hL;rw [y,h1] at e3;have e4:=HO.lst.inj (zb e3);have l4:=congrArg List.length e4
      have h0:∀i,acc[i]?≠some (V.int (lno m n T (m+j) i)):=fun i hi=>by
       have hij:i < j:=by rw [←al];exact (yW.mp hi).1
       obtain ⟨z',a1,_⟩:=hz i hij;rw [a1] at hi;cases hi
      have:=h0 0;rw [e4,fX (by omega)] at this
      exact this rfl
     refine CompN.mk hj (by omega) (s3 _ _ hL) ⟨aq nL (s2.trans s3),a8,by rw [z7,al];rfl,fun i hi=> ?_⟩
     rcases Nat.lt_or_ge i j with h|h
     · obtain ⟨z',a1,a2,a3⟩:=hz i h;exact ⟨z',by rw [List.getElem?_append_left (by omega)];exact a1,by rw [af a3];exact s3 _ _ a2,a3⟩
     · have e:i=j:=by omega
       subst e;exact ⟨z,by rw [A4 (by omega),al];simp,by rw [af nz];exact e3,nz⟩
 · rintro acc H2 ⟨s2,hL,al,hz⟩;refine q L acc H2 s2 hL ⟨al,fun j hj=> ?_⟩;refine hZq fun q_ e_=> ?_;obtain ⟨z,a1,a2,_⟩:=hz j hj;subst e_;exact ⟨z,a1,a2⟩
theorem wY:lim < 2^8000:=Nat.pow_lt_pow_right (by decide) (by decide)
theorem big1 {C:Nat} {x:Int} (h:x.natAbs≤C+1) (hb:C < lim):Big x:=z6 (yY h hb) wY
theorem tK {te:TE} {u:L2.TA} {Z:Ends} {σ:L2.St} {H:Hp} (h:te σ H fun v H1=>u σ H1 fun vs H2=>(v::vs).length≤sizeLine∧∀p,H2 p=none→Z.rt (.ref p) (upd H2 p (.tup (v::vs)))):tRet (tTup (eJ te u)) Z σ H:=h
def qk:Sp:=fun vs H Q _=>∃(D:TA) (m n C:Nat) (scs:List Int) (us:List Tr) (ws:List V) (pl:Addr) (ls:List V) (L:Nat→Nat→Int) (T:Wg.Tb),vs= [.ref D.a]∧Tk K D.C∧Tab D m n scs us ws pl ls T H∧Wb m n L scs C∧Okt m n L T∧
 ∀(t l:Addr) (H':Hp) (M:Int),Same H H'→H' t=some (.tup [.ref l, .int (T.bot*M)])→H' l=some (.lst ((Wg.ls n fun j=>Wg.pt m n M T (m+j)).map V.int))→1≤M→M≤(C:Int)+1→(∀i,i < m→T.sd i < m→0 < T.ln i n→ -(T.ln i (n+1) / T.ln i n)≤M)→Q (.ref t) H'
theorem scStr:FnScope ["table","parts","lines"] ["table"] (ag sStr):= .of
theorem wC {f fS fL:Addr} {fd dS dL:FuncData} (F:Fun K "strict_point" "strict_point" sStr f fd) (B:Blt mg)
 (GS:FnOk P w K mg base CX0 2 fS dS ["table"] (jP (K:=K))) (kS:PySem.W.keepIn K (.ref fS)=true) (bS:Binds K dS ["table"] []) (mS:mg "slack_lines"=some (.ref fS))
 (GL:FnOk P w K mg base CX0 2 fL dL ["table"] (qg (K:=K))) (kL:PySem.W.keepIn K (.ref fL)=true) (bL:Binds K dL ["table"] []) (mL:mg "term_lines"=some (.ref fL)):
 FnOk P w K mg base CX0 3 f fd ["table"] (qk (K:=K)):=by
 refine F.okb scStr fun vs H Q E h=> ?_;refine hZq fun q_ e_=> ?_;obtain ⟨D,m,n,C,scs,us,ws,pl,ls,L,T,rfl,hk,hT,hW,hO,k⟩:=h;subst e_;refine ⟨rfl,fun cdv A outer s hr=> ?_⟩;have nd2:(["at","table"]:List Str).Nodup:=by decide +kernel
 have nd2':(["line","parts"]:List Str).Nodup:=by decide +kernel
 refine ⟨_,ae (psR 1 scStr.nd (aB (oW rfl) rfl B.ma PyProof.Rows.boot_max (a0 (aj eQ (bO (a0 ac a9)) (aQ (NC:= ["at","table"]) (mp:= [none,some 0]) rfl (hU (K:=K) rfl (ai GS hr rfl mS kS bS .nil ar (a0 (pv 0) a9)))
  (fun _ _ _ _ _=>pgA 0 nd2) (fun _ _ _ _ _=>cK (aF eK (ao (r:=rIxL K) aw (ao (r:=rIxL K) aw (cy (K:=K) rfl (pv 1) rfl) (pv 0) fun _ _=>rfl) (c9 bq ac) fun _ _=>rfl) ac (aE _)))
  (fun _ _ _ _ _=>c9 bq (aj be (ao (r:=rIxL K) aw (ao (r:=rIxL K) aw (cy (K:=K) rfl (pv 1) rfl) (pv 0) fun _ _=>rfl) (c9 bq ac) fun _ _=>rfl) (ao (r:=rIxL K) aw (ao (r:=rIxL K) aw (cy (K:=K) rfl (pv 1) rfl) (pv 0) fun _ _=>rfl) (c9 bq ac) fun _ _=>rfl))))) a9)))
  (ae (psA 2 scStr.nd (ai GL hr rfl mL kL bL .nil ar (a0 (pv 0) a9)))
  (ah (ax (aU (a0 (aQ (NC:= ["line","parts"]) (mp:= [none,some 1]) rfl (aO (pv 2)) (fun _ _ _ _ _=>pgA 0 nd2') (fun _ _ _ _ _=>aN)
   (fun _ _ _ _ _=>aj aR (aj aX (ao (r:=rIxL K) aw (pv 0) (c9 bq ac) fun _ _=>rfl) (pv 1)) (ao (r:=rIxL K) aw (pv 0) (c9 bq ac) fun _ _=>rfl)))
   (a0 (aj aX (aP (pv 0) rfl) (pv 1)) a9)))))),?_⟩
 have hL20:(20000:Nat)≤sizeLine:=by decide +kernel
 have m64:=hT.m64;have n64:=hT.n64;have fl:∀b pl,(flds D pl b).lookup (Str.ofString "lines")=some (.ref pl):=fun b pl=>rfl;obtain ⟨bb,bl⟩:=hW.bnd hO.inv hO.pm;have lenr:∀(p:Nat→Bool),((List.range m).filter p).length≤m:=fun p=>yY (zp _ _) (by rw [zJ];exact yP _)
 refine ⟨(by show 1≤sizeLine;decide),fun l1 nl1=> ?_⟩
 have sl1:=aa (o:= .lst [.int 1]) nl1;refine ck rfl ?_;have tb1:=hT.same sl1;refine ⟨_,rfl,D,m,n,scs,us,ws,pl,ls,T,rfl,hk,tb1,fun l H2 nl s2 hl=> ?_⟩;have tb2:=tb1.same s2;refine ⟨l,rfl,⟨_,SqL.of hl⟩,fun L' nL=> ?_⟩;refine cq (xs:=nv (slk m T)) (fun j acc H3=>Same H2 H3∧H3 L'=some (.lst acc)∧acc=((((slk m T).take j).filter fun x=>decide (0 < T.ln x n)).map fun x=> -(T.ln x (n+1) / T.ln x n)).map V.int) ⟨aa nL,a8,rfl⟩ (fun j acc H3 p=>SqL.of (p.1 _ _ hl)) ?_ ?_
 · rintro j x acc H3 hj ex ⟨s3,hL,rfl⟩;unfold nv at ex;rw [yQ] at ex;obtain ⟨r,er,rfl⟩:=yS.mp ex;obtain ⟨rm,rs⟩:=slk_mem.mp (yT er);have tb3:=tb2.same s3;refine hZq fun q_ e_=> ?_;obtain ⟨q,eq,hq,_,_⟩:=tb3.ro.2 r rm;subst e_;have al:(((slk m T).take j).filter fun x=>decide (0 < T.ln x n)).length≤m:=yY (zp _ _) (yY (List.length_take_le' _ _) (lenr _));refine ⟨_,rfl,D.a,D.C,D.dx,_,_,rfl,tb3.ob,hk.cls,hk.nl,fl _ _,_,rfl,pl,_,(r:Int),_,rfl,rfl,SqL.of tb3.li,aJ eq,2,rfl,q,_,-2,_,rfl,rfl,SqL.of hq,mn,_,0,rfl,rfl,_,rfl,?_⟩;by_cases z:0 < T.ln r n
   · rw [decide_eq_true z];refine iteT ?_;refine ⟨_,rfl,D.a,D.C,D.dx,_,_,rfl,tb3.ob,hk.cls,hk.nl,fl _ _,_,rfl,pl,_,(r:Int),_,rfl,rfl,SqL.of tb3.li,aJ eq,1,rfl,q,_,-1,_,rfl,rfl,SqL.of hq,tf,_,rfl,D.a,D.C,D.dx,_,_,rfl,tb3.ob,hk.cls,hk.nl,fl _ _,_,rfl,pl,_,(r:Int),_,rfl,rfl,SqL.of tb3.li,aJ eq,2,rfl,q,_,-2,_,rfl,rfl,SqL.of hq,mn,_,_,rfl,rfl,⟨z,cG (bl r n rm (by omega)) hW.big⟩,_,rfl,?_⟩
     refine CompN.mk hj (by rw [yM,yM];omega) hL ⟨aq nL s3,a8,?_⟩
     rw [av er,zF];simp [z]
   · rw [decide_eq_false z];refine iteF ?_;refine CompS.mk hj ⟨s3,hL,?_⟩;rw [av er,zF];simp [z]
 rintro acc H3 ⟨s3,hL,rfl⟩;have lnv:(nv (slk m T)).length=(slk m T).length:=by unfold nv;rw [yM]
 rw [lnv,zg] at hL;obtain ⟨ms,ems⟩:∃ms:List Int,ms=((slk m T).filter fun x=>decide (0 < T.ln x n)).map fun x=> -(T.ln x (n+1) / T.ln x n):=⟨_,rfl⟩;rw [←ems] at hL
 have msl:ms.length≤m:=by
  rw [ems,yM];exact yY (zp _ _) (lenr _)
 refine ⟨l1,L',_,_,rfl,rfl,s3 _ _ (s2 _ _ a8),hL,by rw [yM];show 1+ms.length≤sizeLine;omega,fun p np=> ?_⟩
 have sp:=aa (o:= .lst ([.int 1]++ms.map V.int)) np;refine ⟨p,1::ms,rfl,SqL.of a8,by simp,fun M hM hMx=> ?_⟩
 have M1:1≤M:=hMx 1 yO
 have MC:M≤(C:Int)+1:=by
  rcases yV.mp hM with e|e
  · rw [e];omega
  · rw [ems] at e;obtain ⟨x,hx,rfl⟩:=zo.mp e;rw [zK,slk_mem] at hx;have h1:=bl x (n+1) hx.1.1 (by omega)
    have h2:=cM (T.ln x (n+1)) (T.ln x n);omega
 have MP:∀i,i < m→T.sd i < m→0 < T.ln i n→ -(T.ln i (n+1) / T.ln i n)≤M:=fun i hi hs hp=>by
  refine hMx _ (yR _ ?_);rw [ems];refine zo.mpr ⟨i,?_,rfl⟩;rw [zK,slk_mem];exact ⟨⟨hi,hs⟩,decide_eq_true hp⟩
 have MB:Big M:=big1 (C:=C) (by omega) hW.big
 have sA:=((sl1.trans s2).trans s3).trans sp;have tb4:=hT.same sA;refine am ?_;refine ⟨_,rfl,D,m,n,scs,us,ws,pl,ls,T,rfl,hk,tb4,hO.pm,fun l2 ls2 H5 s5 hl2 hrw=> ?_⟩;have tb5:=tb4.same s5;refine am ?_;dsimp only;refine tK ?_;refine bN rfl ?_;refine ⟨_,rfl,l2,rfl,⟨_,SqL.of hl2⟩,fun L2 nL2=> ?_⟩;refine bG (xs:=ls2) (fun j acc H6=>Same H5 H6∧H6 L2=some (.lst acc)∧acc=(Wg.ls j fun j=>Wg.pt m n M T (m+j)).map V.int∧j≤n) ⟨aa nL2,a8,rfl,zf _⟩ (fun j acc H6 p=>SqL.of (p.1 _ _ hl2)) ?_ ?_
 · rintro j x acc H6 hj ex ⟨s6,hL2,rfl,_⟩;rw [hrw.1] at hj;obtain ⟨q,eq,hq⟩:=hrw.2 j hj;rw [eq] at ex;cases ex;have hq6:=s6 _ _ hq;have b1:=lU (k:=m+j) (c:=n) hO.pm bb bl (by omega)
   refine ⟨_,rfl,2,rfl,q,_,-2,_,rfl,rfl,SqL.of hq6,mn,_,rfl,_,_,rfl,rfl,⟨cG b1 hW.big,MB⟩,_,rfl,1,rfl,q,_,-1,_,rfl,rfl,SqL.of hq6,tf,_,_,rfl,rfl,?_⟩;show CompN _ _ _ _ _ (V.int (lno m n T (m+j) n*M+lno m n T (m+j) (n+1))) H6;rw [si];refine CompN.mk (by rw [hrw.1];exact hj) (by rw [yM,Wg.ls_len];omega) hL2 ⟨aq nL2 s6,a8,?_,hj⟩
   unfold Wg.ls;rw [zO,z4,z4];rfl
 · rintro acc H6 ⟨s6,hL2,rfl,_⟩;rw [hrw.1] at hL2;have tb6:=tb5.same s6;refine ⟨_,rfl,D.a,D.C,D.dx,_,_,rfl,tb6.ob,hk.cls,hk.nb,rfl,_,rfl,_,_,rfl,rfl,⟨cG bb hW.big,MB⟩,two,fun t nt=> ?_⟩;have st:=aa (o:= .tup [.ref L2, .int (T.bot*M)]) nt;exact k t L2 _ M (((sA.trans s5).trans s6).trans st) a8 (st _ _ hL2) M1 MC MP
def qx:Sp:=fun vs H Q _=>∃(D:TA) (m n:Nat) (scs:List Int) (us:List Tr) (ws:List V) (pl:Addr) (ls:List V) (T:Wg.Tb) (t l:Addr) (b:Int) (tp:Nat→Int),vs= [.ref D.a, .ref t]∧Tk K D.C∧Tab D m n scs us ws pl ls T H∧H t=some (.tup [.ref l, .int b])∧H l=some (.lst ((Wg.ls n tp).map V.int))∧0 < b∧Big b∧us.Nodup∧(∀u∈us,Ty .tm u∧u.depth≤7)∧
 ∀(d:Addr) (H':Hp) (G:Tr→Fr),H d=none→Same H H'→Dj.DAt P w K H' d us G→(∀j u,us[j]?=some u→G u=(fx (tp j) b,fy (tp j) b))→Q (.ref d) H'
theorem scNua:FnScope ["table","point","tops","bottom"] ["table","point"] (ag sNua):= .of
theorem wI {f fF:Addr} {fd dF:FuncData} (F:Fun K "numbers_at" "numbers_at" sNua f fd) (B:Blt mg)
 (GF:FnOk P w K mg base CX0 2 fF dF ["top","bottom"] mM) (kF:PySem.W.keepIn K (.ref fF)=true) (bF:Binds K dF ["top","bottom"] []) (mF:mg "fraction"=some (.ref fF)):
 FnOk P w K mg base CX0 3 f fd ["table","point"] (qx (P:=P) (w:=w) (K:=K)):=by
 refine F.okb scNua fun vs H Q E h=> ?_;refine hZq fun q_ e_=> ?_;obtain ⟨D,m,n,scs,us,ws,pl,ls,T,t,l,b,tp,rfl,hk,hT,ht,hl,hb,bb,nd,hus,k⟩:=h;subst e_;refine ⟨rfl,fun cdv A outer s hr=> ?_⟩;have hu1:(A.deeper (PyProof.Rows.envOfC (Str.ofString "numbers_at") (ag sNua) s.heap.objs.size f cdv)).units+30 < cLine:=by have:=hr.units;omega
 have nd3:(["term","top","bottom"]:List Str).Nodup:=by decide +kernel
 refine ⟨_,ae (dQ (pv 1) (aW (n:=2) rfl (ak (pgA 2 scNua.nd) (ak (eC (i:=3) scNua.nd rfl (Or.inr rfl) (Or.inl rfl)) aL))))
  (ah (ax (Dj.pe_compJ (NC:= ["term","top","bottom"]) (mp:= [none,none,some 3]) (g:=gTup K 2 (aV (aG 0) (aV (aG 1) gNil))) rfl hu1 (jo (k:= .lst) rfl B.zi (a0 (aP (pv 0) rfl) (a0 (pv 2) a9)))
   (fun _ _ _ _ _=>aW (n:=2) rfl (ak (pgA 0 nd3) (ak (pgA 1 nd3) aL))) (fun _ _ _ _ _=>aN)
   (fun _ _ _ _ _=>pv 0) (fun _ _ _ _ _=>ai GF hr rfl mF kF bF .nil ar (a0 (pv 1) (a0 (pv 2) a9)))))),?_⟩
 have hL20:(20000:Nat)≤sizeLine:=by decide +kernel
 have n64:=hT.n64;have wl:=hT.tt.len;have ul:=hT.ul;obtain ⟨G,eG⟩:∃G:Tr→Fr,G=fun u=>(fx (tp (Fm.ix us u)) b,fy (tp (Fm.ix us u)) b):=⟨_,rfl⟩;have hG:∀j u,us[j]?=some u→G u=(fx (tp j) b,fy (tp j) b):=fun j u e=>by rw [eG];show (fx (tp (Fm.ix us u)) b,_)=_;rw [Fm.ix_eq nd e]
 refine ⟨_,rfl,t,_,rfl,SqT.of ht,rfl,_,_,rfl,_,_,rfl,rfl,?_⟩;dsimp only;refine Dj.comp_zipJ (P:=P) (w:=w) (K:=K) (xs:=ws) (ys:=(Wg.ls n tp).map V.int) (rest:= [some (.int b)]) (a:=D.pt) (b:=l) rfl (by rw [yM,Wg.ls_len];omega) (fun Q q=>⟨_,rfl,D.a,D.C,D.dx,_,_,rfl,hT.ob,hk.cls,hk.nt,rfl,_,rfl,q⟩) (SqL.of hT.tm) (SqL.of hl) fun d nd'=> ?_
 refine ⟨fun j acc H'=>Same H H'∧Dj.DJ P w K H' d acc∧Paired (Dj.En H' G) acc (us.take j),⟨aa nd',⟨a8,fun p m=>(by cases m)⟩,by rw [zG];exact .nil⟩,fun j acc H' p=>⟨SqL.of (p.1 _ _ hT.tm),SqL.of (p.1 _ _ hl)⟩,?_,?_⟩
 · rintro j T' x y acc H' hj ⟨s2,hD,hP⟩ ex ey nT;have jn:j < n:=by omega
   rw [fX jn] at ey;cases ey;obtain ⟨u,eu,hu⟩:=hT.tt.get' ex;obtain ⟨ty,dp⟩:=hus u (yT eu);obtain ⟨b',rfl⟩:=Dj.tm_ref ty hu;have sT:=aa (o:= .tup [.ref b', .int (tp j)]) nT;refine ⟨_,rfl,b',Dj.ktL u,rfl,?_⟩;refine ⟨_,rfl,_,rfl,tp j,b,rfl,hb,bb,fun q nq=> ?_⟩;have sq:=aa (o:= .tup [.int (fx (tp j) b), .int (fy (tp j) b)]) nq;have hu3:=hu.mono (Kd.of_same ((s2.trans sT).trans sq));have hD3:Dj.DJ P w K (upd (upd H' T' (.tup [.ref b', .int (tp j)])) q (.tup [.int (fx (tp j) b), .int (fy (tp j) b)])) d acc:=hD.kd (Kd.of_same (sT.trans sq)) ((sT.trans sq) _ _ hD.at_);have hP3:=Dj.en_mono (Kd.of_same (sT.trans sq)) hP
   have hv:TrAt (upd (upd H' T' (.tup [.ref b', .int (tp j)])) q (.tup [.int (fx (tp j) b), .int (fy (tp j) b)])) (.ref q) (frT (G u)):=by
    rw [hG j u eu];exact c6 a8 at_i at_i
   have key:=Dj.key_tm ty dp hu3 (K:=K);have pl':=Paired.length hP;rw [zh] at pl'
   have hno:u∉us.take j:=fun m=>by
    obtain ⟨i,hi,e⟩:=zS m;rw [zh] at hi;rw [List.getElem_take] at e;have:=vi nd eu (show us[i]?=some u by rw [yN (by omega),e])
    omega
   have e0:=(Dj.en_val hP3 (fun t m=>(hus t (zY m)).1) ty).2 hno
   have ep:Dj.putJ acc (Dj.ktL u) b' (.ref q)=acc++ [(Dj.ktL u,b', .ref q)]:=by
    unfold Dj.putJ;rw [e0,if_neg (by simp)]
   refine Dj.CompJ.mk (by omega) (by omega) hD3 key ⟨?_,hD3.put key,?_⟩
   · intro x o e;have:=((s2.trans sT).trans sq) _ _ e;rw [af (fun z=>by rw [z,nd'] at e;cases e)]
     exact this
   · rw [ep,av eu];have kd:=Dj.Kd.updJ (o:=Dj.dJ P w d (acc++ [(Dj.ktL u,b', .ref q)])) hD3.at_;exact Paired.snoc (Dj.en_mono kd hP3) ⟨rfl,hu3.mono kd,hv.mono kd⟩
 · rintro acc H2 ⟨s2,hD,hP⟩;rw [wl,zg] at hP;exact k d H2 G nd' s2 ⟨⟨acc,hD,hP⟩,hus,nd⟩ hG
end
end K40
namespace L2
open PySem PySem.Spec PyProof.Rows
theorem ext3 {o p q:Option V} {r:St}:Ext (none::none::none::r) (o::p::q::r)
 |0,v,e=>by cases (zb (show some (none:Option V)=some (some v) from e))
 |1,v,e=>by cases (zb (show some (none:Option V)=some (some v) from e))
 |2,v,e=>by cases (zb (show some (none:Option V)=some (some v) from e))
 |j+3,v,e=>e
theorem me {K:PySem.W.Frag} {a:Addr} {mp:List (Option Nat)} {tl:TE} {g:TG} {tc:TT} {te:TE} {Q:VK} {σ:L2.St} {H H1:Hp} {xs:List V}
 (ha:∀Q:VK,Q (.ref a) H1→tl σ H Q) (h1:SqL K H1 a xs)
 (h:∀D,H1 D=none→∃Pv:Nat→List V→Hp→Prop,Pv 0 [] (upd H1 D (.lst []))∧(∀i acc H,Pv i acc H→SqL K H a xs)∧
  (∀i z acc H,i < xs.length→Pv i acc H→xs[i]?=some z→g z (subS mp σ) H fun σ4 H4=>Ext (subS mp σ) σ4∧tc σ4 H4 fun b H5=>if b=true then te σ4 H5 (CompN xs.length i D acc Pv) else CompS xs.length i acc Pv H5)∧∀acc H,Pv xs.length acc H→Q (.ref D) H):
 cz mp (nJ K tl) g tc te σ H Q:=by
 unfold cz;refine ha _ ⟨a,rfl,⟨xs,h1⟩,fun D nD=> ?_⟩;obtain ⟨Pv,p0,pq,ps,pd⟩:=h D nD;refine ⟨fun i m acc H=>m=xs.length - i∧i≤xs.length∧Pv i acc H,⟨xs.length,by simp,zf _,p0⟩,?_⟩
 rintro i m acc H ⟨rfl,hi,p⟩;have q1:=pq i acc H p;by_cases hlt:i < xs.length
 · refine .inr ⟨⟨xs,xs[i],q1,by simp [hlt]⟩,?_⟩
   rintro v H' ⟨rfl,y⟩;exact ps i v acc _ hlt p (y xs q1)
 · have ei:i=xs.length:=by omega
   subst ei;exact .inl ⟨⟨xs,q1,yP _⟩,pd acc H p⟩
end L2
namespace K40
open PySem L2 Mth Tre Wd Su Tw Fm
theorem jJ {sp:Sp} {dvs:List V} {E:XK} {r:R2} {ta tb:TE} {i:Nat} {u:TS} {Z:Ends} {σ:L2.St} {H:Hp} (h:ta σ H fun x H1=>tb σ H1 fun y H2=>r x y H2 fun v H3=>sp ([v]++dvs) H3 (fun x H4=>aG i x σ H4 (u Z)) E):tSeq (tAsg (vc sp dvs E (eJ (tOp r ta tb) tNil)) (aG i)) u Z σ H:=h
theorem pG {r:R2} {ta tb:TE} {σ:L2.St} {H:Hp} {Q:List V→Hp→Prop} (h:ta σ H fun x H1=>tb σ H1 fun y H2=>r x y H2 fun v H3=>Q [v] H3):eJ (tOp r ta tb) tNil σ H Q:=h
structure Bnd where
 ps:List Pq
 lim:Fr
 st:Bool
noncomputable def bdT (b:Bnd):Tr:= .tup [sumT b.ps,frT b.lim, .bl b.st]
theorem iZ {H:Hp} {v:V} {a b c:Tr} (h:TrAt H v (.tup [a,b,c])):∃r x y z,v= .ref r∧H r=some (.tup [x,y,z])∧TrAt H x a∧TrAt H y b∧TrAt H z c:=by
 obtain ⟨r,vs,rfl,hr,hT⟩:=at_t h;obtain ⟨x,r1,rfl,h1,h2⟩:=hT.inv;obtain ⟨y,r2,rfl,h3,h4⟩:=h2.inv;obtain ⟨z,r3,rfl,h5,h6⟩:=h4.inv;unfold TrsAt at h6;subst h6;exact ⟨r,x,y,z,rfl,hr,h1,h3,h5⟩
noncomputable def scl (b:Bnd):Int:=lcmF 1 (b.ps.map (·.2)++ [b.lim])
noncomputable def rowF (us:List Tr) (b:Bnd) (c:Nat):Int:=
 if c < us.length then -(cw (scl b) (us.getD c .non) b.ps) else if c=us.length then wh b.lim (scl b) else if b.st then -1 else 0
noncomputable def Lf (bs:List Bnd) (us:List Tr) (i:Nat):Nat→Int:=rowF us (bs.getD i ⟨[],(0,1),false⟩)
theorem tW {us:List Tr} {b:Bnd} {n:Nat} (h:us.length=n):Wg.ls (n+2) (rowF us b)=((us.map fun t=>cw (scl b) t b.ps).map fun x=> -x)++ [wh b.lim (scl b),if b.st then -1 else 0]:=by
 subst h;unfold Wg.ls;rw [zO,zO,List.append_assoc,z4];congr 1
 · refine List.ext_getElem? fun i=> ?_;rw [yQ,yQ,yQ];by_cases hi:i < us.length
   · rw [List.getElem?_range hi,yN hi];simp only [Option.map_some,Option.some.injEq];unfold rowF;rw [if_pos hi,z9,yN hi];rfl
   · rw [A8 (by rw [zJ];omega),A8 (by omega)]
     rfl
 · show [rowF us b us.length,rowF us b (us.length+1)]=_;unfold rowF;rw [if_neg (by omega),if_pos rfl,if_neg (by omega),if_neg (by omega)]
structure Bz (bs:List Bnd) (X Y S k C:Nat):Prop where
 ps:∀b∈bs,b.ps.length≤k∧(∀p∈b.ps,p.2.1.natAbs≤X∧p.2.2.natAbs≤Y)∧b.lim.1.natAbs≤X∧b.lim.2.natAbs≤Y
 sc:∀b∈bs,(scl b).natAbs≤S
 y1:1≤Y
 xs:1≤X*S
 yb:Y^(k+2) < 2^8000
 cc:Wg.fac bs.length*(X*S)^bs.length≤C
 s1:S≤C
 c1:1≤C
 big:C < lim
structure Gbd (T:List Tr) (e:Nat) (b:Bnd):Prop where
 asc:Asc b.ps
 ps:∀p∈b.ps,Gm T p.1∧Gq e p
 lim:Gf e b.lim
 sh:Sh b.lim
theorem oz {Y a b:Nat} (hY:1≤Y) (h:a≤b):Y^a≤Y^b:=zN hY h
theorem Gbd.scl_ok {T:List Tr} {e:Nat} {b:Bnd} (g:Gbd T e b):0 < scl b∧(∀p∈b.ps,p.2.2∣scl b)∧b.lim.2∣scl b:=by
 have h:∀f∈b.ps.map (·.2)++ [b.lim],0 < f.2∧f.2.natAbs≤(((b.ps.map (·.2)++ [b.lim]).map fun f:Fr=>f.2.natAbs).foldr max 0):=by
  intro f mf;refine ⟨?_,?_⟩
  · rcases ze.mp mf with m|m
    · obtain ⟨p,mp,rfl⟩:=zo.mp m;exact (g.ps p mp).2.gf.pos
    · rw [z5.mp m];exact g.lim.pos
  · generalize b.ps.map (·.2)++ [b.lim]=fs at mf;clear g
    induction fs with
    |nil=>cases mf
    |cons x r ih=>
     rw [zc,List.foldr_cons];rcases yV.mp mf with rfl|mf
     · exact Nat.le_max_left _ _
     · exact yY (ih mf) (Nat.le_max_right _ _)
 obtain ⟨a1,a2,a3,_⟩:=gC (s:=1) (by decide) h
 refine ⟨a1,fun p mp=>a3 p.2 (zw _ (zo.mpr ⟨p,mp,rfl⟩)),a3 _ (yX _ yO)⟩
theorem Bz.wb {bs:List Bnd} {X Y S k C:Nat} (h:Bz bs X Y S k C) {T:List Tr} {e:Nat} (g:∀b∈bs,Gbd T e b) (us:List Tr):Wb bs.length us.length (Lf bs us) (bs.map scl) C:=by
 refine ⟨⟨X*S,⟨fun i c hi hc=> ?_,h.xs⟩,h.cc⟩,fun s ms=> ?_,h.c1,h.big⟩
 · have mb:bs.getD i ⟨[],(0,1),false⟩∈bs:=by
    rw [z9,yN hi];exact zM hi
   unfold Lf;generalize bs.getD i ⟨[],(0,1),false⟩=b at mb;obtain ⟨_,h2,h3,_⟩:=h.ps b mb;have hs:=h.sc b mb;have gb:=g b mb;unfold rowF;split
   · rw [A9];refine yY (vw (e:=e) (M:=X) fun p mp=>⟨(gb.ps p mp).2.gf.pos,(h2 p mp).1⟩) (Nat.mul_le_mul_left _ hs)
   · split
     · exact yY (uU gb.lim.pos) (zX h3 hs)
     · have:=h.xs;split
       · show 1≤X*S;exact this
       · exact zf _
 · obtain ⟨b,mb,rfl⟩:=zo.mp ms;exact ⟨(g b mb).scl_ok.1,yY (h.sc b mb) h.s1⟩
section
variable {P:Program} {w:World} {K:PySem.W.Frag} {mg:Str→Option Value} {base:Heap} {T0:Addr}
def pZ (C0:Addr):Sp:=fun vs H Q _=>∃(lb lsu:Addr) (xs ys:List V) (bs:List Bnd) (ex:List (List Pq)) (T:List Tr) (e X Y S k C:Nat),vs= [.ref lb, .ref lsu]∧H lb=some (.lst xs)∧TrsAt H xs (bs.map bdT)∧H lsu=some (.lst ys)∧TrsAt H ys (ex.map sumT)∧
 (∀b∈bs,Gbd T e b)∧(∀ps∈ex,∀p∈ps,Gm T p.1)∧e≤8000∧T.length < 60∧bs.length≤64∧ex.length≤64∧k≤60∧Bz bs X Y S k C∧
 ∀(D:TA) (H':Hp) (us:List Tr) (ws:List V) (pl:Addr) (ls:List V) (Tb:Wg.Tb),D.C=C0→Same H H'→Tab D bs.length us.length (bs.map scl) us ws pl ls Tb H'→Okt bs.length us.length (Lf bs us) Tb→us.Nodup→(∀u∈us,Gm T u)→us.length≤T.length→
  (∀x,x∈us↔(∃b∈bs,∃p∈b.ps,p.1=x)∨∃ps∈ex,∃p∈ps,p.1=x)→H D.a=none→H D.pss=none→H D.ph=none→Q (.ref D.a) H'
theorem scTof:FnScope ["bounds","sums","bound","terms","pairs","strict","scales","lines","scale","counts","table"] ["bounds","sums"] (ag sTof):= .of
theorem wy {f fTm fSc fSh fCt fWh fI fSe C0:Addr} {fd dTm dSc dSh dCt dWh dI dSe:FuncData} (F:Fun K "table_of" "table_of" sTof f fd) (B:Blt mg) (hk:Tk K C0)
 (GTm:FnOk P w K mg base CX0 42 fTm dTm ["sums"] qe) (kTm:PySem.W.keepIn K (.ref fTm)=true) (bTm:Binds K dTm ["sums"] []) (mTm:mg "terms_of"=some (.ref fTm))
 (GSc:FnOk P w K mg base CX0 2 fSc dSc ["shares"] qu) (kSc:PySem.W.keepIn K (.ref fSc)=true) (bSc:Binds K dSc ["shares"] []) (mSc:mg "scale_of"=some (.ref fSc))
 (GSh:FnOk P w K mg base CX0 1 fSh dSh ["pairs"] qm) (kSh:PySem.W.keepIn K (.ref fSh)=true) (bSh:Binds K dSh ["pairs"] []) (mSh:mg "shares_in"=some (.ref fSh))
 (GCt:FnOk P w K mg base CX0 42 fCt dCt ["pairs","terms","scale"] qF) (kCt:PySem.W.keepIn K (.ref fCt)=true) (bCt:Binds K dCt ["pairs","terms","scale"] []) (mCt:mg "counts_of"=some (.ref fCt))
 (GWh:FnOk P w K mg base CX0 1 fWh dWh ["share","scale"] mG) (kWh:PySem.W.keepIn K (.ref fWh)=true) (bWh:Binds K dWh ["share","scale"] []) (mWh:mg "whole_of"=some (.ref fWh))
 (M:Mk K C0 fI) (GI:FnOk P w K mg base CX0 1 fI dI ["self","terms","scales","lines"] (lu (K:=K) C0)) (bI:Binds K dI ["self","terms","scales","lines"] []) (mC:mg "Table"=some (.ref C0))
 (GSe:FnOk P w K mg base CX0 3 fSe dSe ["table"] (qp (K:=K))) (kSe:PySem.W.keepIn K (.ref fSe)=true) (bSe:Binds K dSe ["table"] []) (mSe:mg "settle"=some (.ref fSe)):
 FnOk P w K mg base CX0 43 f fd ["bounds","sums"] (pZ C0):=by
 refine F.okb scTof fun vs H Q E h=> ?_;refine hZq fun q_ e_=> ?_;obtain ⟨lb,lsu,xs,ys,bs,ex,T,e,X,Y,S,k,C,rfl,hlb,hxs,hls,hys,hg,hex,he,hT60,b64,ex64,k60,hz,q⟩:=h;subst e_;refine ⟨rfl,fun cdv A outer s hr=> ?_⟩;have hr1:Room 1 _:=hr.mono (by decide)
 have hr2:Room 2 _:=hr.mono (by decide)
 have hr3:Room 3 _:=hr.mono (by decide)
 have nd1:(["bound"]:List Str).Nodup:=by decide +kernel
 have nd1':(["count"]:List Str).Nodup:=by decide +kernel
 have nd3:(["pairs","bound","strict"]:List Str).Nodup:=by decide +kernel
 refine ⟨_,ae (psA 3 scTof.nd (ai GTm hr rfl mTm kTm bTm .nil ar (a0 (aj eQ (aQ (NC:= ["bound"]) (mp:= [none]) rfl (aO (pv 0)) (fun _ _ _ _ _=>pgA 0 nd1) (fun _ _ _ _ _=>aN) (fun _ _ _ _ _=>ao (r:=rIxT K) aA (pv 0) ac fun _ _=>rfl)) (bV fm rfl B.li PyProof.Rows.boot_list (a0 (pv 1) a9))) a9)))
  (ae (dr (i:=6) (NC:= ["pairs","bound","strict"]) (mp:= [none,none,none]) (g:=gTup K 3 (aV (aG 0) (aV (aG 1) (aV (aG 2) gNil)))) rfl scTof.nd rfl rfl rfl (aO (pv 0))
   (fun _ _ _ _ _=>aW (n:=3) rfl (ak (pgA 0 nd3) (ak (pgA 1 nd3) (ak (pgA 2 nd3) aL)))) (fun _ _ _ _ _=>aN)
   (fun _ _ _ _ _=>ai GSc hr2 rfl mSc kSc bSc .nil ar (a0 (aj eQ (ai GSh hr1 rfl mSh kSh bSh .nil ar (a0 (pv 0) a9)) (bO (a0 (pv 1) a9))) a9)))
  (ae (psA 7 scTof.nd (bO a9))
  (ae (cg PassesOwn.never rfl (jo (k:= .lst) rfl B.zi (a0 (pv 0) (a0 (pv 6) a9))) (aW rfl (ak (aW (n:=3) rfl (ak (pgA 4 scTof.nd) (ak (pgA 2 scTof.nd) (ak (pgA 5 scTof.nd) aL)))) (ak (pgA 8 scTof.nd) aL)))
   (ae (psA 9 scTof.nd (ai GCt hr rfl mCt kCt bCt .nil ar (a0 (pv 4) (a0 (pv 3) (a0 (pv 8) a9)))))
   (ah (bu (cS PySem.F.plainAttrs_list PySem.F.slot_list_append PySem.F.type_list_append bf (pv 7) (a0 (aj eQ (aQ (NC:= ["count"]) (mp:= [none]) rfl (aO (pv 9)) (fun _ _ _ _ _=>pgA 0 nd1') (fun _ _ _ _ _=>aN) (fun _ _ _ _ _=>c9 bq (pv 0)))
    (bO (a0 (ai GWh hr1 rfl mWh kWh bWh .nil ar (a0 (pv 2) (a0 (pv 8) a9))) (a0 (dh (eO (pv 5) fun _=>rfl) (c9 bq ac) ac) a9)))) a9))))))
  (ae (psA 10 scTof.nd (ud M GI hr2 rfl mC bI .nil ar (a0 (pv 3) (a0 (pv 6) (a0 (pv 7) a9)))))
  (ae (bu (ai GSe hr3 rfl mSe kSe bSe .nil ar (a0 (pv 10) a9)))
  (ah (ax (pv 10)))))))),?_⟩
 have hL20:(20000:Nat)≤sizeLine:=by decide +kernel
 have xl:=hxs.len;rw [yM] at xl;have yl:=hys.len;rw [yM] at yl;obtain ⟨pss,epss⟩:∃pss,pss=bs.map (·.ps)++ex:=⟨_,rfl⟩;refine jJ ?_;refine bN rfl ?_;refine ⟨_,rfl,lb,rfl,⟨_,SqL.of hlb⟩,fun L1 nL1=> ?_⟩;refine bG (xs:=xs) (fun j acc H'=>Same H H'∧H' L1=some (.lst acc)∧TrsAt H' acc ((bs.take j).map fun b=>sumT b.ps)) ⟨aa nL1,a8,by rw [zG];exact .nil⟩ (fun j acc H' p=>SqL.of (p.1 _ _ hlb)) ?_ ?_
 · rintro j x acc H' hj exx ⟨s2,hL,hA⟩;obtain ⟨t,et,ht⟩:=(hxs.mono (Kd.of_same s2)).get' exx;rw [yQ] at et;obtain ⟨b,eb,rfl⟩:=yS.mp et;refine hZq fun q_ e_=> ?_;obtain ⟨r,x1,y1,z1,rfl,hr',hx1,_,_⟩:=iZ ht;subst e_;have al:=hA.len;rw [yM,zh] at al;refine ⟨_,rfl,r,_,0,_,rfl,rfl,SqT.of hr',rfl,?_⟩;have kd:=Kd.upd (ys:=acc++ [x1]) hL;refine CompN.mk hj (by omega) hL ⟨aq nL1 s2,a8,?_⟩
   rw [av eb,z4];exact TrsAt.app (.cons (hx1.mono kd) .nil) (hA.mono kd)
 rintro acc H1 ⟨s1,hL1,hA⟩;rw [xl,zg] at hA;have al:=hA.len;rw [yM] at al;refine ⟨_,rfl,lsu,_,rfl, .inl (SqL.of (s1 _ _ hls)),fun l2 nl2=> ?_⟩;have sl2:=aa (o:= .lst ys) nl2;refine ⟨L1,l2,_,_,rfl,rfl,sl2 _ _ hL1,a8,by omega,fun p1 np1=> ?_⟩
 have sp1:=aa (o:= .lst (acc++ys)) np1;have sA:=(s1.trans sl2).trans sp1;refine ⟨p1,_,pss,T,rfl,a8,?_,?_,by omega,fun lt ws us H2 nlt s2 hlt hws und umem=> ?_⟩
 · rw [epss,z4,Ah];exact TrsAt.app (hys.mono (Kd.of_same sA)) (hA.mono (Kd.of_same (sl2.trans sp1)))
 · intro ps mps p mp;rw [epss] at mps;rcases ze.mp mps with m|m
   · obtain ⟨b,mb,rfl⟩:=zo.mp m;exact ((hg b mb).ps p mp).1
   · exact hex ps m p mp
 have umem':∀x,x∈us↔(∃b∈bs,∃p∈b.ps,p.1=x)∨∃ps∈ex,∃p∈ps,p.1=x:=fun x=>by
  rw [umem x,epss];constructor
  · rintro ⟨ps,m,h⟩;rcases ze.mp m with m|m
    · obtain ⟨b,mb,rfl⟩:=zo.mp m;exact .inl ⟨b,mb,h⟩
    · exact .inr ⟨ps,m,h⟩
  · rintro (⟨b,mb,h⟩|⟨ps,m,h⟩)
    · exact ⟨b.ps,zw _ (zo.mpr ⟨b,mb,rfl⟩),h⟩
    · exact ⟨ps,yX _ m,h⟩
 have ugm:∀u∈us,Gm T u:=fun u mu=>by
  rcases (umem' u).mp mu with ⟨b,mb,p,mp,rfl⟩|⟨ps,m,p,mp,rfl⟩
  · exact ((hg b mb).ps p mp).1
  · exact hex ps m p mp
 have uT:us.length≤T.length:=sub_len und fun u mu=>(ugm u mu).mem;have sB:=sA.trans s2;refine am ?_;refine cQ ?_;refine me (K:=K) (xs:=xs) (a:=lb) (fun Q q=>⟨_,rfl,q⟩) (SqL.of (sB _ _ hlb)) fun L3 nL3=> ?_;refine ⟨fun j acc H'=>Same H2 H'∧H' L3=some (.lst acc)∧acc=((bs.take j).map scl).map V.int,⟨aa nL3,a8,rfl⟩,fun j acc H' p=>SqL.of (p.1 _ _ (sB _ _ hlb)),?_,?_⟩
 · rintro j z acc H' hj ⟨s3,hL3,rfl⟩ ez;obtain ⟨t,et,ht⟩:=(hxs.mono (Kd.of_same (sB.trans s3))).get' ez;rw [yQ] at et;obtain ⟨b,eb,rfl⟩:=yS.mp et;have mb:=yT eb;refine hZq fun q_ e_=> ?_;obtain ⟨r,x1,y1,z1,rfl,hr',hx1,hy1,hz1⟩:=iZ ht;subst e_;refine hZq fun q_ e_=> ?_;obtain ⟨k1,k2,k3,k4⟩:=hz.ps b mb;subst e_;have gb:=hg b mb;refine ⟨r,_,rfl,SqT.of hr',rfl,_,_,rfl,_,_,rfl,_,_,rfl,rfl,ext3,di ?_⟩;refine ⟨_,rfl,x1,b.ps,rfl,hx1,by omega,fun l4 w4 H4 s4 nl4 hl4 hw4=> ?_⟩
   have w4l:=hw4.len;rw [yM] at w4l;refine ⟨_,rfl,(by show 1≤sizeLine;decide),fun l5 nl5=> ?_⟩
   have s5:=aa (o:= .lst [y1]) nl5;refine ⟨l4,l5,_,_,rfl,rfl,s5 _ _ hl4,a8,by show w4.length+1≤sizeLine;omega,fun p6 np6=> ?_⟩
   have s6:=aa (o:= .lst (w4++ [y1])) np6;refine ⟨p6,_,b.ps.map (·.2)++ [b.lim],Y,rfl,a8,?_,?_,hz.y1,?_,?_⟩
   · rw [z4,Ah];refine TrsAt.app (.cons (hy1.mono (Kd.of_same ((s4.trans s5).trans s6))) .nil) ?_;exact hw4.mono (Kd.of_same (s5.trans s6))
   · intro f mf;rcases ze.mp mf with m|m
     · obtain ⟨p,mp,rfl⟩:=zo.mp m;exact ⟨(gb.ps p mp).2.gf.pos,(k2 p mp).2⟩
     · rw [z5.mp m];exact ⟨gb.lim.pos,k4⟩
   · refine z6 (oz hz.y1 ?_) hz.yb;rw [z7,yM];show b.ps.length+1+1≤k+2;omega
   · have jl:j < bs.length:=(yW.mp eb).1;refine CompN.mk hj (by rw [yM,yM,zh];omega) (((s4.trans s5).trans s6) _ _ hL3) ⟨aq nL3 (((s3.trans s4).trans s5).trans s6),a8,?_⟩
     rw [av eb];simp [scl]
 rintro acc3 H3 ⟨s3,hL3,rfl⟩;rw [xl,zg] at hL3;have sC:=sB.trans s3;refine am ?_;refine ⟨(by show 0≤sizeLine;omega),fun pl npl=> ?_⟩
 have spl:=aa (o:= .lst []) npl;refine am ?_;have sD:=sC.trans spl;obtain ⟨H4,eH4⟩:∃H4,H4=upd H3 pl (.lst []):=⟨_,rfl⟩;rw [←eH4] at spl sD ⊢;have h4pl:H4 pl=some (.lst []):=by rw [eH4];exact a8
 have plN:H pl=none:=sC.free npl;have nbp:lb≠pl:=fun z=>by rw [z,plN] at hlb;cases hlb
 have h4b:=sD _ _ hlb;have h4sc:H4 L3=some (.lst ((bs.map scl).map V.int)):=spl _ _ hL3;have n3p:L3≠pl:=fun z=>by rw [z,npl] at hL3;cases hL3
 have h4t:H4 lt=some (.lst ws):=(s3.trans spl) _ _ hlt;have ntp:lt≠pl:=fun z=>by rw [z] at hlt;rw [s3 _ _ hlt] at npl;cases npl
 have hws4:=hws.mono (Kd.of_same (s3.trans spl))
 have kdP:∀ {H':Hp},But1 pl H4 H'→(∃zs,H' pl=some (.lst zs))→Kd H4 H':=fun {H'} b hp=>⟨fun x o e=>b _ _ (fun z=>by rw [z,h4pl] at e;cases e) e,fun x o e=>by
  by_cases z:x=pl
  · rw [z];exact hp
  · exact ⟨o,b _ _ z e⟩⟩
 refine ⟨_,rfl,_,rfl,lb,L3,xs,(bs.map scl).map V.int,rfl,SqL.of h4b,SqL.of h4sc,?_⟩
 refine sL (xs:=xs) (ys:=(bs.map scl).map V.int) (by rw [yM,yM];omega)
  (fun i σ H'=>(∃v2 v4 v5 v8 v9,σ= [some (.ref lb),some (.ref lsu),v2,some (.ref lt),v4,v5,some (.ref L3),some (.ref pl),v8,v9,none])∧But1 pl H4 H'∧∃acc,H' pl=some (.lst acc)∧acc.length=i∧∀j,j < i→∃q,acc[j]?=some (.ref q)∧H' q=some (.lst ((Wg.ls (us.length+2) (Lf bs us j)).map V.int))∧q≠pl)
  ⟨⟨none,none,none,none,none,rfl⟩,fun x o _ e=>e,[],h4pl,rfl,fun j hj=>absurd hj (Nat.not_lt_zero _)⟩ (fun i σ H' _ p=>⟨SqL.of (p.2.1 _ _ nbp h4b),SqL.of (p.2.1 _ _ n3p h4sc)⟩) ?_ ?_
 · rintro i Tt x y σ H' ex' ey _ ⟨⟨v2,v4,v5,v8,v9,rfl⟩,b1,acc',hpl,al',hz'⟩ nT;rw [yQ,yQ] at ey;have kd1:=kdP b1 ⟨_,hpl⟩;obtain ⟨t,et,ht⟩:=((hxs.mono (Kd.of_same sD)).mono kd1).get' ex';rw [yQ] at et;obtain ⟨b,eb,rfl⟩:=yS.mp et;rw [eb] at ey;cases ey;have mb:=yT eb;have ib:i < bs.length:=(yW.mp eb).1;have gb:=hg b mb;refine hZq fun q_ e_=> ?_;obtain ⟨r,x1,y1,z1,rfl,hr',hx1,hy1,hz1⟩:=iZ ht;subst e_;have sT:=aa (o:= .tup [.ref r, .int (scl b)]) nT;refine hZq fun q_ e_=> ?_;obtain ⟨k1,k2,k3,k4⟩:=hz.ps b mb;subst e_;have sclB:Big (scl b):=cG (yY (hz.sc b mb) hz.s1) hz.big;unfold TrAt at hz1;subst hz1;refine ⟨Tt,_,rfl,SqT.of a8,rfl,_,_,rfl,r,_,rfl,SqT.of (sT _ _ hr'),rfl,_,_,rfl,_,_,rfl,_,_,rfl,rfl,_,_,rfl,rfl,?_⟩;refine ⟨_,rfl,_,rfl,_,rfl,x1,b.ps,lt,ws,us,T,scl b,e,rfl,hx1.mono (Kd.of_same sT),gb.asc,gb.ps,he,sclB,by omega,sT _ _ (b1 _ _ ntp h4t),(hws4.mono kd1).mono (Kd.of_same sT),ugm,by omega,fun l5 H5 nl5 s5 hl5=> ?_⟩
   refine am ?_;refine ⟨_,rfl, .inl ⟨rfl,_,SqL.of ((sT.trans s5) _ _ hpl)⟩,?_⟩;refine pG ?_;refine bN rfl ?_;refine ⟨_,rfl,l5,rfl,⟨_,SqL.of hl5⟩,fun L6 nL6=> ?_⟩;refine bG (xs:=(us.map fun t=>cw (scl b) t b.ps).map V.int) (fun j acc H6=>Same H5 H6∧H6 L6=some (.lst acc)∧acc=(((us.map fun t=>cw (scl b) t b.ps).take j).map fun x=> -x).map V.int) ⟨aa nL6,a8,rfl⟩ (fun j acc H6 p=>SqL.of (p.1 _ _ hl5)) ?_ ?_
   · rintro j x acc H6 hj exx ⟨s6,hL6,rfl⟩;rw [yQ] at exx;obtain ⟨c,ec,rfl⟩:=yS.mp exx;have jl:j < us.length:=by have:=(yW.mp ec).1;rw [yM] at this;exact this
     refine ⟨_,rfl,c,rfl,?_⟩;refine CompN.mk hj (by rw [yM,yM,zh,yM];omega) hL6 ⟨aq nL6 s6,a8,?_⟩
     rw [av ec];simp
   rintro acc6 H6 ⟨s6,hL6,rfl⟩;rw [yM,zg] at hL6;have sE:=(sT.trans s5).trans s6;refine ⟨_,rfl,_,rfl,y1,b.lim,scl b,rfl,hy1.mono (Kd.of_same sE),gb.lim.pos,gb.lim.bot.big he,gb.lim.top.big he,sclB,_,rfl,b.st,rfl,?_⟩;have row:=tW (us:=us) (b:=b) (n:=us.length) rfl
   have eLf:Lf bs us i=rowF us b:=by
    unfold Lf;rw [z9,eb];rfl
   have accN:∀v:Int,(acc'++ [V.int v]).length=i+1:=fun v=>by rw [z7,al'];rfl
   have fin:∀st:Int,(if b.st=true then (-1:Int) else 0)=st→∀l7 p8,H6 l7=none→(upd H6 l7 (.lst [.int (wh b.lim (scl b)), .int st])) p8=none→
    But1 pl H4 (upd (upd (upd H6 l7 (.lst [.int (wh b.lim (scl b)), .int st])) p8 (.lst ((((us.map fun t=>cw (scl b) t b.ps).map fun x=> -x).map V.int)++ [.int (wh b.lim (scl b)), .int st]))) pl (.lst (acc'++ [.ref p8])))∧
    ∃acc,(upd (upd (upd H6 l7 (.lst [.int (wh b.lim (scl b)), .int st])) p8 (.lst ((((us.map fun t=>cw (scl b) t b.ps).map fun x=> -x).map V.int)++ [.int (wh b.lim (scl b)), .int st]))) pl (.lst (acc'++ [.ref p8]))) pl=some (.lst acc)∧acc.length=i+1∧
     ∀j,j < i+1→∃q,acc[j]?=some (.ref q)∧(upd (upd (upd H6 l7 (.lst [.int (wh b.lim (scl b)), .int st])) p8 (.lst ((((us.map fun t=>cw (scl b) t b.ps).map fun x=> -x).map V.int)++ [.int (wh b.lim (scl b)), .int st]))) pl (.lst (acc'++ [.ref p8]))) q=some (.lst ((Wg.ls (us.length+2) (Lf bs us j)).map V.int))∧q≠pl:=by
    intro st est l7 p8 nl7 np8;have s7:=aa (o:= .lst [.int (wh b.lim (scl b)), .int st]) nl7;have s8:=aa (o:= .lst ((((us.map fun t=>cw (scl b) t b.ps).map fun x=> -x).map V.int)++ [.int (wh b.lim (scl b)), .int st])) np8;have hpl8:=((sE.trans s7).trans s8) _ _ hpl;have n8:p8≠pl:=fun z=>by rw [z,(sE.trans s7) _ _ hpl] at np8;cases np8
    refine ⟨fun x o nx e=> ?_,acc'++ [.ref p8],a8,by rw [z7,al'];rfl,fun j hj=> ?_⟩
    · rw [af nx];exact ((sE.trans s7).trans s8) _ _ (b1 _ _ nx e)
    · rcases Nat.lt_or_ge j i with h|h
      · obtain ⟨q,a1,a2,a3⟩:=hz' j h;exact ⟨q,by rw [List.getElem?_append_left (by omega)];exact a1,by rw [af a3];exact ((sE.trans s7).trans s8) _ _ a2,a3⟩
      · have e:j=i:=by omega
        subst e;refine ⟨p8,by rw [A4 (by omega),al'];simp,?_,n8⟩
        rw [af n8,a8,eLf,row,z4,←est];rfl
   have lenA:∀z:Int,((((us.map fun t=>cw (scl b) t b.ps).map fun x=> -x).map V.int)).length+ [V.int (wh b.lim (scl b)),V.int z].length≤sizeLine:=fun z=>by
    rw [yM,yM,yM];show us.length+2≤sizeLine;omega
   cases hst:b.st with
   |true=>
    refine iteT ⟨1,rfl,two,fun l7 nl7=> ?_⟩;have s7:=aa (o:= .lst [.int (wh b.lim (scl b)), .int (-1)]) nl7;refine ⟨L6,l7,_,_,rfl,rfl,s7 _ _ hL6,a8,lenA _,fun p8 np8=> ?_⟩;have s8:=aa (o:= .lst ((((us.map fun t=>cw (scl b) t b.ps).map fun x=> -x).map V.int)++ [.int (wh b.lim (scl b)), .int (-1)])) np8;refine ⟨pl,acc',_,rfl,rfl,((sE.trans s7).trans s8) _ _ hpl,by omega,?_⟩
    obtain ⟨c1,c2⟩:=fin (-1) (by rw [hst];rfl) l7 p8 nl7 np8
    exact ⟨⟨_,_,_,_,_,rfl⟩,c1,c2⟩
   |false=>
    refine iteF ⟨two,fun l7 nl7=> ?_⟩;have s7:=aa (o:= .lst [.int (wh b.lim (scl b)), .int 0]) nl7;refine ⟨L6,l7,_,_,rfl,rfl,s7 _ _ hL6,a8,lenA _,fun p8 np8=> ?_⟩;have s8:=aa (o:= .lst ((((us.map fun t=>cw (scl b) t b.ps).map fun x=> -x).map V.int)++ [.int (wh b.lim (scl b)), .int 0])) np8;refine ⟨pl,acc',_,rfl,rfl,((sE.trans s7).trans s8) _ _ hpl,by omega,?_⟩
    obtain ⟨c1,c2⟩:=fin 0 (by rw [hst];rfl) l7 p8 nl7 np8
    exact ⟨⟨_,_,_,_,_,rfl⟩,c1,c2⟩
 intro σ H5 z_;refine hZq fun q_ e_=> ?_;obtain ⟨⟨v2,v4,v5,v8,v9,rfl⟩,b1,acc5,hpl5,al5,hz5⟩:=z_;subst e_;rw [xl] at al5 hz5;have kd5:=kdP b1 ⟨_,hpl5⟩;refine ⟨_,rfl,_,rfl,_,rfl,fun x dx nx ndx nex=> ?_⟩;have nxp:x≠pl:=fun z=>by rw [z,hpl5] at nx;cases nx
 have sx:Same H5 (upd (upd H5 dx (.own x)) x (.ins C0 dx [])):=(aa ndx).trans (aa (by rw [af nex.symm];exact nx))
 have o4:∀ {y:Addr} {o:HO},y≠pl→H4 y=some o→(upd (upd H5 dx (.own x)) x (.ins C0 dx [])) y=some o:=fun {y o} n e=>sx _ _ (b1 _ _ n e);have oH:∀ {y:Addr} {o:HO},H y=some o→H5 y=some o:=fun {y o} e=>b1 _ _ (fun z=>by rw [z,plN] at e;cases e) (sD _ _ e)
 have nxH:H x=none:=by
  cases qq:H x with
  |none=>rfl
  |some o=>rw [oH qq] at nx;cases nx
 refine ⟨x,dx,lt,L3,pl,bs.length,us.length,bs.map scl,us,ws,acc5,Lf bs us,rfl,hk,a8,o4 ntp h4t,(hws4.mono kd5).mono (Kd.of_same sx),rfl,o4 n3p h4sc,by rw [yM],sx _ _ hpl5,⟨al5,fun i hi=> ?_⟩,b64,by omega,fun D H6 eDa eDC b6 tb6 nps nph=>⟨rfl,?_⟩⟩
 · obtain ⟨q,a1,a2,_⟩:=hz5 i hi;exact ⟨q,a1,sx _ _ a2⟩
 refine am ?_;refine ⟨_,rfl,D,bs.length,us.length,C,bs.map scl,us,ws,pl,acc5,Lf bs us,by rw [eDa];rfl,by rw [eDC];exact hk,tb6,hz.wb hg us,fun pl' ls' Tb H7 bx tb7 ok7=> ?_⟩
 have o6:∀ {y:Addr} {o:HO},H y=some o→H6 y=some o:=fun {y o} e=>b6 _ _ (fun z=>by rw [z,nxH] at e;cases e) (sx _ _ (oH e))
 have fresh:∀ {y:Addr},(upd (upd H5 dx (.own x)) x (.ins C0 dx [])) y=none→H y=none:=fun {y} n=>by
  cases qq:H y with
  |none=>rfl
  |some o=>rw [sx _ _ (oH qq)] at n;cases n
 have nH:∀ {y z:Addr} {o:HO},H y=some o→H z=none→y≠z:=fun {y z o} e n w=>by rw [w,n] at e;cases e
 have res:=q D H7 us ws pl' ls' Tb eDC (fun y o e=>bx _ _ (by rw [eDa];exact nH e nxH) (nH e (fresh nps)) (nH e (fresh nph)) (o6 e)) tb7 ok7 und ugm uT umem' (by rw [eDa];exact nxH) (fresh nps) (fresh nph)
 rw [eDa] at res;exact ⟨_,rfl,res⟩
theorem big3 {C:Nat} {x y:Int} (h:x.natAbs≤C) (h2:y.natAbs≤C+1) (hb:C < lim):Big (x*y):=by
 unfold Big;rw [zr];exact z6 (zX (yY h (Nat.le_of_lt hb)) (yY h2 hb)) (z6 (Nat.le_of_eq (Nat.pow_add 2 2600 2600).symm) (Nat.pow_lt_pow_right (by decide) (by decide)))
def TmIn (us:List Tr) (bs:List Bnd):Prop:=us.Nodup∧∀x,x∈us↔∃b∈bs,∃p∈b.ps,p.1=x
structure WOut (T0:Addr) (H H':Hp) (bs:List Bnd) (l:Addr) (ws2:List V) (us2 us:List Tr) (Tb:Wg.Tb) (i:Nat):Prop where
 bt:ButT T0 H H'
 lm:Lm T0 H'
 ok:Okt bs.length us.length (Lf bs us) Tb
 hi:i < bs.length
 hs:Tb.sd i < bs.length
 ng:Ngv us.length Tb i
 le:∀c,c < us.length→Tb.ln i c≤0
 wt:tD H H' l ws2 us2 (wts (bs.map scl) (cnt us.length Tb i))
 tm:TmIn us bs
 nw:∀xs,H l≠some (.lst xs)
structure NOut (P:Program) (w:World) (K:PySem.W.Frag) (T0:Addr) (H H':Hp) (bs:List Bnd) (C:Nat) (d:Addr) (us:List Tr) (Tb:Wg.Tb) (M:Int) (G:Tr→Fr):Prop where
 bt:ButT T0 H H'
 lm:Lm T0 H'
 ok:Okt bs.length us.length (Lf bs us) Tb
 no:∀i,i < bs.length→Tb.sd i < bs.length→¬Ngv us.length Tb i
 m1:1≤M
 mc:M≤(C:Int)+1
 mp:∀i,i < bs.length→Tb.sd i < bs.length→0 < Tb.ln i us.length→ -(Tb.ln i (us.length+1) / Tb.ln i us.length)≤M
 da:Dj.DAt P w K H' d us G
 g:∀j u,us[j]?=some u→G u=(fx (Wg.pt bs.length us.length M Tb (bs.length+j)) (Tb.bot*M),fy (Wg.pt bs.length us.length M Tb (bs.length+j)) (Tb.bot*M))
 tm:TmIn us bs
 dn:H d=none
def pS (P:Program) (w:World) (K:PySem.W.Frag) (T0:Addr):Sp:=fun vs H Q _=>∃(lb:Addr) (xs:List V) (bs:List Bnd) (T:List Tr) (e X Y S k C:Nat),vs= [.ref lb]∧H lb=some (.lst xs)∧TrsAt H xs (bs.map bdT)∧(∀b∈bs,Gbd T e b)∧e≤8000∧T.length < 60∧bs.length≤64∧k≤60∧Bz bs X Y S k C∧Lm T0 H∧
 (∀r l H' ws2 us2 us Tb i,H' r=some (.tup [.str (Str.ofString "weights"), .ref l])→WOut T0 H H' bs l ws2 us2 us Tb i→Q (.ref r) H')∧
 ∀r d H' us Tb M G,H' r=some (.tup [.str (Str.ofString "numbers"), .ref d])→NOut P w K T0 H H' bs C d us Tb M G→Q (.ref r) H'
theorem scWgd:FnScope ["bounds","table","weights"] ["bounds"] (ag sWgd):= .of
theorem wq {f fTo fRe fNu fSt C0:Addr} {fd dTo dRe dNu dSt:FuncData} (F:Fun K "weighed" "weighed" sWgd f fd) (hk:Tk K C0)
 (GTo:FnOk P w K mg base CX0 43 fTo dTo ["bounds","sums"] (pZ C0)) (kTo:PySem.W.keepIn K (.ref fTo)=true) (bTo:Binds K dTo ["bounds","sums"] []) (mTo:mg "table_of"=some (.ref fTo))
 (GRe:FnOk P w K mg base CX0 5 fRe dRe ["table"] (qw (K:=K) T0)) (kRe:PySem.W.keepIn K (.ref fRe)=true) (bRe:Binds K dRe ["table"] []) (mRe:mg "refuted"=some (.ref fRe))
 (GNu:FnOk P w K mg base CX0 3 fNu dNu ["table","point"] (qx (P:=P) (w:=w) (K:=K))) (kNu:PySem.W.keepIn K (.ref fNu)=true) (bNu:Binds K dNu ["table","point"] []) (mNu:mg "numbers_at"=some (.ref fNu))
 (GSt:FnOk P w K mg base CX0 3 fSt dSt ["table"] (qk (K:=K))) (kSt:PySem.W.keepIn K (.ref fSt)=true) (bSt:Binds K dSt ["table"] []) (mSt:mg "strict_point"=some (.ref fSt)):
 FnOk P w K mg base CX0 44 f fd ["bounds"] (pS P w K T0):=by
 refine F.okb scWgd fun vs H Q E h=> ?_;refine hZq fun q_ e_=> ?_;obtain ⟨lb,xs,bs,T,e,X,Y,S,k,C,rfl,hlb,hxs,hg,he,hT60,b64,k60,hz,hLm,kw,kn⟩:=h;subst e_;refine ⟨rfl,fun cdv A outer s hr=> ?_⟩;have hr5:Room 5 _:=hr.mono (by decide)
 have hr3:Room 3 _:=hr.mono (by decide)
 refine ⟨_,ae (psA 1 scWgd.nd (ai GTo hr rfl mTo kTo bTo .nil ar (a0 (pv 0) (a0 (bO a9) a9))))
  (ae (psA 2 scWgd.nd (ai GRe hr5 rfl mRe kRe bRe .nil ar (a0 (pv 1) a9)))
  (ae (cf (vY (uf (pv 2)) (aE _)) (ah (ax (aU (a0 dX (a0 (pv 2) a9))))) bg)
  (ah (ax (aU (a0 dX (a0 (ai GNu hr3 rfl mNu kNu bNu .nil ar (a0 (pv 1) (a0 (ai GSt hr3 rfl mSt kSt bSt .nil ar (a0 (pv 1) a9)) a9))) a9))))))),?_⟩
 refine ⟨_,rfl,(by show 0≤sizeLine;omega),fun l0 nl0=> ?_⟩
 have s0:=aa (o:= .lst []) nl0;refine ⟨lb,l0,xs,[],bs,[],T,e,X,Y,S,k,C,rfl,s0 _ _ hlb,hxs.mono (Kd.of_same s0),a8, .nil,hg,(fun ps m=>by cases m),he,hT60,b64,by show 0≤64;decide,k60,hz,fun D H1 us ws pl ls Tb eDC s1 tb ok und ugm uT umem nDa nDs nDh=> ?_⟩
 have sA:=s0.trans s1;have tmi:TmIn us bs:=⟨und,fun x=>(umem x).trans ⟨fun h=>h.elim id (fun ⟨_,m,_⟩=>(by cases m)),fun h=>Or.inl h⟩⟩
 have fr:∀ {y:Addr},(upd H l0 (.lst [])) y=none→H y=none:=fun {y} n=>s0.free n;have toT:∀ {H':Hp},ButY T0 D H1 H'→ButT T0 H H':=fun {H'} b x o n ex=>b x o n (fun z=>by rw [z,fr nDa] at ex;cases ex) (fun z=>by rw [z,fr nDs] at ex;cases ex) (fun z=>by rw [z,fr nDh] at ex;cases ex) (sA _ _ ex)
 have hW:=hz.wb hg us;have hkD:Tk K D.C:=by rw [eDC];exact hk
 refine am ?_;refine ⟨_,rfl,D,bs.length,us.length,C,bs.map scl,us,ws,pl,ls,Lf bs us,Tb,rfl,hkD,tb,hW,ok,hLm.same sA,by omega,fun pl' ls' Tb' H2 bY hLm2 tb2 ok2 hno=> ?_,fun Tb' i l H2 ws2 us2 bY hLm2 ok2 hi hs hng hle hwt _ _ hnl=> ?_⟩
 · refine am ?_;refine ⟨_,rfl,_,rfl,?_⟩;rw [decide_eq_true rfl];refine iteF (eN ?_);refine ⟨_,rfl,_,rfl,D,bs.length,us.length,C,bs.map scl,us,ws,pl',ls',Lf bs us,Tb',rfl,hkD,tb2,hW,ok2,fun t l H3 M s3 ht hl m1 mc mp=> ?_⟩;have hb3:=(hW.bnd ok2.inv ok2.pm).1;refine ⟨D,bs.length,us.length,bs.map scl,us,ws,pl',ls',Tb',t,l,Tb'.bot*M,_,rfl,hkD,tb2.same s3,ht,hl,Int.mul_pos ok2.inv.pos (by omega),big3 hb3 (by omega) hz.big,und,fun u mu=> ?_,fun d H4 G nd s4 da hG=> ?_⟩
   · obtain ⟨b,mb,p,mp',rfl⟩:=(tmi.2 u).mp mu;exact ⟨((hg b mb).ps p mp').2.ty,((hg b mb).ps p mp').2.dep⟩
   · have bT:ButT T0 H H4:=toT ((bY.trans (.of_same s3)).trans (.of_same s4))
     have dH:H d=none:=by
      cases qq:H d with
      |none=>rfl
      |some o=>
       by_cases z:d=T0
       · subst z;obtain ⟨ps,hp⟩:=(hLm2.same s3).tbl;rw [hp] at nd;cases nd
       · have:=toT (bY.trans (.of_same s3)) _ _ z qq;rw [this] at nd;cases nd
     refine ⟨two,fun r nr=> ?_⟩;have sr:=aa (o:= .tup [.str (Str.ofString "numbers"), .ref d]) nr;exact kn r d _ us Tb' M G a8 ⟨fun x o n ex=>sr _ _ (bT x o n ex),((hLm2.same s3).same s4).same sr,ok2,hno,m1,mc,mp,da.same sr,hG,tmi,dH⟩
 · refine am ?_;refine ⟨_,rfl,_,rfl,?_⟩;rw [decide_eq_false (by intro z;cases z)]
   refine iteT ?_;refine ⟨_,rfl,two,fun r nr=> ?_⟩;have sr:=aa (o:= .tup [.str (Str.ofString "weights"), .ref l]) nr;refine hZq fun q_ e_=> ?_;obtain ⟨w1,w2,w3,w4⟩:=hwt;subst e_;exact kw r l _ ws2 us2 us Tb' i a8 ⟨fun x o n ex=>sr _ _ (toT bY x o n ex),hLm2.same sr,ok2,hi,hs,hng,hle,⟨sr _ _ w1,w2.mono (Kd.of_same sr),w3,w4⟩,tmi,fun ys z=>hnl ys (sA _ _ z)⟩
end
end K40
namespace K40
open PySem L2 Mth Tre Wd Su
theorem vq {bs:List Bd} {g:Tr→Rat} {T:List Tr} {e:Nat} (hb:∀b∈bs,Gb T e b) (hm:∀b∈bs,lin g b.us < rv b.m∨(lin g b.us=rv b.m∧b.st=false)):
 ∀ {wk:List Wt},(∀k∈wk,k.1 < bs.length)→(∀k∈wk,Sh k.2∧0 < k.2.1)→lin g (bQ bs wk)≤totR bs wk∧((∃k∈wk,(bdAt bs k.1).st=true)→lin g (bQ bs wk) < totR bs wk)
 | [],_,_=>⟨by simp only [bQ,lin,totR];exact Rat.le_refl,fun ⟨k,m,_⟩=>by cases m⟩
 |k::r,h1,h2=>by
  obtain ⟨i1,i2⟩:=vq hb hm (wk:=r) (fun x m=>h1 x (yR _ m)) fun x m=>h2 x (yR _ m);have mb:=dm (h1 k yO);obtain ⟨shk,pk⟩:=h2 k yO;have gb:=hb _ mb;have hmb:=hm _ mb;have pos:0 < rv k.2:=(jg shk.1).mpr pk;simp only [bQ,totR];rw [jw,oO g shk fun p mp=>(gb.gq p mp).sh]
  have le:lin g (bdAt bs k.1).us*rv k.2≤rv (bdAt bs k.1).m*rv k.2:=by
   refine Rat.mul_le_mul_of_nonneg_right ?_ (Rat.le_of_lt pos);rcases hmb with h|⟨h,_⟩
   · exact Rat.le_of_lt h
   · rw [h];exact Rat.le_refl
  refine ⟨by grind,fun ⟨x,mx,hx⟩=> ?_⟩
  rcases yV.mp mx with rfl|mx
  · have lt:lin g (bdAt bs x.1).us*rv x.2 < rv (bdAt bs x.1).m*rv x.2:=by
     rcases hmb with h|⟨_,h⟩
     · exact Rat.mul_lt_mul_of_pos_right h pos
     · rw [h] at hx;cases hx
    grind
  · have:=i2 ⟨x,mx,hx⟩;grind
theorem lO {bs:List Bd} {ks:List Tr} {G:Tr→Fr} {T:List Tr} {e:Nat} {wk:List Wt} (hb:∀b∈bs,Gb T e b) (hm:∀b∈bs,Mt ks G b) (h1:∀k∈wk,k.1 < bs.length) (hs:∀k∈wk,Sh k.2) (B:Brs bs wk):False:=by
 obtain ⟨_,hp,hc,ht⟩:=B;obtain ⟨a1,a2⟩:=vq hb (g:=gv ks G) hm h1 fun k m=>⟨hs k m,hp k m⟩;have e0:=hc.lin (gv ks G);simp only [lin] at e0;rw [←e0] at a1 a2;rcases ht with h|⟨h,x⟩
 · exact absurd a1 (Rat.not_le.mpr h)
 · have:=a2 x;rw [h] at this;exact absurd this (Rat.lt_irrefl)
noncomputable def toB (b:Bd):Bnd:=⟨b.us,b.m,b.st⟩
noncomputable def nmB (x:Str):Bool:=decide (0 < x.length)&&decide (x.length≤8)&&x.cps.toList.all fun c=>decide (97≤c∧c≤122)
theorem lN {x:Str} (h:nmB x=true):Tw.Nm x:=by
 unfold nmB at h;simp only [A7,decide_eq_true_eq,List.all_eq_true] at h;exact ⟨h.1.1,h.1.2,fun c m=>h.2 c m⟩
theorem jK (x:String) (h:nmB (Str.ofString x)=true):Fm.Gt (tN x):= .nm _ (lN h)
theorem yL:∀t∈TT,Fm.Gt t∧t.depth≤39∧(Tw.tmC t).length≤1000:=by
 have hx:nmB (Str.ofString "x")=true:=by decide +kernel
 have hy:nmB (Str.ofString "y")=true:=by decide +kernel
 have hf:nmB (Str.ofString "f")=true:=by decide +kernel
 intro t m;have dp:=(om t m).2;refine ⟨?_,by omega,?_⟩
 · simp only [TT,T3,t4,zv,Ak,yV,zm,or_false] at m;rcases m with rfl|rfl|rfl|rfl
   · refine .ap _ _ (lN hf) (by decide) (by decide) ?_
     simp only [yV,zm,or_false];rintro t (rfl|rfl)
     · exact jK _ hx
     · exact jK _ hy
   · exact jK _ hy
   · exact jK _ hx
   · refine .ap _ _ (lN hf) (by decide) (by decide) ?_
     simp only [yV,zm,or_false];rintro t rfl;exact jK _ hy
 · simp only [TT,T3,t4,zv,Ak,yV,zm,or_false] at m;rcases m with rfl|rfl|rfl|rfl<;>decide +kernel
theorem Sb.gb {b:Bd} (h:Sb 10 b):Gb TT 5 b:=by
 refine ⟨h.asc,h.mem,fun u mu=> ?_,?_,?_⟩
 · have s:=h.sm u mu;have t:=om _ (h.mem u mu);exact ⟨t.1,t.2,⟨s.sh.1,z6 s.top (show 3 < 2^5 by decide),z6 s.bot (show 3 < 2^5 by decide)⟩,s.sh⟩
 · refine ⟨by rw [h.m2];decide,?_⟩
   rw [h.m2];exact Int.gcd_one_right _
 · refine ⟨by rw [h.m2];decide,z6 h.m1 (show 10 < 2^5 by decide),?_⟩
   rw [h.m2];show (1:Nat) < 2^5;decide
theorem Sb.gbd {b:Bd} (h:Sb 10 b):Gbd TT 5 (toB b):=by
 have g:=h.gb;refine ⟨h.asc,fun p mp=>⟨?_,g.gq p mp⟩,g.gf,g.sh⟩;obtain ⟨a1,a2,a3⟩:=yL _ (h.mem p mp);exact ⟨a1,a2,a3,h.mem p mp⟩
noncomputable def CC:Nat:=2^100
theorem fac7 {m:Nat} (h:m≤7):Wg.fac m*(10*243)^m≤CC:=by
 have:m=0∨m=1∨m=2∨m=3∨m=4∨m=5∨m=6∨m=7:=by omega
 rcases this with rfl|rfl|rfl|rfl|rfl|rfl|rfl|rfl<;>decide +kernel
theorem Sb.bz {bs:List Bd} (h:∀b∈bs,Sb 10 b) (h7:bs.length≤7):Bz (bs.map toB) 10 3 243 4 CC:=by
 have ul:∀b∈bs,b.us.length≤4:=fun b mb=>dz (h b mb).asc (h b mb).mem;refine ⟨fun b mb=> ?_,fun b mb=> ?_,by decide,by decide,?_,?_,by decide +kernel,by decide +kernel,Nat.pow_lt_pow_right (by decide) (by decide)⟩
 · obtain ⟨b,mb',rfl⟩:=zo.mp mb;clear mb;have mb:=mb';refine ⟨ul b mb,fun p mp=> ?_,(h b mb).m1,?_⟩
   · have s:=(h b mb).sm p mp;exact ⟨yY s.top (by decide),s.bot⟩
   · show b.m.2.natAbs≤3;rw [(h b mb).m2];decide
 · obtain ⟨b,mb',rfl⟩:=zo.mp mb;clear mb;have mb:=mb'
   obtain ⟨_,_,_,a4⟩:=gC (M:=3) (fs:=b.us.map (·.2)++ [b.m]) (s:=1) (by decide) fun f mf=>by
    rcases ze.mp mf with m|m
    · obtain ⟨p,mp,rfl⟩:=zo.mp m;exact ⟨((h b mb).sm p mp).sh.1,((h b mb).sm p mp).bot⟩
    · rw [z5.mp m,(h b mb).m2];exact ⟨by decide,by decide⟩
   have l:(b.us.map (·.2)++ [b.m]).length≤5:=by
    rw [z7,yM];have:=ul b mb;show b.us.length+1≤5;omega
   refine yY a4 ?_;have:(1:Int).natAbs=1:=rfl;rw [this,Nat.one_mul];exact yY (zN (by decide) l) (by decide)
 · exact zd (show 3^(4+2) < 2^10 by decide) (zN (by decide) (by decide))
 · rw [yM];exact fac7 h7
theorem nP {t b:Int} {m:Nat} (b0:0 < b) (h1:t.natAbs < 2^m) (h2:b.natAbs < 2^m):Sh ((fx t b,fy t b):Fr)∧Gf m ((fx t b,fy t b):Fr):=by
 have s:=m3 (t:=t) (b:=b) (by omega)
 have d0:0 < dv t b:=by
  have:=zj t (show b≠0 by omega)
  unfold dv;rw [if_neg (by omega)]
  omega
 refine ⟨s,s.1,?_,?_⟩
 · show (fx t b).natAbs < 2^m;unfold fx;rw [A5 _ (by omega)]
   exact z6 (cM _ _) h1
 · show (fy t b).natAbs < 2^m;unfold fy;rw [A5 _ (by omega)]
   exact z6 (cM _ _) h2
section
variable {P:Program} {w:World} {K:PySem.W.Frag} {mg:Str→Option Value} {base:Heap} {T0:Addr}
def qy (P:Program) (w:World) (K:PySem.W.Frag):Sp:=fun vs H Q _=>∃(lb d:Addr) (bvs:List V) (bs:List Bd) (T:List Tr) (e m:Nat) (ks:List Tr) (G:Tr→Fr),vs= [.ref lb, .ref d]∧H lb=some (.lst bvs)∧TrsAt H bvs (bs.map Su.bdT)∧(∀b∈bs,Gb T e b)∧T.length≤9∧bs.length≤64∧Nd P w K H d ks G m∧1+9*(e+m+2)≤8000∧
 ∀(r:Bool) (H':Hp),Same H H'→(r=true↔∀b∈bs,Mt ks G b)→Q (.bl r) H'
theorem ye:FnScope ["bounds","numbers"] ["bounds","numbers"] (ag sMee):= .of
theorem wJ {f fI:Addr} {fd dI:FuncData} (F:Fun K "meets" "meets" sMee f fd) (B:Blt mg)
 (gI:FnOk P w K mg base CX0 3 fI dI ["bound","numbers"] (qB P w K)) (kI:PySem.W.keepIn K (.ref fI)=true) (bI:Binds K dI ["bound","numbers"] []) (mI:mg "is_met"=some (.ref fI)):FnOk P w K mg base CX0 4 f fd ["bounds","numbers"] (qy P w K):=by
 refine F.okb ye fun vs H Q E h=> ?_;refine hZq fun q_ e_=> ?_;obtain ⟨lb,d,bvs,bs,T,e,m,ks,G,rfl,hlb,hB,gB,hT9,b64,hN,h8,k⟩:=h;subst e_;refine ⟨rfl,fun cdv A outer s hr=> ?_⟩;have nd2:(["bound","numbers"]:List Str).Nodup:=by decide +kernel
 refine ⟨_,ah (ax (aB (iR rfl) rfl B.al PyProof.Rows.boot_all (a0 (aQ (NC:= ["bound","numbers"]) (mp:= [none,some 1]) rfl (aO (pv 0)) (fun _ _ _ _ _=>pgA 0 nd2) (fun _ _ _ _ _=>aN)
  (fun _ _ _ _ _=>ai gI hr rfl mI kI bI .nil ar (a0 (pv 0) (a0 (pv 1) a9)))) a9))),?_⟩
 have hL20:(20000:Nat)≤sizeLine:=by decide +kernel
 have bl:=hB.len;rw [yM] at bl;refine j0 ?_;refine bN rfl ?_;refine ⟨_,rfl,lb,rfl,⟨_,SqL.of hlb⟩,fun L nL=> ?_⟩;refine bG (xs:=bvs) (fun j acc H'=>Same H H'∧H' L=some (.lst acc)∧∃rs:List Bool,acc=rs.map V.bl∧rs.length=j∧((∀r∈rs,r=true)↔∀b∈bs.take j,Mt ks G b)) ⟨aa nL,a8,[],rfl,rfl,by simp⟩ (fun j acc H' p=>SqL.of (p.1 _ _ hlb)) ?_ ?_
 · rintro j x acc H' hj ex ⟨s2,hL,rs,rfl,rl,hiff⟩;obtain ⟨t,et,ht⟩:=(hB.mono (Kd.of_same s2)).get' ex;rw [yQ] at et;obtain ⟨b,eb,rfl⟩:=yS.mp et;refine ⟨_,rfl,_,rfl,x,d,b,T,e,m,ks,G,rfl,ht,gB b (yT eb),hT9,hN.same s2,h8,fun r H3 s3 hr3=> ?_⟩;refine CompN.mk hj (by rw [yM,rl];omega) (s3 _ _ hL) ⟨aq nL (s2.trans s3),a8,rs++ [r],by simp,by simp [rl],?_⟩
   rw [av eb];constructor
   · intro h b' mb;rcases ze.mp mb with mb|mb
     · exact hiff.mp (fun y my=>h y (zw _ my)) b' mb
     · rw [z5.mp mb];exact hr3.mp (h r (yX _ yO))
   · intro h y my;rcases ze.mp my with my|my
     · exact hiff.mpr (fun b' mb=>h b' (zw _ mb)) y my
     · rw [z5.mp my];exact hr3.mpr (h b (yX _ yO))
 · rintro acc H2 ⟨s2,hL,rs,rfl,rl,hiff⟩;rw [bl,zg] at hiff;refine ⟨L,rs,rfl,SqL.of hL,?_⟩;refine k _ H2 s2 ?_;rw [←hiff];simp
def PtOk (P:Program) (w:World) (K:PySem.W.Frag) (H:Hp) (v:V):Prop:=∃d ks G,v= .ref d∧Nd P w K H d ks G 202
def RwOk (H:Hp) (m:Nat) (v:V) (lp lr:Addr):Prop:=∃lw wvs ks,v= .ref lw∧H lw=some (.lst wvs)∧TrsAt H wvs (List.map wtT ks)∧ks.length≤8∧(∀k∈ks,k.1 < m)∧(∀k∈ks,Sh k.2∧Gf 202 k.2)∧lw≠lp∧lw≠lr
theorem PtOk.same {P:Program} {w:World} {K:PySem.W.Frag} {H H':Hp} {v:V} (s:Same H H') (h:PtOk P w K H v):PtOk P w K H' v:=by
 obtain ⟨d,ks,G,e,n⟩:=h;exact ⟨d,ks,G,e,n.same s⟩
theorem RwOk.same {H H':Hp} {m:Nat} {v:V} {lp lr:Addr} (s:Same H H') (h:RwOk H m v lp lr):RwOk H' m v lp lr:=by
 obtain ⟨lw,wvs,ks,e,h1,h2,h3⟩:=h;exact ⟨lw,wvs,ks,e,s _ _ h1,h2.mono (Kd.of_same s),h3⟩
theorem PtOk.upd {P:Program} {w:World} {K:PySem.W.Frag} {H:Hp} {v:V} {l:Addr} {xs ys:List V} (hl:H l=some (.lst xs)) (h:PtOk P w K H v):PtOk P w K (upd H l (.lst ys)) v:=by
 obtain ⟨d,ks,G,e,n⟩:=h;refine ⟨d,ks,G,e,n.da.kd (Kd.upd hl) (fun o no e=> ?_),n.g⟩;rw [af (fun z=>by rw [z,hl] at e;exact no _ (zb e).symm)]
 exact e
theorem RwOk.upd {H:Hp} {m:Nat} {v:V} {lp lr l:Addr} {xs ys:List V} (hl:H l=some (.lst xs)) (q:l=lp∨l=lr) (h:RwOk H m v lp lr):RwOk (upd H l (.lst ys)) m v lp lr:=by
 obtain ⟨lw,wvs,ks,e,h1,h2,h3,h4,h5,n1,n2⟩:=h;refine ⟨lw,wvs,ks,e,?_,h2.mono (Kd.upd hl),h3,h4,h5,n1,n2⟩;rw [af (fun z=>by rcases q with q|q<;>rw [q] at z;exact n1 z;exact n2 z)]
 exact h1
structure LInv (P:Program) (w:World) (K:PySem.W.Frag) (H0 H:Hp) (m i:Nat) (lp lr:Addr) (pts rws:List V):Prop where
 sm:Same H0 H
 hp:H lp=some (.lst pts)
 hr:H lr=some (.lst rws)
 ne:lp≠lr
 pk:∀v∈pts,PtOk P w K H v
 rk:∀v∈rws,RwOk H m v lp lr
 pl:pts.length≤i
 rl:rws.length≤i
theorem LInv.same {P:Program} {w:World} {K:PySem.W.Frag} {H0 H H':Hp} {m i:Nat} {lp lr:Addr} {pts rws:List V} (s:Same H H') (h:LInv P w K H0 H m i lp lr pts rws):LInv P w K H0 H' m i lp lr pts rws:=
 ⟨h.sm.trans s,s _ _ h.hp,s _ _ h.hr,h.ne,fun v mv=>(h.pk v mv).same s,fun v mv=>(h.rk v mv).same s,h.pl,h.rl⟩
theorem LInv.putP {P:Program} {w:World} {K:PySem.W.Frag} {H0 H:Hp} {m i:Nat} {lp lr:Addr} {pts rws:List V} {v:V} (np:H0 lp=none) (h:LInv P w K H0 H m i lp lr pts rws) (hv:PtOk P w K H v):LInv P w K H0 (upd H lp (.lst (pts++ [v]))) m (i+1) lp lr (pts++ [v]) rws:=by
 have pl:=h.pl;have rl:=h.rl;refine ⟨aq np h.sm,a8,by rw [af h.ne.symm];exact h.hr,h.ne,fun x mx=> ?_,fun x mx=>(h.rk x mx).upd h.hp (.inl rfl),by rw [z7];show pts.length+1≤i+1;omega,by omega⟩
 rcases ze.mp mx with mx|mx
 · exact (h.pk x mx).upd h.hp
 · rw [z5.mp mx];exact hv.upd h.hp
theorem LInv.putR {P:Program} {w:World} {K:PySem.W.Frag} {H0 H:Hp} {m i:Nat} {lp lr:Addr} {pts rws:List V} {v:V} (nr:H0 lr=none) (h:LInv P w K H0 H m i lp lr pts rws) (hv:RwOk H m v lp lr):LInv P w K H0 (upd H lr (.lst (rws++ [v]))) m (i+1) lp lr pts (rws++ [v]):=by
 have pl:=h.pl;have rl:=h.rl;refine ⟨aq nr h.sm,by rw [af h.ne];exact h.hp,a8,h.ne,fun x mx=>(h.pk x mx).upd h.hr,fun x mx=> ?_,by omega,by rw [z7];show rws.length+1≤i+1;omega⟩
 rcases ze.mp mx with mx|mx
 · exact (h.rk x mx).upd h.hr (.inr rfl)
 · rw [z5.mp mx];exact hv.upd h.hr (.inr rfl)
theorem uB {T0:Addr} {ps:Array Value} {H H':Hp} (hT:H T0=some (.tbl ps)) (b:ButT T0 H H'):Kd H H':=
 ⟨fun a xs e=>b _ _ (fun z=>by rw [z,hT] at e;cases e) e,fun a xs e=>⟨xs,b _ _ (fun z=>by rw [z,hT] at e;cases e) e⟩⟩
theorem oi:∀ {x:Nat},x≤CC*(CC+1)+CC→x < 2^202:=fun {x} h=>z6 h (by decide +kernel)
theorem NOut.pt {P:Program} {w:World} {K:PySem.W.Frag} {T0 d:Addr} {H H':Hp} {bs:List Bd} {us:List Tr} {Tb:Wg.Tb} {M:Int} {G:Tr→Fr} (hSb:∀b∈bs,Sb 10 b) (h7:bs.length≤7) (h:NOut P w K T0 H H' (bs.map toB) CC d us Tb M G):PtOk P w K H' (.ref d):=by
 refine ⟨d,us,G,rfl,h.da,fun t mt=> ?_⟩;have hW:=(Sb.bz hSb h7).wb (T:=TT) (e:=5) (fun b mb=>by obtain ⟨b',mb',rfl⟩:=zo.mp mb;exact (hSb b' mb').gbd) us
 obtain ⟨bb,bl⟩:=hW.bnd h.ok.inv h.ok.pm;obtain ⟨j,hj,e⟩:=zS mt;have eu:us[j]?=some t:=by rw [yN hj,e]
 rw [h.g j t eu];have m1:=h.m1;have mc:=h.mc;have Ma:M.natAbs≤CC+1:=by omega
 have b0:=h.ok.inv.pos;have l1:=lU (k:=(bs.map toB).length+j) (c:=us.length) h.ok.pm bb bl (by omega)
 have l2:=lU (k:=(bs.map toB).length+j) (c:=us.length+1) h.ok.pm bb bl (by omega)
 refine nP (Int.mul_pos b0 (by omega)) (oi ?_) (oi ?_)
 · rw [←si];refine yY (Int.natAbs_add_le _ _) ?_;rw [zr];exact Nat.add_le_add (zX l1 Ma) l2
 · rw [zr];exact yY (zX bb Ma) (zP _ _)
theorem WOut.rw {T0 l lp lr:Addr} {H H':Hp} {bs:List Bd} {ws2:List V} {us2 us:List Tr} {Tb:Wg.Tb} {i:Nat} (hSb:∀b∈bs,Sb 10 b) (h7:bs.length≤7) (hu:us.length≤4) (h:WOut T0 H H' (bs.map toB) l ws2 us2 us Tb i) (n1:l≠lp) (n2:l≠lr):RwOk H' bs.length (.ref l) lp lr:=by
 have hW:=(Sb.bz hSb h7).wb (T:=TT) (e:=5) (fun b mb=>by obtain ⟨b',mb',rfl⟩:=zo.mp mb;exact (hSb b' mb').gbd) us
 obtain ⟨w1,w2,w3,w4⟩:=h.wt;obtain ⟨qs,rfl,pq⟩:=i3 w3 rfl;have hcn:=hW.cnts h.ok h.hi h.hs;have hcl:=nN (n:=us.length) (T:=Tb) (i:=i);obtain ⟨g0,g1⟩:=hW.gcn (by rw [yM]) h.ok h.hi h.hs
 have mq:∀k∈qs,∃p∈cnt us.length Tb i,k=(p.1,wf ((bs.map toB).map scl) (gcn ((bs.map toB).map scl) (cnt us.length Tb i)) p):=fun k mk=>by
  have:=pq.mem_iff.mp mk;unfold wts at this;obtain ⟨p,mp,e⟩:=zo.mp this;exact ⟨p,mp,e.symm⟩
 refine ⟨l,ws2,qs,rfl,w1,w2,?_,fun k mk=> ?_,fun k mk=> ?_,n1,n2⟩
 · rw [pq.length_eq];unfold wts cnt;rw [yM,za];omega
 · obtain ⟨p,mp,rfl⟩:=mq k mk;have:=(hcn p mp).1;rw [yM] at this;exact this
 · obtain ⟨p,mp,rfl⟩:=mq k mk;obtain ⟨pm,pb⟩:=hcn p mp
   have sc:(((bs.map toB).map scl).getD p.1 0).natAbs≤CC:=by
    refine (hW.sc _ ?_).2;rw [z9,yN (by rw [yM];exact pm)]
    exact zM _
   refine nP g0 (oi ?_) (oi ?_)
   · rw [zr];exact yY (zX pb sc) (yY (Nat.mul_le_mul_left _ (Nat.le_succ _)) (zP _ _))
   · exact yY g1 (yY (Nat.mul_le_mul_left _ (Nat.le_succ _)) (zP _ _))
def mK (K:PySem.W.Frag) (T0:Addr):Sp:=fun vs H Q _=>∃(a:Addr) (ns:List Int),vs= [.ref a]∧SqL K H a (ns.map V.int)∧ns.length≤63∧Lm T0 H∧∀H',Q (.bl true) H'
theorem scL:FnScope ["_law_script","_law_terms_here","_law_bounds_here","_law_told","_law_points","_law_rows","_law_k","_law_point","_law_i","_law_weights","_law_place","_law_met","_law_borne"] ["_law_script"] (ag sLaw):= .of
theorem wM {f fTs fBo fWg fD fSh fMe fBe:Addr} {fd dTs dBo dWg dD dSh dMe dBe:FuncData} (F:Fun K "law" "law" sLaw f fd) (B:Blt mg)
 (gTs:FnOk P w K mg base CX0 2 fTs dTs ["_law_script"] (j9 K)) (kTs:PySem.W.keepIn K (.ref fTs)=true) (bTs:Binds K dTs ["_law_script"] []) (mTs:mg "_law_terms"=some (.ref fTs))
 (gBo:FnOk P w K mg base CX0 3 fBo dBo ["_law_script","_law_terms_here"] (gX K)) (kBo:PySem.W.keepIn K (.ref fBo)=true) (bBo:Binds K dBo ["_law_script","_law_terms_here"] []) (mBo:mg "_law_bounds"=some (.ref fBo))
 (gWg:FnOk P w K mg base CX0 44 fWg dWg ["bounds"] (pS P w K T0)) (kWg:PySem.W.keepIn K (.ref fWg)=true) (bWg:Binds K dWg ["bounds"] []) (mWg:mg "weighed"=some (.ref fWg))
 (gD:FnOk P w K mg base CX0 1 fD dD ["_law_script","_law_k","_law_many"] (fu K)) (kD:PySem.W.keepIn K (.ref fD)=true) (bD:Binds K dD ["_law_script","_law_k","_law_many"] []) (mD:mg "_law_draw"=some (.ref fD))
 (gSh:FnOk P w K mg base CX0 2 fSh dSh ["_law_script","_law_base","_law_far"] (gn K)) (kSh:PySem.W.keepIn K (.ref fSh)=true) (bSh:Binds K dSh ["_law_script","_law_base","_law_far"] []) (mSh:mg "_law_share"=some (.ref fSh))
 (gMe:FnOk P w K mg base CX0 4 fMe dMe ["bounds","numbers"] (qy P w K)) (kMe:PySem.W.keepIn K (.ref fMe)=true) (bMe:Binds K dMe ["bounds","numbers"] []) (mMe:mg "meets"=some (.ref fMe))
 (gBe:FnOk P w K mg base CX0 5 fBe dBe ["bounds","weights"] (ja K)) (kBe:PySem.W.keepIn K (.ref fBe)=true) (bBe:Binds K dBe ["bounds","weights"] []) (mBe:mg "bears"=some (.ref fBe)):
 FnOk P w K mg base CX0 45 f fd ["_law_script"] (mK K T0):=by
 refine F.okb scL fun vs H Q E h=> ?_;refine hZq fun q_ e_=> ?_;obtain ⟨a,ns,rfl,hS,h63,hLm,k⟩:=h;subst e_;refine ⟨rfl,fun cdv A outer s hr=> ?_⟩;have hun:=hr.units;have hr1:Room 1 _:=hr.mono (by omega)
 have hr2:Room 2 _:=hr.mono (by omega)
 have hr3:Room 3 _:=hr.mono (by omega)
 have hr4:Room 4 _:=hr.mono (by omega)
 have hr5:Room 5 _:=hr.mono (by omega)
 have hu30:=z6 (A0 (show 30≤64 by decide) _) hun
 have nd2:(["_law_point","_law_bounds_here"]:List Str).Nodup:=by decide +kernel
 have nd2':(["_law_weights","_law_bounds_here"]:List Str).Nodup:=by decide +kernel
 refine ⟨_,ae (psA 1 scL.nd (ai gTs hr2 rfl mTs kTs bTs .nil ar (a0 (pv 0) a9)))
  (ae (psR 2 scL.nd (ai gBo hr3 rfl mBo kBo bBo .nil ar (a0 (pv 0) (a0 (pv 1) a9))))
  (ae (psA 3 scL.nd (ai gWg hr rfl mWg kWg bWg .nil ar (a0 (bV fm rfl B.li PyProof.Rows.boot_list (a0 (pv 2) a9)) a9)))
  (ae (psA 4 scL.nd (bO a9))
  (ae (psA 5 scL.nd (bO a9))
  (ae (cf (aF dB (ao aA (pv 3) ac fun _ _=>rfl) dX (aE _))
   (ah (bu (cS PySem.F.plainAttrs_list PySem.F.slot_list_append PySem.F.type_list_append bf (pv 4) (a0 (ao aA (pv 3) ac fun _ _=>rfl) a9))))
   (ah (bu (cS PySem.F.plainAttrs_list PySem.F.slot_list_append PySem.F.type_list_append bf (pv 5) (a0 (ao aA (pv 3) ac fun _ _=>rfl) a9)))))
  (ae (cg PassesOwn.never rfl (c8 rfl B.ra (a0 ac a9)) (pgA 6 scL.nd)
   (ae (psA 7 scL.nd (Dj.pe_newJ (P:=P) (w:=w) rfl rfl))
   (ae (cg PassesOwn.never rfl (c8 rfl B.ra (a0 (aB ay rfl B.le PySem.boot_len (a0 (pv 1) a9)) a9)) (pgA 8 scL.nd)
    (ah (Dj.ps_putJ (P:=P) (w:=w) (K:=K) rfl rfl rfl hu30 (pv 7) (ao aw (pv 1) (pv 8) fun _ _=>rfl) (ai gSh hr2 rfl mSh kSh bSh .nil ar (a0 (pv 0) (a0 (aj aR (aj aR ac (aj ci ac (pv 6))) (aj ci ac (pv 8))) (a0 ac a9)))) rfl)))
   (ae (bu (cS PySem.F.plainAttrs_list PySem.F.slot_list_append PySem.F.type_list_append bf (pv 4) (a0 (pv 7) a9)))
   (ae (psA 9 scL.nd (bO a9))
   (ae (cg PassesOwn.never rfl (c8 rfl B.ra (a0 (aB ay rfl B.le PySem.boot_len (a0 (pv 2) a9)) a9)) (pgA 10 scL.nd)
    (ah (cf (aF dB (ai gD hr1 rfl mD kD bD .nil ar (a0 (pv 0) (a0 (aj aR (aj aR ac (aj ci ac (pv 6))) (pv 10)) (a0 ac a9)))) ac (aE _))
     (ah (bu (cS PySem.F.plainAttrs_list PySem.F.slot_list_append PySem.F.type_list_append bf (pv 9) (a0 (aU (a0 (pv 10) (a0 (aU (a0 (aj i5 (aj aR ac (ai gD hr1 rfl mD kD bD .nil ar (a0 (pv 0) (a0 (aj aR (aj aR ac (aj ci ac (pv 6))) (pv 10)) (a0 ac a9))))) (aj ci ac (aj cV (pv 6) ac))) (a0 ac a9))) a9))) a9)))) bg)))
   (ah (bu (cS PySem.F.plainAttrs_list PySem.F.slot_list_append PySem.F.type_list_append bf (pv 5) (a0 (pv 9) a9))))))))))
  (ae (dr (i:=11) (NC:= ["_law_point","_law_bounds_here"]) (mp:= [none,some 2]) rfl scL.nd rfl rfl rfl (aO (pv 4)) (fun _ _ _ _ _=>pgA 0 nd2) (fun _ _ _ _ _=>cK (eO (ai gMe hr4 rfl mMe kMe bMe .nil ar (a0 (pv 1) (a0 (pv 0) a9))) fun _=>rfl)) (fun _ _ _ _ _=>pv 0))
  (ae (dr (i:=12) (NC:= ["_law_weights","_law_bounds_here"]) (mp:= [none,some 2]) rfl scL.nd rfl rfl rfl (aO (pv 5)) (fun _ _ _ _ _=>pgA 0 nd2') (fun _ _ _ _ _=>cK (eO (ai gBe hr5 rfl mBe kBe bBe .nil ar (a0 (pv 1) (a0 (pv 0) a9))) fun _=>rfl)) (fun _ _ _ _ _=>pv 0))
  (ah (ax (rB (cL dB (aB ay rfl B.le PySem.boot_len (a0 (pv 11) a9)) ac (aE _)) (jp (cL dB (aB ay rfl B.le PySem.boot_len (a0 (pv 12) a9)) ac (aE _)))))))))))))),?_⟩
 have hL20:(20000:Nat)≤sizeLine:=by decide +kernel
 have tl4:TT.length=4:=rfl;refine ⟨_,rfl,a,ns,rfl,hS,h63,fun lt wt n H1 s1 nlt hlt hT n1 n4=> ?_⟩;refine am ?_;refine ⟨_,rfl,_,rfl,a,ns,lt,wt,n,rfl,SqL.same s1 hS,h63,hlt,hT,n1,n4,fun lb bvs bs H2 s2 nlb hlb hB hSb b1 b7=> ?_⟩;refine am ?_;dsimp only;have s12:=s1.trans s2;have hS2:=SqL.same s12 hS;have hLm2:=hLm.same s12;have hlt2:=s2 _ _ hlt;have hT2:=hT.mono (Kd.of_same s2);have hGb:∀b∈bs,Gb TT 5 b:=fun b mb=>(hSb b mb).gb;have bvl:=hB.len;rw [yM] at bvl;have wtl:=hT.len;rw [zh,tl4] at wtl;refine dq (fun σ' H3=>ButT T0 H2 H3∧∃(r:Addr) (kind:Str) (v:V),σ'= [some (.ref a),some (.ref lt),some (.ref lb),some (.ref r),none,none,none,none,none,none,none,none,none]∧H3 r=some (.tup [.str kind,v])∧((kind=Str.ofString "numbers"∧PtOk P w K H3 v)∨(kind=Str.ofString "weights"∧∀lp lr,H3 lp=none→H3 lr=none→RwOk H3 bs.length v lp lr))) ?_ fun nx hnx=> ?_;rotate_left
 · refine ⟨_,rfl,lb,_,rfl, .inl (SqL.of hlb),fun l3 nl3=> ?_⟩;have s3:=aa (o:= .lst bvs) nl3;refine ⟨l3,bvs,bs.map toB,TT,5,10,3,243,4,CC,rfl,a8,?_,?_,by decide,by rw [tl4];decide,by rw [yM];omega,by decide,Sb.bz hSb b7,hLm2.same s3,?_,?_⟩
   · rw [Ah];exact hB.mono (Kd.of_same s3)
   · intro b mb;obtain ⟨b',mb',rfl⟩:=zo.mp mb;exact (hSb b' mb').gbd
   · intro r l H' ws2 us2 us Tb i hr' h;refine hnx _ _ ⟨fun x o n e=>h.bt _ _ n (s3 _ _ e),r,_,_,rfl,hr', .inr ⟨rfl,fun lp lr nlp nlr=> ?_⟩⟩;have hl':=h.wt.1
     have hu:us.length≤4:=by
      refine Fm.sub_len h.tm.1 (U:=TT) fun u mu=> ?_;refine hZq fun q_ e_=> ?_;obtain ⟨b,mb,p,mp,rfl⟩:=(h.tm.2 u).mp mu;subst e_;obtain ⟨b',mb',rfl⟩:=zo.mp mb;exact (hSb b' mb').mem p mp
     exact h.rw hSb b7 hu (fun z=>by rw [z,nlp] at hl';cases hl') (fun z=>by rw [z,nlr] at hl';cases hl')
   · intro r d H' us Tb M G hr' h;exact hnx _ _ ⟨fun x o n e=>h.bt _ _ n (s3 _ _ e),r,_,_,rfl,hr', .inl ⟨rfl,h.pt hSb b7⟩⟩
 intro σ' H3 z_;refine hZq fun q_ e_=> ?_;obtain ⟨bt,r,kind,v,rfl,hr3,hv⟩:=z_;subst e_;obtain ⟨ps0,hT0⟩:=hLm2.tbl;have kd3:=uB hT0 bt;have ntb:∀ {x:Addr} {o:HO},H2 x=some o→(∀p,o≠ .tbl p)→H3 x=some o:=fun {x o} e q=>bt _ _ (fun z=>by rw [z,hT0] at e;exact q _ (zb e).symm) e
 have hS3:SqL K H3 a (ns.map V.int):=SqL.butT hT0 bt hS2;have hlt3:=ntb hlt2 (by intro p z;cases z)
 have hlb3:=ntb hlb (by intro p z;cases z)
 have hT3:=hT2.mono kd3;have hB3:=hB.mono kd3;refine ⟨by show 0≤sizeLine;decide,fun lp nlp=> ?_⟩
 have sp:=aa (o:= .lst []) nlp;refine am ?_;refine ⟨by show 0≤sizeLine;decide,fun lr nlr=> ?_⟩
 have sr:=aa (o:= .lst []) nlr;refine am ?_;dsimp only;have npr:lp≠lr:=fun z=>by rw [←z,a8] at nlr;cases nlr
 have nlr3:H3 lr=none:=by rw [af npr.symm] at nlr;exact nlr
 have inv0:LInv P w K H3 (upd (upd H3 lp (.lst [])) lr (.lst [])) bs.length 0 lp lr [] []:=
  ⟨sp.trans sr,by rw [af npr];exact a8,a8,npr,(fun v m=>by cases m),(fun v m=>by cases m),yP _,yP _⟩
 obtain ⟨H4,eH4⟩:∃H4,H4=upd (upd H3 lp (.lst [])) lr (.lst []):=⟨_,rfl⟩;rw [←eH4] at inv0 ⊢;have s34:Same H3 H4:=by rw [eH4];exact sp.trans sr
 refine dq (fun σ' H5=>∃pts rws,σ'= [some (.ref a),some (.ref lt),some (.ref lb),some (.ref r),some (.ref lp),some (.ref lr),none,none,none,none,none,none,none]∧LInv P w K H3 H5 bs.length 1 lp lr pts rws) ?_ fun nx hnx=> ?_;rotate_left
 · have hr4:=s34 _ _ hr3;refine ⟨_,rfl,r,_,0,_,rfl,rfl,SqT.of hr4,rfl,rfl,_,rfl,?_⟩;rcases hv with ⟨rfl,hv⟩|⟨rfl,hv⟩
   · rw [decide_eq_true rfl];refine iteT ?_;refine ⟨_,rfl, .inl ⟨rfl,_,SqL.of inv0.hp⟩,_,rfl,r,_,1,_,rfl,rfl,SqT.of hr4,rfl,lp,[],v,rfl,rfl,inv0.hp,(by show 0 < sizeLine;omega),?_⟩
     exact hnx _ _ ⟨_,_,rfl,inv0.putP nlp (hv.same s34)⟩
   · have ne:¬(V.str (Str.ofString "weights")=V.str (Str.ofString "numbers")):=fun z=>absurd (V.str.inj z) (by decide +kernel)
     rw [decide_eq_false ne];refine iteF ?_;refine ⟨_,rfl, .inl ⟨rfl,_,SqL.of inv0.hr⟩,_,rfl,r,_,1,_,rfl,rfl,SqT.of hr4,rfl,lr,[],v,rfl,rfl,inv0.hr,(by show 0 < sizeLine;omega),?_⟩
     exact hnx _ _ ⟨_,_,rfl,inv0.putR nlr3 ((hv lp lr nlp nlr3).same s34)⟩
 intro σ' H5 z_;refine hZq fun q_ e_=> ?_;obtain ⟨pts,rws,rfl,inv1⟩:=z_;subst e_;refine ⟨8,rfl,by decide,by decide,?_⟩
 refine cN (n:=8) (fun i σ H'=>∃(v6 v7 v8 v9 v10:Option V) (pts rws:List V),σ= [some (.ref a),some (.ref lt),some (.ref lb),some (.ref r),some (.ref lp),some (.ref lr),v6,v7,v8,v9,v10,none,none]∧LInv P w K H3 H' bs.length (1+i) lp lr pts rws) ⟨none,none,none,none,none,pts,rws,rfl,inv1⟩ ?_ ?_
 · rintro i σ Hk hi ⟨v6,v7,v8,v9,v10,pts,rws,rfl,inv⟩;rw [Aj];refine am ?_;dsimp only;refine fun d nd=> ?_;have sd:=aa (o:=Dj.dJ P w d []) nd;refine am ?_;dsimp only;have hltk:=inv.sm _ _ hlt3;refine ⟨_,rfl,lt,_,rfl, .inl (SqL.of (sd _ _ hltk)),(n:Int),by rw [wtl];congr 2;omega,by omega,by omega,?_⟩
   rw [zZ]
   refine cN (n:=n) (fun j σ H'=>Same Hk H'∧∃(v8:Option V) (keys:List Tr) (G:Tr→Fr),σ= [some (.ref a),some (.ref lt),some (.ref lb),some (.ref r),some (.ref lp),some (.ref lr),some (.int (i:Int)),some (.ref d),v8,v9,v10,none,none]∧Dj.DAt P w K H' d keys G∧keys.length≤j∧∀t∈keys,Smf 4 (G t))
    ⟨sd,v8,[],fun _=>zero,rfl,⟨⟨[],⟨a8,fun p m=>by cases m⟩, .nil⟩,(fun t m=>by cases m),List.nodup_nil⟩,yP _,fun t m=>by cases m⟩ ?_ ?_
   · rintro j σ H6 hj ⟨s6,v8,keys,G,rfl,da,kl,hG⟩;rw [Aj];refine am ?_;dsimp only;have s36:=inv.sm.trans s6;refine ⟨_,rfl,_,rfl,10,(i:Int),rfl,rfl, .inl ⟨by decide,by decide⟩,360,10*(i:Int),rfl,rfl,_,rfl,2,(j:Int),rfl,rfl, .inl ⟨by decide,by decide⟩,360+10*(i:Int),2*(j:Int),rfl,rfl,?_⟩
     refine ⟨a,ns,360+10*(i:Int)+2*(j:Int),4,rfl,SqL.same s36 hS3,h63,by omega,by omega,by decide,fun rs fr H7 nrs s7 hrs sm=> ?_⟩
     have s37:=s36.trans s7;have hj5:j < (TT.take n).length:=by rw [zh,tl4];omega
     obtain ⟨xt,ext,hxt⟩:=(hT3.mono (Kd.of_same s37)).get (i:=j) (yN hj5);obtain ⟨tyj,dpj⟩:=om _ (zY (zM hj5));obtain ⟨b',rfl⟩:=Dj.tm_ref tyj hxt;have da7:=da.same s7;obtain ⟨kvs,dj,pr⟩:=da7.ex;have lk:=Paired.length pr;refine ⟨_,rfl,_,rfl,_,rfl,lt,wt,(j:Int),_,rfl,rfl,SqL.of (s37 _ _ hlt3),aJ ext,d,b',Dj.ktL (TT.take n)[j],kvs,rfl,rfl,dj,Dj.key_tm tyj dpj hxt,by omega,?_⟩
     have put:=da7.put tyj dpj hxt (show TrAt H7 (.ref rs) (frT fr) from dy hrs) dj fun _=>pr;refine ⟨aq nd (s6.trans s7),_,_,_,rfl,put,?_,fun t mt=> ?_⟩
     · unfold Dj.addK;split
       · omega
       · rw [z7];show keys.length+1≤j+1;omega
     · unfold Dj.setG;by_cases e:t=(TT.take n)[j]
       · rw [if_pos e];exact sm
       · rw [if_neg e];unfold Dj.addK at mt;split at mt
         · exact hG t mt
         · rcases ze.mp mt with mt|mt
           · exact hG t mt
           · exact absurd (z5.mp mt) e
   intro σ H6 z_;refine hZq fun q_ e_=> ?_;obtain ⟨s6,v8,keys,G,rfl,da,kl,hG⟩:=z_;subst e_;have inv6:=inv.same s6
   have pok:PtOk P w K H6 (.ref d):=⟨d,keys,G,rfl,da,fun t mt=>by
    have s:=hG t mt
    exact ⟨s.sh,s.sh.1,z6 s.top (by decide +kernel),z6 s.bot (by decide +kernel)⟩⟩
   have pl6:=inv6.pl;have rl6:=inv6.rl;refine ⟨_,rfl, .inl ⟨rfl,_,SqL.of inv6.hp⟩,_,rfl,lp,pts, .ref d,rfl,rfl,inv6.hp,by omega,?_⟩
   have inv7:=inv6.putP nlp pok;obtain ⟨H7,eH7⟩:∃H7,H7=upd H6 lp (.lst (pts++ [.ref d])):=⟨_,rfl⟩;rw [←eH7] at inv7 ⊢;refine ⟨by show 0≤sizeLine;decide,fun lw nlw=> ?_⟩
   have sw:=aa (o:= .lst []) nlw;refine am ?_;dsimp only;refine ⟨_,rfl,lb,_,rfl, .inl (SqL.of (sw _ _ (inv7.sm _ _ hlb3))),(bs.length:Int),by rw [bvl],by omega,by omega,?_⟩
   rw [zZ]
   refine cN (n:=bs.length) (fun j σ H'=>Same H7 H'∧∃(v10:Option V) (wvs:List V) (ks:List Wt),σ= [some (.ref a),some (.ref lt),some (.ref lb),some (.ref r),some (.ref lp),some (.ref lr),some (.int (i:Int)),some (.ref d),v8,some (.ref lw),v10,none,none]∧H' lw=some (.lst wvs)∧TrsAt H' wvs (List.map wtT ks)∧ks.length≤j∧(∀k∈ks,k.1 < bs.length)∧∀k∈ks,Sh k.2∧Gf 202 k.2)
    ⟨sw,v10,[],[],rfl,a8, .nil,yP _,(fun k m=>by cases m),fun k m=>by cases m⟩ ?_ ?_
   · rintro j σ H8 hj ⟨s8,v10,wvs,ks,rfl,hlw,hw,kl8,kb,kg⟩;rw [Aj];refine am ?_;dsimp only;have s38:=inv7.sm.trans s8;have hS8:=SqL.same s38 hS3;refine ⟨_,rfl,_,rfl,10,(i:Int),rfl,rfl, .inl ⟨by decide,by decide⟩,460,10*(i:Int),rfl,rfl,_,rfl,460+10*(i:Int),(j:Int),rfl,rfl,a,ns,460+10*(i:Int)+(j:Int),2,rfl,hS8,h63,by omega,by omega,by decide,fun r1 _ _ _=> ?_⟩
     refine ⟨rfl,_,rfl,?_⟩;have wvl:=hw.len;rw [yM] at wvl;refine ite2 (fun _=> ?_) (fun _=>⟨s8,_,wvs,ks,rfl,hlw,hw,by omega,kb,kg⟩)
     refine ⟨_,rfl, .inl ⟨rfl,_,SqL.of hlw⟩,_,rfl,_,rfl,_,rfl,10,(i:Int),rfl,rfl, .inl ⟨by decide,by decide⟩,560,10*(i:Int),rfl,rfl,_,rfl,560+10*(i:Int),(j:Int),rfl,rfl,a,ns,560+10*(i:Int)+(j:Int),3,rfl,hS8,h63,by omega,by omega,by decide,fun r2 r20 r23 _=> ?_⟩
     refine ⟨1,r2,rfl,rfl,_,rfl,(i:Int),2,rfl,rfl,(by show (0:Int) < 2;decide),2,(i:Int)%2,rfl,rfl, .inl ⟨by decide,by decide⟩,1+r2,2*((i:Int)%2),rfl,rfl,two,fun q1 nq1=> ?_⟩
     have t1:=aa (o:= .tup [.int (1+r2 - 2*((i:Int)%2)), .int 1]) nq1;refine ⟨two,fun q2 nq2=> ?_⟩;have t2:=aa (o:= .tup [.int (j:Int), .ref q1]) nq2;have hlw2:=(t1.trans t2) _ _ hlw;refine ⟨lw,wvs,_,rfl,rfl,hlw2,by omega,?_⟩
     have kd:=(Kd.of_same (t1.trans t2)).trans (Kd.upd (ys:=wvs++ [.ref q2]) hlw2);have n1:q1≠lw:=fun z=>by rw [z,hlw] at nq1;cases nq1
     have n2:q2≠lw:=fun z=>by rw [z,t1 _ _ hlw] at nq2;cases nq2
     refine ⟨aq nlw (s8.trans (t1.trans t2)),_,wvs++ [.ref q2],ks++ [(j,((1+r2 - 2*((i:Int)%2),1):Fr))],rfl,a8,?_,by rw [z7];show ks.length+1≤j+1;omega,fun k mk=> ?_,fun k mk=> ?_⟩
     · rw [z4];refine TrsAt.app (.cons ?_ .nil) (hw.mono kd);exact c6 (a:= .int (j:Int)) (b:=frT (1+r2 - 2*((i:Int)%2),1)) ((af n2).trans a8) (by unfold TrAt;rfl) (dy ((af n1).trans (t2 _ _ a8)))
     · rcases ze.mp mk with mk|mk
       · exact kb k mk
       · rw [z5.mp mk];exact hj
     · rcases ze.mp mk with mk|mk
       · exact kg k mk
       · rw [z5.mp mk];refine ⟨⟨by show (0:Int) < 1;decide,by show Int.gcd _ 1=1;exact Int.gcd_one_right _⟩,by show (0:Int) < 1;decide,z6 (show (1+r2 - 2*((i:Int)%2)).natAbs≤3 by omega) (by decide +kernel),z6 (show (1:Int).natAbs≤1 by decide) (by decide +kernel)⟩
   intro σ H8 z_;refine hZq fun q_ e_=> ?_;obtain ⟨s8,v10,wvs,ks,rfl,hlw,hw,kl8,kb,kg⟩:=z_;subst e_;have inv8:=inv7.same s8;have nlw3:lw≠lp∧lw≠lr:=⟨fun z=>(by rw [z,inv7.hp] at nlw;cases nlw),fun z=>(by rw [z,inv7.hr] at nlw;cases nlw)⟩
   have pl8:=inv8.pl;have rl8:=inv8.rl;refine ⟨_,rfl, .inl ⟨rfl,_,SqL.of inv8.hr⟩,_,rfl,lr,rws, .ref lw,rfl,rfl,inv8.hr,by omega,?_⟩
   refine ⟨_,_,_,_,_,pts++ [.ref d],rws++ [.ref lw],rfl,?_⟩;have res:=(LInv.mk inv8.sm inv8.hp inv8.hr inv8.ne inv8.pk inv8.rk pl8 rl8:LInv P w K H3 H8 bs.length (1+i+1) lp lr (pts++ [.ref d]) rws).putR nlr3 ⟨lw,wvs,ks,rfl,hlw,hw,by omega,kb,kg,nlw3.1,nlw3.2⟩
   exact ⟨res.sm,res.hp,res.hr,res.ne,res.pk,res.rk,by rw [z7];show pts.length+1≤1+(i+1);omega,by rw [z7];show rws.length+1≤1+(i+1);omega⟩
 intro σ H6 z_;refine hZq fun q_ e_=> ?_;obtain ⟨v6,v7,v8,v9,v10,pts,rws,rfl,inv⟩:=z_;subst e_;have pl6:=inv.pl;have rl6:=inv.rl;dsimp only;refine cQ ?_;refine ck rfl ?_;refine ⟨_,rfl,lp,rfl,⟨_,SqL.of inv.hp⟩,fun L1 nL1=> ?_⟩;refine cq (xs:=pts) (fun j acc H'=>Same H6 H'∧H' L1=some (.lst acc)∧acc.length≤j∧(0 < acc.length→∃ks G,∀b∈bs,Mt ks G b)) ⟨aa nL1,a8,yP _,fun z=>absurd z (by simp)⟩ (fun j acc H' p=>SqL.of (p.1 _ _ inv.hp)) ?_ ?_
 · rintro j x acc H' hj ex ⟨s7,hL,al,hex⟩;refine hZq fun q_ e_=> ?_;obtain ⟨d,ks,G,rfl,hN⟩:=(inv.pk x (yT ex)).same s7;subst e_;have s37:=inv.sm.trans s7;refine ⟨_,rfl,_,rfl,lb,d,bvs,bs,TT,5,202,ks,G,rfl,s37 _ _ hlb3,hB3.mono (Kd.of_same s37),hGb,by rw [tl4];decide,by omega,hN,by decide,fun b0 H8 s8 hb0=> ?_⟩
   refine ⟨_,rfl,?_⟩
   cases b0 with
   |true=>
    refine iteT ⟨_,rfl,CompN.mk hj (by omega) (s8 _ _ hL) ⟨aq nL1 (s7.trans s8),a8,by rw [z7];show acc.length+1≤j+1;omega,fun _=>⟨ks,G,hb0.mp rfl⟩⟩⟩
   |false=>exact iteF (CompS.mk hj ⟨s7.trans s8,s8 _ _ hL,by omega,hex⟩)
 intro acc1 H7 z_;refine hZq fun q_ e_=> ?_;obtain ⟨s7,hL1,al1,hex1⟩:=z_;subst e_;have inv7:=inv.same s7;refine am ?_;refine cQ ?_;refine ck rfl ?_;refine ⟨_,rfl,lr,rfl,⟨_,SqL.of inv7.hr⟩,fun L2 nL2=> ?_⟩;refine cq (xs:=rws) (fun j acc H'=>Same H7 H'∧H' L2=some (.lst acc)∧acc.length≤j∧(0 < acc.length→∃wk:List Wt,(∀k∈wk,k.1 < bs.length)∧(∀k∈wk,Sh k.2)∧Brs bs wk)) ⟨aa nL2,a8,yP _,fun z=>absurd z (by simp)⟩ (fun j acc H' p=>SqL.of (p.1 _ _ inv7.hr)) ?_ ?_
 · rintro j x acc H' hj ex ⟨s8,hL,al,hex⟩;refine hZq fun q_ e_=> ?_;obtain ⟨lw,wvs,ks,rfl,hlw,hw,kl,kb,kg,_,_⟩:=(inv7.rk x (yT ex)).same s8;subst e_;have s38:=inv7.sm.trans s8;have ad:Ad H' lb lw bvs wvs TT bs ks 5 202:=⟨s38 _ _ hlb3,hB3.mono (Kd.of_same s38),hlw,hw,hGb,by rw [tl4];decide,kl,kb,kg,by decide⟩
   refine ⟨_,rfl,_,rfl,lb,lw,bvs,wvs,TT,bs,ks,5,202,rfl,ad,fun b0 H9 s9 hb0=> ?_⟩;refine ⟨_,rfl,?_⟩
   cases b0 with
   |true=>
    refine iteT ⟨_,rfl,CompN.mk hj (by omega) (s9 _ _ hL) ⟨aq nL2 (s8.trans s9),a8,by rw [z7];show acc.length+1≤j+1;omega,fun _=>⟨ks,kb,fun k mk=>(kg k mk).1,hb0.mp rfl⟩⟩⟩
   |false=>exact iteF (CompS.mk hj ⟨s8.trans s9,s9 _ _ hL,by omega,hex⟩)
 intro acc2 H8 z_;refine hZq fun q_ e_=> ?_;obtain ⟨s8,hL2,al2,hex2⟩:=z_;subst e_;refine am ?_;refine ⟨_,rfl,L1,_,rfl, .inl (SqL.of (s8 _ _ hL1)),rfl,_,rfl,?_⟩;refine ite2 (fun _=>k _) (fun y1=> ?_);refine ⟨_,rfl,L2,_,rfl, .inl (SqL.of hL2),rfl,?_⟩
 have l1:0 < acc1.length:=by
  cases acc1 with
  |nil=>exact absurd (decide_eq_true rfl) y1
  |cons x r=>exact Nat.succ_pos _
 have l2:acc2.length=0:=by
  cases acc2 with
  |nil=>rfl
  |cons x r=>
   exfalso;obtain ⟨ks,G,hm⟩:=hex1 l1;refine hZq fun q_ e_=> ?_;obtain ⟨wk,kb,ksh,br⟩:=hex2 (Nat.succ_pos _);subst e_;exact lO hGb hm kb ksh br
 have e2:decide (V.int (acc2.length:Int)=V.int 0)=true:=by rw [l2];exact decide_eq_true rfl
 rw [e2];exact k _
end
end K40
namespace K40
open PySem L2 Mth Wd
theorem ex0 {n:Nat} (us:List Value) (hl:us.length=n+1):∃a vs,us=a::vs∧vs.length=n:=by
 cases us with
 |nil=>cases hl
 |cons a vs=>exact ⟨a,vs,rfl,Nat.succ.inj hl⟩
theorem ex1 (us:List Value) (hl:us.length=1):∃a,us= [a]:=by
 obtain ⟨a,vs,rfl,h⟩:=ex0 us hl;exact ⟨a,by rw [List.eq_nil_of_length_eq_zero h]⟩
theorem ex2 (us:List Value) (hl:us.length=2):∃a b,us= [a,b]:=by
 obtain ⟨a,vs,rfl,h⟩:=ex0 us hl;obtain ⟨b,rfl⟩:=ex1 vs h;exact ⟨a,b,rfl⟩
theorem ex3 (us:List Value) (hl:us.length=3):∃a b c,us= [a,b,c]:=by
 obtain ⟨a,vs,rfl,h⟩:=ex0 us hl;obtain ⟨b,c,rfl⟩:=ex2 vs h;exact ⟨a,b,c,rfl⟩
theorem ex4 (us:List Value) (hl:us.length=4):∃a b c d,us= [a,b,c,d]:=by
 obtain ⟨a,vs,rfl,h⟩:=ex0 us hl;obtain ⟨b,c,d,rfl⟩:=ex3 vs h;exact ⟨a,b,c,d,rfl⟩
theorem all_mk {l:PySem.W.OpenLaw} {w:World} {K:PySem.W.Frag} {h:Heap} {mg:Str→Option Value} {fa:Addr} (X:K.In h) (G:h.Ns mainGlobals mg) (hfa:mg "law"=some (.ref fa))
 {T0 c0:Addr}
 {fLB:Addr} {odLB anLB:Option Addr} {slLB:Array (Option Value)} {ocLB kVLB dcLB pmLB ctLB:Value}
 {fCD fFR fPL fTI fLE fSG fBR fST fSM fTO fSE fTM fSH fSC fWH fCT fIS fSL fTU fTD fRE fWA fHC fWB fLI fSP fTL fNU fME fIM fAD fBE fWG fDR fLS fTS fBO fLA:Addr} {dCD dFR dPL dTI dLE dSG dBR dST dSM dTO dSE dTM dSH dSC dWH dCT dIS dSL dTU dTD dRE dWA dHC dWB dLI dSP dTL dNU dME dIM dAD dBE dWG dDR dLS dTS dBO dLA:FuncData}
 {Z:Addr} {dZ:Option Addr} {nZ:Nat} {sZ:Array (Option Value)} {t0 t1:Tok}
 {C fI:Addr} {odI anI:Option Addr} {slI:Array (Option Value)} {ocI kVI dcI pmI cdI ctI:Value}
 (hCD:FH K "common_divisor" sCd fCD dCD)
 (hFR:FH K "fraction" sFr fFR dFR)
 (hPL:FH K "plus" qK fPL dPL)
 (hTI:FH K "times" lE fTI dTI)
 (hLE:FH K "is_less" qL fLE dLE)
 (hSG:FH K "sign_of" qJ fSG dSG)
 (hBR:FH K "bracketed" sBr fBR dBR)
 (hST:FH K "shown_term" sSt fST dST)
 (hSM:FH K "sum_of" sSum fSM dSM)
 (hTO:FH K "table_of" sTof fTO dTO)
 (hSE:FH K "settle" sSet fSE dSE)
 (hTM:FH K "terms_of" sTmo fTM dTM)
 (hSH:FH K "shares_in" sShi fSH dSH)
 (hSC:FH K "scale_of" sSco fSC dSC)
 (hWH:FH K "whole_of" sWho fWH dWH)
 (hCT:FH K "counts_of" sCto fCT dCT)
 (hIS:FH K "is_slack" sIsl fIS dIS)
 (hSL:FH K "slack_lines" sSll fSL dSL)
 (hTU:FH K "turn" sTur fTU dTU)
 (hTD:FH K "turned" sTud fTD dTD)
 (aLB:PySem.W.nsIn K mainGlobals "least_by"=some (some (.ref fLB)))
 (lLB:K.lookup fLB=some ⟨ocLB,odLB, .func (PySem.W.fnOf "least_by" "least_by" (bp sLby) (aS sLby) (ag sLby) .none kVLB dcLB pmLB anLB (.ref c0) ctLB),slLB⟩)
 (cLB:PySem.W.codeIn K (.ref c0) "least_by"=true)
 (kLB:PySem.W.keepIn K (.ref fLB)=true)
 (hRE:FH K "refuted" sRef fRE dRE)
 (hWA:FH K "weights_against" sWag fWA dWA)
 (hHC:FH K "head_counts" sHco fHC dHC)
 (hWB:FH K "weights_by" sWby fWB dWB)
 (hLI:FH K "line_of" sLio fLI dLI)
 (hSP:FH K "strict_point" sStr fSP dSP)
 (hTL:FH K "term_lines" sTli fTL dTL)
 (hNU:FH K "numbers_at" sNua fNU dNU)
 (hME:FH K "meets" sMee fME dME)
 (hIM:FH K "is_met" sIsm fIM dIM)
 (hAD:FH K "added" lH fAD dAD)
 (hBE:FH K "bears" lG fBE dBE)
 (hWG:FH K "weighed" sWgd fWG dWG)
 (hDR:FH K "_law_draw" qN fDR dDR)
 (hLS:FH K "_law_share" lF fLS dLS)
 (hTS:FH K "_law_terms" fw fTS dTS)
 (hBO:FH K "_law_bounds" jf fBO dBO)
 (hLA:FH K "law" sLaw fLA dLA)
 (aZ:PySem.W.nsIn K mainGlobals "ZERO"=some (some (.ref Z)))
 (lZ:K.lookup Z=some ⟨.type "tuple",dZ, .seq #[.int 0 t0, .int 1 t1] nZ,sZ⟩)
 (aTB:PySem.W.nsIn K mainGlobals "Table"=some (some (.ref C)))
 (iI:PySem.W.findIn K (.ref C) "__init__"=some (some (.ref fI)))
 (fnI:PySem.W.isFn K (.ref fI)=true)
 (lI:K.lookup fI=some ⟨ocI,odI, .func (PySem.W.fnOf "__init__" "Table.__init__" (bp iE) (aS iE) (ag iE) .none kVI dcI pmI anI cdI ctI),slI⟩)
 (cI:PySem.W.codeIn K cdI "Table.__init__"=true)
 (kI:PySem.W.keepIn K (.ref fI)=true)
 (kC:PySem.W.keepIn K (.ref C)=true)
 (qM:PySem.W.makesIn K C=true)
 (qG:PySem.W.plainGet K C Str.empty=true)
 (qD:PySem.W.hasDictIn K C=true)
 (qO:PySem.W.plainOver K C=true)
 (qS:PySem.W.findIn K (.ref C) "__setattr__"=some (some (.builtin "object.__setattr__")))
 (q_terms:PySem.W.findIn K (.ref C) "terms"=some none)
 (q_scales:PySem.W.findIn K (.ref C) "scales"=some none)
 (q_lines:PySem.W.findIn K (.ref C) "lines"=some none)
 (q_bottom:PySem.W.findIn K (.ref C) "bottom"=some none)
 (q_sides:PySem.W.findIn K (.ref C) "sides"=some none)
 (q_heads:PySem.W.findIn K (.ref C) "heads"=some none)
 (z_abs:PySem.W.nsIn K mainGlobals "abs"=some none)
 (z_len:PySem.W.nsIn K mainGlobals "len"=some none)
 (z_range:PySem.W.nsIn K mainGlobals "range"=some none)
 (z_isinstance:PySem.W.nsIn K mainGlobals "isinstance"=some none)
 (z_tuple:PySem.W.nsIn K mainGlobals "tuple"=some none)
 (z_int:PySem.W.nsIn K mainGlobals "int"=some none)
 (z_bool:PySem.W.nsIn K mainGlobals "bool"=some none)
 (z_list:PySem.W.nsIn K mainGlobals "list"=some none)
 (z_str:PySem.W.nsIn K mainGlobals "str"=some none)
 (z_all:PySem.W.nsIn K mainGlobals "all"=some none)
 (z_any:PySem.W.nsIn K mainGlobals "any"=some none)
 (z_sum:PySem.W.nsIn K mainGlobals "sum"=some none)
 (z_zip:PySem.W.nsIn K mainGlobals "zip"=some none)
 (z_sorted:PySem.W.nsIn K mainGlobals "sorted"=some none)
 (z_ValueError:PySem.W.nsIn K mainGlobals "ValueError"=some none)
 (z_repr:PySem.W.nsIn K mainGlobals "repr"=some none)
 (z_enumerate:PySem.W.nsIn K mainGlobals "enumerate"=some none)
 (z_max:PySem.W.nsIn K mainGlobals "max"=some none)
 (z_min:PySem.W.nsIn K mainGlobals "min"=some none)
 (xT:PySem.W.codeHdIn K c0 T0=true)
 (xN:K.lookup T0=none):
 ∃c0:Addr,K.lookup T0=none∧PySem.W.codeHdIn K c0 T0=true∧∃fd:FuncData,(∀(s:Shared) (v:Value),BindsTo s fd ⟨[v],[]⟩ [("_law_script",v)])∧∀base:Heap,K.In base→base.Ns mainGlobals mg→base.BuiltinsAt mg T0→FnOk l.prog w K mg base CX0 45 fa fd ["_law_script"] (mK K T0):=by
 have e:=hfa.symm.trans (PySem.W.mg_of X G hLA.ns);cases e;refine hZq fun q_ e_=> ?_;obtain ⟨_,_,kVLA,dcLA,pmLA,anLA,cdLA,ctLA,_,rfl,lLA,cLA⟩:=hLA.ex;subst e_;have B:Blt mg:=⟨PySem.W.mg_none_of X G z_abs,PySem.W.mg_none_of X G z_len,PySem.W.mg_none_of X G z_range,PySem.W.mg_none_of X G z_isinstance,PySem.W.mg_none_of X G z_tuple,PySem.W.mg_none_of X G z_int,PySem.W.mg_none_of X G z_bool,PySem.W.mg_none_of X G z_list,PySem.W.mg_none_of X G z_str,PySem.W.mg_none_of X G z_all,PySem.W.mg_none_of X G z_any,PySem.W.mg_none_of X G z_sum,PySem.W.mg_none_of X G z_zip,PySem.W.mg_none_of X G z_sorted,PySem.W.mg_none_of X G z_ValueError,PySem.W.mg_none_of X G z_repr,PySem.W.mg_none_of X G z_enumerate,PySem.W.mg_none_of X G z_max,PySem.W.mg_none_of X G z_min⟩;have FI:=xq (st:=iE) lI cI kI;have bI:=FI.binds (ps:= ["self","terms","scales","lines"]) fun _ _ _ _ _ _ us hl=>by obtain ⟨_,_,_,_,rfl⟩:=ex4 us hl;rfl
 have mTB:=PySem.W.mg_of X G aTB;have hC:Tk K C:=⟨⟨qG,qD,qO,qS⟩,q_terms,q_scales,q_lines,q_bottom,q_sides,q_heads⟩;have hM:Mk K C fI:=⟨qM,iI,fnI,kC⟩;have XLB:FunC K "least_by" "least_by" sLby fLB _ c0:=⟨⟨_,_,_,_,_,_,_,_,rfl,lLB,cLB⟩⟩;have bCD:Binds K _ ["one","other"] []:=hCD.b2;have mCD:=PySem.W.mg_of X G hCD.ns;have bFR:Binds K _ ["top","bottom"] []:=hFR.b2;have mFR:=PySem.W.mg_of X G hFR.ns;have bPL:Binds K _ ["one","other"] []:=hPL.b2;have mPL:=PySem.W.mg_of X G hPL.ns;have bTI:Binds K _ ["one","other"] []:=hTI.b2;have mTI:=PySem.W.mg_of X G hTI.ns;have bLE:Binds K _ ["one","other"] []:=hLE.b2;have mLE:=PySem.W.mg_of X G hLE.ns;have bSG:Binds K _ ["one"] []:=hSG.b1;have mSG:=PySem.W.mg_of X G hSG.ns;have bBR:Binds K _ ["words"] []:=hBR.b1;have mBR:=PySem.W.mg_of X G hBR.ns;have bST:Binds K _ ["term"] []:=hST.b1;have mST:=PySem.W.mg_of X G hST.ns;have bSM:Binds K _ ["pairs"] []:=hSM.b1;have mSM:=PySem.W.mg_of X G hSM.ns;have bTO:Binds K _ ["bounds","sums"] []:=hTO.b2;have mTO:=PySem.W.mg_of X G hTO.ns;have bSE:Binds K _ ["table"] []:=hSE.b1;have mSE:=PySem.W.mg_of X G hSE.ns;have bTM:Binds K _ ["sums"] []:=hTM.b1;have mTM:=PySem.W.mg_of X G hTM.ns;have bSH:Binds K _ ["pairs"] []:=hSH.b1;have mSH:=PySem.W.mg_of X G hSH.ns;have bSC:Binds K _ ["shares"] []:=hSC.b1;have mSC:=PySem.W.mg_of X G hSC.ns;have bWH:Binds K _ ["share","scale"] []:=hWH.b2;have mWH:=PySem.W.mg_of X G hWH.ns;have bCT:Binds K _ ["pairs","terms","scale"] []:=hCT.b3;have mCT:=PySem.W.mg_of X G hCT.ns;have bIS:Binds K _ ["table","number"] []:=hIS.b2;have mIS:=PySem.W.mg_of X G hIS.ns;have bSL:Binds K _ ["table"] []:=hSL.b1;have mSL:=PySem.W.mg_of X G hSL.ns;have bTU:Binds K _ ["table","at","column"] []:=hTU.b3;have mTU:=PySem.W.mg_of X G hTU.ns;have bTD:Binds K _ ["table","other","line","column","bottom"] []:=hTD.b5;have mTD:=PySem.W.mg_of X G hTD.ns;have hLB:FH K _ sLby _ _:= .mk' aLB lLB cLB kLB;have bLB:Binds K _ ["numbers","places"] []:=hLB.b2;have mLB:=PySem.W.mg_of X G hLB.ns;have bRE:Binds K _ ["table"] []:=hRE.b1;have mRE:=PySem.W.mg_of X G hRE.ns;have bWA:Binds K _ ["table","at"] []:=hWA.b2;have mWA:=PySem.W.mg_of X G hWA.ns;have bHC:Binds K _ ["table","line"] []:=hHC.b2;have mHC:=PySem.W.mg_of X G hHC.ns;have bWB:Binds K _ ["table","counts","bottom"] []:=hWB.b3;have mWB:=PySem.W.mg_of X G hWB.ns;have bLI:Binds K _ ["table","number"] []:=hLI.b2;have mLI:=PySem.W.mg_of X G hLI.ns;have bSP:Binds K _ ["table"] []:=hSP.b1;have mSP:=PySem.W.mg_of X G hSP.ns;have bTL:Binds K _ ["table"] []:=hTL.b1;have mTL:=PySem.W.mg_of X G hTL.ns;have bNU:Binds K _ ["table","point"] []:=hNU.b2;have mNU:=PySem.W.mg_of X G hNU.ns;have bME:Binds K _ ["bounds","numbers"] []:=hME.b2;have mME:=PySem.W.mg_of X G hME.ns;have bIM:Binds K _ ["bound","numbers"] []:=hIM.b2;have mIM:=PySem.W.mg_of X G hIM.ns;have bAD:Binds K _ ["bounds","weights"] []:=hAD.b2;have mAD:=PySem.W.mg_of X G hAD.ns;have bBE:Binds K _ ["bounds","weights"] []:=hBE.b2;have mBE:=PySem.W.mg_of X G hBE.ns;have bWG:Binds K _ ["bounds"] []:=hWG.b1
 have mWG:=PySem.W.mg_of X G hWG.ns;have bDR:Binds K _ ["_law_script","_law_k","_law_many"] []:=hDR.b3;have mDR:=PySem.W.mg_of X G hDR.ns;have bLS:Binds K _ ["_law_script","_law_base","_law_far"] []:=hLS.b3;have mLS:=PySem.W.mg_of X G hLS.ns;have bTS:Binds K _ ["_law_script"] []:=hTS.b1;have mTS:=PySem.W.mg_of X G hTS.ns;have bBO:Binds K _ ["_law_script","_law_terms_here"] []:=hBO.b2;have mBO:=PySem.W.mg_of X G hBO.ns;have mZ:=PySem.W.mg_of X G aZ;have hX:∀H:Hp,Dj.SqX K H Z [.int 0, .int 1]:=fun H=> .inr ⟨_,_,_,lZ,rfl,rfl,(by show 2≤sizeLine;decide), .cons ⟨t0,rfl⟩ (.cons ⟨t1,rfl⟩ .nil)⟩
 refine ⟨c0,xN,xT,PySem.W.fnOf "law" "law" (bp sLaw) (aS sLaw) (ag sLaw) .none kVLA dcLA pmLA anLA cdLA ctLA,fun s v=> .of_eq rfl,fun base _ _ hB=> ?_⟩;have hZ:∀H:Hp,SqT K H Z [.int 0, .int 1]:=fun H=>(hX H).sq;have gFR:FnOk l.prog w K mg base CX0 2 fFR _ _ mM:=wQ hFR.fn hCD.fn bCD mCD B;have gST:FnOk l.prog w K mg base CX0 41 fST _ _ (spSt 40):=yx hST.fn bST mST hBR.fn bBR mBR 40;have gSH:FnOk l.prog w K mg base CX0 1 fSH _ _ qm:=wE hSH.fn;have gSC:FnOk l.prog w K mg base CX0 2 fSC _ _ qu:=wG hSC.fn hCD.fn bCD mCD B;have gWH:FnOk l.prog w K mg base CX0 1 fWH _ _ mG:=wp hWH.fn;have gTM:FnOk l.prog w K mg base CX0 42 fTM _ _ qe:=wz hTM.fn B gST hST.kp bST mST;have gCT:FnOk l.prog w K mg base CX0 42 fCT _ _ qF:=wR hCT.fn gST hST.kp bST mST gWH hWH.kp bWH mWH;have gIS:FnOk l.prog w K mg base CX0 1 fIS _ _ (qC (K:=K)):=wO hIS.fn B;have gSL:FnOk l.prog w K mg base CX0 2 fSL _ _ (jP (K:=K)):=wD hSL.fn B gIS hIS.kp bIS mIS;have gTD:FnOk l.prog w K mg base CX0 1 fTD _ _ (pW (K:=K)):=wx hTD.fn B;have gTU:FnOk l.prog w K mg base CX0 2 fTU _ _ (mJ (K:=K)):=ww hTU.fn B gTD hTD.kp bTD mTD;have gLB:FnOk l.prog w K mg base CX0 2 fLB _ _ (qA (K:=K) T0):=wL XLB B xT hB;have gI:FnOk l.prog w K mg base CX0 1 fI _ ["self","terms","scales","lines"] (lu (K:=K) C):=ui FI B;have gSE:FnOk l.prog w K mg base CX0 3 fSE _ _ (qp (K:=K)):=wF hSE.fn B gSL hSL.kp bSL mSL gTU hTU.kp bTU mTU;have gHC:FnOk l.prog w K mg base CX0 1 fHC _ _ (qE (K:=K)):=wP hHC.fn B;have gWB:FnOk l.prog w K mg base CX0 3 fWB _ _ (pU (K:=K)):=wu hWB.fn B gFR hFR.kp bFR mFR;have gWA:FnOk l.prog w K mg base CX0 4 fWA _ _ (pV (K:=K)):=wv hWA.fn B gHC hHC.kp bHC mHC hCD.fn bCD mCD gWB hWB.kp bWB mWB;have gRE:FnOk l.prog w K mg base CX0 5 fRE _ _ (qw (K:=K) T0):=wH hRE.fn B gSL hSL.kp bSL mSL gLB hLB.kp bLB mLB gWA hWA.kp bWA mWA gTU hTU.kp bTU mTU;have gLI:FnOk l.prog w K mg base CX0 1 fLI _ _ (qz (K:=K)):=wK hLI.fn B;have gTL:FnOk l.prog w K mg base CX0 2 fTL _ _ (qg (K:=K)):=wA hTL.fn B gLI hLI.kp bLI mLI;have gSP:FnOk l.prog w K mg base CX0 3 fSP _ _ (qk (K:=K)):=wC hSP.fn B gSL hSL.kp bSL mSL gTL hTL.kp bTL mTL;have gNU:FnOk l.prog w K mg base CX0 3 fNU _ _ (qx (P:=l.prog) (w:=w) (K:=K)):=wI hNU.fn B gFR hFR.kp bFR mFR;have gTO:FnOk l.prog w K mg base CX0 43 fTO _ _ (pZ C):=wy hTO.fn B hC gTM hTM.kp bTM mTM gSC hSC.kp bSC mSC gSH hSH.kp bSH mSH gCT hCT.kp bCT mCT gWH hWH.kp bWH mWH hM gI bI mTB gSE hSE.kp bSE mSE;have gWG:FnOk l.prog w K mg base CX0 44 fWG _ _ (pS l.prog w K T0):=wq hWG.fn hC gTO hTO.kp bTO mTO gRE hRE.kp bRE mRE gNU hNU.kp bNU mNU gSP hSP.kp bSP mSP;have gPL:FnOk l.prog w K mg base CX0 2 fPL _ _ (ft K):=uk hPL.fn hCD.fn bCD mCD B;have gTI:FnOk l.prog w K mg base CX0 2 fTI _ _ (gj K):=rN hTI.fn hCD.fn bCD mCD B;have gLE:FnOk l.prog w K mg base CX0 1 fLE _ _ (lA K):=um hLE.fn;have gSG:FnOk l.prog w K mg base CX0 1 fSG _ _ (lx K):=uj hSG.fn;have gSM:FnOk l.prog w K mg base CX0 3 fSM _ _ qh:=wB hSM.fn B gPL hPL.kp bPL mPL mZ hZ;have gIM:FnOk l.prog w K mg base CX0 3 fIM _ _ (qB l.prog w K):=wN hIM.fn gTI hTI.kp bTI mTI gPL hPL.kp bPL mPL gLE hLE.kp bLE mLE mZ hZ
 have gME:FnOk l.prog w K mg base CX0 4 fME _ _ (qy l.prog w K):=wJ hME.fn B gIM hIM.kp bIM mIM;have gAD:FnOk l.prog w K mg base CX0 4 fAD _ _ (jb K):=rR hAD.fn gSM hSM.kp bSM mSM gTI hTI.kp bTI mTI gPL hPL.kp bPL mPL mZ hZ;have gBE:FnOk l.prog w K mg base CX0 5 fBE _ _ (ja K):=rQ hBE.fn B gSG hSG.kp bSG mSG gAD hAD.kp bAD mAD;have gDR:FnOk l.prog w K mg base CX0 1 fDR _ _ (fu K):=uo hDR.fn B;have gLS:FnOk l.prog w K mg base CX0 2 fLS _ _ (gn K):=rP hLS.fn gDR hDR.kp bDR mDR;have gTS:FnOk l.prog w K mg base CX0 2 fTS _ _ (j9 K):=rO hTS.fn gDR hDR.kp bDR mDR;have gBO:FnOk l.prog w K mg base CX0 3 fBO _ _ (gX K):=oB hBO.fn B gDR hDR.kp bDR mDR gLS hLS.kp bLS mLS;exact wM hLA.fn B gTS hTS.kp bTS mTS gBO hBO.kp bBO mBO gWG hWG.kp bWG mWG gDR hDR.kp bDR mDR gLS hLS.kp bLS mLS gME hME.kp bME mME gBE hBE.kp bBE mBE
theorem walk {l:PySem.W.OpenLaw} {q:Program} {loose:List Str} {XP:(Str→Option Value)→Heap→Prop} {YP:World→Heap→Prop} {d:DefRec} {K:Params→PySem.W.Frag} {T0:Addr} (hn:l.most=some 63) (hdf:d.params.defaults= [])
 (hY:∀(w:World) (h:Heap),YP w h→(K w.params).In h) (hYT:∀(w:World) (h:Heap),YP w h→h.get? T0=some (PySem.W.tabObj #[]))
 (F:∀(w:World) (mg:Str→Option Value) (fa:Addr) (h:Heap),(K w.params).In h→h.Ns mainGlobals mg→mg d.name=some (.ref fa)→
  ∃c0:Addr,(K w.params).lookup T0=none∧PySem.W.codeHdIn (K w.params) c0 T0=true∧∃fd:FuncData,(∀(s:Shared) (u:Value),BindsTo s fd ⟨[u],[]⟩ [("_law_script",u)])∧∀base:Heap,(K w.params).In base→base.Ns mainGlobals mg→base.BuiltinsAt mg T0→FnOk l.prog w (K w.params) mg base CX0 45 fa fd ["_law_script"] (mK (K w.params) T0)):
 PySem.W.WalkO q loose XP YP l.row.toRowW d [] (fun f vs=>PySem.call f vs):=
 L2.walk_ofT (n:=63) (k:=45) (x:="_law_script") (CX:=fun _=>CX0) (sp:=fun w T0=>mK (K w.params) T0) hn (by decide) hdf ⟨rfl,by decide,by decide,rfl⟩ hY hYT F (fun _ _ a ns hl hT hS=>⟨a,ns,rfl,hS,hl, .inl hT,fun _=>rfl⟩) fun _ _ _ _ _ z=>z
end K40
def PySem.W.Fast.tw13936972464007911502:Unit:=()
def PySem.W.Fast.tw47070349816489234:Unit:=()
def PySem.W.Fast.tw3903647372482193459:Unit:=()
def PySem.W.Fast.tw6926631997286452875:Unit:=()
def PySem.W.Fast.tw13658287840928303620:Unit:=()
def PySem.W.Fast.tw8141693828018956972:Unit:=()
def PySem.W.Fast.tw5046580625194457312:Unit:=()
def PySem.W.Fast.tw11134693333651769672:Unit:=()
def PySem.W.Fast.tw11447186347737696752:Unit:=()
def PySem.W.Fast.tw354645399613781711:Unit:=()
def PySem.W.Fast.tw10077030181282539812:Unit:=()
def PySem.W.Fast.tw11758897498791414308:Unit:=()
def PySem.W.Fast.tw13790635080815500239:Unit:=()
def PySem.W.Fast.tw5204539749947961315:Unit:=()
def PySem.W.Fast.tw4801293762134707367:Unit:=()
def PySem.W.Fast.tw2258052581992538602:Unit:=()
def PySem.W.Fast.tw8826078561805857301:Unit:=()
def PySem.W.Fast.tw5743303893653991718:Unit:=()
def PySem.W.Fast.tw54856617403195177:Unit:=()
def PySem.W.Fast.tw3731077554791318770:Unit:=()
def PySem.W.Fast.tw10827208756093173693:Unit:=()
def PySem.W.Fast.tw13257146345869621710:Unit:=()
def PySem.W.Fast.tw2353196321740653029:Unit:=()
def PySem.W.Fast.tw6289980561377283815:Unit:=()
def PySem.W.Fast.tw14088704537989396376:Unit:=()
def PySem.W.Fast.tw18027189890855626522:Unit:=()
def PySem.W.Fast.tw960734928680203154:Unit:=()
def PySem.W.Fast.tw4458734915360509521:Unit:=()
def PySem.W.Fast.tw7513921737540254689:Unit:=()
def PySem.W.Fast.tw2156644461623387599:Unit:=()
def PySem.W.Fast.tw2235636910076629321:Unit:=()
def PySem.W.Fast.tw7495029175599494858:Unit:=()
def PySem.W.Fast.tw16495440990612041513:Unit:=()
def PySem.W.Fast.tw2304708764862701979:Unit:=()
def PySem.W.Fast.tw6387704940747080112:Unit:=()
def PySem.W.Fast.tw1752528527360592592:Unit:=()
open PySem PySem.W PyProof.Rows
set_option maxRecDepth 100000 in
set_option maxHeartbeats 0 in
theorem PySem.Challenge.cw_smallword_k40_whole_never_both_holds : PySem.Challenge.rw_smallword_k40_whole_never_both.Holds := by
  w_on; o_law; k_head; (case hw => w_witness2)
  k_fill
  refine K40.walk (l := PySem.Challenge.rw_smallword_k40_whole_never_both) (T0 := _) rfl rfl (fun w h Y => PySem.W.km_in_of Y) (fun w h Y => PySem.W.km_tabs_of Y _ (by first | exact List.mem_cons_self | decide)) ?F
  case F =>
    intro w mg fa h KX G hmg;refine' K40.all_mk KX G hmg (.mk' ?_ ?_ ?_ ?_) (.mk' ?_ ?_ ?_ ?_) (.mk' ?_ ?_ ?_ ?_) (.mk' ?_ ?_ ?_ ?_) (.mk' ?_ ?_ ?_ ?_) (.mk' ?_ ?_ ?_ ?_) (.mk' ?_ ?_ ?_ ?_) (.mk' ?_ ?_ ?_ ?_) (.mk' ?_ ?_ ?_ ?_) (.mk' ?_ ?_ ?_ ?_) (.mk' ?_ ?_ ?_ ?_) (.mk' ?_ ?_ ?_ ?_) (.mk' ?_ ?_ ?_ ?_) (.mk' ?_ ?_ ?_ ?_) (.mk' ?_ ?_ ?_ ?_) (.mk' ?_ ?_ ?_ ?_) (.mk' ?_ ?_ ?_ ?_) (.mk' ?_ ?_ ?_ ?_) (.mk' ?_ ?_ ?_ ?_) (.mk' ?_ ?_ ?_ ?_) ?_ ?_ ?_ ?_ (.mk' ?_ ?_ ?_ ?_) (.mk' ?_ ?_ ?_ ?_) (.mk' ?_ ?_ ?_ ?_) (.mk' ?_ ?_ ?_ ?_) (.mk' ?_ ?_ ?_ ?_) (.mk' ?_ ?_ ?_ ?_) (.mk' ?_ ?_ ?_ ?_) (.mk' ?_ ?_ ?_ ?_) (.mk' ?_ ?_ ?_ ?_) (.mk' ?_ ?_ ?_ ?_) (.mk' ?_ ?_ ?_ ?_) (.mk' ?_ ?_ ?_ ?_) (.mk' ?_ ?_ ?_ ?_) (.mk' ?_ ?_ ?_ ?_) (.mk' ?_ ?_ ?_ ?_) (.mk' ?_ ?_ ?_ ?_) (.mk' ?_ ?_ ?_ ?_) (.mk' ?_ ?_ ?_ ?_) ?_ ?_ ?_ ?_ ?_ ?_ ?_ ?_ ?_ ?_ ?_ ?_ ?_ ?_ ?_ ?_ ?_ ?_ ?_ ?_ ?_ ?_ ?_ ?_ ?_ ?_ ?_ ?_ ?_ ?_ ?_ ?_ ?_ ?_ ?_ ?_ ?_ ?_ ?_ ?xT ?xN
    any_goals k_is
    any_goals kernel_rfl
