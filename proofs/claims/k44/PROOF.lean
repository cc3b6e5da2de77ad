import PyProof.Rows.All
import Wide.All
import OpenK.AllK
import Wide.FinOn
import Lean
import PyProof.EqAt
import PyProof.EqKinds
import PyProof.TupleCall
import KE.KSortTup
import PyProof.NeKinds
import KE.KIntText
import KE.KRevIter
import PyProof.Rows.Range3
import PyProof.StrLawsTight
import PyProof.DictRoadsH
import PyProof.ZipIter
import KE.LcSums
import KE.KListMore
import KE.KDictList
import KE.KDictLaws
import PyProof.WalksEnum
import PyProof.EnumMake
import PyProof.Rows.EnumRows
import PyProof.DictCompW
import PyProof.Rows.SortKeyStr
import PyProof.Rows.SortWalk
import KE.KMinKey
import PyProof.NsDelKeeps
import PyProof.RulesDel
import PyProof.RulesDelMore
import PyProof.DelItemList
import KE.KNestM
import KE.KLam
import PyProof.ListRange
import KE.KFind
import PyProof.Rows.SortLt
import PyProof.SeqI3
import KE.KItemsList
import PySem.Challenge.RW_smallword_k44_least_bounds
set_option Elab.async false
set_option linter.all false
set_option maxRecDepth 100000
set_option compiler.extract_closed false
set_option maxHeartbeats 8000000
theorem hZq{p:Prop}(h:∀q:Prop,q=p->q):p:=h p rfl
namespace Zz
def zm:=@List.length_map
def zo:=@List.getElem?_eq_getElem
def zp:=@List.mem_cons_of_mem
def zq:=@List.mem_cons_self
def zr:=@List.getElem?_map
def zt:=@List.getD_eq_getElem?_getD
def zu:=@Nat.le_refl
def zv:=@List.getElem?_eq_some_iff
def zw:=@List.mem_of_getElem?
def zx:=@List.size_toArray
def zy:=@Option.map_eq_some_iff
def zJ:=@List.mem_cons
def zK:=@Nat.le_trans
def zM:=@List.mem_map
def zN:=@Option.some.inj
def zO:=@Nat.ne_of_lt
def zQ:=@List.map_append
def zR:=@List.mem_append_right
def zU:=@List.map_cons
def zV:=@List.length_cons
def zX:=@Bool.false_ne_true
def zY:=@Nat.zero_le
def zZ:=@Nat.lt_of_le_of_lt
def A3:=@List.take_length
def A4:=@List.getElem_mem
def A5:=@Nat.lt_of_lt_of_le
def A6:=@List.length_append
def A7:=@List.length_take
def A8:=@List.mem_singleton
def A9:=@List.mem_append
def Aa:=@List.length_filter_le
def Ab:=@List.not_mem_nil
def Ac:=@Int.natAbs_mul
def Ad:=@Int.gcd_pos_of_ne_zero_right
def Ae:=@Array.length_toList
def Af:=@List.mem_range
def Ag:=@List.mem_filter
def Ah:=@Array.getElem?_toList
def Ai:=@List.filter_append
def Aj:=@List.length_range
def Ak:=@List.cons_append
def Al:=@List.nodup_iff_pairwise_ne
def Am:=@Int.fdiv_eq_ediv_of_nonneg
def An:=@List.pairwise_iff_getElem
def Ao:=@Array.getElem?_eq_getElem
def Ap:=@Nat.mul_le_mul_right
def Aq:=@Nat.lt_succ_of_lt
def Ar:=@List.take_zero
def As:=@List.range_succ
def At:=@List.map_map
def Au:=@List.lookup_cons
def Av:=@Int.zero_mul
def Aw:=@Nat.pow_le_pow_right
def Ax:=@List.getElem_of_mem
def Ay:=@List.zip_cons_cons
def Az:=@Int.mul_zero
def AA:=@Int.toNat_natCast
def AB:=@Nat.add_le_add_left
def AC:=@List.find?_cons
def AD:=@Int.zero_add
def AE:=@Bool.false_eq_true
def AF:=@Nat.mul_le_mul
def AG:=@List.nodup_cons
def AH:=@List.append_nil
def AI:=@List.toList_toArray
def AJ:=@List.map_nil
def AK:=@Nat.lt_succ_self
def AL:=@Bool.and_eq_true
def AM:=@List.getElem?_eq_none
def AN:=@List.mem_of_mem_take
def AO:=@List.mem_append_left
def AQ:=@List.cons.injEq
def AR:=@List.pairwise_map
def AS:=@Nat.lt_irrefl
def AT:=@Nat.le_add_right
def AU:=@Int.natAbs_neg
def AV:=@Int.mul_comm
def AW:=@Bool.eq_iff_iff
end Zz
open Zz
namespace L2
open PySem PySem.Spec PyProof.Rows
abbrev Key:=Sum Int Str
noncomputable def fO:Key->Value->Bool
 | .inl k,v=>Value.isInt k v
 | .inr x,v=>Value.isStrOf x v
noncomputable def keyH(w:World):Key->Int
 | .inl k=>hashInt k
 | .inr x=>hashStr w x
theorem aF:∀ {k:Key} {v:Value},fO k v=true->(∃i t,k=Sum.inl i/\v=Value.int i t)\/(∃x t,k=Sum.inr x/\v=Value.str x t)
 | .inl i,v,h=>by
  obtain⟨t,e⟩:=Value.isInt_shape (k:=i) (v:=v) h;exact .inl ⟨i,t,rfl,e⟩
 | .inr x,v,h=>by
  obtain⟨t,e⟩:=Value.isStrOf_shape (x:=x) (v:=v) h;exact .inr ⟨x,t,rfl,e⟩
theorem iV(i:Int)(t:Tok):fO (.inl i) (.int i t)=true:=by simp[fO,Value.isInt]
theorem iU(x:Str)(t:Tok):fO (.inr x) (.str x t)=true:=by simp[fO,Value.isStrOf]
theorem xX(a b:Int):decide ((Sum.inl a:Key)=Sum.inl b)=(a==b):=by
 by_cases e:a=b
 . subst e;simp
 . have h:¬(Sum.inl a:Key)=Sum.inl b:=fun q=>e (Sum.inl.inj q);rw[decide_eq_false h];exact(beq_eq_false_iff_ne.mpr e).symm
theorem xU(a b:Str):decide ((Sum.inr a:Key)=Sum.inr b)=decide (a=b):=by
 by_cases e:a=b
 . subst e;simp
 . have h:¬(Sum.inr a:Key)=Sum.inr b:=fun q=>e (Sum.inr.inj q);rw[decide_eq_false h,decide_eq_false e]
theorem xW(a:Int)(b:Str):decide ((Sum.inl a:Key)=Sum.inr b)=false:=decide_eq_false (fun q=>nomatch q)
theorem xV(a:Str)(b:Int):decide ((Sum.inr a:Key)=Sum.inl b)=false:=decide_eq_false (fun q=>nomatch q)
noncomputable def aM(prog:Program)(w:World):PySem.KeyKind prog w Key where
 is:=fO
 hash:=keyH w
 inj:=fun v a b ha hb=>by
  rcases aF ha with⟨i,t,rfl,rfl⟩|⟨x,t,rfl,rfl⟩
  . rcases aF hb with⟨j,u,rfl,e⟩|⟨y,u,rfl,e⟩
    . injection e with e1 _;rw[e1]
    . exact nomatch e
  . rcases aF hb with⟨j,u,rfl,e⟩|⟨y,u,rfl,e⟩
    . exact nomatch e
    . injection e with e1 _;rw[e1]
 byValue:=fun k v h=>by
  rcases aF h with⟨i,t,rfl,rfl⟩|⟨x,t,rfl,rfl⟩<;>rfl
 pyHash:=fun hv h=>by
  rcases aF hv with⟨i,t,rfl,rfl⟩|⟨x,t,rfl,rfl⟩
  . exact wpAny_pyHash_int h
  . exact wpAny_pyHash_str h
 eqBool:=fun hu hv h=>by
  rcases aF hu with⟨i,t,rfl,rfl⟩|⟨x,t,rfl,rfl⟩
  . rcases aF hv with⟨j,u,rfl,rfl⟩|⟨y,u,rfl,rfl⟩
    . rw[xX]at h;exact wpAny_eqBool_int h
    . rw[xW]at h;exact SeqAt.EqAt.int_str i t y u _ _ _ _ h
  . rcases aF hv with⟨j,u,rfl,rfl⟩|⟨y,u,rfl,rfl⟩
    . rw[xV]at h;exact SeqAt.EqAt.str_int x t j u _ _ _ _ h
    . rw[xU]at h;exact wpAny_eqBool_str h
 «strs»:=fun k x t v h=>by
  rcases aF h with⟨i,u,rfl,e⟩|⟨y,u,rfl,e⟩
  . exact nomatch e
  . injection e with e1 _;subst e1;cases v<;>rfl
theorem kF(prog:Program)(w:World)(i:Int)(t:Tok):(aM prog w).is (.inl i) (.int i t)=true:=iV i t
theorem kE(prog:Program)(w:World)(x:Str)(t:Tok):(aM prog w).is (.inr x) (.str x t)=true:=iU x t
open PySem PySem.Spec PyProof.Rows
inductive V where
 |non|bl (b:Bool)|int (i:Int)|str (x:Str)|byt (b:Array UInt8)|flt (b:UInt64)|ref (a:Addr)|ty (n:String)
 deriving DecidableEq
def RelV:V->Value->Prop
 | .non,u=>u=Value.none
 | .bl b,u=>u=Value.bool b
 | .int i,u=>∃t,u=Value.int i t
 | .str x,u=>∃t,u=Value.str x t
 | .byt b,u=>∃t,u=Value.bytes b t
 | .flt b,u=>∃t,u=Value.float b t
 | .ref a,u=>u=Value.ref a
 | .ty n,u=>u=Value.type n
abbrev Vals:List V->List Value->Prop:=Paired RelV
theorem Vals.length{xs:List V}{us:List Value}(r:Vals xs us):xs.length=us.length:=Paired.length r
theorem Vals.get:∀ {xs:List V} {us:List Value} {i:Nat} {x:V},Vals xs us->xs[i]?=some x->∃u,us[i]?=some u/\RelV x u
 |_,_,_,_, .nil,e=>by simp at e
 |_,_,0,_, .cons r _,e=>by simp at e;subst e;exact⟨_,rfl,r⟩
 |_,_,i+1,x, .cons _ t,e=>by
  obtain⟨u,h1,h2⟩:=Vals.get (i:=i) (x:=x) t (by simpa using e)
  exact⟨u,by simpa using h1,h2⟩
theorem Vals.set{x:V}{u:Value}(r:RelV x u):∀ {xs:List V} {us:List Value} (i:Nat),Vals xs us->Vals (xs.set i x) (us.set i u)
 |_,_,_, .nil=> .nil
 |_,_,0, .cons _ t=> .cons r t
 |_,_,i+1, .cons q t=> .cons q (Vals.set r i t)
theorem Vals.append:∀ {xs ys:List V} {us ws:List Value},Vals xs us->Vals ys ws->Vals (xs++ys) (us++ws)
 |_,_,_,_, .nil,s=>s
 |_,_,_,_, .cons r t,s=> .cons r (Vals.append t s)
theorem Vals.take:∀ {xs:List V} {us:List Value} (n:Nat),Vals xs us->Vals (xs.take n) (us.take n)
 |_,_,0,_=> .nil
 |_,_,_+1, .nil=> .nil
 |_,_,n+1, .cons r t=> .cons r (Vals.take n t)
theorem Vals.drop:∀ {xs:List V} {us:List Value} (n:Nat),Vals xs us->Vals (xs.drop n) (us.drop n)
 |_,_,0,r=>r
 |_,_,_+1, .nil=> .nil
 |_,_,n+1, .cons _ t=>Vals.drop n t
def RelO:Option V->Option Value->Prop
 |some v,some u=>RelV v u
 |none,none=>True
 |_,_=>False
def KV{κ:Type}:List (κ×V)->List (κ×Value)->Prop:=Paired fun(p:κ×V) (q:κ×Value)=>p.1=q.1/\RelV p.2 q.2
def kV:Key->V
 | .inl i=> .int i
 | .inr x=> .str x
inductive HO where
 |lst (xs:List V)
 |tup (xs:List V)
 |dK (kvs:List (Key×V))|dT (kvs:List (List Key×V))
 |set (S:Int->Bool) (n:Nat)
 |ins (C dx:Addr) (fs:List (Str×V))
 |own (x:Addr)
 |xd (fs:List (Str×V))
 |met (f x:Addr)
 |rng (lo hi:Int)
 |frz (o:Obj) (u:HO)
 |tbl (ps:Array Value)
 |ext (φ:Heap->Prop)
abbrev Hp:=Addr->Option HO
noncomputable def upd(H:Hp)(a:Addr)(o:HO):Hp:=fun b=>if b=a then some o else H b
theorem a8{H:Hp}{a:Addr}{o:HO}:upd H a o a=some o:=by unfold upd;rw[if_pos rfl]
theorem ae{H:Hp}{a b:Addr}{o:HO}(h:b≠a):upd H a o b=H b:=by unfold upd;rw[if_neg h]
theorem jd{H:Hp}{a:Addr}{o u:HO}:upd (upd H a o) a u=upd H a u:=by
 funext b;unfold upd;split<;>rfl
theorem av{H:Hp}{a b:Addr}{o:HO}(h:H a=some o)(h':H b=none):a≠b:=by
 intro e;subst e;rw[h]at h';cases h'
section
variable(P:Program)(w:World)
def ObjOk(H:Hp)(h:Heap)(a:Addr):HO->Prop
 | .lst xs=>xs.length<=sizeLine/\∃(its:List Value) (n:Nat),Vals xs its/\h.get? a=some {cls:= .type "list",data:= .seq its.toArray n}
 | .tup xs=>xs.length<=sizeLine/\∃its:List Value,Vals xs its/\IsTup h a its.toArray
 | .dK kvs=>kvs.length<=sizeLine/\(a==sysModules)=false/\∃vs,KV kvs vs/\h.DictOf (aM P w) a vs
 | .dT kvs=>kvs.length<=sizeLine/\(a==sysModules)=false/\∃xs:List (List Key×Addr×Value),
  Paired (fun(p:List Key×V) (q:List Key×Addr×Value)=>p.1=q.1/\H q.2.1=some (.tup (p.1.map kV))/\RelV p.2 q.2.2) kvs xs/\
  ∃o es ep,h.get? a=some o/\o.ExactDict/\o.data= .dict es ep/\es.toList=xs.map (entryOfKey (tupleKind (aM P w)))/\(xs.map (·.1)).Nodup
 | .set S n=>h.SetOf (intKind P w) a S n
 | .ins C dx fs=>H dx=some (.own a)/\fs.length<=1000/\dx≠a/\h.get? a=some (PySem.W.instObj C dx)/\
  ∃mA,h.Ns1 dx mA/\(∀f,RelO (fs.lookup f) (mA f))/\PySem.Within mA (fs.map (·.1))
 | .own _=>∃o,h.get? a=some o
 | .xd fs=>∃mA,h.Ns1 a mA/\∀f,RelO (fs.lookup f) (mA f)
 | .rng lo hi=>∃t u v,h.get? a=some {cls:= .type "range",data:= .fields #[.int lo t, .int hi u, .int 1 v]}
 | .frz o u=>h.get? a=some o/\ObjOk H h a u
 | .tbl ps=>h.get? a=some {cls:= .none,data:= .fields ps}
 | .met f x=>h.get? a=some (PySem.W.methodObj (.ref f) (.ref x))
 | .ext φ=>φ h/\(∃o,h.get? a=some o)/\∀h1 h2:Heap,φ h1->(∀o,h1.get? a=some o->h2.get? a=some o)->φ h2
def HOk(H:Hp)(h:Heap):Prop:=∀a o,H a=some o->ObjOk P w H h a o
end
section
variable{P:Program}{w:World}{H H':Hp}{h h':Heap}{a:Addr}{o:HO}
theorem ObjOk.lt(x:ObjOk P w H h a o):a < h.objs.size:=by
 cases o with
 |lst xs=>obtain⟨_,_,_,_,e⟩:=x;exact Heap.lt_size e
 |tup xs=>obtain⟨_,_,_,p⟩:=x;exact p.lt
 |dK kvs=>obtain⟨_,_,_,_,o,_,_,e,_⟩:=x;exact Heap.lt_size e
 |dT kvs=>obtain⟨_,_,_,_,o,_,_,e,_⟩:=x;exact Heap.lt_size e
 |set S n=>obtain⟨o,_,_,_,e,_⟩:=x;exact Heap.lt_size e
 |ins C dx fs=>obtain⟨_,_,_,e,_⟩:=x;exact Heap.lt_size e
 |own y=>obtain⟨_,e⟩:=x;exact Heap.lt_size e
 |xd fs=>obtain⟨_,⟨_,_,_,e,_⟩,_⟩:=x;exact Heap.lt_size e
 |rng lo hi=>obtain⟨_,_,_,e⟩:=x;exact Heap.lt_size e
 |frz ob u=>obtain⟨e,_⟩:=x;exact Heap.lt_size e
 |tbl ps=>exact Heap.lt_size (show h.get? a=some _ from x)
 |met f y=>exact Heap.lt_size (show h.get? a=some _ from x)
 |ext φ=>obtain⟨_,⟨_,e⟩,_⟩:=x;exact Heap.lt_size e
theorem Paired.mapP{α β:Type}{F G:α->β->Prop}:∀ {l₁:List α} {l₂:List β},Paired F l₁ l₂->(∀a b,F a b->G a b)->Paired G l₁ l₂
 |_,_, .nil,_=> .nil
 |_,_, .cons r t,f=> .cons (f _ _ r) (Paired.mapP t f)
theorem Paired.imp'{α β:Type}{F G:α->β->Prop}(f:∀a b,F a b->G a b){l₁:List α}{l₂:List β}(r:Paired F l₁ l₂):Paired G l₁ l₂:=Paired.mapP r f
theorem ObjOk.stay(x:ObjOk P w H h a o)(k:∀b u,(b=a\/H b=some (.own a))->h.get? b=some u->h'.get? b=some u)(ho:∀b,H b=some (.own a)->H' b=some (.own a))(ht:∀b xs,H b=some (.tup xs)->H' b=some (.tup xs)):ObjOk P w H' h' a o:=by
 induction o with
 |lst xs=>obtain⟨z,its,n,r,e⟩:=x;exact⟨z,its,n,r,k _ _ (.inl rfl) e⟩
 |tup xs=>obtain⟨z,its,r,ob,e,c⟩:=x;exact⟨z,its,r,ob,k _ _ (.inl rfl) e,c⟩
 |dK kvs=>obtain⟨z,y,vs,r,ob,es,ep,e,c⟩:=x;exact⟨z,y,vs,r,ob,es,ep,k _ _ (.inl rfl) e,c⟩
 |dT kvs=>
  refine hZq fun q_ e_=>?_;obtain⟨z,y,xs,r,ob,es,ep,e,c⟩:=x;subst e_;exact⟨z,y,xs,Paired.mapP r fun p q z=>⟨z.1,ht _ _ z.2.1,z.2.2⟩,ob,es,ep,k _ _ (.inl rfl) e,c⟩
 |set S n=>obtain⟨ob,es,ep,t,e,c⟩:=x;exact⟨ob,es,ep,t,k _ _ (.inl rfl) e,c⟩
 |ins C dx fs=>
  refine hZq fun q_ e_=>?_;obtain⟨d,z,ne,e,mA,⟨g,es,ep,i,c⟩,r⟩:=x;subst e_;exact⟨ho _ d,z,ne,k _ _ (.inl rfl) e,mA,⟨g,es,ep,k _ _ (.inr d) i,c⟩,r⟩
 |own y=>obtain⟨ob,e⟩:=x;exact⟨ob,k _ _ (.inl rfl) e⟩
 |xd fs=>obtain⟨mA,⟨g,es,ep,e,c⟩,r⟩:=x;exact⟨mA,⟨g,es,ep,k _ _ (.inl rfl) e,c⟩,r⟩
 |rng lo hi=>obtain⟨t,u,v,e⟩:=x;exact⟨t,u,v,k _ _ (.inl rfl) e⟩
 |frz ob u j=>obtain⟨e,q⟩:=x;exact⟨k _ _ (.inl rfl) e,j q⟩
 |tbl ps=>
  have e:h.get? a=some {cls:= .none,data:= .fields ps}:=x;show h'.get? a=some {cls:= .none,data:= .fields ps};exact k a _ (.inl rfl) e
 |met f y=>
  have e:h.get? a=some (PySem.W.methodObj (.ref f) (.ref y)):=x;show h'.get? a=some (PySem.W.methodObj (.ref f) (.ref y));exact k a _ (.inl rfl) e
 |ext φ=>obtain⟨p,⟨o,e⟩,st⟩:=x;exact⟨st _ _ p fun o q=>k _ _ (.inl rfl) q,⟨o,k _ _ (.inl rfl) e⟩,st⟩
theorem HOk.lt(x:HOk P w H h)(e:H a=some o):a < h.objs.size:=(x a o e).lt
theorem HOk.fresh(x:HOk P w H h)(e:h.objs.size<=a):H a=none:=by
 cases q:H a with
 |none=>rfl
 |some u=>exact absurd (A5 (x.lt q) e) (AS _)
theorem HOk.kept(x:HOk P w H h)(k:∀b u,h.get? b=some u->h'.get? b=some u):HOk P w H h':=fun a o e=>
 (x a o e).stay (fun b u _ q=>k b u q) (fun _ q=>q) fun _ _ q=>q
theorem HOk.laid(x:HOk P w H h)(k:∀b u,h.get? b=some u->h'.get? b=some u)(hp:h.objs.size<=a)(new:ObjOk P w (upd H a o) h' a o):HOk P w (upd H a o) h':=fun b u e=>by
 have hn:=x.fresh hp;by_cases hb:b=a
 . subst hb;rw[a8]at e;cases e;exact new
 . rw[ae hb]at e;exact(x b u e).stay (fun c v _ q=>k c v q) (fun c q=>by rw[ae (av q hn)];exact q) fun c xs q=>by rw[ae (av q hn)];exact q
end
def Rd(H:Hp)(a:Addr)(u:HO):Prop:=H a=some u\/∃o,H a=some (.frz o u)
theorem Rd.ok{P:Program}{w:World}{H:Hp}{h:Heap}{a:Addr}{u:HO}(r:Rd H a u)(x:HOk P w H h):ObjOk P w H h a u:=by
 rcases r with r|⟨o,r⟩
 . exact x a u r
 . obtain⟨_,q⟩:=x a _ r;exact q
def Mut:Option HO->Prop
 |some (.lst _)=>True
 |some (.dK _)=>True
 |some (.dT _)=>True
 |some (.set _ _)=>True
 |some (.ins _ _ _)=>True
 |some (.ext _)=>True
 |_=>False
section
variable{P:Program}{w:World}{H:Hp}{h h':Heap}{x e:Addr}{o':HO}
theorem HOk.write(ok:HOk P w H h)(mu:Mut (H x))(he:e=x\/H e=some (.own x))(k:∀b u,b≠e->h.get? b=some u->h'.get? b=some u)(heo:∃u,h'.get? e=some u)(new:ObjOk P w (upd H x o') h' x o'):HOk P w (upd H x o') h':=fun b u q=>by
 have d:∀c y,H c=some (.own y)->c≠x:=fun c y r z=>by subst z;rw[r]at mu;exact mu
 have f:∀c xs,H c=some (.tup xs)->c≠x:=fun c xs r z=>by subst z;rw[r]at mu;exact mu
 by_cases hb:b=x
 . subst hb;rw[a8]at q;cases q;exact new
 . rw[ae hb]at q;by_cases a:b=e
   . have g:H b=some (.own x):=by
      rcases he with z|z
      . exact absurd (a.trans z) hb
      . rw[a];exact z
     rw[q]at g;cases g;obtain⟨v,hv⟩:=heo;exact⟨v,by rw[a];exact hv⟩
   . refine(ok b u q).stay (fun c v hc r=>k c v ?_ r) (fun c r=>by rw[ae (d c b r)];exact r) fun c xs r=>by rw[ae (f c xs r)];exact r
     rcases hc with rfl|hc
     . exact a
     . rintro rfl;rcases he with z|z
       . exact d c b hc z
       . rw[hc]at z;cases z;exact hb rfl
end
def Idl(x:Option HO):Prop:=x=none\/∃xs,x=some (.tup xs)
structure Un (fs ex:List Addr) (H H':Hp) (h h':Heap):Prop where
 keep:∀b o,h.get? b=some o->Idl (H b)->b∉fs->b∉ex->h'.get? b=some o
 slot:∀b o,h.get? b=some o->H b=none->b∈fs->b∉ex->∃sl,h'.get? b=some {o with slots:=sl}
 free:∀b o,h.get? b=some o->H b=none->b∉ex->H' b=none
 there:∀b o,h.get? b=some o->b∉ex->∃o',h'.get? b=some o'
 tups:∀b xs,H b=some (.tup xs)->H' b=some (.tup xs)
 frzs:∀b o u,H b=some (.frz o u)->H' b=some (.frz o u)
 tbls:∀b ps,H b=some (.tbl ps)->∃more,H' b=some (.tbl (ps++more))
section
variable{fs fs' ex ex':List Addr}{H H1 H2:Hp}{h h1 h2 h':Heap}{a x e:Addr}{o:HO}
theorem Un.any(u:Un fs ex H H1 h h1){b:Addr}{ob:Obj}(q:h.get? b=some ob)(n:H b=none)(hx:b∉ex):∃sl,h1.get? b=some {ob with slots:=sl}:=by
 by_cases hb:b∈fs
 . exact u.slot b ob q n hb hx
 . exact⟨ob.slots,u.keep b ob q (.inl n) hb hx⟩
theorem Un.idl(u:Un fs ex H H1 h h1){b:Addr}{ob:Obj}(q:h.get? b=some ob)(n:Idl (H b))(hx:b∉ex):Idl (H1 b):=by
 rcases n with n|⟨xs,n⟩
 . exact .inl (u.free b ob q n hx)
 . exact .inr ⟨xs,u.tups b xs n⟩
theorem Un.kept(k:∀b u,h.get? b=some u->h'.get? b=some u):Un fs ex H H h h':=
 ⟨fun b ob q _ _ _=>k b ob q,fun b ob q _ _ _=>⟨ob.slots,k b ob q⟩,fun _ _ _ n _=>n,fun b ob q _=>⟨ob,k b ob q⟩,fun _ _ q=>q,fun _ _ _ q=>q,fun _ ps q=>⟨#[],by rw[q];simp⟩⟩
theorem Un.refl:Un fs ex H H h h:=Un.kept fun _ _ q=>q
theorem Un.laid(k:∀b u,h.get? b=some u->h'.get? b=some u)(hp:h.objs.size<=a)(hn:H a=none):Un fs ex H (upd H a o) h h' where
 keep:=fun b u q _ _ _=>k b u q
 slot:=fun b u q _ _ _=>⟨u.slots,k b u q⟩
 free:=fun b u q n _=>by rw[ae (zO (A5 (Heap.lt_size q) hp))];exact n
 there:=fun b u q _=>⟨u,k b u q⟩
 tups:=fun b xs q=>by rw[ae (av q hn)];exact q
 frzs:=fun b u xs q=>by rw[ae (av q hn)];exact q
 tbls:=fun b ps q=>⟨#[],by rw[ae (av q hn),q];simp⟩
theorem Un.write(mu:Mut (H x))(he:e=x\/H e=some (.own x))(k:∀b u,b≠e->h.get? b=some u->h'.get? b=some u)(heo:∃u,h'.get? e=some u):Un fs ex H (upd H x o) h h':=by
 have hx:∀b,H b=none->b≠x:=fun b n z=>by subst z;rw[n]at mu;exact mu
 have hb:∀b,H b=none->b≠e:=fun b n z=>by
  subst z;rcases he with r|r
  . exact hx b n r
  . rw[n]at r;cases r
 have hi:∀b,Idl (H b)->b≠e:=fun b n z=>by
  rcases n with n|⟨xs,n⟩
  . exact hb b n z
  . subst z;rcases he with r|r
    . subst r;rw[n]at mu;exact mu
    . rw[n]at r;cases r
 have hm:∀b u,H b=some u->¬Mut (some u)->b≠x:=fun b u q nm z=>by subst z;rw[q]at mu;exact nm mu
 refine⟨fun b u q n _ _=>k b u (hi b n) q,fun b u q n _ _=>⟨u.slots,k b u (hb b n) q⟩,fun b u q n _=>by rw[ae (hx b n)];exact n,fun b u q _=>?_,
  fun b xs q=>by rw[ae (hm b _ q fun z=>z)];exact q,fun b u xs q=>by rw[ae (hm b _ q fun z=>z)];exact q,fun b ps q=>⟨#[],by rw[ae (hm b _ q fun z=>z),q];simp⟩⟩
 by_cases a:b=e
 . subst a;exact heo
 . exact⟨u,k b u a q⟩
end
noncomputable def trk(h:Heap)(H:Hp):List Addr:=(List.range h.objs.size).filter fun a=>(H a).isSome
noncomputable def hidT(h:Heap)(H:Hp):Heap:=PySem.W.hideAll h (trk h H)
theorem pC(h:Heap)(H:Hp):(hidT h H).objs.size=h.objs.size:=PySem.W.hideAll_size _ _
theorem tM{h:Heap}{H:Hp}{b:Addr}{o:Obj}(e:h.get? b=some o)(n:H b=none):(hidT h H).get? b=some o:=
 PySem.W.hideAll_get _ e fun hm=>by
  have q:(H b).isSome=true:=(Ag.mp hm).2;rw[n]at q;simp at q
theorem nU{h:Heap}{H:Hp}{b:Addr}{o:Obj}(e:(hidT h H).get? b=some o):h.get? b=some o/\H b=none:=by
 have e':h.get? b=some o:=PySem.W.of_hideAll (trk h H) e;refine⟨e',?_⟩
 cases q:H b with
 |none=>rfl
 |some x=>
  have hm:b∈trk h H:=Ag.mpr ⟨Af.mpr (Heap.lt_size e'),by simp[q]⟩
  have z:(hidT h H).get? b=none:=PySem.W.hideAll_none (trk h H) hm;rw[z]at e;cases e
open PySem PySem.Spec PyProof.Rows
structure Mod (K:PySem.W.Frag) (mg:Str->Option Value) (base:Heap):Prop where
 kin:K.In base
 glob:base.Ns mainGlobals mg
 blt:∃mb,base.Ns builtinsNs mb/\∀x:Str,x≠"__name__"->mb x=bootBuiltins x
 nolimit:base.NoLimit
structure Cx where
 prog:Program
 w:World
 K:PySem.W.Frag
 mg:Str->Option Value
 base:Heap
 A:Around
 N:List Str
 s₀:Shared
 H₀:Hp
 env:Env
 outer:List Env
 stack:List Env
 ex:List Addr
 fn:Str->Bool
 calm:Bool
 pn:List (Addr×Obj)
 xe:Value->Shared->Prop
def frs(l:List Env):List Addr:=l.filterMap (·.frame)
abbrev Cx.fs(X:Cx):List Addr:=frs X.outer
def Vis(sc:Scope)(x:Str):Prop:=sc.names.lookup x=some .local\/sc.names.lookup x=some .cell\/sc.names.lookup x=some .free
def Loc(sc:Scope)(x:Str):Prop:=sc.names.lookup x=some .local\/sc.names.lookup x=some .cell
def Look(env:Env)(h:Heap)(m:Str->Option Value)(x:Str)(u:Value):Prop:=
 (env.kindOf x=some .local/\m x=some u)\/((env.kindOf x=some .cell\/env.kindOf x=some .free)/\∃c,env.cells.lookup x=some c/\h.IsCell c (some u))
structure Cx.Ok (X:Cx):Prop where
 mod:Mod X.K X.mg X.base
 kind:X.env.scope.kind= .function
 glob:X.env.globals=mainGlobals
 blt:X.env.builtins=builtinsNs
 above:X.s₀.heap.objs.size<=X.env.locals
 inj:∀x y c,X.env.cells.lookup x=some c->X.env.cells.lookup y=some c->x=y
 has:∀x,(X.env.kindOf x=some .cell\/X.env.kindOf x=some .free)->∃c,X.env.cells.lookup x=some c
 cab:∀x c,X.fn x=true->X.env.cells.lookup x=some c->X.s₀.heap.objs.size<=c
 hd:X.calm=true->X.A.handled=none
 frames:X.A.frames=some X.stack
 stk:X.stack=X.outer\/(X.stack=X.env::X.outer/\X.env.frame=some X.env.locals)
 exf:∀b∈X.ex,b≠X.env.locals/\∀x c,X.env.cells.lookup x=some c->c≠b
 bs:∀b o,X.base.get? b=some o->X.s₀.heap.get? b=some o/\Idl (X.H₀ b)
 bsz:X.base.objs.size<=X.s₀.heap.objs.size
 noex:∀b o,X.base.get? b=some o->b∉X.ex
 exfs:∀b∈X.ex,b∉X.fs
 funs:X.s₀.heap.FunFrames X.base X.outer
 frf:∀b∈X.fs,X.H₀ b=none
structure Inv (X:Cx) (pins:List (Addr×Obj)) (σ:List (Option V)) (H:Hp) (s:Shared):Prop where
 ok:X.Ok
 os:s.os=X.s₀.os
 bare:AllBare s.gens
 base:Un X.fs X.ex X.H₀ H X.s₀.heap s.heap
 loc:∃m,s.heap.Ns X.env.locals m/\∀(i:Nat) (x:Str) (v:V),X.N[i]?=some x->σ[i]?=some (some v)->Vis X.env.scope x->∃u,RelV v u/\Look X.env s.heap m x u
 cell:∀x c,X.env.cells.lookup x=some c->∃v,s.heap.IsCell c v
 free:H X.env.locals=none
 freeC:∀x c,X.env.cells.lookup x=some c->H c=none
 pin:∀p∈X.pn++pins,s.heap.get? p.1=some p.2/\H p.1=none/\p.1≠X.env.locals/\p.1∉X.fs/\∀v,p.2.data≠ .cell v
 hok:HOk X.prog X.w H s.heap
 len:σ.length=X.N.length
section
variable{X:Cx}{pins:List (Addr×Obj)}{σ:List (Option V)}{H H':Hp}{s:Shared}{h':Heap}
theorem Cx.Ok.nofr(ok:X.Ok){b:Addr}{o:Obj}(e:X.base.get? b=some o):b∉X.fs:=fun hb=>by
 have:=(ok.funs.mem hb).1;rw[e]at this;cases this
theorem Inv.bs(I:Inv X pins σ H s):∀b o,X.base.get? b=some o->s.heap.get? b=some o/\Idl (H b):=fun b o e=>
 ⟨I.base.keep b o (I.ok.bs b o e).1 (I.ok.bs b o e).2 (I.ok.nofr e) (I.ok.noex b o e),I.base.idl (I.ok.bs b o e).1 (I.ok.bs b o e).2 (I.ok.noex b o e)⟩
theorem Inv.bk(I:Inv X pins σ H s):∀b o,X.base.get? b=some o->s.heap.get? b=some o:=fun b o e=>(I.bs b o e).1
theorem Inv.mod(I:Inv X pins σ H s):Mod X.K X.mg X.base:=I.ok.mod
theorem Inv.kIn(I:Inv X pins σ H s):X.K.In s.heap:=I.ok.mod.kin.keeps I.bk
theorem Inv.nolimit(I:Inv X pins σ H s):s.heap.NoLimit:=I.ok.mod.nolimit.keeps I.bk
theorem Inv.fr(I:Inv X pins σ H s):∃m,Fr X.base X.env.locals s.heap m:=
 let ⟨m,hn,_⟩:=I.loc
 ⟨m,hn,I.bk,zK I.ok.bsz I.ok.above⟩
theorem Inv.lt(I:Inv X pins σ H s):X.env.locals < s.heap.objs.size:=let ⟨_,hn,_⟩:=I.loc;hn.lt
theorem Inv.sz(I:Inv X pins σ H s):X.s₀.heap.objs.size<=s.heap.objs.size:=zK I.ok.above (Nat.le_of_lt I.lt)
theorem Inv.nofs(I:Inv X pins σ H s){a:Addr}(h:s.heap.objs.size<=a):a∉X.fs:=fun hb=>by
 obtain⟨_,o,ho,_⟩:=I.ok.funs.mem hb;exact absurd (A5 (Heap.lt_size ho) (zK I.sz h)) (AS _)
theorem Inv.cne(I:Inv X pins σ H s):∀x c,X.env.cells.lookup x=some c->c≠X.env.locals:=fun x c e z=>by
 obtain⟨v,o,ho,hd⟩:=I.cell x c e;obtain⟨m,⟨o',es,ep,a,b,_⟩,_⟩:=I.loc;rw[z,a]at ho;cases ho;rw[b]at hd;cases hd
theorem Inv.funs(I:Inv X pins σ H s):s.heap.FunFrames X.base X.outer:=by
 have all:∀(l:List Env),(∀b∈frs l,b∈X.fs)->X.s₀.heap.FunFrames X.base l->s.heap.FunFrames X.base l:=by
  intro l
  induction l with
  |nil=>intro _ _;trivial
  |cons env r d=>
   intro hs hl;obtain⟨hk,⟨L,o,c,hn,ho,hd⟩,hr⟩:=hl;have a:L∈X.fs:=hs L (by unfold frs;rw[List.filterMap_cons,c];exact zq)
   obtain⟨sl,e⟩:=I.base.slot L o ho (I.ok.frf L a) a fun z=>I.ok.exfs L z a;exact⟨hk,⟨L,_,c,hn,e,hd⟩,d (fun b hb=>hs b (by unfold frs;rw[List.filterMap_cons,c];exact zp _ hb)) hr⟩
 exact all X.outer (fun _ hb=>hb) I.ok.funs
theorem Inv.stack(I:Inv X pins σ H s):s.heap.FunFrames X.base X.stack:=by
 rcases I.ok.stk with e|⟨e,a⟩
 . rw[e];exact I.funs
 . rw[e];obtain⟨m,hn,_⟩:=I.loc;refine .cons (by rw[I.ok.kind];decide) a hn ?_ I.funs
   exact Heap.get?_none_of_le (zK I.ok.bsz I.ok.above)
theorem Inv.stkSub(I:Inv X pins σ H s):∀b∈frs X.stack,b∈X.env.locals::X.fs:=fun b hb=>by
 rcases I.ok.stk with e|⟨e,a⟩
 . rw[e]at hb;exact zp _ hb
 . rw[e]at hb;unfold frs at hb;rw[List.filterMap_cons,a]at hb;exact hb
theorem Inv.stkFree(I:Inv X pins σ H s):∀b∈frs X.stack,H b=none:=fun b hb=>by
 rcases zJ.mp (I.stkSub b hb)with e|hb
 . rw[e];exact I.free
 . obtain⟨_,o,ho,_⟩:=I.ok.funs.mem hb;exact I.base.free b o ho (I.ok.frf b hb) fun z=>I.ok.exfs b z hb
theorem Inv.step{g':Array GenState}{t':Nat}{d':Drawn}{ch:List Addr}(I:Inv X pins σ H s)(hch:∀b∈ch,(b∈X.ex\/X.s₀.heap.objs.size<=b)/\b≠X.env.locals/\(∀x c,X.env.cells.lookup x=some c->c≠b)/\∀p∈X.pn++pins,p.1≠b)(keep:∀b o,b≠X.env.locals->b∉X.fs->b∉ch->s.heap.get? b=some o->Idl (H b)->h'.get? b=some o)(slot:∀b o,b≠X.env.locals->b∈X.fs->b∉ch->s.heap.get? b=some o->H b=none->∃sl,h'.get? b=some {o with slots:=sl})(free:∀b o,b∉ch->s.heap.get? b=some o->H b=none->H' b=none)(there:∀b o,b∉ch->s.heap.get? b=some o->∃o',h'.get? b=some o')(tups:∀b xs,H b=some (.tup xs)->H' b=some (.tup xs))(frzs:∀b o u,H b=some (.frz o u)->H' b=some (.frz o u))(tbls:∀b ps,H b=some (.tbl ps)->∃more,H' b=some (.tbl (ps++more)))(ns:∀m,s.heap.Ns X.env.locals m->h'.Ns X.env.locals m)(hok:HOk X.prog X.w H' h')(hg:AllBare g'):
 Inv X pins σ H' {s with heap:=h',gens:=g',drawn:=d',toks:=t'}:=by
 have h:∀b o,X.s₀.heap.get? b=some o->b≠X.env.locals:=fun b o e=>zO (A5 (Heap.lt_size e) I.ok.above)
 have g:∀b o,X.s₀.heap.get? b=some o->b∉X.ex->b∉ch:=fun b o e hx hb=>by
  rcases(hch b hb).1 with z|z
  . exact hx z
  . exact absurd (A5 (Heap.lt_size e) z) (AS _)
 have f:∀x c,X.env.cells.lookup x=some c->∀v,s.heap.IsCell c v->h'.IsCell c v:=fun x c e v ⟨o,ho,hd⟩=>by
  have a:c∉ch:=fun z=>(hch c z).2.2.1 x c e rfl;by_cases hc:c∈X.fs
  . obtain⟨sl,q⟩:=slot c o (I.cne x c e) hc a ho (I.freeC x c e);exact⟨_,q,hd⟩
  . exact⟨o,keep c o (I.cne x c e) hc a ho (.inl (I.freeC x c e)),hd⟩
 refine⟨I.ok,I.os,hg,⟨fun b o e n hb hx=>?_,fun b o e n hb hx=>?_,fun b o e n hx=>?_,fun b o e hx=>?_,fun b xs e=>tups b xs (I.base.tups b xs e),fun b o xs e=>frzs b o xs (I.base.frzs b o xs e),fun b ps e=>?_⟩,?_,fun x c e=>?_,?_,fun x c e=>?_,fun p hp=>?_,hok,I.len⟩
 . exact keep b o (h b o e) hb (g b o e hx) (I.base.keep b o e n hb hx) (I.base.idl e n hx)
 . obtain⟨sl,e1⟩:=I.base.slot b o e n hb hx;obtain⟨t,j⟩:=slot b _ (h b o e) hb (g b o e hx) e1 (I.base.free b o e n hx);exact⟨t,j⟩
 . obtain⟨o',e1⟩:=I.base.there b o e hx;exact free b o' (g b o e hx) e1 (I.base.free b o e n hx)
 . obtain⟨o',e1⟩:=I.base.there b o e hx;exact there b o' (g b o e hx) e1
 . obtain⟨m1,e1⟩:=I.base.tbls b ps e;obtain⟨m2,j⟩:=tbls b _ e1;exact⟨m1++m2,by rw[j,Array.append_assoc]⟩
 . obtain⟨m,hn,hl⟩:=I.loc;refine⟨m,ns m hn,fun i x v e1 j e3=>?_⟩;obtain⟨u,r,l⟩:=hl i x v e1 j e3;refine⟨u,r,?_⟩;rcases l with l|⟨k,c,e,z⟩
   . exact .inl l
   . exact .inr ⟨k,c,e,f x c e _ z⟩
 . obtain⟨v,z⟩:=I.cell x c e;exact⟨v,f x c e v z⟩
 . refine hZq fun q_ e_=>?_;obtain⟨m,⟨o,_,_,ho,_⟩,_⟩:=I.loc;subst e_;exact free _ o (fun z=>(hch _ z).2.1 rfl) ho I.free
 . refine hZq fun q_ e_=>?_;obtain⟨v,o,ho,hd⟩:=I.cell x c e;subst e_;exact free c o (fun z=>(hch c z).2.2.1 x c e rfl) ho (I.freeC x c e)
 . refine hZq fun q_ e_=>?_;obtain⟨e,n,ne,y,d⟩:=I.pin p hp;subst e_;have a:p.1∉ch:=fun z=>(hch p.1 z).2.2.2 p hp rfl;exact⟨keep p.1 p.2 ne y a e (.inl n),free p.1 p.2 a e n,ne,y,d⟩
theorem Inv.un{t':Nat}(I:Inv X pins σ H s)(u:Un X.fs [] H H' s.heap h')(hok:HOk X.prog X.w H' h'):Inv X pins σ H' {s with heap:=h',toks:=t'}:=by
 obtain⟨m,⟨o,es,ep,ho,r⟩,_⟩:=id I.loc;obtain⟨sl,f⟩:=u.any ho I.free (by simp)
 exact I.step (g':=s.gens) (d':=s.drawn) (ch:= []) (fun _ z=>nomatch z) (fun b o _ hb _ e n=>u.keep b o e n hb (by simp)) (fun b o _ hb _ e n=>u.slot b o e n hb (by simp)) (fun b o _ e n=>u.free b o e n (by simp)) (fun b o _ e=>u.there b o e (by simp)) u.tups u.frzs u.tbls (fun m' hm=>by
  obtain⟨o',c,d,a,r'⟩:=hm;rw[ho]at a;cases a
  exact⟨_,c,d,f,r'⟩) hok I.bare
theorem Inv.call{g':Array GenState}{t':Nat}{d':Drawn}{ch:List Addr}(I:Inv X pins σ H s)(u:Un (frs X.stack) ch H H' s.heap h')(hok:HOk X.prog X.w H' h')(hg:AllBare g')(hch:∀b∈ch,(b∈X.ex\/X.s₀.heap.objs.size<=b)/\b≠X.env.locals/\(∀x c,X.env.cells.lookup x=some c->c≠b)/\∀p∈X.pn++pins,p.1≠b):
 Inv X pins σ H' {s with heap:=h',gens:=g',drawn:=d',toks:=t'}:=by
 obtain⟨m,⟨o,es,ep,ho,r⟩,_⟩:=id I.loc;obtain⟨sl,f⟩:=u.any ho I.free fun z=>(hch _ z).2.1 rfl
 exact I.step (ch:=ch) hch (fun b o f hb hc e n=>u.keep b o e n (fun z=>(zJ.mp (I.stkSub b z)).elim f hb) hc) (fun b o _ _ hc e n=>u.any e n hc) (fun b o hc e n=>u.free b o e n hc) (fun b o hc e=>u.there b o e hc) u.tups u.frzs u.tbls (fun m' hm=>by
  obtain⟨o',d,g,a,r'⟩:=hm;rw[ho]at a;cases a
  exact⟨_,d,g,f,r'⟩) hok hg
theorem Inv.turned{t':Nat}{it:Addr}(I:Inv X pins σ H s)(k:∀b o,b≠it->s.heap.get? b=some o->h'.get? b=some o)(hn:H it=none)(hL:it≠X.env.locals)(h1:it∈X.ex\/X.s₀.heap.objs.size<=it)(h2:∀x c,X.env.cells.lookup x=some c->c≠it)(h3:∀p∈X.pn++pins,p.1≠it):Inv X pins σ H {s with heap:=h',toks:=t'}:=by
 have a:∀b u,H b=some u->b≠it:=fun b u e z=>by rw[z,hn]at e;cases e
 refine I.step (g':=s.gens) (d':=s.drawn) (ch:= [it]) (fun b hb=>?_) (fun b o _ _ hc e _=>k b o (fun z=>hc (by simp[z])) e) (fun b o _ _ hc e _=>⟨o.slots,k b o (fun z=>hc (by simp[z])) e⟩) (fun _ _ _ _ n=>n)
  (fun b o hc e=>⟨o,k b o (fun z=>hc (by simp[z])) e⟩) (fun _ _ e=>e) (fun _ _ _ e=>e) (fun b ps e=>⟨#[],by rw[e];simp⟩) (fun m hm=>?_) (fun b u e=>?_) I.bare
 . have e:b=it:=by simpa using hb
   subst e;exact⟨h1,hL,h2,h3⟩
 . obtain⟨o,es,ep,ho,r⟩:=hm;exact⟨o,es,ep,k _ o (Ne.symm hL) ho,r⟩
 . refine(I.hok b u e).stay (fun c v hc q=>k c v ?_ q) (fun _ q=>q) fun _ _ q=>q;rcases hc with z|z
   . rw[z];exact a b u e
   . exact a c _ z
theorem Inv.tok(I:Inv X pins σ H s)(t:Nat):Inv X pins σ H {s with toks:=t}:=I.un (h':=s.heap) (t':=t) Un.refl I.hok
theorem Inv.kept{t':Nat}(I:Inv X pins σ H s)(k:∀b u,s.heap.get? b=some u->h'.get? b=some u):Inv X pins σ H {s with heap:=h',toks:=t'}:=I.un (Un.kept k) (I.hok.kept k)
theorem Inv.laid{a:Addr}{o:HO}{t':Nat}(I:Inv X pins σ H s)(k:∀b u,s.heap.get? b=some u->h'.get? b=some u)(hp:s.heap.objs.size<=a)(new:ObjOk X.prog X.w (upd H a o) h' a o):
 Inv X pins σ (upd H a o) {s with heap:=h',toks:=t'}:=I.un (Un.laid k hp (I.hok.fresh hp)) (I.hok.laid k hp new)
theorem Inv.write{x e:Addr}{o:HO}{t':Nat}(I:Inv X pins σ H s)(mu:Mut (H x))(he:e=x\/H e=some (.own x))(k:∀b u,b≠e->s.heap.get? b=some u->h'.get? b=some u)(heo:∃u,h'.get? e=some u)(new:ObjOk X.prog X.w (upd H x o) h' x o):Inv X pins σ (upd H x o) {s with heap:=h',toks:=t'}:=I.un (Un.write mu he k heo) (I.hok.write mu he k heo new)
theorem Inv.weak{σ':List (Option V)}(I:Inv X pins σ H s)(hl:σ'.length=σ.length)(w:∀(i:Nat) v,σ'[i]?=some (some v)->σ[i]?=some (some v)):Inv X pins σ' H s:=
 ⟨I.ok,I.os,I.bare,I.base,let ⟨m,hn,hl'⟩:=I.loc;⟨m,hn,fun i x v e1 a b=>hl' i x v e1 (w i v a) b⟩,I.cell,I.free,I.freeC,I.pin,I.hok,hl.trans I.len⟩
theorem Inv.pins_of{pins':List (Addr×Obj)}(I:Inv X pins σ H s)(h:∀p∈pins',s.heap.get? p.1=some p.2/\H p.1=none/\p.1≠X.env.locals/\p.1∉X.fs/\∀v,p.2.data≠ .cell v):Inv X pins' σ H s:=
 ⟨I.ok,I.os,I.bare,I.base,I.loc,I.cell,I.free,I.freeC,fun p hp=>(A9.mp hp).elim (fun z=>I.pin p (AO _ z)) (h p),I.hok,I.len⟩
theorem kD{N:List Str}(hN:N.Nodup){i j:Nat}{x:Str}(a:N[i]?=some x)(b:N[j]?=some x):i=j:=by
 obtain⟨h1,e1⟩:=zv.mp a;obtain⟨h2,c⟩:=zv.mp b;exact(List.getElem_inj hN).mp (e1.trans c.symm)
theorem iK{M:Model}{A:Around}{E:Value->Shared->Prop}{i:Nat}{x:Str}{v:V}{u:Value}{Q:Unit->Shared->Prop}(I:Inv X pins σ H s)(hN:X.N.Nodup)(hi:X.N[i]?=some x)(hx:Loc X.env.scope x)(r:RelV v u)(h:∀s',Inv X pins (σ.set i (some v)) H s'->(∃a,Heap.SameBut a s.heap s'.heap/\(a=X.env.locals\/X.env.cells.lookup x=some a))->Q () s')(hf:X.fn x=true\/X.env.scope.names.lookup x=some .local:=by first|exact .inl rfl|exact .inr rfl|assumption):wpAny M A (storeName X.env x u) Q E s:=by
 obtain⟨m,hn,hl⟩:=id I.loc;have a3:(X.env.scope.kind== .class ||(X.env.scope.kind== .module&&X.env.locals !=X.env.globals))=false:=by rw[I.ok.kind];rfl
 have aT:i < σ.length:=by rw[I.len];exact(zv.mp hi).1
 have cne:=I.cne
 have f:∀ {a:Addr} {h':Heap},(∃o,s.heap.get? a=some o/\H a=none)->Heap.SameBut a s.heap h'->HOk X.prog X.w H h':=fun{a h'} ha hs b ob e=>by
  obtain⟨_,_,g⟩:=ha;refine(I.hok b ob e).stay (fun c w' hc q=>(hs.2 c ?_).trans q) (fun _ q=>q) fun _ _ q=>q;rintro rfl;rcases hc with rfl|hc
  . rw[g]at e;cases e
  . rw[g]at hc;cases hc
 rcases hx with hk|hk
 . refine wpAny_storeName_local hk hn (fun h' a6 hs=>?_) a3;refine hZq fun q_ e_=>?_;obtain⟨oL,_,_,a5,_⟩:=id hn;subst e_;refine h _ ⟨I.ok,I.os,I.bare,⟨fun b o e n hb hx=>?_,fun b o e n hb hx=>?_,I.base.free,fun b o e hx=>?_,I.base.tups,I.base.frzs,I.base.tbls⟩,⟨_,a6,fun j y v' e1 l e3=>?_⟩,fun y c e=>?_,I.free,I.freeC,fun p hp=>?_,f ⟨oL,a5,I.free⟩ hs,by simpa using I.len⟩ ⟨_,hs, .inl rfl⟩
   . exact(hs.2 b (zO (A5 (Heap.lt_size e) I.ok.above))).trans (I.base.keep b o e n hb hx)
   . obtain⟨sl,e1⟩:=I.base.slot b o e n hb hx;exact⟨sl,(hs.2 b (zO (A5 (Heap.lt_size e) I.ok.above))).trans e1⟩
   . obtain⟨o',e1⟩:=I.base.there b o e hx;exact⟨o',(hs.2 b (zO (A5 (Heap.lt_size e) I.ok.above))).trans e1⟩
   . by_cases t:j=i
     . subst t;rw[hi]at e1;cases e1;rw[List.getElem?_set_self aT]at l;cases l;exact⟨u,r, .inl ⟨hk,by simp⟩⟩
     . rw[List.getElem?_set_ne (Ne.symm t)]at l;obtain⟨u',r',q⟩:=hl j y v' e1 l e3;refine⟨u',r',?_⟩;rcases q with⟨k,e⟩|⟨k,c,e,z⟩
       . refine .inl ⟨k,?_⟩;have:y≠x:=fun e=>t (kD hN e1 (e▸hi));simp[this,e]
       . exact .inr ⟨k,c,e,z.sameBut hs (cne y c e)⟩
   . obtain⟨w',z⟩:=I.cell y c e;exact⟨w',z.sameBut hs (cne y c e)⟩
   . refine hZq fun q_ e_=>?_;obtain⟨e,n,ne,nf,d⟩:=I.pin p hp;subst e_;exact⟨(hs.2 p.1 ne).trans e,n,ne,nf,d⟩
 . have au:X.fn x=true:=by
    rcases hf with z|z
    . exact z
    . rw[z]at hk;cases hk
   obtain⟨c,hc⟩:=I.ok.has x (.inl hk);obtain⟨w',z⟩:=I.cell x c hc;refine wpAny_storeName_cell I.ok.kind hk hc z (fun h' a4 hs=>?_);obtain⟨oc,a2,aC⟩:=id z;refine h {s with heap:=h'} ⟨I.ok,I.os,I.bare,⟨fun b o e n hb hx=>?_,fun b o e n hb hx=>?_,I.base.free,fun b o e hx=>?_,I.base.tups,I.base.frzs,I.base.tbls⟩,⟨m,hn.sameBut hs (Ne.symm (cne x c hc)),fun j y v' e1 l e3=>?_⟩,fun y c' e=>?_,I.free,I.freeC,fun p hp=>?_,f ⟨oc,a2,I.freeC x c hc⟩ hs,by simpa using I.len⟩ ⟨c,hs, .inr hc⟩
   . exact(hs.2 b (zO (A5 (Heap.lt_size e) (I.ok.cab x c au hc)))).trans (I.base.keep b o e n hb hx)
   . obtain⟨sl,e1⟩:=I.base.slot b o e n hb hx;exact⟨sl,(hs.2 b (zO (A5 (Heap.lt_size e) (I.ok.cab x c au hc)))).trans e1⟩
   . obtain⟨o',e1⟩:=I.base.there b o e hx;exact⟨o',(hs.2 b (zO (A5 (Heap.lt_size e) (I.ok.cab x c au hc)))).trans e1⟩
   . by_cases t:j=i
     . subst t;rw[hi]at e1;cases e1;rw[List.getElem?_set_self aT]at l;cases l;exact⟨u,r, .inr ⟨.inl hk,c,hc,a4⟩⟩
     . rw[List.getElem?_set_ne (Ne.symm t)]at l;obtain⟨u',r',q⟩:=hl j y v' e1 l e3;refine⟨u',r',?_⟩;rcases q with q|⟨k,c',e,z'⟩
       . exact .inl q
       . refine .inr ⟨k,c',e,z'.sameBut hs ?_⟩;rintro rfl;exact t (kD hN e1 (I.ok.inj _ _ _ e hc▸hi))
   . by_cases a1:c'=c
     . subst a1;exact⟨_,a4⟩
     . obtain⟨w2,z2⟩:=I.cell y c' e;exact⟨w2,z2.sameBut hs a1⟩
   . refine hZq fun q_ e_=>?_;obtain⟨e,n,ne,nf,d⟩:=I.pin p hp;subst e_;refine⟨(hs.2 p.1 ?_).trans e,n,ne,nf,d⟩;intro q;rw[q,a2]at e;have q':oc=p.2:=zN e;exact d w' (by rw[<-q'];exact aC)
theorem eQ{M:Model}{A:Around}{E:Value->Shared->Prop}{i:Nat}{x:Str}{v:V}{u:Value}{Q:Unit->Shared->Prop}(I:Inv X pins σ H s)(hN:X.N.Nodup)(hi:X.N[i]?=some x)(hx:Loc X.env.scope x)(r:RelV v u)(h:∀s',Inv X pins (σ.set i (some v)) H s'->Q () s')(hf:X.fn x=true\/X.env.scope.names.lookup x=some .local:=by first|exact .inl rfl|exact .inr rfl|assumption):wpAny M A (storeName X.env x u) Q E s:=
 iK I hN hi hx r (fun s' a _=>h s' a) hf
theorem Inv.call'{s':Shared}{ch:List Addr}(I:Inv X pins σ H s)(ho:s'.os=s.os)(u:Un (frs X.stack) ch H H' s.heap s'.heap)(hok:HOk X.prog X.w H' s'.heap)(hg:AllBare s'.gens)(hch:∀b∈ch,(b∈X.ex\/X.s₀.heap.objs.size<=b)/\b≠X.env.locals/\(∀x c,X.env.cells.lookup x=some c->c≠b)/\∀p∈X.pn++pins,p.1≠b):Inv X pins σ H' s':=by
 obtain⟨h',g',d',t',o'⟩:=s';have e:o'=s.os:=ho;subst e;exact I.call (g':=g') (t':=t') (d':=d') u hok hg hch
end
abbrev XK:=Value->Option Addr->Hp->Prop
abbrev St:=List (Option V)
abbrev VK:=V->Hp->Prop
abbrev TE:=St->Hp->VK->Prop
abbrev TT:=St->Hp->(Bool->Hp->Prop)->Prop
abbrev TA:=St->Hp->(List V->Hp->Prop)->Prop
structure Ends where
 nx:St->Hp->Prop
 rt:VK
 bk:St->Hp->Prop:=fun _ _=>False
 ct:St->Hp->Prop:=fun _ _=>False
abbrev TS:=Ends->St->Hp->Prop
def EP(X:Cx)(pins:List (Addr×Obj))(σ:St)(Q:VK)(u:Value)(s':Shared):Prop:=∃v H',Inv X pins σ H' s'/\RelV v u/\Q v H'
def TP(X:Cx)(pins:List (Addr×Obj))(σ:St)(Q:Bool->Hp->Prop)(b:Bool)(s':Shared):Prop:=∃H',Inv X pins σ H' s'/\Q b H'
def AP(X:Cx)(pins:List (Addr×Obj))(σ:St)(Q:List V->Hp->Prop)(us:List Value)(s':Shared):Prop:=∃vs H',Inv X pins σ H' s'/\Vals vs us/\Q vs H'
def SP(X:Cx)(pins:List (Addr×Obj))(D:Ends)(f:Flow)(s':Shared):Prop:=
 match f with
 | .next=>∃σ' H',Inv X pins σ' H' s'/\D.nx σ' H'
 | .brk=>∃σ' H',Inv X pins σ' H' s'/\D.bk σ' H'
 | .cont=>∃σ' H',Inv X pins σ' H' s'/\D.ct σ' H'
 | .ret u=>∃v σ' H',Inv X pins σ' H' s'/\RelV v u/\D.rt v H'
def PE(X:Cx)(e:Expr)(t:TE):Prop:=
 ∀(pins:List (Addr×Obj)) (s:Shared) (σ:St) (H:Hp) (Q:VK),Inv X pins σ H s->t σ H Q->wpAny (model X.prog X.w) X.A (eval e X.env) (EP X pins σ Q) X.xe s
def PT(X:Cx)(e:Expr)(t:TT):Prop:=
 ∀(pins:List (Addr×Obj)) (s:Shared) (σ:St) (H:Hp) (Q:Bool->Hp->Prop),Inv X pins σ H s->t σ H Q->wpAny (model X.prog X.w) X.A (isTrue e X.env (eval e X.env)) (TP X pins σ Q) X.xe s
def PW(X:Cx)(e:Expr)(t:TT):Prop:=
 ∀(whole:Sem Value) (pins:List (Addr×Obj)) (s:Shared) (σ:St) (H:Hp) (Q:Bool->Hp->Prop),Inv X pins σ H s->t σ H Q->wpAny (model X.prog X.w) X.A (isTrue e X.env whole) (TP X pins σ Q) X.xe s
theorem PW.pt{X:Cx}{e:Expr}{t:TT}(h:PW X e t):PT X e t:=h _
def PA(X:Cx)(es:List Expr)(t:TA):Prop:=
 ∀(pos:Pos) (pins:List (Addr×Obj)) (s:Shared) (σ:St) (H:Hp) (Q:List V->Hp->Prop),Inv X pins σ H s->t σ H Q->wpAny (model X.prog X.w) X.A (spliced (backTo pos (starEach es X.env))) (AP X pins σ Q) X.xe s
def PS(X:Cx)(st:Stmt)(t:TS):Prop:=
 ∀(pins:List (Addr×Obj)) (s:Shared) (σ:St) (H:Hp) (D:Ends),Inv X pins σ H s->t D σ H->wpAny (model X.prog X.w) X.A (exec st X.env) (SP X pins D) X.xe s
def PSs(X:Cx)(st:List Stmt)(t:TS):Prop:=
 ∀(pins:List (Addr×Obj)) (s:Shared) (σ:St) (H:Hp) (D:Ends),Inv X pins σ H s->t D σ H->wpAny (model X.prog X.w) X.A (execs st X.env) (SP X pins D) X.xe s
theorem thn{α:Type}{t:Sem α}{Q Q':α->Shared->Prop}{M:Model}{A:Around}{E:Value->Shared->Prop}{s:Shared}(h:wpAny M A t Q E s)(hQ:∀a s,Q a s->Q' a s):wpAny M A t Q' E s:=wpAny_mono h hQ fun _ _ x=>x
open PySem PySem.Spec PyProof.Rows
section
variable{X:Cx}
def tVar(i:Nat):TE:=fun σ H Q=>∃v,σ[i]?=some (some v)/\Q v H
def tC(v:V):TE:=fun _ H Q=>Q v H
theorem sk{i:Nat}{x:Str}{pos:Pos}(hN:X.N[i]?=some x)(hv:Vis X.env.scope x)(hd:(x==("__debug__":Str))=false:=by decide)(hcd:(x==("__classdict__":Str))=false:=by decide):PE X (.Name x pos) (tVar i):=by
 intro pins s σ H Q I h;obtain⟨v,e,h⟩:=h;obtain⟨m,hn,hl⟩:=I.loc;obtain⟨u,r,l⟩:=hl i x v hN e hv;have fin:EP X pins σ Q u s:=⟨v,H,I,r,h⟩;rcases l with⟨hk,hm⟩|⟨hk,c,hc,a⟩
 . exact wpAny_Name (wpAny_loadName_local I.ok.kind hk hn hm fin) hd
 . rcases hk with hk|hk
   . exact wpAny_Name (wpAny_loadName_cell I.ok.kind hk hc a fin) hd
   . exact wpAny_Name (wpAny_loadName_free I.ok.kind hk hc a fin hcd) hd
theorem ac{i j pos}:PE X (.Constant (.int i) j pos) (tC (.int i)):=fun _ _ _ H _ I h=>wpAny_Constant_int ⟨.int i,H,I.tok _,⟨_,rfl⟩,h⟩
theorem cZ{b j pos}:PE X (.Constant (.bool b) j pos) (tC (.bl b)):=fun _ _ _ H _ I h=>Constant_bool ⟨.bl b,H,I,rfl,h⟩
theorem jF{j pos}:PE X (.Constant .none j pos) (tC .non):=fun _ _ _ H _ I h=>Constant_none ⟨.non,H,I,rfl,h⟩
theorem cC{x j pos}:PE X (.Constant (.str x) j pos) (tC (.str x)):=fun _ _ _ H _ I h=>Calls.Constant_str ⟨.str x,H,I.tok _,⟨_,rfl⟩,h⟩
def Gl(X:Cx)(x:Str):Prop:=X.env.kindOf x=some .globalImplicit
theorem nZ{E:Value->Shared->Prop}{pins:List (Addr×Obj)}{s:Shared}{σ:St}{H:Hp}{x:Str}{u:Value}{pos:Pos}{Q:Value->Shared->Prop}(I:Inv X pins σ H s)(hg:Gl X x)(hm:X.mg x=some u)(h:Q u s)(hd:(x==("__debug__":Str))=false:=by decide):wpAny (model X.prog X.w) X.A (eval (.Name x pos) X.env) Q E s:=
 Calls.Name_function_global I.ok.kind hg (Calls.loadGlobal_global (by rw[I.ok.glob];exact I.mod.glob.keeps I.bk) hm h) hd
theorem eF{E:Value->Shared->Prop}{pins:List (Addr×Obj)}{s:Shared}{σ:St}{H:Hp}{x:Str}{u:Value}{pos:Pos}{Q:Value->Shared->Prop}(I:Inv X pins σ H s)(hg:Gl X x)(hm:X.mg x=none)(hv:bootBuiltins x=some u)(h:Q u s)(hn:x≠"__name__":=by decide)(hd:(x==("__debug__":Str))=false:=by decide):wpAny (model X.prog X.w) X.A (eval (.Name x pos) X.env) Q E s:=by
 obtain⟨mb,h1,h2⟩:=I.mod.blt;exact Calls.Name_function_global I.ok.kind hg (Calls.loadGlobal_builtin (by rw[I.ok.glob];exact I.mod.glob.keeps I.bk) hm (by rw[I.ok.blt];exact h1.keeps I.bk) ((h2 x hn).trans hv) h) hd
theorem jG{x:Str}{v:V}{u:Value}{pos:Pos}(hg:Gl X x)(hm:X.mg x=none)(hv:bootBuiltins x=some u)(r:RelV v u)(hn:x≠"__name__":=by decide)(hd:(x==("__debug__":Str))=false:=by decide):PE X (.Name x pos) (tC v):=
 fun _ _ _ H _ I h=>eF I hg hm hv ⟨v,H,I,r,h⟩ hn hd
variable{a b:Expr}{ta tb:TE}{pos:Pos}
def PC(X:Cx)(op:CmpOp)(a b:Expr)(t:TE):Prop:=
 ∀(pins:List (Addr×Obj)) (s:Shared) (σ:St) (H:Hp) (Q:VK),Inv X pins σ H s->t σ H Q->
  wpAny (model X.prog X.w) X.A (eval a X.env) (fun v s₁=>wpAny (model X.prog X.w) X.A (eval b X.env) (fun u s₂=>wpAny (model X.prog X.w) X.A (compareOp op v u) (EP X pins σ Q) X.xe s₂) X.xe s₁) X.xe s
theorem sV(b:Expr){op:CmpOp}(h:op≠ .In)(h2:op≠ .NotIn):behindInMarks op b=false:=by
 have e1:(op==CmpOp.In)=false:=by cases op<;>first|rfl|exact absurd rfl h
 have a:(op==CmpOp.NotIn)=false:=by cases op<;>first|rfl|exact absurd rfl h2
 cases b<;>simp[behindInMarks,e1,a]
def tIsN(ta:TE):TE:=fun σ H Q=>ta σ H fun x H1=>Q (.bl (decide (x= .non))) H1
def yu(ta:TE):TE:=fun σ H Q=>ta σ H fun x H1=>Q (.bl (!decide (x= .non))) H1
theorem RelV.none_iff{x:V}{v:Value}(r:RelV x v):(v==Value.none)=decide (x= .non):=by
 cases x with
 |non=>cases r;rfl
 |bl _=>cases r;rfl
 |int _=>obtain⟨t,rfl⟩:=r;rfl
 |str _=>obtain⟨t,rfl⟩:=r;rfl
 |byt _=>obtain⟨t,rfl⟩:=r;rfl
 |flt _=>obtain⟨t,rfl⟩:=r;rfl
 |ref _=>cases r;rfl
 |ty _=>cases r;rfl
theorem wP{j pos'}(ha:PE X a ta):PC X .Is a (.Constant .none j pos') (tIsN ta):=by
 intro pins s σ H Q I h;refine thn (ha pins s σ H _ I h) fun v s1 ⟨x,H1,b,r1,c⟩=>?_;exact Constant_none (is_none_gen ⟨.bl _,H1,b,by rw[r1.none_iff];rfl,c⟩)
theorem vh{j pos'}(ha:PE X a ta):PC X .IsNot a (.Constant .none j pos') (yu ta):=by
 intro pins s σ H Q I h;refine thn (ha pins s σ H _ I h) fun v s1 ⟨x,H1,b,r1,c⟩=>?_;exact Constant_none (isnot_none_gen ⟨.bl _,H1,b,by rw[r1.none_iff];rfl,c⟩)
def tB(t:TE):TT:=fun σ H Q=>t σ H fun x H1=>∃c,x= .bl c/\Q c H1
theorem rW{op:CmpOp}{t:TE}(h:PC X op a b t)(h1:behindInMarks op b=false:=by first|exact sV _ (by decide) (by decide)|rfl):PT X (.Compare a [op] [b] pos) (tB t):=by
 intro pins s σ H Q I hw;refine wpAny_isTrue_Compare1 (thn (h pins s σ H _ I hw) fun v s1 h1=>thn h1 fun u g h2=>thn h2 fun c i ⟨x,H1,e,r1,f⟩=>?_) h1;obtain⟨d,rfl,q⟩:=f;cases r1;exact wpAny_truthy_bool ⟨H1,e,q⟩
theorem cO{e:Expr}{t:TE}(h:PE X e t)(he:∀whole,isTrue e X.env whole=(do let v<-whole;standAt e.pos;holding [v] (truthy v)):=by intro _;rfl):PT X e (tB t):=by
 intro pins s σ H Q I hw;refine isTrue_plain (thn (h pins s σ H _ I hw) fun v s1 ⟨x,H1,a,r1,b⟩=>?_) (he _);obtain⟨d,rfl,q⟩:=b;cases r1;exact wpAny_truthy_bool ⟨H1,a,q⟩
variable{tA tB':TT}{rest:List Expr}
def tAnd(t u:TT):TT:=fun σ H Q=>t σ H fun c H1=>if c=true then u σ H1 Q else Q false H1
def tOr(t u:TT):TT:=fun σ H Q=>t σ H fun c H1=>if c=true then Q true H1 else u σ H1 Q
def tNot(t:TT):TT:=fun σ H Q=>t σ H fun c H1=>Q (!c) H1
theorem dX(ha:PT X a tA):PW X (.BoolOp .And [a] pos) tA:=by
 intro wh pins s σ H Q I h;refine isTrue_and (thn (ha pins s σ H Q I h) fun c s1 e=>?_)
 cases c with
 |true=>exact isTrue_and_nil e
 |false=>exact e
theorem gP(ha:PT X a tA):PW X (.BoolOp .Or [a] pos) tA:=by
 intro wh pins s σ H Q I h;refine isTrue_or (thn (ha pins s σ H Q I h) fun c s1 e=>?_)
 cases c with
 |false=>exact isTrue_or_nil e
 |true=>exact e
theorem fi(ha:PT X a tA)(hb:PW X (.BoolOp .And (b::rest) pos) tB'):PW X (.BoolOp .And (a::b::rest) pos) (tAnd tA tB'):=by
 intro wh pins s σ H Q I h;refine isTrue_and (thn (ha pins s σ H _ I h) fun c s1 ⟨H1,d,e⟩=>?_)
 cases c with
 |true=>exact hb wh pins s1 σ H1 Q d e
 |false=>exact⟨H1,d,e⟩
theorem iN(ha:PT X a tA)(hb:PW X (.BoolOp .Or (b::rest) pos) tB'):PW X (.BoolOp .Or (a::b::rest) pos) (tOr tA tB'):=by
 intro wh pins s σ H Q I h;refine isTrue_or (thn (ha pins s σ H _ I h) fun c s1 ⟨H1,d,e⟩=>?_)
 cases c with
 |true=>exact⟨H1,d,e⟩
 |false=>exact hb wh pins s1 σ H1 Q d e
theorem gQ(ha:PT X a tA):PT X (.UnaryOp .Not a pos) (tNot tA):=by
 intro pins s σ H Q I h;exact isTrue_not (ha pins s σ H (fun c H1=>Q (!c) H1) I h)
def yA(ta tb:TE):TE:=fun σ H Q=>ta σ H fun x H1=>∃c,x= .bl c/\if c=true then tb σ H1 Q else Q (.bl false) H1
def tOrV(ta tb:TE):TE:=fun σ H Q=>ta σ H fun x H1=>∃c,x= .bl c/\if c=true then Q (.bl true) H1 else tb σ H1 Q
theorem m6{op}{t:TE}(h:PE X a t):PE X (.BoolOp op [a] pos) t:=fun pins s σ H Q I hw=>BoolOp_one (h pins s σ H Q I hw)
theorem sI(ha:PE X a ta)(hb:PE X (.BoolOp .And (b::rest) pos) tb):PE X (.BoolOp .And (a::b::rest) pos) (yA ta tb):=by
 intro pins s σ H Q I h;refine BoolOp_and (thn (ha pins s σ H _ I h) fun v s1 ⟨x,H1,e,r1,d⟩=>?_);obtain⟨c,rfl,d⟩:=d;cases r1;refine wpAny_truthy_bool ?_
 cases c with
 |true=>exact hb pins s1 σ H1 Q e d
 |false=>exact⟨.bl false,H1,e,rfl,d⟩
theorem yS(ha:PE X a ta)(hb:PE X (.BoolOp .Or (b::rest) pos) tb):PE X (.BoolOp .Or (a::b::rest) pos) (tOrV ta tb):=by
 intro pins s σ H Q I h;refine BoolOp_or (thn (ha pins s σ H _ I h) fun v s1 ⟨x,H1,e,r1,d⟩=>?_);obtain⟨c,rfl,d⟩:=d;cases r1;refine wpAny_truthy_bool ?_
 cases c with
 |false=>exact hb pins s1 σ H1 Q e d
 |true=>exact⟨.bl true,H1,e,rfl,d⟩
def tIf(t:TT)(ta tb:TE):TE:=fun σ H Q=>t σ H fun c H1=>if c=true then ta σ H1 Q else tb σ H1 Q
theorem dG{c:Expr}(hc:PT X c tA)(ha:PE X a ta)(hb:PE X b tb):PE X (.IfExp c a b pos) (tIf tA ta tb):=by
 intro pins s σ H Q I h;refine wpAny_IfExp (thn (hc pins s σ H _ I h) fun d s1 ⟨H1,e,f⟩=>?_)
 cases d with
 |true=>exact ha pins s1 σ H1 Q e f
 |false=>exact hb pins s1 σ H1 Q e f
end
open PySem PySem.Spec PyProof.Rows
def SqL(K:PySem.W.Frag)(H:Hp)(a:Addr)(xs:List V):Prop:=
 Rd H a (.lst xs)\/
  ∃(o:Obj) (its:Array Value) (n:Nat),K.lookup a=some o/\o.cls= .type "list"/\o.dict=none/\o.data= .seq its n/\its.size<=sizeLine/\Vals xs its.toList
def SqT(K:PySem.W.Frag)(H:Hp)(a:Addr)(xs:List V):Prop:=
 Rd H a (.tup xs)\/
  ∃(o:Obj) (its:Array Value) (n:Nat),K.lookup a=some o/\o.cls= .type "tuple"/\o.data= .seq its n/\its.size<=sizeLine/\Vals xs its.toList
noncomputable def absV:Value->Option V
 | .none=>some .non
 | .bool b=>some (.bl b)
 | .int i _=>some (.int i)
 | .str x _=>some (.str x)
 | .bytes b _=>some (.byt b)
 | .float b _=>some (.flt b)
 | .ref a=>some (.ref a)
 | .type n=>some (.ty n)
 |_=>none
theorem RelV.abs{x:V}{u:Value}(r:RelV x u):absV u=some x:=by
 cases x with
 |non=>cases r;rfl
 |bl _=>cases r;rfl
 |int _=>obtain⟨t,rfl⟩:=r;rfl
 |str _=>obtain⟨t,rfl⟩:=r;rfl
 |byt _=>obtain⟨t,rfl⟩:=r;rfl
 |flt _=>obtain⟨t,rfl⟩:=r;rfl
 |ref _=>cases r;rfl
 |ty _=>cases r;rfl
theorem RelV.inj{x y:V}{u:Value}(r:RelV x u)(q:RelV y u):x=y:=zN (r.abs.symm.trans q.abs)
theorem Vals.inj:∀ {xs ys:List V} {us:List Value},Vals xs us->Vals ys us->xs=ys
 |_,_,_, .nil, .nil=>rfl
 |_,_,_, .cons r t, .cons r' t'=>by rw[r.inj r',Vals.inj t t']
section
variable{X:Cx}{pins:List (Addr×Obj)}{σ:St}{H:Hp}{s:Shared}{a:Addr}{xs ys:List V}
theorem SqL.of{K:PySem.W.Frag}(h:H a=some (.lst xs)):SqL K H a xs:= .inl (.inl h)
theorem SqT.of{K:PySem.W.Frag}(h:H a=some (.tup xs)):SqT K H a xs:= .inl (.inl h)
theorem Inv.list(I:Inv X pins σ H s)(h:SqL X.K H a xs):∃its:List Value,Vals xs its/\PlainL s.heap a its.toArray/\xs.length<=sizeLine:=by
 rcases h with h|⟨o,its,n,hk,hc,hd,hs,hz,r⟩
 . obtain⟨z,its,n,r,e⟩:=h.ok I.hok;exact⟨its,r,⟨_,n,e,rfl,rfl,rfl⟩,z⟩
 . refine⟨its.toList,r,⟨o,n,I.kIn a o hk,hc,hd,by simpa using hs⟩,?_⟩
   have e:=r.length;simp only[Ae]at e;omega
theorem Inv.tuple(I:Inv X pins σ H s)(h:SqT X.K H a xs):∃its:List Value,Vals xs its/\IsTup s.heap a its.toArray/\xs.length<=sizeLine:=by
 rcases h with h|⟨o,its,n,hk,hc,hs,hz,r⟩
 . obtain⟨z,its,r,p⟩:=h.ok I.hok;exact⟨its,r,p,z⟩
 . refine⟨its.toList,r,⟨o,I.kIn a o hk,hc,n,by simpa using hs⟩,?_⟩
   have e:=r.length;simp only[Ae]at e;omega
theorem Inv.list_inj(I:Inv X pins σ H s)(h:SqL X.K H a xs)(h':SqL X.K H a ys):xs=ys:=by
 obtain⟨its,r,⟨o,n,e,_,_,d⟩,_⟩:=I.list h;obtain⟨its',r',⟨o',b,e',_,_,d'⟩,_⟩:=I.list h';rw[e]at e';cases e';rw[d]at d';injection d' with d1 _;have:its=its':=by simpa using congrArg Array.toList d1
 subst this;exact r.inj r'
theorem Inv.tuple_inj(I:Inv X pins σ H s)(h:SqT X.K H a xs)(h':SqT X.K H a ys):xs=ys:=by
 obtain⟨its,r,⟨o,e,_,n,d⟩,_⟩:=I.tuple h;obtain⟨its',r',⟨o',e',_,b,d'⟩,_⟩:=I.tuple h';rw[e]at e';cases e';rw[d]at d';injection d' with d1 _;have:its=its':=by simpa using congrArg Array.toList d1
 subst this;exact r.inj r'
end
abbrev Cx.wish(X:Cx)(E:Value->Shared->Prop):Cx:= {X with xe:=E}
abbrev Cx.nox(X:Cx):Cx:=X.wish fun _ _=>False
theorem Cx.Ok.wish{X:Cx}(ok:X.Ok)(E:Value->Shared->Prop):(X.wish E).Ok:=
 ⟨ok.mod,ok.kind,ok.glob,ok.blt,ok.above,ok.inj,ok.has,ok.cab,ok.hd,ok.frames,ok.stk,ok.exf,ok.bs,ok.bsz,ok.noex,ok.exfs,ok.funs,ok.frf⟩
theorem Cx.Ok.unwish{X:Cx}{E:Value->Shared->Prop}(ok:(X.wish E).Ok):X.Ok:=
 ⟨ok.mod,ok.kind,ok.glob,ok.blt,ok.above,ok.inj,ok.has,ok.cab,ok.hd,ok.frames,ok.stk,ok.exf,ok.bs,ok.bsz,ok.noex,ok.exfs,ok.funs,ok.frf⟩
section
variable{X:Cx}{pins:List (Addr×Obj)}{σ:St}{H:Hp}{s:Shared}{E:Value->Shared->Prop}
theorem Inv.wish(I:Inv X pins σ H s)(E:Value->Shared->Prop):Inv (X.wish E) pins σ H s:=⟨I.ok.wish E,I.os,I.bare,I.base,I.loc,I.cell,I.free,I.freeC,I.pin,I.hok,I.len⟩
theorem Inv.unwish(I:Inv (X.wish E) pins σ H s):Inv X pins σ H s:=⟨I.ok.unwish,I.os,I.bare,I.base,I.loc,I.cell,I.free,I.freeC,I.pin,I.hok,I.len⟩
theorem SP.unwish{D:Ends}{f:Flow}{s':Shared}(h:SP (X.wish E) pins D f s'):SP X pins D f s':=by
 cases f with
 |next=>obtain⟨σ',H',I,q⟩:=h;exact⟨σ',H',I.unwish,q⟩
 |brk=>obtain⟨σ',H',I,q⟩:=h;exact⟨σ',H',I.unwish,q⟩
 |cont=>obtain⟨σ',H',I,q⟩:=h;exact⟨σ',H',I.unwish,q⟩
 |ret u=>obtain⟨v,σ',H',I,r,q⟩:=h;exact⟨v,σ',H',I.unwish,r,q⟩
theorem PSs.nox{st:List Stmt}{t:TS}(h:PSs X.nox st t):PSs X st t:=fun pins s σ H D I hw=>
 wpAny_mono (h pins s σ H D (I.wish _) hw) (fun _ _ q=>q.unwish) fun _ _ z=>False.elim z
end
section
variable{X:Cx}{st:Stmt}{rest:List Stmt}{t u:TS}{e:Expr}{te:TE}{pos:Pos}
def vY:TS:=fun D σ H=>D.nx σ H
def tSeq(t u:TS):TS:=fun D σ H=>t {D with nx:=u D} σ H
theorem aI:PSs X [] vY:=fun _ _ σ H _ I h=>wpAny_execs_nil ⟨σ,H,I,h⟩
theorem ad(h1:PS X st t)(h2:PSs X rest u):PSs X (st::rest) (tSeq t u):=by
 intro pins s σ H D I h;refine wpAny_execs_cons (thn (h1 pins s σ H {D with nx:=u D} I h) fun f s1 q=>?_)
 cases f with
 |next=>
  obtain⟨σ',H',a,q⟩:=q;exact h2 pins s1 σ' H' D a q
 |ret v=>exact q
 |brk=>exact q
 |cont=>exact q
theorem af(h1:PS X st t):PSs X [st] t:=by
 intro pins s σ H D I h;refine wpAny_execs_cons (thn (h1 pins s σ H D I h) fun f s1 q=>?_)
 cases f with
 |next=>exact wpAny_execs_nil q
 |ret v=>exact q
 |brk=>exact q
 |cont=>exact q
theorem Inv.quiet{pins:List (Addr×Obj)}{σ:St}{H:Hp}{s:Shared}(I:Inv X pins σ H s):interactive X.env=false:=by simp[interactive,I.ok.kind]
def yy(te:TE):TS:=fun D σ H=>te σ H fun _ H1=>D.nx σ H1
theorem dg(he:PE X e te)(hs:swapsWith e none pos.line X.env=pure false:=by rfl):PS X (.Expr e pos) (yy te):=by
 intro pins s σ H D I h;exact wpAny_Expr_any (thn (he pins s σ H _ I h) fun v s1 ⟨x,H1,a,r1,b⟩=>⟨σ,H1,a,b⟩) I.quiet hs
def tRet(te:TE):TS:=fun D σ H=>te σ H D.rt
theorem ar(he:PE X e te):PS X (.Return (some e) pos) (tRet te):=by
 intro pins s σ H D I h;exact wpAny_Return_some (thn (he pins s σ H _ I h) fun v s1 ⟨x,H1,a,r1,b⟩=>⟨x,σ,H1,a,r1,b⟩)
def tIfS(c:TT)(t u:TS):TS:=fun D σ H=>c σ H fun b H1=>if b=true then t D σ H1 else u D σ H1
theorem bh{c:Expr}{a b:List Stmt}{tc:TT}(hc:PT X c tc)(ha:PSs X a t)(hb:PSs X b u):PS X (.If c a b pos) (tIfS tc t u):=by
 intro pins s σ H D I h;refine wpAny_If (thn (hc pins s σ H _ I h) fun d s1 ⟨H1,e,f⟩=>?_)
 cases d with
 |true=>exact ha pins s1 σ H1 D e f
 |false=>exact hb pins s1 σ H1 D e f
end
abbrev TG:=V->St->Hp->(St->Hp->Prop)->Prop
abbrev TGs:=List V->St->Hp->(St->Hp->Prop)->Prop
def PG(X:Cx)(target:Expr)(t:TG):Prop:=
 ∀(pins:List (Addr×Obj)) (s:Shared) (σ:St) (H:Hp) (v:V) (u:Value) (Q:St->Hp->Prop),Inv X pins σ H s->RelV v u->t v σ H Q->
  wpAny (model X.prog X.w) X.A (assign target X.env u) (fun _ s'=>∃σ' H',Inv X pins σ' H' s'/\Q σ' H') X.xe s
def PGs(X:Cx)(ts:List Expr)(t:TGs):Prop:=
 ∀(pins:List (Addr×Obj)) (s:Shared) (σ:St) (H:Hp) (vs:List V) (us:List Value) (Q:St->Hp->Prop),Inv X pins σ H s->Vals vs us->t vs σ H Q->
  wpAny (model X.prog X.w) X.A (assignInOrder ((assignEach ts X.env).map (·.2)) us) (fun _ s'=>∃σ' H',Inv X pins σ' H' s'/\Q σ' H') X.xe s
abbrev TSet:=V->V->V->Hp->(Hp->Prop)->Prop
def PSet(X:Cx)(t:TSet):Prop:=
 ∀(pins:List (Addr×Obj)) (s:Shared) (σ:St) (H:Hp) (o i v:V) (ov iv u:Value) (Q:Hp->Prop),Inv X pins σ H s->RelV o ov->RelV i iv->RelV v u->t o i v H Q->
  wpAny (model X.prog X.w) X.A (setItem ov iv u) (fun _ s'=>∃H',Inv X pins σ H' s'/\Q H') X.xe s
section
variable{X:Cx}{pos:Pos}
def aH(i:Nat):TG:=fun v σ H Q=>Q (σ.set i (some v)) H
theorem fW{i:Nat}{x:Str}(hN:X.N.Nodup)(hi:X.N[i]?=some x)(hx:Loc X.env.scope x)(hf:X.fn x=true\/X.env.scope.names.lookup x=some .local:=by first|exact .inl rfl|exact .inr rfl|assumption):PG X (.Name x pos) (aH i):=by
 intro pins s σ H v u Q I r h;exact wpAny_assign_Name (eQ I hN hi hx r (fun s' a=>⟨_,H,a,h⟩) hf)
def gNil:TGs:=fun vs σ H Q=>vs= []/\Q σ H
def aV(t:TG)(u:TGs):TGs:=fun vs σ H Q=>∃v r,vs=v::r/\t v σ H fun σ' H'=>u r σ' H' Q
theorem aL:PGs X [] gNil:=by
 intro pins s σ H vs us Q I r h;obtain⟨e,h⟩:=h;subst e;cases r;exact assignInOrder_nil ⟨σ,H,I,h⟩
theorem ai{e:Expr}{es:List Expr}{t:TG}{u:TGs}(h1:PG X e t)(h2:PGs X es u)(hs:(assignEach (e::es) X.env).map (·.2)=assign e X.env::(assignEach es X.env).map (·.2):=by rfl):PGs X (e::es) (aV t u):=by
 intro pins s σ H vs us Q I r h;obtain⟨v,f,e1,h⟩:=h;subst e1
 cases r with
 |cons r a=>
  rw[hs];refine assignInOrder_cons (thn (h1 pins s σ H _ _ _ I r h) fun _ s1 ⟨c,H1,b,d⟩=>?_);exact h2 pins s1 c H1 _ _ Q b a d
def gTup(K:PySem.W.Frag)(n:Nat)(t:TGs):TG:=fun v σ H Q=>∃a xs,v= .ref a/\SqT K H a xs/\xs.length=n/\t xs σ H Q
theorem aS{es:List Expr}{k:Nat}{t:TGs}{n:Nat}(hc:X.calm=true)(h:PGs X es t)(hn:(assignEach es X.env).length=n:=by rfl)(hst:(assignEach es X.env).findIdx? (·.1)=none:=by rfl):PG X (.Tuple es k pos) (gTup X.K n t):=by
 intro pins s σ H v u Q I r hw;obtain⟨a,xs,e1,hq,hl,hw⟩:=hw;subst e1;cases r;obtain⟨its,rv,ht,hz⟩:=I.tuple hq;refine assign_Tuple_tuple (I.ok.hd hc) ht (by simp[hn,<-hl,rv.length]) hst fun h' hx=>?_
 have c:Inv X pins σ H {s with heap:=h'}:=I.kept (t':=s.toks) fun b o e=>hx b o (zO (Heap.lt_size e)) e;exact h pins _ σ H xs _ Q c (by simpa using rv) hw
def gSub(to ti:TE)(t:TSet):TG:=fun v σ H Q=>to σ H fun o H1=>ti σ H1 fun i H2=>t o i v H2 fun H3=>Q σ H3
theorem gU{o i:Expr}{to ti:TE}{t:TSet}(ho:PE X o to)(hi:PE X i ti)(hs:PSet X t)(ha:∀v,assign (.Subscript o i pos) X.env v=(do
  let ov<-holding [v] (eval o X.env)
  let iv<-holding [v,ov] (eval i X.env)
  standAt pos
  holding [v,ov,iv] (setItem ov iv v)
  release [v,ov,iv] []):=by intro _;rfl):PG X (.Subscript o i pos) (gSub to ti t):=by
 intro pins s σ H v u Q I r h;rw[ha];refine wpAny_bind (wpAny_holding (thn (ho pins s σ H _ I h) fun ov s1 ⟨x,H1,b,r1,e⟩=>?_));refine wpAny_bind (wpAny_holding (thn (hi pins s1 σ H1 _ b e) fun iv g ⟨y,H2,a,r2,d⟩=>?_));refine wpAny_bind (wpAny_standAt (wpAny_bind (wpAny_holding (thn (hs pins g σ H2 x y v ov iv u _ a r1 r2 r d) fun _ j ⟨H3,c,f⟩=>?_))));exact wpAny_release ⟨σ,H3,c,f⟩
def tAsg(te:TE)(g:TG):TS:=fun D σ H=>te σ H fun x H1=>g x σ H1 D.nx
theorem fj{tg e:Expr}{te:TE}{g:TG}(he:PE X e te)(hg:PG X tg g)(hs:swapsWithSole [tg] e pos.line X.env=pure false:=by rfl)(hw:swappedStores [tg] e X.env=pure none:=by rfl)(h1:(assignEach [tg] X.env).map (·.2)= [assign tg X.env]:=by rfl):PS X (.Assign [tg] e pos) (tAsg te g):=by
 intro pins s σ H D I h;refine wpAny_Assign_stores (thn (he pins s σ H _ I h) fun v s1 ⟨x,H1,a,r1,b⟩=>?_) hs hw;rw[h1];exact thn (hg pins s1 σ H1 x v _ a r1 b) fun _ c q=>q
theorem rZ{i:Nat}{x:Str}{e:Expr}{te:TE}{pos':Pos}(hN:X.N.Nodup)(hi:X.N[i]?=some x)(hx:Loc X.env.scope x)(he:PE X e te)(hs:swapsWith e (some (.Name x pos')) pos.line X.env=pure false:=by rfl)(hf:X.fn x=true\/X.env.scope.names.lookup x=some .local:=by first|exact .inl rfl|exact .inr rfl|assumption):
 PS X (.Assign [.Name x pos'] e pos) (tAsg te (aH i)):=by
 intro pins s σ H D I h;refine wpAny_Assign_Name (thn (he pins s σ H _ I h) fun v s1 ⟨y,H1,b,r1,c⟩=>?_) hs;exact eQ b hN hi hx r1 (fun d a=>⟨_,H1,a,c⟩) hf
def tPar(i j:Nat)(ta:TA):TS:=fun D σ H=>ta σ H fun vs H1=>∃v w,vs= [v,w]/\D.nx ((σ.set i (some v)).set j (some w)) H1
theorem se{i j:Nat}{x y:Str}{a b:Expr}{ta:TA}{px py pt:Pos}{kt k2 pt2}(hc:X.calm=true)(hN:X.N.Nodup)(hi:X.N[i]?=some x)(hj:X.N[j]?=some y)(hij:i≠j)(hx:X.env.scope.names.lookup x=some .local)(hy:X.env.scope.names.lookup y=some .local)(ha:PA X [a,b] ta)(hw:swappedStores [.Tuple [.Name x px, .Name y py] kt pt] (.Tuple [a,b] k2 pt2) X.env=pure (some [x,y]))(hs:swapsWithSole [.Tuple [.Name x px, .Name y py] kt pt] (.Tuple [a,b] k2 pt2) pos.line X.env=pure false:=by rfl):
 PS X (.Assign [.Tuple [.Name x px, .Name y py] kt pt] (.Tuple [a,b] k2 pt2) pos) (tPar i j ta):=by
 intro pins s σ H D I h;rw[exec_Assign_arm];refine wpAny_bind (wpAny_standAt ?_);rw[hs];refine wpAny_bind (wpAny_pure ?_);rw[if_neg (by decide)]
 refine wpAny_bind (Tuple_ (thn (ha _ pins s σ H _ I h) fun us s1 ⟨vs,H1,m,r1,f⟩=>?_));refine hZq fun q_ e_=>?_;obtain⟨v,w,e1,f⟩:=f;subst e1
 obtain⟨c,d,rfl,rv,g⟩:∃c d,us= [c,d]/\RelV v c/\RelV w d:=by
  cases r1 with
  |cons p q=>
   cases q with
   |cons u r=>
    cases r;exact⟨_,_,rfl,p,u⟩
 subst e_;refine wpAny_newObj_type ?_ (by show 2<=sizeLine;decide)
 have l:Inv X pins σ H1 {s1 with heap:=s1.heap.push {cls:= .type "tuple",data:= .seq [c,d].toArray}}:=m.kept (t':=s1.toks) fun b o e=>Heap.get?_push_of_some _ e;rw[hw];refine wpAny_bind (wpAny_pure ?_);show wpAny (model X.prog X.w) X.A (do rule "assign.swapped-stores";let items<-unpackItems (.ref s1.heap.objs.size) 2 none;assignInOrder [fun v=>bindName X.env y v,fun v=>bindName X.env x v] items.reverse;pure Flow.next) _ _ _
 refine wpAny_bind (wpAny_rule (wpAny_bind (unpackItems_tuple (items:= #[c,d]) (I.ok.hd hc) (IsTup.new s1.heap _) fun h' hx'=>?_)));have n:=l.kept (h':=h') (t':=s1.toks) fun b o e=>hx' b o (zO (Heap.lt_size e)) e;show wpAny _ _ (assignInOrder [fun v=>bindName X.env y v,fun v=>bindName X.env x v] [d,c] >>=fun _=>pure Flow.next) _ _ _;refine wpAny_bind (assignInOrder_cons (wpAny_bindName (eQ n hN hj (.inl hy) g (fun z t=>?_) (.inr hy))));refine assignInOrder_cons (wpAny_bindName (eQ t hN hi (.inl hx) rv (fun s3 k=>assignInOrder_nil (wpAny_pure ?_)) (.inr hx)));rw[List.set_comm _ _ (Ne.symm hij)]at k;exact⟨_,H1,k,f⟩
def qz(c:TT)(tb:TS):TS:=fun D σ H=>∃W:Nat->St->Hp->Prop,(∃m,W m σ H)/\∀m σ H,W m σ H->
 c σ H fun b H1=>if b=true then∃N:St->Hp->Prop,(∀σ' H',N σ' H'->∃m',m' < m/\W m' σ' H')/\tb {D with nx:=N,ct:=N,bk:=D.nx} σ H1 else D.nx σ H1
theorem gR{c:Expr}{body:List Stmt}{tc:TT}{tb:TS}(hp:PassesOwn (model X.prog X.w) X.A X.env X.xe)(hc:PT X c tc)(hb:PSs X body tb):PS X (.While c body [] pos) (qz tc tb):=by
 intro pins s σ H D I h;refine hZq fun q_ e_=>?_;obtain⟨W,⟨q,m⟩,turn⟩:=h;subst e_;refine wpAny_While (codeAny_whileLoop (fun n s'=>∃σ' H',Inv X pins σ' H' s'/\W n σ' H') ?_ q ⟨σ,H,I,m⟩);intro n s1 z_;refine hZq fun q_ e_=>?_;obtain⟨d,H1,o,p⟩:=z_;subst e_;refine wpAny_passesOwn hp (thn (hc pins s1 d H1 _ o (turn n d H1 p)) fun b r ⟨H2,k,e⟩=>?_)
 cases b with
 |true=>
  obtain⟨N,l,e⟩:=e;rw[if_pos rfl];refine wpAny_passesOwn hp (thn (hb pins r d H2 _ k e) fun f t g=>?_)
  cases f with
  |next=>
   refine hZq fun q_ e_=>?_;obtain⟨a,H3,i,n3⟩:=g;obtain⟨m',hm,j⟩:=l a H3 n3;subst e_;exact⟨m',hm,a,H3,i,j⟩
  |cont=>
   refine hZq fun q_ e_=>?_;obtain⟨a,H3,i,n3⟩:=g;obtain⟨m',hm,j⟩:=l a H3 n3;subst e_;exact⟨m',hm,a,H3,i,j⟩
  |brk=>exact g
  |ret v=>exact g
 |false=>
  rw[if_neg zX];exact wpAny_execs_nil ⟨d,H2,k,e⟩
end
structure It where
 go:Nat->Hp->Prop
 yld:Nat->Hp->V->Hp->Prop
 stop:Nat->Hp->Prop
def FpOk(X:Cx)(pins:List (Addr×Obj))(H:Hp)(b:Addr):Prop:=
 H b=none/\b≠X.env.locals/\b∉X.fs/\(b∈X.ex\/X.s₀.heap.objs.size<=b)/\(∀x c,X.env.cells.lookup x=some c->c≠b)/\∀p∈X.pn++pins,p.1≠b
theorem Inv.fpOk{X:Cx}{pins:List (Addr×Obj)}{σ:St}{H H':Hp}{s:Shared}{b:Addr}(I:Inv X pins σ H s)(hb:s.heap.objs.size<=b)(hn:H' b=none):FpOk X pins H' b:=by
 refine⟨hn,Nat.ne_of_gt (A5 I.lt hb),I.nofs hb, .inr (zK I.sz hb),fun x c e z=>?_,fun p hp z=>?_⟩
 . obtain⟨v,q⟩:=I.cell x c e;exact absurd (A5 q.lt (by rw[z];exact hb)) (AS _)
 . exact absurd (A5 (Heap.lt_size (I.pin p hp).1) (by rw[z];exact hb)) (AS _)
structure Turn (P:Program) (w:World) (K:PySem.W.Frag) (tg:Expr) (J:It) (fp:List Addr) (it:Addr) (tn:Nat->Heap->Prop):Prop where
 mem:it∈fp
 obj:∀i h,tn i h->∀b∈fp,∃o,h.get? b=some o/\∀v,o.data≠ .cell v
 keep:∀i h h',tn i h->(∀b∈fp,∀o,h.get? b=some o->h'.get? b=some o)->tn i h'
 item:∀(X:Cx),X.prog=P->X.w=w->X.K=K->X.calm=true->∀(i:Nat) (pins:List (Addr×Obj)) (s:Shared) (σ:St) (H:Hp) (E:Value->Shared->Prop),Inv X pins σ H s->(∀b∈fp,FpOk X pins H b)->tn i s.heap->J.go i H->
  wpAny (model P w) X.A (pyNext (.ref it)) (fun r s1=>∃u,r=some u/\
   wpAny (model P w) X.A (letOwnedTupleGo tg (.ref it) u) (fun _ s2=>∃x H',Inv X pins σ H' s2/\RelV x u/\J.yld i H x H'/\tn (i+1) s2.heap/\∀b∈fp,H' b=none) E s1) E s
 done:∀(X:Cx),X.prog=P->X.w=w->X.K=K->X.calm=true->∀(i:Nat) (pins:List (Addr×Obj)) (s:Shared) (σ:St) (H:Hp) (E:Value->Shared->Prop),Inv X pins σ H s->(∀b∈fp,FpOk X pins H b)->tn i s.heap->J.stop i H->
  wpAny (model P w) X.A (pyNext (.ref it)) (fun r s1=>r=none/\Inv X pins σ H s1) E s
 self:∀(A:Around) (i:Nat) (s:Shared) (Q:Value->Shared->Prop) (E:Value->Shared->Prop),tn i s.heap->Q (.ref it) s->wpAny (model P w) A (pyIter (.ref it)) Q E s
abbrev TI:=St->Hp->(It->Hp->Prop)->Prop
def PIE(X:Cx)(pins:List (Addr×Obj))(σ:St)(tg:Expr)(R:It->Hp->Prop)(itv:Value)(s2:Shared):Prop:=
 ∃(it:Addr) (fp:List Addr) (tn:Nat->Heap->Prop) (J:It) (H':Hp),itv= .ref it/\Inv X pins σ H' s2/\Turn X.prog X.w X.K tg J fp it tn/\tn 0 s2.heap/\(∀b∈fp,FpOk X pins H' b)/\R J H'
def PI(X:Cx)(tg iter:Expr)(wi:TI):Prop:=
 ∀(pins:List (Addr×Obj)) (s:Shared) (σ:St) (H:Hp) (R:It->Hp->Prop),Inv X pins σ H s->wi σ H R->
  wpAny (model X.prog X.w) X.A (eval iter X.env) (fun v s1=>wpAny (model X.prog X.w) X.A (pyIter v) (PIE X pins σ tg R) X.xe s1) X.xe s
theorem tO{M:Model}{A:Around}{E:Value->Shared->Prop}{s:Shared}{tg:Expr}{it:Addr}{u:Value}{o:Obj}{n:String}{vs:Array Value}{Q:Unit->Shared->Prop}(ho:s.heap.get? it=some o)(hc:o.cls= .type n)(hd:o.data= .fields vs)(hn: ["enumerate","zip","dict_itemiterator","dict_reverseitemiterator","odict_iterator","itertools.zip_longest","itertools.pairwise"].contains n=false)(hQ:Q () s):wpAny M A (letOwnedTupleGo tg (.ref it) u) Q E s:=by
 unfold letOwnedTupleGo
 cases tg<;>first
  |exact wpAny_pure hQ
  |(cases u<;>first
     |exact wpAny_pure hQ
     |(refine wpAny_bind (wpAny_load ho ?_)
       rw[hc,hd];show wpAny M A (if (["enumerate","zip","dict_itemiterator","dict_reverseitemiterator","odict_iterator","itertools.zip_longest","itertools.pairwise"].contains n&&vs[0]?==some (rawInt _))=true then _ else _) Q E s;rw[if_neg (by intro h;rw[hn,Bool.false_and]at h;cases h)]
       exact wpAny_pure hQ))
def Itl(K:PySem.W.Frag)(a:Addr):It:=
 ⟨fun i H=>∃xs x,SqL K H a xs/\xs[i]?=some x,fun i H x H'=>H'=H/\∀xs,SqL K H a xs->xs[i]?=some x,fun i H=>∃xs,SqL K H a xs/\xs.length<=i⟩
def Itt(K:PySem.W.Frag)(a:Addr):It:=
 ⟨fun i H=>∃xs x,SqT K H a xs/\xs[i]?=some x,fun i H x H'=>H'=H/\∀xs,SqT K H a xs->xs[i]?=some x,fun i H=>∃xs,SqT K H a xs/\xs.length<=i⟩
def Itr(lo:Int)(n:Nat):It:=⟨fun i _=>i < n,fun i H x H'=>H'=H/\x= .int (lo+i),fun i _=>n<=i⟩
theorem oF{P:Program}{w:World}{K:PySem.W.Frag}{tg:Expr}(a it:Addr):Turn P w K tg (Itl K a) [it] it (fun i h=>h.IsListIter it a i) where
 mem:=by simp
 obj:=fun i h st b hb=>by
  have e:b=it:=by simpa using hb
  subst e;obtain⟨o,e,c,d⟩:=st;exact⟨o,e,fun v z=>by rw[d]at z;cases z⟩
 keep:=fun i h h' st k=>st.at fun o e=>k it (by simp) o e
 item:=by
  intro X t hw r hc i pins s σ H E I g st j;subst t hw r;obtain⟨xs,x,hq,hx⟩:=j;obtain⟨its,rv,p,hz⟩:=I.list hq;obtain⟨u,hu,ru⟩:=rv.get hx;obtain⟨f0,n,f2,q,m,l⟩:=g it (by simp)
  refine wpAny_pyNext_list_item st p.isList (x:=u) (by simpa using hu) fun h' f sb=>?_
  have y:Inv X pins σ H {s with heap:=h'}:=I.turned (t':=s.toks) (fun b o hb e=>(sb.2 b hb).trans e) f0 n q m l;obtain⟨o,e,c,d⟩:=id f;exact⟨u,rfl,tO (s:= {s with heap:=h'}) e c d (by decide) ⟨x,H,y,ru,⟨rfl,fun ys hy=>by rw[I.list_inj hy hq];exact hx⟩,f,fun b hb=>(g b hb).1⟩⟩
 done:=by
  intro X t hw r hc i pins s σ H E I g st j;subst t hw r;obtain⟨xs,hq,hx⟩:=j;obtain⟨its,rv,p,hz⟩:=I.list hq;obtain⟨f0,n,f2,q,m,l⟩:=g it (by simp)
  have hl:=rv.length;exact wpAny_pyNext_list_end (I.ok.hd hc) st p.isList (by simp;omega) fun h' eb=>⟨rfl,I.turned (t':=s.toks) (fun b o hb e=>eb b o hb e) f0 n q m l⟩
 self:=fun _ _ _ _ _ st h=>wpAny_pyIter_listiter st h
theorem lM{P:Program}{w:World}{K:PySem.W.Frag}{tg:Expr}(a it:Addr):Turn P w K tg (Itt K a) [it] it (fun i h=>h.IsTupleIter it a i) where
 mem:=by simp
 obj:=fun i h st b hb=>by
  have e:b=it:=by simpa using hb
  subst e;refine hZq fun q_ e_=>?_;obtain⟨o,e,c,d⟩:=st;subst e_;exact⟨o,e,fun v z=>by rw[d]at z;cases z⟩
 keep:=fun i h h' st k=>st.at fun o e=>k it (by simp) o e
 item:=by
  intro X t hw r hc i pins s σ H E I g st j;subst t hw r;refine hZq fun q_ e_=>?_;obtain⟨xs,x,hq,hx⟩:=j;obtain⟨its,rv,p,hz⟩:=I.tuple hq;obtain⟨u,hu,ru⟩:=rv.get hx;obtain⟨f0,n,f2,q,m,l⟩:=g it (by simp)
  subst e_;refine wpAny_pyNext_tuple_item st (show s.heap.IsTuple a its.toArray from p) (x:=u) (by simpa using hu) fun h' f sb=>?_
  have y:Inv X pins σ H {s with heap:=h'}:=I.turned (t':=s.toks) (fun b o hb e=>(sb.2 b hb).trans e) f0 n q m l;refine hZq fun q_ e_=>?_;obtain⟨o,e,c,d⟩:=id f;subst e_;exact⟨u,rfl,tO (s:= {s with heap:=h'}) e c d (by decide) ⟨x,H,y,ru,⟨rfl,fun ys hy=>by rw[I.tuple_inj hy hq];exact hx⟩,f,fun b hb=>(g b hb).1⟩⟩
 done:=by
  intro X t hw r hc i pins s σ H E I g st j;subst t hw r;refine hZq fun q_ e_=>?_;obtain⟨xs,hq,hx⟩:=j;obtain⟨its,rv,p,hz⟩:=I.tuple hq;obtain⟨f0,n,f2,q,m,l⟩:=g it (by simp)
  subst e_;have hl:=rv.length;exact wpAny_pyNext_tuple_end (I.ok.hd hc) st (show s.heap.IsTuple a its.toArray from p) (by simp;omega) fun h' eb=>⟨rfl,I.turned (t':=s.toks) (fun b o hb e=>eb b o hb e) f0 n q m l⟩
 self:=fun _ _ _ _ _ st h=>wpAny_pyIter_tupleiter st h
theorem lN{P:Program}{w:World}{K:PySem.W.Frag}{tg:Expr}(it:Addr)(lo:Int)(n:Nat):Turn P w K tg (Itr lo n) [it] it (fun i h=>IsRangeIter h it (lo+(i:Nat)*1) ((n:Int) - (i:Nat)) 1) where
 mem:=by simp
 obj:=fun i h st b hb=>by
  have e:b=it:=by simpa using hb
  subst e
  exact⟨_,st,fun v z=>by
   have x:Data.fields _=Data.cell v:=z
   cases x⟩
 keep:=fun i h h' st k=>k it (by simp) _ st
 item:=by
  intro X p hw m hc i pins s σ H E I c st d;subst p hw m;obtain⟨f0,j,r,l,g,f⟩:=c it (by simp)
  have W:=Walks.range (prog:=X.prog) (w:=X.w) (I.ok.hd hc) it lo 1 n;refine W.item i s _ _ d st fun v h' tk hv a kk=>?_;obtain⟨t,rfl⟩:=hv;have q:Inv X pins σ H {s with heap:=h',toks:=tk}:=I.turned (fun b o hb e=>kk b o (by simpa using hb) e) f0 j l g f
  refine⟨_,rfl,tO (s:= {s with heap:=h',toks:=tk}) (n:="range_iterator") a rfl rfl (by decide) ⟨.int (lo+i),H,q,⟨t,?_⟩,⟨rfl,rfl⟩,a,fun b hb=>(c b hb).1⟩⟩
  rw[Int.mul_one]
 done:=by
  intro X p hw m hc i pins s σ H E I c st d;subst p hw m;obtain⟨f0,j,r,l,g,f⟩:=c it (by simp)
  exact wpAny_pyNext_range_end (I.ok.hd hc) st (by have:n<=i:=d;omega) fun h' u=>⟨rfl,I.turned (t':=s.toks) (fun b o hb e=>u b o hb e) f0 j l g f⟩
 self:=fun _ _ _ _ _ st h=>wpAny_pyIter_rangeiter st h
open PySem PySem.Spec PyProof.Rows
section
variable{X:Cx}{tg:Expr}
def iY(K:PySem.W.Frag)(tl:TE):TI:=fun σ H R=>tl σ H fun x H1=>∃a,x= .ref a/\(∃xs,SqL K H1 a xs)/\R (Itl K a) H1
def iTup(K:PySem.W.Frag)(tl:TE):TI:=fun σ H R=>tl σ H fun x H1=>∃a,x= .ref a/\(∃xs,SqT K H1 a xs)/\R (Itt K a) H1
theorem aJ{l:Expr}{tl:TE}(hl:PE X l tl):PI X tg l (iY X.K tl):=by
 intro pins s σ H R I h;refine thn (hl pins s σ H _ I h) fun v s1 ⟨x,H1,c,r1,d⟩=>?_;obtain⟨a,e,⟨xs,hq⟩,q⟩:=d;subst e;cases r1;obtain⟨its,rv,p,hz⟩:=c.list hq;refine wpAny_pyIter_list p.isList ?_;refine⟨s1.heap.objs.size,[s1.heap.objs.size],_,_,H1,rfl,c.kept (t':=s1.toks) fun b o e=>Heap.get?_push_of_some _ e,oF a _,⟨_,Heap.get?_push_size _ rfl,rfl,rfl⟩,fun b hb=>?_,q⟩;have e:b=s1.heap.objs.size:=by simpa using hb
 subst e;exact c.fpOk (zu _) (c.hok.fresh (zu _))
theorem fk{l:Expr}{tl:TE}(hl:PE X l tl):PI X tg l (iTup X.K tl):=by
 intro pins s σ H R I h;refine thn (hl pins s σ H _ I h) fun v s1 ⟨x,H1,c,r1,d⟩=>?_;obtain⟨a,e,⟨xs,hq⟩,q⟩:=d;subst e;cases r1;obtain⟨its,rv,p,hz⟩:=c.tuple hq;refine wpAny_pyIter_tuple (show s1.heap.IsTuple a its.toArray from p) ?_;refine⟨s1.heap.objs.size,[s1.heap.objs.size],_,_,H1,rfl,c.kept (t':=s1.toks) fun b o e=>Heap.get?_push_of_some _ e,lM a _,⟨_,Heap.get?_push_size _ rfl,rfl,rfl⟩,fun b hb=>?_,q⟩;have e:b=s1.heap.objs.size:=by simpa using hb
 subst e;exact c.fpOk (zu _) (c.hok.fresh (zu _))
theorem rN{pins:List (Addr×Obj)}{σ:St}{H:Hp}{s:Shared}{R:It->Hp->Prop}{E:Value->Shared->Prop}{lo hi:Int}{t u v:Tok}{tk:Nat}(I:Inv X pins σ H s)(h1:-(2^62)<=lo)(h2:lo < 2^62)(h3:-(2^62)<=hi)(h4:hi < 2^62)(q:R (Itr lo (hi - lo).toNat) H):wpAny (model X.prog X.w) X.A (pyIter (.ref s.heap.objs.size)) (PIE X pins σ tg R) E {s with heap:=s.heap.push {cls:= .type "range",data:= .fields #[.int lo t, .int hi u, .int 1 v]},toks:=tk}:=by
 refine wpAny_pyIter_range (IsRange.new ..) (small_one h1 h2 h3 h4) ?_;have a:Inv X pins σ H {s with heap:=s.heap.push {cls:= .type "range",data:= .fields #[.int lo t, .int hi u, .int 1 v]},toks:=tk}:=I.kept fun b o e=>Heap.get?_push_of_some _ e
 refine⟨(s.heap.push {cls:= .type "range",data:= .fields #[.int lo t, .int hi u, .int 1 v]}).objs.size,[(s.heap.push {cls:= .type "range",data:= .fields #[.int lo t, .int hi u, .int 1 v]}).objs.size],_,_,H,rfl,
  a.kept (t':=tk) fun b o e=>Heap.get?_push_of_some _ e,lN _ lo (hi - lo).toNat,?_,fun b hb=>?_,q⟩
 . have e1:lo+((0:Nat):Int)*1=lo:=by simp
   have c:(((hi - lo).toNat:Nat):Int) - ((0:Nat):Int)=Builtin.Range.rangeSize lo hi 1:=by rw[rangeSize_one];split<;>omega
   show IsRangeIter _ _ (lo+((0:Nat):Int)*1) ((((hi - lo).toNat:Nat):Int) - ((0:Nat):Int)) 1;rw[e1,c];exact Heap.get?_push_size _ rfl
 . have e:b=(s.heap.push {cls:= .type "range",data:= .fields #[.int lo t, .int hi u, .int 1 v]}).objs.size:=by simpa using hb
   subst e;exact a.fpOk (zu _) (a.hok.fresh (zu _))
def z9(ta:TA):TI:=fun σ H R=>ta σ H fun vs H1=>∃j:Int,vs= [.int j]/\ -(2^62)<=j/\j < 2^62/\R (Itr 0 j.toNat) H1
theorem cA{a:Expr}{ta:TA}{p pos:Pos}(hg:Gl X "range")(hm:X.mg "range"=none)(ha:PA X [a] ta)(hs:starEach [a] X.env= [(false,eval a X.env)]:=by rfl):PI X tg (.Call (.Name "range" p) [a] [] pos) (z9 ta):=by
 intro pins s σ H R I h;refine Call_ (eF I hg hm boot_range (PyProof.Rows.callWith_type1 (thn (ha pos pins s σ H _ I h) fun us s1 ⟨vs,H1,d,r1,b⟩=>?_) hs rfl));obtain⟨j,e,b,f,q⟩:=b;subst e
 cases r1 with
 |cons r c=>
  cases c;obtain⟨t,rfl⟩:=r;exact call_range_1 (rN d (by omega) (by omega) b f (by simpa using q))
def tFor(wi:TI)(g:TG)(tb:TS):TS:=fun D σ H=>wi σ H fun J H1=>∃W:Nat->Nat->St->Hp->Prop,(∃m,W 0 m σ H1)/\∀i m σ H,W i m σ H->
 (J.stop i H/\D.nx σ H)\/(J.go i H/\∃N:St->Hp->Prop,(∀σ' H',N σ' H'->∃m',m' < m/\W (i+1) m' σ' H')/\∀x H',J.yld i H x H'->g x σ H' fun σ2 H2=>tb {D with nx:=N,ct:=N,bk:=D.nx} σ2 H2)
noncomputable def dF(fp:List Addr)(h:Heap):List (Addr×Obj):=fp.filterMap fun b=>(h.get? b).map fun o=>(b,o)
theorem aZ{fp:List Addr}{h:Heap}{b:Addr}{o:Obj}(hb:b∈fp)(e:h.get? b=some o):(b,o)∈dF fp h:=List.mem_filterMap.mpr ⟨b,hb,by rw[e];rfl⟩
theorem oW{fp:List Addr}{h:Heap}{p:Addr×Obj}(hp:p∈dF fp h):p.1∈fp/\h.get? p.1=some p.2:=by
 obtain⟨b,hb,e⟩:=List.mem_filterMap.mp hp
 cases q:h.get? b with
 |none=>rw[q]at e;cases e
 |some o=>
  rw[q]at e;have e':(b,o)=p:=zN e;subst e';exact⟨hb,q⟩
theorem Inv.pinned{pins:List (Addr×Obj)}{σ:St}{H:Hp}{s:Shared}{fp:List Addr}(I:Inv X pins σ H s)(hf:∀b∈fp,FpOk X pins H b)(ho:∀b∈fp,∃o,s.heap.get? b=some o/\∀v,o.data≠ .cell v):Inv X (pins++dF fp s.heap) σ H s:=
 I.pins_of fun p hp=>(A9.mp hp).elim (fun z=>I.pin p (zR _ z)) fun z=>by
  obtain⟨hb,e⟩:=oW z;obtain⟨f0,c,a,_⟩:=hf p.1 hb;obtain⟨o,e',d⟩:=ho p.1 hb;rw[e]at e';cases e';exact⟨e,f0,c,a,d⟩
theorem Inv.unpinned{pins pl:List (Addr×Obj)}{σ:St}{H:Hp}{s:Shared}(I:Inv X (pins++pl) σ H s):Inv X pins σ H s:=I.pins_of fun p hp=>I.pin p (zR _ (AO _ hp))
theorem bK{iter:Expr}{body:List Stmt}{wi:TI}{g:TG}{tb:TS}{pos:Pos}(hp:PassesOwn (model X.prog X.w) X.A X.env X.xe)(hc:X.calm=true)(hi:PI X tg iter wi)(hg:PG X tg g)(hb:PSs X body tb)(hs:∀x,foldedSetIterable iter X.env x=pure x:=by intro _;rfl):PS X (.For tg iter body [] pos) (tFor wi g tb):=by
 intro pins s σ H D I h;refine wpAny_For (thn (hi pins s σ H _ I h) fun v s1 h1=>thn h1 fun aC s2 h2=>?_) hs;refine hZq fun q_ e_=>?_;obtain⟨it,fp,tn,J,H2,e,I2,T,y,f2,W,⟨m0,w0⟩,turn⟩:=h2;subst e_;subst e;have c:∀ {H':Hp},(∀b∈fp,H' b=none)->∀b∈fp,FpOk X pins H' b:=fun hn b hb=>⟨hn b hb,(f2 b hb).2⟩;refine codeAny_forLoop_any (fun n s'=>∃i σ' H',Inv X pins σ' H' s'/\tn i s'.heap/\(∀b∈fp,H' b=none)/\W i n σ' H') ?_ m0 ⟨0,σ,H2,I2,y,fun b hb=>(f2 b hb).1,w0⟩;intro n s3 z_;refine hZq fun q_ e_=>?_;obtain⟨i,q,H3,I3,t,p,w3⟩:=z_;subst e_;rcases turn i n q H3 w3 with⟨stop,qn⟩|⟨go,N,hN,step⟩
 . refine wpAny_passesOwn hp (thn (T.done X rfl rfl rfl hc i pins s3 q H3 X.xe I3 (c p) t stop) fun r s4 ⟨hr,I4⟩=>?_);subst hr;exact wpAny_execs_nil ⟨q,H3,I4,qn⟩
 . refine wpAny_passesOwn hp (thn (T.item X rfl rfl rfl hc i pins s3 q H3 X.xe I3 (c p) t go) fun r s4 ⟨u,hr,h4⟩=>?_);subst hr;refine wpAny_passesOwn hp (thn h4 fun _ s5 ⟨x,H5,I5,r5,y5,l,au⟩=>?_);have z:=I5.pinned (c au) (T.obj _ _ l);refine wpAny_passesOwn hp (thn (hg _ s5 q H5 x u _ z r5 (step x H5 y5)) fun _ s6 ⟨σ6,H6,I6,q6⟩=>?_);refine wpAny_passesOwn hp (thn (hb _ s6 σ6 H6 _ I6 q6) fun f s7 k=>?_)
   have again:∀ {a:St} {H7:Hp},Inv X (pins++dF fp s5.heap) a H7 s7->N a H7->∃m,m < n/\∃i σ' H',Inv X pins σ' H' s7/\tn i s7.heap/\(∀b∈fp,H' b=none)/\W i m σ' H':=fun{a H7} j n7=>by
    obtain⟨m',hm,w7⟩:=hN a H7 n7;refine⟨m',hm,i+1,a,H7,j.unpinned,T.keep _ _ _ l fun b hb o e=>(j.pin (b,o) (zR _ (zR _ (aZ hb e)))).1,fun b hb=>?_,w7⟩;obtain⟨o,e,d⟩:=T.obj _ _ l b hb;exact(j.pin (b,o) (zR _ (zR _ (aZ hb e)))).2.1
   cases f with
   |next=>obtain⟨a,H7,j,n7⟩:=k;exact again j n7
   |cont=>obtain⟨a,H7,j,n7⟩:=k;exact again j n7
   |brk=>obtain⟨a,H7,j,k⟩:=k;exact⟨a,H7,j.unpinned,k⟩
   |ret v=>obtain⟨x7,a,H7,j,r7,k⟩:=k;exact⟨x7,a,H7,j.unpinned,r7,k⟩
end
theorem cE{K:PySem.W.Frag}{a:Addr}{xs:List V}{g:TG}{tb:TS}{D:Ends}{σ:St}{H:Hp}(Pv:Nat->St->Hp->Prop)(h0:Pv 0 σ H)(hl:∀i σ H,i<=xs.length->Pv i σ H->SqL K H a xs)(hs:∀i x σ H,xs[i]?=some x->Pv i σ H->g x σ H fun σ2 H2=>tb {D with nx:=Pv (i+1),ct:=Pv (i+1),bk:=D.nx} σ2 H2)(hd:∀σ H,Pv xs.length σ H->D.nx σ H):
 ∃W:Nat->Nat->St->Hp->Prop,(∃m,W 0 m σ H)/\∀i m σ H,W i m σ H->
  ((Itl K a).stop i H/\D.nx σ H)\/((Itl K a).go i H/\∃N:St->Hp->Prop,(∀σ' H',N σ' H'->∃m',m' < m/\W (i+1) m' σ' H')/\∀x H',(Itl K a).yld i H x H'->g x σ H' fun σ2 H2=>tb {D with nx:=N,ct:=N,bk:=D.nx} σ2 H2):=by
 refine⟨fun i m σ H=>m=xs.length - i/\i<=xs.length/\Pv i σ H,⟨xs.length,by simp,zY _,h0⟩,?_⟩
 rintro i m σ H ⟨rfl,hi,p⟩;have q:=hl i σ H hi p;by_cases b:i < xs.length
 . refine .inr ⟨⟨xs,xs[i],q,by simp[b]⟩,Pv (i+1),fun σ' H' c=>⟨xs.length - (i+1),by omega,rfl,b,c⟩,fun x H' y=>?_⟩
   obtain⟨e,y⟩:=y;subst e;exact hs i x σ _ (y xs q) p
 . have e:i=xs.length:=by omega
   subst e;exact .inl ⟨⟨xs,q,zu _⟩,hd σ H p⟩
theorem jQ{K:PySem.W.Frag}{a:Addr}{xs:List V}{g:TG}{tb:TS}{D:Ends}{σ:St}{H:Hp}(Pv:Nat->St->Hp->Prop)(h0:Pv 0 σ H)(hl:∀i σ H,i<=xs.length->Pv i σ H->SqT K H a xs)(hs:∀i x σ H,xs[i]?=some x->Pv i σ H->g x σ H fun σ2 H2=>tb {D with nx:=Pv (i+1),ct:=Pv (i+1),bk:=D.nx} σ2 H2)(hd:∀σ H,Pv xs.length σ H->D.nx σ H):
 ∃W:Nat->Nat->St->Hp->Prop,(∃m,W 0 m σ H)/\∀i m σ H,W i m σ H->
  ((Itt K a).stop i H/\D.nx σ H)\/((Itt K a).go i H/\∃N:St->Hp->Prop,(∀σ' H',N σ' H'->∃m',m' < m/\W (i+1) m' σ' H')/\∀x H',(Itt K a).yld i H x H'->g x σ H' fun σ2 H2=>tb {D with nx:=N,ct:=N,bk:=D.nx} σ2 H2):=by
 refine⟨fun i m σ H=>m=xs.length - i/\i<=xs.length/\Pv i σ H,⟨xs.length,by simp,zY _,h0⟩,?_⟩
 rintro i m σ H ⟨rfl,hi,p⟩;have q:=hl i σ H hi p;by_cases b:i < xs.length
 . refine .inr ⟨⟨xs,xs[i],q,by simp[b]⟩,Pv (i+1),fun σ' H' c=>⟨xs.length - (i+1),by omega,rfl,b,c⟩,fun x H' y=>?_⟩
   obtain⟨e,y⟩:=y;subst e;exact hs i x σ _ (y xs q) p
 . have e:i=xs.length:=by omega
   subst e;exact .inl ⟨⟨xs,q,zu _⟩,hd σ H p⟩
theorem e6{lo:Int}{n:Nat}{g:TG}{tb:TS}{D:Ends}{σ:St}{H:Hp}(Pv:Nat->St->Hp->Prop)(h0:Pv 0 σ H)(hs:∀i σ H,i < n->Pv i σ H->g (.int (lo+i)) σ H fun σ2 H2=>tb {D with nx:=Pv (i+1),ct:=Pv (i+1),bk:=D.nx} σ2 H2)(hd:∀σ H,Pv n σ H->D.nx σ H):
 ∃W:Nat->Nat->St->Hp->Prop,(∃m,W 0 m σ H)/\∀i m σ H,W i m σ H->
  ((Itr lo n).stop i H/\D.nx σ H)\/((Itr lo n).go i H/\∃N:St->Hp->Prop,(∀σ' H',N σ' H'->∃m',m' < m/\W (i+1) m' σ' H')/\∀x H',(Itr lo n).yld i H x H'->g x σ H' fun σ2 H2=>tb {D with nx:=N,ct:=N,bk:=D.nx} σ2 H2):=by
 refine⟨fun i m σ H=>m=n - i/\i<=n/\Pv i σ H,⟨n,by simp,zY _,h0⟩,?_⟩
 rintro i m σ H ⟨rfl,hi,p⟩;by_cases a:i < n
 . refine .inr ⟨a,Pv (i+1),fun σ' H' b=>⟨n - (i+1),by omega,rfl,a,b⟩,fun x H' y=>?_⟩
   obtain⟨e,y⟩:=y;subst e y;exact hs i σ _ a p
 . have e:i=n:=by omega
   subst e;exact .inl ⟨zu _,hd σ H p⟩
theorem k8{c:TT}{tb:TS}{D:Ends}{σ:St}{H:Hp}(Pv:St->Hp->Prop)(μ:St->Hp->Nat)(h0:Pv σ H)(hs:∀σ H,Pv σ H->c σ H fun b H1=>if b=true then tb {D with nx:=fun σ' H'=>Pv σ' H'/\μ σ' H' < μ σ H,ct:=fun σ' H'=>Pv σ' H'/\μ σ' H' < μ σ H,bk:=D.nx} σ H1 else D.nx σ H1)(mono:∀σ H Q Q',(∀b H1,Q b H1->Q' b H1)->c σ H Q->c σ H Q'):qz c tb D σ H:=by
 refine⟨fun m σ H=>m=μ σ H/\Pv σ H,⟨_,rfl,h0⟩,?_⟩;rintro m σ H ⟨rfl,p⟩;refine mono σ H _ _ (fun b H1 q=>?_) (hs σ H p)
 cases b with
 |true=>exact⟨_,fun σ' H' ⟨a,l⟩=>⟨_,l,rfl,a⟩,q⟩
 |false=>exact q
open PySem PySem.Spec PyProof.Rows
abbrev R2:=V->V->Hp->VK->Prop
def OpR(X:Cx)(f:Value->Value->Sem Value)(r:R2):Prop:=
 ∀(pins:List (Addr×Obj)) (s:Shared) (σ:St) (H:Hp) (x y:V) (v u:Value) (Q:VK),Inv X pins σ H s->RelV x v->RelV y u->r x y H Q->
  wpAny (model X.prog X.w) X.A (f v u) (EP X pins σ Q) X.xe s
def UnR(X:Cx)(f:Value->Sem Value)(r:V->Hp->VK->Prop):Prop:=
 ∀(pins:List (Addr×Obj)) (s:Shared) (σ:St) (H:Hp) (x:V) (v:Value) (Q:VK),Inv X pins σ H s->RelV x v->r x H Q->
  wpAny (model X.prog X.w) X.A (f v) (EP X pins σ Q) X.xe s
def cr(X:Cx)(f:Value)(r:List V->Hp->VK->Prop):Prop:=
 ∀(pins:List (Addr×Obj)) (s:Shared) (σ:St) (H:Hp) (xs:List V) (us:List Value) (Q:VK),Inv X pins σ H s->Vals xs us->r xs H Q->
  wpAny (model X.prog X.w) X.A (call f us) (EP X pins σ Q) X.xe s
def TruR(X:Cx)(r:V->Hp->(Bool->Hp->Prop)->Prop):Prop:=
 ∀(pins:List (Addr×Obj)) (s:Shared) (σ:St) (H:Hp) (x:V) (v:Value) (Q:Bool->Hp->Prop),Inv X pins σ H s->RelV x v->r x H Q->
  wpAny (model X.prog X.w) X.A (truthy v) (TP X pins σ Q) X.xe s
def tOp(r:R2)(ta tb:TE):TE:=fun σ H Q=>ta σ H fun x H1=>tb σ H1 fun y H2=>r x y H2 Q
def tUn(r:V->Hp->VK->Prop)(ta:TE):TE:=fun σ H Q=>ta σ H fun x H1=>r x H1 Q
def rI(C:Int->Int->Prop)(g:Int->Int->V):R2:=fun x y H Q=>∃i j,x= .int i/\y= .int j/\C i j/\Q (g i j) H
def rI0(g:Int->Int->V):R2:=fun x y H Q=>∃i j,x= .int i/\y= .int j/\Q (g i j) H
def rU(g:Int->V):V->Hp->VK->Prop:=fun x H Q=>∃i,x= .int i/\Q (g i) H
section
variable{X:Cx}{a b c:Expr}{ta tb tc:TE}{pos:Pos}
theorem binT(ha:PE X a ta)(hb:PE X b tb){pins:List (Addr×Obj)}{s:Shared}{σ:St}{H:Hp}{R:V->V->Hp->Prop}(I:Inv X pins σ H s)(h:ta σ H fun x H1=>tb σ H1 fun y H2=>R x y H2){Q:Value->Shared->Prop}{f:Value->Value->Sem Value}(hf:∀v u s2 x y H2,Inv X pins σ H2 s2->RelV x v->RelV y u->R x y H2->wpAny (model X.prog X.w) X.A (f v u) Q X.xe s2):
 wpAny (model X.prog X.w) X.A (eval a X.env) (fun v s₁=>wpAny (model X.prog X.w) X.A (eval b X.env) (fun u s₂=>wpAny (model X.prog X.w) X.A (f v u) Q X.xe s₂) X.xe s₁) X.xe s:=by
 refine thn (ha pins s σ H _ I h) fun v s1 ⟨x,H1,e,r1,g⟩=>?_;refine thn (hb pins s1 σ H1 _ e g) fun u s2 ⟨y,H2,d,r2,c⟩=>?_;exact hf v u s2 x y H2 d r1 r2 c
theorem am{op:Operator}{r:R2}(ho:OpR X (binaryOp op) r)(ha:PE X a ta)(hb:PE X b tb):PE X (.BinOp a op b pos) (tOp r ta tb):=by
 intro pins s σ H Q I h;exact wpAny_BinOp (binT ha hb I h fun v u f x y H2 e d c q=>ho pins f σ H2 x y v u Q e d c q)
theorem c9{op:UnaryOp}{r:V->Hp->VK->Prop}(ho:UnR X (unaryOp op) r)(ha:PE X a ta):PE X (.UnaryOp op a pos) (tUn r ta):=by
 intro pins s σ H Q I h;exact UnaryOp_ (thn (ha pins s σ H _ I h) fun v s1 ⟨x,H1,b,r1,c⟩=>ho pins s1 σ H1 x v Q b r1 c)
theorem opI{f:Value->Value->Sem Value}{C:Int->Int->Prop}{g:Int->Int->Int}(rule:∀(i j:Int) (t u:Tok) (s:Shared) (Q:Value->Shared->Prop) (E:Value->Shared->Prop),C i j->Q (.int (g i j) s.toks) {s with toks:=s.toks+1}->wpAny (model X.prog X.w) X.A (f (.int i t) (.int j u)) Q E s):
 OpR X f (rI C fun i j=> .int (g i j)):=by
 intro pins s σ H x y v u Q I b a h;obtain⟨i,j,rfl,rfl,hc,q⟩:=h;obtain⟨t,rfl⟩:=b;obtain⟨t',rfl⟩:=a;exact rule i j t t' s _ _ hc ⟨.int (g i j),H,I.tok _,⟨_,rfl⟩,q⟩
theorem opI0{f:Value->Value->Sem Value}{g:Int->Int->Int}(rule:∀(i j:Int) (t u:Tok) (s:Shared) (Q:Value->Shared->Prop) (E:Value->Shared->Prop),Q (.int (g i j) s.toks) {s with toks:=s.toks+1}->wpAny (model X.prog X.w) X.A (f (.int i t) (.int j u)) Q E s):
 OpR X f (rI0 fun i j=> .int (g i j)):=by
 intro pins s σ H x y v u Q I b a h;obtain⟨i,j,rfl,rfl,q⟩:=h;obtain⟨t,rfl⟩:=b;obtain⟨t',rfl⟩:=a;exact rule i j t t' s _ _ ⟨.int (g i j),H,I.tok _,⟨_,rfl⟩,q⟩
theorem opB0{f:Value->Value->Sem Value}{g:Int->Int->Bool}(rule:∀(i j:Int) (t u:Tok) (s:Shared) (Q:Value->Shared->Prop) (E:Value->Shared->Prop),Q (.bool (g i j)) s->wpAny (model X.prog X.w) X.A (f (.int i t) (.int j u)) Q E s):
 OpR X f (rI0 fun i j=> .bl (g i j)):=by
 intro pins s σ H x y v u Q I b a h;obtain⟨i,j,rfl,rfl,q⟩:=h;obtain⟨t,rfl⟩:=b;obtain⟨t',rfl⟩:=a;exact rule i j t t' s _ _ ⟨.bl (g i j),H,I,rfl,q⟩
def CDiv(i j:Int):Prop:=0 < j/\j < 1073741824
def CMul(i j:Int):Prop:=(-(2^64) < i/\i < 2^64)\/(-(2^64) < j/\j < 2^64)
theorem CMul.ok{i j:Int}(h:CMul i j):IntMulOk i j:=by
 rcases h with⟨h1,h2⟩|⟨h1,h2⟩
 . exact .of_left (intBits_le_64 h1 h2)
 . exact .of_right (intBits_le_64 h1 h2)
theorem lK(k:Nat):(0:Int)<=2^k:=by
 rw[two_pow_cast];exact Int.natCast_nonneg _
theorem aY:OpR X (binaryOp .Add) (rI0 fun i j=> .int (i+j)):=opI0 fun _ _ _ _ _ _ _ q=>add_int q
theorem dL:OpR X (binaryOp .Sub) (rI0 fun i j=> .int (i - j)):=opI0 fun _ _ _ _ _ _ _ q=>sub_int q
theorem fm:OpR X (binaryOp .Mult) (rI CMul fun i j=> .int (i*j)):=opI fun _ _ _ _ _ _ _ hc q=>mul_int q hc.ok
theorem vj:OpR X (binaryOp .FloorDiv) (rI CDiv fun i j=> .int (i / j)):=opI fun i j _ _ _ _ _ hc q=>by
 have h1:(0:Int) < j:=hc.1;have h2:j < 1073741824:=hc.2;exact floordiv_int (by omega) (by rw[Am i (by omega)];exact q) (.inl (PyProof.noPylong_small (by omega)))
theorem di:OpR X (binaryOp .Mod) (rI (fun _ j=>0 < j) fun i j=> .int (i%j)):=opI fun i j _ _ _ _ _ hc q=>by
 have h1:(0:Int) < j:=hc;exact mod_int' (by omega) (by rw[Int.fmod_eq_emod_of_nonneg i (by omega)];exact q)
theorem vi:OpR X (binaryOp .Mod) (rI (fun _ j=>j≠0) fun i j=> .int (i.fmod j)):=opI fun _ _ _ _ _ _ _ hc q=>mod_int' hc q
theorem wQ:OpR X (binaryOp .RShift) (rI (fun _ j=>0<=j) fun i j=> .int (i / 2^j.toNat)):=opI fun i j _ _ _ _ _ hc q=>
 rshift_int hc (by rw[Am i (lK _)];exact q)
theorem unI{f:Value->Sem Value}{g:Int->Int}(rule:∀(i:Int) (t:Tok) (s:Shared) (Q:Value->Shared->Prop) (E:Value->Shared->Prop),Q (.int (g i) s.toks) {s with toks:=s.toks+1}->wpAny (model X.prog X.w) X.A (f (.int i t)) Q E s):
 UnR X f (rU fun i=> .int (g i)):=by
 intro pins s σ H x v Q I a h;obtain⟨i,rfl,q⟩:=h;obtain⟨t,rfl⟩:=a;exact rule i t s _ _ ⟨.int (g i),H,I.tok _,⟨_,rfl⟩,q⟩
theorem bu:UnR X (unaryOp .USub) (rU fun i=> .int (-i)):=unI fun _ _ _ _ _ q=>neg_int q
end
noncomputable def scal:V->V->Bool
 | .non, .non=>true| .non, .int _=>true| .int _, .non=>true| .non, .bl _=>true| .bl _, .non=>true| .non, .str _=>true| .str _, .non=>true
 | .int _, .int _=>true| .bl _, .bl _=>true| .str _, .str _=>true| .byt _, .byt _=>true
 | .int _, .str _=>true| .str _, .int _=>true| .bl _, .str _=>true| .str _, .bl _=>true
 |_,_=>false
def rEq:R2:=fun x y H Q=>scal x y=true/\Q (.bl (decide (x=y))) H
def rNe:R2:=fun x y H Q=>scal x y=true/\Q (.bl (!decide (x=y))) H
theorem ot{i j:Int}:decide (V.int i=V.int j)=(i==j):=by
 rw[AW];simp
theorem uc{i j:Bool}:decide (V.bl i=V.bl j)=(i==j):=by
 rw[AW];simp
theorem or{i j:Str}:decide (V.str i=V.str j)=(i==j):=by
 rw[AW];simp
theorem ou{i j:Array UInt8}:decide (V.byt i=V.byt j)=(i.toList==j.toList):=by
 rw[AW];cases i;cases j;simp
section
variable{X:Cx}{a b c:Expr}{ta tb tc:TE}{pos:Pos}
theorem aK{pins:List (Addr×Obj)}{σ:St}{H:Hp}{s:Shared}{Q:VK}{k k':Bool}(I:Inv X pins σ H s)(q:Q (.bl k) H)(e:k=k'):EP X pins σ Q (.bool k') s:=by
 subst e;exact⟨.bl k,H,I,rfl,q⟩
theorem dy:OpR X (compareOp .Eq) rEq:=by
 intro pins s σ H x y v u Q I b a h;obtain⟨hs,q⟩:=h
 cases x with
 |non=>
  cases b
  cases y with
  |non=>cases a;exact PySem.EqNone.eq_none_none (aK I q (by simp))
  |bl j=>cases a;exact PySem.EqNone.eq_none_bool (aK I q (by simp))
  |int j=>obtain⟨t',rfl⟩:=a;exact PySem.EqNone.eq_none_int (aK I q (by simp))
  |str j=>obtain⟨t',rfl⟩:=a;exact PySem.EqNone.eq_none_str (aK I q (by simp))
  |_=>exact absurd (show false=true from hs) zX
 |bl i=>
  cases b
  cases y with
  |non=>cases a;exact PySem.EqNone.eq_bool_none (aK I q (by simp))
  |bl j=>cases a;exact eq_bool (aK I q uc)
  |str j=>obtain⟨t',rfl⟩:=a;exact PySem.EqMixed.eq_bool_str (aK I q (by simp))
  |_=>exact absurd (show false=true from hs) zX
 |int i=>
  obtain⟨t,rfl⟩:=b
  cases y with
  |non=>cases a;exact PySem.EqNone.eq_int_none (aK I q (by simp))
  |int j=>obtain⟨t',rfl⟩:=a;exact eq_int (aK I q ot)
  |str j=>obtain⟨t',rfl⟩:=a;exact PySem.EqMixed.eq_int_str (aK I q (by simp))
  |_=>exact absurd (show false=true from hs) zX
 |str i=>
  obtain⟨t,rfl⟩:=b
  cases y with
  |non=>cases a;exact PySem.EqNone.eq_str_none (aK I q (by simp))
  |bl j=>cases a;exact PySem.EqMixed.eq_str_bool (aK I q (by simp))
  |int j=>obtain⟨t',rfl⟩:=a;exact PySem.EqMixed.eq_str_int (aK I q (by simp))
  |str j=>obtain⟨t',rfl⟩:=a;exact eq_str (aK I q or)
  |_=>exact absurd (show false=true from hs) zX
 |byt i=>
  obtain⟨t,rfl⟩:=b
  cases y with
  |byt j=>obtain⟨t',rfl⟩:=a;exact PySem.W.eq_bytes (aK I q ou)
  |_=>exact absurd (show false=true from hs) zX
 |_=>cases y<;>exact absurd (show false=true from hs) zX
theorem iP:OpR X (compareOp .NotEq) rNe:=by
 intro pins s σ H x y v u Q I b a h;obtain⟨hs,q⟩:=h
 cases x with
 |non=>
  cases b
  cases y with
  |non=>cases a;exact PySem.EqNone.ne_none_none (aK I q (by simp))
  |bl j=>cases a;exact PySem.EqNone.ne_none_bool (aK I q (by simp))
  |int j=>obtain⟨t',rfl⟩:=a;exact PySem.EqNone.ne_none_int (aK I q (by simp))
  |str j=>obtain⟨t',rfl⟩:=a;exact PySem.EqNone.ne_none_str (aK I q (by simp))
  |_=>exact absurd (show false=true from hs) zX
 |bl i=>
  cases b
  cases y with
  |non=>cases a;exact PySem.EqNone.ne_bool_none (aK I q (by simp))
  |bl j=>cases a;exact ne_bool (aK I q (congrArg not uc))
  |str j=>obtain⟨t',rfl⟩:=a;exact PySem.EqMixed.ne_bool_str (aK I q (by simp))
  |_=>exact absurd (show false=true from hs) zX
 |int i=>
  obtain⟨t,rfl⟩:=b
  cases y with
  |non=>cases a;exact PySem.EqNone.ne_int_none (aK I q (by simp))
  |int j=>obtain⟨t',rfl⟩:=a;exact ne_int (aK I q (congrArg not ot))
  |str j=>obtain⟨t',rfl⟩:=a;exact PySem.EqMixed.ne_int_str (aK I q (by simp))
  |_=>exact absurd (show false=true from hs) zX
 |str i=>
  obtain⟨t,rfl⟩:=b
  cases y with
  |non=>cases a;exact PySem.EqNone.ne_str_none (aK I q (by simp))
  |bl j=>cases a;exact PySem.EqMixed.ne_str_bool (aK I q (by simp))
  |int j=>obtain⟨t',rfl⟩:=a;exact PySem.EqMixed.ne_str_int (aK I q (by simp))
  |str j=>obtain⟨t',rfl⟩:=a;exact ne_str (aK I q (congrArg not or))
  |_=>exact absurd (show false=true from hs) zX
 |byt i=>
  obtain⟨t,rfl⟩:=b
  cases y with
  |byt j=>obtain⟨t',rfl⟩:=a;exact PySem.W.ne_bytes (aK I q (congrArg not ou))
  |_=>exact absurd (show false=true from hs) zX
 |_=>cases y<;>exact absurd (show false=true from hs) zX
theorem iQ:OpR X (compareOp .Lt) (rI0 fun i j=> .bl (decide (i < j))):=opB0 fun _ _ _ _ _ _ _ q=>lt_int q
theorem yT:OpR X (compareOp .LtE) (rI0 fun i j=> .bl (decide (i<=j))):=opB0 fun _ _ _ _ _ _ _ q=>le_int q
theorem dc:OpR X (compareOp .Gt) (rI0 fun i j=> .bl (decide (j < i))):=opB0 fun _ _ _ _ _ _ _ q=>gt_int q
theorem yU:OpR X (compareOp .GtE) (rI0 fun i j=> .bl (decide (j<=i))):=opB0 fun _ _ _ _ _ _ _ q=>ge_int q
theorem sL:OpR X (compareOp .Is) (fun x y H Q=>y= .non/\Q (.bl (decide (x= .non))) H):=by
 intro pins s σ H x y v u Q I a b h;obtain⟨rfl,q⟩:=h;cases b;refine is_none_gen (aK I q ?_)
 cases x<;>first
  |(cases a;rfl)
  |(obtain⟨t,rfl⟩:=a;rfl)
theorem ay(b:Expr){op:CmpOp}(h:op≠ .In:=by decide)(h2:op≠ .NotIn:=by decide):behindInMarks op b=false:=by
 have e1:(op==CmpOp.In)=false:=by cases op<;>first|rfl|exact absurd rfl h
 have a:(op==CmpOp.NotIn)=false:=by cases op<;>first|rfl|exact absurd rfl h2
 cases b<;>simp[behindInMarks,e1,a]
theorem dY{op:CmpOp}{r:R2}(ho:OpR X (compareOp op) r)(ha:PE X a ta)(hb:PE X b tb)(hm:behindInMarks op b=false):PE X (.Compare a [op] [b] pos) (tOp r ta tb):=by
 intro pins s σ H Q I h;exact wpAny_Compare1 (binT ha hb I h fun v u f x y H2 e d c q=>ho pins f σ H2 x y v u Q e d c q) hm
def mW(t:TE):TT:=fun σ H Q=>t σ H fun x H'=>∃k,x= .bl k/\Q k H'
theorem aw{op:CmpOp}{r:R2}(ho:OpR X (compareOp op) r)(ha:PE X a ta)(hb:PE X b tb)(hm:behindInMarks op b=false):PT X (.Compare a [op] [b] pos) (mW (tOp r ta tb)):=by
 intro pins s σ H Q I h
 refine wpAny_isTrue_Compare1 (thn (ha pins s σ H _ I h) fun v s1 ⟨x,H1,g,r1,l⟩=>thn (hb pins s1 σ H1 _ g l) fun u n ⟨y,H2,d,r2,j⟩=>
  thn (ho pins n σ H2 x y v u _ d r1 r2 j) fun c o ⟨z,H3,i,f,k,e,m⟩=>?_) hm
 subst e;cases f;exact wpAny_truthy_bool ⟨H3,i,m⟩
def wE(r r':R2)(ta tb tc:TE):TE:=fun σ H Q=>ta σ H fun x H1=>tb σ H1 fun y H2=>r x y H2 fun z H3=>∃k,z= .bl k/\
 (if k=true then tc σ H3 fun w' H4=>r' y w' H4 Q else Q (.bl false) H3)
theorem rX{op op':CmpOp}{r r':R2}(ho:OpR X (compareOp op) r)(ho':OpR X (compareOp op') r')(ha:PE X a ta)(hb:PE X b tb)(hc:PE X c tc)(hm:lastMarks [op,op'] [b,c]=false:=by with_unfolding_all rfl):PT X (.Compare a [op,op'] [b,c] pos) (mW (wE r r' ta tb tc)):=by
 intro pins s σ H Q I h
 refine isTrue_chain (thn (ha pins s σ H _ I h) fun v s1 ⟨x,H1,l,r1,w⟩=>test_link (thn (hb pins s1 σ H1 _ l w) fun u s2 ⟨y,H2,i,r2,o⟩=>
  thn (ho pins s2 σ H2 x y v u _ i r1 r2 o) fun d s3 ⟨z,H3,f,j,k,e,g⟩=>?_)) hm
 subst e;cases j;refine wpAny_truthy_bool ?_
 cases k with
 |false=>
  obtain⟨k',e',t⟩:=g;cases e';exact ite_ff ⟨H3,f,t⟩
 |true=>
  refine ite_tt (test_last (thn (hc pins s3 σ H3 _ f g) fun w' s4 ⟨z',H4,I4,r4,q4⟩=>thn (ho' pins s4 σ H4 y z' u w' _ I4 r2 r4 q4) fun d' s5 ⟨z2,H5,m,p,k2,n,q⟩=>?_));subst n;cases p;exact wpAny_truthy_bool ⟨H5,m,q⟩
def TruV(K:PySem.W.Frag)(x:V)(H:Hp)(k:Bool):Prop:=
 match x with
 | .non=>k=false
 | .bl b=>k=b
 | .int i=>k=(i !=0)
 | .str y=>y.length<=sizeLine/\k=((y.length:Int) !=0)
 | .byt y=>y.size<=sizeLine/\k=((y.size:Int) !=0)
 | .ref p=>(∃xs,SqL K H p xs/\k= !xs.isEmpty)\/(∃xs,SqT K H p xs/\k= !xs.isEmpty)\/∃kvs,H p=some (.dK kvs)/\k= !kvs.isEmpty
 |_=>False
theorem mE{κ:Type}{kvs:List (κ×V)}{vs:List (κ×Value)}(r:KV kvs vs):(!vs.isEmpty)= !kvs.isEmpty:=by
 cases r<;>rfl
theorem ie{xs:List V}{its:List Value}(r:Vals xs its):(!its.toArray.isEmpty)= !xs.isEmpty:=by
 cases r<;>simp
theorem ft:(sizeLine:Nat) < 2^63:=by rw[sizeLine_eq];decide
theorem ww:TruR X (fun x H Q=>∃k,TruV X.K x H k/\Q k H):=by
 intro pins s σ H x v Q I c h;obtain⟨k,e,q⟩:=h;have hl:=ft;have hs:sizeLine=16777216:=sizeLine_eq
 cases x with
 |non=>
  cases c;have e':k=false:=e;subst e';exact truthy_none ⟨H,I,q⟩
 |bl b=>
  cases c;have e':k=b:=e;subst e';exact wpAny_truthy_bool ⟨H,I,q⟩
 |int i=>
  obtain⟨t,rfl⟩:=c;have e':k=(i !=0):=e;subst e';exact PySem.P.truthy_int ⟨H,I,q⟩
 |str y=>
  obtain⟨t,rfl⟩:=c;obtain⟨hy,e'⟩:y.length<=sizeLine/\k=((y.length:Int) !=0):=e;subst e';exact PySem.P.truthy_str (by omega) ⟨H,I.tok _,q⟩
 |byt y=>
  obtain⟨t,rfl⟩:=c;obtain⟨hy,e'⟩:y.size<=sizeLine/\k=((y.size:Int) !=0):=e;subst e';exact PySem.W.truthy_bytes (by omega) ⟨H,I.tok _,q⟩
 |ref p=>
  cases c;have e':(∃xs,SqL X.K H p xs/\k= !xs.isEmpty)\/(∃xs,SqT X.K H p xs/\k= !xs.isEmpty)\/∃kvs,H p=some (.dK kvs)/\k= !kvs.isEmpty:=e;rcases e' with⟨xs,hx,e'⟩|⟨xs,hx,e'⟩|⟨kvs,hx,e'⟩
  . subst e';obtain⟨its,r,pl,hz⟩:=I.list hx;have a:=r.length;exact wpAny_truthy_list pl.isList (by simp only[zx];omega) ⟨H,I.tok _,by rw[ie r];exact q⟩
  . subst e';obtain⟨its,r,pl,hz⟩:=I.tuple hx;have a:=r.length;exact truthy_tuple pl (by simp only[zx];omega) ⟨H,I.tok _,by rw[ie r];exact q⟩
  . subst e';obtain⟨hz,d,vs,r,m⟩:kvs.length<=sizeLine/\(p==sysModules)=false/\∃vs,KV kvs vs/\s.heap.DictOf (aM X.prog X.w) p vs:=I.hok p _ hx;have a:kvs.length=vs.length:=Paired.length r;exact wpAny_truthy_dict d m (by omega) ⟨H,I.tok _,by rw[mE r];exact q⟩
 |_=>exact(show False from e).elim
theorem rV(ha:PE X a ta)(he:∀whole,isTrue a X.env whole=(do let v<-whole;standAt a.pos;holding [v] (truthy v))):
 PT X a (fun σ H Q=>ta σ H fun x H'=>∃k,TruV X.K x H' k/\Q k H'):=by
 intro pins s σ H Q I h;exact isTrue_plain (thn (ha pins s σ H _ I h) fun v s1 ⟨x,H1,b,r1,c⟩=>ww pins s1 σ H1 x v Q b r1 c) (he _)
theorem gZ:OpR X (binaryOp .Add) (fun x y H Q=>∃i j,x= .str i/\y= .str j/\i.length+j.length<=sizeLine/\Q (.str (i++j)) H):=by
 intro pins s σ H x y v u Q I b a h;obtain⟨i,j,rfl,rfl,hz,q⟩:=h;obtain⟨t,rfl⟩:=b;obtain⟨t',rfl⟩:=a;exact add_str (fun t' tk=>⟨.str (i++j),H,I.tok _,⟨_,rfl⟩,q⟩) hz
theorem dw{x:V}{us:List Value}(r:Vals [x] us):∃u,us= [u]/\RelV x u:=by
 cases r with
 |cons r1 r2=>cases r2;exact⟨_,rfl,r1⟩
theorem iq:cr X (.builtin "abs") (fun xs H Q=>∃i,xs= [.int i]/\Q (.int (if i < 0 then -i else i)) H):=by
 intro pins s σ H xs us Q I r h;obtain⟨i,rfl,q⟩:=h;obtain⟨u,rfl,t,rfl⟩:=dw r;exact call_abs_int fun u tk=>⟨.int (if i < 0 then -i else i),H,I.tok _,⟨_,rfl⟩,q⟩
end
open PySem PySem.Spec PyProof.Rows
structure ObjM (h:Heap) (x dx C:Addr) (mA:Str->Option Value):Prop where
 obj:h.get? x=some (PySem.W.instObj C dx)
 ns:h.Ns1 dx mA
 ne:dx≠x
theorem p7{h:Heap}{dx:Addr}{mA:Str->Option Value}(n:h.Ns1 dx mA):∃od,h.get? dx=some od/\∀name,PySem.W.lookIn name od=some (mA name):=by
 obtain⟨o,es,ep,ho,hd,hk,_,hm⟩:=n;refine⟨o,ho,fun name=>?_⟩;have e:=hm name;unfold nsFind findBy at e;rw[<-Array.find?_toList]at e;unfold PySem.W.lookIn;rw[hd];dsimp only;split
 . rename_i y q;rw[q]at e;exact congrArg some e
 . rename_i q;rw[q]at e
   have a:es.toList.any (·.refKey)=false:=by
    rw[List.any_eq_false];intro y hy;obtain⟨z,t,b⟩:=hk y (Array.mem_toList_iff.mp hy);simp[DictEntry.refKey,b]
   have c:¬es.toList.any (·.refKey)=true:=by rw[a];exact zX
   rw[if_neg c];exact congrArg some e
theorem ObjM.look{h:Heap}{x dx C:Addr}{mA:Str->Option Value}(I:ObjM h x dx C mA):∃od,PySem.W.InstAt h x (PySem.W.instObj C dx) C (some od)/\∀name,PySem.W.lookIn name od=some (mA name):=
 let ⟨od,ho,hl⟩:=p7 I.ns
 ⟨od,⟨I.obj,rfl,rfl,ho⟩,hl⟩
section
variable{prog:Program}{w:World}{A:Around}{E:Value->Shared->Prop}{s:Shared}{K:PySem.W.Frag}{x dx C f:Addr}{mA:Str->Option Value}{name:Str}{v:Value}
theorem vH{expr:Bool}{Q:Value->Shared->Prop}(X:K.In s.heap)(I:ObjM s.heap x dx C mA)(hg:PySem.W.plainGet K C name=true)(hh:PySem.W.hasDictIn K C=true)(ha:PySem.W.findIn K (.ref C) name=some none)(hv:mA name=some v)(hv':PySem.W.handedIn v=true)(h:Q v {s with toks:=s.toks+1}):
 wpAny (model prog w) A (getAttr (.ref x) name expr) Q E s:=by
 obtain⟨a,J,hl⟩:=I.look;exact PySem.W.get_value X J (PySem.W.plainGet_of hg).1 (PySem.W.findObj_own hh ha rfl (by rw[hl,hv])) hv' h
theorem uP{ns:List Str}{Q:Unit->Shared->Prop}(X:K.In s.heap)(I:ObjM s.heap x dx C mA)(hs:PySem.W.findIn K (.ref C) "__setattr__"=some (some (.builtin "object.__setattr__")))(hp:PySem.W.plainOver K C=true)(ht:PySem.W.takerIn K C name=some none)(hh:PySem.W.hasDictIn K C=true)(hw:PySem.Within mA ns)(hsz:ns.length<=sizeLine)(h:∀h',ObjM h' x dx C (fun y=>if y=name then some v else mA y)->Heap.SameBut dx s.heap h'->Q () {s with heap:=h',toks:=s.toks+2}):
 wpAny (model prog w) A (setAttr (.ref x) name v) Q E s:=by
 obtain⟨n,J,hl⟩:=I.look;refine PySem.W.set_plain X J hs (PySem.W.osa_open (s:= {s with toks:=s.toks+1}) (r:=none) X J hp ht fun b=>?_);obtain⟨l,hc,i⟩:=PySem.W.any_some hh;have hx:s.heap.get? x=some ⟨.ref C,some dx, .plain, #[]⟩:=I.obj;refine wpAny_bind (wpAny_pure (wpAny_bind (wpAny_bind (wpAny_loadPart hx (wpAny_bind (PySem.W.Looks.here (s:= {s with toks:=s.toks+1}) (PySem.W.looks_clsIn X hc) ?_))))));rw[i];refine wpAny_pure (a:=some dx) (wpAny_bind (wpAny_pure (wpAny_bind ?_)));refine wpAny_nsSet1 (s:= {s with toks:=s.toks+1}) I.ns fun h' c d=>?_;refine hZq fun q_ e_=>?_;obtain⟨m,j,k,g,f,e⟩:=c.count (PySem.Within.cons name v hw);subst e_;refine wpAny_bind (wpAny_lookBehind g (by rw[f];exact pastItsLine_dict (zK e (by rw[zV];omega))) ?_)
 exact wpAny_pure (h _ ⟨(d.2 _ (Ne.symm I.ne)).trans I.obj,c,I.ne⟩ d)
theorem sX{R:Result->Shared->Prop}{vs:List Value}{kw:List (Str×Value)}(X:K.In s.heap)(hm:PySem.W.makesIn K C=true)(hi:PySem.W.findIn K (.ref C) "__init__"=some (some (.ref f)))(hf:PySem.W.typeIn K (.ref f)=some (.type "function"))(h:codeAny (model prog w) (A.under (.builtin "type.__call__" ⟨.ref C::vs,kw⟩)) (.call (.ref f) ⟨.ref (s.heap.objs.size+1)::vs,kw⟩) (PySem.W.InitBack (s.heap.objs.size+1) R)
  {s with heap:=(s.heap.push PySem.W.emptyDict).push (PySem.W.instObj C s.heap.objs.size)}):
 codeAny (model prog w) A (.call (.ref C) ⟨vs,kw⟩) R s:=by
 obtain⟨hh,g,d,t,os⟩:=s;exact PySem.W.make_core (PySem.W.makes_of X hm) (PySem.W.looks_findIn X hi) (fun self=>PySem.W.bind_fn X self hf) (.inl rfl) h
end
noncomputable def putF(f:Str)(v:V):List (Str×V)->List (Str×V)
 | []=> [(f,v)]
 |(g,x)::r=>if g=f then(g,v)::r else(g,x)::putF f v r
theorem fH(f g:Str)(v:V):∀fs:List (Str×V),(putF f v fs).lookup g=if g=f then some v else fs.lookup g
 | []=>by
  show List.lookup g [(f,v)]=_;by_cases h:g=f
  . have hb:(g==f)=true:=beq_iff_eq.mpr h;simp only[List.lookup,hb,if_pos h]
  . have hb:(g==f)=false:=beq_eq_false_iff_ne.mpr h;simp only[List.lookup,hb,if_neg h]
 |(k,x)::r=>by
  have a:=fH f g v r;rw[show putF f v ((k,x)::r)=(if k=f then(k,v)::r else(k,x)::putF f v r)from rfl];by_cases hk:k=f
  . rw[if_pos hk];by_cases h:g=k
    . have hb:(g==k)=true:=beq_iff_eq.mpr h;simp only[List.lookup,hb,if_pos (h.trans hk)]
    . have hb:(g==k)=false:=beq_eq_false_iff_ne.mpr h;simp only[List.lookup,hb,if_neg (fun e:g=f=>h (e.trans hk.symm))]
  . rw[if_neg hk];by_cases h:g=k
    . have hb:(g==k)=true:=beq_iff_eq.mpr h;simp only[List.lookup,hb,if_neg (fun e:g=f=>hk (h.symm.trans e))]
    . have hb:(g==k)=false:=beq_eq_false_iff_ne.mpr h;simp only[List.lookup,hb];exact a
theorem fw(f:Str)(v:V):∀fs:List (Str×V),f∈(putF f v fs).map (·.1)/\∀g,g∈fs.map (·.1)->g∈(putF f v fs).map (·.1)
 | []=>⟨by simp[putF],fun g h=>by simp at h⟩
 |(k,x)::r=>by
  obtain⟨i1,i2⟩:=fw f v r;rw[show putF f v ((k,x)::r)=(if k=f then(k,v)::r else(k,x)::putF f v r)from rfl];by_cases hk:k=f
  . rw[if_pos hk];subst hk;exact⟨by simp,fun g h=>by simpa using h⟩
  . rw[if_neg hk];refine⟨?_,fun g h=>?_⟩
    . rw[zU];exact zp _ i1
    . rw[zU]at h ⊢;rcases zJ.mp h with e|e
      . exact zJ.mpr (.inl e)
      . exact zp _ (i2 g e)
theorem fN(f:Str)(v:V):∀fs:List (Str×V),(putF f v fs).length<=fs.length+1
 | []=>by simp[putF]
 |(k,x)::r=>by
  have a:=fN f v r;rw[show putF f v ((k,x)::r)=(if k=f then(k,v)::r else(k,x)::putF f v r)from rfl];by_cases hk:k=f
  . rw[if_pos hk,zV,zV];omega
  . rw[if_neg hk,zV,zV];omega
theorem RelO.some_of{v:V}{o:Option Value}(r:RelO (some v) o):∃u,o=some u/\RelV v u:=by
 cases o with
 |none=>exact(show False from r).elim
 |some u=>exact⟨u,rfl,r⟩
theorem pD{v:V}{u:Value}(r:RelV v u):PySem.W.handedIn u=true:=by
 cases v with
 |non=>cases (show u=Value.none from r);rfl
 |bl b=>cases (show u=Value.bool b from r);rfl
 |int i=>obtain⟨t,e⟩:=(show∃t,u=Value.int i t from r);cases e;rfl
 |str x=>obtain⟨t,e⟩:=(show∃t,u=Value.str x t from r);cases e;rfl
 |byt b=>obtain⟨t,e⟩:=(show∃t,u=Value.bytes b t from r);cases e;rfl
 |flt b=>obtain⟨t,e⟩:=(show∃t,u=Value.float b t from r);cases e;rfl
 |ref a=>cases (show u=Value.ref a from r);rfl
 |ty n=>cases (show u=Value.type n from r);rfl
section
variable{P:Program}{w:World}{H H':Hp}{h h':Heap}{a C dx:Addr}{fs fs':List (Str×V)}
theorem jP(hok:HOk P w H h)(e:H a=some (.ins C dx fs)):∃mA,ObjM h a dx C mA/\(∀f,RelO (fs.lookup f) (mA f))/\PySem.Within mA (fs.map (·.1))/\fs.length<=1000/\H dx=some (.own a):=by
 obtain⟨d,z,ne,ob,mA,n,r,q⟩:=(show ObjOk P w H h a (.ins C dx fs)from hok a _ e);exact⟨mA,⟨ob,n,ne⟩,r,q,z,d⟩
end
structure Cls (K:PySem.W.Frag) (C:Addr):Prop where
 pg:PySem.W.plainGet K C Str.empty=true
 hd:PySem.W.hasDictIn K C=true
 po:PySem.W.plainOver K C=true
 sa:PySem.W.findIn K (.ref C) "__setattr__"=some (some (.builtin "object.__setattr__"))
theorem Cls.get{K:PySem.W.Frag}{C:Addr}(c:Cls K C)(f:Str):PySem.W.plainGet K C f=true:=c.pg
def NoAttr(K:PySem.W.Frag)(C:Addr)(f:Str):Prop:=PySem.W.findIn K (.ref C) f=some none
theorem NoAttr.taker{K:PySem.W.Frag}{C:Addr}{f:Str}(n:NoAttr K C f):PySem.W.takerIn K C f=some none:=by
 unfold PySem.W.takerIn;rw[show PySem.W.findIn K (.ref C) f=some none from n];rfl
section
variable{X:Cx}{pins:List (Addr×Obj)}{σ:St}{H:Hp}{s:Shared}{a C dx:Addr}{fs:List (Str×V)}{f:Str}{v:V}{A:Around}{E:Value->Shared->Prop}
theorem mH{b:Bool}{Q:Value->Shared->Prop}(I:Inv X pins σ H s)(e:H a=some (.ins C dx fs))(c:Cls X.K C)(n:NoAttr X.K C f)(l:fs.lookup f=some v)(h:∀u s',Inv X pins σ H s'->RelV v u->Q u s'):wpAny (model X.prog X.w) A (getAttr (.ref a) f b) Q E s:=by
 obtain⟨mA,O,r,_,_,_⟩:=jP I.hok e;obtain⟨u,hu,d⟩:=RelO.some_of (v:=v) (o:=mA f) (by rw[<-l];exact r f)
 exact vH I.kIn O (c.get f) c.hd n hu (pD d) (h u _ (I.tok _) d)
theorem lW{y:V}{u:Value}{Q:Unit->Shared->Prop}(I:Inv X pins σ H s)(e:H a=some (.ins C dx fs))(c:Cls X.K C)(n:NoAttr X.K C f)(hl:fs.length < 1000)(ry:RelV y u)(h:∀s',Inv X pins σ (upd H a (.ins C dx (putF f y fs))) s'->Q () s'):wpAny (model X.prog X.w) A (setAttr (.ref a) f u) Q E s:=by
 obtain⟨mA,O,r,wi,_,ho⟩:=jP I.hok e;have hz:(fs.map (·.1)).length<=sizeLine:=by rw[zm,sizeLine_eq];omega
 refine uP I.kIn O c.sa c.po n.taker c.hd wi hz fun h' d sb=>h _ ?_;have hd:∃o,h'.get? dx=some o:=let ⟨o,_,_,e',_⟩:=d.ns;⟨o,e'⟩;refine I.write (x:=a) (e:=dx) (by rw[e];exact True.intro) (.inr ho) (fun b q hb z=>(sb.2 b hb).trans z) hd ?_
 refine⟨by rw[ae O.ne];exact ho,?_,O.ne,d.obj,_,d.ns,fun g=>?_,fun g i=>?_⟩
 . have:=fN f y fs;omega
 . show RelO ((putF f y fs).lookup g) (if g=f then some u else mA g);rw[fH];by_cases q:g=f
   . rw[if_pos q,if_pos q];exact ry
   . rw[if_neg q,if_neg q];exact r g
 . by_cases q:g=f
   . rw[q];exact(fw f y fs).1
   . refine(fw f y fs).2 g (wi g fun z=>i ?_);show(if g=f then some u else mA g)=none;rw[if_neg q];exact z
theorem Inv.made(I:Inv X pins σ H s):Inv X pins σ (upd (upd H s.heap.objs.size (.own (s.heap.objs.size+1))) (s.heap.objs.size+1) (.ins C s.heap.objs.size []))
 {s with heap:=(s.heap.push PySem.W.emptyDict).push (PySem.W.instObj C s.heap.objs.size)}:=by
 have e1:(s.heap.push PySem.W.emptyDict).get? s.heap.objs.size=some PySem.W.emptyDict:=Heap.get?_push_size s.heap rfl
 have c:((s.heap.push PySem.W.emptyDict).push (PySem.W.instObj C s.heap.objs.size)).get? (s.heap.objs.size+1)=some (PySem.W.instObj C s.heap.objs.size):=by
  have:=Heap.get?_push_size (s.heap.push PySem.W.emptyDict) (o:=PySem.W.instObj C s.heap.objs.size) rfl
  rwa [Heap.size_push]at this
 have d:(s.heap.push PySem.W.emptyDict).Ns s.heap.objs.size (fun _=>none):=⟨PySem.W.emptyDict, #[],_,e1,rfl,(fun e he=>absurd he (by simp)),fun _=>rfl⟩
 have f:=I.laid (a:=s.heap.objs.size) (o:= .own (s.heap.objs.size+1)) (h':=s.heap.push PySem.W.emptyDict) (t':=s.toks) (fun b u q=>Heap.get?_push_of_some _ q) (zu _) ⟨_,e1⟩;refine f.laid (a:=s.heap.objs.size+1) (o:= .ins C s.heap.objs.size []) (t':=s.toks) (fun b u q=>Heap.get?_push_of_some _ q) (Nat.le_of_eq (Heap.size_push _ _)) ?_;have ne:s.heap.objs.size≠s.heap.objs.size+1:=zO (AK _);refine⟨by rw[ae ne,a8],zY _,ne,c,fun _=>none,(Heap.Ns1.of_empty d).at fun o q=>Heap.get?_push_of_some _ q,fun _=>True.intro,fun y hy=>absurd rfl hy⟩
theorem vQ{prog:Program}{w:World}{env:Env}{e:Expr}{f:Str}{pos:Pos}{s:Shared}{Q:Value->Shared->Prop}(hb:attributeBase e f env (eval e env)=eval e env)(h:wpAny (model prog w) A (eval e env) (fun o s₁=>wpAny (model prog w) A (getAttr o f true) Q E s₁) E s):wpAny (model prog w) A (eval (.Attribute e f pos) env) Q E s:=
 Attribute_any_ h (by rw[arm_eval_Attribute,hb])
end
def tFld(K:PySem.W.Frag)(ta:TE)(f:Str):TE:=fun σ H Q=>ta σ H fun x H1=>∃a C dx fs v,x= .ref a/\H1 a=some (.ins C dx fs)/\Cls K C/\NoAttr K C f/\fs.lookup f=some v/\Q v H1
def sFld(K:PySem.W.Frag)(ta tv:TE)(f:Str):TS:=fun D σ H=>tv σ H fun y H1=>ta σ H1 fun x H2=>∃a C dx fs,x= .ref a/\H2 a=some (.ins C dx fs)/\Cls K C/\NoAttr K C f/\fs.length < 1000/\
 D.nx σ (upd H2 a (.ins C dx (putF f y fs)))
section
variable{X:Cx}{o e value:Expr}{f:Str}{pos pos' tpos:Pos}{ta tv:TE}
theorem aN(he:PE X e ta)(hb:attributeBase e f X.env (eval e X.env)=eval e X.env):PE X (.Attribute e f pos) (tFld X.K ta f):=by
 intro pins s σ H Q I h;refine vQ hb (thn (he pins s σ H _ I h) fun u s1 ⟨x,H1,g,b,a,C,dx,fs,v,ex,j,c,n,l,q⟩=>?_);subst ex;obtain rfl:u=Value.ref a:=b;exact mH g j c n l fun k m d i=>⟨v,H1,d,i,q⟩
theorem dE(ha:PE X o ta)(hv:PE X value tv)(hs:swapsWith value (some (.Attribute o f pos')) pos.line X.env=pure false):PS X (.Assign [.Attribute o f pos'] value pos) (sFld X.K ta tv f):=by
 intro pins s σ H D I h;refine plainObj_wpAny_Assign_Attribute (thn (hv pins s σ H _ I h) fun u s1 ⟨y,H1,g,b,q⟩=>thn (ha pins s1 σ H1 _ g q) fun ov m ⟨x,H2,e,d,a,C,dx,fs,ex,k,c,n,l,j⟩=>?_) hs;subst ex;obtain rfl:ov=Value.ref a:=d;exact lW e k c n l b fun p i=>⟨σ,_,i,j⟩
end
section
variable{X:Cx}{pins:List (Addr×Obj)}{σ:St}{H:Hp}{s:Shared}{A:Around}{E:Value->Shared->Prop}{Q:Value->Shared->Prop}{c:Value}{b:Bool}
inductive TyOf (K:PySem.W.Frag) (H:Hp):V->Value->Prop where
 |non:TyOf K H .non (.type "NoneType")
 |bl (x:Bool):TyOf K H (.bl x) (.type "bool")
 |int (i:Int):TyOf K H (.int i) (.type "int")
 |str (x:Str):TyOf K H (.str x) (.type "str")
 |flt (x:UInt64):TyOf K H (.flt x) (.type "float")
 |lst {a:Addr} {xs:List V} (e:H a=some (.lst xs)):TyOf K H (.ref a) (.type "list")
 |frz {a:Addr} {o:Obj} {xs:List V} (e:H a=some (.frz o (.lst xs))):TyOf K H (.ref a) (.type "list")
 |tup {a:Addr} {xs:List V} (e:H a=some (.tup xs)):TyOf K H (.ref a) (.type "tuple")
 |dK {a:Addr} {kvs:List (Key×V)} (e:H a=some (.dK kvs)):TyOf K H (.ref a) (.type "dict")
 |dT {a:Addr} {kvs:List (List Key×V)} (e:H a=some (.dT kvs)):TyOf K H (.ref a) (.type "dict")
 |ins {a C dx:Addr} {fs:List (Str×V)} (e:H a=some (.ins C dx fs)) (cl:Cls K C) (ha:PySem.W.findIn K (.ref C) "__class__"=some (some (.builtin "object.__class__")))
  (hn:PySem.W.specialIn K (.builtin "object.__class__") "__get__"=some (some (.builtin "getset_descriptor.__get__"))) (htk:PySem.W.takesIn K (.builtin "object.__class__")=some true)
  (hm:PySem.W.mroIn K C (.type "object")=some true):TyOf K H (.ref a) (.ref C)
end
open PySem PySem.Spec PyProof.Rows
structure Room (k:Nat) (A:Around):Prop where
 hd:A.handled=none
 dp:A.depth+3*k+5 < recursionLimit
 un:A.units+16*k+200 < cLine
 gd:A.guards=some []
theorem Room.mono{j k:Nat}{A:Around}(r:Room k A)(h:j<=k):Room j A:=⟨r.hd,by have:=r.dp;omega,by have:=r.un;omega,r.gd⟩
theorem Room.deeper{k:Nat}{A:Around}(r:Room (k+1) A)(env:Env):Room k (A.deeper env):=
 ⟨r.hd,by have:=r.dp;show A.depth+1+3*k+5 < _;omega,by have:=r.un;show A.units+3+16*k+200 < _;omega,by first|exact r.gd|(have:=r.gd;simpa [Around.deeper,Around.under]using this)⟩
theorem me{A:Around}{C:Addr}{us:List Value}{kw:List (Str×Value)}:(A.under (.builtin "type.__call__" ⟨.ref C::us,kw⟩)).depth=A.depth+1:=by
 first|rfl|simp[Around.under,Code.weight,Code.isCreation,Code.isGuard,Code.isCaller,Code.frames,Code.isFrame,guardIds]
theorem md{A:Around}{C:Addr}{us:List Value}{kw:List (Str×Value)}:(A.under (.builtin "type.__call__" ⟨.ref C::us,kw⟩)).units=A.units+1:=by
 first|rfl|simp[Around.under,Code.cUnits,Code.frames,Code.isFrame]
theorem Room.make{k:Nat}{A:Around}(r:Room (k+1) A)(C:Addr)(us:List Value)(kw:List (Str×Value)):Room k (A.under (.builtin "type.__call__" ⟨.ref C::us,kw⟩)):=
 ⟨r.hd,by have:=r.dp;rw[me];omega,by have:=r.un;rw[md];omega,by have:=r.gd;simp[Around.under,Code.guards,Code.isGuard,guardIds,pushGuards,this]⟩
theorem Room.depth{k:Nat}{A:Around}(r:Room k A):A.depth < recursionLimit:=by have:=r.dp;omega
theorem Room.units{k:Nat}{A:Around}(r:Room k A):A.units+64 < cLine:=by have:=r.un;omega
def tNil:TA:=fun _ H Q=>Q [] H
def cW(ta:TE)(tr:TA):TA:=fun σ H Q=>ta σ H fun x H1=>tr σ H1 fun xs H2=>Q (x::xs) H2
section
variable{X:Cx}{e:Expr}{es:List Expr}{te:TE}{t:TA}{pos:Pos}
theorem a9:PA X [] tNil:=fun _ _ _ _ H Q I h=>Calls.spliced_nil ⟨[],H,I, .nil,h⟩
theorem a0(ha:PE X e te)(hr:PA X es t)(hs:starEach (e::es) X.env=(false,eval e X.env)::starEach es X.env:=by rfl):PA X (e::es) (cW te t):=by
 intro pos pins s σ H Q I h;rw[hs];show wpAny _ _ (spliced ((false,eval e X.env)::backTo pos (starEach es X.env))) _ _ s;refine Calls.spliced_cons (thn (ha pins s σ H _ I h) fun u s1 ⟨x,H1,b,r1,d⟩=>?_);exact thn (hr pos pins s1 σ H1 _ b d) fun us f ⟨xs,H2,a,r2,c⟩=>⟨x::xs,H2,a, .cons r1 r2,c⟩
def tTup(t:TA):TE:=fun σ H Q=>t σ H fun xs H1=>xs.length<=sizeLine/\∀p,H1 p=none->Q (.ref p) (upd H1 p (.tup xs))
def tLst(t:TA):TE:=fun σ H Q=>t σ H fun xs H1=>xs.length<=sizeLine/\∀p,H1 p=none->Q (.ref p) (upd H1 p (.lst xs))
theorem aQ{x1}(h:PA X es t):PE X (.Tuple es x1 pos) (tTup t):=by
 intro pins s σ H Q I hq;refine wpAny_Tuple_spliced (thn (h pos pins s σ H _ I hq) fun us s1 ⟨xs,H1,a,r,z,q⟩=>⟨by rw[<-r.length];exact z,?_⟩)
 have c:H1 s1.heap.objs.size=none:=a.hok.fresh (zu _);refine⟨.ref s1.heap.objs.size,upd H1 s1.heap.objs.size (.tup xs),a.laid (t':=s1.toks) (fun b u e=>Heap.get?_push_of_some _ e) (zu _) ?_,rfl,q _ c⟩;exact⟨z,us,r,⟨_,Heap.get?_push_size _ rfl,rfl,_,rfl⟩⟩
theorem bX(h:PA X es t):PE X (.List es pos) (tLst t):=by
 intro pins s σ H Q I hq;refine wpAny_List_spliced (thn (h pos pins s σ H _ I hq) fun us s1 ⟨xs,H1,a,r,z,q⟩=>⟨by rw[<-r.length];exact z,?_⟩)
 have c:H1 s1.heap.objs.size=none:=a.hok.fresh (zu _);refine⟨.ref s1.heap.objs.size,upd H1 s1.heap.objs.size (.lst xs),a.laid (t':=s1.toks) (fun b u e=>Heap.get?_push_of_some _ e) (zu _) ?_,rfl,q _ c⟩;exact⟨z,us,0,r,Heap.get?_push_size _ rfl⟩
end
abbrev Sp:=List V->Hp->VK->XK->Prop
abbrev CXT:=List Env->Hp->Shared->XK->Value->Shared->Prop
structure Env0 (P:Program) (w:World) (K:PySem.W.Frag) (mg:Str->Option Value) (base:Heap) (A:Around) (outer:List Env) (s:Shared) (H:Hp):Prop where
 frames:A.frames=some outer
 mod:Mod K mg base
 bs:∀b o,base.get? b=some o->s.heap.get? b=some o/\Idl (H b)
 bsz:base.objs.size<=s.heap.objs.size
 funs:s.heap.FunFrames base outer
 frf:∀b∈frs outer,H b=none
 hok:HOk P w H s.heap
 bare:AllBare s.gens
def CE(outer:List Env)(P:Program)(w:World)(H:Hp)(s:Shared)(Q:VK)(u:Value)(s':Shared):Prop:=
 ∃v H',s'.os=s.os/\AllBare s'.gens/\Un (frs outer) [] H H' s.heap s'.heap/\HOk P w H' s'.heap/\RelV v u/\Q v H'
def CR(CX:CXT)(outer:List Env)(P:Program)(w:World)(H:Hp)(s:Shared)(Q:VK)(E:XK)(r:Result)(s':Shared):Prop:=
 match r with
 | .ok (.ret u)=>CE outer P w H s Q u s'
 | .ok _=>False
 | .error e=>CX outer H s E e s'
structure FnOk (P:Program) (w:World) (K:PySem.W.Frag) (mg:Str->Option Value) (base:Heap) (CX:CXT) (k:Nat) (f:Addr) (fd:FuncData) (ps:List Str) (sp:Sp):Prop where
 len:∀vs H Q E,sp vs H Q E->vs.length=ps.length
 run:∀(A:Around) (outer:List Env) (s:Shared) (H:Hp) (args:Args) (us:List Value) (vs:List V) (Q:VK) (E:XK),Room k A->Env0 P w K mg base A outer s H->BindsTo s fd args (ps.zip us)->Vals vs us->sp vs H Q E->
  codeAny (model P w) A (.call (.ref f) args) (CR CX outer P w H s Q E) s
theorem Env0.make{P:Program}{w:World}{K:PySem.W.Frag}{mg:Str->Option Value}{base:Heap}{A:Around}{outer:List Env}{s:Shared}{H:Hp}(e:Env0 P w K mg base A outer s H)(C:Addr)(us:List Value)(kw:List (Str×Value)):
 Env0 P w K mg base (A.under (.builtin "type.__call__" ⟨.ref C::us,kw⟩)) outer s H:=⟨by first|exact e.frames|(simpa [Around.under,Code.envs,Code.isFrame,pushEnvs]using e.frames),e.mod,e.bs,e.bsz,e.funs,e.frf,e.hok,e.bare⟩
section
variable{X:Cx}{pins:List (Addr×Obj)}{σ:St}{H:Hp}{s s':Shared}
theorem Inv.env0(I:Inv X pins σ H s):Env0 X.prog X.w X.K X.mg X.base X.A X.stack s H:=
 ⟨I.ok.frames,I.ok.mod,I.bs,zK I.ok.bsz I.sz,I.stack,I.stkFree,I.hok,I.bare⟩
theorem Inv.after{Q:VK}{u:Value}(I:Inv X pins σ H s)(h:CE X.stack X.prog X.w H s Q u s'):EP X pins σ Q u s':=by
 obtain⟨v,H',os,bare,un,hok,r,q⟩:=h;obtain⟨hh,g,d,t,a⟩:=s';obtain rfl:a=s.os:=os;exact⟨v,H',I.call (h':=hh) (g':=g) (d':=d) (t':=t) (ch:= []) un hok bare (fun b z=>absurd z (by simp)),r,q⟩
end
def iG(sp:Sp)(dvs:List V)(E:XK)(t:TA):TE:=fun σ H Q=>t σ H fun vs H1=>sp (vs++dvs) H1 Q E
def yv(C:Addr)(sp:Sp)(dvs:List V)(E:XK)(t:TA):TE:=fun σ H Q=>t σ H fun vs H1=>∀x dx,H1 x=none->H1 dx=none->dx≠x->
 sp (.ref x::(vs++dvs)) (upd (upd H1 dx (.own x)) x (.ins C dx [])) (fun v H2=>v= .non/\Q (.ref x) H2) E
def Binds(K:PySem.W.Frag)(fd:FuncData)(ps:List Str)(ds:List Value):Prop:=
 ∀(s:Shared) (us:List Value),K.In s.heap->(us++ds).length=ps.length->BindsTo s fd ⟨us,[]⟩ (ps.zip (us++ds))
theorem Binds.all{K:PySem.W.Frag}{fd:FuncData}{ps:List Str}(h:∀us:List Value,us.length=ps.length->bindArgs fd ⟨us,[]⟩=pure (ps.zip us)):Binds K fd ps []:=fun s us _ hl=>by
 rw[AH]at hl ⊢;exact .of_eq (h us hl)
def iy(CX:CXT)(X:Cx)(E:XK):Prop:=∀(pins:List (Addr×Obj)) (σ:St) (H:Hp) (s:Shared) (e:Value) (s':Shared),Inv X pins σ H s->CX X.stack H s E e s'->X.xe e s'
section
variable{X:Cx}{CX:CXT}{k:Nat}{f C:Addr}{fd:FuncData}{ps:List Str}{sp:Sp}{dvs:List V}{ds:List Value}{E:XK}{x m:Str}{p pos apos:Pos}{e o:Expr}{es:List Expr}{ta:TE}{t:TA}
theorem wL{pins:List (Addr×Obj)}{σ:St}{H:Hp}{s:Shared}{Q:VK}{us:List Value}{vs:List V}(F:FnOk X.prog X.w X.K X.mg X.base CX k f fd ps sp)(hr:Room k X.A)(hb:Binds X.K fd ps ds)(hd:Vals dvs ds)(hx:iy CX X E)(I:Inv X pins σ H s)(r:Vals vs us)(h:sp (vs++dvs) H Q E):wpAny (model X.prog X.w) X.A (call (.ref f) us) (EP X pins σ Q) X.xe s:=by
 have r2:Vals (vs++dvs) (us++ds):=r.append hd;have hl:(us++ds).length=ps.length:=by rw[<-r2.length];exact F.len _ _ _ _ h
 refine wpAny_call (codeAny_mono (F.run X.A X.stack s H ⟨us,[]⟩ (us++ds) (vs++dvs) Q E hr I.env0 (hb s us I.kIn hl) r2 h) fun r s' hq=>?_)
 cases r with
 |error e=>exact hx pins σ H s e s' I hq
 |ok fl=>
  cases fl with
  |ret u=>exact I.after hq
  |next=>exact False.elim hq
  |brk=>exact False.elim hq
  |cont=>exact False.elim hq
theorem dZ(F:FnOk X.prog X.w X.K X.mg X.base CX k f fd ps sp)(hr:Room k X.A)(hg:Gl X x)(hm:X.mg x=some (.ref f))(hk:PySem.W.keepIn X.K (.ref f)=true)(hb:Binds X.K fd ps ds)(hd:Vals dvs ds)(hx:iy CX X E)(ha:PA X (e::es) t)(hdb:(x==("__debug__":Str))=false:=by decide)(he:starEach (e::es) X.env=(false,eval e X.env)::starEach es X.env:=by rfl)(hpl:(backTo pos (starEach es X.env)).any (·.1)=false:=by rfl):
 PE X (.Call (.Name x p) (e::es) [] pos) (iG sp dvs E t):=by
 intro pins s σ H Q I h;refine wpAny_Call_Name_kw (nZ I hg hm ?_ hdb);refine PySem.W.callWith_K (h₀:=X.base) I.ok.mod.kin hk (thn (ha pos pins s σ H _ I h) fun us s1 ⟨vs,H1,a,r,q⟩=>⟨a.kIn,?_⟩) he hpl;exact wL F hr hb hd hx a r q
structure Mk (K:PySem.W.Frag) (C f:Addr):Prop where
 makes:PySem.W.makesIn K C=true
 init:PySem.W.findIn K (.ref C) "__init__"=some (some (.ref f))
 fn:PySem.W.isFn K (.ref f)=true
 kp:PySem.W.keepIn K (.ref C)=true
theorem rL{pins:List (Addr×Obj)}{σ:St}{H:Hp}{s:Shared}{Q:VK}{us:List Value}{vs:List V}(M:Mk X.K C f)(F:FnOk X.prog X.w X.K X.mg X.base CX k f fd ps sp)(hr:Room (k+1) X.A)(hb:Binds X.K fd ps ds)(hd:Vals dvs ds)(hx:iy CX X E)(I:Inv X pins σ H s)(r:Vals vs us)(h:∀x dx,H x=none->H dx=none->dx≠x->sp (.ref x::(vs++dvs)) (upd (upd H dx (.own x)) x (.ins C dx [])) (fun v H2=>v= .non/\Q (.ref x) H2) E):
 wpAny (model X.prog X.w) X.A (call (.ref C) us) (EP X pins σ Q) X.xe s:=by
 have hq:=h (s.heap.objs.size+1) s.heap.objs.size (I.hok.fresh (Nat.le_succ _)) (I.hok.fresh (zu _)) (zO (AK _));have b:=Inv.made (C:=C) I;have r2:Vals (V.ref (s.heap.objs.size+1)::(vs++dvs)) (Value.ref (s.heap.objs.size+1)::(us++ds)):= .cons rfl (r.append hd)
 have hl:(Value.ref (s.heap.objs.size+1)::us++ds).length=ps.length:=by
  have e:=r2.length;rw[F.len _ _ _ _ hq]at e;exact e.symm
 refine wpAny_call (sX (f:=f) I.kIn M.makes M.init (beq_iff_eq.mp M.fn) (codeAny_mono (F.run _ X.stack _ _ ⟨Value.ref (s.heap.objs.size+1)::us,[]⟩ (Value.ref (s.heap.objs.size+1)::(us++ds)) _ _ E (hr.make C us [])
  (b.env0.make C us []) (hb _ (Value.ref (s.heap.objs.size+1)::us) b.kIn hl) r2 hq) fun r s' a=>?_))
 cases r with
 |error e=>exact hx pins σ _ _ e s' b a
 |ok fl=>
  cases fl with
  |ret u=>
   obtain⟨v,H',g,rv,c,d⟩:=b.after a;subst c;exact⟨rv,⟨V.ref (s.heap.objs.size+1),H',g,rfl,d⟩⟩
  |next=>exact False.elim a
  |brk=>exact False.elim a
  |cont=>exact False.elim a
theorem vd(M:Mk X.K C f)(F:FnOk X.prog X.w X.K X.mg X.base CX k f fd ps sp)(hr:Room (k+1) X.A)(hg:Gl X x)(hm:X.mg x=some (.ref C))(hb:Binds X.K fd ps ds)(hd:Vals dvs ds)(hx:iy CX X E)(ha:PA X (e::es) t)(hdb:(x==("__debug__":Str))=false:=by decide)(he:starEach (e::es) X.env=(false,eval e X.env)::starEach es X.env:=by rfl)(hpl:(backTo pos (starEach es X.env)).any (·.1)=false:=by rfl):
 PE X (.Call (.Name x p) (e::es) [] pos) (yv C sp dvs E t):=by
 intro pins s σ H Q I h;refine wpAny_Call_Name_kw (nZ I hg hm ?_ hdb);refine PySem.W.callWith_K (h₀:=X.base) I.ok.mod.kin M.kp (thn (ha pos pins s σ H _ I h) fun us s1 ⟨vs,H1,a,r,q⟩=>⟨a.kIn,?_⟩) he hpl;exact rL M F hr hb hd hx a r q
end
section
variable{X:Cx}{CX:CXT}{k:Nat}{f C:Addr}{fd:FuncData}{ps ks:List Str}{sp:Sp}{E:XK}{x m:Str}{p pos apos kpos:Pos}{e o:Expr}{es:List Expr}{kws:List Keyword}{te ta:TE}{t tk:TA}{nm:Option Str}
variable{g:List Value->List Value->List Value}{gV:List V->List V->List V}
end
structure FnScope (N P:List Str) (sc:Scope):Prop where
 kind:sc.kind= .function
 co:sc.isCoroutine=false
 gen:sc.isGenerator=false
 nd:N.Nodup
 pre:N.take P.length=P
 par:∀x∈P,sc.names.lookup x=some .local\/sc.names.lookup x=some .cell
 nofree:∀y∈sc.names,y.2≠ .free
theorem j6{kindOf:Str->Option NameKind}{x:Str}:∀ {binds:List (Str×Value)} {m:Str->Option Value},(∀v,(x,v)∉binds)->bindL kindOf binds m x=m x
 | [],_,_=>rfl
 |(n,v)::r,m,h=>by
  unfold bindL;rw[j6 fun w hw=>h w (zp _ hw)];split
  . have:x≠n:=by rintro rfl;exact h v zq
    simp[this]
  . rfl
theorem j8{kindOf:Str->Option NameKind}{x:Str}:∀ {binds:List (Str×Value)} {m:Str->Option Value},(∀v,(x,v)∉binds)->bindC kindOf binds m x=m x
 | [],_,_=>rfl
 |(n,v)::r,m,h=>by
  unfold bindC;rw[j8 fun w hw=>h w (zp _ hw)];split
  . rfl
  . have:x≠n:=by rintro rfl;exact h v zq
    simp[this]
theorem j7{kindOf:Str->Option NameKind}{x:Str}{v:Value}:∀ {P:List Str} {vs:List Value} {i:Nat} {m:Str->Option Value},P.Nodup->P[i]?=some x->vs[i]?=some v->kindOf x=some .local->
 bindL kindOf (P.zip vs) m x=some v
 | [],_,_,_,_,h,_,_=>by simp at h
 |_::_,[],_,_,_,_,h,_=>by simp at h
 |p::P,w::vs,0,m,nd,h1,h2,hk=>by
  simp at h1 h2;subst h1;subst h2;show bindL kindOf ((p,w)::P.zip vs) m p=_;unfold bindL;rw[j6 fun v hv=>(AG.mp nd).1 (List.of_mem_zip hv).1,if_pos hk];simp
 |p::P,w::vs,i+1,m,nd,h1,h2,hk=>by
  show bindL kindOf ((p,w)::P.zip vs) m x=_;unfold bindL;exact j7 (i:=i) (AG.mp nd).2 (by simpa using h1) (by simpa using h2) hk
theorem j9{kindOf:Str->Option NameKind}{x:Str}{v:Value}:∀ {P:List Str} {vs:List Value} {i:Nat} {m:Str->Option Value},P.Nodup->P[i]?=some x->vs[i]?=some v->kindOf x≠some .local->
 bindC kindOf (P.zip vs) m x=some v
 | [],_,_,_,_,h,_,_=>by simp at h
 |_::_,[],_,_,_,_,h,_=>by simp at h
 |p::P,w::vs,0,m,nd,h1,h2,hk=>by
  simp at h1 h2;subst h1;subst h2;show bindC kindOf ((p,w)::P.zip vs) m p=_;unfold bindC;rw[j8 fun v hv=>(AG.mp nd).1 (List.of_mem_zip hv).1,if_neg hk];simp
 |p::P,w::vs,i+1,m,nd,h1,h2,hk=>by
  show bindC kindOf ((p,w)::P.zip vs) m x=_;unfold bindC;exact j9 (i:=i) (AG.mp nd).2 (by simpa using h1) (by simpa using h2) hk
noncomputable def eS(N:List Str)(vs:List V):St:=vs.map some++List.replicate (N.length - vs.length) none
noncomputable def cxOf(CX:CXT)(P:Program)(w:World)(K:PySem.W.Frag)(mg:Str->Option Value)(base:Heap)(N:List Str)(qual:Str)(scope:Scope)(f:Addr)(cd:Value)(A:Around)(outer:List Env)(s:Shared)(H:Hp)(E:XK):Cx where
 prog:=P
 w:=w
 K:=K
 mg:=mg
 base:=base
 A:=A.deeper (envOfC qual scope s.heap.objs.size f cd)
 N:=N
 s₀:=s
 H₀:=H
 env:=envOfC qual scope s.heap.objs.size f cd
 outer:=outer
 stack:=envOfC qual scope s.heap.objs.size f cd::outer
 ex:= []
 calm:=true
 fn:=fun _=>true
 pn:= []
 xe:=fun e s'=>wpAny (model P w) (A.deeper (envOfC qual scope s.heap.objs.size f cd)) (leaving (envOfC qual scope s.heap.objs.size f cd) e) (fun _ s''=>CX outer H s E e s'') (fun e' s''=>CX outer H s E e' s'') s'
theorem lF{sc:Scope}{n:Nat}{x:Str}(h:sc.names.lookup x=some .cell):∃c,(cellsFrom n sc.names []).lookup x=some c:=by
 have q:=PySem.W.cellsFrom_some sc.names n [] (.inl h);exact Option.isSome_iff_exists.mp q
theorem pB{CX:CXT}{P:Program}{w:World}{K:PySem.W.Frag}{mg:Str->Option Value}{base:Heap}{N ps:List Str}{qual:Str}{scope:Scope}{f:Addr}{cd:Value}{A:Around}{outer:List Env}{s s1:Shared}{H:Hp}{E:XK}{us:List Value}{vs:List V}(S:FnScope N ps scope)(hd:A.handled=none)(e0:Env0 P w K mg base A outer s H)(hl:vs.length=ps.length)(r:Vals vs us)(x:InCallC s s.heap.objs.size (bindL (envOfC qual scope s.heap.objs.size f cd).kindOf (ps.zip us) fun _=>none) (cellsFrom (s.heap.objs.size+1) scope.names []) (bindC (envOfC qual scope s.heap.objs.size f cd).kindOf (ps.zip us) fun _=>none) s1):
 Inv (cxOf CX P w K mg base N qual scope f cd A outer s H E) [] (eS N vs) H s1:=by
 have j:ps.length<=N.length:=by have:=congrArg List.length S.pre;rw[A7]at this;omega
 refine hZq fun q_ e_=>?_;obtain⟨h1,tk,rfl,hk⟩:=x.done;subst e_;have d:∀b:Addr,b∉(cxOf CX P w K mg base N qual scope f cd A outer s H E).ex:=fun b z=>absurd (show b∈([]:List Addr)from z) (by simp)
 refine⟨⟨e0.mod,S.kind,rfl,rfl,zu _,fun y z c h1 h2=>?_,fun y hy=>?_,fun y c _ h=>?_,fun _=>hd,Around.frames_deeper e0.frames, .inr ⟨rfl,rfl⟩,fun b z=>absurd z (d b),e0.bs,e0.bsz,fun b _ _=>d b,fun b z=>absurd z (d b),e0.funs,e0.frf⟩,
  rfl,e0.bare,Un.kept hk,⟨_,x.toInCall.ns,fun i y v h1 h2 h3=>?_⟩,fun y c h=>⟨_,x.cell y c h⟩,e0.hok.fresh (zu _),fun y c h=>?_,fun p hp=>absurd (show p∈([]:List (Addr×Obj))from hp) (by simp),e0.hok.kept hk,?_⟩
 . exact name_of_addr x.apart (PySem.mem_of_lookup h1) (PySem.mem_of_lookup h2)
 . have hy:scope.names.lookup y=some .cell\/scope.names.lookup y=some .free:=hy;rcases hy with hy|hy
   . exact lF hy
   . exact absurd rfl (S.nofree _ (PySem.mem_of_lookup hy))
 . exact Nat.le_of_lt (x.above y c (PySem.mem_of_lookup h))
 . have hi:i < vs.length:=by
    unfold eS at h2;by_cases hi:i < vs.length
    . exact hi
    . rw[List.getElem?_append_right (by simpa using hi)]at h2
      rw[List.getElem?_replicate]at h2;split at h2<;>cases h2
   have ha:vs[i]?=some v:=by
    unfold eS at h2;rw[List.getElem?_append_left (by simpa using hi),zr]at h2
    cases e:vs[i]? with
    |none=>rw[e]at h2;cases h2
    |some a=>rw[e]at h2;cases h2;rfl
   obtain⟨u,hu,rv⟩:=r.get ha
   have hp:ps[i]?=some y:=by
    rw[<-S.pre,List.getElem?_take_of_lt (by omega)];exact h1
   have g:ps.Nodup:=by rw[<-S.pre];exact S.nd.sublist (List.take_sublist _ _)
   refine⟨u,rv,?_⟩;rcases S.par y (zw hp)with k|k
   . exact .inl ⟨k,j7 g hp hu k⟩
   . obtain⟨c,e⟩:=lF (n:=s.heap.objs.size+1) k;refine .inr ⟨.inl k,c,e,?_⟩;have q:=x.cell y c e;rw[j9 g hp hu (by show scope.names.lookup y≠_;rw[k];decide)]at q
     exact q
 . exact e0.hok.fresh (Nat.le_of_lt (x.above y c (PySem.mem_of_lookup h)))
 . unfold eS;show _=N.length;rw[A6,zm,List.length_replicate];omega
theorem wm{CX:CXT}{P:Program}{w:World}{K:PySem.W.Frag}{mg:Str->Option Value}{base:Heap}{k:Nat}{f:Addr}{name qual:Str}{params:Arguments}{body:List Stmt}{scope:Scope}{dV kV doc pm cdv ct oc:Value}{an od:Option Addr}{osl:Array (Option Value)}{N ps:List Str}{sp:Sp}(lk:K.lookup f=some ⟨oc,od, .func (PySem.W.fnOf name qual params body scope dV kV doc pm an cdv ct),osl⟩)(hcd:PySem.W.codeIn K cdv qual=true)(S:FnScope N ps scope)(len:∀vs H Q E,sp vs H Q E->vs.length=ps.length)(hbody:∀(A:Around) (outer:List Env) (s:Shared) (H:Hp) (vs:List V) (Q:VK) (E:XK),Room k (A.deeper (envOfC qual scope s.heap.objs.size f cdv))->sp vs H Q E->
  ∃t,PSs (cxOf CX P w K mg base N qual scope f cdv A outer s H E) body t/\t {nx:=fun _ H'=>Q .non H',rt:=Q} (eS N vs) H):
 FnOk P w K mg base CX (k+1) f (PySem.W.fnOf name qual params body scope dV kV doc pm an cdv ct) ps sp:=by
 refine⟨len,fun A outer s H args us vs Q E hr c hb r d=>?_⟩;have hl:=len _ _ _ _ d;have g:K.In s.heap:=c.mod.kin.keeps fun b o e=>(c.bs b o e).1;have lim:s.heap.NoLimit:=c.mod.nolimit.keeps fun b o e=>(c.bs b o e).1
 have a:∀y∈ps.zip us,scope.names.lookup y.1=some .local\/(scope.names.lookup y.1=some .cell/\((cellsFrom (s.heap.objs.size+1) scope.names []).lookup y.1).isSome=true):=fun⟨n,v⟩ hy=>by
  rcases S.par n (List.of_mem_zip hy).1 with q|q
  . exact .inl q
  . exact .inr ⟨q,PySem.W.cellsFrom_some _ _ _ (.inl q)⟩
 refine codeAny_call_function hr.depth (g _ _ lk) rfl S.co S.gen rfl (PySem.W.codeRec_of g hcd) (hb _ _ _ _ ?_);refine wpAny_newFunctionEnv_cells S.kind a fun env he s1 x=>?_;subst he;refine⟨lim.keeps x.toInCall.keep,codeAny_func ?_⟩;obtain⟨t,ht,hq⟩:=hbody A outer s H vs Q E (hr.deeper _) d;have I:Inv (cxOf CX P w K mg base N qual scope f cdv A outer s H E) [] (eS N vs) H s1:=pB S hr.hd c hl r x;refine wpAny_mono (ht [] s1 (eS N vs) H _ I hq) (fun fl s' hs=>?_) fun e s' hs=>hs
 have fin:∀ {σ':St} {H':Hp} {v:V} {u:Value},Inv (cxOf CX P w K mg base N qual scope f cdv A outer s H E) [] σ' H' s'->RelV v u->Q v H'->CE outer P w H s Q u s':=
  fun{σ' H' v u} J rv q=>⟨v,H',J.os,J.bare,J.base,J.hok,rv,q⟩
 cases fl with
 |ret u=>
  refine hZq fun q_ e_=>?_;obtain⟨v,σ',H',J,rv,q⟩:=hs;subst e_;exact fin J rv q
 |next=>
  refine hZq fun q_ e_=>?_;obtain⟨σ',H',J,q⟩:=hs;subst e_;exact fin (v:=V.non) (u:=Value.none) J rfl q
 |brk=>
  refine hZq fun q_ e_=>?_;obtain⟨_,_,_,q⟩:=hs;subst e_;exact False.elim q
 |cont=>
  refine hZq fun q_ e_=>?_;obtain⟨_,_,_,q⟩:=hs;subst e_;exact False.elim q
open PySem PySem.Spec PyProof.Rows
section
variable{X:Cx}{x:Str}{p pos:Pos}{e:Expr}{es:List Expr}{t:TA}{id T:String}{r:List V->Hp->VK->Prop}
def tCB(r:List V->Hp->VK->Prop)(t:TA):TE:=fun σ H Q=>t σ H fun vs H1=>r vs H1 Q
theorem aA(hc:cr X (.builtin id) r)(hg:Gl X x)(hm:X.mg x=none)(hv:bootBuiltins x=some (.builtin id))(ha:PA X (e::es) t)(hn:x≠"__name__":=by decide)(hdb:(x==("__debug__":Str))=false:=by decide)(he:starEach (e::es) X.env=(false,eval e X.env)::starEach es X.env:=by rfl)(hpl:(backTo pos (starEach es X.env)).any (·.1)=false:=by rfl):PE X (.Call (.Name x p) (e::es) [] pos) (tCB r t):=by
 intro pins s σ H Q I h;refine wpAny_Call_Name_kw (eF I hg hm hv ?_ hn hdb);exact PyProof.Rows.callWith_builtin1 (thn (ha pos pins s σ H _ I h) fun us s1 ⟨vs,H1,a,r1,b⟩=>hc pins s1 σ H1 vs us Q a r1 b) he hpl
theorem bp(hc:cr X (.type T) r)(hg:Gl X x)(hm:X.mg x=none)(hv:bootBuiltins x=some (.type T))(ha:PA X (e::es) t)(hn:x≠"__name__":=by decide)(hdb:(x==("__debug__":Str))=false:=by decide)(he:starEach (e::es) X.env=(false,eval e X.env)::starEach es X.env:=by rfl)(hpl:(backTo pos (starEach es X.env)).any (·.1)=false:=by rfl):PE X (.Call (.Name x p) (e::es) [] pos) (tCB r t):=by
 intro pins s σ H Q I h;refine wpAny_Call_Name_kw (eF I hg hm hv ?_ hn hdb);exact PyProof.Rows.callWith_type1 (thn (ha pos pins s σ H _ I h) fun us s1 ⟨vs,H1,a,r1,b⟩=>hc pins s1 σ H1 vs us Q a r1 b) he hpl
end
end L2
namespace HT
open PySem PyProof.Rows
section
open PySem.SeqAt
open PySem.AutoSeq1 (wpAny_loadPart')
open PySem.MeetsSeq PySem.MeetsSeq2 PySem.MeetsSeq3
end
section
variable{prog:Program}{w:World}{A:Around}{E:Value->Shared->Prop}{s:Shared}
noncomputable def sIx(n d:Nat):Option Int->Nat
 |none=>d
 |some v=>if v < 0 then(v+(n:Int)).toNat else min v.toNat n
theorem sIx_none(n d:Nat):sIx n d none=d:=rfl
theorem sIx_nat(n d k:Nat):sIx n d (some (k:Int))=min k n:=by
 show(if (k:Int) < 0 then((k:Int)+(n:Int)).toNat else min (k:Int).toNat n)=min k n;rw[if_neg (by omega),AA]
end
end HT
namespace L2
open PySem PySem.Spec PyProof.Rows
abbrev TO:=St->Hp->(Option Int->Hp->Prop)->Prop
def PO(X:Cx)(e:Option Expr)(t:TO):Prop:=
 ∀(pins:List (Addr×Obj)) (s:Shared) (σ:St) (H:Hp) (Q:Option Int->Hp->Prop),Inv X pins σ H s->t σ H Q->
  wpAny (model X.prog X.w) X.A (evalPart e X.env) (fun u s'=>∃o H',Inv X pins σ H' s'/\IsPart u o/\Q o H') X.xe s
def uJ:TO:=fun _ H Q=>Q none H
def yt(t:TE):TO:=fun σ H Q=>t σ H fun x H1=>∃i,x= .int i/\Q (some i) H1
theorem mG{ns:List Int}:∀ {us:List Value},Vals (ns.map V.int) us->IntsAre us ns:=by
 induction ns with
 |nil=>intro us r;rw[AJ]at r;cases r;exact .nil
 |cons n ns a=>
  intro us r;rw[zU]at r
  cases r with
  |cons r1 r2=>
   obtain⟨t,e⟩:=r1;subst e;exact .cons n t (a r2)
section
variable{X:Cx}{e:Expr}{te:TE}{lo hi:Option Expr}{tl th:TO}{pos p2:Pos}
theorem nO:PO X none uJ:=by
 intro pins s σ H Q I h;rw[evalPart_none];exact wpAny_pure ⟨none,H,I, .none,h⟩
theorem nN(h:PE X e te):PO X (some e) (yt te):=by
 intro pins s σ H Q I hw;rw[evalPart_some];refine thn (h pins s σ H _ I hw) fun u s1 ⟨x,H1,a,r1,b⟩=>?_;obtain⟨i,rfl,q⟩:=b;obtain⟨t,rfl⟩:=r1;exact⟨some i,H1,a, .int i t,q⟩
def SlR(X:Cx)(r:V->Option Int->Option Int->Hp->VK->Prop):Prop:=
 ∀(pins:List (Addr×Obj)) (s:Shared) (σ:St) (H:Hp) (x:V) (v vl vu:Value) (lo hi:Option Int) (sl:Addr) (Q:VK),Inv X pins σ H s->RelV x v->s.heap.IsSliceOf sl vl vu .none->IsPart vl lo->IsPart vu hi->r x lo hi H Q->
  ∃T id,typeLookup (.type T) "__getitem__"=pure (some (.builtin id))/\s.TypeIs v T/\wpAny (model X.prog X.w) X.A (getItem v (.ref sl)) (EP X pins σ Q) X.xe s
def tSl(r:V->Option Int->Option Int->Hp->VK->Prop)(te:TE)(tl th:TO):TE:=fun σ H Q=>te σ H fun x H1=>tl σ H1 fun l H2=>th σ H2 fun u H3=>r x l u H3 Q
theorem kA{r:V->Option Int->Option Int->Hp->VK->Prop}(hr:SlR X r)(he:PE X e te)(hl:PO X lo tl)(hu:PO X hi th):PE X (.Subscript e (.Slice lo hi none p2) pos) (tSl r te tl th):=by
 intro pins s σ H Q I h;refine Subscript_ (thn (he pins s σ H _ I h) fun v s1 ⟨x,H1,f,r1,j⟩=>?_);refine wpAny_Slice (thn (hl pins s1 σ H1 _ f j) fun vl n ⟨l,H2,c,pl,i⟩=>thn (hu pins n σ H2 _ c i) fun vu a ⟨u,H3,g,o,m⟩=>?_);rw[evalPart_none];refine wpAny_pure ?_;have p:Inv X pins σ H3 {a with heap:=a.heap.push {cls:= .type "slice",data:= .fields #[vl,vu, .none]}}:=g.kept (t':=a.toks) fun b ob q=>Heap.get?_push_of_some _ q;obtain⟨T,id,k,ht,d⟩:=hr pins {a with heap:=a.heap.push {cls:= .type "slice",data:= .fields #[vl,vu, .none]}} σ H3 x v vl vu l u a.heap.objs.size Q p r1 (Heap.IsSliceOf.new ..) pl o m;show wpAny (model X.prog X.w) X.A (subscriptTail e (.Slice lo hi none p2) v (.ref a.heap.objs.size)) (EP X pins σ Q) X.xe {a with heap:=a.heap.push {cls:= .type "slice",data:= .fields #[vl,vu, .none]}};exact tail_any (ops:= [.ref a.heap.objs.size,v]) ht k d (by with_unfolding_all rfl)
noncomputable def cutV(xs:List V)(lo hi:Option Int):List V:=(xs.drop (HT.sIx xs.length 0 lo)).take (HT.sIx xs.length xs.length hi - HT.sIx xs.length 0 lo)
theorem kZ(xs:List V)(lo hi:Option Int):(cutV xs lo hi).length<=xs.length:=by
 unfold cutV;rw[A7,List.length_drop];omega
end
open PySem PySem.Spec PyProof.Rows
noncomputable def ixN(n:Nat)(i:Int):Option Nat:=if 0<=i then(if i < n then some i.toNat else none)else if -(n:Int)<=i then some (i+n).toNat else none
noncomputable def atI{α:Type}(xs:List α)(i:Int):Option α:=(ixN xs.length i).bind fun j=>xs[j]?
theorem oi{n:Nat}{i:Int}{j:Nat}(h:ixN n i=some j):seqIndex? i n=some j/\j < n/\ -(n:Int)<=i/\i < n:=by
 unfold ixN at h;by_cases h0:0<=i
 . rw[if_pos h0]at h;by_cases h1:i < n
   . rw[if_pos h1]at h;have e:i.toNat=j:=zN h;exact⟨by rw[seqIndex_of h0 h1,e],by omega,by omega,h1⟩
   . rw[if_neg h1]at h;cases h
 . rw[if_neg h0]at h;by_cases h1:-(n:Int)<=i
   . rw[if_pos h1]at h;have e:(i+n).toNat=j:=zN h;exact⟨by rw[seqIndex_neg (by omega) h1,e],by omega,h1,by omega⟩
   . rw[if_neg h1]at h;cases h
theorem oB{α:Type}{xs:List α}{i:Int}{v:α}(h:atI xs i=some v):∃j,seqIndex? i xs.length=some j/\xs[j]?=some v/\j < xs.length/\ -(xs.length:Int)<=i/\i < xs.length:=by
 unfold atI at h
 cases e:ixN xs.length i with
 |none=>rw[e]at h;cases h
 |some j=>
  rw[e]at h;obtain⟨h1,h2,h3,a⟩:=oi e;exact⟨j,h1,h,h2,h3,a⟩
theorem aB{α:Type}{xs:List α}{j:Nat}{v:α}(h:xs[j]?=some v):atI xs (j:Int)=some v:=by
 have a:j < xs.length:=(zv.mp h).1
 have e:ixN xs.length (j:Int)=some j:=by
  unfold ixN;rw[if_pos (by omega),if_pos (by omega)];simp
 unfold atI;rw[e];exact h
def vT(b:Expr):Prop:=∀o i,subscripted b false o i=operate [o,i] (getItem o i)
def IxR(X:Cx)(r:R2):Prop:=
 ∀(value slice:Expr) (pins:List (Addr×Obj)) (s:Shared) (σ:St) (H:Hp) (x y:V) (v u:Value) (Q:VK),Inv X pins σ H s->RelV x v->RelV y u->r x y H Q->
  subscripted slice false v u=operate [v,u] (getItem v u)->wpAny (model X.prog X.w) X.A (subscriptTail value slice v u) (EP X pins σ Q) X.xe s
def MtR(X:Cx)(id:String)(r:V->List V->Hp->VK->Prop):Prop:=
 ∀(pins:List (Addr×Obj)) (s:Shared) (σ:St) (H:Hp) (x:V) (xs:List V) (v:Value) (us:List Value) (Q:VK),Inv X pins σ H s->RelV x v->Vals xs us->r x xs H Q->
  wpAny (model X.prog X.w) X.A (call (.builtin id) (v::us)) (EP X pins σ Q) X.xe s
section
variable{X:Cx}{a b:Expr}{ta tb:TE}{pos:Pos}
theorem ak{r:R2}(hr:IxR X r)(ha:PE X a ta)(hb:PE X b tb)(hs:vT b):PE X (.Subscript a b pos) (tOp r ta tb):=by
 intro pins s σ H Q I h;exact Subscript_ (binT ha hb I h fun v u f x y H2 e d c q=>hr a b pins f σ H2 x y v u Q e d c q (hs _ _))
def rIxL(K:PySem.W.Frag):R2:=fun x y H Q=>∃p xs i v,x= .ref p/\y= .int i/\SqL K H p xs/\atI xs i=some v/\Q v H
def rIxT(K:PySem.W.Frag):R2:=fun x y H Q=>∃p xs i v,x= .ref p/\y= .int i/\SqT K H p xs/\atI xs i=some v/\Q v H
theorem ao:IxR X (rIxL X.K):=by
 intro value slice pins s σ H x y v u Q I e d h hs;obtain⟨p,xs,i,z,rfl,rfl,hq,he,q⟩:=h;cases e;obtain⟨t,rfl⟩:=d;obtain⟨its,r,pl,hz⟩:=I.list hq;obtain⟨j,h1,h2,h3,g,f⟩:=oB he;obtain⟨w,c,b⟩:=r.get h2;have hl:=r.length;have hn:=ft;have fin:EP X pins σ Q w s:=⟨z,H,I,b,q⟩;by_cases h0:0<=i
 . have a:i.toNat=j:=by
    rw[seqIndex_of h0 f]at h1;exact zN h1
   exact item_listR pl.isList h0 (by omega) (by rw[a];simpa using c) fin hs
 . have a:(i+(its.toArray.size:Int)).toNat=j:=by
    rw[seqIndex_neg (by omega) g]at h1
    rw[zx,<-hl];exact zN h1
   exact subscriptTail_builtinR (x:=w) pl.isList.typeIs slot_list_getitem.lookup
    (wpAny_getItem_list_neg (Q:=fun r s'=>r=w/\EP X pins σ Q r s') pl.isList (by omega) (by rw[zx]<;>omega) (by omega) (by rw[a];simpa using c) ⟨rfl,fin⟩) hs
theorem aE:IxR X (rIxT X.K):=by
 intro value slice pins s σ H x y v u Q I c b h hs;obtain⟨p,xs,i,z,rfl,rfl,hq,he,q⟩:=h;cases c;obtain⟨t,rfl⟩:=b;obtain⟨its,r,pl,hz⟩:=I.tuple hq;obtain⟨j,h1,h2,h3,f,e⟩:=oB he;obtain⟨w,d,a⟩:=r.get h2;have hl:=r.length;have hn:=ft;have fin:EP X pins σ Q w s:=⟨z,H,I,a,q⟩
 exact subscriptTail_builtinR (x:=w) pl.typeIs slot_tuple_getitem.lookup
  (getItem_tuple (j:=j) (Q:=fun r s'=>r=w/\EP X pins σ Q r s') pl (by omega) (by omega) (by rw[zx,<-hl];exact h1) (by simpa using d) ⟨rfl,fin⟩) hs
theorem m9(its:List Value)(n j:Nat)(u:Value):Obj.mapSeq (·.setIfInBounds j u) {cls:= .type "list",data:= .seq its.toArray n} = {cls:= .type "list",data:= .seq (its.set j u).toArray n}:=by
 simp[Obj.mapSeq]
theorem Inv.lst{pins:List (Addr×Obj)}{σ:St}{H:Hp}{s:Shared}{p:Addr}{xs:List V}(I:Inv X pins σ H s)(h:H p=some (.lst xs)):
 ∃(its:List Value) (n:Nat),Vals xs its/\s.heap.get? p=some {cls:= .type "list",data:= .seq its.toArray n}/\xs.length<=sizeLine:=by
 obtain⟨z,its,n,r,e⟩:=I.hok p _ h;exact⟨its,n,r,e,z⟩
theorem Inv.lstUpd{pins:List (Addr×Obj)}{σ:St}{H:Hp}{s:Shared}{p:Addr}{xs ys:List V}{its its':List Value}{n n':Nat}{f:Obj->Obj}(I:Inv X pins σ H s)(h:H p=some (.lst xs))(ho:s.heap.get? p=some {cls:= .type "list",data:= .seq its.toArray n})(hf:f {cls:= .type "list",data:= .seq its.toArray n} = {cls:= .type "list",data:= .seq its'.toArray n'})(r:Vals ys its')(hz:ys.length<=sizeLine)(t:Nat):
 Inv X pins σ (upd H p (.lst ys)) {s with heap:=s.heap.update p f,toks:=t}:=by
 have e:(s.heap.update p f).get? p=some {cls:= .type "list",data:= .seq its'.toArray n'}:=by
  rw[Heap.get?_update_self f ho (by rw[hf]<;>rfl),hf]
 refine I.write (x:=p) (e:=p) (by rw[h];trivial) (.inl rfl) (fun b u hb q=>(Heap.get?_update_other _ _ (Ne.symm hb)).trans q) ⟨_,e⟩ ?_
 exact⟨hz,its',n',r,e⟩
def yP:V->V->V->Hp->(Hp->Prop)->Prop:=fun o i v H Q=>∃p xs k j,o= .ref p/\i= .int k/\H p=some (.lst xs)/\ixN xs.length k=some j/\Q (upd H p (.lst (xs.set j v)))
theorem dC:PSet X yP:=by
 intro pins s σ H o i v ov iv u Q I ro d rv h;obtain⟨p,xs,k,j,rfl,rfl,hp,c,q⟩:=h;cases ro;obtain⟨t,rfl⟩:=d;obtain⟨its,n,r,ho,hz⟩:=I.lst hp;obtain⟨h1,h2,h3,b⟩:=oi c;have hl:=r.length;have hn:=ft
 have a:Inv X pins σ (upd H p (.lst (xs.set j v))) {s with heap:=s.heap.update p (Obj.mapSeq (·.setIfInBounds j u))}:=
  I.lstUpd hp ho (m9 its n j u) (r.set rv j) (by rw[List.length_set];exact hz) s.toks
 by_cases h0:0<=k
 . have hk:k.toNat=j:=by
    rw[seqIndex_of h0 b]at h1;exact zN h1
   exact PySem.W.ki_setAt ho h0 (by omega) (by rw[zx,<-hl];exact b) (by rw[hk];exact⟨_,a,q⟩)
 . have hk:(k+(its.toArray.size:Int)).toNat=j:=by
    rw[seqIndex_neg (by omega) h3]at h1
    rw[zx,<-hl];exact zN h1
   exact PySem.W.ki_setBack ho (by omega) (by rw[zx,<-hl];exact h3) (by omega) (by rw[hk];exact⟨_,a,q⟩)
theorem jw(lo hi:Option Int)(n:Nat):(sliceBounds lo hi none n).1=((HT.sIx n 0 lo:Nat):Int)/\(sliceBounds lo hi none n).2.1=((HT.sIx n n hi:Nat):Int)/\(sliceBounds lo hi none n).2.2=1:=by
 refine⟨?_,?_,rfl⟩
 . cases lo with
   |none=>simp[sliceBounds,HT.sIx]
   |some i=>
    simp only[sliceBounds,HT.sIx,Option.getD_none,show(1:Int) > 0 by decide,if_true]
    by_cases h:i < 0
    . simp only[h,if_true]<;>omega
    . simp only[h,if_false]<;>omega
 . cases hi with
   |none=>simp[sliceBounds,HT.sIx]
   |some i=>
    simp only[sliceBounds,HT.sIx,Option.getD_none,show(1:Int) > 0 by decide,if_true]
    by_cases h:i < 0
    . simp only[h,if_true]<;>omega
    . simp only[h,if_false]<;>omega
theorem iA(its:List Value)(lo hi:Option Int):slicePick its.toArray lo hi none=((its.drop (HT.sIx its.length 0 lo)).take (HT.sIx its.length its.length hi - HT.sIx its.length 0 lo)).toArray:=by
 obtain⟨h1,h2,h3⟩:=jw lo hi its.toArray.size;unfold slicePick;rw[h1,h2,h3];simp only[sliceRange_one,pick_run,zx]<;>rfl
def rSlL(K:PySem.W.Frag):V->Option Int->Option Int->Hp->VK->Prop:=fun x lo hi H Q=>∃a xs,x= .ref a/\SqL K H a xs/\∀p,H p=none->Q (.ref p) (upd H p (.lst (cutV xs lo hi)))
theorem nA:SlR X (rSlL X.K):=by
 intro pins s σ H x v vl vu lo hi sl Q I d hs pl e h;obtain⟨a,xs,rfl,hx,q⟩:=h;cases d;obtain⟨its,r,ht,hz⟩:=I.list hx;have c:=r.length;refine⟨"list",_,slot_list_getitem.lookup,ht.isList.typeIs,?_⟩;refine wpAny_getItem_list_slice ht.isList hs pl e .none (by simp) ?_ (by rw[zx]<;>omega)
 rw[iA,<-c];refine⟨.ref s.heap.objs.size,_,I.laid (t':=s.toks) (o:= .lst (cutV xs lo hi)) (fun b ob q=>Heap.get?_push_of_some _ q) (zu _) ?_,rfl,q _ (I.hok.fresh (zu _))⟩;exact⟨zK (kZ xs lo hi) hz,_,0,(r.drop (HT.sIx xs.length 0 lo)).take (HT.sIx xs.length xs.length hi - HT.sIx xs.length 0 lo),Heap.get?_push_size _ rfl⟩
theorem ax:cr X (.builtin "len") (fun xs H Q=>∃p ys,xs= [.ref p]/\(SqL X.K H p ys\/SqT X.K H p ys)/\Q (.int ys.length) H):=by
 intro pins s σ H xs us Q I r h;obtain⟨p,ys,rfl,hq,q⟩:=h;obtain⟨u,rfl,b⟩:=dw r;cases b;have hn:=ft;rcases hq with hq|hq
 . obtain⟨its,r',pl,hz⟩:=I.list hq;have a:=r'.length;exact Calls.call_len_list pl.isList (by simp only[zx]<;>omega) ⟨.int ys.length,H,I.tok _,⟨s.toks+1,by rw[zx,a]⟩,q⟩
 . obtain⟨its,r',pl,hz⟩:=I.tuple hq;have a:=r'.length;exact len_tuple pl (by simp only[zx]<;>omega) ⟨.int ys.length,H,I.tok _,⟨s.toks+1,by rw[zx,a]⟩,q⟩
theorem f9:cr X (.type "list") (fun xs H Q=>∃p ys,xs= [.ref p]/\(SqL X.K H p ys\/SqT X.K H p ys)/\∀l,H l=none->Q (.ref l) (upd H l (.lst ys))):=by
 intro pins s σ H xs us Q I r h;obtain⟨p,ys,rfl,hq,q⟩:=h;obtain⟨u,rfl,d⟩:=dw r;cases d
 have fin:∀(its:List Value),Vals ys its->ys.length<=sizeLine->∀(h':Heap) (a:Nat),(∀b o',s.heap.get? b=some o'->h'.get? b=some o')->
  h'.get? s.heap.objs.size=some {cls:= .type "list",dict:=none,data:= .seq its.toArray a,slots:= #[]}->EP X pins σ Q (.ref s.heap.objs.size) {s with heap:=h'}:=fun its r' hz h' a kp e=>
  ⟨.ref s.heap.objs.size,_,I.laid (t':=s.toks) kp (zu _) (show ObjOk X.prog X.w _ h' _ (.lst ys)from⟨hz,its,a,r',e⟩),rfl,q _ (I.hok.fresh (zu _))⟩
 rcases hq with hq|hq
 . obtain⟨its,r',pl,hz⟩:=I.list hq;have c:=r'.length;obtain⟨o,ho,hc,n,hd⟩:=pl.isList;exact call_list_seq p (.inl rfl) ho hc hd (fun h' a kp e=>fin its r' hz h' a kp e) (by simp only[zx]<;>omega)
 . obtain⟨its,r',pl,hz⟩:=I.tuple hq;have c:=r'.length;obtain⟨o,ho,hc,n,hd⟩:=pl;exact call_list_seq p (.inr rfl) ho hc hd (fun h' a kp e=>fin its r' hz h' a kp e) (by simp only[zx]<;>omega)
theorem eC:cr X (.type "tuple") (fun xs H Q=>∃p ys,xs= [.ref p]/\((SqL X.K H p ys/\∀l,H l=none->Q (.ref l) (upd H l (.tup ys)))\/(SqT X.K H p ys/\Q (.ref p) H))):=by
 intro pins s σ H xs us Q I r h;obtain⟨p,ys,rfl,h⟩:=h;obtain⟨u,rfl,d⟩:=dw r;cases d;rcases h with⟨hq,q⟩|⟨hq,q⟩
 . obtain⟨its,r',pl,hz⟩:=I.list hq;have c:=r'.length;refine call_tuple_list pl.isList (fun h' kp=>?_) (by simp only[zx]<;>omega)
   have a:Inv X pins σ H {s with heap:=h'}:=I.kept (t':=s.toks) kp
   have f:Inv X pins σ (upd H h'.objs.size (.tup ys)) {s with heap:=h'.push {cls:= .type "tuple",data:= .seq its.toArray}}:=
    a.laid (t':=s.toks) (fun b o e=>Heap.get?_push_of_some _ e) (zu _) (show ObjOk X.prog X.w _ _ _ (.tup ys)from⟨hz,its,r',IsTup.new _ _⟩)
   exact⟨.ref h'.objs.size,_,f,rfl,q _ (a.hok.fresh (zu _))⟩
 . obtain⟨its,r',pl,hz⟩:=I.tuple hq;exact call_tuple_same pl ⟨.ref p,H,I,rfl,q⟩
def tyV(K:PySem.W.Frag)(T:String)(x:V)(H:Hp):Prop:=match x with
 | .str _=>T= "str"
 | .int _=>T= "int"
 | .ref p=>(T= "list"/\∃xs,SqL K H p xs)\/(T= "tuple"/\∃o,K.lookup p=some o/\o.cls= .type "tuple"/\o.dict=none)\/
  (T= "dict"/\((∃kvs,H p=some (.dK kvs))\/∃kvs,H p=some (.dT kvs)))\/(T= "set"/\∃S n,H p=some (.set S n))
 |_=>False
theorem pP{pins:List (Addr×Obj)}{σ:St}{H:Hp}{s:Shared}{T:String}{x:V}{v:Value}(I:Inv X pins σ H s)(r:RelV x v)(ty:tyV X.K T x H):
 s.TypeIs v T/\∀a,v= .ref a->∃ob,s.heap.get? a=some ob/\ob.dict=none:=by
 cases x with
 |str z=>
  obtain⟨t,rfl⟩:=r;cases (show T= "str" from ty);exact⟨typeIs_str s z t,fun _ e=>nomatch e⟩
 |int i=>
  obtain⟨t,rfl⟩:=r;cases (show T= "int" from ty);exact⟨typeIs_int s i t,fun _ e=>nomatch e⟩
 |ref p=>
  cases r;rcases ty with⟨rfl,xs,hq⟩|⟨rfl,o,hk,hc,hd⟩|⟨rfl,hk⟩|⟨rfl,S,n,hk⟩
  . refine hZq fun q_ e_=>?_;obtain⟨its,_,pl,_⟩:=I.list hq;subst e_;refine⟨pl.isList.typeIs,fun a e=>?_⟩;cases e;refine hZq fun q_ e_=>?_;obtain⟨o,n,e,c,hd,_⟩:=pl;subst e_;exact⟨o,e,hd⟩
  . refine⟨⟨o,I.kIn p o hk,hc⟩,fun a e=>?_⟩;cases e;exact⟨o,I.kIn _ o hk,hd⟩
  . have z:∃o,s.heap.get? p=some o/\o.ExactDict:=by
     rcases hk with⟨kvs,hk⟩|⟨kvs,hk⟩
     . refine hZq fun q_ e_=>?_;obtain⟨_,_,_,_,o,_,_,e,ex,_⟩:=I.hok p _ hk;subst e_;exact⟨o,e,ex⟩
     . refine hZq fun q_ e_=>?_;obtain⟨_,_,_,_,o,_,_,e,ex,_⟩:=I.hok p _ hk;subst e_;exact⟨o,e,ex⟩
    obtain⟨o,e,ex⟩:=z;refine⟨⟨o,e,ex.1⟩,fun a b=>?_⟩;cases b;exact⟨o,e,ex.2.1⟩
  . refine hZq fun q_ e_=>?_;obtain⟨o,_,_,_,e,ex,_⟩:=I.hok p _ hk;subst e_;refine⟨⟨o,e,ex.1⟩,fun a b=>?_⟩;cases b;exact⟨o,e,ex.2.1⟩
 |_=>exact False.elim ty
def tBM0(K:PySem.W.Frag)(T:String)(r:V->List V->Hp->VK->Prop)(to:TE):TE:=fun σ H Q=>to σ H fun x H1=>tyV K T x H1/\r x [] H1 Q
def tBM(K:PySem.W.Frag)(T:String)(r:V->List V->Hp->VK->Prop)(to:TE)(t:TA):TE:=fun σ H Q=>to σ H fun x H1=>tyV K T x H1/\t σ H1 fun xs H2=>r x xs H2 Q
variable{o e:Expr}{es:List Expr}{to:TE}{t:TA}{name:Str}{apos cpos:Pos}{T id:String}{r:V->List V->Hp->VK->Prop}
theorem wO(pa:PlainAttrs T)(slot:Slot T name id)(hty:typeOf (.builtin id)=pure (.type "method_descriptor"))(hm:MtR X id r)(ho:PE X o to)(hbase:attributeBase o name X.env (eval o X.env)=eval o X.env:=by rfl)(hline:(apos.endLine==cpos.line)=true:=by rfl):PE X (.Call (.Attribute o name apos) [] [] cpos) (tBM0 X.K T r to):=by
 intro pins s σ H Q I h;refine wpAny_Call_method0_late hbase hline (thn (ho pins s σ H _ I h) fun v s1 ⟨x,H1,a,r1,ty,b⟩=>?_);obtain⟨h1,h2⟩:=pP a r1 ty;exact⟨T,id,pa,slot,hty,h1,h2,Calls.callWith_builtin rfl (PySem.evalArgs_none (hm pins s1 σ H1 x [] v [] Q a r1 .nil b))⟩
theorem iO(pa:PlainAttrs T)(slot:Slot T name id)(hty:typeOf (.builtin id)=pure (.type "method_descriptor"))(hm:MtR X id r)(ho:PE X o to)(ha:PA X (e::es) t)(hbase:attributeBase o name X.env (eval o X.env)=eval o X.env:=by rfl)(hfew:((backTo cpos (starEach (e::es) X.env)).all (fun x=> !x.1)&& (backToKw cpos (keywordEach [] X.env)).all (fun x=>x.1.isSome)
  &&decide ((e::es).length+([]:List Keyword).length+(if ([]:List Keyword).isEmpty then 0 else 1) < 30))=true:=by rfl)(hline:(apos.endLine==cpos.line)=true:=by rfl)(hs:starEach (e::es) X.env=(false,eval e X.env)::starEach es X.env:=by rfl)(hplain:(backTo cpos (starEach es X.env)).any (·.1)=false:=by rfl):
 PE X (.Call (.Attribute o name apos) (e::es) [] cpos) (tBM X.K T r to t):=by
 intro pins s σ H Q I h;refine wpAny_Call_method_late hbase hfew hline rfl (thn (ho pins s σ H _ I h) fun v s1 ⟨x,H1,a,r1,ty,f⟩=>?_);obtain⟨h1,h2⟩:=pP a r1 ty;refine⟨T,id,pa,slot,hty,h1,h2,?_⟩;have b:=ha cpos pins s1 σ H1 _ a f;rw[hs]at b ⊢;refine Calls.callWith_builtin (by show(false ||(backTo cpos (starEach es X.env)).any (·.1))=false;rw[hplain]<;>rfl) (Calls.evalArgs_plain ?_)
 exact thn b fun us g ⟨vs,H2,c,r2,d⟩=>hm pins g σ H2 x vs v us Q c r1 r2 d
end
open PySem PySem.Spec PyProof.Rows
def MtM(X:Cx)(id:String)(r:V->List V->Hp->VK->Prop):Prop:=
 ∀(pins:List (Addr×Obj)) (s:Shared) (σ:St) (H:Hp) (x:V) (xs:List V) (v:Value) (us:List Value) (Q:VK),Inv X pins σ H s->RelV x v->Vals xs us->r x xs H Q->
  wpAny (model X.prog X.w) X.A (call (.builtin id) (v::us)) (EP X pins σ Q) X.xe s
theorem Vals.one:∀ {x:V} {us:List Value},Vals [x] us->∃u,us= [u]/\RelV x u
 |_,_, .cons r .nil=>⟨_,rfl,r⟩
theorem Vals.two{x y:V}{us:List Value}(h:Vals [x,y] us):∃u v,us= [u,v]/\RelV x u/\RelV y v:=by
 cases h with
 |cons r t=>cases t with
  |cons q t'=>cases t';exact⟨_,_,rfl,r,q⟩
theorem Vals.zero:∀ {us:List Value},Vals [] us->us= []
 |_, .nil=>rfl
section
variable{X:Cx}{pins:List (Addr×Obj)}{σ:St}{H:Hp}{s:Shared}{l b:Addr}{xs ys zs:List V}
theorem Inv.lset{its its':List Value}{n:Nat}{f:Array Value->Array Value}{t':Nat}(I:Inv X pins σ H s)(hH:H l=some (.lst xs))(e:s.heap.get? l=some {cls:= .type "list",data:= .seq its.toArray n})(hf:f its.toArray=its'.toArray)(hv:Vals ys its')(hz:ys.length<=sizeLine):
 Inv X pins σ (upd H l (.lst ys)) {s with heap:=s.heap.update l (Obj.mapSeq f),toks:=t'}:=by
 have q:=PySem.IsL.update e f;rw[hf]at q;refine I.write (x:=l) (e:=l) (by rw[hH];exact trivial) (.inl rfl) (fun a u hb hu=>(Heap.get?_update_other s.heap (Obj.mapSeq f) (Ne.symm hb)).trans hu) ⟨_,q⟩ ?_
 exact⟨hz,its',_,hv,q⟩
theorem Inv.lnew{its:List Value}{t':Nat}(I:Inv X pins σ H s)(hv:Vals ys its)(hz:ys.length<=sizeLine):
 Inv X pins σ (upd H s.heap.objs.size (.lst ys)) {s with heap:=s.heap.push {cls:= .type "list",data:= .seq its.toArray},toks:=t'}:=
 I.laid (fun _ _ q=>Heap.get?_push_of_some _ q) (zu _) ⟨hz,its,0,hv,Heap.get?_push_size _ rfl⟩
theorem Inv.fresh(I:Inv X pins σ H s):H s.heap.objs.size=none:=I.hok.fresh (zu _)
theorem Inv.lstM(I:Inv X pins σ H s)(hH:H l=some (.lst xs)):xs.length<=sizeLine/\∃(its:List Value) (n:Nat),Vals xs its/\xs.length=its.length/\s.heap.get? l=some {cls:= .type "list",data:= .seq its.toArray n}:=by
 obtain⟨z,its,n,r,e⟩:=I.hok l _ hH;exact⟨z,its,n,r,r.length,e⟩
end
section
variable{X:Cx}
def uW:V->List V->Hp->VK->Prop:=fun x vs H Q=>∃l xs y,x= .ref l/\vs= [y]/\H l=some (.lst xs)/\xs.length < sizeLine/\Q .non (upd H l (.lst (xs++ [y])))
theorem de:MtM X "list.append" uW:=by
 intro pins s σ H x vs v us Q I b rv h;obtain⟨l,xs,y,rfl,rfl,a,hz,q⟩:=h;cases b;obtain⟨u,rfl,c⟩:=rv.one;obtain⟨z,its,n,r,hl,e⟩:=I.lstM a;refine call_meets F.slot_list_append ⟨_,e,rfl⟩ F.entry_list_append (F.args_list_append_2 _ _) (PySem.list_append l its.toArray n u (by rw[zx];omega)) ⟨e,?_⟩
 refine⟨.non,_,I.lset (its':=its++ [u]) a e (by simp) (r.append (.cons c .nil)) ?_,rfl,q⟩
 rw[A6,List.length_singleton];omega
def rCat:R2:=fun x y H Q=>∃l b xs zs,x= .ref l/\y= .ref b/\H l=some (.lst xs)/\H b=some (.lst zs)/\xs.length+zs.length<=sizeLine/\∀p,H p=none->Q (.ref p) (upd H p (.lst (xs++zs)))
theorem eE:OpR X (binaryOp .Add) rCat:=by
 intro pins s σ H x y v u Q I d c h;obtain⟨l,b,xs,zs,rfl,rfl,f,i,hz,q⟩:=h;cases d;cases c;obtain⟨z,its,n,r,hl,e⟩:=I.lstM f;obtain⟨m,a,n2,r2,k,g⟩:=I.lstM i;refine PySem.P.add_list e g ?_ (by rw[zx,zx];omega)
 have j:its.toArray++a.toArray=(its++a).toArray:=by simp
 rw[j];exact⟨.ref _,_,I.lnew (t':=s.toks) (r.append r2) (by rw[A6];omega),rfl,q _ I.fresh⟩
end
section
variable{prog:Program}{w:World}{A:Around}{E:Value->Shared->Prop}{s:Shared}
end
section
variable{X:Cx}
end
end L2
namespace Att
open PySem PySem.W PySem.Calls PyProof.Rows
theorem fT{P:Params}{h:Heap}:∀(ns:List Int) (vs:List Value),WellAll P h vs (ns.map WData.int)->IntsAre vs ns:=by
 intro ns
 induction ns with
 |nil=>
  intro vs w;rw[AJ]at w;cases w;exact .nil
 |cons n ns c=>
  intro vs w;rw[zU]at w
  cases w with
  |cons a b=>
   cases a;exact .cons _ _ (c _ b)
theorem oN{l:OpenLaw}{n:Nat}(hn:l.most=some n){P:Params}{h:Heap}{args:List WData}{vals:List Value}(hpre:l.row.toRowW.claim.pre args=true)(hwl:WellAll P h vals args):
 ∃a vs ns,vals= [Value.ref a]/\args= [WData.list (ns.map WData.int)]/\h.get? a=some {cls:= .type "list",data:= .seq vs.toArray}/\IntsAre vs ns/\ns.length<=n:=by
 have g:WShape.hasAll [] args [.list .int]=true:=(pre_splitW hpre).1;have hc:l.pre.holds [] {args:=args} =true:=(pre_splitW hpre).2;refine hZq fun q_ e_=>?_;obtain⟨d,r,rfl,h1,h2⟩:=hasAllW_cons g;subst e_;obtain rfl:=hasAllW_nil h2;refine hZq fun q_ e_=>?_;obtain⟨xs,rfl,h3⟩:=hasW_list h1;obtain⟨ns,rfl⟩:=items_int h3;subst e_
 have c:ns.length<=n:=by
  unfold OpenLaw.pre at hc
  have f:(WTm.not (.lt (.lit (.int (n:Int))) (.len (.arg 0)))).holds [] {args:= [.list (ns.map .int)]} =true:=by
   have f:=(holds_andW hc).1;rw[hn]at f;exact f
  have e:=condW_of f (w_not (w_lt w_lit (w_len_list (w_arg rfl))));rw[zm]at e;refine Nat.le_of_not_lt fun q=>?_;have k:(n:Int) < ((ns.length:Nat):Int):=by omega
  first
   |(rw[decide_eq_true k]at e;exact absurd e (by decide))
   |(simp at e;omega)
 cases hwl with
 |cons j i=>
  cases i
  cases j with
  |list ho b=>exact⟨_,_,ns,rfl,rfl,ho,fT ns _ b,c⟩
theorem oR(l:OpenLaw)(args:List WData):l.row.toRowW.claim.post args (.bool true) args=true:=
 postW_of (r:=l.row.toRowW) (X:=(true==true))
  (show WShape.has [] (.bool true) .bool=true by first|rfl|decide|simp[WShape.has,WShape.arms,WShape.armsAll])
  (show(WTm.eq .res (.lit (.bool true))).value [] {args:=args,res:=some (.bool true),after:=args} =some (.bool (true==true))from w_eq_bool (w_res rfl) w_lit) rfl
theorem attach_call{l:OpenLaw}{n:Nat}{q:Program}{loose:List Str}{XP:(Str->Option Value)->Heap->Prop}{YP:World->Heap->Prop}{d:DefRec}(hn:l.most=some n)(hdf:d.params.defaults= [])(call:∀(w:World) (s₀ s₁:Shared) (mg mb:Str->Option Value) (fa:Addr) (o:Obj) (pm cd doc:Value) (a:Addr) (vs:List Value) (ns:List Int),
  Ground q loose [] XP w s₀ mg mb s₁.heap->YP w s₁.heap->
  s₁.heap.get? fa=some o->o.data= .func (docDef d.name d.params d.body d.scope pm cd doc)->s₁.heap.CodeRec cd d.name->mg d.name=some (.ref fa)->
  s₁.heap.get? a=some {cls:= .type "list",data:= .seq vs.toArray}->IntsAre vs ns->ns.length<=n->s₁.gens= #[]->
  codeAny (model l.prog w) callerA (.call (.ref fa) ⟨[.ref a],[]⟩) (fun r s'=>r= .ok (.ret (.bool true))/\OldK s₁.heap s'.heap/\s'.os=s₁.os/\AllBare s'.gens) s₁):
 WalkO q loose XP YP l.row.toRowW d [] (fun f vs=>PySem.call f vs):=by
 intro w s₀ s₁ mg mb G Y fa o pm cd doc u kV ho hd j k i p args vals as e m s h t;obtain rfl:u= .none:=Dflts.none k hdf;obtain rfl:kV= .none:=Dflts.noKw k;obtain⟨a,vs,ns,rfl,rfl,c,b,g⟩:=oN hn e h;refine enter_call (codeAny_mono (call w s₀ s₁ mg mb fa o pm cd doc a vs ns G Y ho (fd_plain hd) j i c b g p) fun r s' hq=>?_);obtain⟨rfl,h2,h3,v⟩:=hq;exact⟨.inl ⟨.bool true, .bool true,[],rfl,fun _=>rfl, .bool true,oR l _,fun _=>⟨List.Pairwise.nil,fun _ hm=>(nomatch hm)⟩⟩,h2,h3,v⟩
section
variable{prog:Program}{w:World}{A:Around}{E:Value->Shared->Prop}{s:Shared}{K:Frag}
end
end Att
namespace L2
open PySem PySem.Spec PyProof.Rows
theorem iE:∀ {vs:List Value} {ns:List Int},IntsAre vs ns->Vals (ns.map V.int) vs
 |_,_, .nil=> .nil
 |_,_, .cons n t h=> .cons ⟨t,rfl⟩ (iE h)
def Only(H:Hp):Prop:=∀b,H b=none\/∃o xs,H b=some (.frz o (.lst xs))
open PySem PySem.Spec PyProof.Rows
open PySem PySem.Spec PyProof.Rows
noncomputable def vE(s:Stmt)(j:Nat):Stmt:=match s with
 | .ClassDef _ _ _ body _ _ _ _ _ _ _=>body.getD j (.Pass ⟨0,0,0,0⟩)
 |_=> .Pass ⟨0,0,0,0⟩
noncomputable def bc(s:Stmt):Arguments:=match s with
 | .FunctionDef _ a _ _ _ _ _ _ _ _=>a
 |_=> {posonlyargs:= [],args:= [],vararg:=none,kwonlyargs:= [],kw_defaults:= [],kwarg:=none,defaults:= []}
noncomputable def aP(s:Stmt):List Stmt:=match s with
 | .FunctionDef _ _ b _ _ _ _ _ _ _=>b
 |_=> []
noncomputable def ag(s:Stmt):Scope:=match s with
 | .FunctionDef _ _ _ _ _ _ sc _ _ _=>sc
 |_=> {kind:= .function,names:= [],isGenerator:=false,isCoroutine:=false}
abbrev CX0:CXT:=fun _ _ _ _ _ _=>False
abbrev E0:XK:=fun _ _ _=>False
theorem gX{X:Cx}:iy CX0 X E0:=fun _ _ _ _ _ _ _ h=>h.elim
structure Fun (K:PySem.W.Frag) (x qual:Str) (st:Stmt) (f:Addr) (fd:FuncData):Prop where
 ex:∃(oc:Value) (od:Option Addr) (kV doc pm:Value) (an:Option Addr) (cdv ct:Value) (osl:Array (Option Value)),
  fd=PySem.W.fnOf x qual (bc st) (aP st) (ag st) .none kV doc pm an cdv ct/\K.lookup f=some ⟨oc,od, .func fd,osl⟩/\PySem.W.codeIn K cdv qual=true
 kp:PySem.W.keepIn K (.ref f)=true
section
variable{P:Program}{w:World}{K:PySem.W.Frag}{mg:Str->Option Value}{base:Heap}
theorem Fun.ok{x qual:Str}{st:Stmt}{f:Addr}{fd:FuncData}{N ps:List Str}{k:Nat}{sp:Sp}(F:Fun K x qual st f fd)(S:FnScope N ps (ag st))(len:∀vs H Q E,sp vs H Q E->vs.length=ps.length)(hbody:∀(cdv:Value) (A:Around) (outer:List Env) (s:Shared) (H:Hp) (vs:List V) (Q:VK) (E:XK),Room k (A.deeper (envOfC qual (ag st) s.heap.objs.size f cdv))->sp vs H Q E->
  ∃t,PSs (cxOf CX0 P w K mg base N qual (ag st) f cdv A outer s H E).nox (aP st) t/\t {nx:=fun _ H'=>Q .non H',rt:=Q} (eS N vs) H):FnOk P w K mg base CX0 (k+1) f fd ps sp:=by
 obtain⟨e,g,kV,c,pm,an,cdv,ct,d,rfl,lk,a⟩:=F.ex;refine wm lk a S len fun A outer s H vs Q E hr b=>?_;obtain⟨t,h,q⟩:=hbody cdv A outer s H vs Q E hr b;exact⟨t,h.nox,q⟩
theorem Fun.binds{x qual:Str}{st:Stmt}{f:Addr}{fd:FuncData}{ps:List Str}(F:Fun K x qual st f fd)(h:∀(kV doc pm:Value) (an:Option Addr) (cdv ct:Value) (us:List Value),us.length=ps.length->bindArgs (PySem.W.fnOf x qual (bc st) (aP st) (ag st) .none kV doc pm an cdv ct) ⟨us,[]⟩=pure (ps.zip us)):Binds K fd ps []:=by
 obtain⟨d,c,kV,doc,pm,an,cdv,ct,a,rfl,lk,b⟩:=F.ex;exact .all (h kV doc pm an cdv ct)
theorem yc{x qual:Str}{st:Stmt}{f:Addr}{oc:Value}{od an:Option Addr}{osl:Array (Option Value)}{kV doc pm cdv ct:Value}(l:K.lookup f=some ⟨oc,od, .func (PySem.W.fnOf x qual (bc st) (aP st) (ag st) .none kV doc pm an cdv ct),osl⟩)(c:PySem.W.codeIn K cdv qual=true)(k:PySem.W.keepIn K (.ref f)=true):Fun K x qual st f (PySem.W.fnOf x qual (bc st) (aP st) (ag st) .none kV doc pm an cdv ct):=⟨⟨oc,od,kV,doc,pm,an,cdv,ct,osl,rfl,l,c⟩,k⟩
end
theorem tL{A:Around}{k:Nat}(hr:Room k A):A.units+1 < cLine:=zZ (AB (by decide:1<=64) _) hr.units
section
variable{X:Cx}
theorem pv(i:Nat){x:Str}{pos:Pos}(hN:X.N[i]?=some x:=by rfl)(hv:Vis X.env.scope x:=by first|exact Or.inl rfl|exact Or.inr (Or.inl rfl)|exact Or.inr (Or.inr rfl))(hd:(x==("__debug__":Str))=false:=by decide)(hcd:(x==("__classdict__":Str))=false:=by decide):PE X (.Name x pos) (tVar i):=sk hN hv hd hcd
end
theorem iteF{A B:Prop}(h:B):if false=true then A else B:=by
 rw[if_neg zX];exact h
theorem iteT{A B:Prop}(h:A):if true=true then A else B:=by
 rw[if_pos rfl];exact h
theorem ite2{c A B:Prop}[Decidable c](h1:c->A)(h2:¬c->B):if c then A else B:=by
 by_cases h:c
 . rw[if_pos h];exact h1 h
 . rw[if_neg h];exact h2 h
def Same(H H':Hp):Prop:=∀b o,H b=some o->H' b=some o
theorem Same.refl(H:Hp):Same H H:=fun _ _ h=>h
theorem Same.trans{H H1 H2:Hp}(a:Same H H1)(b:Same H1 H2):Same H H2:=fun c o h=>b c o (a c o h)
theorem Same.free{H H':Hp}(e:Same H H'){l:Addr}(h:H' l=Option.none):H l=Option.none:=by
 cases q:H l with
 |none=>rfl
 |some o=>
  rw[e l o q]at h;cases h
end L2
namespace Srt
open PySem PySem.W PyProof.Rows
structure Ord (lt:Nat->Nat->Bool):Prop where
 asym:∀a b,lt a b=true->lt b a=false
 tr:∀a b c,lt b a=false->lt c b=false->lt c a=false
theorem Ord.refl{lt:Nat->Nat->Bool}(O:Ord lt)(a:Nat):lt a a=false:=by
 cases e:lt a a with
 |false=>rfl
 |true=>exact(O.asym a a e).symm.trans e |>.symm
theorem Ord.up{lt:Nat->Nat->Bool}(O:Ord lt){a b c:Nat}(h:lt a b=true)(h2:lt c b=false):lt a c=true:=by
 cases e:lt a c with
 |true=>rfl
 |false=>
  have:=O.tr b c a h2 e;rw[h]at this;cases this
def Tri{α:Type}(lt:Nat->Nat->Bool)(N:Nat)(Post:α->Prop):KasT α->Prop
 | .ret a=>Post a
 | .ask i j k=>i < N/\j < N/\Tri lt N Post (k (lt i j))
variable{lt:Nat->Nat->Bool}{N:Nat}
theorem cS{α β:Type}{Post:β->Prop}{f:α->KasT β}:∀ {t:KasT α},Tri lt N (fun a=>Tri lt N Post (f a)) t->Tri lt N Post (t.bind f)
 | .ret a,h=>h
 | .ask i j k,h=>⟨h.1,h.2.1,cS h.2.2⟩
theorem bv{α:Type}{P Q:α->Prop}(hPQ:∀a,P a->Q a):∀ {t:KasT α},Tri lt N P t->Tri lt N Q t
 | .ret a,h=>hPQ a h
 | .ask i j k,h=>⟨h.1,h.2.1,bv hPQ h.2.2⟩
theorem pR{α:Type}{cmp:Nat->Nat->(Bool->Shared->Prop)->Shared->Prop}{G:Shared->Prop}{Post:α->Prop}{Q:α->Shared->Prop}(hc:∀i j (R:Bool->Shared->Prop) s,i < N->j < N->G s->(∀s',G s'->R (lt i j) s')->cmp i j R s)(hQ:∀a s,Post a->G s->Q a s):∀ {t:KasT α} {s:Shared},Tri lt N Post t->G s->t.kasWp cmp Q s
 | .ret a,s,h,g=>hQ a s h g
 | .ask i j k,s,h,g=>hc i j _ s h.1 h.2.1 g fun s' g'=>pR hc hQ h.2.2 g'
def g(p:Array Nat)(k:Nat):Nat:=p.getD k 0
def Pm(N:Nat)(p:Array Nat):Prop:=p.toList.Perm (List.range N)
theorem Pm.size{p:Array Nat}(h:Pm N p):p.size=N:=by
 have:=h.length_eq;rw[Ae,Aj]at this;exact this
theorem cg{p:Array Nat}(k:Nat):g p k=(p[k]?).getD 0:=by
 unfold g;rw[Array.getD_eq_getD_getElem?]
theorem Pm.bd{p:Array Nat}(h:Pm N p){k:Nat}(hk:k < N):g p k < N:=by
 have hs:=h.size;have:p[k]?=some (p[k]'(by omega)):=Ao _
 rw[cg,this];have m:p[k]'(by omega)∈p.toList:=Array.mem_toList_iff.mpr (Array.getElem_mem _)
 exact Af.mp (h.mem_iff.mp m)
theorem Pm.of{p q:Array Nat}(h:Pm N p)(e:q.Perm p):Pm N q:=(Array.perm_iff_toList_perm.mp e).trans h
theorem Pm.rev{p:Array Nat}(h:Pm N p)(i j:Nat):Pm N (kas_rev p i j):=h.of (mirror_perm _ _ _ _)
theorem eA{p:Array Nat}{i j:Nat}(hj:j<=p.size)(k:Nat):g (kas_rev p i j) k=if i<=k/\k < j then g p (i+j - 1 - k)else g p k:=by
 rw[cg];unfold kas_rev;rw[getElem?_mirror_all hj];split<;>rw[cg]
theorem zc{p:Array Nat}{src d:Nat}(hs:src < p.size)(hd:d<=src)(k:Nat):g (bubble p src d) k=if k=src - d then g p src else if src - d < k/\k<=src then g p (k - 1)else g p k:=by
 rw[cg,getElem?_bubble hs d hd];split
 . rw[cg]
 . split<;>rw[cg]
def Up(lt:Nat->Nat->Bool)(p:Array Nat)(n:Nat):Prop:=∀i j,i<=j->j < n->lt (g p j) (g p i)=false
def Dn(lt:Nat->Nat->Bool)(p:Array Nat)(n:Nat):Prop:=∀i j,i<=j->j < n->lt (g p i) (g p j)=false
theorem uB(O:Ord lt){p:Array Nat}{n:Nat}(h0:1<=n)(h:Up lt p n)(e:lt (g p n) (g p (n - 1))=false):Up lt p (n+1):=by
 intro i j a d;by_cases q:j < n
 . exact h i j a q
 . have b:j=n:=by omega
   subst b;by_cases c:i=j
   . subst c;exact O.refl _
   . exact O.tr _ _ _ (h i (j - 1) (by omega) (by omega)) e
theorem eY(O:Ord lt){p:Array Nat}{n:Nat}(h0:1<=n)(h:Dn lt p n)(e:lt (g p (n - 1)) (g p n)=false):Dn lt p (n+1):=by
 intro i j a d;by_cases q:j < n
 . exact h i j a q
 . have b:j=n:=by omega
   subst b;by_cases c:i=j
   . subst c;exact O.refl _
   . exact O.tr _ _ _ e (h i (j - 1) (by omega) (by omega))
theorem wu{p:Array Nat}{n:Nat}(hn:n<=p.size)(h:Dn lt p n):Up lt (kas_rev p 0 n) n:=by
 intro i j a b;rw[eA hn,eA hn,if_pos ⟨zY _,b⟩,if_pos ⟨zY _,by omega⟩]
 exact h _ _ (by omega) (by omega)
theorem qw(O:Ord lt){p:Array Nat}(hp:Pm N p):∀(f n:Nat),1<=n->n+f<=N->Up lt p n->Tri lt N (fun m=>n<=m/\m<=n+f/\Up lt p m/\(m < n+f->lt (g p m) (g p (m - 1))=true)) (kas_asc p f n)
 |0,n,h1,h2,h=>⟨zu _,zu _,h,fun q=>absurd q (by omega)⟩
 |f+1,n,h1,h2,h=>by
  refine⟨Pm.bd hp (by omega),Pm.bd hp (by omega),?_⟩
  show Tri lt N _ (if lt (g p n) (g p (n - 1))=true then .ret n else kas_asc p f (n+1));by_cases e:lt (g p n) (g p (n - 1))=true
  . rw[if_pos e];exact⟨zu _,by omega,h,fun _=>e⟩
  . rw[if_neg e];refine bv (fun m hm=>?_) (qw O hp f (n+1) (by omega) (by omega) (uB O h1 h (by simpa using e)))
    exact⟨by omega,by omega,hm.2.2.1,fun q=>hm.2.2.2 (by omega)⟩
def Eqv(lt:Nat->Nat->Bool)(p:Array Nat)(n q:Nat):Prop:=∀k,n - 1 - q<=k->k < n->lt (g p k) (g p (n - 1))=false/\lt (g p (n - 1)) (g p k)=false
theorem kS(O:Ord lt){p:Array Nat}{n q:Nat}(hn:n<=p.size)(hq:q+1<=n)(h:Dn lt p n)(he:Eqv lt p n q):Dn lt (kas_rev p (n - (q+1)) n) n:=by
 intro i j b a;rw[eA hn,eA hn];by_cases d:n - (q+1)<=i
 . rw[if_pos ⟨d,by omega⟩,if_pos ⟨by omega,a⟩]
   obtain⟨c,f⟩:=he (n - (q+1)+n - 1 - i) (by omega) (by omega)
   obtain⟨b1,b2⟩:=he (n - (q+1)+n - 1 - j) (by omega) (by omega)
   exact O.tr _ _ _ b2 c
 . rw[if_neg (by omega)]
   by_cases e:n - (q+1)<=j
   . rw[if_pos ⟨e,a⟩];exact h _ _ (by omega) (by omega)
   . rw[if_neg (by omega)]
     exact h _ _ b a
theorem jk(O:Ord lt):∀(f:Nat) (p:Array Nat) (n q:Nat),Pm N p->1<=n->n+f<=N->q+1<=n->Dn lt p n->Eqv lt p n q->
 Tri lt N (fun r=>Pm N r.1/\n<=r.2.1/\r.2.1<=n+f/\r.2.2+1<=r.2.1/\Dn lt r.1 r.2.1/\Eqv lt r.1 r.2.1 r.2.2) (kas_desc f p n q)
 |0,p,n,q,hp,h1,h2,hq,h,he=>⟨hp,zu _,zu _,hq,h,he⟩
 |f+1,p,n,q,hp,h1,h2,hq,h,he=>by
  have hs:=hp.size;refine⟨Pm.bd hp (by omega),Pm.bd hp (by omega),?_⟩
  show Tri lt N _ (if lt (g p n) (g p (n - 1))=true then(if q > 0 then kas_desc f (kas_rev p (n - (q+1)) n) (n+1) 0 else kas_desc f p (n+1) 0)else .ask (g p (n - 1)) (g p n) fun d=>if d=true then .ret (p,n,q)else kas_desc f p (n+1) (q+1))
  have one:∀l:Array Nat,Eqv lt l (n+1) 0:=fun l k k1 k2=>by
   have:k=n:=by omega
   subst this;exact⟨O.refl _,O.refl _⟩
  by_cases e:lt (g p n) (g p (n - 1))=true
  . rw[if_pos e];have e':=O.asym _ _ e;by_cases c:q > 0
    . rw[if_pos c];have d1:=kS O (by omega) hq h he
      have o:Dn lt (kas_rev p (n - (q+1)) n) (n+1):=by
       refine eY O h1 d1 ?_;rw[eA (by omega),eA (by omega),if_pos ⟨by omega,by omega⟩,if_neg (by omega)]
       obtain⟨b,i⟩:=he (n - (q+1)+n - 1 - (n - 1)) (by omega) (by omega)
       exact O.tr _ _ _ e' b
      refine bv (fun r hr=>?_) (jk O f _ (n+1) 0 (hp.rev _ _) (by omega) (by omega) (by omega) o (one _))
      exact⟨hr.1,by omega,by omega,hr.2.2.2⟩
    . rw[if_neg c];refine bv (fun r hr=>?_) (jk O f p (n+1) 0 hp (by omega) (by omega) (by omega) (eY O h1 h e') (one _))
      exact⟨hr.1,by omega,by omega,hr.2.2.2⟩
  . rw[if_neg e];have e1:lt (g p n) (g p (n - 1))=false:=by simpa using e
    refine⟨Pm.bd hp (by omega),Pm.bd hp (by omega),?_⟩
    show Tri lt N _ (if lt (g p (n - 1)) (g p n)=true then .ret (p,n,q)else kas_desc f p (n+1) (q+1));by_cases a:lt (g p (n - 1)) (g p n)=true
    . rw[if_pos a];exact⟨hp,zu _,(by show n<=n+(f+1);omega),hq,h,he⟩
    . rw[if_neg a];have j:lt (g p (n - 1)) (g p n)=false:=by simpa using a
      refine bv (fun r hr=>?_) (jk O f p (n+1) (q+1) hp (by omega) (by omega) (by omega) (eY O h1 h j) fun k k1 k2=>?_)
      . exact⟨hr.1,by omega,by omega,hr.2.2.2⟩
      . show lt (g p k) (g p n)=false/\lt (g p n) (g p k)=false;by_cases m:k=n
        . subst m;exact⟨O.refl _,O.refl _⟩
        . obtain⟨b,i⟩:=he k (by omega) (by omega)
          exact⟨O.tr _ _ _ j b,O.tr _ _ _ i e1⟩
theorem qu(O:Ord lt){p:Array Nat}{n:Nat}(hp:Pm N p)(h1:1<=n)(hn:n<=N)(h:Dn lt p n):Tri lt N (fun r=>Pm N r.2/\1<=r.1/\r.1<=N/\Up lt r.2 r.1) (kas_tail3 n N p):=by
 unfold kas_tail3;refine cS (bv (fun m hm=>?_) (qw O (hp.rev 0 n) (N - n) n h1 (by omega) (wu (by rw[hp.size];exact hn) h)))
 exact⟨hp.rev 0 n,by omega,by omega,hm.2.2.1⟩
theorem gx(O:Ord lt){p:Array Nat}{n:Nat}(hp:Pm N p)(hn:n+1<=N)(h:Dn lt p (n+1)):Tri lt N (fun r=>Pm N r.2/\1<=r.1/\r.1<=N/\Up lt r.2 r.1) (kas_descPart n N p):=by
 unfold kas_descPart;refine cS (bv (fun r hr=>?_) (jk O (N - (n+1)) p (n+1) 0 hp (by omega) (by omega) (by omega) h fun k k1 k2=>?_))
 . obtain⟨a,e,f,c,b,d⟩:=hr;split
   . exact qu O (a.rev _ _) (by omega) (by omega) (kS O (by rw[a.size];omega) c b d)
   . exact qu O a (by omega) (by omega) b
 . have:k=n:=by omega
   subst this;exact⟨O.refl _,O.refl _⟩
theorem uI(O:Ord lt){p:Array Nat}(hp:Pm N p)(hN:1<=N):Tri lt N (fun r=>Pm N r.2/\1<=r.1/\r.1<=N/\Up lt r.2 r.1) (kas_count N p):=by
 unfold kas_count
 have k:Up lt p 1:=fun i j b c=>by
  have:i=0:=by omega
  have:j=0:=by omega
  subst_vars
  exact O.refl _
 refine cS (bv (fun n hn=>?_) (qw O hp (N - 1) 1 (zu _) (by omega) k))
 refine hZq fun q_ e_=>?_;obtain⟨b1,b2,b3,f⟩:=hn;subst e_;by_cases e:(n==N)=true
 . rw[if_pos e];exact⟨hp,b1,by omega,b3⟩
 . rw[if_neg e];have e':n≠N:=by simpa using e
   have l1:=f (by omega)
   by_cases n1:n > 1
   . rw[if_pos n1];refine⟨Pm.bd hp (by omega),Pm.bd hp (by omega),?_⟩
     show Tri lt N _ (if lt (g p 0) (g p (n - 1))=true then .ret (n,p)else kas_descPart n N (kas_rev p 0 n));by_cases d:lt (g p 0) (g p (n - 1))=true
     . rw[if_pos d];exact⟨hp,b1,by omega,b3⟩
     . rw[if_neg d];have h:lt (g p 0) (g p (n - 1))=false:=by simpa using d
       have a:∀i j,i < n->j < n->lt (g p i) (g p j)=false:=fun i j hi c=>
        O.tr (g p j) (g p 0) (g p i) (O.tr _ _ _ (b3 j (n - 1) (by omega) (by omega)) h) (b3 0 i (zY _) hi)
       have hs:=hp.size;refine gx O (hp.rev 0 n) (by omega) (eY O (by omega) (fun i j b c=>?_) ?_)
       . rw[eA (by omega),eA (by omega),if_pos ⟨zY _,by omega⟩,if_pos ⟨zY _,c⟩]
         exact a _ _ (by omega) (by omega)
       . rw[eA (by omega),eA (by omega),if_pos ⟨zY _,by omega⟩,if_neg (by omega)]
         exact O.tr _ _ _ (O.asym _ _ l1) (a _ _ (by omega) (by omega))
   . rw[if_neg n1];have en:n=1:=by omega
     subst en;refine gx O hp (by omega) (eY O (zu _) (fun i j b c=>?_) (O.asym _ _ l1))
     have:i=0:=by omega
     have:j=0:=by omega
     subst_vars
     exact O.refl _
theorem jj(O:Ord lt){p:Array Nat}{k:Nat}(hp:Pm N p)(hk:k < N)(h:Up lt p k):∀(f l r:Nat),l<=r->r<=k->r - l<=f->(∀i,i < l->lt (g p k) (g p i)=false)->(∀i,r<=i->i < k->lt (g p k) (g p i)=true)->
 Tri lt N (fun m=>m<=k/\(∀i,i < m->lt (g p k) (g p i)=false)/\∀i,m<=i->i < k->lt (g p k) (g p i)=true) (kas_place p k f l r)
 |0,l,r,h1,h2,h3,a,b=>by
  have:l=r:=by omega
  subst this;exact⟨h2,a,b⟩
 |f+1,l,r,h1,h2,h3,a,b=>by
  show Tri lt N _ (if l>=r then .ret l else .ask (p.getD k 0) (p.getD ((l+r) / 2) 0) fun c=>if c=true then kas_place p k f l ((l+r) / 2)else kas_place p k f ((l+r) / 2+1) r);by_cases e:l>=r
  . rw[if_pos e];have:l=r:=by omega
    subst this;exact⟨h2,a,b⟩
  . rw[if_neg e];refine⟨Pm.bd hp hk,Pm.bd hp (by omega),?_⟩
    show Tri lt N _ (if lt (g p k) (g p ((l+r) / 2))=true then kas_place p k f l ((l+r) / 2)else kas_place p k f ((l+r) / 2+1) r);by_cases c:lt (g p k) (g p ((l+r) / 2))=true
    . rw[if_pos c];refine jj O hp hk h f l ((l+r) / 2) (by omega) (by omega) (by omega) a fun i i1 i2=>?_
      by_cases q:r<=i
      . exact b i q i2
      . exact O.up c (h _ _ i1 i2)
    . rw[if_neg c];have d:lt (g p k) (g p ((l+r) / 2))=false:=by simpa using c
      refine jj O hp hk h f ((l+r) / 2+1) r (by omega) h2 (by omega) (fun i i1=>?_) b
      exact O.tr _ _ _ (h i ((l+r) / 2) (by omega) (by omega)) d
theorem vX(O:Ord lt):∀(f:Nat) (p:Array Nat) (k:Nat),Pm N p->k+f<=N->Up lt p k->Tri lt N (fun q=>Pm N q/\Up lt q (k+f)) (kas_bin f p k)
 |0,p,k,hp,_,h=>⟨hp,h⟩
 |f+1,p,k,hp,hk,h=>by
  have hs:=hp.size;show Tri lt N _ ((kas_place p k k 0 k).bind fun l=>kas_bin f (bubble p k (k - l)) (k+1));refine cS (bv (fun l hl=>?_) (jj O hp (by omega) h k 0 k (zY _) (zu _) (by omega) (fun i hi=>absurd hi (by omega)) fun i h1 h2=>absurd h1 (by omega)))
  obtain⟨l1,l2,m⟩:=hl;have e:k - (k - l)=l:=by omega
  have hb:∀i,g (bubble p k (k - l)) i=if i=l then g p k else if l < i/\i<=k then g p (i - 1)else g p i:=fun i=>by
   rw[zc (by omega) (by omega),e]
  have u:Up lt (bubble p k (k - l)) (k+1):=by
   intro i j b n;rw[hb,hb];by_cases d:j=l
   . rw[if_pos d];by_cases a:i=l
     . rw[if_pos a];exact O.refl _
     . rw[if_neg a,if_neg (by omega)]
       exact l2 i (by omega)
   . rw[if_neg d];by_cases c:l < j/\j<=k
     . rw[if_pos c];by_cases a:i=l
       . rw[if_pos a];exact O.asym _ _ (m (j - 1) (by omega) (by omega))
       . rw[if_neg a];by_cases i2:l < i/\i<=k
         . rw[if_pos i2];exact h _ _ (by omega) (by omega)
         . rw[if_neg i2];exact h _ _ (by omega) (by omega)
     . rw[if_neg c,if_neg (by omega),if_neg (by omega)]
       exact h _ _ b (by omega)
  refine bv (fun q hq=>?_) (vX O f _ (k+1) (hp.of (bubble_perm _ _ _)) (by omega) u)
  rw[show k+(f+1)=k+1+f by omega]
  exact hq
theorem wA(O:Ord lt)(hN:1<=N):Tri lt N (fun p=>Pm N p/\Up lt p N) (kas_sort N):=by
 unfold kas_sort
 have h0:Pm N (List.toArray (List.range N)):=by
  unfold Pm;simp
 refine cS (bv (fun r hr=>?_) (uI O h0 hN));obtain⟨b,d,f,a⟩:=hr;by_cases e:r.1 < N
 . rw[if_pos e];have c:max r.1 1=r.1:=by omega
   rw[c];have:=vX O (N - r.1) r.2 r.1 b (by omega) a
   rw[show r.1+(N - r.1)=N by omega]at this
   exact this
 . rw[if_neg e];have:r.1=N:=by omega
   rw[this]at a;exact⟨b,a⟩
end Srt
namespace L2
open PySem
section
variable{M:Model}{prog:Program}{w:World}{A:Around}{E:Value->Shared->Prop}{h:Heap}{g:Array GenState}{d:Drawn}{t:Nat}{os:OsState}
variable{nm q:Str}{C N:Addr}{bs bm bmB:List Value}{hdct:Bool}{sn:List Str}{sub:List Value}{ab:Bool}{col:Option Bool}{dd:Option Addr}{k0 k1 k2 k3 k5:Option Value}{B newId initId:String}
end
end L2
namespace L2
section
open PySem
variable{prog:Program}{w:World}{A:Around}{E:Value->Shared->Prop}{h:Heap}{g:Array GenState}{d:Drawn}{t:Nat}{os:OsState}
variable{nm q:Str}{C N:Addr}{bs bm bmB:List Value}{hdct:Bool}{sn:List Str}{sub:List Value}{ab:Bool}{col:Option Bool}{dd:Option Addr}{k0 k1 k2 k3 k5:Option Value}{B newId nid initId:String}
end
open PySem PySem.Spec PyProof.Rows
section
variable{X:Cx}{CX:CXT}{k:Nat}{f C:Addr}{fd:FuncData}{ps:List Str}{sp:Sp}{E:XK}{x:Str}{p pos apos:Pos}{e:Expr}{es:List Expr}{t:TA}
end
open PySem PySem.Spec PyProof.Rows
section
variable{X:Cx}{C fI:Addr}{E:XK}{pos:Pos}{ce:Expr}{te:TE}
end
end L2
namespace L2
section
open PySem PySem.W Builtin Builtin.ObjectAttr Builtin.Getset_descriptor
variable{prog:Program}{w:World}{A:Around}{E:Value->Shared->Prop}{h:Heap}{g:Array GenState}{d:Drawn}{t:Nat}{os:OsState}{a C:Addr}{o:Obj}{K:Frag}
structure XIs (K:Frag) (C:Addr):Prop where
 cls:(clsIn K C).isSome=true
 ga:findIn K (.ref C) "__getattribute__"=some (some (.builtin "BaseException.__getattribute__"))
 hook:findIn K (.ref C) "__getattr__"=some none
 cl:findIn K (.ref C) "__class__"=some (some (.builtin "object.__class__"))
 mo:mroIn K C (.type "object")=some true
 mb:mroIn K C (.type "BaseException")=some true
theorem fq{M:Model}{n:Str}{r:Option Value}{Q:Option Value->Shared->Prop}(X:K.In h)(e:findIn K (.ref C) n=some r)(z:Q r ⟨h,g,d,t,os⟩):wpAny M A (typeLookup (.ref C) n) Q E ⟨h,g,d,t,os⟩:=
 (looks_findIn (M:=M) X e).at z
theorem t8{M:Model}{b:Value}{r:Bool}{Q:Bool->Shared->Prop}(X:K.In h)(e:mroIn K C b=some r)(z:Q r ⟨h,g,d,t,os⟩):wpAny M A (isSubtype (.ref C) b) Q E ⟨h,g,d,t,os⟩:=
 (looks_mroIn (M:=M) X e).at z
theorem iC{R:Result->Shared->Prop}{tp:Value}(Z:XIs K C)(X:K.In h)(hx:h.get? a=some o)(hc:o.cls= .ref C)(z:R (.ok (.ret (.ref C))) ⟨h,g,d,t,os⟩):
 codeAny (model prog w) A (.call (.builtin "getset_descriptor.__get__") ⟨[.builtin "object.__class__", .ref a,tp],[]⟩) R ⟨h,g,d,t,os⟩:=by
 have c:Looks (model prog w) h (typeOf (.ref a)) (.ref C):=by
  have:=((Looks.ld (M:=model prog w) (part:=some headPart) hx).andThen (f:=fun o=>pure o.cls) .now);rw[hc]at this;exact this
 have b:=looks_mroIn (M:=model prog w) X Z.mo;refine codeAny_call_builtin KF.slot_gs.plain KF.entry_gs (KF.slot_gs.check _ _ _ _ _ _ _ _ KF.type_class (KF.args_gs _ _ _) ?_);unfold Builtin.«getset_descriptor.__get__» descrGet;rw[dga_obj];refine wpAny_bind (wpAny_pure ?_);unfold descrGetter descrCheckInstance descrNameAndClass isInstance;simp only[KF.owner_class]
 repeat lk
 refine⟨Code.quiet_builtin _ (by decide +kernel),codeAny_builtin KF.entry_class ?_⟩
 unfold Builtin.«object.__class__» shownTypeOf
 repeat lk
 exact z
theorem xF{M:Model}{nv:Value}{Q:Unit->Shared->Prop}(Z:XIs K C)(X:K.In h)(hx:h.get? a=some o)(hc:o.cls= .ref C)(z:Q () ⟨h,g,d,t,os⟩):
 wpAny M A (checkBuiltinCall "BaseException.__getattribute__" ⟨[.ref a,nv],[]⟩) Q E ⟨h,g,d,t,os⟩:=by
 have hk:builtinKind "BaseException.__getattribute__"=some .slot:=by decide +kernel
 have hs:splitId "BaseException.__getattribute__"=some ("BaseException","__getattribute__"):=by decide +kernel
 have ha:=PySem.F.args_bexc_ga (.ref a) nv;simp only[checkBuiltinCall,hk,hs];refine wpAny_bind ?_;unfold isInstance
 repeat
  first
  |(with_reducible refine wpAny_loadPart_at hx ?_;rw[hc])
  |with_reducible refine t8 X Z.mb ?_
  |wp_step
 exact z
theorem pE{Q:Option Value->Shared->Prop}(Z:XIs K C)(X:K.In h)(hx:h.get? a=some o)(hc:o.cls= .ref C)(z:Q (some (.ref C)) ⟨h,g,d,t+1,os⟩):
 wpAny (model prog w) A (getAttr? (.ref a) "__class__") Q E ⟨h,g,d,t,os⟩:=by
 have c:=PySem.F.excAttr_ValueError.ga.bind (.ref a);have b2:(Value.builtin "BaseException.__getattribute__"==Value.builtin "object.__getattribute__")=false:=by decide +kernel
 have b1:(onTheHeap (Value.ref C)&&Value.builtin "BaseException.__getattribute__"==Value.builtin "object.__getattribute__")=false:=by rw[b2];rfl
 have i:=PySem.F.typeOf_object_class;have f:=PySem.F.slot_gs_get.lookup;have e:=PySem.F.slot_gs_set.lookup;have b:(⟨h,g,d,t+1,os⟩:Shared).TypeIs (.builtin "object.__class__") "getset_descriptor":=PySem.F.typeOf_object_class;unfold getAttr? getAttrBy?;refine wpAny_bind (wpAny_mkText (wpAny_bind (wpAny_attempt ?_)));unfold getAttrBy
 repeat
  any_goals
   first
   |assumption
   |(with_reducible refine wpAny_loadPart_at hx ?_;rw[hc])
   |with_reducible refine fq X Z.ga ?_
   |with_reducible refine fq X Z.hook ?_
   |wp_step
 refine codeAny_call_builtin PySem.F.excAttr_ValueError.ga.plain PySem.F.entry_bexc_ga (xF Z X hx hc ?_)
 repeat
  any_goals
   first
   |assumption
   |(with_reducible refine wpAny_loadPart_at hx ?_;rw[hc])
   |with_reducible refine fq X Z.cl ?_
   |wp_step
 refine iC Z X hx hc ?_
 repeat
  any_goals
   first
   |assumption
   |wp_step
end
end L2
namespace L2
open PySem PySem.Spec PyProof.Rows
noncomputable def Cau(C a:Addr):HO:= .ext fun h=>∃o,h.get? a=some o/\o.cls= .ref C
theorem tG{K:PySem.W.Frag}{C a:Addr}(Z:XIs K C):PySem.W.KitX K (.ref a) (.ref C) (fun h=>∃o,h.get? a=some o/\o.cls= .ref C) where
 ty:=fun M h _ ⟨o,e,c⟩=>by
  have:=((PySem.W.Looks.ld (M:=M) (part:=some headPart) e).andThen (f:=fun o=>pure o.cls) .now);rw[c]at this;exact this
 it:=fun M h X _=>by
  have hc:=Z.cls;unfold PySem.W.clsIn at hc;split at hc
  . rename_i ho;intro i j l s' k q;unfold isType loadHead;exact wpAny_bind (wpAny_loadPart (k _ _ (X _ _ ho)) (wpAny_pure q))
  . cases hc
 ne:=fun h tp dd its n sl X b=>by
  have hc:=Z.cls;refine Bool.eq_false_iff.mpr fun q=>?_;have e:C=tp:=Value.ref.inj (beq_iff_eq.mp q);subst e;unfold PySem.W.clsIn at hc;split at hc
  . rename_i ho;cases (X _ _ ho).symm.trans b
  . cases hc
 ca:=fun{prog w A E Q s} X ⟨o,e,c⟩ k=>by
  obtain⟨h,g,d,t,os⟩:=s;exact pE Z X e c k
noncomputable def clsV:V->Value
 | .ty n=> .type n
 | .ref a=> .ref a
 |_=> .none
def oj:V->Bool
 | .ty _=>true
 | .ref _=>true
 |_=>false
theorem oA{x:V}{u:Value}(r:RelV x u)(h:oj x=true):u=clsV x:=by
 cases x with
 |ty n=>exact r
 |ref a=>exact r
 |_=>cases h
theorem lA:∀ {xs:List V} {us:List Value},Vals xs us->xs.all oj=true->us=xs.map clsV
 |_,_, .nil,_=>rfl
 |_,_, .cons r t,h=>by
  rw[List.all_cons,AL]at h;rw[oA r h.1,lA t h.2,zU]
inductive TyX (K:PySem.W.Frag) (H:Hp):V->Value->Prop where
 |of {x:V} {t:Value} (h:TyOf K H x t):TyX K H x t
 |exc {a C:Addr} (e:H a=some (Cau C a)) (Z:XIs K C):TyX K H (.ref a) (.ref C)
section
variable{X:Cx}
theorem TyX.kit{pins:List (Addr×Obj)}{σ:St}{H:Hp}{s:Shared}{x:V}{u t:Value}(I:Inv X pins σ H s)(rx:RelV x u)(ty:TyX X.K H x t):∃Hh,PySem.W.KitX X.K u t Hh/\Hh s.heap/\u≠ .builtin "__main__.__loader__#opaque":=by
 cases ty with
 |of ty=>
  cases ty with
  |non=>cases (show u=Value.none from rx);exact⟨_,PySem.W.kitx_none,True.intro,fun z=>nomatch z⟩
  |bl y=>cases (show u=Value.bool y from rx);exact⟨_,PySem.W.kitx_bool,True.intro,fun z=>nomatch z⟩
  |int i=>obtain⟨t,q⟩:=(show∃t,u=Value.int i t from rx);cases q;exact⟨_,PySem.W.kitx_int,True.intro,fun z=>nomatch z⟩
  |str y=>obtain⟨t,q⟩:=(show∃t,u=Value.str y t from rx);cases q;exact⟨_,PySem.W.kitx_str,True.intro,fun z=>nomatch z⟩
  |flt y=>obtain⟨t,q⟩:=(show∃t,u=Value.float y t from rx);cases q;exact⟨_,PySem.W.kitx_float,True.intro,fun z=>nomatch z⟩
  | @lst a xs b=>
   cases (show u=Value.ref a from rx);refine hZq fun q_ e_=>?_;obtain⟨_,_,n,_,h1⟩:=(show ObjOk X.prog X.w H s.heap a (.lst xs)from I.hok a _ b);subst e_;exact⟨_,PySem.W.kitx_list,⟨_,h1,rfl⟩,fun z=>nomatch z⟩
  | @frz a ob xs b=>
   cases (show u=Value.ref a from rx);refine hZq fun q_ e_=>?_;obtain⟨_,_,_,n,_,h1⟩:=(show ObjOk X.prog X.w H s.heap a (.frz ob (.lst xs))from I.hok a _ b);subst e_;exact⟨_,PySem.W.kitx_list,⟨_,h1,rfl⟩,fun z=>nomatch z⟩
  | @tup a xs b=>
   cases (show u=Value.ref a from rx);refine hZq fun q_ e_=>?_;obtain⟨_,_,_,o,h1,h2,_⟩:=(show ObjOk X.prog X.w H s.heap a (.tup xs)from I.hok a _ b);subst e_;exact⟨_,PySem.W.kitx_tuple,⟨o,h1,h2⟩,fun z=>nomatch z⟩
  | @dK a kvs b=>
   cases (show u=Value.ref a from rx);refine hZq fun q_ e_=>?_;obtain⟨_,_,vs,_,o,es,ep,h1,h2,_⟩:=(show ObjOk X.prog X.w H s.heap a (.dK kvs)from I.hok a _ b);subst e_;exact⟨_,PySem.W.kitx_dict,⟨o,h1,h2.1⟩,fun z=>nomatch z⟩
  | @dT a kvs b=>
   cases (show u=Value.ref a from rx);refine hZq fun q_ e_=>?_;obtain⟨_,_,xs,_,o,es,ep,h1,h2,_⟩:=(show ObjOk X.prog X.w H s.heap a (.dT kvs)from I.hok a _ b);subst e_;exact⟨_,PySem.W.kitx_dict,⟨o,h1,h2.1⟩,fun z=>nomatch z⟩
  | @ins a C dx fs b cl ha hn htk hm=>
   cases (show u=Value.ref a from rx);refine hZq fun q_ e_=>?_;obtain⟨mA,O,_⟩:=jP I.hok b;obtain⟨c,J,_⟩:=O.look;subst e_;exact⟨_,PySem.W.kitx_own (cl.get _) cl.hd ha hn htk hm,J,fun z=>nomatch z⟩
 | @exc a C e Z=>
  cases (show u=Value.ref a from rx);obtain⟨h1,_⟩:=(show ObjOk X.prog X.w H s.heap a (Cau C a)from I.hok a _ e);exact⟨_,tG Z,h1,fun z=>nomatch z⟩
def rIsi(K:PySem.W.Frag):List V->Hp->VK->Prop:=fun xs H Q=>∃x c t b,xs= [x,c]/\TyX K H x t/\
 ((oj c=true/\PySem.W.kitOne K t (clsV c)=some b)\/(∃p ys,c= .ref p/\H p=some (.tup ys)/\ys.all oj=true/\PySem.W.kitAny K t (ys.map clsV)=some b))/\Q (.bl b) H
theorem ip:cr X (.builtin "isinstance") (rIsi X.K):=by
 intro pins s σ H xs us Q I r h;refine hZq fun q_ e_=>?_;obtain⟨x,c,t,b,e,ty,h,q⟩:=h;subst e_;subst e
 cases r with
 | @cons _ u _ _ f r=>
  cases r with
  | @cons _ v _ _ d r=>
   cases r;refine hZq fun q_ e_=>?_;obtain⟨k,Z,hp,hne⟩:=ty.kit I f;subst e_;rcases h with⟨hc,hk⟩|⟨p,ys,e,g,a,hk⟩
   . cases oA d hc;exact PySem.W.kia_one Z I.kIn hp hk hne fun tk=>⟨.bl b,H,I.tok tk,rfl,q⟩
   . subst e;cases (show v=Value.ref p from d);refine hZq fun q_ e_=>?_;obtain⟨_,its,rv,⟨l,m,i,j⟩,h1,h2,n,h3⟩:=(show ObjOk X.prog X.w H s.heap p (.tup ys)from I.hok p _ g);subst e_;dsimp only at h2 h3;subst h2 h3;cases lA rv a;exact PySem.W.kia_tup Z I.kIn hp h1 hk hne fun tk=>⟨.bl b,H,I.tok tk,rfl,q⟩
end
open PySem PySem.Spec PyProof.Rows
abbrev TSX:=Ends->XK->St->Hp->Prop
section
variable{X:Cx}{CX:CXT}{k:Nat}{f:Addr}{fd:FuncData}{ps:List Str}{sp:Sp}{x:Str}{p pos epos:Pos}{e:Expr}{es:List Expr}{t:TA}
end
section
variable{X:Cx}{pins:List (Addr×Obj)}{σ:St}{H:Hp}{s:Shared}{a:Addr}
end
section
variable{X:Cx}{body suite:List Stmt}{b0:Stmt}{tb:TSX}{ts:TS}{i:Nat}{n cx:Str}{np hpos pos:Pos}{W:Addr}
end
open PySem PySem.Spec PyProof.Rows
section
variable{X:Cx}
def Big(i:Int):Prop:=i.natAbs < 2^8000
theorem aU:OpR X (binaryOp .Mult) (rI (fun i j=>Big i/\Big j) fun i j=> .int (i*j)):=opI fun _ _ _ _ _ _ _ hc q=>
 PyProof.Rows.mul_int q (IntMulOk.of_le (m:=8000) (n:=8000) (intBits_le_iff.mpr hc.1) (intBits_le_iff.mpr hc.2) (by decide))
theorem um{i j:Int}(h:Big j):Builtin.divisionGoesByPylong i j=false:=by
 refine PyProof.noPylong_of_log2 ?_;by_cases z:j.natAbs=0
 . rw[z];decide
 . exact Nat.lt_trans ((Nat.log2_lt z).mpr h) (by decide)
theorem cD:OpR X (binaryOp .FloorDiv) (rI (fun _ j=>0 < j/\Big j) fun i j=> .int (i / j)):=opI fun i j _ _ _ _ _ hc q=>by
 have h1:(0:Int) < j:=hc.1;exact floordiv_int (by omega) (by rw[Am i (by omega)];exact q) (.inl (um hc.2))
theorem kB:OpR X (binaryOp .FloorDiv) (rI (fun _ j=>j≠0/\Big j) fun i j=> .int (i.fdiv j)):=opI fun _ _ _ _ _ _ _ hc q=>floordiv_int hc.1 q (.inl (um hc.2))
end
theorem cj:bootBuiltins "isinstance"=some (.builtin "isinstance"):=by decide +kernel
theorem ir:bootBuiltins "abs"=some (.builtin "abs"):=by decide +kernel
open PySem PySem.Spec PyProof.Rows
section
variable{X:Cx}
end
section
variable{X:Cx}{CX:CXT}{k:Nat}{f:Addr}{fd:FuncData}{ps:List Str}{sp:Sp}{x:Str}{p pos rpos:Pos}{e:Expr}{es:List Expr}{t:TA}
end
section
variable{X:Cx}{body suite:List Stmt}{b0:Stmt}{tb:TSX}{ts:TS}{cx:Str}{np hpos pos:Pos}{W:Addr}
end
end L2
namespace Tre
open PySem PySem.Spec PyProof.Rows L2
inductive Tr where
 |non
 |bl (b:Bool)
 |int (i:Int)
 |str (x:Str)
 |tup (ts:List Tr)
 |ls
mutual
noncomputable def Tr.depth:Tr->Nat
 | .tup ts=>Trs.depth ts+1
 |_=>0
noncomputable def Trs.depth:List Tr->Nat
 | []=>0
 |t::ts=>max (Tr.depth t) (Trs.depth ts)
end
mutual
def Tr.pure:Tr->Prop
 | .tup ts=>Trs.pure ts
 | .ls=>False
 |_=>True
def Trs.pure:List Tr->Prop
 | []=>True
 |t::ts=>Tr.pure t/\Trs.pure ts
end
mutual
def TrAt(H:Hp):V->Tr->Prop
 |v, .non=>v= .non
 |v, .bl b=>v= .bl b
 |v, .int i=>v= .int i
 |v, .str x=>v= .str x
 |v, .tup ts=>∃r vs,v= .ref r/\H r=some (.tup vs)/\TrsAt H vs ts
 |v, .ls=>∃r xs,v= .ref r/\H r=some (.lst xs)
def TrsAt(H:Hp):List V->List Tr->Prop
 |vs,[]=>vs= []
 |vs,t::ts=>∃v r,vs=v::r/\TrAt H v t/\TrsAt H r ts
end
structure Kd (H H':Hp):Prop where
 tup:∀a xs,H a=some (.tup xs)->H' a=some (.tup xs)
 lst:∀a xs,H a=some (.lst xs)->∃ys,H' a=some (.lst ys)
theorem Kd.trans{H H1 H2:Hp}(a:Kd H H1)(b:Kd H1 H2):Kd H H2:=⟨fun x o e=>b.tup x o (a.tup x o e),fun x o e=>by
 obtain⟨ys,e1⟩:=a.lst x o e
 exact b.lst x ys e1⟩
theorem Kd.of_same{H H':Hp}(s:Same H H'):Kd H H':=⟨fun a xs e=>s a _ e,fun a xs e=>⟨xs,s a _ e⟩⟩
theorem Kd.upd{H:Hp}{p:Addr}{xs ys:List V}(h:H p=some (.lst xs)):Kd H (upd H p (.lst ys)):=by
 refine⟨fun a zs e=>?_,fun a zs e=>?_⟩
 . rw[ae]
   . exact e
   . intro z;rw[z,h]at e;cases e
 . by_cases z:a=p
   . subst z;exact⟨ys,a8⟩
   . exact⟨zs,(ae z).trans e⟩
mutual
theorem TrAt.mono{H H':Hp}(k:Kd H H'):∀ {v:V} {t:Tr},TrAt H v t->TrAt H' v t
 |v, .non,h=>by unfold TrAt at h ⊢;exact h
 |v, .bl b,h=>by unfold TrAt at h ⊢;exact h
 |v, .int i,h=>by unfold TrAt at h ⊢;exact h
 |v, .str x,h=>by unfold TrAt at h ⊢;exact h
 |v, .ls,h=>by
  unfold TrAt at h ⊢;obtain⟨r,xs,e,h⟩:=h;obtain⟨ys,h'⟩:=k.lst r xs h;exact⟨r,ys,e,h'⟩
 |v, .tup ts,h=>by
  unfold TrAt at h ⊢;obtain⟨r,vs,e,h1,h2⟩:=h;exact⟨r,vs,e,k.tup _ _ h1,TrsAt.mono k h2⟩
theorem TrsAt.mono{H H':Hp}(k:Kd H H'):∀ {vs:List V} {ts:List Tr},TrsAt H vs ts->TrsAt H' vs ts
 |vs,[],h=>by unfold TrsAt at h ⊢;exact h
 |vs,t::ts,h=>by
  unfold TrsAt at h ⊢;obtain⟨v,r,e,h1,h2⟩:=h;exact⟨v,r,e,TrAt.mono k h1,TrsAt.mono k h2⟩
end
theorem TrsAt.nil{H:Hp}:TrsAt H [] []:=by unfold TrsAt;rfl
theorem TrsAt.cons{H:Hp}{v:V}{t:Tr}{vs:List V}{ts:List Tr}(h:TrAt H v t)(r:TrsAt H vs ts):TrsAt H (v::vs) (t::ts):=by
 unfold TrsAt;exact⟨v,vs,rfl,h,r⟩
theorem TrsAt.inv{H:Hp}{t:Tr}{vs:List V}{ts:List Tr}(h:TrsAt H vs (t::ts)):∃v r,vs=v::r/\TrAt H v t/\TrsAt H r ts:=by
 unfold TrsAt at h;exact h
theorem TrsAt.len{H:Hp}:∀ {vs:List V} {ts:List Tr},TrsAt H vs ts->vs.length=ts.length
 |vs,[],h=>by
  unfold TrsAt at h;rw[h];rfl
 |vs,t::ts,h=>by
  obtain⟨v,r,e,_,h2⟩:=h.inv;rw[e,zV,zV,h2.len]
theorem TrsAt.app{H:Hp}{ws:List V}{us:List Tr}(b:TrsAt H ws us):∀ {vs:List V} {ts:List Tr},TrsAt H vs ts->TrsAt H (vs++ws) (ts++us)
 |vs,[],h=>by
  unfold TrsAt at h;subst h;exact b
 |vs,t::ts,h=>by
  obtain⟨v,r,e,h1,h2⟩:=h.inv;subst e;exact .cons h1 (TrsAt.app b h2)
theorem TrsAt.get{H:Hp}:∀ {vs:List V} {ts:List Tr} {i:Nat} {t:Tr},TrsAt H vs ts->ts[i]?=some t->∃v,vs[i]?=some v/\TrAt H v t
 |vs,[],i,t,_,e=>by simp at e
 |vs,a::ts,0,t,h,e=>by
  obtain⟨v,r,rfl,h1,h2⟩:=h.inv;simp at e;subst e;exact⟨v,rfl,h1⟩
 |vs,a::ts,i+1,t,h,e=>by
  obtain⟨v,r,rfl,h1,h2⟩:=h.inv;obtain⟨u,e1,b⟩:=h2.get (i:=i) (by simpa using e)
  exact⟨u,by simpa using e1,b⟩
theorem TrsAt.get'{H:Hp}{vs:List V}{ts:List Tr}{i:Nat}{v:V}(h:TrsAt H vs ts)(e:vs[i]?=some v):∃t,ts[i]?=some t/\TrAt H v t:=by
 have hl:=h.len;have hi:i < vs.length:=(zv.mp e).1;obtain⟨u,e1,a⟩:=h.get (i:=i) (t:=ts[i]'(by omega)) (zo _)
 rw[e]at e1;cases e1;exact⟨_,zo _,a⟩
mutual
theorem TrAt.det{H:Hp}:∀ {v:V} {t u:Tr},TrAt H v t->TrAt H v u->t=u
 |v, .non,u,h1,h2=>by
  unfold TrAt at h1;subst h1;cases u<;>unfold TrAt at h2<;>first|rfl|(cases h2;done)|(obtain⟨_,_,e,_⟩:=h2;cases e)
 |v, .bl b,u,h1,h2=>by
  unfold TrAt at h1;subst h1;cases u<;>unfold TrAt at h2<;>first|(cases h2;rfl)|(cases h2;done)|(obtain⟨_,_,e,_⟩:=h2;cases e)
 |v, .int b,u,h1,h2=>by
  unfold TrAt at h1;subst h1;cases u<;>unfold TrAt at h2<;>first|(cases h2;rfl)|(cases h2;done)|(obtain⟨_,_,e,_⟩:=h2;cases e)
 |v, .str b,u,h1,h2=>by
  unfold TrAt at h1;subst h1;cases u<;>unfold TrAt at h2<;>first|(cases h2;rfl)|(cases h2;done)|(obtain⟨_,_,e,_⟩:=h2;cases e)
 |v, .ls,u,h1,h2=>by
  unfold TrAt at h1;obtain⟨r,xs,rfl,h1⟩:=h1;cases u<;>unfold TrAt at h2<;>first|rfl|(cases h2;done)|(obtain⟨_,_,e,h2,_⟩:=h2;cases e;rw[h1]at h2;cases h2)
 |v, .tup ts, .tup us,h1,h2=>by
  unfold TrAt at h1 h2;obtain⟨r,vs,rfl,h1,h3⟩:=h1;obtain⟨r',a,e,h2,c⟩:=h2;cases e;rw[h1]at h2;cases h2;rw[TrsAt.det h3 c]
 |v, .tup ts, .non,h1,h2=>by unfold TrAt at h1 h2;obtain⟨_,_,e,_⟩:=h1;rw[h2]at e;cases e
 |v, .tup ts, .bl _,h1,h2=>by unfold TrAt at h1 h2;obtain⟨_,_,e,_⟩:=h1;rw[h2]at e;cases e
 |v, .tup ts, .int _,h1,h2=>by unfold TrAt at h1 h2;obtain⟨_,_,e,_⟩:=h1;rw[h2]at e;cases e
 |v, .tup ts, .str _,h1,h2=>by unfold TrAt at h1 h2;obtain⟨_,_,e,_⟩:=h1;rw[h2]at e;cases e
 |v, .tup ts, .ls,h1,h2=>by
  unfold TrAt at h1 h2;obtain⟨r,vs,rfl,h1,_⟩:=h1;obtain⟨r',xs,e,h2⟩:=h2;cases e;rw[h1]at h2;cases h2
theorem TrsAt.det{H:Hp}:∀ {vs:List V} {ts us:List Tr},TrsAt H vs ts->TrsAt H vs us->ts=us
 |vs,[],[],_,_=>rfl
 |vs,[],u::us,h1,h2=>by
  have a:=h1.len;have b:=h2.len;rw[a]at b;simp at b
 |vs,t::ts,[],h1,h2=>by
  have a:=h1.len;have b:=h2.len;rw[a]at b;simp at b
 |vs,t::ts,u::us,h1,h2=>by
  obtain⟨v,r,rfl,h3,f⟩:=h1.inv;obtain⟨g,r',e,d,c⟩:=h2.inv;cases e;rw[TrAt.det h3 d,TrsAt.det f c]
end
mutual
noncomputable def eqT:Tr->Tr->Bool
 | .non, .non=>true
 | .bl a, .bl b=>a==b
 | .bl a, .int i=>(if a then 1 else 0)==i
 | .int i, .bl b=>i==(if b then 1 else 0)
 | .int i, .int j=>i==j
 | .str x, .str y=>x==y
 | .tup ts, .tup us=>eqTs ts us
 | .ls, .ls=>true
 |_,_=>false
noncomputable def eqTs:List Tr->List Tr->Bool
 | [],[]=>true
 |t::ts,u::us=>eqT t u&&eqTs ts us
 |_,_=>false
end
mutual
theorem kR:∀t:Tr,eqT t t=true
 | .non=>by simp[eqT]
 | .bl _=>by simp[eqT]
 | .int _=>by simp[eqT]
 | .str _=>by simp[eqT]
 | .ls=>by simp[eqT]
 | .tup ts=>by simp only[eqT];exact eqTs_refl ts
theorem eqTs_refl:∀ts:List Tr,eqTs ts ts=true
 | []=>by simp[eqTs]
 |t::ts=>by simp[eqTs,kR t,eqTs_refl ts]
end
noncomputable def eqJ(ts us:List Tr)(j:Nat):Bool:=match ts[j]?,us[j]? with
 |some t,some u=>eqT t u
 |_,_=>true
theorem tW{ts us:List Tr}{j:Nat}{t u:Tr}(h1:ts[j]?=some t)(h2:us[j]?=some u):eqJ ts us j=eqT t u:=by
 unfold eqJ;rw[h1,h2]
theorem dO:∀(ts us:List Tr),eqTs ts us=((List.range (min ts.length us.length)).all (eqJ ts us)&&ts.length==us.length)
 | [],[]=>by simp[eqTs]
 | [],u::us=>by simp[eqTs]
 |t::ts,[]=>by simp[eqTs]
 |t::ts,u::us=>by
  simp only[eqTs,zV];rw[dO ts us,show min (ts.length+1) (us.length+1)=min ts.length us.length+1 by omega,List.range_succ_eq_map,List.all_cons,List.all_map]
  have e:(eqJ (t::ts) (u::us)) ∘ Nat.succ=eqJ ts us:=by
   funext j;simp[eqJ]
  rw[e];simp[eqJ,Bool.and_assoc]
open PySem PySem.Spec PyProof.Rows L2
section
variable{X:Cx}{pins:List (Addr×Obj)}{σ:L2.St}{H:Hp}{s:Shared}{A:Around}
theorem oI{a b:Addr}{xs ys:List V}(I:Inv X pins σ H s)(ha:H a=some (.tup xs))(hb:H b=some (.tup ys))(hu:A.units < cLine)(e:Nat->Bool)(hne:a≠b)(he:∀j x y u v,xs[j]?=some x->ys[j]?=some y->RelV x u->RelV y v->SeqAt.EqAt A.in1 s u v (e j)):
 SeqAt.EqAt A s (.ref a) (.ref b) ((List.range (min xs.length ys.length)).all e&&xs.length==ys.length):=by
 obtain⟨us,r1,h,_⟩:=I.tuple (SqT.of ha);obtain⟨ws,r2,p2,_⟩:=I.tuple (SqT.of hb);have l1:=r1.length;have l2:=r2.length
 have:=SeqAt.RcAt.tuples (A:=A) (e:=e) (show s.heap.IsTuple a us.toArray from h) (show s.heap.IsTuple b ws.toArray from p2) hu fun j h1 h2=>by
  have c:j < us.length:=by simpa using h1
  have d:j < ws.length:=by simpa using h2
  obtain⟨u,e1,l⟩:=r1.get (i:=j) (x:=xs[j]'(by omega)) (zo _)
  obtain⟨v,f,k⟩:=r2.get (i:=j) (x:=ys[j]'(by omega)) (zo _)
  have m:us.toArray[j]=u:=by rw[List.getElem_toArray];rw[zo c]at e1;exact zN e1
  have g:ws.toArray[j]=v:=by rw[List.getElem_toArray];rw[zo d]at f;exact zN f
  rw[m,g];exact he j _ _ u v (zo _) (zo _) l k
 rw[zx,zx,<-l1,<-l2]at this;exact SeqAt.EqAt.of_refs hne this
theorem bA:∀ {ts:List Tr} {t:Tr},t∈ts->t.depth<=Trs.depth ts
 |a::ts,t,h=>by
  unfold Trs.depth;rcases zJ.mp h with rfl|h
  . omega
  . have:=bA h;omega
theorem dD:∀ {ts:List Tr} {t:Tr},Trs.pure ts->t∈ts->t.pure
 |a::ts,t,p,h=>by
  unfold Trs.pure at p;rcases zJ.mp h with rfl|h
  . exact p.1
  . exact dD p.2 h
theorem cU{r:Addr}{vs:List V}(I:Inv X pins σ H s)(h:H r=some (.tup vs)):∃its:Array Value,s.heap.IsTuple r its:=by
 obtain⟨us,_,p,_⟩:=I.tuple (SqT.of h);exact⟨_,p⟩
theorem cV{r:Addr}{vs:List V}(I:Inv X pins σ H s)(h:H r=some (.lst vs)):∃its:Array Value,s.heap.IsList r its:=by
 obtain⟨us,_,p,_⟩:=I.list (SqL.of h);exact⟨_,p.isList⟩
theorem nG(I:Inv X pins σ H s){A:Around}{t u:Tr}{v w:V}{a b:Value}(hd:∀ts,t≠ .tup ts)(hp:t.pure\/u.pure)(h1:TrAt H v t)(h2:TrAt H w u)(r1:RelV v a)(r2:RelV w b)(hu0:A.units < cLine):SeqAt.EqAt A s a b (eqT t u):=by
 cases t with
 |tup ts=>exact(hd ts rfl).elim
 |non=>
  unfold TrAt at h1;subst h1;cases (show a=Value.none from r1)
  cases u with
  |non=>unfold TrAt at h2;subst h2;cases (show b=Value.none from r2);simp only[eqT];exact SeqAt.EqAt.same _
  |bl c=>unfold TrAt at h2;subst h2;cases (show b=Value.bool c from r2);simp only[eqT];exact SeqAt.EqAt.none_bool c
  |int c=>unfold TrAt at h2;subst h2;obtain⟨t',rfl⟩:=r2;simp only[eqT];exact SeqAt.EqAt.none_int c t'
  |str c=>unfold TrAt at h2;subst h2;obtain⟨t',rfl⟩:=r2;simp only[eqT];exact SeqAt.EqAt.none_str c t'
  |tup us=>unfold TrAt at h2;obtain⟨r,vs,rfl,e,_⟩:=h2;cases r2;obtain⟨its,p⟩:=cU I e;simp only[eqT];exact SeqAt.EqAt.none_tuple p hu0
  |ls=>unfold TrAt at h2;obtain⟨r,vs,rfl,e⟩:=h2;cases r2;obtain⟨its,p⟩:=cV I e;simp only[eqT];exact SeqAt.EqAt.none_list p hu0
 |bl d=>
  unfold TrAt at h1;subst h1;cases (show a=Value.bool d from r1)
  cases u with
  |non=>unfold TrAt at h2;subst h2;cases (show b=Value.none from r2);simp only[eqT];exact SeqAt.EqAt.bool_none d
  |bl c=>unfold TrAt at h2;subst h2;cases (show b=Value.bool c from r2);simp only[eqT];exact SeqAt.EqAt.bool_bool d c
  |int c=>unfold TrAt at h2;subst h2;obtain⟨t',rfl⟩:=r2;simp only[eqT];exact SeqAt.EqAt.bool_int d c t'
  |str c=>unfold TrAt at h2;subst h2;obtain⟨t',rfl⟩:=r2;simp only[eqT];exact SeqAt.EqAt.bool_str d c t'
  |tup us=>unfold TrAt at h2;obtain⟨r,vs,rfl,e,_⟩:=h2;cases r2;obtain⟨its,p⟩:=cU I e;simp only[eqT];exact SeqAt.EqAt.bool_tuple d p hu0
  |ls=>unfold TrAt at h2;obtain⟨r,vs,rfl,e⟩:=h2;cases r2;obtain⟨its,p⟩:=cV I e;simp only[eqT];exact SeqAt.EqAt.bool_list d p hu0
 |int d=>
  unfold TrAt at h1;subst h1;obtain⟨f,rfl⟩:=r1
  cases u with
  |non=>unfold TrAt at h2;subst h2;cases (show b=Value.none from r2);simp only[eqT];exact SeqAt.EqAt.int_none d f
  |bl c=>unfold TrAt at h2;subst h2;cases (show b=Value.bool c from r2);simp only[eqT];exact SeqAt.EqAt.int_bool d f c
  |int c=>unfold TrAt at h2;subst h2;obtain⟨t',rfl⟩:=r2;simp only[eqT];exact SeqAt.EqAt.int_int d f c t'
  |str c=>unfold TrAt at h2;subst h2;obtain⟨t',rfl⟩:=r2;simp only[eqT];exact SeqAt.EqAt.int_str d f c t'
  |tup us=>unfold TrAt at h2;obtain⟨r,vs,rfl,e,_⟩:=h2;cases r2;obtain⟨its,p⟩:=cU I e;simp only[eqT];exact SeqAt.EqAt.int_tuple d f p hu0
  |ls=>unfold TrAt at h2;obtain⟨r,vs,rfl,e⟩:=h2;cases r2;obtain⟨its,p⟩:=cV I e;simp only[eqT];exact SeqAt.EqAt.int_list d f p hu0
 |str d=>
  unfold TrAt at h1;subst h1;obtain⟨f,rfl⟩:=r1
  cases u with
  |non=>unfold TrAt at h2;subst h2;cases (show b=Value.none from r2);simp only[eqT];exact SeqAt.EqAt.str_none d f
  |bl c=>unfold TrAt at h2;subst h2;cases (show b=Value.bool c from r2);simp only[eqT];exact SeqAt.EqAt.str_bool d f c
  |int c=>unfold TrAt at h2;subst h2;obtain⟨t',rfl⟩:=r2;simp only[eqT];exact SeqAt.EqAt.str_int d f c t'
  |str c=>unfold TrAt at h2;subst h2;obtain⟨t',rfl⟩:=r2;simp only[eqT];exact SeqAt.EqAt.str_str d f c t'
  |tup us=>unfold TrAt at h2;obtain⟨r,vs,rfl,e,_⟩:=h2;cases r2;obtain⟨its,p⟩:=cU I e;simp only[eqT];exact SeqAt.EqAt.str_tuple d f p hu0
  |ls=>unfold TrAt at h2;obtain⟨r,vs,rfl,e⟩:=h2;cases r2;obtain⟨its,p⟩:=cV I e;simp only[eqT];exact SeqAt.EqAt.str_list d f p hu0
 |ls=>
  unfold TrAt at h1;refine hZq fun q_ e_=>?_;obtain⟨k,i,rfl,j⟩:=h1;subst e_;cases r1;obtain⟨h,g⟩:=cV I j
  cases u with
  |non=>unfold TrAt at h2;subst h2;cases (show b=Value.none from r2);simp only[eqT];exact SeqAt.EqAt.list_none g hu0
  |bl c=>unfold TrAt at h2;subst h2;cases (show b=Value.bool c from r2);simp only[eqT];exact SeqAt.EqAt.list_bool c g hu0
  |int c=>unfold TrAt at h2;subst h2;obtain⟨t',rfl⟩:=r2;simp only[eqT];exact SeqAt.EqAt.list_int c t' g hu0
  |str c=>unfold TrAt at h2;subst h2;obtain⟨t',rfl⟩:=r2;simp only[eqT];exact SeqAt.EqAt.list_str c t' g hu0
  |tup us=>unfold TrAt at h2;obtain⟨r,vs,rfl,e,_⟩:=h2;cases r2;obtain⟨its,p⟩:=cU I e;simp only[eqT];exact SeqAt.EqAt.list_tuple g p hu0
  |ls=>rcases hp with hp|hp<;>simp[Tr.pure]at hp
theorem jh(I:Inv X pins σ H s):∀(n:Nat) {A:Around} {t u:Tr} {v w:V} {a b:Value},t.depth<=n->(t.pure\/u.pure)->TrAt H v t->TrAt H w u->RelV v a->RelV w b->A.units+n+1 < cLine->SeqAt.EqAt A s a b (eqT t u):=by
 intro n
 induction n with
 |zero=>
  intro A t u v w a b hd hp h1 h2 r1 r2 hu;refine nG I (fun ts e=>?_) hp h1 h2 r1 r2 (by omega)
  subst e;simp[Tr.depth]at hd
 |succ n ih=>
  intro A t u v w a b hd hp h1 h2 r1 r2 hu;have d:A.units < cLine:=by omega
  cases t with
  |tup ts=>
   have g:=h1;have i:=h2;unfold TrAt at h1;refine hZq fun q_ e_=>?_;obtain⟨r0,au,rfl,l,k0⟩:=h1;subst e_;cases r1;obtain⟨k,f⟩:=cU I l;unfold Tr.depth at hd
   cases u with
   |non=>unfold TrAt at h2;subst h2;cases (show b=Value.none from r2);simp only[eqT];exact SeqAt.EqAt.tuple_none f d
   |bl c=>unfold TrAt at h2;subst h2;cases (show b=Value.bool c from r2);simp only[eqT];exact SeqAt.EqAt.tuple_bool c f d
   |int c=>unfold TrAt at h2;subst h2;obtain⟨t',rfl⟩:=r2;simp only[eqT];exact SeqAt.EqAt.tuple_int c t' f d
   |str c=>unfold TrAt at h2;subst h2;obtain⟨t',rfl⟩:=r2;simp only[eqT];exact SeqAt.EqAt.tuple_str c t' f d
   |ls=>unfold TrAt at h2;obtain⟨r,vs,rfl,h⟩:=h2;cases r2;obtain⟨its,p⟩:=cV I h;simp only[eqT];exact SeqAt.EqAt.tuple_list f p d
   |tup us=>
    unfold TrAt at h2;refine hZq fun q_ e_=>?_;obtain⟨r,vs,rfl,h,k1⟩:=h2;subst e_;cases r2;by_cases z:r0=r
    . subst z;rw[<-TrAt.det g i,kR];exact SeqAt.EqAt.same _
    . have:=oI I l h d (eqJ ts us) z fun j x y u' v' m1 m q1 q=>by
       refine hZq fun q_ e_=>?_;obtain⟨t1,n1,o⟩:=k0.get' m1;obtain⟨t2,n2,a2⟩:=k1.get' m;subst e_;rw[tW n1 n2];refine ih (A:=A.in1) (by have:=bA (zw n1);omega) ?_ o a2 q1 q (by show A.units+1+n+1 < cLine;omega)
       rcases hp with hp|hp
       . unfold Tr.pure at hp;exact .inl (dD hp (zw n1))
       . unfold Tr.pure at hp;exact .inr (dD hp (zw n2))
      rw[k0.len,k1.len,<-dO]at this;simp only[eqT];exact this
  |_=>exact nG I (fun ts e=>by cases e) hp h1 h2 r1 r2 d
end
open PySem PySem.Spec PyProof.Rows L2
open PySem.AutoSeq1 (wpAny_loadPart')
def LtAt(A:Around)(s:Shared)(y x:Value)(b:Bool):Prop:=
 ∀(prog:Program) (w:World) (E:Value->Shared->Prop) (Q:Value->Shared->Prop),Q (.bool b) s->wpAny (model prog w) A (richCompare .Lt y x) Q E s
def bD(A:Around)(s:Shared):List Value->List Value->List (Bool×Bool)->Prop
 |v::vs,w::ws,(e,l)::q=>SeqAt.EqAt A s v w e/\(e=false->LtAt A s v w l)/\(e=true->bD A s vs ws q)
 | [],_,q=>q= []
 |_,[],q=>q= []
 |_,_,_=>False
noncomputable def lexV(fin:Bool):List (Bool×Bool)->Bool
 | []=>fin
 |(e,l)::q=>if e=true then lexV fin q else l
theorem je(l b:Addr)(items items2:Array Value)(n n2:Nat)(dd dd2:Option Addr)(sl sl2:Array (Option Value))(q:List (Bool×Bool)):
 Meets (Builtin.«tuple.__lt__» ⟨[.ref l, .ref b],[]⟩)
  (fun A R s=>s.heap.get? l=some {cls:= .type "tuple",dict:=dd,data:= .seq items n,slots:=sl}/\s.heap.get? b=some {cls:= .type "tuple",dict:=dd2,data:= .seq items2 n2,slots:=sl2}/\
   bD A.in1 s items.toList items2.toList q/\R (.ok (.ret (.bool (lexV (decide (items.size < items2.size)) q)))) s):=
 .of_wp fun prog w A R s h=>by
  refine hZq fun q_ e_=>?_;obtain⟨hp,g,d,tk,os⟩:=s;obtain⟨hl,hb,hx,h⟩:=h;subst e_;have m:=AutoSeq1.sub_tuple_tuple
  wp_walk using wpAny_loadPart' hl,wpAny_loadPart' hb,wpAny_forIn_list _ (fun rest b s'=>b.1=none/\s'=⟨hp,g,d,tk,os⟩/\∃(vs ws:List Value) (c:List (Bool×Bool)),rest=vs.zip ws/\
   bD A.in1 ⟨hp,g,d,tk,os⟩ vs ws c/\R (.ok (.ret (.bool (lexV (decide (items.size < items2.size)) c)))) ⟨hp,g,d,tk,os⟩) _
  case turn=>
   rintro⟨y,x⟩ rest b s' ⟨f,rfl,vs,ws,c,hz,a,i⟩
   match vs,ws,c,hz,a,i with
   | [],_,_,hz,_,_=>rw[List.zip_nil_left]at hz;cases hz
   |_::_,[],_,hz,_,_=>rw[List.zip_nil_right]at hz;cases hz
   |v::vs,w'::ws,[],_,a,_=>exact a.elim
   |v::vs,w'::ws,(e,lo)::c,hz,a,i=>
    rw[Ay]at hz;injection hz with hyx hrest;injection hyx with hy hx';subst hy hx';obtain⟨he,j,a⟩:=a;refine wpAny_bind (he prog w _ _ ?_)
    cases e with
    |true=>
     wp_walk
     exact⟨rfl,rfl,_,_,_,hrest,a rfl,i⟩
    |false=>
     have k:=j rfl prog w
     wp_walk using k
     exact⟨_,rfl,i⟩
  case fin=>
   rintro⟨b1,b2⟩ s' ⟨f,rfl,vs,ws,c,hz,a,i⟩;simp only at f;subst f
   have hq:c= []:=by
    match vs,ws,c,hz,a with
    | [],_,_,_,a=>unfold bD at a;exact a
    |_::_,[],_,_,a=>unfold bD at a;exact a
    |_::_,_::_,_,hz,_=>rw[Ay]at hz;cases hz
   subst hq
   wp_walk
   exact⟨_,rfl,by simpa [Builtin.Tuple.tupleCompareSizes,lexV]using i⟩
  case h=>
   exact⟨rfl,rfl,items.toList,items2.toList,q,rfl,hx,h⟩
theorem lP{A:Around}{s:Shared}{l b:Addr}{items items2:Array Value}{q:List (Bool×Bool)}(hl:s.heap.IsTuple l items)(hb:s.heap.IsTuple b items2)(hu:A.units < cLine)(hx:bD A.in1 s items.toList items2.toList q):LtAt A s (.ref l) (.ref b) (lexV (decide (items.size < items2.size)) q):=by
 intro prog w E Q h;obtain⟨⟨cls,dd,data,sl⟩,ho,hc,n,hd⟩:=id hl;obtain⟨⟨i,f,g,e⟩,a,c,n2,d⟩:=id hb;simp only at hc hd c d;subst hc hd c d
 exact richCompare_meets_room (op:= .Lt) ⟨_,ho,rfl⟩ ⟨_,a,rfl⟩ PySem.F.slot_tuple_lt PySem.F.entry_tuple_lt (PySem.F.args_tuple_lt_2 _ _) (je l b items items2 n n2 dd f sl e q)
  ⟨ho,a,hx,show Value.bool (lexV (decide (items.size < items2.size)) q)≠Value.notImplemented/\Q (.bool (lexV (decide (items.size < items2.size)) q)) s from⟨(fun x=>nomatch x),h⟩⟩ hu
end Tre
namespace Tre
open PySem L2
inductive Co where
 |non
 |num (i:Int)
 |str (l:List Nat)
 |tup (cs:List Co)
 |ls
noncomputable def Co.kind:Co->Nat
 | .non=>0
 | .num _=>1
 | .str _=>2
 | .tup _=>3
 | .ls=>4
mutual
noncomputable def code:Tr->Co
 | .non=> .non
 | .bl b=> .num (if b then 1 else 0)
 | .int i=> .num i
 | .str x=> .str x.cps.toList
 | .tup ts=> .tup (codes ts)
 | .ls=> .ls
noncomputable def codes:List Tr->List Co
 | []=> []
 |t::ts=>code t::codes ts
end
theorem jp(x y:Str):((x==y)=true)↔x.cps.toList=y.cps.toList:=by
 rw[beq_iff_eq];constructor
 . rintro rfl;rfl
 . intro h;cases x;cases y;simp only[Str.mk.injEq];exact Array.toList_inj.mp h
mutual
theorem dP:∀(t u:Tr),(eqT t u=true)↔code t=code u
 | .non,u=>by cases u<;>simp[eqT,code]
 | .bl a,u=>by cases u<;>simp[eqT,code];cases a<;>rename_i b<;>cases b<;>simp
 | .int i,u=>by cases u<;>simp[eqT,code]
 | .str x, .str y=>by simp only[eqT,code,Co.str.injEq];exact jp x y
 | .str x, .non=>by simp[eqT,code]
 | .str x, .bl _=>by simp[eqT,code]
 | .str x, .int _=>by simp[eqT,code]
 | .str x, .tup _=>by simp[eqT,code]
 | .str x, .ls=>by simp[eqT,code]
 | .ls,u=>by cases u<;>simp[eqT,code]
 | .tup ts, .tup us=>by simp only[eqT,code,Co.tup.injEq];exact eqTs_code ts us
 | .tup ts, .non=>by simp[eqT,code]
 | .tup ts, .bl _=>by simp[eqT,code]
 | .tup ts, .int _=>by simp[eqT,code]
 | .tup ts, .str _=>by simp[eqT,code]
 | .tup ts, .ls=>by simp[eqT,code]
theorem eqTs_code:∀(ts us:List Tr),(eqTs ts us=true)↔codes ts=codes us
 | [],[]=>by simp[eqTs,codes]
 | [],u::us=>by simp[eqTs,codes]
 |t::ts,[]=>by simp[eqTs,codes]
 |t::ts,u::us=>by
  simp only[eqTs,codes,AL,AQ];rw[dP t u,eqTs_code ts us]
end
mutual
def LtC:Co->Co->Prop
 | .num i, .num j=>i < j
 | .str l, .str m=>l < m
 | .tup cs, .tup ds=>LtCs cs ds
 |c,d=>c.kind < d.kind
def LtCs:List Co->List Co->Prop
 | [],[]=>False
 | [],_::_=>True
 |_::_,[]=>False
 |c::cs,d::ds=>LtC c d\/(c=d/\LtCs cs ds)
end
theorem kH{c d:Co}(h:LtC c d):c.kind<=d.kind:=by
 cases c<;>cases d<;>simp[LtC,Co.kind]at h ⊢
theorem kG{c d:Co}(h:c.kind < d.kind):LtC c d:=by
 cases c<;>cases d<;>simp[LtC,Co.kind]at h ⊢
mutual
theorem jJ:∀c:Co,¬LtC c c
 | .non=>by simp[LtC,Co.kind]
 | .num _=>by simp[LtC]
 | .str l=>by simp only[LtC];exact List.lt_irrefl l
 | .tup cs=>by simp only[LtC];exact ltCs_irr cs
 | .ls=>by simp[LtC,Co.kind]
theorem ltCs_irr:∀cs:List Co,¬LtCs cs cs
 | []=>by simp[LtCs]
 |c::cs=>by
  simp only[LtCs,not_or];exact⟨jJ c,fun h=>ltCs_irr cs h.2⟩
end
mutual
theorem jI:∀c d:Co,LtC c d\/c=d\/LtC d c
 | .num i, .num j=>by simp only[LtC,Co.num.injEq];omega
 | .str l, .str m=>by
  simp only[LtC,Co.str.injEq];by_cases h1:l < m
  . exact .inl h1
  . by_cases h2:m < l
    . exact .inr (.inr h2)
    . exact .inr (.inl (List.le_antisymm (List.not_lt.mp h2) (List.not_lt.mp h1)))
 | .tup cs, .tup ds=>by simp only[LtC,Co.tup.injEq];exact ltCs_tri cs ds
 | .non,d=>by cases d<;>simp[LtC,Co.kind]
 | .ls,d=>by cases d<;>simp[LtC,Co.kind]
 | .num i, .non=>by simp[LtC,Co.kind]
 | .num i, .str _=>by simp[LtC,Co.kind]
 | .num i, .tup _=>by simp[LtC,Co.kind]
 | .num i, .ls=>by simp[LtC,Co.kind]
 | .str i, .non=>by simp[LtC,Co.kind]
 | .str i, .num _=>by simp[LtC,Co.kind]
 | .str i, .tup _=>by simp[LtC,Co.kind]
 | .str i, .ls=>by simp[LtC,Co.kind]
 | .tup i, .non=>by simp[LtC,Co.kind]
 | .tup i, .num _=>by simp[LtC,Co.kind]
 | .tup i, .str _=>by simp[LtC,Co.kind]
 | .tup i, .ls=>by simp[LtC,Co.kind]
theorem ltCs_tri:∀cs ds:List Co,LtCs cs ds\/cs=ds\/LtCs ds cs
 | [],[]=>by simp
 | [],d::ds=>by simp[LtCs]
 |c::cs,[]=>by simp[LtCs]
 |c::cs,d::ds=>by
  simp only[LtCs,AQ];rcases jI c d with h|h|h
  . exact .inl (.inl h)
  . rcases ltCs_tri cs ds with g|g|g
    . exact .inl (.inr ⟨h,g⟩)
    . exact .inr (.inl ⟨h,g⟩)
    . exact .inr (.inr (.inr ⟨h.symm,g⟩))
  . exact .inr (.inr (.inl h))
end
theorem az{a b c:Co}(h1:LtC a b)(h2:LtC b c)(hk:a.kind < b.kind\/b.kind < c.kind):LtC a c:=by
 have k1:=kH h1;have k2:=kH h2;exact kG (by omega)
mutual
theorem fo:∀ {a b c:Co},LtC a b->LtC b c->LtC a c
 | .num i, .num j, .num k,h1,h2=>by simp only[LtC]at *;omega
 | .str i, .str j, .str k,h1,h2=>by simp only[LtC]at *;exact List.lt_trans h1 h2
 | .tup i, .tup j, .tup k,h1,h2=>by simp only[LtC]at *;exact ltCs_trans h1 h2
 | .num _, .num _, .str _,h1,h2=>az h1 h2 (by simp[LtC,Co.kind]at h1 h2 ⊢)
 | .num _, .num _, .tup _,h1,h2=>az h1 h2 (by simp[LtC,Co.kind]at h1 h2 ⊢)
 | .num _, .num _, .non,h1,h2=>az h1 h2 (by simp[LtC,Co.kind]at h1 h2 ⊢)
 | .num _, .num _, .ls,h1,h2=>az h1 h2 (by simp[LtC,Co.kind]at h1 h2 ⊢)
 | .num _, .str _,_,h1,h2=>az h1 h2 (by simp[LtC,Co.kind]at h1 h2 ⊢)
 | .num _, .tup _,_,h1,h2=>az h1 h2 (by simp[LtC,Co.kind]at h1 h2 ⊢)
 | .num _, .non,_,h1,h2=>az h1 h2 (by simp[LtC,Co.kind]at h1 h2 ⊢)
 | .num _, .ls,_,h1,h2=>az h1 h2 (by simp[LtC,Co.kind]at h1 h2 ⊢)
 | .str _, .str _, .num _,h1,h2=>az h1 h2 (by simp[LtC,Co.kind]at h1 h2 ⊢)
 | .str _, .str _, .tup _,h1,h2=>az h1 h2 (by simp[LtC,Co.kind]at h1 h2 ⊢)
 | .str _, .str _, .non,h1,h2=>az h1 h2 (by simp[LtC,Co.kind]at h1 h2 ⊢)
 | .str _, .str _, .ls,h1,h2=>az h1 h2 (by simp[LtC,Co.kind]at h1 h2 ⊢)
 | .str _, .num _,_,h1,h2=>az h1 h2 (by simp[LtC,Co.kind]at h1 h2 ⊢)
 | .str _, .tup _,_,h1,h2=>az h1 h2 (by simp[LtC,Co.kind]at h1 h2 ⊢)
 | .str _, .non,_,h1,h2=>az h1 h2 (by simp[LtC,Co.kind]at h1 h2 ⊢)
 | .str _, .ls,_,h1,h2=>az h1 h2 (by simp[LtC,Co.kind]at h1 h2 ⊢)
 | .tup _, .tup _, .num _,h1,h2=>az h1 h2 (by simp[LtC,Co.kind]at h1 h2 ⊢)
 | .tup _, .tup _, .str _,h1,h2=>az h1 h2 (by simp[LtC,Co.kind]at h1 h2 ⊢)
 | .tup _, .tup _, .non,h1,h2=>az h1 h2 (by simp[LtC,Co.kind]at h1 h2 ⊢)
 | .tup _, .tup _, .ls,h1,h2=>az h1 h2 (by simp[LtC,Co.kind]at h1 h2 ⊢)
 | .tup _, .num _,_,h1,h2=>az h1 h2 (by simp[LtC,Co.kind]at h1 h2 ⊢)
 | .tup _, .str _,_,h1,h2=>az h1 h2 (by simp[LtC,Co.kind]at h1 h2 ⊢)
 | .tup _, .non,_,h1,h2=>az h1 h2 (by simp[LtC,Co.kind]at h1 h2 ⊢)
 | .tup _, .ls,_,h1,h2=>az h1 h2 (by simp[LtC,Co.kind]at h1 h2 ⊢)
 | .non,b,_,h1,h2=>az h1 h2 (by cases b<;>simp[LtC,Co.kind]at h1 h2 ⊢)
 | .ls,b,_,h1,h2=>az h1 h2 (by cases b<;>simp[LtC,Co.kind]at h1 h2 ⊢)
theorem ltCs_trans:∀ {a b c:List Co},LtCs a b->LtCs b c->LtCs a c
 | [],[],_,h1,_=>by simp[LtCs]at h1
 | [],_::_,[],_,h2=>by simp[LtCs]at h2
 | [],_::_,_::_,_,_=>by simp[LtCs]
 |_::_,[],_,h1,_=>by simp[LtCs]at h1
 |_::_,_::_,[],_,h2=>by simp[LtCs]at h2
 |x::a,y::b,z::c,h1,h2=>by
  simp only[LtCs]at*;rcases h1 with h1|⟨e1,h1⟩
  . rcases h2 with h2|⟨d,h2⟩
    . exact .inl (fo h1 h2)
    . exact .inl (d▸h1)
  . rcases h2 with h2|⟨d,h2⟩
    . exact .inl (e1▸h2)
    . exact .inr ⟨e1.trans d,ltCs_trans h1 h2⟩
end
open Classical in
noncomputable def ltT(t u:Tr):Bool:=decide (LtC (code t) (code u))
open Classical in
theorem ltT_iff{t u:Tr}:(ltT t u=true)↔LtC (code t) (code u):=by
 unfold ltT;exact decide_eq_true_iff
theorem eW{t u:Tr}(h:ltT t u=true):ltT u t=false:=by
 cases e:ltT u t with
 |false=>rfl
 |true=>exact absurd (fo (ltT_iff.mp h) (ltT_iff.mp e)) (jJ _)
theorem mh{a b c:Tr}(h1:ltT b a=false)(h2:ltT c b=false):ltT c a=false:=by
 cases e:ltT c a with
 |false=>rfl
 |true=>
  have n1:¬LtC (code b) (code a):=fun z=>by rw[ltT_iff.mpr z]at h1;cases h1
  have n2:¬LtC (code c) (code b):=fun z=>by rw[ltT_iff.mpr z]at h2;cases h2
  have l:=ltT_iff.mp e;rcases jI (code a) (code b)with q|q|q
  . exact absurd (fo l q) n2
  . rw[q]at l;exact absurd l n2
  . exact absurd q n1
theorem xI{a b:Tr}(h1:ltT a b=false)(h2:ltT b a=false):eqT a b=true:=by
 rw[dP];rcases jI (code a) (code b)with q|q|q
 . rw[ltT_iff.mpr q]at h1;cases h1
 . exact q
 . rw[ltT_iff.mpr q]at h2;cases h2
open PySem PySem.Spec PyProof.Rows L2
mutual
def Cm:Tr->Tr->Prop
 | .bl _, .bl _=>True
 | .int _, .int _=>True
 | .str _, .str _=>True
 | .tup ts, .tup us=>Cms ts us
 |_,_=>False
def Cms:List Tr->List Tr->Prop
 |t::ts,u::us=>(eqT t u=true/\Cms ts us)\/(eqT t u=false/\Cm t u)
 | [],_=>True
 |_::_,[]=>True
end
noncomputable def qs:List Tr->List Tr->List (Bool×Bool)
 |t::ts,u::us=>(eqT t u,ltT t u)::qs ts us
 | [],_=> []
 |_::_,[]=> []
theorem e5:∀(ts us:List Tr),(lexV (decide (ts.length < us.length)) (qs ts us)=true)↔LtCs (codes ts) (codes us)
 | [],[]=>by simp[qs,lexV,codes,LtCs]
 | [],u::us=>by simp[qs,lexV,codes,LtCs]
 |t::ts,[]=>by simp[qs,lexV,codes,LtCs]
 |t::ts,u::us=>by
  have a:=e5 ts us;have e:decide ((t::ts).length < (u::us).length)=decide (ts.length < us.length):=by simp
  rw[e];simp only[qs,lexV,codes,LtCs];by_cases h:eqT t u=true
  . rw[if_pos h,a];have hc:=(dP t u).mp h;rw[hc];constructor
    . intro z;exact .inr ⟨rfl,z⟩
    . rintro(z|⟨_,z⟩)
      . exact absurd z (jJ _)
      . exact z
  . rw[if_neg h];have hc:¬code t=code u:=fun z=>h ((dP t u).mpr z);constructor
    . intro z;exact .inl (ltT_iff.mp z)
    . rintro(z|⟨z,_⟩)
      . exact ltT_iff.mpr z
      . exact absurd z hc
theorem aW{a b:Bool}(h:(a=true)↔(b=true)):a=b:=AW.mpr h
section
variable{X:Cx}{pins:List (Addr×Obj)}{σ:L2.St}{H:Hp}{s:Shared}
theorem fu(I:Inv X pins σ H s){n:Nat}{A:Around}(hu:A.units+n+1 < cLine)(ih:∀ {t u:Tr} {v w:V} {a b:Value},t.depth<=n->(t.pure\/u.pure)->Cm t u->TrAt H v t->TrAt H w u->RelV v a->RelV w b->LtAt A s a b (ltT t u)):
 ∀ {ts us:List Tr} {vs ws:List V} {as bs:List Value},Trs.depth ts<=n->(Trs.pure ts\/Trs.pure us)->Cms ts us->TrsAt H vs ts->TrsAt H ws us->Vals vs as->Vals ws bs->bD A s as bs (qs ts us)
 | [],us,vs,ws,as,bs,hd,hp,hc,h1,h2,r1,r2=>by
  unfold TrsAt at h1;subst h1;cases r1;cases us<;>simp[bD,qs]
 |t::ts,[],vs,ws,as,bs,hd,hp,hc,h1,h2,r1,r2=>by
  unfold TrsAt at h2;subst h2;cases r2;obtain⟨v,r,rfl,_,_⟩:=h1.inv;cases r1;simp[bD,qs]
 |t::ts,u::us,vs,ws,as,bs,hd,hp,hc,h1,h2,r1,r2=>by
  obtain⟨v,r,rfl,g,g2⟩:=h1.inv;obtain⟨m,r',rfl,f,j⟩:=h2.inv;unfold Trs.depth at hd
  have c:t.pure\/u.pure:=by
   rcases hp with hp|hp<;>unfold Trs.pure at hp
   . exact .inl hp.1
   . exact .inr hp.1
  have d:Trs.pure ts\/Trs.pure us:=by
   rcases hp with hp|hp<;>unfold Trs.pure at hp
   . exact .inl hp.2
   . exact .inr hp.2
  cases r1 with
  |cons h k=>
   cases r2 with
   |cons i l=>
    simp only[bD,qs];refine⟨jh I n (by omega) c g f h i hu,fun e=>?_,fun e=>?_⟩
    . unfold Cms at hc;rcases hc with⟨e',_⟩|⟨_,hc⟩
      . rw[e]at e';cases e'
      . exact ih (by omega) c hc g f h i
    . unfold Cms at hc;rcases hc with⟨_,hc⟩|⟨e',_⟩
      . exact fu I hu ih (by omega) d hc g2 j k l
      . rw[e]at e';cases e'
theorem nF{A:Around}{t u:Tr}{v w:V}{a b:Value}(hd:∀ts,t≠ .tup ts)(hc:Cm t u)(h1:TrAt H v t)(h2:TrAt H w u)(r1:RelV v a)(r2:RelV w b):LtAt A s a b (ltT t u):=by
 cases t<;>cases u<;>unfold Cm at hc<;>first|exact hc.elim|skip
 . rename_i x y;unfold TrAt at h1 h2;subst h1 h2;cases (show a=Value.bool x from r1);cases (show b=Value.bool y from r2);intro prog w' E Q h;refine lt_bool ?_
   have e:decide (b2i x < b2i y)=ltT (.bl x) (.bl y):=by
    refine aW ?_;rw[ltT_iff,decide_eq_true_iff];cases x<;>cases y<;>simp[code,LtC,b2i]
   rw[e];exact h
 . rename_i x y;unfold TrAt at h1 h2;subst h1 h2;obtain⟨c,rfl⟩:=r1;obtain⟨t2,rfl⟩:=r2;intro prog w' E Q h;refine lt_int ?_
   have e:decide (x < y)=ltT (.int x) (.int y):=by
    refine aW ?_;rw[ltT_iff,decide_eq_true_iff];simp[code,LtC]
   rw[e];exact h
 . rename_i x y;unfold TrAt at h1 h2;subst h1 h2;obtain⟨c,rfl⟩:=r1;obtain⟨t2,rfl⟩:=r2;intro prog w' E Q h;refine lt_str ?_
   have e:decide (x.cps.toList < y.cps.toList)=ltT (.str x) (.str y):=by
    refine aW ?_;rw[ltT_iff,decide_eq_true_iff];simp[code,LtC]
   rw[e];exact h
 . exact(hd _ rfl).elim
theorem fV(I:Inv X pins σ H s):∀(n:Nat) {A:Around} {t u:Tr} {v w:V} {a b:Value},t.depth<=n->(t.pure\/u.pure)->Cm t u->TrAt H v t->TrAt H w u->RelV v a->RelV w b->A.units+n+1 < cLine->LtAt A s a b (ltT t u):=by
 intro n
 induction n with
 |zero=>
  intro A t u v w a b hd hp hc h1 h2 r1 r2 hu;refine nF (fun ts e=>?_) hc h1 h2 r1 r2;subst e;simp[Tr.depth]at hd
 |succ n ih=>
  intro A t u v w a b hd hp hc h1 h2 r1 r2 hu
  cases t with
  |tup ts=>
   cases u<;>first|(unfold Cm at hc;exact hc.elim)|skip
   rename_i us;unfold Cm at hc;unfold TrAt at h1 h2;refine hZq fun q_ e_=>?_;obtain⟨p,y,rfl,g0,k0⟩:=h1;obtain⟨r,vs,rfl,m,k1⟩:=h2;subst e_;cases r1;cases r2;refine hZq fun q_ e_=>?_;obtain⟨as,g,i,_⟩:=I.tuple (SqT.of g0);obtain⟨bs,h,k,_⟩:=I.tuple (SqT.of m);subst e_;unfold Tr.depth at hd
   have f:Trs.pure ts\/Trs.pure us:=by
    rcases hp with hp|hp<;>unfold Tr.pure at hp
    . exact .inl hp
    . exact .inr hp
   have c:A.in1.units+n+1 < cLine:=by show A.units+1+n+1 < cLine;omega
   have hx:=fu (A:=A.in1) I c (fun d j cc o q b1 b2=>ih d j cc o q b1 b2 c) (by omega) f hc k0 k1 g h
   have:=lP (A:=A) (show s.heap.IsTuple p as.toArray from i) (show s.heap.IsTuple r bs.toArray from k) (by omega) (by simpa using hx)
   have e:lexV (decide (as.toArray.size < bs.toArray.size)) (qs ts us)=ltT (.tup ts) (.tup us):=by
    have x:=k0.len;have l1:=k1.len;have l2:=g.length;have z:=h.length
    have l:decide (as.toArray.size < bs.toArray.size)=decide (ts.length < us.length):=by
     rw[zx,zx,<-l2,<-z,x,l1]
    rw[l];refine aW ?_;rw[e5,ltT_iff];simp[code,LtC]
   rw[<-e];exact this
  |_=>exact nF (fun ts e=>by cases e) hc h1 h2 r1 r2
end
end Tre
namespace Srt
open PySem PySem.W PySem.Calls PyProof.Rows
theorem cY{α:Type}(d:α):∀(vs:List α),(List.range vs.length).map (fun i=>vs.getD i d)=vs
 | []=>rfl
 |v::vs=>by
  rw[zV,List.range_succ_eq_map,zU,At];have:=cY d vs;simp only[Function.comp_def];show v::List.map (fun i=>vs.getD i d) (List.range vs.length)=v::vs;rw[this]
theorem mR{α:Type}:∀(vs:List α),List.map (fun x=>x.snd) (vs.zip vs)=vs
 | []=>rfl
 |v::vs=>by
  rw[Ay,zU,mR vs]
section
variable{prog:Program}{w:World}{A:Around}{E:Value->Shared->Prop}{s:Shared}{lt:Nat->Nat->Bool}{κ:SortKind}
def Stay(s:Shared)(a:Addr)(h':Heap):Prop:=∀b o,b≠a->s.heap.get? b=some o->h'.get? b=some o
theorem eh{a:Addr}{vs:List Value}{n:Nat}{P:PySem.Fin->Shared->Prop}(O:Ord lt)(ho:s.heap.get? a=some (seqObj "list" vs.toArray n))(h64:vs.length < 64)(hkind:2<=vs.length->∀h',Stay s a h'->∀R:SortKind->Shared->Prop,R κ {s with heap:=h'}->wpAny (model prog w) A (keyKind' vs.toArray) R E {s with heap:=h'})(hask:∀h',Stay s a h'->∀i j (R:Bool->Shared->Prop),i < vs.length->j < vs.length->R (lt i j) {s with heap:=h'}->kas_ask prog w A κ vs i j R {s with heap:=h'})(h:∀p:Array Nat,Pm vs.length p->Up lt p vs.length->P (.done (.ret .none)) {s with heap:=sortedHeap s.heap a vs (List.toArray (p.toList.map fun i=>vs.getD i Value.none))}):
 wpAny (model prog w) A (Builtin.«list.sort» ⟨[.ref a],[]⟩) P E s:=by
 have ha:a < s.heap.objs.size:=Heap.lt_size ho;rw[list_sort_plain];refine wpAny_bind (listItems_at ho rfl ?_);refine wpAny_bind (listUpdate_at ho rfl ?_ (by rw[zx,sizeLine_eq];omega) (zY _))
 obtain⟨e1,f⟩:∃e1,(s.heap.update a (Obj.mapSeq fun _=>(#[]:Array Value))).get? a=some (seqObj "list" #[] e1):=⟨_,get?_update_seq ho fun _=> #[]⟩;refine wpAny_bind (seqEpoch_at f rfl ?_);refine wpAny_bind (wpAny_newTuple ?_ (by show vs.length<=_;rw[sizeLine_eq];omega))
 refine wpAny_bind (wpAny_newList ?_ (zY _));refine wpAny_holding ?_;have s1:=Heap.SameBut.update s.heap a (Obj.mapSeq fun _=>(#[]:Array Value))
 have st:Stay s a (((s.heap.update a (Obj.mapSeq fun _=>(#[]:Array Value))).push (seqObj "tuple" vs.toArray 0)).push (seqObj "list" #[] 0)):=fun b o hb e=>
  Heap.get?_push_of_some _ (Heap.get?_push_of_some _ ((s1.2 b hb).trans e))
 have c:(((s.heap.update a (Obj.mapSeq fun _=>(#[]:Array Value))).push (seqObj "tuple" vs.toArray 0)).push (seqObj "list" #[] 0)).get? a=some (seqObj "list" #[] e1):=Heap.get?_push_of_some _ (Heap.get?_push_of_some _ f);show wpAny (model prog w) A _ P E {s with heap:=((s.heap.update a (Obj.mapSeq fun _=>(#[]:Array Value))).push (seqObj "tuple" vs.toArray 0)).push (seqObj "list" #[] 0)};dsimp only
 have out:∀p:Array Nat,Pm vs.length p->(List.toArray (p.toList.map fun i=>vs.getD i Value.none)).size<=sizeLine:=fun p hp=>by
  rw[zx,zm,Ae,hp.size,sizeLine_eq];omega
 by_cases h2:vs.toArray.size < 2
 . rw[if_pos h2,if_pos h2];refine wpAny_bind (wpAny_pure ?_);rw[StateT.run_pure];refine wpAny_bind (wpAny_pure ?_);dsimp only;refine wpAny_bind (seqEpoch_at c rfl ?_)
   have h0:Pm vs.length (List.toArray (List.range vs.length)):=by
    unfold Pm;simp
   have u:(arrOf (SortSt.mk' general' (vs.toArray.zip vs.toArray) #[] 7 none)).map (·.2)=List.toArray ((List.toArray (List.range vs.length)).toList.map fun i=>vs.getD i Value.none):=by
    rw[AI,cY];show(vs.toArray.zip vs.toArray).map (·.2)=vs.toArray;apply Array.toList_inj.mp;simp;exact mR vs
   rw[u];refine wpAny_bind (listUpdate_at c rfl ?_ (zY _) (Nat.le_succ_of_le (out _ h0)));simp only[bne_self_eq_false,AE,if_false];refine wpAny_pure (h _ h0 fun i j x m=>?_);have hv:vs.length < 2:=by simpa using h2
   have:i=j:=by omega
   subst this;exact O.refl _
 . rw[if_neg h2,if_neg h2]
   have g:2<=vs.length:=by
    rw[zx]at h2;omega
   refine wpAny_bind (hkind g _ st _ ?_)
   have run:(kas_sort vs.length).kasWp (kas_ask prog w A κ vs) (fun p s'=>(Pm vs.length p/\Up lt p vs.length)/\s'= {s with heap:=((s.heap.update a (Obj.mapSeq fun _=>(#[]:Array Value))).push (seqObj "tuple" vs.toArray 0)).push (seqObj "list" #[] 0)})
    {s with heap:=((s.heap.update a (Obj.mapSeq fun _=>(#[]:Array Value))).push (seqObj "tuple" vs.toArray 0)).push (seqObj "list" #[] 0)}:=
    pR (lt:=lt) (N:=vs.length) (G:=fun s'=>s'= {s with heap:=((s.heap.update a (Obj.mapSeq fun _=>(#[]:Array Value))).push (seqObj "tuple" vs.toArray 0)).push (seqObj "list" #[] 0)})
     (fun i j R s' hi m k r=>by subst k;exact hask _ st i j R hi m (r _ rfl)) (fun p s' hp k=>⟨hp,k⟩) (wA O (by omega)) rfl
   refine wpAny_bind (wpAny_mono (kat_run (ks:=vs) (Q:=fun d s'=>∃p:Array Nat,(Pm vs.length p/\Up lt p vs.length)/\arrOf d=p.map (kas_item (vs.toArray.zip vs.toArray))/\failedOf d=none/\s'= {s with heap:=((s.heap.update a (Obj.mapSeq fun _=>(#[]:Array Value))).push (seqObj "tuple" vs.toArray 0)).push (seqObj "list" #[] 0)})
    rfl g h64 (fun p d s' z t y q=>⟨p,q.1,t,y,q.2⟩) run) ?_ fun _ _ e=>e)
   rintro⟨⟨⟩,d⟩ s' ⟨p,hp,l,v,rfl⟩;dsimp only;refine wpAny_bind (seqEpoch_at c rfl ?_);rw[kat_snds rfl l];refine wpAny_bind (listUpdate_at c rfl ?_ (zY _) (Nat.le_succ_of_le (out p hp.1)));rw[v];simp only[bne_self_eq_false,AE,if_false];exact wpAny_pure (h p hp.1 hp.2)
theorem lV{l:Addr}{vs:List Value}{Q:Value->Shared->Prop}(O:Ord lt)(hl:s.heap.IsList l vs.toArray)(h64:vs.length < 64)(hkind:2<=vs.length->∀h',(∀b o,s.heap.get? b=some o->h'.get? b=some o)->∀(E':Value->Shared->Prop) (R:SortKind->Shared->Prop),R κ {s with heap:=h'}->wpAny (model prog w) A.in1.in1 (keyKind' vs.toArray) R E' {s with heap:=h'})(hask:∀h',(∀b o,s.heap.get? b=some o->h'.get? b=some o)->∀i j (R:Bool->Shared->Prop),i < vs.length->j < vs.length->R (lt i j) {s with heap:=h'}->kas_ask prog w A.in1.in1 κ vs i j R {s with heap:=h'})(h:∀p:Array Nat,Pm vs.length p->Up lt p vs.length->Q (.ref (s.heap.objs.size+1)) {s with heap:=sortedAll s.heap vs (List.toArray (p.toList.map fun i=>vs.getD i Value.none))}):
 wpAny (model prog w) A (call (.builtin "sorted") [.ref l]) Q E s:=by
 refine Calls.call_function_entry kind_sorted plain_sorted entry_sorted (args_sorted1 _) ?_;unfold Builtin.«sorted»;refine wpAny_bind (m:=checkCount "sorted" 1 1 _) (wpAny_pure ?_);refine wpAny_bind (collect_list hl ?_ (by rw[sizeLine_eq];omega))
 refine wpAny_bind (wpAny_newList ?_ (by rw[sizeLine_eq];omega))
 have hsz:((s.heap.push (seqObj "list" #[] 0)).update s.heap.objs.size (Obj.mapSeq (· ++vs.toArray))).objs.size=s.heap.objs.size+1:=by
  rw[Heap.size_update,size_push']
 have c:(((s.heap.push (seqObj "list" #[] 0)).update s.heap.objs.size (Obj.mapSeq (· ++vs.toArray))).push (seqObj "list" vs.toArray 0)).get? (s.heap.objs.size+1)=some (seqObj "list" vs.toArray 0):=by
  rw[<-hsz];exact Heap.get?_push_size _ rfl
 have keep:∀b o,s.heap.get? b=some o->(((s.heap.push (seqObj "list" #[] 0)).update s.heap.objs.size (Obj.mapSeq (· ++vs.toArray))).push (seqObj "list" vs.toArray 0)).get? b=some o/\b≠s.heap.objs.size+1:=fun b o q=>by
  have a:b < s.heap.objs.size:=Heap.lt_size q;refine⟨?_,zO (Aq a)⟩;rw[Heap.get?_push_ne _ _ _ (by rw[hsz];exact zO (Aq a)),Heap.get?_update_ne _ _ _ _ (zO a),Heap.get?_push_ne _ _ _ (zO a)]
  exact q
 show wpAny _ _ _ _ _ {s with heap:=((s.heap.push (seqObj "list" #[] 0)).update s.heap.objs.size (Obj.mapSeq (· ++vs.toArray))).push (seqObj "list" vs.toArray 0)};rw[hsz]
 refine wpAny_bind (wpAny_holding (wpAny_call_entry slot_list_sort ⟨_,c,rfl⟩ entry_list_sort (eh (lt:=lt) (κ:=κ) O c h64 (fun h2 h' st R d=>hkind h2 h' (fun b o e=>st b o (keep b o e).2 (keep b o e).1) _ R d)
  (fun h' st i j R hi f d=>hask h' (fun b o e=>st b o (keep b o e).2 (keep b o e).1) i j R hi f d) fun p g k=>⟨_,rfl,?_⟩) (args_list_sort _)))
 exact wpAny_pure ⟨_,rfl,h p g k⟩
end
end Srt
namespace Tre
open PySem PySem.Spec PyProof.Rows L2 Srt
theorem iW{prog:Program}{w:World}{A:Around}{s:Shared}{fin:Bool}{Q:Bool->Shared->Prop}:∀ {as bs:List Value} {q:List (Bool×Bool)} {i:Nat},bD A s as bs q->Q (lexV fin q) s->PySem.W.KatLex prog w A false fin Q (as.zip bs) i s
 | [],_,q,i,h,hq=>by
  unfold bD at h;subst h;rw[List.zip_nil_left];exact PySem.W.kat_nil hq
 |_::_,[],q,i,h,hq=>by
  unfold bD at h;subst h;rw[List.zip_nil_right];exact PySem.W.kat_nil hq
 |a::as,b::bs,[],i,h,hq=>h.elim
 |a::as,b::bs,(e,l)::q,i,h,hq=>by
  obtain⟨h1,h2,h3⟩:=h;rw[Ay];refine PySem.W.kat_cons (h1 prog w _ _ ?_)
  cases e with
  |true=>exact PySem.W.kat_yes (iW (h3 rfl) hq)
  |false=>
   refine PySem.W.kat_no ?_;show wpAny _ _ (oneLt' false a b) _ _ _;exact PySem.W.kat_one a b (h2 rfl prog w _ _ hq)
def Hd(t:Tr):Prop:=∃fs r,t= .tup (.tup fs::r)
theorem TrsAt.map{H:Hp}{vs:List V}{ts:List Tr}(h:TrsAt H vs ts):∀ {is:List Nat},(∀i∈is,i < ts.length)->TrsAt H (is.map fun i=>vs.getD i .non) (is.map fun i=>ts.getD i .non)
 | [],_=> .nil
 |i::is,hi=>by
  have h0:i < ts.length:=hi i zq;have hl:=h.len;obtain⟨v,e1,a⟩:=h.get (i:=i) (t:=ts[i]) (zo h0);have b:vs.getD i .non=v:=by rw[zt,e1];rfl
  have c:ts.getD i .non=ts[i]:=by rw[zt,zo h0];rfl
  rw[zU,zU,b,c];exact .cons a (TrsAt.map h fun j m=>hi j (zp _ m))
theorem Vals.map{vs:List V}{as:List Value}(h:Vals vs as):∀ {is:List Nat},(∀i∈is,i < vs.length)->Vals (is.map fun i=>vs.getD i .non) (is.map fun i=>as.getD i Value.none)
 | [],_=> .nil
 |i::is,hi=>by
  have h0:i < vs.length:=hi i zq;obtain⟨u,e1,a⟩:=h.get (i:=i) (x:=vs[i]) (zo h0);have b:vs.getD i .non=vs[i]:=by rw[zt,zo h0];rfl
  have c:as.getD i Value.none=u:=by rw[zt,e1];rfl
  rw[zU,zU,b,c];exact .cons a (Vals.map h fun j m=>hi j (zp _ m))
section
variable{X:Cx}{pins:List (Addr×Obj)}{σ:L2.St}{H:Hp}{s:Shared}
theorem c5(I:Inv X pins σ H s){r:Addr}{vs:List V}(h:H r=some (.tup vs)):∃(as:List Value) (o:Obj) (n:Nat),Vals vs as/\s.heap.get? r=some o/\o.cls= .type "tuple"/\o.data= .seq as.toArray n:=by
 obtain⟨as,q,p,_⟩:=I.tuple (SqT.of h);obtain⟨o,ho,hc,n,hd⟩:=(show s.heap.IsTuple r as.toArray from p);exact⟨as,o,n,q,ho,hc,hd⟩
theorem ic(I:Inv X pins σ H s):∀ {vs:List V} {ts:List Tr} {as:List Value},TrsAt H vs ts->Vals vs as->(∀t∈ts,Hd t)->∃fs,PySem.W.KatTups s.heap as fs/\fs.length=as.length/\∀v∈fs,∃(r:Addr) (o:Obj),v= .ref r/\s.heap.get? r=some o/\o.cls= .type "tuple"
 |vs,[],as,h,r,_=>by
  unfold TrsAt at h;subst h;cases r;exact⟨[],PySem.W.KatTups.nil,rfl,fun v m=>by cases m⟩
 |vs,t::ts,as,h,r,hh=>by
  obtain⟨v,y,rfl,h1,h2⟩:=h.inv
  cases r with
  |cons j g=>
   obtain⟨fs,k1,k2,k3⟩:=ic I h2 g fun t m=>hh t (zp _ m);obtain⟨z,x,rfl⟩:=hh t zq;unfold TrAt at h1;obtain⟨u,l,rfl,p,e⟩:=h1;cases j;obtain⟨f,fr,rfl,h3,h4⟩:=e.inv;obtain⟨q,o,n,k,ho,hc,hd⟩:=c5 I p
   cases k with
   |cons i w=>
    unfold TrAt at h3;obtain⟨r1,c,rfl,g2,_⟩:=h3;cases i;obtain⟨_,d,_,_,a,b,_⟩:=c5 I g2;refine⟨.ref r1::fs,PySem.W.KatTups.cons ho hc hd (by simp) k1,by simp[k2],fun v m=>?_⟩
    rcases zJ.mp m with rfl|m
    . exact⟨r1,d,rfl,a,b⟩
    . exact k3 v m
def uU:List V->Hp->VK->Prop:=fun xs H Q=>∃(l:Addr) (vs:List V) (ts:List Tr),xs= [.ref l]/\H l=some (.lst vs)/\TrsAt H vs ts/\ts.length < 64/\(∀t∈ts,Hd t/\t.pure/\t.depth<=40)/\(∀t∈ts,∀u∈ts,Cm t u)/\
 ∀(D:Addr) (ws:List V) (us:List Tr),H D=none->us.Perm ts->TrsAt H ws us->(∀(i j:Nat) (t u:Tr),i<=j->us[i]?=some t->us[j]?=some u->ltT u t=false)->Q (.ref D) (upd H D (.lst ws))
theorem fQ(hu:X.A.units+60 < cLine):cr X (.builtin "sorted") uU:=by
 intro pins s σ H xs us Q I r h;refine hZq fun q_ e_=>?_;obtain⟨l,vs,ts,rfl,hl,hT,bg,f,a5,q⟩:=h;obtain⟨u,rfl,ru⟩:=dw r;subst e_;cases ru;refine hZq fun q_ e_=>?_;obtain⟨as,rv,pl,_⟩:=I.list (SqL.of hl);subst e_;have l1:=hT.len;have l2:=rv.length;have O:Srt.Ord fun i j=>ltT (ts.getD i .non) (ts.getD j .non):=⟨fun a b h=>eW h,fun a b c h1 h2=>mh h1 h2⟩
 have at_:∀i,i < as.length->∃t v a,ts.getD i .non=t/\t∈ts/\TrAt H v t/\RelV v a/\as.getD i Value.none=a:=fun i hi=>by
  have g:i < ts.length:=by omega
  refine hZq fun q_ e_=>?_;obtain⟨v,e1,x⟩:=hT.get (i:=i) (t:=ts[i]) (zo g);obtain⟨a,e3,e4⟩:=rv.get e1;subst e_;exact⟨ts[i],v,a,by rw[zt,zo g];rfl,A4 g,x,e4,by rw[zt,e3];rfl⟩
 refine lV (κ:=tuples' false) O pl.isList (by omega) (fun h2 h' kp E' R hR=>?_) (fun h' kp i j R hi hj hR=>?_) fun p hp a3=>?_
 . have k:Inv X pins σ H {s with heap:=h'}:=I.kept (t':=s.toks) kp;refine hZq fun q_ e_=>?_;obtain⟨fs,k1,k2,k3⟩:=ic k hT rv fun t m=>(f t m).1;subst e_;refine PySem.W.kat_kind (T:=Value.type "tuple") k1 (by omega) (fun v m=>?_) (by decide +kernel) ?_
   . refine hZq fun q_ e_=>?_;obtain⟨r,o,rfl,ho,hc⟩:=k3 v m;subst e_;have:PySem.W.Looks (model X.prog X.w) h' (typeOf (.ref r)) o.cls:=(PySem.W.Looks.ld ho).andThen .now;rw[hc]at this;exact this
   . rw[show(Value.type "tuple" !=Value.type "tuple")=false by decide +kernel]
     exact hR
 . have k:Inv X pins σ H {s with heap:=h'}:=I.kept (t':=s.toks) kp;refine hZq fun q_ e_=>?_;obtain⟨t,v,a,et,mt,ht,ra,ea⟩:=at_ i hi;obtain⟨u,v',b,eu,mu,au,rb,eb⟩:=at_ j hj;have hc:=a5 t mt u mu;obtain⟨⟨f1,r1,rfl⟩,p1,d1⟩:=f t mt;obtain⟨⟨f2,r2,rfl⟩,p2,d2⟩:=f u mu;unfold TrAt at ht au;obtain⟨x0,bj,rfl,g0,g1⟩:=ht;obtain⟨y0,bi,rfl,g2,g3⟩:=au;subst e_;cases ra;cases rb;refine hZq fun q_ e_=>?_;obtain⟨aT,o,n,q3,ho,bw,hd⟩:=c5 k g0;obtain⟨aC,o',n',q4,a7,bb,a6⟩:=c5 k g2;subst e_;unfold Tr.depth at d1;unfold Tr.pure at p1;unfold Cm at hc;have y:X.A.in1.in1.units+40+1 < cLine:=by show X.A.units+1+1+40+1 < cLine;omega
   have hx:=fu (A:=X.A.in1.in1) k y (fun d pp cc a1 a2 b1 b2=>fV k 40 d pp cc a1 a2 b1 b2 y) (by omega) (.inl p1) hc g1 g3 q3 q4
   unfold PySem.W.kas_ask;rw[ea,eb];refine PySem.W.kat_lt (b:=false) ho hd a7 a6 ?_;rw[AI,AI];refine iW hx ?_
   have e:lexV (decide (aT.toArray.size < aC.toArray.size)) (qs (.tup f1::r1) (.tup f2::r2))=ltT (ts.getD i .non) (ts.getD j .non):=by
    have z0:=g1.len;have z1:=g3.len;have z2:=q3.length;have z3:=q4.length
    have x:decide (aT.toArray.size < aC.toArray.size)=decide ((Tr.tup f1::r1).length < (Tr.tup f2::r2).length):=by
     rw[zx,zx,<-z2,<-z3,z0,z1]
    rw[x,et,eu];refine aW ?_;rw[e5,ltT_iff];simp[code,LtC]
   rw[e];exact hR
 . have z:∀i∈p.toList,i < ts.length:=fun i m=>by
    have:=Af.mp (List.Perm.mem_iff hp |>.mp m);omega
   refine⟨.ref (s.heap.objs.size+1),upd H (s.heap.objs.size+1) (.lst (p.toList.map fun i=>vs.getD i .non)),I.laid (t':=s.toks) (fun b o e=>sortedAll_old e) (Nat.le_succ _) ?_,rfl,?_⟩
   . obtain⟨e,he⟩:=sortedAll_at s.heap as (List.toArray (p.toList.map fun i=>as.getD i Value.none));refine⟨?_,p.toList.map fun i=>as.getD i Value.none,e,Vals.map rv fun i m=>by have:=z i m;omega,he⟩
     rw[zm,Ae,hp.size];have:(64:Nat)<=sizeLine:=by decide +kernel
     omega
   . refine q _ _ (p.toList.map fun i=>ts.getD i .non) (I.hok.fresh (Nat.le_succ _)) ?_ (TrsAt.map hT z) fun i j t u a4 e1 x=>?_
     . have:=List.Perm.map (fun i=>ts.getD i Tr.non) hp;rw[show as.length=ts.length by omega,cY]at this
       exact this
     . rw[zr]at e1 x;refine hZq fun q_ e_=>?_;obtain⟨a,ea,rfl⟩:=zy.mp e1;obtain⟨b,eb,rfl⟩:=zy.mp x;subst e_
       have hj:j < as.length:=by
        have:=(zv.mp eb).1;rw[Ae,hp.size]at this;exact this
       have:=a3 i j a4 hj;rw[cg,cg,<-Ah,<-Ah,ea,eb]at this;exact this
end
end Tre
namespace Tre
open PySem L2
inductive So where
 |tm|fr|pr|ws|lt
abbrev s_(x:String):Tr:= .str (Str.ofString x)
inductive Ty:So->Tr->Prop
 |nm (x:Str):Ty .tm (.tup [s_ "name", .str x])
 |ap (x:Str) (ts:List Tr):ts.length<=3->(∀t∈ts,Ty .tm t)->Ty .tm (.tup [s_ "call", .str x, .tup ts])
 |fr (a b:Int):Ty .fr (.tup [.int a, .int b])
 |pr (t f:Tr):Ty .tm t->Ty .fr f->Ty .pr (.tup [t,f])
 |fl (x:Str):Ty .ws (.tup [s_ "flag", .str x])
 |mo (ps:List Tr) (f:Tr):(∀p∈ps,Ty .pr p)->Ty .fr f->Ty .ws (.tup [s_ "most", .tup ps,f])
 |li (t u:Tr):Ty .tm t->Ty .tm u->Ty .ws (.tup [s_ "like",t,u])
 |no (w:Tr):Ty .ws w->Ty .ws (.tup [s_ "not",w])
 |bo (l:List Tr):(∀w∈l,Ty .ws w)->Ty .ws (.tup [s_ "both", .tup l])
 |ei (l:List Tr):(∀w∈l,Ty .ws w)->Ty .ws (.tup [s_ "either", .tup l])
 |lt (w:Tr) (b:Bool):Ty .ws w->Ty .lt (.tup [w, .bl b])
theorem aG{t u:Tr}{ts us:List Tr}(h1:eqT t u=false->Cm t u)(h2:Cms ts us):Cms (t::ts) (u::us):=by
 unfold Cms
 cases e:eqT t u with
 |true=>exact .inl ⟨rfl,h2⟩
 |false=>exact .inr ⟨rfl,h1 e⟩
theorem yj{t u:Tr}{ts us:List Tr}(h0:eqT t u=false)(h1:Cm t u):Cms (t::ts) (u::us):=by
 unfold Cms;exact .inr ⟨h0,h1⟩
theorem bf{us:List Tr}:Cms [] us:=by
 cases us<;>simp[Cms]
theorem ci(x y:Str):Cm (.str x) (.str y):=by simp[Cm]
theorem fF(x y:Int):Cm (.int x) (.int y):=by simp[Cm]
theorem zg(x y:Bool):Cm (.bl x) (.bl y):=by simp[Cm]
theorem dQ{ts us:List Tr}(h:Cms ts us):Cm (.tup ts) (.tup us):=by
 unfold Cm;exact h
theorem gi{ts us:List Tr}(h:∀t∈ts,∀u∈us,Cm t u):Cms ts us:=by
 induction ts generalizing us with
 |nil=>exact bf
 |cons t ts c=>
  cases us with
  |nil=>simp[Cms]
  |cons u us=>exact aG (fun _=>h t zq u zq) (c fun a ma b mb=>h a (zp _ ma) b (zp _ mb))
theorem pO:∀(n:Nat) {k:So} {t u:Tr},t.depth<=n->Ty k t->Ty k u->Cm t u:=by
 intro n
 induction n with
 |zero=>
  intro k t u hd h1 h2;cases h1<;>simp[Tr.depth]at hd
 |succ n f=>
  intro k t u hd h1 h2
  have sub:∀ {ts:List Tr} {t:Tr},(Tr.tup ts).depth<=n+1->t∈ts->t.depth<=n:=fun h m=>by
   unfold Tr.depth at h;have:=bA m;omega
  have c:∀ {ts l:List Tr} {t:Tr},(Tr.tup ts).depth<=n+1->Tr.tup l∈ts->t∈l->t.depth<=n:=fun h m g=>by
   have h3:=sub h m;unfold Tr.depth at h3;have:=bA g;omega
  cases h1<;>cases h2<;>refine dQ ?_
  all_goals first
   |exact yj (by decide +kernel) (ci _ _)
   |skip
  . exact aG (fun _=>ci _ _) (aG (fun _=>ci _ _) bf)
  . rename_i x ts _ h1 y us _ h2;exact aG (fun _=>ci _ _) (aG (fun _=>ci _ _) (aG (fun _=>dQ (gi fun a ma b mb=>f (c hd (by simp) ma) (h1 a ma) (h2 b mb))) bf))
  . exact aG (fun _=>fF _ _) (aG (fun _=>fF _ _) bf)
  . rename_i q o d b1 t2 p e b2;exact aG (fun _=>f (sub hd (by simp)) d e) (aG (fun _=>f (sub hd (by simp)) b1 b2) bf)
  . exact aG (fun _=>ci _ _) (aG (fun _=>ci _ _) bf)
  . rename_i r o d b1 p2 p e b2;exact aG (fun _=>ci _ _) (aG (fun _=>dQ (gi fun a ma b mb=>f (c hd (by simp) ma) (d a ma) (e b mb))) (aG (fun _=>f (sub hd (by simp)) b1 b2) bf))
  . rename_i q s d b1 t2 v e b2;exact aG (fun _=>ci _ _) (aG (fun _=>f (sub hd (by simp)) d e) (aG (fun _=>f (sub hd (by simp)) b1 b2) bf))
  . rename_i j d i e;exact aG (fun _=>ci _ _) (aG (fun _=>f (sub hd (by simp)) d e) bf)
  . rename_i l1 d l2 e;exact aG (fun _=>ci _ _) (aG (fun _=>dQ (gi fun a ma b mb=>f (c hd (by simp) ma) (d a ma) (e b mb))) bf)
  . rename_i l1 d l2 e;exact aG (fun _=>ci _ _) (aG (fun _=>dQ (gi fun a ma b mb=>f (c hd (by simp) ma) (d a ma) (e b mb))) bf)
  . rename_i j b1 d i b2 e;exact aG (fun _=>f (sub hd (by simp)) d e) (aG (fun _=>zg _ _) bf)
theorem eU{ts:List Tr}(h:∀t∈ts,t.pure):Trs.pure ts:=by
 induction ts with
 |nil=>unfold Trs.pure;trivial
 |cons t ts a=>
  unfold Trs.pure;exact⟨h t zq,a fun u m=>h u (zp _ m)⟩
theorem fU{k:So}{t:Tr}(h:Ty k t):t.pure:=by
 induction h with
 |nm x=>simp[Tr.pure,Trs.pure]
 |ap x ts _ _ c=>simp only[Tr.pure,Trs.pure];exact⟨trivial,trivial,eU c,trivial⟩
 |fr a b=>simp[Tr.pure,Trs.pure]
 |pr t f _ _ h1 h2=>simp only[Tr.pure,Trs.pure];exact⟨h1,h2,trivial⟩
 |fl x=>simp[Tr.pure,Trs.pure]
 |mo ps f _ _ h1 h2=>simp only[Tr.pure,Trs.pure];exact⟨trivial,eU h1,h2,trivial⟩
 |li t u _ _ h1 h2=>simp only[Tr.pure,Trs.pure];exact⟨trivial,h1,h2,trivial⟩
 |no w _ h1=>simp only[Tr.pure,Trs.pure];exact⟨trivial,h1,trivial⟩
 |bo l _ h1=>simp only[Tr.pure,Trs.pure];exact⟨trivial,eU h1,trivial⟩
 |ei l _ h1=>simp only[Tr.pure,Trs.pure];exact⟨trivial,eU h1,trivial⟩
 |lt w b _ h1=>simp only[Tr.pure,Trs.pure];exact⟨h1,trivial,trivial⟩
theorem vV{t:Tr}(h:Ty .lt t\/Ty .pr t):Hd t:=by
 rcases h with h|h
 . cases h with
   |lt w b hw=>cases hw<;>exact⟨_,_,rfl⟩
 . cases h with
   |pr t f ht a=>cases ht<;>exact⟨_,_,rfl⟩
end Tre
namespace L2
open PySem PySem.Spec PyProof.Rows
theorem FnScope.of{N P:List Str}{sc:Scope}(h1:sc.kind= .function:=by rfl)(h2:sc.isCoroutine=false:=by rfl)(h3:sc.isGenerator=false:=by rfl)(h4:N.Nodup:=by decide +kernel)(h5:N.take P.length=P:=by rfl)(h6:∀x∈P,sc.names.lookup x=some .local\/sc.names.lookup x=some .cell:=by decide +kernel)(h7:∀y∈sc.names,y.2≠ .free:=by decide +kernel):FnScope N P sc:=⟨h1,h2,h3,h4,h5,h6,h7⟩
section
variable{X:Cx}{pos:Pos}{x:Str}{e:Expr}{te:TE}{pos':Pos}
theorem psA(i:Nat)(hN:X.N.Nodup)(he:PE X e te)(hi:X.N[i]?=some x:=by rfl)(hx:X.env.scope.names.lookup x=some .local:=by rfl)(hs:swapsWith e (some (.Name x pos')) pos.line X.env=pure false:=by rfl):PS X (.Assign [.Name x pos'] e pos) (tAsg te (aH i)):=
 rZ hN hi (Or.inl hx) he hs (Or.inr hx)
theorem psR(i:Nat)(hN:X.N.Nodup)(he:PE X e te)(hi:X.N[i]?=some x:=by rfl)(hx:X.env.scope.names.lookup x=some .cell:=by rfl)(hf:X.fn x=true:=by rfl)(hs:swapsWith e (some (.Name x pos')) pos.line X.env=pure false:=by rfl):PS X (.Assign [.Name x pos'] e pos) (tAsg te (aH i)):=
 rZ hN hi (Or.inr hx) he hs (Or.inl hf)
theorem pgA(i:Nat)(hN:X.N.Nodup)(hi:X.N[i]?=some x:=by rfl)(hx:X.env.scope.names.lookup x=some .local:=by rfl):PG X (.Name x pos) (aH i):=fW hN hi (Or.inl hx) (Or.inr hx)
end
theorem two:2<=sizeLine:=by decide
section
variable{P:Program}{w:World}{K:PySem.W.Frag}{mg:Str->Option Value}{base:Heap}
theorem Fun.okb{x qual:Str}{st:Stmt}{f:Addr}{fd:FuncData}{N ps:List Str}{k:Nat}{sp:Sp}(F:Fun K x qual st f fd)(S:FnScope N ps (ag st))(hb:∀vs H Q E,sp vs H Q E->vs.length=ps.length/\∀(cdv:Value) (A:Around) (outer:List Env) (s:Shared),Room k (A.deeper (envOfC qual (ag st) s.heap.objs.size f cdv))->
  ∃t,PSs (cxOf CX0 P w K mg base N qual (ag st) f cdv A outer s H E).nox (aP st) t/\t {nx:=fun _ H'=>Q .non H',rt:=Q} (eS N vs) H):FnOk P w K mg base CX0 (k+1) f fd ps sp:=
 F.ok S (fun vs H Q E h=>(hb vs H Q E h).1) fun cdv A outer s H vs Q E hr h=>(hb vs H Q E h).2 cdv A outer s hr
end
structure FH (K:PySem.W.Frag) (n:Str) (st:Stmt) (f:Addr) (fd:FuncData):Prop where
 ex:∃(oc:Value) (od:Option Addr) (kV doc pm:Value) (an:Option Addr) (cdv ct:Value) (osl:Array (Option Value)),
  fd=PySem.W.fnOf n n (bc st) (aP st) (ag st) .none kV doc pm an cdv ct/\K.lookup f=some ⟨oc,od, .func fd,osl⟩/\PySem.W.codeIn K cdv n=true
 kp:PySem.W.keepIn K (.ref f)=true
 ns:PySem.W.nsIn K mainGlobals n=some (some (.ref f))
section
variable{K:PySem.W.Frag}{n:Str}{st:Stmt}{f:Addr}{fd:FuncData}
theorem FH.mk'{oc:Value}{od an:Option Addr}{osl:Array (Option Value)}{kV doc pm cdv ct:Value}(a:PySem.W.nsIn K mainGlobals n=some (some (.ref f)))(l:K.lookup f=some ⟨oc,od, .func (PySem.W.fnOf n n (bc st) (aP st) (ag st) .none kV doc pm an cdv ct),osl⟩)(c:PySem.W.codeIn K cdv n=true)(k:PySem.W.keepIn K (.ref f)=true):FH K n st f (PySem.W.fnOf n n (bc st) (aP st) (ag st) .none kV doc pm an cdv ct):=⟨⟨_,_,_,_,_,_,_,_,_,rfl,l,c⟩,k,a⟩
theorem FH.fn(h:FH K n st f fd):Fun K n n st f fd:=⟨h.ex,h.kp⟩
theorem FH.b(h:FH K n st f fd){ps:List Str}(hb:∀(kV doc pm:Value) (an:Option Addr) (cdv ct:Value) (us:List Value),us.length=ps.length->bindArgs (PySem.W.fnOf n n (bc st) (aP st) (ag st) .none kV doc pm an cdv ct) ⟨us,[]⟩=pure (ps.zip us)):Binds K fd ps []:=h.fn.binds hb
theorem FH.b1{x:Str}(h:FH K n st f fd)(hb:∀(kV doc pm:Value) (an:Option Addr) (cdv ct a:Value),bindArgs (PySem.W.fnOf n n (bc st) (aP st) (ag st) .none kV doc pm an cdv ct) ⟨[a],[]⟩=pure [(x,a)]:=by intros;rfl):Binds K fd [x] []:=h.b fun _ _ _ _ _ _ us hl=>match us,hl with| [_],_=>hb _ _ _ _ _ _ _
theorem FH.b2{x y:Str}(h:FH K n st f fd)(hb:∀(kV doc pm:Value) (an:Option Addr) (cdv ct a b:Value),bindArgs (PySem.W.fnOf n n (bc st) (aP st) (ag st) .none kV doc pm an cdv ct) ⟨[a,b],[]⟩=pure [(x,a),(y,b)]:=by intros;rfl):Binds K fd [x,y] []:=h.b fun _ _ _ _ _ _ us hl=>match us,hl with| [_,_],_=>hb _ _ _ _ _ _ _ _
theorem FH.b3{x y z:Str}(h:FH K n st f fd)(hb:∀(kV doc pm:Value) (an:Option Addr) (cdv ct a b c:Value),bindArgs (PySem.W.fnOf n n (bc st) (aP st) (ag st) .none kV doc pm an cdv ct) ⟨[a,b,c],[]⟩=pure [(x,a),(y,b),(z,c)]:=by intros;rfl):Binds K fd [x,y,z] []:=h.b fun _ _ _ _ _ _ us hl=>match us,hl with| [_,_,_],_=>hb _ _ _ _ _ _ _ _ _
theorem FH.b5{x y z u v:Str}(h:FH K n st f fd)(hb:∀(kV doc pm:Value) (an:Option Addr) (cdv ct a b c d e:Value),bindArgs (PySem.W.fnOf n n (bc st) (aP st) (ag st) .none kV doc pm an cdv ct) ⟨[a,b,c,d,e],[]⟩=pure [(x,a),(y,b),(z,c),(u,d),(v,e)]:=by intros;rfl):Binds K fd [x,y,z,u,v] []:=h.b fun _ _ _ _ _ _ us hl=>match us,hl with| [_,_,_,_,_],_=>hb _ _ _ _ _ _ _ _ _ _ _
end
structure Cl (P:Program) (w:World) (K:PySem.W.Frag) (mg:Str->Option Value) (base:Heap) (n:Nat) (x:Str) (ps:List Str) (sp:Sp):Prop where
 ex:∃(f:Addr) (fd:FuncData),FnOk P w K mg base CX0 n f fd ps sp/\PySem.W.keepIn K (.ref f)=true/\Binds K fd ps []/\mg x=some (.ref f)
theorem FH.c{P:Program}{w:World}{K:PySem.W.Frag}{mg:Str->Option Value}{base h0:Heap}{n:Str}{st:Stmt}{f:Addr}{fd:FuncData}{ps:List Str}{k:Nat}{sp:Sp}(h:FH K n st f fd)(X:K.In h0)(G:h0.Ns mainGlobals mg)(b:Binds K fd ps [])(g:FnOk P w K mg base CX0 k f fd ps sp):Cl P w K mg base k n ps sp:=⟨f,fd,g,h.kp,b,PySem.W.mg_of X G h.ns⟩
theorem aj{X:Cx}{k:Nat}{x:Str}{ps:List Str}{sp:Sp}{e:Expr}{es:List Expr}{t:TA}{p pos:Pos}(C:Cl X.prog X.w X.K X.mg X.base k x ps sp)(hr:Room k X.A)(ha:PA X (e::es) t)(hg:Gl X x:=by rfl)(hdb:(x==("__debug__":Str))=false:=by decide)(he:starEach (e::es) X.env=(false,eval e X.env)::starEach es X.env:=by rfl)(hpl:(backTo pos (starEach es X.env)).any (·.1)=false:=by rfl):
 PE X (.Call (.Name x p) (e::es) [] pos) (iG sp [] E0 t):=by
 obtain⟨f,fd,g,kp,b,m⟩:=C.ex;exact dZ g hr hg m kp b .nil gX ha hdb he hpl
open PySem PySem.Spec PyProof.Rows
section
variable{X:Cx}
end
open PySem PySem.Spec PyProof.Rows
section
variable{X:Cx}{tg:Expr}
end
section
variable{X:Cx}{tg:Expr}
end
open PySem PySem.Spec PyProof.Rows
section
variable{prog:Program}{w:World}{A:Around}{E:Value->Shared->Prop}{s:Shared}
end
section
variable{X:Cx}
end
end L2
namespace Dec
open PySem PySem.NumText
def cl(x:Str):List Nat:=x.cps.toList
theorem im(x y:Str):cl (x++y)=cl x++cl y:=by
 show(x.cps++y.cps).toList=_;simp[cl]
theorem cl_inj{x y:Str}(h:cl x=cl y):x=y:=by
 cases x;cases y;simp only[Str.mk.injEq];exact Array.toList_inj.mp h
theorem cQ(x:Str):(cl x).length=x.length:=by simp[cl,Str.length]
end Dec
namespace Mth
theorem tQ(a b:Int):Int.gcd b (a.fmod b)=Int.gcd a b:=by
 have e:a.fmod b=a - b*a.fdiv b:=Int.fmod_def a b;rw[e,Int.gcd_comm a b];have:a - b*a.fdiv b=a+b*(-(a.fdiv b)):=by rw[Int.mul_neg,Int.sub_eq_add_neg]
 rw[this];exact Int.gcd_add_mul_left_right ..
theorem vJ{a b:Int}(h:b≠0):(a.fmod b).natAbs < b.natAbs:=by
 by_cases hb:0 < b
 . have h1:=Int.fmod_nonneg_of_pos a hb;have h2:=Int.fmod_lt_of_pos a hb;omega
 . have h3:0 < -b:=by omega
   have e:a.fmod b= -((-a).fmod (-b)):=by
    rw[Int.neg_fmod_neg,Int.neg_neg]
   have h1:=Int.fmod_nonneg_of_pos (-a) h3;have h2:=Int.fmod_lt_of_pos (-a) h3;omega
noncomputable def dv(t b:Int):Int:=if b < 0 then -(Int.gcd t b:Int)else(Int.gcd t b:Int)
noncomputable def fx(t b:Int):Int:=t.fdiv (dv t b)
noncomputable def fy(t b:Int):Int:=b.fdiv (dv t b)
theorem tZ{t b:Int}(h:b≠0):dv t b≠0:=by
 have:0 < Int.gcd t b:=Ad t h;unfold dv;split<;>omega
theorem yg{t b:Int}:(dv t b).natAbs=Int.gcd t b:=by
 unfold dv;split<;>omega
theorem yf{t b:Int}:dv t b∣t/\dv t b∣b:=by
 have h1:((Int.gcd t b:Nat):Int)∣t:=Int.gcd_dvd_left ..;have h2:((Int.gcd t b:Nat):Int)∣b:=Int.gcd_dvd_right ..;unfold dv;split
 . exact⟨Int.neg_dvd.mpr h1,Int.neg_dvd.mpr h2⟩
 . exact⟨h1,h2⟩
theorem parts{t b:Int}(h:b≠0):t=dv t b*fx t b/\b=dv t b*fy t b:=by
 obtain⟨⟨x,hx⟩,⟨y,hy⟩⟩:=yf (t:=t) (b:=b);have n:=tZ (t:=t) h
 have e1:fx t b=x:=by
  unfold fx;generalize dv t b=d at*;rw[hx];exact Int.mul_fdiv_cancel_left _ n
 have a:fy t b=y:=by
  unfold fy;generalize dv t b=d at*;rw[hy];exact Int.mul_fdiv_cancel_left _ n
 rw[e1,a];exact⟨hx,hy⟩
theorem ya{t b:Int}(h:b≠0):1<=fy t b:=by
 obtain⟨_,e⟩:=parts (t:=t) h;have g:0 < Int.gcd t b:=Ad t h;have n:=tZ (t:=t) h;by_cases q:1<=fy t b
 . exact q
 . exfalso;have a:fy t b<=0:=by omega
   have d:(b < 0->dv t b < 0)/\(¬b < 0->0 < dv t b):=by
    unfold dv;constructor
    . intro z;rw[if_pos z];omega
    . intro z;rw[if_neg z];omega
   by_cases z:b < 0
   . have:=Int.mul_nonneg_of_nonpos_of_nonpos (Int.le_of_lt (d.1 z)) a;omega
   . have:=Int.mul_nonpos_of_nonneg_of_nonpos (Int.le_of_lt (d.2 z)) a;omega
theorem xK{t b:Int}(h:b≠0):Int.gcd (fx t b) (fy t b)=1:=by
 obtain⟨e1,a⟩:=parts (t:=t) h;have g:0 < Int.gcd t b:=Ad t h
 have e:Int.gcd t b=(dv t b).natAbs*Int.gcd (fx t b) (fy t b):=by
  have:Int.gcd t b=Int.gcd (dv t b*fx t b) (dv t b*fy t b):=by rw[<-e1,<-a]
  rw[this,Int.gcd_mul_left]
 rw[yg]at e;have:=Nat.eq_of_mul_eq_mul_left g (show Int.gcd t b*1=Int.gcd t b*Int.gcd (fx t b) (fy t b)by rw[<-e,Nat.mul_one])
 exact this.symm
def lH(x y:Int):Prop:=0 < y/\Int.gcd x y=1
theorem jV{x y z:Int}(h1:Int.gcd x y=1)(h2:Int.gcd x z=1):Int.gcd x (y*z)=1:=by
 show Nat.gcd x.natAbs (y*z).natAbs=1;rw[Ac];exact Nat.Coprime.mul_right h1 h2
theorem uf{x y z:Int}(h1:Int.gcd y x=1)(h2:Int.gcd z x=1):Int.gcd (y*z) x=1:=by
 rw[Int.gcd_comm];exact jV (by rw[Int.gcd_comm];exact h1) (by rw[Int.gcd_comm];exact h2)
theorem ug{x x' y:Int}(h:Int.gcd (x'*x) y=1):Int.gcd x' y=1:=by
 have e:Nat.gcd (x'*x).natAbs y.natAbs=1:=h;rw[Ac]at e;exact Nat.Coprime.coprime_mul_right e
theorem fE{x x' y:Int}(h:Int.gcd (x*x') y=1):Int.gcd x' y=1:=by
 rw[AV]at h;exact ug h
theorem j3{x y y':Int}(h:Int.gcd x (y*y')=1):Int.gcd x y'=1:=by
 rw[Int.gcd_comm]at h ⊢;exact fE h
theorem cR{x y:Int}(h:y≠0):∃x' y':Int,x=(Int.gcd x y:Int)*x'/\y=(Int.gcd x y:Int)*y'/\Int.gcd x' y'=1/\x / (Int.gcd x y:Int)=x'/\y / (Int.gcd x y:Int)=y':=by
 have g:0 < Int.gcd x y:=Ad x h;obtain⟨x',hx⟩:((Int.gcd x y:Nat):Int)∣x:=Int.gcd_dvd_left ..;obtain⟨y',hy⟩:((Int.gcd x y:Nat):Int)∣y:=Int.gcd_dvd_right ..;have n:((Int.gcd x y:Nat):Int)≠0:=by omega
 refine⟨x',y',hx,hy,?_,?_,?_⟩
 . have e:Int.gcd x y=Int.gcd x y*Int.gcd x' y':=by
    have:Int.gcd x y=Int.gcd ((Int.gcd x y:Int)*x') ((Int.gcd x y:Int)*y'):=by rw[<-hx,<-hy]
    rw[Int.gcd_mul_left,Int.natAbs_natCast]at this;exact this
   have:=Nat.eq_of_mul_eq_mul_left g (show Int.gcd x y*1=Int.gcd x y*Int.gcd x' y' by rw[<-e,Nat.mul_one])
   exact this.symm
 . generalize ((Int.gcd x y:Nat):Int)=k at*;rw[hx];exact Int.mul_ediv_cancel_left _ n
 . generalize ((Int.gcd x y:Nat):Int)=k at*;rw[hy];exact Int.mul_ediv_cancel_left _ n
theorem dh{k x:Int}(hk:0<=k)(h:0 < k*x):0 < x:=by
 by_cases q:0 < x
 . exact q
 . have:=Int.mul_nonpos_of_nonneg_of_nonpos hk (show x<=0 by omega)
   omega
noncomputable def tX(a b c d:Int):Int:=a / (Int.gcd a d:Int)*(c / (Int.gcd c b:Int))
noncomputable def tY(a b c d:Int):Int:=b / (Int.gcd c b:Int)*(d / (Int.gcd a d:Int))
theorem qg{a b c d:Int}(h1:lH a b)(h2:lH c d):lH (tX a b c d) (tY a b c d)/\tX a b c d*(b*d)=a*c*tY a b c d:=by
 obtain⟨b0,n⟩:=h1;obtain⟨w,g2⟩:=h2;obtain⟨q,d',v,u,j,r,o⟩:=cR (x:=a) (y:=d) (by omega)
 obtain⟨s,h,i,t,m,p,l⟩:=cR (x:=c) (y:=b) (by omega)
 have f0:(0:Int)<=(Int.gcd a d:Int):=by omega
 have k0:(0:Int)<=(Int.gcd c b:Int):=by omega
 unfold tX tY;rw[r,o,p,l];generalize ((Int.gcd a d:Nat):Int)=f at*;generalize ((Int.gcd c b:Nat):Int)=k at*;have e:0 < h:=dh k0 (by omega)
 have g:0 < d':=dh f0 (by omega)
 subst v u i t;have h1:Int.gcd q h=1:=fE (j3 n);have h2:Int.gcd s d'=1:=fE (j3 g2);refine⟨⟨Int.mul_pos e g,uf (jV h1 j) (jV m h2)⟩,?_⟩;simp only[Int.mul_assoc,Int.mul_left_comm,AV]
theorem dm{t b:Int}(h:b≠0):lH (fx t b) (fy t b):=⟨by have:=ya (t:=t) h;omega,xK h⟩
theorem cz(a b:Int):(a / b).natAbs<=a.natAbs:=Int.natAbs_ediv_le_natAbs a b
end Mth
namespace Dec
open PySem PySem.NumText L2 Mth
open PySem PySem.NumText L2 Mth
end Dec
namespace Tk
open PySem PySem.Spec PyProof.Rows L2
inductive KT where
 |lf (k:Key)
 |tp (ts:List KT)
noncomputable instance:DecidableEq KT:=Classical.typeDecidableEq KT
mutual
noncomputable def KT.depth:KT->Nat
 | .lf _=>0
 | .tp ts=>KTs.depth ts+1
noncomputable def KTs.depth:List KT->Nat
 | []=>0
 |t::ts=>max (KT.depth t) (KTs.depth ts)
end
theorem eI:∀ {ts:List KT} {t:KT},t∈ts->t.depth<=KTs.depth ts
 |a::ts,t,h=>by
  unfold KTs.depth;rcases zJ.mp h with rfl|h
  . omega
  . have:=eI h;omega
mutual
def KAt(h:Heap):Value->KT->Prop
 |v, .lf k=>fO k v=true
 |v, .tp ts=>∃a o items n,v= .ref a/\h.get? a=some o/\o.cls= .type "tuple"/\o.data= .seq items n/\KsAt h items.toList ts
def KsAt(h:Heap):List Value->List KT->Prop
 |vs,[]=>vs= []
 |vs,t::ts=>∃v r,vs=v::r/\KAt h v t/\KsAt h r ts
end
mutual
theorem KAt.keep{h h':Heap}(k:∀a o items n,h.get? a=some o->o.data= .seq items n->h'.get? a=some o):∀ {v:Value} {t:KT},KAt h v t->KAt h' v t
 |v, .lf k,x=>by unfold KAt at x ⊢;exact x
 |v, .tp ts,x=>by
  unfold KAt at x ⊢;obtain⟨a,o,items,n,e,g,c,d,r⟩:=x;exact⟨a,o,items,n,e,k a o items n g d,c,d,KsAt.keep k r⟩
theorem KsAt.keep{h h':Heap}(k:∀a o items n,h.get? a=some o->o.data= .seq items n->h'.get? a=some o):∀ {vs:List Value} {ts:List KT},KsAt h vs ts->KsAt h' vs ts
 |vs,[],x=>by unfold KsAt at x ⊢;exact x
 |vs,t::ts,x=>by
  unfold KsAt at x ⊢;obtain⟨v,r,e,x1,b⟩:=x;exact⟨v,r,e,KAt.keep k x1,KsAt.keep k b⟩
end
mutual
theorem KAt.det{h:Heap}:∀ {v:Value} {t u:KT},KAt h v t->KAt h v u->t=u
 |v, .lf k, .lf j,x,y=>by
  unfold KAt at x y;rcases aF x with⟨i,t,rfl,rfl⟩|⟨f,t,rfl,rfl⟩
  . rcases aF y with⟨m,t',rfl,e⟩|⟨l,t',rfl,e⟩
    . injection e with e1 _;rw[e1]
    . cases e
  . rcases aF y with⟨m,t',rfl,e⟩|⟨l,t',rfl,e⟩
    . cases e
    . injection e with e1 _;rw[e1]
 |v, .lf k, .tp us,x,y=>by
  unfold KAt at x y;obtain⟨a,o,items,n,rfl,_⟩:=y;rcases aF x with⟨i,t,rfl,e⟩|⟨f,t,rfl,e⟩<;>cases e
 |v, .tp ts, .lf k,x,y=>by
  unfold KAt at x y;obtain⟨a,o,items,n,rfl,_⟩:=x;rcases aF y with⟨i,t,rfl,e⟩|⟨f,t,rfl,e⟩<;>cases e
 |v, .tp ts, .tp us,x,y=>by
  unfold KAt at x y;obtain⟨a,o,items,n,rfl,g,c,d,r⟩:=x;obtain⟨q,o',b,p,e,g',s,d',r'⟩:=y;injection e with e;subst e;rw[g]at g';cases g';rw[d]at d';injection d' with d1 _;subst d1;rw[KsAt.det r r']
theorem KsAt.det{h:Heap}:∀ {vs:List Value} {ts us:List KT},KsAt h vs ts->KsAt h vs us->ts=us
 |vs,[],[],_,_=>rfl
 |vs,[],u::us,x,y=>by
  unfold KsAt at x y;obtain⟨v,r,e,_⟩:=y;rw[x]at e;cases e
 |vs,t::ts,[],x,y=>by
  unfold KsAt at x y;obtain⟨v,r,e,_⟩:=x;rw[y]at e;cases e
 |vs,t::ts,u::us,x,y=>by
  unfold KsAt at x y;obtain⟨v,r,rfl,x1,a⟩:=x;obtain⟨c,r',e,y1,b⟩:=y;cases e;rw[KAt.det x1 y1,KsAt.det a b]
end
theorem KsAt.len{h:Heap}:∀ {vs:List Value} {ts:List KT},KsAt h vs ts->vs.length=ts.length
 |vs,[],x=>by unfold KsAt at x;rw[x];rfl
 |vs,t::ts,x=>by
  unfold KsAt at x;obtain⟨v,r,rfl,_,a⟩:=x;rw[zV,zV,KsAt.len a]
theorem KsAt.get{h:Heap}:∀ {vs:List Value} {ts:List KT} {j:Nat} {v:Value},KsAt h vs ts->vs[j]?=some v->∃t,ts[j]?=some t/\KAt h v t
 |vs,[],j,v,x,e=>by
  unfold KsAt at x;rw[x]at e;cases e
 |vs,t::ts,0,v,x,e=>by
  unfold KsAt at x;obtain⟨a,r,rfl,x1,_⟩:=x;cases e;exact⟨t,rfl,x1⟩
 |vs,t::ts,j+1,v,x,e=>by
  unfold KsAt at x;obtain⟨a,r,rfl,_,b⟩:=x;exact KsAt.get (j:=j) b e
section
variable(prog:Program)(w:World)
mutual
noncomputable def KT.hash:KT->Int
 | .lf k=>(aM prog w).hash k
 | .tp ts=>reduceHash (Builtin.Tuple.tupleHashOf (KTs.hash ts))
noncomputable def KTs.hash:List KT->List Int
 | []=> []
 |t::ts=>KT.hash t::KTs.hash ts
end
end
mutual
noncomputable def KT.draws:KT->Nat
 | .lf _=>1
 | .tp ts=>KTs.draws ts+1
noncomputable def KTs.draws:List KT->Nat
 | []=>0
 |t::ts=>KT.draws t+KTs.draws ts
end
theorem kO(prog:Program)(w:World):∀(a b:List KT),KTs.hash prog w (a++b)=KTs.hash prog w a++KTs.hash prog w b
 | [],b=>by simp[KTs.hash]
 |t::a,b=>by simp[KTs.hash,kO prog w a b]
theorem j0:∀(a b:List KT),KTs.draws (a++b)=KTs.draws a+KTs.draws b
 | [],b=>by simp[KTs.draws]
 |t::a,b=>by simp[KTs.draws,j0 a b,Nat.add_assoc]
section
variable{prog:Program}{w:World}
theorem vF:∀(n:Nat) {A:Around} {E:Value->Shared->Prop} {s:Shared} {t:KT} {v:Value} {Q:Int->Shared->Prop},t.depth<=n->A.units+n < cLine->KAt s.heap v t->Q (t.hash prog w) {s with toks:=s.toks+t.draws}->wpAny (model prog w) A (pyHash v) Q E s:=by
 intro n
 induction n with
 |zero=>
  intro A E s t v Q hd hu hk h
  cases t with
  |tp ts=>simp[KT.depth]at hd
  |lf k=>
   unfold KAt at hk;simp only[KT.hash,KT.draws]at h;exact(aM prog w).pyHash hk h
 |succ n p=>
  intro A E s t v Q hd hu hk h
  cases t with
  |lf k=>
   unfold KAt at hk;simp only[KT.hash,KT.draws]at h;exact(aM prog w).pyHash hk h
  |tp ts=>
   unfold KAt at hk;refine hZq fun q_ e_=>?_;obtain⟨a,o,items,m,rfl,g,c,d,r⟩:=hk;subst e_;have ty:s.TypeIs (.ref a) "tuple":=⟨o,g,c⟩
   have l:KTs.depth ts<=n:=by
    unfold KT.depth at hd;omega
   simp only[KT.hash,KT.draws]at h;unfold pyHash;unfold pyHashByItsType;refine wpAny_bind (wpAny_cRoomFor_or (.inr (by omega)) (wpAny_bind (wpAny_specialOf ty F.slot_tuple_hash.lookup ?_)))
   show wpAny _ _ (if (some (Value.builtin "tuple.__hash__")==some Value.none)=true then _ else _) _ _ _;rw[if_neg (fun z=>by rw[beq_builtin_none]at z;cases z)]
   refine wpAny_bind (wpAny_specialOf ty F.slot_tuple_hash.lookup ?_);show wpAny _ _ (do let y<-callSpecialIfBoundUnlessNone? (.ref a) "__hash__" _;_) _ _ _
   refine wpAny_bind (wpAny_callSpecialIfBoundUnlessNone?_slot ty F.slot_tuple_hash (wpAny_call_entry F.slot_tuple_hash ty F.entry_tuple_hash ?_ (F.args_tuple_hash_1 _)));show wpAny _ _ (do let y<-Builtin.Tuple.tupleItemsOf (.ref a);_) _ _ _
   refine wpAny_bind (wpAny_tupleItemsOf g d (wpAny_bind ?_));rw[<-Array.forIn_toList];refine wpAny_forIn_list _ (fun rest (b:Array Int) s'=>∃done left,ts=done++left/\KsAt s.heap rest left/\b.toList=KTs.hash prog w done/\s'= {s with toks:=s.toks+KTs.draws done}) _ ?_ ?_ _ _ ⟨[],ts,rfl,r,rfl,by simp[KTs.draws]⟩
   . intro x rest b s' z_;refine hZq fun q_ e_=>?_;obtain⟨done,left,rfl,hl,hb,rfl⟩:=z_;subst e_
     cases left with
     |nil=>
      unfold KsAt at hl;cases hl
     |cons t left=>
      unfold KsAt at hl;refine hZq fun q_ e_=>?_;obtain⟨v,j,e,h1,h2⟩:=hl;subst e_;cases e
      have dt:t.depth<=n:=by
       have:=eI (show t∈done++t::left by simp)
       omega
      refine wpAny_bind (p (s:= {s with toks:=s.toks+KTs.draws done}) dt (by first|(show A.units+1+n < cLine;omega)|(show A.units+n < cLine;omega)) h1 ?_)
      have fin:∃f i,done++t::left=f++i/\KsAt s.heap rest i/\(b.push (KT.hash prog w t)).toList=KTs.hash prog w f/\({s with toks:=s.toks+KTs.draws done+t.draws}:Shared)= {s with toks:=s.toks+KTs.draws f}:=by
       refine⟨done++ [t],left,by simp,h2,by rw[kO,Array.toList_push,hb];simp[KTs.hash],?_⟩
       rw[j0];simp[KTs.draws,Nat.add_assoc]
      first
       |exact wpAny_pure fin
       |exact wpAny_bind (wpAny_pure (wpAny_pure fin))
   . intro b s' z_;refine hZq fun q_ e_=>?_;obtain⟨done,left,rfl,hl,hb,rfl⟩:=z_;subst e_
     cases left with
     |cons t left=>
      unfold KsAt at hl;refine hZq fun q_ e_=>?_;obtain⟨v,j,e,_⟩:=hl;subst e_;cases e
     |nil=>
      rw[AH]at h;show wpAny _ _ (retInt (Builtin.Tuple.tupleHashOf b.toList)) _ _ _;rw[hb];refine wpAny_ret_mkInt ?_;show wpAny _ _ (if (decide (-(2:Int)^63<=Builtin.Tuple.tupleHashOf (KTs.hash prog w done))&&decide (Builtin.Tuple.tupleHashOf (KTs.hash prog w done) < 2^63))=true then _ else _) _ _ _;unfold reduceHash at h;by_cases hr:(decide (-(2:Int)^63<=Builtin.Tuple.tupleHashOf (KTs.hash prog w done))&&decide (Builtin.Tuple.tupleHashOf (KTs.hash prog w done) < 2^63))=true
      . rw[if_pos hr]at h ⊢;exact wpAny_pure (by simpa [Nat.add_assoc]using h)
      . rw[if_neg hr]at h ⊢;exact wpAny_bind (wpAny_rule (wpAny_pure (by simpa [Nat.add_assoc]using h)))
end
open PySem PySem.Spec PyProof.Rows L2
theorem vR{ts us:List KT}:((List.range (min ts.length us.length)).all (fun j=>decide (ts[j]?=us[j]?))&&ts.length==us.length)=decide (ts=us):=by
 by_cases h:ts=us
 . subst h;simp
 . rw[decide_eq_false h];by_cases hl:ts.length=us.length
   . have:∃j,j < ts.length/\ts[j]?≠us[j]?:=by
      refine Classical.byContradiction fun n=>h (List.ext_getElem? fun j=>?_);by_cases a:j < ts.length
      . exact Classical.byContradiction fun z=>n ⟨j,a,z⟩
      . rw[AM (by omega),AM (by omega)]
     obtain⟨j,a,ne⟩:=this;rw[Bool.and_eq_false_iff];left;refine List.all_eq_false.mpr ⟨j,Af.mpr (by omega),?_⟩
     simp[ne]
   . rw[Bool.and_eq_false_iff];right;simp[hl]
theorem zf:∀(n:Nat) {A:Around} {s:Shared} {t u:KT} {a b:Value},t.depth<=n->A.units+n+1 < cLine->KAt s.heap a t->KAt s.heap b u->SeqAt.EqAt A s a b (decide (t=u)):=by
 intro n
 induction n with
 |zero=>
  intro A s t u a b hd hu h1 h2
  cases t with
  |tp ts=>simp[KT.depth]at hd
  |lf k=>
   unfold KAt at h1
   cases u with
   |lf j=>
    unfold KAt at h2;intro prog w E Q q;refine(aM prog w).eqBool h1 h2 ?_;have e:decide (k=j)=decide (KT.lf k=KT.lf j):=by simp
    rw[e];exact q
   |tp us=>
    unfold KAt at h2;refine hZq fun q_ e_=>?_;obtain⟨r,o,items,m,rfl,g,c,d,_⟩:=h2;subst e_;rw[decide_eq_false (by intro z;cases z)]
    rcases aF h1 with⟨i,t,rfl,rfl⟩|⟨x,t,rfl,rfl⟩
    . exact SeqAt.EqAt.int_tuple i t (items:=items) ⟨o,g,c,m,d⟩ (by omega)
    . exact SeqAt.EqAt.str_tuple x t (items:=items) ⟨o,g,c,m,d⟩ (by omega)
 |succ n ih=>
  intro A s t u a b hd hu h1 h2
  cases t with
  |lf k=>
   unfold KAt at h1
   cases u with
   |lf j=>
    unfold KAt at h2;intro prog w E Q q;refine(aM prog w).eqBool h1 h2 ?_;have e:decide (k=j)=decide (KT.lf k=KT.lf j):=by simp
    rw[e];exact q
   |tp us=>
    unfold KAt at h2;refine hZq fun q_ e_=>?_;obtain⟨r,o,items,m,rfl,g,c,d,_⟩:=h2;subst e_;rw[decide_eq_false (by intro z;cases z)]
    rcases aF h1 with⟨i,t,rfl,rfl⟩|⟨x,t,rfl,rfl⟩
    . exact SeqAt.EqAt.int_tuple i t (items:=items) ⟨o,g,c,m,d⟩ (by omega)
    . exact SeqAt.EqAt.str_tuple x t (items:=items) ⟨o,g,c,m,d⟩ (by omega)
  |tp ts=>
   have h:=h1;have l:=h2;unfold KAt at h1;refine hZq fun q_ e_=>?_;obtain⟨r,o,items,m,rfl,g,c,d,k1⟩:=h1;subst e_
   cases u with
   |lf j=>
    unfold KAt at h2;rw[decide_eq_false (by intro z;cases z)]
    rcases aF h2 with⟨i,t,rfl,rfl⟩|⟨x,t,rfl,rfl⟩
    . exact SeqAt.EqAt.tuple_int i t (items:=items) ⟨o,g,c,m,d⟩ (by omega)
    . exact SeqAt.EqAt.tuple_str x t (items:=items) ⟨o,g,c,m,d⟩ (by omega)
   |tp us=>
    unfold KAt at h2;refine hZq fun q_ e_=>?_;obtain⟨r',o',f,m',rfl,g',c',d',k2⟩:=h2;subst e_;by_cases z:r=r'
    . subst z;rw[decide_eq_true (KAt.det h l)];exact SeqAt.EqAt.same _
    . have au:KTs.depth ts<=n:=by
       unfold KT.depth at hd;omega
      have l1:=k1.len;have l2:=k2.len
      have:=SeqAt.RcAt.tuples (A:=A) (e:=fun j=>decide (ts[j]?=us[j]?)) (show s.heap.IsTuple r items from⟨o,g,c,m,d⟩) (show s.heap.IsTuple r' f from⟨o',g',c',m',d'⟩) (by omega) fun j g1 g2=>by
       refine hZq fun q_ e_=>?_;obtain⟨t1,e1,a1⟩:=k1.get (j:=j) (v:=items[j]) (by rw[Ah];simp[g1])
       obtain⟨t2,e2,a2⟩:=k2.get (j:=j) (v:=f[j]) (by rw[Ah];simp[g2])
       subst e_;have e:decide (ts[j]?=us[j]?)=decide (t1=t2):=by rw[e1,e2];simp
       rw[e];refine ih (A:=A.in1) ?_ (by show A.units+1+n+1 < cLine;omega) a1 a2
       have:=eI (zw e1);omega
      have y:items.size=ts.length:=by rw[<-l1,Ae]
      have p:f.size=us.length:=by rw[<-l2,Ae]
      rw[y,p,vR]at this;have e:decide (KT.tp ts=KT.tp us)=decide (ts=us):=by simp
      rw[e];exact SeqAt.EqAt.of_refs z this
theorem rR:∀(n:Nat) {prog:Program} {w:World} {A:Around} {E:Value->Shared->Prop} {s:Shared} {t:KT} {v:Value} {Q:Bool->Shared->Prop},KAt s.heap v t->t.depth<=n->Q true s->wpAny (model prog w) A (eqIsQuiet n v) Q E s:=by
 have f:∀(n:Nat) {prog:Program} {w:World} {A:Around} {E:Value->Shared->Prop} {s:Shared} {k:Key} {v:Value} {Q:Bool->Shared->Prop},fO k v=true->Q true s->wpAny (model prog w) A (eqIsQuiet n v) Q E s:=by
  intro n prog w A E s k v Q h q;rw[eqIsQuiet_byValue _ ((aM prog w).byValue k v h)];exact wpAny_pure q
 intro n
 induction n with
 |zero=>
  intro prog w A E s t v Q h hd q
  cases t with
  |tp ts=>simp[KT.depth]at hd
  |lf k=>
   unfold KAt at h;exact f 0 h q
 |succ n l=>
  intro prog w A E s t v Q h hd q
  cases t with
  |lf k=>
   unfold KAt at h;exact f _ h q
  |tp ts=>
   unfold KAt at h;refine hZq fun q_ e_=>?_;obtain⟨a,o,items,m,rfl,g,c,d,r⟩:=h;subst e_;have ty:s.TypeIs (.ref a) "tuple":=⟨o,g,c⟩
   have i:KTs.depth ts<=n:=by
    unfold KT.depth at hd;omega
   unfold eqIsQuiet;refine wpAny_bind (wpAny_specialOf ty F.slot_tuple_eq.lookup ?_);show wpAny _ _ (do let y<-isInstance (.ref a) (.type "tuple");_) _ _ _
   refine wpAny_bind (wpAny_isInstance ty isSubtype_tuple_tuple ?_);simp only[Bool.not_true,if_false,AE];refine wpAny_bind (wpAny_seqItems g d (wpAny_bind ?_));show wpAny _ _ (forIn items _ _) _ _ _;rw[<-Array.forIn_toList];refine wpAny_forIn_list _ (fun rest b s'=>b.1=none/\s'=s/\∃left,KsAt s.heap rest left/\KTs.depth left<=n) _ ?_ ?_ _ _ ⟨rfl,rfl,ts,r,i⟩
   . intro x rest b s' z_;refine hZq fun q_ e_=>?_;obtain⟨hb,rfl,left,hl,j⟩:=z_;subst e_
     cases left with
     |nil=>
      unfold KsAt at hl;cases hl
     |cons t left=>
      unfold KsAt at hl;refine hZq fun q_ e_=>?_;obtain⟨v,p,e,h1,h2⟩:=hl;subst e_;cases e;unfold KTs.depth at j;refine wpAny_bind (l h1 (by omega) ?_)
      simp only[Bool.not_true,if_false,AE];exact wpAny_pure ⟨rfl,rfl,left,h2,by omega⟩
   . rintro⟨b1,b2⟩ s' ⟨hb,rfl,_⟩;simp only at hb;subst hb;exact wpAny_pure q
noncomputable def treeKind(prog:Program)(w:World):HeapKind prog w (List KT) where
 is:=fun h ts a=>KAt h (.ref a) (.tp ts)/\(KT.tp ts).depth<=8
 hash:=fun ts=>(KT.tp ts).hash prog w
 draws:=fun ts=>(KT.tp ts).draws
 room:=fun A=>A.units+20 < cLine
 inj:=fun x y=>by
  have:=KAt.det x.1 y.1;injection this
 keeps:=fun{h h' k a d o es ep} x g hd sb=>⟨x.1.keep fun b ob items n e dt=>by
  have ne:b≠d:=fun z=>by
   subst z;rw[g]at e;cases e;rw[hd]at dt;cases dt
  exact(sb.2 b ne).trans e,x.2⟩
 pyHash:=fun hu x q=>vF 8 x.2 (by omega) x.1 q
 eqBool:=fun{A E s x y a b Q} hu hx hy q=>by
  refine zf 8 (t:= .tp x) (u:= .tp y) hx.2 (by omega) hx.1 hy.1 prog w E Q ?_
  have e:decide (KT.tp x=KT.tp y)=decide (x=y):=by simp
  rw[e];exact q
 quiet:=fun x q=>rR 8 x.1 x.2 q
end Tk
namespace L2
section
open PySem
variable{prog:Program}{w:World}{A:Around}{R:Result->Shared->Prop}{s:Shared}
theorem ii{elt target iter:Expr}{ifs:List Expr}{scope:Scope}{pos:Pos}{it acc:Value}{env:Env}(I:Nat->Shared->Prop)(turn:∀n s,I n s->wpAny (model prog w) A (pyNext it) (fun r s₁=>match r with
  |none=>R (.ok .next) s₁
  |some v=>wpAny (model prog w) A (letOwnedTupleGo target it v) (fun _ s₁'=>wpAny (model prog w) A (assign target env v) (fun _ s₂=>
   wpAny (model prog w) A (forIn ifs true fun c r=>if r=true then do let ok<-isTrue c env (eval c env);pure (ForInStep.yield ok)else pure (ForInStep.yield r)) (fun ok s₃=>
    if ok=true then wpAny (model prog w) A (eval elt env) (fun x s₄=>
     wpAny (model prog w) A (call (.builtin "list.append") [acc,x]) (fun _ s₅=>∃m,m < n/\I m s₅) (fun _ _=>False) s₄) (fun _ _=>False) s₃
    else∃m,m < n/\I m s₃) (fun _ _=>False) s₂) (fun _ _=>False) s₁') (fun _ _=>False) s₁) (fun _ _=>False) s)(n:Nat)(h:I n s):codeAny (model prog w) A (.compLoop (.ListComp elt [⟨target,iter,ifs,0⟩] scope pos) 0 it acc env) R s:=by
 refine codeAny_loop rfl I (fun n s e=>?_) n h;show wpAny _ A ((compTurn (.ListComp elt [⟨target,iter,ifs,0⟩] scope pos) 0 it acc env).onRaise (fun x=>do noteFrame x env;theTreesLotGoes x)) _ _ s
 refine wpAny_noted ?_;rw[compTurn_list];refine wpAny_bind (wpAny_standAt (wpAny_bind (wpAny_mono (turn n s e) (fun r s₁ d=>?_) fun _ _ z=>z.elim)))
 cases r with
 |none=>exact wpAny_pure d
 |some v=>
  refine wpAny_bind (wpAny_mono d (fun _ s₁' a=>?_) fun _ _ z=>z.elim);refine wpAny_bind (wpAny_mono a (fun _ s₂ g=>wpAny_bind (wpAny_mono g (fun ok s₃ b=>?_) fun _ _ z=>z.elim)) fun _ _ z=>z.elim)
  cases ok with
  |false=>exact wpAny_pure ⟨rfl,b⟩
  |true=>
   exact wpAny_bind (wpAny_bind (wpAny_mono b (fun x s₄ i=>wpAny_bind (wpAny_mono i (fun _ s₅ f=>wpAny_pure (wpAny_pure ⟨rfl,f⟩)) fun _ _ z=>z.elim)) fun _ _ z=>z.elim))
noncomputable def bZ(names:List (Str×NameKind))(cells:List (Str×Addr)):List (Str×Addr)->List (Str×Addr):=match names with
 | []=>fun cs=>cs
 |(n,k)::r=>fun cs=>bZ r cells (if (k== .free)=true then(n,(cells.lookup n).getD 0)::cs else cs)
noncomputable def bJ(names:List (Str×NameKind))(cells:List (Str×Addr)):Bool:=names.all fun y=> !(y.2== .free) ||(cells.lookup y.1).isSome
theorem jZ(env:Env):∀(names:List (Str×NameKind)) (cs:List (Str×Addr)),bJ names env.cells=true->
 (forIn names cs fun(x:Str×NameKind) (r:List (Str×Addr))=>match x with
  |(name,kind)=>if (kind==NameKind.free)=true then do let __do_lift<-cellOf env name;pure (ForInStep.yield ((name,__do_lift)::r))else pure (ForInStep.yield r):Sem (List (Str×Addr)))=pure (bZ names env.cells cs)
 | [],cs,_=>rfl
 |(n,k)::r,cs,h=>by
  unfold bJ at h;rw[List.all_cons,AL]at h;rw[List.forIn_cons];unfold bZ;by_cases hk:(k==NameKind.free)=true
  . rw[if_pos hk];dsimp only;rw[if_pos hk]
    have h1:(env.cells.lookup n).isSome=true:=by
     have:=h.1;rw[hk]at this;simpa using this
    obtain⟨c,hc⟩:=Option.isSome_iff_exists.mp h1;have e:cellOf env n=pure c:=by unfold cellOf;rw[hc]
    rw[e,hc];exact jZ env r _ h.2
  . rw[if_neg hk];dsimp only;rw[if_neg hk];exact jZ env r _ h.2
theorem gj{scope:Scope}{env:Env}(h:bJ scope.names env.cells=true):closureFor scope env=pure (bZ scope.names env.cells []):=by
 unfold closureFor;have:=jZ env scope.names [] h;simp only[bind_pure];exact this
theorem lD{cells:List (Str×Addr)}:∀(names:List (Str×NameKind)) (cs:List (Str×Addr)),bJ names cells=true->(∀y c,cs.lookup y=some c->cells.lookup y=some c)->∀y c,(bZ names cells cs).lookup y=some c->cells.lookup y=some c
 | [],cs,_,hc,y,c,e=>hc y c e
 |(n,k)::r,cs,h,hc,y,c,e=>by
  unfold bJ at h;rw[List.all_cons,AL]at h;refine lD r _ h.2 (fun z d q=>?_) y c e;by_cases hk:(k==NameKind.free)=true
  . rw[if_pos hk,Au]at q
    cases b:(z==n)with
    |true=>
     rw[b]at q
     have h1:(cells.lookup n).isSome=true:=by
      have:=h.1;rw[hk]at this;simpa using this
     obtain⟨i,a⟩:=Option.isSome_iff_exists.mp h1;have f:z=n:=by simpa using b
     rw[f,a];have g:some ((cells.lookup n).getD 0)=some d:=q;rw[a]at g;exact g
    |false=>
     rw[b]at q;exact hc z d q
  . rw[if_neg hk]at q;exact hc z d q
theorem j5{cells:List (Str×Addr)}:∀(names:List (Str×NameKind)) (cs:List (Str×Addr)) (y:Str),(∃c,cs.lookup y=some c)->∃c,(bZ names cells cs).lookup y=some c
 | [],cs,y,h=>h
 |(n,k)::r,cs,y,h=>by
  refine j5 r _ y ?_;by_cases hk:(k==NameKind.free)=true
  . rw[if_pos hk,Au]
    cases a:(y==n)with
    |true=>exact⟨_,rfl⟩
    |false=>exact h
  . rw[if_neg hk];exact h
theorem ik{cells:List (Str×Addr)}:∀(names:List (Str×NameKind)) (cs:List (Str×Addr)) (y:Str),(y,NameKind.free)∈names->∃c,(bZ names cells cs).lookup y=some c
 | [],_,y,h=>by cases h
 |(n,k)::r,cs,y,h=>by
  rcases zJ.mp h with e|h
  . obtain⟨e1,a⟩:=Prod.mk.inj e;subst e1;subst a;unfold bZ;refine j5 r _ y ?_;rw[if_pos (show(NameKind.free==NameKind.free)=true from rfl),Au];have:(y==y)=true:=by simp
    rw[this];exact⟨_,rfl⟩
  . exact ik r _ y h
end
open PySem PySem.Spec PyProof.Rows
noncomputable abbrev XC(X:Cx)(scope:Scope)(NC:List Str)(C:Addr)(s:Shared)(H:Hp)(fp:List Addr)(pn:List (Addr×Obj)):Cx:=
 {X with N:=NC,s₀:=s,H₀:=H,env:=compEnvC scope (bZ scope.names X.env.cells []) C X.env,outer:=X.stack,stack:=X.stack,ex:=fp,fn:=fun _=>false,pn:=pn,xe:=fun _ _=>False}
noncomputable def subS(mp:List (Option Nat))(σ:St):St:=mp.map fun o=>match o with
 |some i=>(σ[i]?).getD none
 |none=>none
noncomputable def hX(N NC:List Str)(mp:List (Option Nat))(names outer:List (Str×NameKind)):Bool:=(List.range mp.length).all fun j=>match mp[j]? with
 |some (some i)=>(match NC[j]?,N[i]? with
  |some y,some z=>y==z&&names.lookup y==some NameKind.free&& (outer.lookup y==some NameKind.cell ||outer.lookup y==some NameKind.free)
  |_,_=>false)
 |_=>true
theorem sQ{N NC:List Str}{mp:List (Option Nat)}{names outer:List (Str×NameKind)}(h:hX N NC mp names outer=true){j i:Nat}(e:mp[j]?=some (some i)):∃y,NC[j]?=some y/\N[i]?=some y/\names.lookup y=some .free/\(outer.lookup y=some .cell\/outer.lookup y=some .free):=by
 unfold hX at h;rw[List.all_eq_true]at h;have b:j < mp.length:=(zv.mp e).1;have:=h j (Af.mpr b);rw[e]at this;dsimp only at this;split at this
 . rename_i y z e1 a;simp only[AL,Bool.or_eq_true,beq_iff_eq]at this;obtain⟨⟨rfl,h2⟩,h3⟩:=this;exact⟨y,e1,a,h2,h3⟩
 . cases this
def PTs(X:Cx)(ifs:List Expr)(t:TT):Prop:=
 ∀(pins:List (Addr×Obj)) (s:Shared) (σ:St) (H:Hp) (Q:Bool->Hp->Prop),Inv X pins σ H s->t σ H Q->
  wpAny (model X.prog X.w) X.A (forIn ifs true fun c r=>if r=true then do let ok<-isTrue c X.env (eval c X.env);pure (ForInStep.yield ok)else pure (ForInStep.yield r)) (TP X pins σ Q) X.xe s
def cH:TT:=fun _ H Q=>Q true H
theorem aR{X:Cx}:PTs X [] cH:=fun _ _ σ H Q I h=>wpAny_tests_nil ⟨H,I,h⟩
theorem cy{X:Cx}{c:Expr}{t:TT}(hc:PT X c t):PTs X [c] t:=fun pins s σ H Q I h=>wpAny_tests_one (hc pins s σ H Q I h)
def Ext(σ σ':St):Prop:=∀(j:Nat) (v:V),σ[j]?=some (some v)->σ'[j]?=some (some v)
theorem ext1{o:Option V}{r:St}:Ext (none::r) (o::r)
 |0,v,e=>by cases (zN (show some (none:Option V)=some (some v)from e))
 |j+1,v,e=>e
theorem ext2{o p:Option V}{r:St}:Ext (none::none::r) (o::p::r)
 |0,v,e=>by cases (zN (show some (none:Option V)=some (some v)from e))
 |1,v,e=>by cases (zN (show some (none:Option V)=some (some v)from e))
 |j+2,v,e=>e
def bQ(mp:List (Option Nat))(wi:TI)(g:TG)(tc:TT)(te:TE):TE:=fun σ H Q=>wi σ H fun J H1=>∀D,H1 D=none->
 ∃W:Nat->Nat->List V->Hp->Prop,(∃m,W 0 m [] (upd H1 D (.lst [])))/\∀i m acc H2,W i m acc H2->
  (J.stop i H2/\Q (.ref D) H2)\/
  (J.go i H2/\∀x H3,J.yld i H2 x H3->g x (subS mp σ) H3 fun σ4 H4=>Ext (subS mp σ) σ4/\tc σ4 H4 fun b H5=>if b=true then te σ4 H5 fun v H6=>H6 D=some (.lst acc)/\acc.length < sizeLine/\∃m',m' < m/\W (i+1) m' (acc++ [v]) (upd H6 D (.lst (acc++ [v])))
   else∃m',m' < m/\W (i+1) m' acc H5)
open PySem PySem.Spec PyProof.Rows
theorem cq{env:Env}:∀ {names:List (Str×NameKind)} {x:Str},names.lookup x=some .free->
 (names.map fun(n,k)=>if (k==NameKind.free&&env.scope.kind== .function&&env.kindOf n==some .cell)then(n,NameKind.cell)else(n,k)).lookup x=some .cell\/
 (names.map fun(n,k)=>if (k==NameKind.free&&env.scope.kind== .function&&env.kindOf n==some .cell)then(n,NameKind.cell)else(n,k)).lookup x=some .free
 | [],_,h=>by simp at h
 |(n,k)::r,x,h=>by
  have a:= @cq env r x;show List.lookup x ((if (k==NameKind.free&&env.scope.kind== .function&&env.kindOf n==some .cell)=true then(n,NameKind.cell)else(n,k))::_)=_\/List.lookup x ((if (k==NameKind.free&&env.scope.kind== .function&&env.kindOf n==some .cell)=true then(n,NameKind.cell)else(n,k))::_)=_
  cases hx:x==n with
  |true=>
   simp only[Au,hx]at h;cases h;by_cases hc:(NameKind.free==NameKind.free&&env.scope.kind== .function&&env.kindOf n==some .cell)=true
   . rw[if_pos hc];left;simp only[Au,hx]
   . rw[if_neg hc];right;simp only[Au,hx]
  |false=>
   simp only[Au,hx]at h;by_cases hc:(k==NameKind.free&&env.scope.kind== .function&&env.kindOf n==some .cell)=true
   . rw[if_pos hc];simp only[Au,hx];exact a h
   . rw[if_neg hc];simp only[Au,hx];exact a h
theorem fG{env:Env}:∀ {names:List (Str×NameKind)} {x:Str},(∀y∈names,y.2≠ .cell)->
 ((names.map fun(n,k)=>if (k==NameKind.free&&env.scope.kind== .function&&env.kindOf n==some .cell)then(n,NameKind.cell)else(n,k)).lookup x=some .cell\/
 (names.map fun(n,k)=>if (k==NameKind.free&&env.scope.kind== .function&&env.kindOf n==some .cell)then(n,NameKind.cell)else(n,k)).lookup x=some .free)->(x,NameKind.free)∈names
 | [],_,_,h=>by simp at h
 |(n,k)::r,x,hn,h=>by
  have c:= @fG env r x (fun y hy=>hn y (zp _ hy));have a:k≠ .cell:=hn (n,k) zq;rw[zU]at h;dsimp only at h
  cases hx:x==n with
  |true=>
   have b:x=n:=by simpa using hx
   subst b;by_cases hc:(k==NameKind.free&&env.scope.kind== .function&&env.kindOf x==some .cell)=true
   . have:k= .free:=by
      have:=hc;rw[AL,AL]at this;simpa using this.1.1
     rw[this];exact zq
   . rw[if_neg hc,Au,hx]at h;rcases h with h|h
     . exact absurd (zN h) a
     . cases (zN h);exact zq
  |false=>
   refine zp _ (c ?_);by_cases hc:(k==NameKind.free&&env.scope.kind== .function&&env.kindOf n==some .cell)=true
   . rw[if_pos hc,Au,hx]at h;exact h
   . rw[if_neg hc,Au,hx]at h;exact h
section
variable{X:Cx}{pins:List (Addr×Obj)}{σ:St}{H:Hp}{s:Shared}
theorem Inv.block{scope:Scope}{NC:List Str}{mp:List (Option Nat)}{fp:List Addr}{h1:Heap}{tk:Nat}{m:Str->Option Value}(I:Inv X pins σ H s)(hf:∀b∈fp,FpOk X pins H b)(hlt:∀b∈fp,b < s.heap.objs.size)(hk:scope.kind= .function)(hnc:∀y∈scope.names,y.2≠ .cell)(hc:bJ scope.names X.env.cells=true)(hl:mp.length=NC.length)(hm:hX X.N NC mp scope.names X.env.scope.names=true)(kp:∀b o,s.heap.get? b=some o->h1.get? b=some o)(hn:h1.Ns s.heap.objs.size m):
 Inv (XC X scope NC s.heap.objs.size s H fp (X.pn++pins)) [] (subS mp σ) H {s with heap:=h1,toks:=tk}:=by
 have sub:=lD (cells:=X.env.cells) scope.names [] hc (fun y c e=>by cases e)
 have lt:∀b o,s.heap.get? b=some o->b≠s.heap.objs.size:=fun b o e=>zO (Heap.lt_size e)
 have g:∀b,b≠X.env.locals->b∉X.fs->b∉frs X.stack:=fun b h1 h2 z=>by
  rcases zJ.mp (I.stkSub b z)with e|e
  . exact h1 e
  . exact h2 e
 refine⟨⟨I.ok.mod,hk,I.ok.glob,I.ok.blt,zu _,fun x y c e1 a=>I.ok.inj x y c (sub x c e1) (sub y c a),fun x hx=>?_,(fun _ _ z=>by cases z),I.ok.hd,I.ok.frames, .inl rfl,fun b hb=>?_,fun b o e=>?_,zK I.ok.bsz I.sz,fun b o e hb=>?_,fun b hb=>?_,I.stack,I.stkFree⟩,
  rfl,I.bare,Un.kept kp,⟨m,hn,fun j y v e1 a e3=>?_⟩,fun y c e=>?_,I.hok.fresh (zu _),fun y c e=>I.freeC y c (sub y c e),fun p hp=>?_,I.hok.kept kp,?_⟩
 . exact ik scope.names [] x (fG hnc hx)
 . refine hZq fun q_ e_=>?_;obtain⟨f0,f1,f2,f3,f4,f5⟩:=hf b hb;subst e_;exact⟨zO (hlt b hb),fun x c e=>f4 x c (sub x c e)⟩
 . obtain⟨h1,h2⟩:=I.bs b o e;exact⟨h1,h2⟩
 . refine hZq fun q_ e_=>?_;obtain⟨f0,f1,f2,f3,f4,f5⟩:=hf b hb;subst e_;rcases f3 with z|z
   . exact I.ok.noex b o e z
   . exact absurd (A5 (Heap.lt_size e) (zK I.ok.bsz z)) (AS _)
 . refine hZq fun q_ e_=>?_;obtain⟨f0,f1,f2,f3,f4,f5⟩:=hf b hb;subst e_;exact g b f1 f2
 ·
  unfold subS at a;rw[zr]at a
  cases q:mp[j]? with
  |none=>rw[q]at a;cases a
  |some o=>
   rw[q]at a
   cases o with
   |none=>cases a
   |some i=>
    have d:some ((σ[i]?).getD none)=some (some v):=a;refine hZq fun q_ e_=>?_;obtain⟨z,y1,y2,y3,h⟩:=sQ hm q;have yz:y=z:=zN ((show NC[j]?=some y from e1).symm.trans y1);subst yz
    have e4:σ[i]?=some (some v):=by
     cases w:σ[i]? with
     |none=>rw[w]at d;cases d
     |some t=>rw[w]at d;exact d
    obtain⟨m0,a1,au⟩:=I.loc;obtain⟨c,n⟩:=ik (cells:=X.env.cells) scope.names [] y (PySem.mem_of_lookup y3);have aT:=sub y c n;have aC:Vis X.env.scope y:= .inr h;obtain⟨u,ru,lk⟩:=au i y v y2 e4 aC;subst e_;refine⟨u,ru, .inr ⟨cq y3,c,n,?_⟩⟩;rcases lk with⟨k1,_⟩|⟨_,c',k2,k3⟩
    . have l:X.env.scope.names.lookup y=some .local:=k1;rcases h with h|h<;>(rw[h]at l;cases l)
    . rw[aT]at k2;cases k2;obtain⟨oc,f,k⟩:=k3;exact⟨oc,kp _ _ f,k⟩
 . refine hZq fun q_ e_=>?_;obtain⟨v,oc,f,k⟩:=I.cell y c (sub y c e);subst e_;exact⟨v,oc,kp _ _ f,k⟩
 . have r:p∈X.pn++pins:=by simpa using hp
   refine hZq fun q_ e_=>?_;obtain⟨f,k,q3,q4,q5⟩:=I.pin p r;subst e_;exact⟨kp _ _ f,k,lt _ _ f,g _ q3 q4,q5⟩
 . show(subS mp σ).length=NC.length;unfold subS;rw[zm,hl]
variable{elt target iter:Expr}{ifs:List Expr}{scope:Scope}{NC:List Str}{mp:List (Option Nat)}{pos:Pos}{wi:TI}{g:TG}{tc:TT}{te:TE}
theorem aO(hcalm:X.calm=true)(hi:PI X target iter wi)(hg:∀C s H fp pn,PG (XC X scope NC C s H fp pn) target g)(ht:∀C s H fp pn,PTs (XC X scope NC C s H fp pn) ifs tc)(he:∀C s H fp pn,PE (XC X scope NC C s H fp pn) elt te)(hl:mp.length=NC.length:=by rfl)(hm:hX X.N NC mp scope.names X.env.scope.names=true:=by rfl)(hc:bJ scope.names X.env.cells=true:=by rfl)(hk:scope.kind= .function:=by rfl)(hnc:∀y∈scope.names,y.2≠ .cell:=by decide +kernel)(hnm:∀y∈scope.names,y.2= .local->scope.names.lookup y.1=some .local:=by decide +kernel)(hs:∀x,foldedSetIterable iter X.env x=pure x:=by intro _;rfl):
 PE X (.ListComp elt [⟨target,iter,ifs,0⟩] scope pos) (bQ mp wi g tc te):=by
 intro pins s σ H Q I h;rw[eval_ListComp];refine wpAny_comprehension_free (use:=none) rfl hs (gj hc) hk hnm (thn (hi pins s σ H _ I h) fun v s1 h1=>thn h1 fun c2 f h2=>?_);refine hZq fun q_ e_=>?_;obtain⟨it,fp,tn,J,H2,e,I2,T,a4,f2,W⟩:=h2;subst e_;subst e;refine wpAny_newObj_type ?_ (by show 0<=sizeLine;decide)
 have nD:H2 f.heap.objs.size=none:=I2.hok.fresh (zu _)
 have I3:Inv X pins σ (upd H2 f.heap.objs.size (.lst [])) {f with heap:=f.heap.push {cls:= .type "list",data:= .seq ([]:List Value).toArray}}:=
  I2.laid (t':=f.toks) (fun b u e=>Heap.get?_push_of_some _ e) (zu _) ⟨by show 0<=sizeLine;decide,[],0, .nil,Heap.get?_push_size _ rfl⟩
 refine hZq fun q_ e_=>?_;obtain⟨W,⟨m0,w0⟩,turn⟩:=W _ nD;subst e_
 have a6:∀b∈fp,b < f.heap.objs.size:=fun b hb=>by
  obtain⟨o,e,_⟩:=T.obj 0 _ a4 b hb;exact Heap.lt_size e
 have b8:∀b∈fp,b≠f.heap.objs.size:=fun b hb=>zO (a6 b hb)
 have f3:∀b∈fp,FpOk X pins (upd H2 f.heap.objs.size (.lst [])) b:=fun b hb=>by
  obtain⟨g0,g1⟩:=f2 b hb;exact⟨by rw[ae (b8 b hb)];exact g0,g1⟩
 have bi:tn 0 (f.heap.push {cls:= .type "list",data:= .seq ([]:List Value).toArray}):=T.keep 0 _ _ a4 fun b _ o e=>Heap.get?_push_of_some _ e
 have a1:∀b∈fp,b < (f.heap.push {cls:= .type "list",data:= .seq ([]:List Value).toArray}).objs.size:=fun b hb=>by
  rw[Heap.size_push];exact Aq (a6 b hb)
 generalize hD:f.heap.objs.size=D at*;generalize b4:({f with heap:=f.heap.push {cls:= .type "list",data:= .seq ([]:List Value).toArray}}:Shared)=a at*;have bC:a.heap=f.heap.push {cls:= .type "list",data:= .seq ([]:List Value).toArray}:=by rw[<-b4]
 rw[<-bC]at bi a1;generalize cI:upd H2 D (.lst [])=H3 at*;refine wpAny_newFunctionEnv (around:=some X.env) hnc (by intro y hy;cases hy) (fun h4 cm bw=>?_) hk
 have bx:∀b o,a.heap.get? b=some o->h4.get? b=some o:=fun b o e=>bw.extBut b o (zO (Heap.lt_size e)) (Heap.get?_push_of_some _ e);have I4:=I3.block (tk:=a.toks+([]:List (Str×Value)).length) f3 a1 hk hnc hc hl hm bx cm;have bj:tn 0 h4:=T.keep 0 _ _ bi fun b _ o e=>bx b o e
 have fin:∀(t:Shared) (σ5:St) (H5:Hp),Inv (XC X scope NC a.heap.objs.size a H3 fp (X.pn++pins)) [] σ5 H5 t->Q (.ref D) H5->compPost (model X.prog X.w) X.A X.xe none (EP X pins σ Q) (.ref D) a.heap.objs.size (.ok .next) t:=by
  intro t σ5 H5 I5 q5;obtain⟨m5,bT,_⟩:=id I5.loc;refine⟨m5,bT,fun h6 cb=>⟨.ref D,H5,?_,rfl,q5⟩⟩;have au:∀b o,b≠a.heap.objs.size->t.heap.get? b=some o->h6.get? b=some o:=fun b o hb e=>cb.extBut b o hb e;have nC:∀b o,a.heap.get? b=some o->b≠a.heap.objs.size:=fun b o e=>zO (Heap.lt_size e);have un:Un (frs X.stack) fp H3 H5 a.heap t.heap:=I5.base;have j:H5 a.heap.objs.size=none:=I5.free;refine I3.call' (s':= {t with heap:=h6}) (ch:=fp) I5.os ⟨fun b o e n hb hx=>au b o (nC b o e) (un.keep b o e n hb hx),fun b o e n hb hx=>?_,un.free,fun b o e hx=>?_,un.tups,un.frzs,un.tbls⟩ ?_ I5.bare (fun b hb=>?_)
  . obtain⟨sl,e1⟩:=un.slot b o e n hb hx;exact⟨sl,au b _ (nC b o e) e1⟩
  . obtain⟨o',e1⟩:=un.there b o e hx;exact⟨o',au b o' (nC b o e) e1⟩
  . intro b o e;have nb:b≠a.heap.objs.size:=fun z=>by rw[z,j]at e;cases e
    refine(I5.hok b o e).stay (fun c v bR r=>au c v ?_ r) (fun _ r=>r) fun _ _ r=>r;rcases bR with z|z
    . rw[z];exact nb
    . intro y;rw[y,j]at z;cases z
  . refine hZq fun q_ e_=>?_;obtain⟨g0,g1,g2,g3,g4,g5⟩:=f3 b hb;subst e_;exact⟨g3,g1,g4,g5⟩
 have loop:codeAny (model X.prog X.w) X.A (.compLoop (.ListComp elt [⟨target,iter,ifs,0⟩] scope pos) 0 (.ref it) (.ref D) (compEnvC scope (bZ scope.names X.env.cells []) a.heap.objs.size X.env)) (compPost (model X.prog X.w) X.A X.xe none (EP X pins σ Q) (.ref D) a.heap.objs.size)
  {a with heap:=h4,toks:=a.toks+([]:List (Str×Value)).length}:=by
  refine ii (fun n s'=>∃i acc σ' H',Inv (XC X scope NC a.heap.objs.size a H3 fp (X.pn++pins)) [] σ' H' s'/\Ext (subS mp σ) σ'/\tn i s'.heap/\(∀b∈fp,H' b=none)/\W i n acc H') ?_ m0
   ⟨0,[],subS mp σ,H3,I4,fun _ _ e=>e,bj,fun b hb=>(f3 b hb).1,w0⟩
  intro n t z_;refine hZq fun q_ e_=>?_;obtain⟨i,acc,σ5,H5,I5,hσ,a3,bb,w5⟩:=z_;subst e_;have a7:Inv (XC X scope NC a.heap.objs.size a H3 fp (X.pn++pins)) [] (subS mp σ) H5 t:=I5.weak (by rw[I5.len];unfold subS;rw[zm];exact hl) hσ
  have a2:∀ {H':Hp},(∀b∈fp,H' b=none)->∀b∈fp,FpOk (XC X scope NC a.heap.objs.size a H3 fp (X.pn++pins)) [] H' b:=fun hn b hb=>by
   refine hZq fun q_ e_=>?_;obtain⟨g0,g1,g2,g3,g4,g5⟩:=f3 b hb;subst e_;refine⟨hn b hb,zO (a1 b hb),?_, .inl hb,(I4.ok.exf b hb).2,fun p hp=>g5 p (by simpa using hp)⟩
   exact I4.ok.exfs b hb
  rcases turn i n acc H5 w5 with⟨stop,q⟩|⟨go,step⟩
  . refine thn (T.done (XC X scope NC a.heap.objs.size a H3 fp (X.pn++pins)) rfl rfl rfl hcalm i [] t _ H5 (fun _ _=>False) a7 (a2 bb) a3 stop) fun r s6 ⟨hr,I6⟩=>?_;subst hr;exact fin s6 _ H5 I6 q
  . refine thn (T.item (XC X scope NC a.heap.objs.size a H3 fp (X.pn++pins)) rfl rfl rfl hcalm i [] t _ H5 (fun _ _=>False) a7 (a2 bb) a3 go) fun r s6 ⟨u,hr,h6⟩=>?_;subst hr;refine thn h6 fun _ s7 ⟨x,H7,I7,r7,y7,aT,b7⟩=>?_;have cd:=I7.pinned (a2 b7) (T.obj _ _ aT);refine thn (hg _ _ _ _ _ _ s7 _ H7 x u _ cd r7 (step x H7 y7)) fun _ s8 ⟨σ8,H8,I8,aC,q8⟩=>?_;refine thn (ht _ _ _ _ _ _ s8 σ8 H8 _ I8 q8) fun ok s9 ⟨H9,I9,q9⟩=>?_
    have again:∀ {σ':St} {H':Hp} {s':Shared} {k:List V} {m':Nat},Inv (XC X scope NC a.heap.objs.size a H3 fp (X.pn++pins)) ([]++dF fp s7.heap) σ' H' s'->Ext (subS mp σ) σ'->m' < n->W (i+1) m' k H'->
     ∃m,m < n/\∃i acc σ' H',Inv (XC X scope NC a.heap.objs.size a H3 fp (X.pn++pins)) [] σ' H' s'/\Ext (subS mp σ) σ'/\tn i s'.heap/\(∀b∈fp,H' b=none)/\W i m acc H':=by
     intro σ' H' s' k m' I' b6 l w';refine⟨m',l,i+1,k,σ',H',I'.unpinned,b6,T.keep _ _ _ aT fun b hb o e=>(I'.pin (b,o) (zR _ (zR _ (aZ hb e)))).1,fun b hb=>?_,w'⟩;obtain⟨o,e,d⟩:=T.obj _ _ aT b hb;exact(I'.pin (b,o) (zR _ (zR _ (aZ hb e)))).2.1
    cases ok with
    |false=>
     rw[if_neg zX]at q9;rw[if_neg zX];obtain⟨m',l,w'⟩:=q9;exact again I9 aC l w'
    |true=>
     rw[if_pos rfl]at q9;rw[if_pos rfl];refine thn (he _ _ _ _ _ _ s9 σ8 H9 _ I9 q9) fun v bY ⟨y,a5,bF,bB,bg,hz,m',l,w'⟩=>?_;refine thn (de (X:=XC X scope NC a.heap.objs.size a H3 fp (X.pn++pins)) _ bY σ8 a5 (.ref D) [y] (.ref D) [v] (fun _ H'=>H'=upd a5 D (.lst (acc++ [y]))) bF rfl (.cons bB .nil) ⟨D,acc,y,rfl,rfl,bg,hz,rfl⟩) fun _ cp ⟨_,c3,cn,_,bI⟩=>?_;subst bI;exact again cn aC l w'
 exact codeAny_compStart_list loop (T.self _ 0 _ _ _ bj loop)
end
open PySem PySem.Spec PyProof.Rows
section
variable{X:Cx}{pins:List (Addr×Obj)}{σ:St}{H:Hp}{s:Shared}
theorem oC{h h':Heap}{a b:Addr}{m:Str->Option Value}(hn:h.Ns a m)(sb:Heap.SameBut b h h')(ne:a≠b):h'.Ns a m:=by
 obtain⟨o,es,ep,ho,r⟩:=hn;exact⟨o,es,ep,(sb.2 a ne).trans ho,r⟩
variable{elt target iter:Expr}{ifs:List Expr}{scope:Scope}{NC:List Str}{mp:List (Option Nat)}{pos spos:Pos}{wi:TI}{g:TG}{tc:TT}{te:TE}{i:Nat}{x:Str}{px:Pos}
theorem eV(hcalm:X.calm=true)(hN:X.N.Nodup)(hix:X.N[i]?=some x)(hx:X.env.scope.names.lookup x=some .local)(hsw:swapsWith (.ListComp elt [⟨target,iter,ifs,0⟩] scope pos) (some (.Name x px)) spos.line X.env=pure true)(hi:PI X target iter wi)(hg:∀C s H fp pn,PG (XC X scope NC C s H fp pn) target g)(ht:∀C s H fp pn,PTs (XC X scope NC C s H fp pn) ifs tc)(he:∀C s H fp pn,PE (XC X scope NC C s H fp pn) elt te)(hl:mp.length=NC.length:=by rfl)(hm:hX X.N NC mp scope.names X.env.scope.names=true:=by rfl)(hc:bJ scope.names X.env.cells=true:=by rfl)(hk:scope.kind= .function:=by rfl)(hnc:∀y∈scope.names,y.2≠ .cell:=by decide +kernel)(hnm:∀y∈scope.names,y.2= .local->scope.names.lookup y.1=some .local:=by decide +kernel)(hs:∀x,foldedSetIterable iter X.env x=pure x:=by intro _;rfl):
 PS X (.Assign [.Name x px] (.ListComp elt [⟨target,iter,ifs,0⟩] scope pos) spos) (tAsg (bQ mp wi g tc te) (aH i)):=by
 intro pins s σ H Z I h;rw[exec_Assign_Name_used _ _ _ _ hsw];refine wpAny_bind (wpAny_standAt (wpAny_bind ?_));show wpAny _ _ (do let _<-comprehension (.ListComp elt [⟨target,iter,ifs,0⟩] scope pos) scope X.env _ (newList []) false (eval iter X.env) (some (assign (.Name x px) X.env))) _ _ s
 refine wpAny_bind (wpAny_mono (wpAny_comprehension_free (use:=some (assign (.Name x px) X.env)) (Q:=fun _ s'=>SP X pins Z .next s') (E:=X.xe) rfl hs (gj hc) hk hnm
  (thn (hi pins s σ H _ I h) fun v s1 h1=>thn h1 fun d0 s2 h2=>?_)) (fun _ s' q=>wpAny_pure (wpAny_pure q)) fun _ _ e=>e)
 refine hZq fun q_ e_=>?_;obtain⟨it,fp,tn,J,H2,e,I2,T,bw,f2,W⟩:=h2;subst e_;subst e;refine wpAny_newObj_type ?_ (by show 0<=sizeLine;decide)
 have nD:H2 s2.heap.objs.size=none:=I2.hok.fresh (zu _)
 have I3:Inv X pins σ (upd H2 s2.heap.objs.size (.lst [])) {s2 with heap:=s2.heap.push {cls:= .type "list",data:= .seq ([]:List Value).toArray}}:=
  I2.laid (t':=s2.toks) (fun b u e=>Heap.get?_push_of_some _ e) (zu _) ⟨by show 0<=sizeLine;decide,[],0, .nil,Heap.get?_push_size _ rfl⟩
 refine hZq fun q_ e_=>?_;obtain⟨W,⟨m0,w0⟩,turn⟩:=W _ nD;subst e_
 have bB:∀b∈fp,b < s2.heap.objs.size:=fun b hb=>by
  obtain⟨o,e,_⟩:=T.obj 0 _ bw b hb;exact Heap.lt_size e
 have c8:∀b∈fp,b≠s2.heap.objs.size:=fun b hb=>zO (bB b hb)
 have f3:∀b∈fp,FpOk X pins (upd H2 s2.heap.objs.size (.lst [])) b:=fun b hb=>by
  obtain⟨g0,g1⟩:=f2 b hb;exact⟨by rw[ae (c8 b hb)];exact g0,g1⟩
 have bR:tn 0 (s2.heap.push {cls:= .type "list",data:= .seq ([]:List Value).toArray}):=T.keep 0 _ _ bw fun b _ o e=>Heap.get?_push_of_some _ e
 have bg:∀b∈fp,b < (s2.heap.push {cls:= .type "list",data:= .seq ([]:List Value).toArray}).objs.size:=fun b hb=>by
  rw[Heap.size_push];exact Aq (bB b hb)
 generalize hD:s2.heap.objs.size=D at*;generalize cp:({s2 with heap:=s2.heap.push {cls:= .type "list",data:= .seq ([]:List Value).toArray}}:Shared)=f at*;have b7:f.heap=s2.heap.push {cls:= .type "list",data:= .seq ([]:List Value).toArray}:=by rw[<-cp]
 rw[<-b7]at bR bg;generalize dV:upd H2 D (.lst [])=H3 at*;refine wpAny_newFunctionEnv (around:=some X.env) hnc (by intro y hy;cases hy) (fun h4 dl bY=>?_) hk
 have b4:∀b o,f.heap.get? b=some o->h4.get? b=some o:=fun b o e=>bY.extBut b o (zO (Heap.lt_size e)) (Heap.get?_push_of_some _ e);have I4:=I3.block (tk:=f.toks+([]:List (Str×Value)).length) f3 bg hk hnc hc hl hm b4 dl;have bT:tn 0 h4:=T.keep 0 _ _ bR fun b _ o e=>b4 b o e;have nC:∀b o,f.heap.get? b=some o->b≠f.heap.objs.size:=fun b o e=>zO (Heap.lt_size e)
 have out:∀(t:Shared) (σ5:St) (H5:Hp) (h6:Heap),Inv (XC X scope NC f.heap.objs.size f H3 fp (X.pn++pins)) [] σ5 H5 t->Heap.SameBut f.heap.objs.size t.heap h6->Inv X pins σ H5 {t with heap:=h6}:=by
  intro t σ5 H5 h6 I5 db;have a4:∀b o,b≠f.heap.objs.size->t.heap.get? b=some o->h6.get? b=some o:=fun b o hb e=>db.extBut b o hb e;have un:Un (frs X.stack) fp H3 H5 f.heap t.heap:=I5.base;have k:H5 f.heap.objs.size=none:=I5.free;refine I3.call' (s':= {t with heap:=h6}) (ch:=fp) I5.os ⟨fun b o e n hb hx=>a4 b o (nC b o e) (un.keep b o e n hb hx),fun b o e n hb hx=>?_,un.free,fun b o e hx=>?_,un.tups,un.frzs,un.tbls⟩ ?_ I5.bare (fun b hb=>?_)
  . obtain⟨sl,e1⟩:=un.slot b o e n hb hx;exact⟨sl,a4 b _ (nC b o e) e1⟩
  . obtain⟨o',e1⟩:=un.there b o e hx;exact⟨o',a4 b o' (nC b o e) e1⟩
  . intro b o e;have nb:b≠f.heap.objs.size:=fun z=>by rw[z,k]at e;cases e
    refine(I5.hok b o e).stay (fun c v bb r=>a4 c v ?_ r) (fun _ r=>r) fun _ _ r=>r;rcases bb with z|z
    . rw[z];exact nb
    . intro y;rw[y,k]at z;cases z
  . refine hZq fun q_ e_=>?_;obtain⟨g0,g1,g2,g3,g4,g5⟩:=f3 b hb;subst e_;exact⟨g3,g1,g4,g5⟩
 have fin:∀(t:Shared) (σ5:St) (H5:Hp),Inv (XC X scope NC f.heap.objs.size f H3 fp (X.pn++pins)) [] σ5 H5 t->Z.nx (σ.set i (some (.ref D))) H5->compPost (model X.prog X.w) X.A X.xe (some (assign (.Name x px) X.env)) (fun _ s'=>SP X pins Z .next s') (.ref D) f.heap.objs.size (.ok .next) t:=by
  intro t σ5 H5 I5 q5;obtain⟨m5,cm,_⟩:=id I5.loc;have I6:=out t σ5 H5 t.heap I5 (.refl ..);have lC:X.env.locals≠f.heap.objs.size:=zO I3.lt;show wpAny _ _ (assign (.Name x px) X.env (.ref D)) _ _ _;refine wpAny_assign_Name (iK (X:=X) (v:= .ref D) I6 hN hix (.inl hx) rfl (fun s7 l dr=>?_) (.inr hx));obtain⟨a,cI,ha⟩:=dr
  have aC:f.heap.objs.size≠a:=by
   rcases ha with z|z
   . rw[z];exact Ne.symm lC
   . refine hZq fun q_ e_=>?_;obtain⟨v,oc,q1,_⟩:=I3.cell x a z;subst e_;exact Ne.symm (nC a oc q1)
  refine⟨m5,oC cm cI aC,fun h8 a3=>⟨σ.set i (some (.ref D)),H5,?_,q5⟩⟩;have k:H5 f.heap.objs.size=none:=I5.free;have aT:∀b o,b≠f.heap.objs.size->s7.heap.get? b=some o->h8.get? b=some o:=fun b o hb e=>a3.extBut b o hb e;have au:∀b o,X.s₀.heap.get? b=some o->b≠f.heap.objs.size:=fun b o e=>zO (A5 (Heap.lt_size e) I3.sz);refine⟨l.ok,l.os,l.bare,⟨fun b o e n hb hx=>aT b o (au b o e) (l.base.keep b o e n hb hx),fun b o e n hb hx=>?_,l.base.free,fun b o e hx=>?_,l.base.tups,l.base.frzs,l.base.tbls⟩,?_,fun y c e=>?_,l.free,l.freeC,fun p hp=>?_,?_,l.len⟩
  . obtain⟨sl,e1⟩:=l.base.slot b o e n hb hx;exact⟨sl,aT b _ (au b o e) e1⟩
  . obtain⟨o',e1⟩:=l.base.there b o e hx;exact⟨o',aT b o' (au b o e) e1⟩
  . obtain⟨m7,b8,c3⟩:=l.loc
    have a6:∀y c,X.env.cells.lookup y=some c->c≠f.heap.objs.size:=fun y c e=>by
     refine hZq fun q_ e_=>?_;obtain⟨v,oc,q1,_⟩:=I3.cell y c e;subst e_;exact nC c oc q1
    refine⟨m7,oC b8 a3 lC,fun j y v e1 e2 e3=>?_⟩;obtain⟨u,ru,lk⟩:=c3 j y v e1 e2 e3;refine⟨u,ru,?_⟩;rcases lk with lk|⟨k1,c,k2,k3⟩
    . exact .inl lk
    . exact .inr ⟨k1,c,k2,k3.sameBut a3 (a6 y c k2)⟩
  . refine hZq fun q_ e_=>?_;obtain⟨w',z⟩:=l.cell y c e;obtain⟨v,oc,q1,_⟩:=I3.cell y c e;subst e_;exact⟨w',z.sameBut a3 (nC c oc q1)⟩
  . refine hZq fun q_ e_=>?_;obtain⟨e,n1,n2,n3,n4⟩:=l.pin p hp;obtain⟨e3,_⟩:=I3.pin p hp;subst e_;exact⟨aT _ _ (nC _ _ e3) e,n1,n2,n3,n4⟩
  . intro b o e;have nb:b≠f.heap.objs.size:=fun z=>by rw[z,k]at e;cases e
    refine(l.hok b o e).stay (fun c v bb r=>aT c v ?_ r) (fun _ r=>r) fun _ _ r=>r;rcases bb with z|z
    . rw[z];exact nb
    . intro y;rw[y,k]at z;cases z
 have loop:codeAny (model X.prog X.w) X.A (.compLoop (.ListComp elt [⟨target,iter,ifs,0⟩] scope pos) 0 (.ref it) (.ref D) (compEnvC scope (bZ scope.names X.env.cells []) f.heap.objs.size X.env)) (compPost (model X.prog X.w) X.A X.xe (some (assign (.Name x px) X.env)) (fun _ s'=>SP X pins Z .next s') (.ref D) f.heap.objs.size)
  {f with heap:=h4,toks:=f.toks+([]:List (Str×Value)).length}:=by
  refine ii (fun n s'=>∃i acc σ' H',Inv (XC X scope NC f.heap.objs.size f H3 fp (X.pn++pins)) [] σ' H' s'/\Ext (subS mp σ) σ'/\tn i s'.heap/\(∀b∈fp,H' b=none)/\W i n acc H') ?_ m0
   ⟨0,[],subS mp σ,H3,I4,fun _ _ e=>e,bT,fun b hb=>(f3 b hb).1,w0⟩
  intro n t z_;refine hZq fun q_ e_=>?_;obtain⟨i,acc,σ5,H5,I5,hσ,bj,bF,w5⟩:=z_;subst e_;have bC:Inv (XC X scope NC f.heap.objs.size f H3 fp (X.pn++pins)) [] (subS mp σ) H5 t:=I5.weak (by rw[I5.len];unfold subS;rw[zm];exact hl) hσ
  have bi:∀ {H':Hp},(∀b∈fp,H' b=none)->∀b∈fp,FpOk (XC X scope NC f.heap.objs.size f H3 fp (X.pn++pins)) [] H' b:=fun hn b hb=>by
   refine hZq fun q_ e_=>?_;obtain⟨g0,g1,g2,g3,g4,g5⟩:=f3 b hb;subst e_;refine⟨hn b hb,zO (bg b hb),?_, .inl hb,(I4.ok.exf b hb).2,fun p hp=>g5 p (by simpa using hp)⟩
   exact I4.ok.exfs b hb
  rcases turn i n acc H5 w5 with⟨stop,q⟩|⟨go,step⟩
  . refine thn (T.done (XC X scope NC f.heap.objs.size f H3 fp (X.pn++pins)) rfl rfl rfl hcalm i [] t _ H5 (fun _ _=>False) bC (bi bF) bj stop) fun r s6 ⟨hr,I6⟩=>?_;subst hr;exact fin s6 _ H5 I6 q
  . refine thn (T.item (XC X scope NC f.heap.objs.size f H3 fp (X.pn++pins)) rfl rfl rfl hcalm i [] t _ H5 (fun _ _=>False) bC (bi bF) bj go) fun r s6 ⟨u,hr,h6⟩=>?_;subst hr;refine thn h6 fun _ s7 ⟨x,H7,l,r7,y7,a7,c4⟩=>?_;have dj:=l.pinned (bi c4) (T.obj _ _ a7);refine thn (hg _ _ _ _ _ _ s7 _ H7 x u _ dj r7 (step x H7 y7)) fun _ s8 ⟨σ8,H8,I8,a5,q8⟩=>?_;refine thn (ht _ _ _ _ _ _ s8 σ8 H8 _ I8 q8) fun ok s9 ⟨H9,I9,q9⟩=>?_
    have again:∀ {σ':St} {H':Hp} {s':Shared} {a1:List V} {m':Nat},Inv (XC X scope NC f.heap.objs.size f H3 fp (X.pn++pins)) ([]++dF fp s7.heap) σ' H' s'->Ext (subS mp σ) σ'->m' < n->W (i+1) m' a1 H'->
     ∃m,m < n/\∃i acc σ' H',Inv (XC X scope NC f.heap.objs.size f H3 fp (X.pn++pins)) [] σ' H' s'/\Ext (subS mp σ) σ'/\tn i s'.heap/\(∀b∈fp,H' b=none)/\W i m acc H':=by
     intro σ' H' s' a1 m' I' c2 a2 w';refine⟨m',a2,i+1,a1,σ',H',I'.unpinned,c2,T.keep _ _ _ a7 fun b hb o e=>(I'.pin (b,o) (zR _ (zR _ (aZ hb e)))).1,fun b hb=>?_,w'⟩;obtain⟨o,e,d⟩:=T.obj _ _ a7 b hb;exact(I'.pin (b,o) (zR _ (zR _ (aZ hb e)))).2.1
    cases ok with
    |false=>
     rw[if_neg zX]at q9;rw[if_neg zX];obtain⟨m',a2,w'⟩:=q9;exact again I9 a5 a2 w'
    |true=>
     rw[if_pos rfl]at q9;rw[if_pos rfl];refine thn (he _ _ _ _ _ _ s9 σ8 H9 _ I9 q9) fun v cn ⟨y,bx,cb,b6,bI,hz,m',a2,w'⟩=>?_;refine thn (de (X:=XC X scope NC f.heap.objs.size f H3 fp (X.pn++pins)) _ cn σ8 bx (.ref D) [y] (.ref D) [v] (fun _ H'=>H'=upd bx D (.lst (acc++ [y]))) cb rfl (.cons b6 .nil) ⟨D,acc,y,rfl,rfl,bI,hz,rfl⟩) fun _ dI ⟨_,d2,dH,_,cd⟩=>?_;subst cd;exact again dH a5 a2 w'
 exact codeAny_compStart_list loop (T.self _ 0 _ _ _ bT loop)
end
open PySem PySem.Spec PyProof.Rows
section
variable{κ:Type}[DecidableEq κ]
noncomputable def valV(kvs:List (κ×V))(k:κ):Option V:=(kvs.find? fun kv=>decide (kv.1=k)).map (·.2)
noncomputable def putK(kvs:List (κ×V))(k:κ)(v:V):List (κ×V):=
 if (kvs.any fun kv=>decide (kv.1=k))=true then kvs.map (fun kv=>if kv.1=k then(kv.1,v)else kv)else kvs++ [(k,v)]
theorem bq{p:κ×V}{r:List (κ×V)}{k:κ}(e:p.1=k):valV (p::r) k=some p.2:=by simp[valV,AC,e]
theorem br{p:κ×V}{r:List (κ×V)}{k:κ}(e:¬p.1=k):valV (p::r) k=valV r k:=by simp[valV,AC,e]
theorem dA(k:κ):∀kvs:List (κ×V),(kvs.any fun kv=>decide (kv.1=k))=(valV kvs k).isSome
 | []=>rfl
 |p::r=>by
  rw[List.any_cons];by_cases e:p.1=k
  . simp only[bq e,decide_eq_true e,Bool.true_or,Option.isSome_some]
  . rw[br e,decide_eq_false e,Bool.false_or];exact dA k r
theorem k9(k j:κ)(y:V):∀kvs:List (κ×V),valV (kvs.map fun kv=>if kv.1=k then(kv.1,y)else kv) j=(valV kvs j).map fun x=>if j=k then y else x
 | []=>rfl
 |p::r=>by
  have a:=k9 k j y r;rw[zU];by_cases h:p.1=k
  . rw[if_pos h];by_cases e:p.1=j
    . rw[bq (p:=(p.1,y)) e,bq e,Option.map_some,if_pos (e.symm.trans h)]
    . rw[br (p:=(p.1,y)) e,br e,a]
  . rw[if_neg h];by_cases e:p.1=j
    . rw[bq (p:=p) e,bq e,Option.map_some,if_neg (fun z=>h (e.trans z))]
    . rw[br (p:=p) e,br e,a]
theorem iF(k j:κ)(y:V):∀kvs:List (κ×V),valV kvs k=none->valV (kvs++ [(k,y)]) j=if j=k then some y else valV kvs j
 | [],_=>by
  by_cases e:k=j
  . rw[if_pos e.symm];exact bq (p:=(k,y)) e
  . rw[if_neg (fun z=>e z.symm)];exact br (p:=(k,y)) e
 |p::r,hn=>by
  rw[Ak];have hk:¬p.1=k:=fun z=>by rw[bq z]at hn;cases hn
  rw[br hk]at hn;have a:=iF k j y r hn;by_cases e:p.1=j
  . rw[bq e,bq e,if_neg (fun z=>hk (e.trans z))]
  . rw[br e,br e,a]
theorem pN(kvs:List (κ×V))(k j:κ)(y:V):valV (putK kvs k y) j=if j=k then some y else valV kvs j:=by
 unfold putK;by_cases a:(kvs.any fun kv=>decide (kv.1=k))=true
 . rw[if_pos a,k9];rw[dA]at a;by_cases e:j=k
   . obtain⟨x,hx⟩:=Option.isSome_iff_exists.mp a;rw[if_pos e,e,hx,Option.map_some,if_pos rfl]
   . rw[if_neg e]
     cases valV kvs j with
     |none=>rfl
     |some x=>rw[Option.map_some,if_neg e]
 . rw[if_neg a];refine iF k j y kvs ?_;rw[dA]at a
   cases q:valV kvs k with
   |none=>rfl
   |some x=>rw[q]at a;exact(a rfl).elim
theorem fK(kvs:List (κ×V))(k:κ)(v:V):(putK kvs k v).length<=kvs.length+1:=by
 unfold putK;split
 . rw[zm];omega
 . rw[A6,zV,List.length_nil];omega
theorem rS{kvs:List (κ×V)}{k:κ}(v:V)(h:valV kvs k=none):putK kvs k v=kvs++ [(k,v)]:=by
 unfold putK;rw[dA,h];exact if_neg (by decide)
theorem RelO.isSome_eq{o:Option V}{u:Option Value}(r:RelO o u):o.isSome=u.isSome:=by
 cases o with
 |none=>cases u with
  |none=>rfl
  |some _=>exact(show False from r).elim
 |some _=>cases u with
  |none=>exact(show False from r).elim
  |some _=>rfl
theorem RelO.getD{o:Option V}{u:Option Value}{d:V}{d':Value}(r:RelO o u)(rd:RelV d d'):RelV (o.getD d) (u.getD d'):=by
 cases o with
 |none=>cases u with
  |none=>exact rd
  |some _=>exact(show False from r).elim
 |some _=>cases u with
  |none=>exact(show False from r).elim
  |some _=>exact r
theorem KV.val{kvs:List (κ×V)}{vs:List (κ×Value)}(r:KV kvs vs)(k:κ):RelO (valV kvs k) (valueAt vs k):=by
 unfold KV at r
 induction r with
 |nil=>exact True.intro
 | @cons p q ps qs h t a=>
  obtain⟨h1,h2⟩:=h;by_cases e:p.1=k
  . have e':q.1=k:=h1.symm.trans e;have b:valueAt (q::qs) k=some q.2:=by simp[valueAt,AC,e']
    rw[bq e,b];exact h2
  . have e':¬q.1=k:=fun z=>e (h1.trans z);have b:valueAt (q::qs) k=valueAt qs k:=by simp[valueAt,AC,e']
    rw[br e,b];exact a
theorem KV.any{kvs:List (κ×V)}{vs:List (κ×Value)}(r:KV kvs vs)(k:κ):(kvs.any fun kv=>decide (kv.1=k))=vs.any fun kv=>decide (kv.1=k):=by
 unfold KV at r
 induction r with
 |nil=>rfl
 |cons h t a=>rw[List.any_cons,List.any_cons,a,h.1]
theorem KV.repl{kvs:List (κ×V)}{vs:List (κ×Value)}(r:KV kvs vs)(k:κ){y:V}{u:Value}(ry:RelV y u):
 KV (kvs.map fun kv=>if kv.1=k then(kv.1,y)else kv) (vs.map fun kv=>if kv.1=k then(kv.1,u)else kv):=by
 unfold KV at r ⊢
 induction r with
 |nil=>exact .nil
 | @cons p q ps qs h t a=>
  rw[zU,zU];refine .cons ?_ a;obtain⟨h1,h2⟩:=h;by_cases e:p.1=k
  . rw[if_pos e,if_pos (h1.symm.trans e)];exact⟨h1,ry⟩
  . rw[if_neg e,if_neg (fun z=>e (h1.trans z))];exact⟨h1,h2⟩
theorem KV.put{kvs:List (κ×V)}{vs:List (κ×Value)}(r:KV kvs vs)(k:κ){y:V}{u:Value}(ry:RelV y u):KV (putK kvs k y) (stored vs k u):=by
 unfold putK stored;rw[r.any k];by_cases e:(vs.any fun kv=>decide (kv.1=k))=true
 . rw[if_pos e,if_pos e];exact r.repl k ry
 . rw[if_neg e,if_neg e];exact Paired.snoc r ⟨rfl,ry⟩
theorem KV.length{kvs:List (κ×V)}{vs:List (κ×Value)}(r:KV kvs vs):kvs.length=vs.length:=Paired.length r
end
theorem og{P:Program}{w:World}{k:Key}{u:Value}(r:RelV (kV k) u):(aM P w).is k u=true:=by
 cases k with
 |inl i=>obtain⟨t,e⟩:=(show∃t,u=Value.int i t from r);subst e;exact kF P w i t
 |inr x=>obtain⟨t,e⟩:=(show∃t,u=Value.str x t from r);subst e;exact kE P w x t
theorem iX{P:Program}{w:World}:∀ {ks:List Key} {us:List Value},Vals (ks.map kV) us->ItemsAre (aM P w) ks us
 | [],_,r=>by rw[AJ]at r;cases r;exact .nil
 |k::ks,_,r=>by
  rw[zU]at r
  cases r with
  |cons h t=>exact .cons (og h) (iX t)
abbrev KT(H:Hp):List (List Key×V)->List (List Key×Addr×Value)->Prop:=Paired fun p q=>p.1=q.1/\H q.2.1=some (.tup (p.1.map kV))/\RelV p.2 q.2.2
theorem KT.val{H:Hp}{kvs:List (List Key×V)}{xs:List (List Key×Addr×Value)}(r:KT H kvs xs)(k:List Key):RelO (valV kvs k) ((atKey xs k).map (·.2)):=by
 induction r with
 |nil=>exact True.intro
 | @cons p q ps qs h t a=>
  obtain⟨h1,_,h2⟩:=h;by_cases e:p.1=k
  . have e':q.1=k:=h1.symm.trans e;have b:atKey (q::qs) k=some q.2:=by simp[atKey,AC,e']
    rw[bq e,b];exact h2
  . have e':¬q.1=k:=fun z=>e (h1.trans z);have b:atKey (q::qs) k=atKey qs k:=by simp[atKey,AC,e']
    rw[br e,b];exact a
section
variable{P:Program}{w:World}{H:Hp}{h:Heap}{a:Addr}
theorem wd{u:HO}(ok:HOk P w H h)(e:Rd H a u):ObjOk P w H h a u:=e.ok ok
theorem u8{kvs:List (Key×V)}(ok:HOk P w H h)(e:Rd H a (.dK kvs)):kvs.length<=sizeLine/\(a==sysModules)=false/\∃vs,KV kvs vs/\h.DictOf (aM P w) a vs:=
 show ObjOk P w H h a (.dK kvs)from wd ok e
theorem oo{kvs:List (Key×V)}(ok:HOk P w H h)(e:H a=some (.dK kvs)):kvs.length<=sizeLine/\(a==sysModules)=false/\∃vs,KV kvs vs/\h.DictOf (aM P w) a vs:=u8 ok (.inl e)
theorem tH{ks:List Key}(ok:HOk P w H h)(e:H a=some (.tup (ks.map kV))):(tupleKind (aM P w)).is h ks a:=by
 obtain⟨_,its,r,o,h1,h2,n,h3⟩:=(show ObjOk P w H h a (.tup (ks.map kV))from ok a _ e);exact⟨o,its.toArray,n,h1,h2,h3,by simpa using iX r⟩
theorem wn{kvs:List (List Key×V)}(ok:HOk P w H h)(e:Rd H a (.dT kvs)):kvs.length<=sizeLine/\(a==sysModules)=false/\
 ∃xs,KT H kvs xs/\h.DictOfH (tupleKind (aM P w)) a xs:=by
 obtain⟨z,y,xs,r,o,es,ep,h1,h2,h3,d,b⟩:=(show ObjOk P w H h a (.dT kvs)from wd ok e);refine⟨z,y,xs,r,o,es,ep,h1,h2,h3,d,fun x hx=>?_,b⟩
 have all:∀ {l:List (List Key×V)} {m:List (List Key×Addr×Value)},KT H l m->∀x∈m,(tupleKind (aM P w)).is h x.1 x.2.1:=by
  intro l m q
  induction q with
  |nil=>intro x hx;exact nomatch hx
  | @cons p q ps qs hq t c=>
   intro x hx;rcases zJ.mp hx with e|hx
   . subst e;exact tH ok (by rw[<-hq.1];exact hq.2.1)
   . exact c x hx
 exact all r x hx
end
def DGet(H:Hp)(a:Addr)(y:V)(r:Option V):Prop:=
 (∃kvs k,Rd H a (.dK kvs)/\y=kV k/\r=valV kvs k)\/∃kvs k b,Rd H a (.dT kvs)/\y= .ref b/\H b=some (.tup (k.map kV))/\r=valV kvs k
theorem DGet.k{H:Hp}{a:Addr}{kvs:List (Key×V)}{k:Key}(e:H a=some (.dK kvs)):DGet H a (kV k) (valV kvs k):= .inl ⟨kvs,k, .inl e,rfl,rfl⟩
section
variable{X:Cx}{pins:List (Addr×Obj)}{σ:St}{H:Hp}{s:Shared}{a:Addr}{y v:V}{u r:Value}{o:Option V}{A:Around}{E:Value->Shared->Prop}
theorem Inv.big(I:Inv X pins σ H s):sysModules < s.heap.objs.size:=by
 have h:mainGlobals < s.heap.objs.size:=(I.mod.glob.keeps I.bk).lt;exact Nat.lt_trans (by decide) h
theorem ge{h':Heap}{t':Nat}{ob:HO}(I:Inv X pins σ H s)(mu:Mut (H a))(hs:Heap.SameBut a s.heap h')(he:∃q,h'.get? a=some q)(new:ObjOk X.prog X.w (upd H a ob) h' a ob):
 Inv X pins σ (upd H a ob) {s with heap:=h',toks:=t'}:=
 I.write (x:=a) (e:=a) mu (.inl rfl) (fun b q hb z=>(hs.2 b hb).trans z) he new
theorem u9{P:Program}{w:World}{H':Hp}{h':Heap}{kvs:List (Key×V)}{vs:List (Key×Value)}(z:kvs.length<=sizeLine)(hd:(a==sysModules)=false)(rel:KV kvs vs)(dd:h'.DictOf (aM P w) a vs):
 ObjOk P w H' h' a (.dK kvs):=⟨z,hd,vs,rel,dd⟩
end
section
variable{X:Cx}{pins:List (Addr×Obj)}{σ:St}{H:Hp}{s:Shared}{a:Addr}{kvs:List (Key×V)}{k:Key}{u:Value}{A:Around}{E:Value->Shared->Prop}
end
section
variable{X:Cx}{o i e value:Expr}{pos pos' tpos:Pos}{td ty tv:TE}
end
theorem kU{P:Program}{w:World}{H:Hp}(h:Heap)(hb:sysModules < h.objs.size):ObjOk P w H (h.push {cls:= .type "dict",data:= .dict #[]}) h.objs.size (.dK []):=
 ⟨zY _,beq_eq_false_iff_ne.mpr (Ne.symm (zO hb)),[], .nil,Heap.DictOf.new h⟩
def wC:TE:=fun _ H Q=>∀p,H p=none->Q (.ref p) (upd H p (.dK []))
section
variable{X:Cx}{pos:Pos}
theorem ss:PE X (.Dict [] [] pos) wC:=fun pins s σ H Q I h=>
 wpAny_Dict_empty ⟨.ref s.heap.objs.size,_,I.laid (a:=s.heap.objs.size) (o:= .dK []) (t':=s.toks) (fun _ _ q=>Heap.get?_push_of_some _ q) (zu _) (kU s.heap I.big),rfl,h _ (I.hok.fresh (zu _))⟩
end
structure M2 (X:Cx) (o:Expr) (m:Str) (apos:Pos) (e f:Expr) (cpos:Pos):Prop where
 base:attributeBase o m X.env (eval o X.env)=eval o X.env
 few:((backTo cpos (starEach [e,f] X.env)).all (fun x=> !x.1)&& (backToKw cpos (keywordEach [] X.env)).all (fun x=>x.1.isSome)
  &&decide (([e,f]:List Expr).length+([]:List Keyword).length+(if ([]:List Keyword).isEmpty then 0 else 1) < 30))=true
 line:(apos.endLine==cpos.line)=true
 trees:backTo cpos (starEach [e,f] X.env)= [(false,eval e X.env),(false,eval f X.env)]
def IsD(H:Hp)(a:Addr):Prop:=(∃kvs,Rd H a (.dK kvs))\/∃kvs,Rd H a (.dT kvs)
theorem xY{X:Cx}{pins:List (Addr×Obj)}{σ:St}{H:Hp}{s:Shared}{a:Addr}(I:Inv X pins σ H s)(d:IsD H a):
 s.TypeIs (.ref a) "dict"/\(∀b,Value.ref a= .ref b->∃ob,s.heap.get? b=some ob/\ob.dict=none)/\(a==sysModules)=false:=by
 rcases d with⟨kvs,e⟩|⟨kvs,e⟩
 . obtain⟨_,hd,vs,_,dd⟩:=u8 I.hok e;refine⟨dd.typeIs,fun b q=>?_,hd⟩;cases q;obtain⟨ob,_,_,h1,h2,_⟩:=dd;exact⟨ob,h1,h2.2.1⟩
 . obtain⟨_,hd,xs,_,dd⟩:=wn I.hok e;refine⟨dd.typeIs,fun b q=>?_,hd⟩;cases q;obtain⟨ob,_,_,h1,h2,_⟩:=dd;exact⟨ob,h1,h2.2.1⟩
section
variable{X:Cx}{pins:List (Addr×Obj)}{σ:St}{H:Hp}{s:Shared}{a:Addr}{y d:V}{u r:Value}{o:Option V}{A:Around}{E:Value->Shared->Prop}
theorem yh{Q:Value->Shared->Prop}(hu:A.units+1 < cLine)(I:Inv X pins σ H s)(g:DGet H a y o)(ry:RelV y u)(rd:RelV d r)(h:∀w' s',Inv X pins σ H s'->RelV (o.getD d) w'->Q w' s'):
 wpAny (model X.prog X.w) A (call (.builtin "dict.get") [.ref a,u,r]) Q E s:=by
 rcases g with⟨kvs,k,e,f,l⟩|⟨kvs,k,b,e,f,i,l⟩
 . subst f;obtain⟨z,hd,vs,c,dd⟩:=u8 I.hok e;refine call_meetsIn PySem.F.slot_dict_get dd.typeIs PySem.F.entry_dict_get (PySem.F.args_dict_get_3 _ _ _) (meets_dict_get_default (aM X.prog X.w) a (og ry) hd r) ⟨_,dd.mapOf,h _ _ (I.tok _) ?_⟩;rw[l];exact(c.val k).getD rd
 . subst f;cases (show u=Value.ref b from ry);obtain⟨z,hd,xs,c,dd⟩:=wn I.hok e;refine call_meetsIn PySem.F.slot_dict_get dd.typeIs PySem.F.entry_dict_get (PySem.F.args_dict_get_3 _ _ _) (meetsH_dict_get_default (tupleKind (aM X.prog X.w)) a b hd r) ⟨tupleKind_room_in1 hu,k,xs,tH I.hok i,dd,h _ _ (I.tok _) ?_⟩;rw[l];exact(c.val k).getD rd
end
def wD(td ty tx:TE):TE:=fun σ H Q=>td σ H fun x H1=>∃a,x= .ref a/\IsD H1 a/\ty σ H1 fun y H2=>tx σ H2 fun z H3=>∃o,DGet H3 a y o/\Q (o.getD z) H3
section
variable{X:Cx}{o e f:Expr}{apos cpos:Pos}{td ty tx:TE}
theorem sF(hu:X.A.units+1 < cLine)(ho:PE X o td)(he:PE X e ty)(hf:PE X f tx)(m:M2 X o "get" apos e f cpos):PE X (.Call (.Attribute o "get" apos) [e,f] [] cpos) (wD td ty tx):=by
 intro pins s σ H Q I h;refine wpAny_Call_method m.base m.few m.line PySem.F.plainAttrs_dict PySem.F.slot_dict_get PySem.F.type_dict_get (thn (ho pins s σ H _ I h) fun u s1 ⟨x,H1,c,j,a,ex,d,q⟩=>?_);subst ex;obtain rfl:u=Value.ref a:=j;obtain⟨t,t2,_⟩:=xY c d;refine⟨t,t2,?_⟩;rw[m.trees]
 refine Calls.callWith_builtin rfl (Calls.evalArgs_plain (Calls.spliced_cons (thn (he pins s1 σ H1 _ c q) fun iv v ⟨y,H2,k,i,p⟩=>
  Calls.spliced_cons (thn (hf pins v σ H2 _ k p) fun fv s3 ⟨z,H3,n,l,ov,g,r⟩=>Calls.spliced_nil ?_))))
 exact yh hu n g i l fun w' s4 w b=>⟨_,H3,w,b,r⟩
end
section
variable{X:Cx}{pins:List (Addr×Obj)}{σ:St}{H:Hp}{s:Shared}{a:Addr}{kvs:List (Key×V)}{A:Around}{E:Value->Shared->Prop}
end
section
variable{X:Cx}{pins:List (Addr×Obj)}{σ:St}{H:Hp}{s:Shared}{a:Addr}{y:V}{u:Value}{A:Around}{E:Value->Shared->Prop}
end
open PySem PySem.Spec PyProof.Rows
def lJ(J:It)(D:Addr)(te:TE)(rest:L2.St)(Q:VK)(H1:Hp):Prop:=
 ∃W:Nat->Nat->List V->Hp->Prop,(∃m,W 0 m [] (upd H1 D (.lst [])))/\∀i m acc H2,W i m acc H2->
  (J.stop i H2/\Q (.ref D) H2)\/
  (J.go i H2/\∀x H3,J.yld i H2 x H3->aH 0 x (none::rest) H3 fun σ4 H4=>Ext (none::rest) σ4/\cH σ4 H4 fun b H5=>if b=true then te σ4 H5 fun v H6=>H6 D=some (.lst acc)/\acc.length < sizeLine/\∃m',m' < m/\W (i+1) m' (acc++ [v]) (upd H6 D (.lst (acc++ [v])))
   else∃m',m' < m/\W (i+1) m' acc H5)
theorem bM{mp:List (Option Nat)}{wi:TI}{te:TE}{σ rest:L2.St}{H:Hp}{Q:VK}(e:subS mp σ=none::rest)(h:wi σ H fun J H1=>∀D,H1 D=none->lJ J D te rest Q H1):bQ mp wi (aH 0) cH te σ H Q:=by
 unfold bQ;rw[e];exact h
def CompN(n i:Nat)(D:Addr)(acc:List V)(Pv:Nat->List V->Hp->Prop):VK:=fun v H6=>H6 D=some (.lst acc)/\acc.length < sizeLine/\∃m',m' < n - i/\(m'=n - (i+1)/\i+1<=n/\Pv (i+1) (acc++ [v]) (upd H6 D (.lst (acc++ [v]))))
theorem CompN.mk{n i:Nat}{D:Addr}{acc:List V}{Pv:Nat->List V->Hp->Prop}{v:V}{H6:Hp}(hi:i < n)(hl:acc.length < sizeLine)(h1:H6 D=some (.lst acc))(h2:Pv (i+1) (acc++ [v]) (upd H6 D (.lst (acc++ [v])))):CompN n i D acc Pv v H6:=
 ⟨h1,hl,n - (i+1),by omega,rfl,hi,h2⟩
theorem jW{J:It}{D:Addr}{te:TE}{rest:L2.St}{Q:VK}{H1:Hp}(n:Nat)(Pv:Nat->List V->Hp->Prop)(h0:Pv 0 [] (upd H1 D (.lst [])))(hgo:∀i acc H,i < n->Pv i acc H->J.go i H)(hs:∀i x acc H H',i < n->Pv i acc H->J.yld i H x H'->te (some x::rest) H' (CompN n i D acc Pv))(hd:∀acc H,Pv n acc H->J.stop n H/\Q (.ref D) H):lJ J D te rest Q H1:=by
 refine⟨fun i m acc H=>m=n - i/\i<=n/\Pv i acc H,⟨n,by simp,zY _,h0⟩,?_⟩
 rintro i m acc H ⟨rfl,hi,p⟩;by_cases a:i < n
 . refine .inr ⟨hgo i acc H a p,fun x H' y=>?_⟩;refine⟨ext1,?_⟩;show(if true=true then te (some x::rest) H' (CompN n i D acc Pv)else∃m',m' < n - i/\(m'=n - (i+1)/\i+1<=n/\Pv (i+1) acc H'));exact iteT (hs i x acc H H' a p y)
 . have e:i=n:=by omega
   subst e;exact .inl (hd acc H p)
theorem uh{K:PySem.W.Frag}{a D:Addr}{xs:List V}{te:TE}{rest:L2.St}{Q:VK}{H1:Hp}(Pv:Nat->List V->Hp->Prop)(h0:Pv 0 [] (upd H1 D (.lst [])))(hl:∀i acc H,Pv i acc H->SqT K H a xs)(hs:∀i x acc H,i < xs.length->xs[i]?=some x->Pv i acc H->te (some x::rest) H (CompN xs.length i D acc Pv))(hd:∀acc H,Pv xs.length acc H->Q (.ref D) H):lJ (Itt K a) D te rest Q H1:=by
 refine jW xs.length Pv h0 (fun i acc H hi p=>⟨xs,xs[i],hl i acc H p,by simp[hi]⟩) (fun i x acc H H' hi p y=>?_) fun acc H p=>⟨⟨xs,hl _ acc H p,zu _⟩,hd acc H p⟩
 obtain⟨e,y⟩:=y;subst e;exact hs i x acc _ hi (y xs (hl i acc _ p)) p
theorem bG{K:PySem.W.Frag}{a D:Addr}{xs:List V}{te:TE}{rest:L2.St}{Q:VK}{H1:Hp}(Pv:Nat->List V->Hp->Prop)(h0:Pv 0 [] (upd H1 D (.lst [])))(hl:∀i acc H,Pv i acc H->SqL K H a xs)(hs:∀i x acc H,i < xs.length->xs[i]?=some x->Pv i acc H->te (some x::rest) H (CompN xs.length i D acc Pv))(hd:∀acc H,Pv xs.length acc H->Q (.ref D) H):lJ (Itl K a) D te rest Q H1:=by
 refine jW xs.length Pv h0 (fun i acc H hi p=>⟨xs,xs[i],hl i acc H p,by simp[hi]⟩) (fun i x acc H H' hi p y=>?_) fun acc H p=>⟨⟨xs,hl _ acc H p,zu _⟩,hd acc H p⟩
 obtain⟨e,y⟩:=y;subst e;exact hs i x acc _ hi (y xs (hl i acc _ p)) p
theorem mM{n:Nat}{D:Addr}{te:TE}{rest:L2.St}{Q:VK}{H1:Hp}(Pv:Nat->List V->Hp->Prop)(h0:Pv 0 [] (upd H1 D (.lst [])))(hs:∀(i:Nat) acc H,i < n->Pv i acc H->te (some (.int (0+(i:Int)))::rest) H (CompN n i D acc Pv))(hd:∀acc H,Pv n acc H->Q (.ref D) H):lJ (Itr 0 n) D te rest Q H1:=by
 refine jW n Pv h0 (fun i acc H hi p=>hi) (fun i x acc H H' hi p y=>?_) fun acc H p=>⟨zu _,hd acc H p⟩;obtain⟨e,y⟩:=y;subst e y;exact hs i acc _ hi p
end L2
namespace Dj
open PySem PySem.Spec PyProof.Rows L2 Tre
def SqX(K:PySem.W.Frag)(H:Hp)(a:Addr)(xs:List V):Prop:=
 H a=some (.tup xs)\/∃(o:Obj) (its:Array Value) (n:Nat),K.lookup a=some o/\o.cls= .type "tuple"/\o.data= .seq its n/\its.size<=sizeLine/\Vals xs its.toList
theorem SqX.mono{K:PySem.W.Frag}{H H':Hp}{a:Addr}{xs:List V}(d:Kd H H')(h:SqX K H a xs):SqX K H' a xs:=h.elim (fun e=> .inl (d.tup _ _ e)) .inr
mutual
def KVt(K:PySem.W.Frag)(H:Hp):V->Tk.KT->Prop
 |v, .lf (.inl i)=>v= .int i
 |v, .lf (.inr x)=>v= .str x
 |v, .tp ts=>∃r vs,v= .ref r/\SqX K H r vs/\KVts K H vs ts
def KVts(K:PySem.W.Frag)(H:Hp):List V->List Tk.KT->Prop
 |vs,[]=>vs= []
 |vs,t::ts=>∃v r,vs=v::r/\KVt K H v t/\KVts K H r ts
end
section
variable{P:Program}{w:World}{K:PySem.W.Frag}{H H':Hp}{h:Heap}
mutual
theorem KVt.mono(d:Kd H H'):∀ {v:V} {t:Tk.KT},KVt K H v t->KVt K H' v t
 |v, .lf (.inl i),a=>by unfold KVt at a ⊢;exact a
 |v, .lf (.inr x),a=>by unfold KVt at a ⊢;exact a
 |v, .tp ts,a=>by
  unfold KVt at a ⊢;obtain⟨r,vs,e,s,q⟩:=a;exact⟨r,vs,e,s.mono d,KVts.mono d q⟩
theorem KVts.mono(d:Kd H H'):∀ {vs:List V} {ts:List Tk.KT},KVts K H vs ts->KVts K H' vs ts
 |vs,[],a=>by unfold KVts at a ⊢;exact a
 |vs,t::ts,a=>by
  unfold KVts at a ⊢;obtain⟨v,r,e,b,c⟩:=a;exact⟨v,r,e,KVt.mono d b,KVts.mono d c⟩
end
theorem wH(ok:HOk P w H h)(kin:K.In h){q:Addr}{vs:List V}(e:SqX K H q vs):∃its:List Value,Vals vs its/\∃o n,h.get? q=some o/\o.cls= .type "tuple"/\o.data= .seq its.toArray n:=by
 rcases e with e|⟨o,its,n,hk,hc,hs,hz,r⟩
 . obtain⟨_,its,rv,o,h1,h2,n,h3⟩:=(show ObjOk P w H h q (.tup vs)from ok q _ e);exact⟨its,rv,o,n,h1,h2,h3⟩
 . exact⟨its.toList,r,o,n,kin q o hk,hc,by simpa using hs⟩
mutual
theorem tI(ok:HOk P w H h)(kin:K.In h):∀ {v:V} {t:Tk.KT} {u:Value},KVt K H v t->RelV v u->Tk.KAt h u t
 |v, .lf (.inl i),u,a,r=>by
  unfold KVt at a;subst a;obtain⟨t,rfl⟩:=r;simp only[Tk.KAt];exact iV i t
 |v, .lf (.inr x),u,a,r=>by
  unfold KVt at a;subst a;obtain⟨t,rfl⟩:=r;simp only[Tk.KAt];exact iU x t
 |v, .tp ts,u,a,r=>by
  unfold KVt at a;obtain⟨q,vs,rfl,e,as⟩:=a;obtain rfl:u=Value.ref q:=r;obtain⟨its,rv,o,n,h1,h2,h3⟩:=wH ok kin e;simp only[Tk.KAt];exact⟨q,o,its.toArray,n,rfl,h1,h2,h3,by simpa using kats_of ok kin as rv⟩
theorem kats_of(ok:HOk P w H h)(kin:K.In h):∀ {vs:List V} {ts:List Tk.KT} {us:List Value},KVts K H vs ts->Vals vs us->Tk.KsAt h us ts
 |vs,[],us,a,r=>by
  unfold KVts at a;subst a;cases r;simp[Tk.KsAt]
 |vs,t::ts,us,a,r=>by
  unfold KVts at a;obtain⟨v,q,rfl,b,c⟩:=a
  cases r with
  |cons r1 r2=>
   simp only[Tk.KsAt];exact⟨_,_,rfl,tI ok kin b r1,kats_of ok kin c r2⟩
end
end
def KeyAt(K:PySem.W.Frag)(H:Hp)(k:List Tk.KT)(b:Addr):Prop:=∃vs,SqX K H b vs/\KVts K H vs k/\(Tk.KT.tp k).depth<=8
theorem KeyAt.mono{K:PySem.W.Frag}{H H':Hp}{k:List Tk.KT}{b:Addr}(d:Kd H H')(h:KeyAt K H k b):KeyAt K H' k b:=by
 obtain⟨ts,h1,h2,h3⟩:=h;exact⟨ts,h1.mono d,h2.mono d,h3⟩
theorem KeyAt.is{P:Program}{w:World}{K:PySem.W.Frag}{H:Hp}{h:Heap}{k:List Tk.KT}{b:Addr}(ok:HOk P w H h)(kin:K.In h)(x:KeyAt K H k b):(Tk.treeKind P w).is h k b:=by
 obtain⟨vs,h1,h2,a⟩:=x;have:=tI ok kin (v:= .ref b) (t:= .tp k) (u:= .ref b) (by unfold KVt;exact⟨b,vs,rfl,h1,h2⟩) rfl
 exact⟨this,a⟩
abbrev Ent:=List Tk.KT×Addr×V
abbrev RE:List Ent->List (List Tk.KT×Addr×Value)->Prop:=Paired fun p q=>p.1=q.1/\p.2.1=q.2.1/\RelV p.2.2 q.2.2
noncomputable def dJ(P:Program)(w:World)(a:Addr)(kvs:List Ent):HO:= .ext fun h=>kvs.length<=sizeLine/\(a==sysModules)=false/\
 ∃xs:List (List Tk.KT×Addr×Value),RE kvs xs/\∃o es ep,h.get? a=some o/\o.ExactDict/\o.data= .dict es ep/\es.toList=xs.map (entryOfKey (Tk.treeKind P w))/\(xs.map (·.1)).Nodup
structure DJ (P:Program) (w:World) (K:PySem.W.Frag) (H:Hp) (a:Addr) (kvs:List Ent):Prop where
 at_:H a=some (dJ P w a kvs)
 keys:∀p∈kvs,KeyAt K H p.1 p.2.1
noncomputable def valJ(kvs:List Ent)(k:List Tk.KT):Option V:=(kvs.find? fun p=>decide (p.1=k)).map (·.2.2)
noncomputable def putJ(kvs:List Ent)(k:List Tk.KT)(b:Addr)(v:V):List Ent:=
 if (valJ kvs k).isSome then kvs.map (fun p=>if p.1=k then(p.1,p.2.1,v)else p)else kvs++ [(k,b,v)]
theorem ka{p:Ent}{r:List Ent}{k:List Tk.KT}(e:p.1=k):valJ (p::r) k=some p.2.2:=by simp[valJ,AC,e]
theorem gv{p:Ent}{r:List Ent}{k:List Tk.KT}(e:¬p.1=k):valJ (p::r) k=valJ r k:=by simp[valJ,AC,e]
theorem fL(kvs:List Ent)(k:List Tk.KT)(b:Addr)(v:V):(putJ kvs k b v).length<=kvs.length+1:=by
 unfold putJ;split
 . rw[zm];omega
 . rw[A6,zV,List.length_nil];omega
theorem RE.val{kvs:List Ent}{xs:List (List Tk.KT×Addr×Value)}(r:RE kvs xs)(k:List Tk.KT):RelO (valJ kvs k) ((atKey xs k).map (·.2)):=by
 induction r with
 |nil=>exact True.intro
 | @cons p q ps qs h t a=>
  obtain⟨h1,_,h2⟩:=h;by_cases e:p.1=k
  . have e':q.1=k:=h1.symm.trans e;have b:atKey (q::qs) k=some q.2:=by simp[atKey,AC,e']
    rw[ka e,b];exact h2
  . have e':¬q.1=k:=fun z=>e (h1.trans z);have b:atKey (q::qs) k=atKey qs k:=by simp[atKey,AC,e']
    rw[gv e,b];exact a
theorem RE.repl{kvs:List Ent}{xs:List (List Tk.KT×Addr×Value)}(r:RE kvs xs)(k:List Tk.KT){y:V}{u:Value}(ry:RelV y u):
 RE (kvs.map fun p=>if p.1=k then(p.1,p.2.1,y)else p) (xs.map (putAt k u)):=by
 induction r with
 |nil=>exact .nil
 | @cons p q ps qs h t a=>
  rw[zU,zU];refine .cons ?_ a;obtain⟨h1,h2,h3⟩:=h;unfold putAt;by_cases e:p.1=k
  . rw[if_pos e,if_pos (h1.symm.trans e)];exact⟨h1,h2,ry⟩
  . rw[if_neg e,if_neg (fun z=>e (h1.trans z))];exact⟨h1,h2,h3⟩
theorem RE.put{kvs:List Ent}{xs:List (List Tk.KT×Addr×Value)}(r:RE kvs xs)(k:List Tk.KT){b:Addr}{y:V}{u:Value}(ry:RelV y u):RE (putJ kvs k b y) (storedH xs k b u):=by
 have e:(valJ kvs k).isSome=(atKey xs k).isSome:=by
  rw[(r.val k).isSome_eq,Option.isSome_map]
 unfold putJ storedH;rw[e];by_cases q:(atKey xs k).isSome=true
 . rw[if_pos q,if_pos q];exact r.repl k ry
 . rw[if_neg q,if_neg q];exact Paired.snoc r ⟨rfl,rfl,ry⟩
theorem rT{kvs:List Ent}{k:List Tk.KT}{b:Addr}{v:V}{p:Ent}(h:p∈putJ kvs k b v):(∃q∈kvs,p.1=q.1/\p.2.1=q.2.1)\/(p.1=k/\p.2.1=b):=by
 unfold putJ at h;split at h
 . obtain⟨q,m,e⟩:=zM.mp h;split at e
   . subst e;exact .inl ⟨q,m,rfl,rfl⟩
   . subst e;exact .inl ⟨q,m,rfl,rfl⟩
 . rcases A9.mp h with m|m
   . exact .inl ⟨p,m,rfl,rfl⟩
   . rw[A8.mp m];exact .inr ⟨rfl,rfl⟩
theorem Kd.updJ{P:Program}{w:World}{H:Hp}{a:Addr}{kvs:List Ent}{o:HO}(h:H a=some (dJ P w a kvs)):Kd H (upd H a o):=by
 refine⟨fun b zs e=>?_,fun b zs e=>⟨zs,?_⟩⟩
 . rw[ae (fun z=>by rw[z,h]at e;cases e)];exact e
 . rw[ae (fun z=>by rw[z,h]at e;cases e)];exact e
theorem Kd.updK{H:Hp}{a:Addr}{kvs:List (Key×V)}{o:HO}(h:H a=some (.dK kvs)):Kd H (upd H a o):=by
 refine⟨fun b zs e=>?_,fun b zs e=>⟨zs,?_⟩⟩
 . rw[ae (fun z=>by rw[z,h]at e;cases e)];exact e
 . rw[ae (fun z=>by rw[z,h]at e;cases e)];exact e
theorem DJ.put{P:Program}{w:World}{K:PySem.W.Frag}{H:Hp}{a b:Addr}{kvs:List Ent}{k:List Tk.KT}{v:V}(d:DJ P w K H a kvs)(hk:KeyAt K H k b):DJ P w K (upd H a (dJ P w a (putJ kvs k b v))) a (putJ kvs k b v):=by
 refine⟨a8,fun p m=>?_⟩;refine KeyAt.mono (Kd.updJ d.at_) ?_;rcases rT m with⟨q,e,e1,c⟩|⟨e1,c⟩
 . rw[e1,c];exact d.keys q e
 . rw[e1,c];exact hk
theorem DJ.kd{P:Program}{w:World}{K:PySem.W.Frag}{H H':Hp}{a:Addr}{kvs:List Ent}(d:DJ P w K H a kvs)(k:Kd H H')(e:H' a=some (dJ P w a kvs)):DJ P w K H' a kvs:=⟨e,fun p m=>(d.keys p m).mono k⟩
section
variable{P:Program}{w:World}{H:Hp}{h:Heap}{a:Addr}
theorem ig{K:PySem.W.Frag}{kvs:List Ent}(ok:HOk P w H h)(kin:K.In h)(d:DJ P w K H a kvs):kvs.length<=sizeLine/\(a==sysModules)=false/\∃xs,RE kvs xs/\h.DictOfH (Tk.treeKind P w) a xs:=by
 obtain⟨⟨z,y,xs,r,o,es,ep,h1,h2,h3,f,b⟩,_⟩:=(show ObjOk P w H h a (dJ P w a kvs)from ok a _ d.at_);refine⟨z,y,xs,r,o,es,ep,h1,h2,h3,f,?_,b⟩
 have all:∀ {l:List Ent} {m:List (List Tk.KT×Addr×Value)},RE l m->(∀p∈l,KeyAt K H p.1 p.2.1)->∀x∈m,(Tk.treeKind P w).is h x.1 x.2.1:=by
  intro l m q
  induction q with
  |nil=>intro _ x hx;exact nomatch hx
  | @cons p q ps qs hq t c=>
   intro kp x hx;rcases zJ.mp hx with e|hx
   . subst e;rw[<-hq.1,<-hq.2.1];exact(kp p zq).is ok kin
   . exact c (fun p m=>kp p (zp _ m)) x hx
 exact all r d.keys
theorem mJ{kvs:List Ent}{xs:List (List Tk.KT×Addr×Value)}{H':Hp}{h':Heap}(z:kvs.length<=sizeLine)(y:(a==sysModules)=false)(r:RE kvs xs)(d:∃o es ep,h'.get? a=some o/\o.ExactDict/\o.data= .dict es ep/\es.toList=xs.map (entryOfKey (Tk.treeKind P w))/\(xs.map (·.1)).Nodup):ObjOk P w H' h' a (dJ P w a kvs):=by
 obtain⟨o,es,ep,h1,h2⟩:=d;refine⟨⟨z,y,xs,r,o,es,ep,h1,h2⟩,⟨o,h1⟩,?_⟩;rintro b g2 ⟨z,y,xs,r,o,es,ep,h1,h2⟩ st;exact⟨z,y,xs,r,o,es,ep,st _ h1,h2⟩
end
noncomputable def qA(P:Program)(w:World):TE:=fun _ H Q=>∀p,H p=none->Q (.ref p) (upd H p (dJ P w p []))
noncomputable def rG(P:Program)(w:World)(K:PySem.W.Frag)(td ty tv:TE):TS:=fun D σ H=>tv σ H fun v H1=>td σ H1 fun x H2=>ty σ H2 fun y H3=>∃a b k kvs,x= .ref a/\y= .ref b/\DJ P w K H3 a kvs/\KeyAt K H3 k b/\kvs.length < sizeLine/\D.nx σ (upd H3 a (dJ P w a (putJ kvs k b v)))
noncomputable def qB(P:Program)(w:World)(K:PySem.W.Frag)(td ty tx:TE):TE:=fun σ H Q=>td σ H fun x H1=>∃a kvs,x= .ref a/\DJ P w K H1 a kvs/\ty σ H1 fun y H2=>tx σ H2 fun z H3=>∃b k,y= .ref b/\DJ P w K H3 a kvs/\KeyAt K H3 k b/\Q ((valJ kvs k).getD z) H3
section
variable{X:Cx}{pos pos' apos cpos:Pos}{o i e f value:Expr}{td ty tv tx:TE}
theorem kX{P:Program}{w:World}{H:Hp}(h:Heap)(hb:sysModules < h.objs.size):ObjOk P w H (h.push {cls:= .type "dict",data:= .dict #[]}) h.objs.size (dJ P w h.objs.size []):=
 mJ (zY _) (beq_eq_false_iff_ne.mpr (Ne.symm (zO hb))) .nil ⟨_, #[],0,Heap.get?_push_size _ rfl,⟨rfl,rfl,rfl⟩,rfl,rfl,List.nodup_nil⟩
theorem sw:PE X (.Dict [] [] pos) (qA X.prog X.w):=fun pins s σ H Q I h=>
 wpAny_Dict_empty ⟨.ref s.heap.objs.size,_,I.laid (a:=s.heap.objs.size) (o:=dJ X.prog X.w s.heap.objs.size []) (t':=s.toks) (fun _ _ q=>Heap.get?_push_of_some _ q) (zu _) (kX s.heap I.big),rfl,h _ (I.hok.fresh (zu _))⟩
theorem sf(hu:X.A.units+30 < cLine)(ho:PE X o td)(hi:PE X i ty)(hv:PE X value tv)(hs:swapsWith value (some (.Subscript o i pos')) pos.line X.env=pure false):
 PS X (.Assign [.Subscript o i pos'] value pos) (rG X.prog X.w X.K td ty tv):=by
 intro pins s σ H D I h;refine wpAny_Assign_Subscript (thn (hv pins s σ H _ I h) fun r s1 ⟨v,H1,n,rv,q1⟩=>thn (ho pins s1 σ H1 _ n q1) fun u s2 ⟨x,H2,m,l,p⟩=>thn (hi pins s2 σ H2 _ m p) fun iv s3 ⟨y,H3,e,j,a,b,k,kvs,ex,t,d,kb,hl,q3⟩=>?_) hs;subst ex t;obtain rfl:u=Value.ref a:=l;obtain rfl:iv=Value.ref b:=j;refine hZq fun q_ e_=>?_;obtain⟨z,hd,xs,c,dd⟩:=ig e.hok e.kIn d;subst e_;have hz:xs.length<=sizeLine:=by rw[<-Paired.length c];exact z
 have g:(putJ kvs k b v).length<=sizeLine:=by have:=fL kvs k b v;omega
 refine wpAny_setItem_heap (hsz:=hz) (by show X.A.units+1+20 < cLine;omega) (kb.is e.hok e.kIn) dd fun h' f hs=>⟨σ,_,?_,q3⟩
 refine hZq fun q_ e_=>?_;obtain⟨q,es,ep,hq,h2,h3,h4,_,h5⟩:=f;subst e_;exact ge e (by rw[d.at_];exact True.intro) hs ⟨q,hq⟩ (mJ g hd (c.put k rv) ⟨q,es,ep,hq,h2,h3,h4,h5⟩)
theorem sy(hu:X.A.units+30 < cLine)(ho:PE X o td)(he:PE X e ty)(hf:PE X f tx)(m:M2 X o "get" apos e f cpos):PE X (.Call (.Attribute o "get" apos) [e,f] [] cpos) (qB X.prog X.w X.K td ty tx):=by
 intro pins s σ H Q I h;refine wpAny_Call_method m.base m.few m.line PySem.F.plainAttrs_dict PySem.F.slot_dict_get PySem.F.type_dict_get (thn (ho pins s σ H _ I h) fun u s1 ⟨x,H1,j,p,a,kvs,ex,d,q1⟩=>?_);subst ex;obtain rfl:u=Value.ref a:=p
 have g:s1.TypeIs (.ref a) "dict"/\∀b,Value.ref a= .ref b->∃ob,s1.heap.get? b=some ob/\ob.dict=none:=by
  refine hZq fun q_ e_=>?_;obtain⟨_,_,xs,_,dd⟩:=ig j.hok j.kIn d;subst e_;refine⟨dd.typeIs,fun b q=>?_⟩;cases q;refine hZq fun q_ e_=>?_;obtain⟨ob,_,_,h1,h2,_⟩:=dd;subst e_;exact⟨ob,h1,h2.2.1⟩
 refine⟨g.1,g.2,?_⟩;rw[m.trees]
 refine Calls.callWith_builtin rfl (Calls.evalArgs_plain (Calls.spliced_cons (thn (he pins s1 σ H1 _ j q1) fun iv s2 ⟨y,H2,r,l,v⟩=>
  Calls.spliced_cons (thn (hf pins s2 σ H2 _ r v) fun n s3 ⟨z,H3,c,t,b,k,ey,d3,kb,q3⟩=>Calls.spliced_nil ?_))))
 subst ey;obtain rfl:iv=Value.ref b:=l;refine hZq fun q_ e_=>?_;obtain⟨_,hd,xs,i,dd⟩:=ig c.hok c.kIn d3;subst e_;exact call_meetsIn PySem.F.slot_dict_get dd.typeIs PySem.F.entry_dict_get (PySem.F.args_dict_get_3 _ _ _) (meetsH_dict_get_default (Tk.treeKind X.prog X.w) a b hd n) ⟨by show X.A.units+1+20 < cLine;omega,k,xs,kb.is c.hok c.kIn,dd,⟨_,H3,c.tok _,(i.val k).getD t,q3⟩⟩
variable{P:Program}{w:World}{K:PySem.W.Frag}
theorem vc(hP:X.prog=P)(hw:X.w=w):PE X (.Dict [] [] pos) (qA P w):=by
 subst hP hw;exact sw
theorem uX(hP:X.prog=P)(hw:X.w=w)(hK:X.K=K)(hu:X.A.units+30 < cLine)(ho:PE X o td)(hi:PE X i ty)(hv:PE X value tv)(hs:swapsWith value (some (.Subscript o i pos')) pos.line X.env=pure false):
 PS X (.Assign [.Subscript o i pos'] value pos) (rG P w K td ty tv):=by
 subst hP hw hK;exact sf hu ho hi hv hs
theorem pe_getJ(hP:X.prog=P)(hw:X.w=w)(hK:X.K=K)(hu:X.A.units+30 < cLine)(ho:PE X o td)(he:PE X e ty)(hf:PE X f tx)(m:M2 X o "get" apos e f cpos):PE X (.Call (.Attribute o "get" apos) [e,f] [] cpos) (qB P w K td ty tx):=by
 subst hP hw hK;exact sy hu ho he hf m
end
end Dj
namespace Tre
open PySem L2
theorem gG{x y:Str}(h:x.cps.toList=y.cps.toList):x=y:=by
 cases x;cases y;simp only[Str.mk.injEq];exact Array.toList_inj.mp h
theorem eZ{ts us:List Tr}(h:∀t∈ts,∀u∈us,code t=code u->t=u)(e:codes ts=codes us):ts=us:=by
 induction ts generalizing us with
 |nil=>cases us with
  |nil=>rfl
  |cons u us=>simp[codes]at e
 |cons t ts c=>
  cases us with
  |nil=>simp[codes]at e
  |cons u us=>
   simp only[codes,AQ]at e;rw[h t zq u zq e.1,c (fun a ma b mb=>h a (zp _ ma) b (zp _ mb)) e.2]
theorem nl{x y:String}(h:(Str.ofString x).cps.toList≠(Str.ofString y).cps.toList){r s:List Co}:Co.tup (.str (Str.ofString x).cps.toList::r)=Co.tup (.str (Str.ofString y).cps.toList::s)->False:=fun e=>by
 simp only[Co.tup.injEq,AQ,Co.str.injEq]at e;exact h e.1
theorem yq:∀(n:Nat) {k:So} {t u:Tr},t.depth<=n->Ty k t->Ty k u->code t=code u->t=u:=by
 intro n
 induction n with
 |zero=>
  intro k t u hd h1 h2;cases h1<;>simp[Tr.depth]at hd
 |succ n g=>
  intro k t u hd h1 h2 e
  have sub:∀ {ts:List Tr} {t:Tr},(Tr.tup ts).depth<=n+1->t∈ts->t.depth<=n:=fun h m=>by
   unfold Tr.depth at h;have:=bA m;omega
  have c:∀ {ts l:List Tr} {t:Tr},(Tr.tup ts).depth<=n+1->Tr.tup l∈ts->t∈l->t.depth<=n:=fun h m i=>by
   have h3:=sub h m;unfold Tr.depth at h3;have:=bA i;omega
  cases h1<;>cases h2<;>simp only[code,codes]at e
  all_goals first
   |exact(nl (by decide +kernel) e).elim
   |skip
  all_goals simp only[Co.tup.injEq,AQ,Co.str.injEq,Co.num.injEq,and_true,true_and]at e
  . rw[gG e]
  . rename_i x ts _ h1 y us _ h2;rw[gG e.1,eZ (fun a ma b mb=>g (c hd (by simp) ma) (h1 a ma) (h2 b mb)) e.2]
  . rw[e.1,e.2]
  . rename_i s q d b1 t2 r f b2;rw[g (sub hd (by simp)) d f e.1,g (sub hd (by simp)) b1 b2 e.2]
  . rw[gG e]
  . rename_i v q d b1 p2 r f b2;rw[eZ (fun a ma b mb=>g (c hd (by simp) ma) (d a ma) (f b mb)) e.1,g (sub hd (by simp)) b1 b2 e.2]
  . rename_i s w d b1 t2 z f b2;rw[g (sub hd (by simp)) d f e.1,g (sub hd (by simp)) b1 b2 e.2]
  . rename_i p d j f;rw[g (sub hd (by simp)) d f e]
  . rename_i l1 d l2 f;rw[eZ (fun a ma b mb=>g (c hd (by simp) ma) (d a ma) (f b mb)) e]
  . rename_i l1 d l2 f;rw[eZ (fun a ma b mb=>g (c hd (by simp) ma) (d a ma) (f b mb)) e]
  . rename_i p b1 d j b2 f
    have o:b1=b2:=by
     have:=e.2;cases b1<;>cases b2<;>simp at this ⊢
    rw[g (sub hd (by simp)) d f e.1,o]
end Tre
namespace Wd
open PySem L2 Tre Mth Dj
def Lt2(e:Nat)(x:Int):Prop:=x.natAbs < 2^e
theorem Lt2.mono{m n:Nat}{x:Int}(h:Lt2 m x)(hn:m<=n):Lt2 n x:=A5 h (Aw (by decide) hn)
theorem Lt2.big{n:Nat}{x:Int}(h:Lt2 n x)(hn:n<=8000):Big x:=h.mono hn
theorem Lt2.div{e:Nat}{x y:Int}(h:Lt2 e x):Lt2 e (x / y):=zZ (cz x y) h
theorem Lt2.mul{m n:Nat}{x y:Int}(h1:Lt2 m x)(h2:Lt2 n y):Lt2 (m+n) (x*y):=by
 unfold Lt2 at*;rw[Ac,Nat.pow_add];exact Nat.mul_lt_mul'' h1 h2
theorem Lt2.add{m:Nat}{x y:Int}(h1:Lt2 m x)(h2:Lt2 m y):Lt2 (m+1) (x+y):=by
 unfold Lt2 at*;have:=Int.natAbs_add_le x y;rw[Nat.pow_succ];omega
abbrev Fr:=Int×Int
def frT(p:Fr):Tr:= .tup [.int p.1, .int p.2]
structure Gf (e:Nat) (p:Fr):Prop where
 pos:0 < p.2
 top:Lt2 e p.1
 bot:Lt2 e p.2
theorem Gf.mono{m n:Nat}{p:Fr}(h:Gf m p)(hn:m<=n):Gf n p:=⟨h.pos,h.top.mono hn,h.bot.mono hn⟩
def zero:Fr:=(0,1)
noncomputable def fc(p q:Fr):Fr:=(tX p.1 p.2 q.1 q.2,tY p.1 p.2 q.1 q.2)
end Wd
namespace Su
open PySem L2 Tre Mth Wd
def rv(p:Fr):Rat:=(p.1:Rat) / (p.2:Rat)
abbrev Sh(p:Fr):Prop:=lH p.1 p.2
theorem ne0{b:Int}(h:0 < b):(b:Rat)≠0:=by
 simp only[ne_eq,Rat.intCast_eq_zero_iff];omega
theorem wa{p q:Fr}(h1:0 < p.2)(h2:0 < q.2):rv p=rv q↔p.1*q.2=q.1*p.2:=by
 have a:=ne0 h1;have b:=ne0 h2;unfold rv;constructor
 . intro h;have:(p.1:Rat)*q.2=q.1*p.2:=by grind
   exact_mod_cast this
 . intro h;have:(p.1:Rat)*q.2=q.1*p.2:=by exact_mod_cast h
   grind
theorem wJ{p q:Fr}(h1:Sh p)(h2:Sh q)(e:rv p=rv q):p=q:=by
 rw[wa h1.1 h2.1]at e;obtain⟨a,b⟩:=p;obtain⟨c,d⟩:=q;obtain⟨b0,i⟩:=h1;obtain⟨l,g2⟩:=h2;dsimp only at*;have n1:a.natAbs*d.natAbs=c.natAbs*b.natAbs:=by rw[<-Ac,<-Ac,e]
 have f:Nat.Coprime b.natAbs a.natAbs:=by rw[Nat.coprime_comm];exact i
 have g:Nat.Coprime d.natAbs c.natAbs:=by rw[Nat.coprime_comm];exact g2
 have d1:b.natAbs∣d.natAbs:=f.dvd_of_dvd_mul_left ⟨c.natAbs,by rw[n1,Nat.mul_comm]⟩
 have j:d.natAbs∣b.natAbs:=g.dvd_of_dvd_mul_left ⟨a.natAbs,by rw[<-n1,Nat.mul_comm]⟩
 have e1:=Nat.dvd_antisymm d1 j;have h:b=d:=by omega
 subst h;have k:a=c:=Int.eq_of_mul_eq_mul_right (by omega) e
 rw[k]
theorem gN{p q:Fr}(h1:Sh p)(h2:Sh q):rv (fc p q)=rv p*rv q:=by
 obtain⟨s,e⟩:=qg h1 h2;have a:=ne0 h1.1;have b:=ne0 h2.1;have c:=ne0 s.1;have e':((tX p.1 p.2 q.1 q.2:Int):Rat)*(p.2*q.2)=p.1*q.1*(tY p.1 p.2 q.1 q.2:Int):=by exact_mod_cast e
 unfold rv fc;dsimp only;grind
theorem uO:Sh zero:=⟨by decide,by decide⟩
theorem rv_zero:rv zero=0:=by
 show((0:Int):Rat) / ((1:Int):Rat)=0;have:((0:Int):Rat)=0:=by simp
 rw[this];grind
theorem rJ{p:Fr}(h:Sh p):rv p=0↔p=zero:=by
 constructor
 . intro e;exact wJ h uO (e.trans rv_zero.symm)
 . rintro rfl;exact rv_zero
noncomputable def low(t b:Int):Fr:=(t / (Int.gcd t b:Int),b / (Int.gcd t b:Int))
theorem gL{t b:Int}(h:0 < b):Sh (low t b):=by
 obtain⟨g,f,ex,i,a,c,e⟩:=cR (x:=t) (y:=b) (by omega)
 unfold low;rw[c,e];have d:0 < f:=dh (k:=(Int.gcd t b:Int)) (by omega) (by omega)
 exact⟨d,a⟩
theorem jC{t b:Int}(h:0 < b):rv (low t b)=(t:Rat) / (b:Rat):=by
 have s:=gL (t:=t) h;obtain⟨a,c,ex,i,j,d,f⟩:=cR (x:=t) (y:=b) (by omega)
 have k:0 < Int.gcd t b:=Ad t (by omega)
 unfold low at s ⊢;rw[d,f]at s ⊢
 have e:a*b=t*c:=by
  generalize ((Int.gcd t b:Nat):Int)=g at*;rw[ex,i];simp only[Int.mul_assoc,Int.mul_left_comm,AV]
 exact(wa (p:=(a,c)) (q:=(t,b)) s.1 h).mpr e
theorem tP{e:Nat}{t b:Int}(h:0 < b)(h1:Lt2 e t)(h2:Lt2 e b):Gf e (low t b):=⟨(gL h).1,h1.div,h2.div⟩
abbrev Pq:=Tr×Fr
def prT(p:Pq):Tr:= .tup [p.1,frT p.2]
open Classical in
noncomputable def tot(t:Tr):List Pq->Rat
 | []=>0
 |p::r=>(if p.1=t then rv p.2 else 0)+tot t r
theorem df(t:Tr)(a b:List Pq):tot t (a++b)=tot t a+tot t b:=by
 induction a with
 |nil=>simp only[List.nil_append,tot];grind
 |cons p r c=>simp only[Ak,tot,c];grind
open Classical in
theorem uE(t:Tr)(p:Pq):tot t [p]=if p.1=t then rv p.2 else 0:=by
 simp only[tot];grind
theorem pV{t:Tr}{a b:List Pq}(h:a.Perm b):tot t a=tot t b:=by
 induction h with
 |nil=>rfl
 |cons x _ c=>simp only[tot,c]
 |swap x y l=>simp only[tot];grind
 |trans _ _ h1 h2=>rw[h1,h2]
theorem dB{t:Tr}:∀ {l:List Pq},(∀p∈l,p.1≠t)->tot t l=0
 | [],_=>rfl
 |p::r,h=>by
  simp only[tot];rw[if_neg (h p zq),dB fun q m=>h q (zp _ m)];grind
abbrev Asc(us:List Pq):Prop:=us.Pairwise fun a b=>ltT a.1 b.1=true
theorem xH(t:Tr):ltT t t=false:=by
 cases e:ltT t t with
 |false=>rfl
 |true=>exact(eW e).symm.trans e |>.symm
theorem iS{t u:Tr}(h:ltT t u=true):t≠u:=fun z=>by
 rw[z,xH]at h;cases h
theorem k6{us:List Pq}(h:Asc us){p:Pq}(m:p∈us):tot p.1 us=rv p.2:=by
 induction us with
 |nil=>cases m
 |cons q r b=>
  obtain⟨h1,h2⟩:=List.pairwise_cons.mp h;simp only[tot];rcases zJ.mp m with e|m
  . subst e;rw[if_pos rfl,dB fun x a=>(iS (h1 x a)).symm];grind
  . rw[if_neg (iS (h1 p m)),b h2 m];grind
structure Can (ps us:List Pq):Prop where
 asc:Asc us
 sh:∀p∈us,Sh p.2/\p.2≠zero
 eq:∀t,tot t us=tot t ps
theorem vt{p q:Pq}(h:ltT p.1 q.1=true):ltT (prT p) (prT q)=true:=by
 rw[ltT_iff]at h ⊢;show LtC (.tup (code p.1::_)) (.tup (code q.1::_));simp only[LtC,LtCs];exact .inl h
theorem nY{p q:Pq}(h:ltT (prT q) (prT p)=false):ltT q.1 p.1=false:=by
 cases e:ltT q.1 p.1 with
 |false=>rfl
 |true=>rw[vt e]at h;cases h
theorem we{t u:Tr}(h1:ltT u t=false)(h2:eqT t u=false):ltT t u=true:=by
 cases e:ltT t u with
 |true=>rfl
 |false=>rw[xI e h1]at h2;cases h2
theorem vW{t u:Tr}(h1:Ty .tm t)(h2:Ty .tm u)(h:eqT t u=true):t=u:=yq t.depth (zu _) h1 h2 ((dP t u).mp h)
end Su
namespace L2
open PySem PySem.Spec PyProof.Rows
def k7(J:It)(D:Addr)(tc:TT)(te:TE)(rest:L2.St)(Q:VK)(H1:Hp):Prop:=
 ∃W:Nat->Nat->List V->Hp->Prop,(∃m,W 0 m [] (upd H1 D (.lst [])))/\∀i m acc H2,W i m acc H2->
  (J.stop i H2/\Q (.ref D) H2)\/
  (J.go i H2/\∀x H3,J.yld i H2 x H3->aH 0 x (none::rest) H3 fun σ4 H4=>Ext (none::rest) σ4/\tc σ4 H4 fun b H5=>if b=true then te σ4 H5 fun v H6=>H6 D=some (.lst acc)/\acc.length < sizeLine/\∃m',m' < m/\W (i+1) m' (acc++ [v]) (upd H6 D (.lst (acc++ [v])))
   else∃m',m' < m/\W (i+1) m' acc H5)
theorem bV{mp:List (Option Nat)}{wi:TI}{tc:TT}{te:TE}{σ rest:L2.St}{H:Hp}{Q:VK}(e:subS mp σ=none::rest)(h:wi σ H fun J H1=>∀D,H1 D=none->k7 J D tc te rest Q H1):bQ mp wi (aH 0) tc te σ H Q:=by
 unfold bQ;rw[e];exact h
def CompS(n i:Nat)(acc:List V)(Pv:Nat->List V->Hp->Prop):Hp->Prop:=fun H5=>∃m',m' < n - i/\(m'=n - (i+1)/\i+1<=n/\Pv (i+1) acc H5)
theorem CompS.mk{n i:Nat}{acc:List V}{Pv:Nat->List V->Hp->Prop}{H5:Hp}(hi:i < n)(h:Pv (i+1) acc H5):CompS n i acc Pv H5:=⟨n - (i+1),by omega,rfl,hi,h⟩
theorem cF{K:PySem.W.Frag}{a D:Addr}{xs:List V}{tc:TT}{te:TE}{rest:L2.St}{Q:VK}{H1:Hp}(Pv:Nat->List V->Hp->Prop)(h0:Pv 0 [] (upd H1 D (.lst [])))(hl:∀i acc H,Pv i acc H->SqL K H a xs)(hs:∀i x acc H,i < xs.length->xs[i]?=some x->Pv i acc H->tc (some x::rest) H fun b H5=>if b=true then te (some x::rest) H5 (CompN xs.length i D acc Pv)else CompS xs.length i acc Pv H5)(hd:∀acc H,Pv xs.length acc H->Q (.ref D) H):k7 (Itl K a) D tc te rest Q H1:=by
 refine⟨fun i m acc H=>m=xs.length - i/\i<=xs.length/\Pv i acc H,⟨xs.length,by simp,zY _,h0⟩,?_⟩
 rintro i m acc H ⟨rfl,hi,p⟩;by_cases c:i < xs.length
 . refine .inr ⟨⟨xs,xs[i],hl i acc H p,by simp[c]⟩,fun x H' y=>⟨ext1,?_⟩⟩
   obtain⟨e,y⟩:=y;subst e;exact hs i x acc _ c (y xs (hl i acc _ p)) p
 . have e:i=xs.length:=by omega
   subst e;exact .inl ⟨⟨xs,hl _ acc H p,zu _⟩,hd acc H p⟩
end L2
namespace Zp
open PySem
inductive Src where
 |lst|tup
def Src.It(k:Src)(h:Heap)(it l:Addr)(i:Nat):Prop:=match k with
 | .lst=>h.IsListIter it l i
 | .tup=>h.IsTupleIter it l i
def Src.Sq(k:Src)(h:Heap)(l:Addr)(xs:Array Value):Prop:=match k with
 | .lst=>h.IsList l xs
 | .tup=>h.IsTuple l xs
theorem dM{k:Src}{h h':Heap}{a l:Addr}{i:Nat}(x:k.It h a l i)(e:∀o,h.get? a=some o->h'.get? a=some o):k.It h' a l i:=by
 cases k
 . exact Heap.IsListIter.at x e
 . exact Heap.IsTupleIter.at x e
theorem qK{k:Src}{h h':Heap}{l:Addr}{xs:Array Value}(x:k.Sq h l xs)(e:∀o,h.get? l=some o->h'.get? l=some o):k.Sq h' l xs:=by
 cases k
 . exact Heap.IsList.at x e
 . exact Heap.IsTuple.at x e
theorem jO{k:Src}{h:Heap}{a l:Addr}{i:Nat}(x:k.It h a l i):∃o,h.get? a=some o/\∀v,o.data≠ .cell v:=by
 cases k
 all_goals
  obtain⟨o,e,_,d⟩:=x;exact⟨o,e,fun v z=>by rw[d]at z;cases z⟩
section
variable{prog:Program}{w:World}{A:Around}{E:Value->Shared->Prop}{s:Shared}{k:Src}{it l:Addr}{i:Nat}{xs:Array Value}{x:Value}{Q:Value->Shared->Prop}
theorem nV(st:k.It s.heap it l i)(sq:k.Sq s.heap l xs)(hx:xs[i]?=some x)(q:∀h',k.It h' it l (i+1)->Heap.SameBut it s.heap h'->Q x {s with heap:=h'}):
 wpAny (model prog w) A (Builtin.SmallTypes.nextOf (.ref it)) Q E s:=by
 cases k
 . exact wpAny_nextOf_list_item st sq hx q
 . obtain⟨o,e1,b,a⟩:=id st;obtain⟨p,d,_,n,c⟩:=sq;have ty:=Heap.IsTupleIter.typeIs st;rw[Builtin.SmallTypes.nextOf];refine wpAny_bind (wpAny_callSpecial?_slot (name:=Str.ofString "__next__") ty F.slot_tuple_iterator_next (wpAny_call_entry F.slot_tuple_iterator_next ty F.entry_tuple_iterator_next ?_ (F.args_tuple_iterator_next_1 _)));show wpAny _ _ (do let y<-field (.ref it) 0;_) _ _ s
   refine wpAny_bind (wpAny_field e1 a (x:= .ref l) rfl ?_);show wpAny _ _ (if (Value.ref l==Value.none)=true then _ else _) _ _ _;refine(if_neg (show¬((Value.ref l==Value.none)=true)from zX))▸ ?_;show wpAny _ _ (do let y<-field (.ref it) 1;_) _ _ s
   refine wpAny_bind (wpAny_field e1 a (x:= .int i 0) rfl ?_);show wpAny _ _ (do let y<-seqItems? (.ref l);_) _ _ s
   refine wpAny_bind (wpAny_seqItems d c ?_);simp only[hx,AA];refine wpAny_bind (wpAny_setField e1 a (by simp) (wpAny_pure ⟨x,rfl,wpAny_pure (q _ ?_ (Heap.SameBut.update ..))⟩))
   refine⟨_,Heap.get?_update_self _ e1 (Obj.isFreed_of_fields (Obj.data_mapFields a _)),(Obj.cls_mapFields ..).trans b,?_⟩;rw[Obj.data_mapFields a];simp[rawInt]
theorem xE(hh:A.handled=none)(st:k.It s.heap it l i)(sq:k.Sq s.heap l xs)(hx:xs[i]?=none)(q:∀h' e,Heap.ExtBut it s.heap h'->(∃o,h'.get? e=some o/\o.cls= .type "StopIteration")->E (.ref e) {s with heap:=h'}):
 wpAny (model prog w) A (Builtin.SmallTypes.nextOf (.ref it)) Q E s:=by
 cases k
 . exact wpAny_nextOf_list_end hh st sq hx q
 . refine hZq fun q_ e_=>?_;obtain⟨o,e1,f,b⟩:=id st;obtain⟨p,d,_,n,c⟩:=sq;subst e_;have ty:=Heap.IsTupleIter.typeIs st;rw[Builtin.SmallTypes.nextOf];refine wpAny_bind (wpAny_callSpecial?_slot (name:=Str.ofString "__next__") ty F.slot_tuple_iterator_next (wpAny_call_entry F.slot_tuple_iterator_next ty F.entry_tuple_iterator_next ?_ (F.args_tuple_iterator_next_1 _)));show wpAny _ _ (do let y<-field (.ref it) 0;_) _ _ s
   refine wpAny_bind (wpAny_field e1 b (x:= .ref l) rfl ?_);show wpAny _ _ (if (Value.ref l==Value.none)=true then _ else _) _ _ _;refine(if_neg (show¬((Value.ref l==Value.none)=true)from zX))▸ ?_;show wpAny _ _ (do let y<-field (.ref it) 1;_) _ _ s
   refine wpAny_bind (wpAny_field e1 b (x:= .int i 0) rfl ?_);show wpAny _ _ (do let y<-seqItems? (.ref l);_) _ _ s
   refine wpAny_bind (wpAny_seqItems d c ?_);simp only[hx,AA];refine wpAny_bind (wpAny_rule (wpAny_bind (wpAny_setField e1 b (by simp) ?_)))
   show wpAny _ _ (do let y<-newExc (.type "StopIteration") [];_) _ _ _
   refine wpAny_bind ?_;simp only[newTuple,newExc];refine wpAny_bind (wpAny_newObj_type (wpAny_bind (m:=firstArgMember _ _) (wpAny_of_eq (a:=Value.none) (by first|rfl|(simp only[firstArgMember];rfl)) (wpAny_newObj_type ?_ (by size_fits)))) (by size_fits))
   simp only[raiseNew];refine wpAny_bind (wpAny_handled ?_)
   first|rw[show A.in1.handled=none from hh]|rw[hh]
   exact wpAny_bind (wpAny_pure (wpAny_throw (q _ _ (((Heap.SameBut.update ..).extBut.push _).push _) ⟨_,Heap.get?_push_size _ rfl,rfl⟩)))
end
open PySem
section
variable{prog:Program}{w:World}{A:Around}{E:Value->Shared->Prop}{s:Shared}{k:Src}{z TI TO i1 i2 l1 l2:Addr}{j:Nat}{xs ys:Array Value}{x y a b:Value}
theorem uy{Q:Value->Shared->Prop}(D:ZipApart z TI TO i1 i2 l1 l2)(hz:IsZip s.heap z TI TO .none)(hI:IsPair s.heap TI (.ref i1) (.ref i2))(hO:IsPair s.heap TO a b)(t1:k.It s.heap i1 l1 j)(t2:k.It s.heap i2 l2 j)(q1:k.Sq s.heap l1 xs)(q2:k.Sq s.heap l2 ys)(ex:xs[j]?=some x)(ey:ys[j]?=some y)(q:∀h',IsZip h' z TI TO (rawInt s.heap.objs.size)->IsPair h' TO x y->k.It h' i1 l1 (j+1)->k.It h' i2 l2 (j+1)->IsPair h' s.heap.objs.size x y->h'.objs.size=s.heap.objs.size+1->
  (∀c o,c≠z->c≠TO->c≠i1->c≠i2->s.heap.get? c=some o->h'.get? c=some o)->Q (.ref s.heap.objs.size) {s with heap:=h'}):
 wpAny (model prog w) A (Builtin.«zip.__next__» ⟨[.ref z],[]⟩) (fun r s'=>∃v,r= .done (.ret v)/\Q v s') E s:=by
 show wpAny _ _ (do let u<-field (.ref z) 2;_) _ _ _
 refine wpAny_bind (wpAny_field hz rfl (x:= .bool false) rfl ?_);show wpAny _ _ (do let u<-field (.ref z) 3;_) _ _ _
 refine wpAny_bind (wpAny_field hz rfl (x:= .ref TI) rfl (wpAny_bind (wpAny_seqItems hI rfl ?_)));show wpAny _ _ (do let u<-Builtin.SmallTypes.ownedTupleIsFree (.ref z);_) _ _ _
 refine wpAny_bind ?_;rw[Builtin.SmallTypes.ownedTupleIsFree];refine wpAny_bind (wpAny_field hz rfl (x:= .none) rfl (wpAny_pure ?_));simp only[if_true];refine wpAny_bind (wpAny_rule (wpAny_bind (wpAny_field hz rfl (x:= .ref TO) rfl (wpAny_bind (wpAny_setField_rec hz (by simp) fun g1 y1 s1=>?_)))))
 have y1:IsZip g1 z TI TO .ellipsis:=y1;refine wpAny_bind ?_;simp only[List.forIn_cons,List.forIn_nil,List.zipIdx_nil,List.zipIdx_cons];refine wpAny_bind (wpAny_bind (wpAny_onRaise ?_));show wpAny _ _ (do let u<-Builtin.SmallTypes.nextOf (.ref i1);_) _ _ _
 refine wpAny_bind (nV (s:= {s with heap:=g1}) (dM t1 fun o e=>s1.extBut _ o D.i1z e) (qK q1 fun o e=>s1.extBut _ o D.l1z e) ex fun g2 u1 f=>wpAny_pure ?_);have o2:IsPair g2 TO a b:=f.extBut _ _ D.TOi1 (s1.extBut _ _ D.TOz hO);refine wpAny_bind (wpAny_seqItems o2 rfl (wpAny_bind (wpAny_updateSeq_pair (s:= {s with heap:=g2}) o2 fun g3 o3 g=>?_)));have o3:IsPair g3 TO x b:=o3;refine wpAny_bind (wpAny_letGo (wpAny_pure (wpAny_bind (wpAny_bind (wpAny_onRaise ?_)))));show wpAny _ _ (do let u<-Builtin.SmallTypes.nextOf (.ref i2);_) _ _ _
 refine wpAny_bind (nV (s:= {s with heap:=g3}) (dM t2 fun o e=>g.extBut _ o D.TOi2.symm (f.extBut _ o D.i12.symm (s1.extBut _ o D.i2z e))) (qK q2 fun o e=>g.extBut _ o D.l2TO (f.extBut _ o D.l2i1 (s1.extBut _ o D.l2z e))) ey fun g4 u2 i=>wpAny_pure ?_);have o4:IsPair g4 TO x b:=i.extBut _ _ D.TOi2 o3;refine wpAny_bind (wpAny_seqItems o4 rfl (wpAny_bind (wpAny_updateSeq_pair (s:= {s with heap:=g4}) o4 fun d p l=>?_)));have p:IsPair d TO x y:=p;refine wpAny_bind (wpAny_letGo (wpAny_pure (wpAny_pure (wpAny_bind (wpAny_seqItems p rfl (wpAny_bind (wpAny_newTuple ?_)))))));have sz:d.objs.size=s.heap.objs.size:=by rw[l.1,i.1,g.1,f.1,s1.1]
 have all:∀c o,c≠z->c≠TO->c≠i1->c≠i2->s.heap.get? c=some o->d.get? c=some o:=fun c o c1 m c3 c4 e=>l.extBut _ _ m (i.extBut _ _ c4 (g.extBut _ _ m (f.extBut _ _ c3 (s1.extBut _ _ c1 e))));have y5:IsZip d z TI TO .ellipsis:=l.extBut _ _ D.TOz.symm (i.extBut _ _ D.i2z.symm (g.extBut _ _ D.TOz.symm (f.extBut _ _ D.i1z.symm y1)));have v1:k.It d i1 l1 (j+1):=dM u1 fun o e=>l.extBut _ o D.TOi1.symm (i.extBut _ o D.i12 (g.extBut _ o D.TOi1.symm e));have v2:k.It d i2 l2 (j+1):=dM u2 fun o e=>l.extBut _ o D.TOi2.symm e;have lz:z < d.objs.size:=Heap.lt_size y5;show wpAny _ _ (do let u<-Builtin.SmallTypes.ownedTupleHandOut (.ref z) (.ref d.objs.size);_) _ _ _
 refine wpAny_bind ?_;rw[Builtin.SmallTypes.ownedTupleHandOut];have y6:IsZip (d.push {cls:= .type "tuple",data:= .seq #[x,y]}) z TI TO .ellipsis:=Heap.get?_push_of_some _ y5;refine wpAny_bind (wpAny_setField_rec y6 (by simp) fun g7 y7 s7=>?_)
 have y7:IsZip g7 z TI TO (rawInt d.objs.size):=y7;refine wpAny_setField_rec y7 (by simp) fun h t s8=>?_
 have t:IsZip h z TI TO (rawInt d.objs.size):=t;have up:∀c o,c≠z->d.get? c=some o->h.get? c=some o:=fun c o n e=>s8.extBut _ _ n (s7.extBut _ _ n (Heap.get?_push_of_some _ e));have p8:IsPair h d.objs.size x y:=s8.extBut _ _ (Nat.ne_of_gt lz) (s7.extBut _ _ (Nat.ne_of_gt lz) (Heap.get?_push_size _ rfl));have z8:h.objs.size=d.objs.size+1:=by rw[s8.1,s7.1,Heap.size_push]
 rw[sz]at t p8 z8;refine wpAny_pure ⟨_,rfl,?_⟩;show Q (.ref d.objs.size) _;rw[sz];exact q h t (up _ _ D.TOz p) (dM v1 fun o e=>up _ o D.i1z e) (dM v2 fun o e=>up _ o D.i2z e) p8 z8 fun c o c1 m c3 c4 e=>up c o c1 (all c o c1 m c3 c4 e)
theorem wp{Q:Fin->Shared->Prop}(hh:A.handled=none)(D:ZipApart z TI TO i1 i2 l1 l2)(hz:IsZip s.heap z TI TO .none)(hI:IsPair s.heap TI (.ref i1) (.ref i2))(hO:IsPair s.heap TO a b)(t1:k.It s.heap i1 l1 j)(t2:k.It s.heap i2 l2 j)(q1:k.Sq s.heap l1 xs)(q2:k.Sq s.heap l2 ys)(ends:xs[j]?=none)(q:∀h' e,(∀c o,c≠z->c≠TO->c≠i1->c≠i2->s.heap.get? c=some o->h'.get? c=some o)->(∃o,h'.get? e=some o/\o.cls= .type "StopIteration")->E (.ref e) {s with heap:=h'}):
 wpAny (model prog w) A (Builtin.«zip.__next__» ⟨[.ref z],[]⟩) Q E s:=by
 show wpAny _ _ (do let u<-field (.ref z) 2;_) _ _ _
 refine wpAny_bind (wpAny_field hz rfl (x:= .bool false) rfl ?_);show wpAny _ _ (do let u<-field (.ref z) 3;_) _ _ _
 refine wpAny_bind (wpAny_field hz rfl (x:= .ref TI) rfl (wpAny_bind (wpAny_seqItems hI rfl ?_)));show wpAny _ _ (do let u<-Builtin.SmallTypes.ownedTupleIsFree (.ref z);_) _ _ _
 refine wpAny_bind ?_;rw[Builtin.SmallTypes.ownedTupleIsFree];refine wpAny_bind (wpAny_field hz rfl (x:= .none) rfl (wpAny_pure ?_));simp only[if_true];refine wpAny_bind (wpAny_rule (wpAny_bind (wpAny_field hz rfl (x:= .ref TO) rfl (wpAny_bind (wpAny_setField_rec hz (by simp) fun f y1 s1=>?_)))))
 have y1:IsZip f z TI TO .ellipsis:=y1;refine wpAny_bind ?_;simp only[List.forIn_cons,List.forIn_nil,List.zipIdx_nil,List.zipIdx_cons];refine wpAny_bind (wpAny_bind (wpAny_onRaise ?_));show wpAny _ _ (do let u<-Builtin.SmallTypes.nextOf (.ref i1);_) _ _ _
 refine wpAny_bind (xE (s:= {s with heap:=f}) hh (dM t1 fun o e=>s1.extBut _ o D.i1z e) (qK q1 fun o e=>s1.extBut _ o D.l1z e) ends fun g2 e g he=>?_);obtain⟨l,e1,d⟩:=he;have i:IsZip g2 z TI TO .ellipsis:=g _ _ D.i1z.symm y1;have ne:e≠z:=fun n=>by subst n;rw[i]at e1;cases e1;simp at d
 exact wpAny_setField_rec i (by simp) fun m _ h=>q m e (fun c o c1 _ p _ n=>h.extBut _ _ c1 (g _ _ p (s1.extBut _ _ c1 n))) ⟨l,h.extBut _ _ ne e1,d⟩
theorem uz{Q:Option Value->Shared->Prop}(D:ZipApart z TI TO i1 i2 l1 l2)(hz:IsZip s.heap z TI TO .none)(hI:IsPair s.heap TI (.ref i1) (.ref i2))(hO:IsPair s.heap TO a b)(t1:k.It s.heap i1 l1 j)(t2:k.It s.heap i2 l2 j)(q1:k.Sq s.heap l1 xs)(q2:k.Sq s.heap l2 ys)(ex:xs[j]?=some x)(ey:ys[j]?=some y)(q:∀h',IsZip h' z TI TO (rawInt s.heap.objs.size)->IsPair h' TO x y->k.It h' i1 l1 (j+1)->k.It h' i2 l2 (j+1)->IsPair h' s.heap.objs.size x y->h'.objs.size=s.heap.objs.size+1->
  (∀c o,c≠z->c≠TO->c≠i1->c≠i2->s.heap.get? c=some o->h'.get? c=some o)->Q (some (.ref s.heap.objs.size)) {s with heap:=h'}):
 wpAny (model prog w) A (pyNext (.ref z)) Q E s:=by
 have ty:s.TypeIs (.ref z) "zip":=⟨_,hz,rfl⟩;rw[pyNext]
 exact wpAny_bind (wpAny_attempt (wpAny_callSpecial?_slot (name:=Str.ofString "__next__") ty F.slot_zip_next (wpAny_call_entry F.slot_zip_next ty F.entry_zip_next
  (uy D hz hI hO t1 t2 q1 q2 ex ey fun h' e g l f h i d=>wpAny_pure (q h' e g l f h i d)) (F.args_zip_next_1 _))))
theorem wq{Q:Option Value->Shared->Prop}(hh:A.handled=none)(D:ZipApart z TI TO i1 i2 l1 l2)(hz:IsZip s.heap z TI TO .none)(hI:IsPair s.heap TI (.ref i1) (.ref i2))(hO:IsPair s.heap TO a b)(t1:k.It s.heap i1 l1 j)(t2:k.It s.heap i2 l2 j)(q1:k.Sq s.heap l1 xs)(q2:k.Sq s.heap l2 ys)(ends:xs[j]?=none)(q:∀h',(∀c o,c≠z->c≠TO->c≠i1->c≠i2->s.heap.get? c=some o->h'.get? c=some o)->Q none {s with heap:=h'}):wpAny (model prog w) A (pyNext (.ref z)) Q E s:=by
 have ty:s.TypeIs (.ref z) "zip":=⟨_,hz,rfl⟩;rw[pyNext];refine wpAny_bind (wpAny_attempt (wpAny_callSpecial?_slot (name:=Str.ofString "__next__") ty F.slot_zip_next (wpAny_call_entry F.slot_zip_next ty F.entry_zip_next (wp hh D hz hI hO t1 t2 q1 q2 ends fun h' e up he=>?_) (F.args_zip_next_1 _))));obtain⟨o,e1,d⟩:=he;exact wpAny_bind (wpAny_isInstance (T:="StopIteration") (b:=true) ⟨o,e1,d⟩ isSubtype_stop (wpAny_pure (q _ up)))
end
open PySem
abbrev zA(h:Heap)(l:Addr):Heap:=h.push {cls:= .type "tuple_iterator",data:= .fields #[.ref l, .int 0 0]}
abbrev zB(h:Heap)(l m:Addr):Heap:=zA (zA h l) m
abbrev zC(h:Heap)(l m:Addr):Heap:=(zB h l m).push {cls:= .type "tuple",data:= .seq #[.ref h.objs.size, .ref (zA h l).objs.size]}
abbrev zD(h:Heap)(l m:Addr):Heap:=(zC h l m).push {cls:= .type "tuple",data:= .seq #[.none, .none]}
abbrev zE(h:Heap)(l m:Addr):Heap:=(zD h l m).push {cls:= .type "zip",data:= .fields #[.none, .bool false, .bool false, .ref (zB h l m).objs.size, .ref (zC h l m).objs.size]}
theorem vp(l m:Addr)(xs ys:Array Value):Meets (Builtin.«zip.__new__» ⟨[.type "zip", .ref l, .ref m],[]⟩) (fun _ R s=>s.heap.IsTuple l xs/\s.heap.IsTuple m ys/\
 R (.ok (.ret (.ref (zD s.heap l m).objs.size))) {s with heap:=zE s.heap l m}):=
 .of_wp fun prog w A R s h=>by
  refine hZq fun q_ e_=>?_;obtain⟨hp,g,d,tk,os⟩:=s;obtain⟨a,p2,h⟩:=h;subst e_;have b:=sub_zip;have a:Heap.IsTuple (Shared.heap ⟨hp,g,d,tk,os⟩) l xs:=a;have p2:Heap.IsTuple (Shared.heap ⟨zA hp l,g,d,tk,os⟩) m ys:=Heap.IsTuple.at p2 fun o e=>Heap.get?_push_of_some _ e
  wp_walk using wpAny_pyIter_tuple a,wpAny_pyIter_tuple p2
  exact⟨_,rfl,h⟩
section
variable{prog:Program}{w:World}{A:Around}{E:Value->Shared->Prop}{s:Shared}
theorem uk{k:Src}{l m:Addr}{xs ys:Array Value}{Q:Value->Shared->Prop}(p1:k.Sq s.heap l xs)(p2:k.Sq s.heap m ys)(q:∀h',IsZip h' (s.heap.objs.size+4) (s.heap.objs.size+2) (s.heap.objs.size+3) .none->IsPair h' (s.heap.objs.size+2) (.ref s.heap.objs.size) (.ref (s.heap.objs.size+1))->
  IsPair h' (s.heap.objs.size+3) .none .none->k.It h' s.heap.objs.size l 0->k.It h' (s.heap.objs.size+1) m 0->h'.objs.size=s.heap.objs.size+5->
  (∀c o,s.heap.get? c=some o->h'.get? c=some o)->Q (.ref (s.heap.objs.size+4)) {s with heap:=h'}):
 wpAny (model prog w) A (call (.type "zip") [.ref l, .ref m]) Q E s:=by
 cases k
 . exact call_zip_2 p1 p2 q
 . refine callType_new F.called_zip (by decide) (F.typeCall_zip_2 _ _) (F.newCall_zip_2 _ _) (fun obj=>F.args_object_init_3 obj _ _) F.entry_zip_new (vp l m xs ys) ⟨p1,p2,?_⟩
   have a:(zA s.heap l).objs.size=s.heap.objs.size+1:=Heap.size_push ..;have d:(zB s.heap l m).objs.size=s.heap.objs.size+2:=by rw[Heap.size_push,a]
   have f:(zC s.heap l m).objs.size=s.heap.objs.size+3:=by rw[Heap.size_push,d]
   have b:(zD s.heap l m).objs.size=s.heap.objs.size+4:=by rw[Heap.size_push,f]
   have h:(zE s.heap l m).objs.size=s.heap.objs.size+5:=by rw[Heap.size_push,b]
   have b5:(zE s.heap l m).get? (zD s.heap l m).objs.size=some _:=Heap.get?_push_size _ rfl;have g:(zE s.heap l m).get? (zC s.heap l m).objs.size=some _:=Heap.get?_push_of_some _ (Heap.get?_push_size _ rfl);have b3:(zE s.heap l m).get? (zB s.heap l m).objs.size=some _:=Heap.get?_push_of_some _ (Heap.get?_push_of_some _ (Heap.get?_push_size _ rfl));have b2:(zE s.heap l m).get? (zA s.heap l).objs.size=some _:=Heap.get?_push_of_some _ (Heap.get?_push_of_some _ (Heap.get?_push_of_some _ (Heap.get?_push_size _ rfl)));have b1:(zE s.heap l m).get? s.heap.objs.size=some _:=Heap.get?_push_of_some _ (Heap.get?_push_of_some _ (Heap.get?_push_of_some _ (Heap.get?_push_of_some _ (Heap.get?_push_size _ rfl))));show _/\_;rw[d,f,b]at b5;rw[a,d]at b3;rw[f]at g;rw[a]at b2;rw[b];exact⟨⟨_,b5,rfl⟩,q _ b5 b3 g ⟨_,b1,rfl,rfl⟩ ⟨_,b2,rfl,rfl⟩ h fun c o e=>Heap.get?_push_of_some _ (Heap.get?_push_of_some _ (Heap.get?_push_of_some _ (Heap.get?_push_of_some _ (Heap.get?_push_of_some _ e))))⟩
end
end Zp
namespace L2
open PySem PySem.Spec PyProof.Rows Zp
def Sqk(k:Src)(K:PySem.W.Frag)(H:Hp)(a:Addr)(xs:List V):Prop:=match k with
 | .lst=>SqL K H a xs
 | .tup=>SqT K H a xs
theorem Inv.sqk{X:Cx}{pins:List (Addr×Obj)}{σ:St}{H:Hp}{s:Shared}{k:Src}{a:Addr}{xs:List V}(I:Inv X pins σ H s)(h:Sqk k X.K H a xs):∃its:List Value,Vals xs its/\k.Sq s.heap a its.toArray/\xs.length<=sizeLine:=by
 cases k
 . obtain⟨its,r,p,z⟩:=I.list h;exact⟨its,r,p.isList,z⟩
 . obtain⟨its,r,p,z⟩:=I.tuple h;exact⟨its,r,p,z⟩
theorem Inv.sqk_inj{X:Cx}{pins:List (Addr×Obj)}{σ:St}{H:Hp}{s:Shared}{k:Src}{a:Addr}{xs ys:List V}(I:Inv X pins σ H s)(h:Sqk k X.K H a xs)(h':Sqk k X.K H a ys):xs=ys:=by
 cases k
 . exact I.list_inj h h'
 . exact I.tuple_inj h h'
def Itz(k:Src)(K:PySem.W.Frag)(a b:Addr):It:=
 ⟨fun i H=>∃xs ys x y,Sqk k K H a xs/\Sqk k K H b ys/\xs[i]?=some x/\ys[i]?=some y,
  fun i H v H'=>∃T x y,v= .ref T/\H T=none/\H'=upd H T (.tup [x,y])/\(∀xs,Sqk k K H a xs->xs[i]?=some x)/\(∀ys,Sqk k K H b ys->ys[i]?=some y)/\i < sizeLine,
  fun i H=>∃xs ys,Sqk k K H a xs/\Sqk k K H b ys/\xs.length<=i⟩
section
variable{X:Cx}{pins:List (Addr×Obj)}{σ:St}{H:Hp}{s:Shared}
theorem Inv.turneds{h':Heap}{t':Nat}{fp:List Addr}(I:Inv X pins σ H s)(k:∀b o,b∉fp->s.heap.get? b=some o->h'.get? b=some o)(hf:∀b∈fp,FpOk X pins H b):Inv X pins σ H {s with heap:=h',toks:=t'}:=by
 refine I.call' (s':= {s with heap:=h',toks:=t'}) (ch:=fp) rfl ⟨fun b o e _ _ hx=>k b o hx e,fun b o e _ _ hx=>⟨o.slots,k b o hx e⟩,fun _ _ _ n _=>n,fun b o e hx=>⟨o,k b o hx e⟩,fun _ _ e=>e,fun _ _ _ e=>e,fun b ps e=>⟨#[],by rw[e];simp⟩⟩ ?_ I.bare fun b hb=>?_
 . intro b o e;have nb:∀c u,H c=some u->c∉fp:=fun c u e z=>by rw[(hf c z).1]at e;cases e
   refine(I.hok b o e).stay (fun c v hc q=>k c v ?_ q) (fun _ q=>q) fun _ _ q=>q;rcases hc with z|z
   . rw[z];exact nb b o e
   . exact nb c _ z
 . obtain⟨h,f,g2,a,d,g⟩:=hf b hb;exact⟨a,f,d,g⟩
end
theorem pQ{P:Program}{w:World}{K:PySem.W.Frag}{es:List Expr}{kk:Nat}{pos:Pos}{k:Src}(a b z TI TO i1 i2:Addr)(hd: [z,TI,TO,i1,i2].Nodup):
 Turn P w K (.Tuple es kk pos) (Itz k K a b) [z,TI,TO,i1,i2] z (fun i h=>IsZip h z TI TO .none/\IsPair h TI (.ref i1) (.ref i2)/\(∃u v,IsPair h TO u v)/\k.It h i1 a i/\k.It h i2 b i/\a∉ [z,TI,TO,i1,i2]/\b∉ [z,TI,TO,i1,i2]) where
 mem:=by simp
 obj:=fun i h ⟨h1,h2,⟨u,v,h3⟩,l,j,_⟩ c hc=>by
  simp only[zJ,Ab,or_false]at hc;rcases hc with rfl|rfl|rfl|rfl|rfl
  . exact⟨_,h1,fun v e=>by cases (show Data.fields _=Data.cell v from e)⟩
  . exact⟨_,h2,fun v e=>by cases (show Data.seq _ _=Data.cell v from e)⟩
  . exact⟨_,h3,fun v e=>by cases (show Data.seq _ _=Data.cell v from e)⟩
  . exact jO l
  . exact jO j
 keep:=fun i h h' ⟨h1,h2,⟨u,v,h3⟩,l,j,f⟩ kp=>⟨kp z (by simp) _ h1,kp TI (by simp) _ h2,⟨u,v,kp TO (by simp) _ h3⟩,dM l fun o e=>kp i1 (by simp) o e,dM j fun o e=>kp i2 (by simp) o e,f⟩
 item:=by
  intro X hP hw hK hc i pins s σ H E I hf ⟨h1,h2,⟨u0,v0,h3⟩,l,j,f,g⟩ hg;subst hP hw hK;refine hZq fun q_ e_=>?_;obtain⟨xs,ys,x,y,g1,g2,t,g4⟩:=hg;obtain⟨as,r1,p1,z1⟩:=I.sqk g1;obtain⟨bs,r2,p2,z2⟩:=I.sqk g2;obtain⟨u,e1,q1⟩:=r1.get t;obtain⟨v,e2,q2⟩:=r2.get g4;simp only[AG,zJ,Ab,or_false,not_or,List.nodup_nil,and_true,not_false_eq_true]at hd f g;obtain⟨⟨d1,d2,d3,d4⟩,⟨d5,d6,d7⟩,⟨d8,d9⟩,r⟩:=hd;subst e_;have D:ZipApart z TI TO i1 i2 a b:=⟨Ne.symm d1,Ne.symm d2,Ne.symm d3,Ne.symm d4,d5,d6,d7,d8,d9,r,f.1,f.2.2.1,f.2.2.2.1,f.2.2.2.2,g.1,g.2.2.1,g.2.2.2.1,g.2.2.2.2⟩;refine uz D h1 h2 h3 l j p1 p2 (x:=u) (y:=v) (by simpa using e1) (by simpa using e2) fun h' a1 a2 a3 a4 a5 a6 up=>⟨_,rfl,?_⟩
  refine wpAny_letOwnedTupleGo_zip (s:= {s with heap:=h'}) a1 fun p b1 sb=>?_;have T:=s.heap.objs.size;have fr:H s.heap.objs.size=none:=I.hok.fresh (zu _);have lt:∀ {c:Addr} {o:Obj},s.heap.get? c=some o->c≠s.heap.objs.size:=fun e=>zO (Heap.lt_size e)
  have all:∀c o,c∉ [z,TI,TO,i1,i2]->s.heap.get? c=some o->p.get? c=some o:=fun c o n e=>by
   simp only[zJ,Ab,or_false,not_or]at n;exact sb.extBut c o n.1 (up c o n.1 n.2.2.1 n.2.2.2.1 n.2.2.2.2 e)
  have nz:s.heap.objs.size≠z:=(lt h1).symm;have pT:IsPair p s.heap.objs.size u v:=sb.extBut _ _ nz a5
  have fp:∀b∈ [z,TI,TO,i1,i2],upd H s.heap.objs.size (.tup [x,y]) b=none:=fun c hc=>by
   have nc:c≠s.heap.objs.size:=by
    simp only[zJ,Ab,or_false]at hc;rcases hc with rfl|rfl|rfl|rfl|rfl
    . exact lt h1
    . exact lt h2
    . exact lt h3
    . obtain⟨o,e,_⟩:=jO l;exact lt e
    . obtain⟨o,e,_⟩:=jO j;exact lt e
   rw[ae nc];exact(hf c hc).1
  refine⟨.ref s.heap.objs.size,upd H s.heap.objs.size (.tup [x,y]),?_,rfl,⟨_,x,y,rfl,fr,rfl,fun zs hz=>?_,fun zs hz=>?_,A5 (zv.mp t).1 z1⟩,⟨b1,?_,⟨u,v,?_⟩,?_,?_,?_,?_⟩,fp⟩
  ·
   refine I.call' (s':= {s with heap:=p}) (ch:= [z,TI,TO,i1,i2]) rfl ⟨fun b o e _ _ hx=>all b o hx e,fun b o e _ _ hx=>⟨o.slots,all b o hx e⟩,fun c o e n _=>by rw[ae (lt e)];exact n,fun b o e hx=>⟨o,all b o hx e⟩,fun c zs e=>by rw[ae (av e fr)];exact e,fun c o zs e=>by rw[ae (av e fr)];exact e,fun c ps e=>⟨#[],by rw[ae (av e fr),e];simp⟩⟩ ?_ I.bare fun b hb=>?_
   . intro c o e;by_cases au:c=s.heap.objs.size
     . subst au;rw[a8]at e;cases e;exact⟨by show 2<=sizeLine;decide,[u,v], .cons q1 (.cons q2 .nil),⟨_,pT,rfl,_,rfl⟩⟩
     . rw[ae au]at e;have nb:∀c u,H c=some u->c∉ [z,TI,TO,i1,i2]:=fun c u e hz=>by rw[(hf c hz).1]at e;cases e
       refine(I.hok c o e).stay (fun d v hc q=>all d v ?_ q) (fun d q=>?_) fun d m q=>?_
       . rcases hc with hz|hz
         . rw[hz];exact nb c o e
         . exact nb d _ hz
       . rw[ae (av q fr)];exact q
       . rw[ae (av q fr)];exact q
   . refine hZq fun q_ e_=>?_;obtain⟨g0,g1,g2,t,g4,g5⟩:=hf b hb;subst e_;exact⟨t,g1,g4,g5⟩
  . rw[I.sqk_inj hz g1];exact t
  . rw[I.sqk_inj hz g2];exact g4
  . exact sb.extBut _ _ D.TIz (up _ _ D.TIz D.TITO D.TIi1 D.TIi2 h2)
  . exact sb.extBut _ _ D.TOz a2
  . exact dM a3 fun o e=>sb.extBut _ o D.i1z e
  . exact dM a4 fun o e=>sb.extBut _ o D.i2z e
  . simpa using f
  . simpa using g
 done:=by
  intro X hP hw hK hc i pins s σ H E I hf ⟨h1,h2,⟨u0,v0,h3⟩,l,j,f,g⟩ hg;subst hP hw hK;refine hZq fun q_ e_=>?_;obtain⟨xs,ys,g1,g2,t⟩:=hg;obtain⟨as,r1,p1,z1⟩:=I.sqk g1;obtain⟨bs,r2,p2,z2⟩:=I.sqk g2;have hl:=r1.length;simp only[AG,zJ,Ab,or_false,not_or,List.nodup_nil,and_true,not_false_eq_true]at hd f g;obtain⟨⟨d1,d2,d3,d4⟩,⟨d5,d6,d7⟩,⟨d8,d9⟩,r⟩:=hd;subst e_;have D:ZipApart z TI TO i1 i2 a b:=⟨Ne.symm d1,Ne.symm d2,Ne.symm d3,Ne.symm d4,d5,d6,d7,d8,d9,r,f.1,f.2.2.1,f.2.2.2.1,f.2.2.2.2,g.1,g.2.2.1,g.2.2.2.1,g.2.2.2.2⟩;refine wq (I.ok.hd hc) D h1 h2 h3 l j p1 p2 (by simp;omega) fun h' up=>⟨rfl,I.turneds (t':=s.toks) (fun c o n e=>?_) hf⟩
  simp only[zJ,Ab,or_false,not_or]at n;exact up c o n.1 n.2.2.1 n.2.2.2.1 n.2.2.2.2 e
 self:=fun _ _ _ _ _ st h=>wpAny_pyIter_zip st.1 h
section
variable{X:Cx}
def iZip(k:Src)(K:PySem.W.Frag)(ta:TA):TI:=fun σ H R=>ta σ H fun vs H1=>∃a b xs ys,vs= [.ref a, .ref b]/\Sqk k K H1 a xs/\Sqk k K H1 b ys/\R (Itz k K a b) H1
theorem jE{k:Src}{es:List Expr}{kk:Nat}{pt:Pos}{x y:Expr}{ta:TA}{p pos:Pos}(hg:Gl X "zip")(hm:X.mg "zip"=none)(ha:PA X [x,y] ta)(hs:starEach [x,y] X.env= [(false,eval x X.env),(false,eval y X.env)]:=by rfl)(hs2:starEach [y] X.env= [(false,eval y X.env)]:=by rfl):
 PI X (.Tuple es kk pt) (.Call (.Name "zip" p) [x,y] [] pos) (iZip k X.K ta):=by
 intro pins s σ H R I h;refine Call_ (eF I hg hm PyProof.Rows.boot_zip (PyProof.Rows.callWith_type1 (thn (ha pos pins s σ H _ I h) fun us s1 ⟨vs,H1,d,r1,t⟩=>?_) (by rw[hs,hs2]) (by rw[hs2];rfl)))
 refine hZq fun q_ e_=>?_;obtain⟨a,b,xs,ys,e,k1,k2,q⟩:=t;subst e_;subst e
 cases r1 with
 |cons r i=>
  cases i with
  |cons r' i=>
   cases i;cases r;cases r';refine hZq fun q_ e_=>?_;obtain⟨as,_,g,_⟩:=d.sqk k1;obtain⟨bs,_,p2,_⟩:=d.sqk k2;subst e_;refine uk g p2 fun h' hz n v u t2 sz up=>?_;refine wpAny_pyIter_zip (s:= {s1 with heap:=h'}) hz ?_
   have m:a < s1.heap.objs.size:=by
    cases k
    . obtain⟨o,e,_⟩:=g;exact Heap.lt_size e
    . obtain⟨o,e,_⟩:=g;exact Heap.lt_size e
   have l:b < s1.heap.objs.size:=by
    cases k
    . obtain⟨o,e,_⟩:=p2;exact Heap.lt_size e
    . obtain⟨o,e,_⟩:=p2;exact Heap.lt_size e
   have f:∀j,a≠s1.heap.objs.size+j:=fun j=>zO (A5 m (AT ..));have nb:∀j,b≠s1.heap.objs.size+j:=fun j=>zO (A5 l (AT ..))
   have le:∀c∈ [s1.heap.objs.size+4,s1.heap.objs.size+2,s1.heap.objs.size+3,s1.heap.objs.size+0,s1.heap.objs.size+1],s1.heap.objs.size<=c:=fun c hc=>by
    simp only[zJ,Ab,or_false]at hc;rcases hc with rfl|rfl|rfl|rfl|rfl<;>exact AT ..
   refine⟨s1.heap.objs.size+4,[s1.heap.objs.size+4,s1.heap.objs.size+2,s1.heap.objs.size+3,s1.heap.objs.size+0,s1.heap.objs.size+1],_,_,H1,rfl,d.kept (t':=s1.toks) up,pQ a b _ _ _ _ _ (by simp),⟨hz,n,⟨_,_,v⟩,u,t2,?_,?_⟩,fun c hc=>d.fpOk (le c hc) (d.hok.fresh (le c hc)),q⟩
   . simp only[zJ,Ab,or_false,not_or];exact⟨f 4,f 2,f 3,f 0,f 1⟩
   . simp only[zJ,Ab,or_false,not_or];exact⟨nb 4,nb 2,nb 3,nb 0,nb 1⟩
open PySem PySem.Spec PyProof.Rows Zp
end
end L2
namespace Tre
open PySem L2 Zp
end Tre
namespace Tre
open PySem PySem.Spec PyProof.Rows L2
section
variable{X:Cx}
theorem uv{H:Hp}{t:Tr}{e:Value->Bool}:∀ {xs:List V} {us:List Value} {ts:List Tr},Vals xs us->TrsAt H xs ts->(∀v u s,RelV v u->TrAt H v s->e u=eqT s t)->us.any e=ts.any fun s=>eqT s t
 |_,_,[],r,h,_=>by
  unfold TrsAt at h;subst h;cases r;rfl
 |_,_,s::ts,r,h,he=>by
  unfold TrsAt at h;obtain⟨v,q,rfl,h1,h2⟩:=h
  cases r with
  |cons r1 r2=>rw[List.any_cons,List.any_cons,uv r2 h2 he,he _ _ _ r1 h1]
open PySem PySem.Spec PyProof.Rows L2
def SqE(H:Hp)(p:Addr)(xs:List V):Prop:=H p=some (.lst xs)\/H p=some (.tup xs)
def rIn(b:Bool):R2:=fun x y H Q=>∃p xs ts t,y= .ref p/\SqE H p xs/\TrsAt H xs ts/\TrAt H x t/\(∀u∈ts,u.depth<=40)/\t.pure/\Q (.bl ((ts.any fun u=>eqT u t)==b)) H
theorem kM{pins:List (Addr×Obj)}{s:Shared}{σ:L2.St}{H:Hp}{xs:List V}{ts:List Tr}{t:Tr}{x:V}{v:Value}{its:List Value}(hu:X.A.units+50 < cLine)(I:Inv X pins σ H s)(rx:RelV x v)(r:Vals xs its)(hT:TrsAt H xs ts)(ht:TrAt H x t)(hd:∀u∈ts,u.depth<=40)(hpu:t.pure):
 ∃e:Value->Bool,(∀w,w∈its.toArray->SeqAt.EqAt X.A.in1 s w v (e w))/\its.toArray.any e=ts.any fun s=>eqT s t:=by
 classical
 have he:∀b a s',RelV b a->TrAt H b s'->decide (∃v s,RelV v a/\TrAt H v s/\eqT s t=true)=eqT s' t:=fun b a s' r' h'=>by
  cases e:eqT s' t with
  |true=>exact decide_eq_true ⟨b,s',r',h',e⟩
  |false=>
   refine decide_eq_false ?_;rintro⟨l,m,r2,h2,c⟩;cases r2.inj r';rw[TrAt.det h2 h',e]at c;cases c
 refine⟨fun a=>decide (∃v s,RelV v a/\TrAt H v s/\eqT s t=true),fun w hw=>?_,?_⟩
 . have d:w∈its:=by simpa using hw
   obtain⟨j,i,k⟩:=Ax d;have l1:=r.length;have l2:=hT.len;have h:ts[j]?=some (ts[j]'(by omega)):=zo _
   obtain⟨b,e1,f⟩:=hT.get h;obtain⟨a,c,g⟩:=r.get e1;rw[zo i,k]at c;cases c;dsimp only;rw[he _ _ _ g f];exact jh I 40 (hd _ (zw h)) (.inr hpu) f ht g rx (by show X.A.units+1+40+1 < cLine;omega)
 . rw[List.any_toArray];exact uv r hT he
theorem uo(b:Bool):(b==true)=b:=by cases b<;>rfl
theorem zj(b:Bool):(b==false)= !b:=by cases b<;>rfl
theorem wU(hu:X.A.units+50 < cLine):OpR X (compareOp .In) (rIn true):=by
 intro pins s σ H x y v u Q I b d h;obtain⟨p,xs,ts,t,rfl,hp,c,ht,hd,a,q⟩:=h;cases d;rcases hp with hp|hp
 . obtain⟨its,r,pl,hz⟩:=I.list (SqL.of hp);obtain⟨e,h1,h2⟩:=kM hu I b r c ht hd a;refine SeqAt.in_listAt e pl.isList h1 ⟨.bl _,H,I,rfl,?_⟩;rw[h2,<-uo (ts.any fun s=>eqT s t)];exact q
 . obtain⟨its,r,pl,hz⟩:=I.tuple (SqT.of hp);obtain⟨e,h1,h2⟩:=kM hu I b r c ht hd a;refine SeqAt.in_tupleAt e (show s.heap.IsTuple p its.toArray from pl) h1 ⟨.bl _,H,I,rfl,?_⟩;rw[h2,<-uo (ts.any fun s=>eqT s t)];exact q
end
end Tre
namespace L2
open PySem PySem.Spec PyProof.Rows
section
variable{X:Cx}
end
theorem ui{K K':PySem.W.Frag}{a:Addr}{mp:List (Option Nat)}{tl:TE}{te:TE}{Q:VK}{σ rest:L2.St}{H H1:Hp}{xs:List V}(e:subS mp σ=none::none::rest)(ha:∀Q:VK,Q (.ref a) H1->tl σ H Q)(h1:SqT K H1 a xs)(h:∀D,H1 D=none->∃Pv:Nat->List V->Hp->Prop,Pv 0 [] (upd H1 D (.lst []))/\(∀i acc H,Pv i acc H->SqT K H a xs)/\
  (∀i z acc H,i < xs.length->Pv i acc H->xs[i]?=some z->∃T x y,z= .ref T/\SqT K' H T [x,y]/\te (some x::some y::rest) H (CompN xs.length i D acc Pv))/\∀acc H,Pv xs.length acc H->Q (.ref D) H):
 bQ mp (iTup K tl) (gTup K' 2 (aV (aH 0) (aV (aH 1) gNil))) cH te σ H Q:=by
 unfold bQ;rw[e];refine ha _ ⟨a,rfl,⟨xs,h1⟩,fun D j=>?_⟩;refine hZq fun q_ e_=>?_;obtain⟨Pv,f,l,ps,n⟩:=h D j;subst e_;refine⟨fun i m acc H=>m=xs.length - i/\i<=xs.length/\Pv i acc H,⟨xs.length,by simp,zY _,f⟩,?_⟩
 rintro i m acc H ⟨rfl,hi,p⟩;have d:=l i acc H p;by_cases b:i < xs.length
 . refine .inr ⟨⟨xs,xs[i],d,by simp[b]⟩,?_⟩
   intro v H' z_;refine hZq fun q_ e_=>?_;obtain⟨rfl,y⟩:=z_;have g:=y xs d;obtain⟨T,x,z,rfl,k,c⟩:=ps i v acc _ b p g;subst e_;exact⟨T,[x,z],rfl,k,rfl,x,[z],rfl,z,[],rfl,rfl,ext2,c⟩
 . have ei:i=xs.length:=by omega
   subst ei;exact .inl ⟨⟨xs,d,zu _⟩,n acc H p⟩
end L2
namespace Wd
open PySem L2 Tre Mth Dj
section
variable{P:Program}{w:World}{K:PySem.W.Frag}{H H':Hp}{F D C:Addr}{n:Nat}
end
section
variable{P:Program}{w:World}{K:PySem.W.Frag}{H H':Hp}{F D C r:Addr}{n:Nat}{v:V}{W:Wld}
end
end Wd
namespace L2
open PySem Tre Wd
theorem cu{t rest:TS}{Z:Ends}{σ:L2.St}{H:Hp}(R:L2.St->Hp->Prop)(hR:∀σ' H',R σ' H'->rest Z σ' H')(h:∀nx:L2.St->Hp->Prop,(∀σ' H',R σ' H'->nx σ' H')->t {Z with nx:=nx} σ H):tSeq t rest Z σ H:=h _ hR
theorem ah{i:Nat}{v:V}{σ:L2.St}{H:Hp}{k:L2.St->Hp->Prop}(h:k (σ.set i (some v)) H):aH i v σ H k:=h
theorem bU{Z:Ends}{σ:L2.St}{H:Hp}(h:Z.nx σ H):vY Z σ H:=h
theorem uD{r:List V->Hp->VK->Prop}{te:TE}{Z:Ends}{σ:L2.St}{H:Hp}(h:te σ H fun v H1=>r [v] H1 Z.rt):tRet (tCB r (cW te tNil)) Z σ H:=h
theorem jg{te:TE}{Z:Ends}{σ:L2.St}{H:Hp}(h:te σ H Z.rt):tRet te Z σ H:=h
theorem wz{te:TE}{σ:L2.St}{H:Hp}{Q:List V->Hp->Prop}(h:te σ H fun v H1=>Q [v] H1):cW te tNil σ H Q:=h
theorem kQ{H:Hp}{v:V}{x:Str}{r:List Tr}(h:TrAt H v (.tup (.str x::r))):∃a vs,v= .ref a/\H a=some (.tup (.str x::vs))/\TrsAt H vs r:=by
 unfold TrAt at h;obtain⟨a,vs,e,h1,h2⟩:=h;obtain⟨y,r1,rfl,h3,b⟩:=h2.inv;unfold TrAt at h3;subst h3;exact⟨a,r1,e,h1,b⟩
theorem at2{H:Hp}{v:V}{k:Str}{t:Tr}(h:TrAt H v (.tup [.str k,t])):∃a y,v= .ref a/\H a=some (.tup [.str k,y])/\TrAt H y t:=by
 obtain⟨a,vs,e,h1,h2⟩:=kQ h;obtain⟨y,r,rfl,h3,b⟩:=h2.inv;unfold TrsAt at b;subst b;exact⟨a,y,e,h1,h3⟩
theorem at3{H:Hp}{v:V}{k:Str}{t u:Tr}(h:TrAt H v (.tup [.str k,t,u])):∃a y z,v= .ref a/\H a=some (.tup [.str k,y,z])/\TrAt H y t/\TrAt H z u:=by
 obtain⟨a,vs,e,h1,h2⟩:=kQ h;obtain⟨y,r,rfl,h3,d⟩:=h2.inv;obtain⟨z,r2,rfl,c,b⟩:=d.inv;unfold TrsAt at b;subst b;exact⟨a,y,z,e,h1,h3,c⟩
theorem at_s{H:Hp}{v:V}{x:Str}(h:TrAt H v (.str x)):v= .str x:=by
 unfold TrAt at h;exact h
theorem at_t{H:Hp}{v:V}{ts:List Tr}(h:TrAt H v (.tup ts)):∃a vs,v= .ref a/\H a=some (.tup vs)/\TrsAt H vs ts:=by
 unfold TrAt at h;exact h
theorem yn{H:Hp}{x:Str}:TrAt H (.str x) (.str x):=by unfold TrAt;rfl
theorem iu{H:Hp}{r:Addr}{vs:List V}{ts:List Tr}(h:H r=some (.tup vs))(h1:TrsAt H vs ts):TrAt H (.ref r) (.tup ts):=by
 unfold TrAt;exact⟨r,vs,rfl,h,h1⟩
theorem bE{H:Hp}{v:V}{a b:Tr}(h:TrAt H v (.tup [a,b])):∃r x y,v= .ref r/\H r=some (.tup [x,y])/\TrAt H x a/\TrAt H y b:=by
 unfold TrAt at h;obtain⟨r,vs,e,h1,h2⟩:=h;obtain⟨x,r1,rfl,h3,f⟩:=h2.inv;obtain⟨y,r2,rfl,d,c⟩:=f.inv;unfold TrsAt at c;subst c;exact⟨r,x,y,e,h1,h3,d⟩
theorem eX{H:Hp}{v:V}{a b:Int}(h:TrAt H v (.tup [.int a, .int b])):∃r,v= .ref r/\H r=some (.tup [.int a, .int b]):=by
 obtain⟨r,x,y,e,h1,h2,h3⟩:=bE h;unfold TrAt at h2 h3;subst h2 h3;exact⟨r,e,h1⟩
theorem bP{H:Hp}{r:Addr}{x y:V}{a b:Tr}(h:H r=some (.tup [x,y]))(h1:TrAt H x a)(h2:TrAt H y b):TrAt H (.ref r) (.tup [a,b]):=by
 unfold TrAt;exact⟨r,_,rfl,h, .cons h1 (.cons h2 .nil)⟩
theorem aX{H:Hp}{r:Addr}{a b:Int}(h:H r=some (.tup [.int a, .int b])):TrAt H (.ref r) (.tup [.int a, .int b]):=bP h (by unfold TrAt;rfl) (by unfold TrAt;rfl)
theorem bS{H:Hp}{v:V}{p:Fr}(h:TrAt H v (frT p)):∃r,v= .ref r/\H r=some (.tup [.int p.1, .int p.2]):=eX h
end L2
namespace L2
open PySem PySem.Spec PyProof.Rows
section
variable{X:Cx}
def rNeP(K:PySem.W.Frag):R2:=fun x y H Q=>∃(p q:Addr) (a b c d:Int),x= .ref p/\y= .ref q/\SqT K H p [.int a, .int b]/\SqT K H q [.int c, .int d]/\Q (.bl (!decide (a=c/\b=d))) H
theorem sJ(hu:X.A.units+1 < cLine):OpR X (compareOp .NotEq) (rNeP X.K):=by
 intro pins s σ H x y v u Q I i g h;refine hZq fun q_ e_=>?_;obtain⟨p,q,a,b,c,d,e1,m,hp,hq,k⟩:=h;subst e_;subst e1 m;cases (show v=Value.ref p from i);cases (show u=Value.ref q from g);refine hZq fun q_ e_=>?_;obtain⟨its,r1,t,_⟩:=I.tuple hp;obtain⟨f,r2,t2,_⟩:=I.tuple hq;obtain⟨u1,u2,rfl,⟨r,rfl⟩,⟨l,rfl⟩⟩:=Vals.two r1;obtain⟨u3,z,rfl,⟨o,rfl⟩,⟨n,rfl⟩⟩:=Vals.two r2;subst e_;refine SeqAt.RcNeAt.tuples (A:=X.A) (e:=fun j=>if j=0 then a==c else b==d) (show s.heap.IsTuple p _ from t) (show s.heap.IsTuple q _ from t2) (by omega) (fun j h1 h2=>?_) X.prog X.w X.xe _ ?_
 . match j,h1,h2 with
   |0,_,_=>exact PySem.SeqAt.EqAt.int_int a r c o
   |1,_,_=>exact PySem.SeqAt.EqAt.int_int b l d n
   |j+2,h1,_=>
    have:j+2 < 2:=h1;omega
 . refine⟨.bl (!decide (a=c/\b=d)),H,I,?_,k⟩;show Value.bool (!(((a==c)&& ((b==d)&&true))&&true))=Value.bool (!decide (a=c/\b=d));congr 2;rw[Bool.and_true,Bool.and_true,AW];simp
end
end L2
namespace Tre
open PySem L2
theorem ji{t:Tr}(h:Ty .tm t):∃ts,t= .tup ts:=by
 cases h<;>exact⟨_,rfl⟩
end Tre
namespace Su
open PySem L2 Tre Mth Wd
theorem gW{α β:Type}{f:α->β}{us vs:List β}(h:us.Perm vs):∀ {ps:List α},vs=ps.map f->∃qs:List α,us=qs.map f/\qs.Perm ps:=by
 induction h with
 |nil=>intro ps e;exact⟨[],rfl,by cases ps with|nil=>exact .nil|cons p ps=>simp at e⟩
 |cons x _ b=>
  intro ps e
  cases ps with
  |nil=>simp at e
  |cons p ps=>
   rw[zU,AQ]at e;obtain⟨qs,e1,a⟩:=b e.2;exact⟨p::qs,by rw[zU,e1,e.1],a.cons p⟩
 |swap x y l=>
  intro ps e
  cases ps with
  |nil=>simp at e
  |cons p ps=>
   cases ps with
   |nil=>simp at e
   |cons q ps=>
    simp only[zU,AQ]at e;obtain⟨e1,a,d⟩:=e;exact⟨q::p::ps,by simp only[zU,e1,a,d], .swap p q ps⟩
 |trans _ _ h1 h2=>
  intro ps e;obtain⟨g,e1,c⟩:=h2 e;obtain⟨qs,a,p2⟩:=h1 e1;exact⟨qs,a,p2.trans c⟩
structure Gq (e:Nat) (p:Pq):Prop where
 ty:Ty .tm p.1
 dep:p.1.depth<=7
 gf:Gf e p.2
 sh:Sh p.2
theorem Gq.pr{e:Nat}{p:Pq}(h:Gq e p):Ty .pr (prT p)/\(prT p).depth<=8:=by
 refine⟨.pr _ _ h.ty (.fr _ _),?_⟩;have:=h.dep;unfold prT frT;simp only[Tr.depth,Trs.depth];omega
theorem aq{α:Type}{us:List α}{i:Nat}{u:α}(e:us[i]?=some u):us.take (i+1)=us.take i++ [u]:=by
 rw[List.take_add_one,e];rfl
open PySem L2 Tre Mth Wd
noncomputable def scale(q:Fr)(p:Pq):Pq:=(p.1,fc p.2 q)
def negF(f:Fr):Fr:=(-f.1,f.2)
def neg(p:Pq):Pq:=(p.1,negF p.2)
theorem rH(f:Fr):rv (negF f)= -rv f:=by
 unfold rv negF;simp only[Rat.intCast_neg];grind
open Classical in
theorem uF(t:Tr)(ps:List Pq):tot t (ps.map neg)= -tot t ps:=by
 induction ps with
 |nil=>simp only[AJ,tot];grind
 |cons p r a=>
  simp only[zU,tot,a];show(if p.1=t then rv (negF p.2)else 0)+_=_;rw[rH];by_cases z:p.1=t
  . simp only[if_pos z];grind
  . simp only[if_neg z];grind
open Classical in
theorem dS(t:Tr){q:Fr}(hq:Sh q){ps:List Pq}(h:∀p∈ps,Sh p.2):tot t (ps.map (scale q))=tot t ps*rv q:=by
 induction ps with
 |nil=>simp only[AJ,tot];grind
 |cons p r a=>
  simp only[zU,tot,a fun x m=>h x (zp _ m)];show(if p.1=t then rv (fc p.2 q)else 0)+_=_;rw[gN (h p zq) hq];by_cases z:p.1=t
  . simp only[if_pos z];grind
  . simp only[if_neg z];grind
end Su
namespace L2
open PySem PySem.Spec PyProof.Rows
section
variable{X:Cx}
theorem gE:∀ {ys:List Str} {us:List Value},Vals (ys.map V.str) us->StrsAre us ys
 | [],_,r=>by cases r;exact .nil
 |y::ys,_,r=>by
  rw[zU]at r
  cases r with
  |cons r1 r2=>
   obtain⟨t,rfl⟩:=r1;exact .cons y t (gE r2)
def yR(K:PySem.W.Frag):V->List V->Hp->VK->Prop:=fun x vs H Q=>∃(sep:Str) (l:Addr) (ys:List Str),x= .str sep/\vs= [.ref l]/\SqL K H l (ys.map V.str)/\(ys.map (·.length)).sum+ys.length*sep.length<=16777216/\Q (.str (Txt.join sep ys)) H
theorem vq:MtM X "str.join" (yR X.K):=by
 intro pins s σ H x vs v us Q I a rv h;obtain⟨sep,l,ys,rfl,rfl,hl,hz,q⟩:=h;obtain⟨t,rfl⟩:=a;obtain⟨u,rfl,b⟩:=rv.one;cases b;obtain⟨its,r,p,_⟩:=I.list hl;exact PyProof.Rows.join_list p.isList (by simpa using gE r) hz fun t' k=>⟨.str _,H,I.tok k,⟨_,rfl⟩,q⟩
end
end L2
namespace Dec
open PySem PySem.NumText L2 Mth
theorem len_app(x y:Str):(x++y).length=x.length+y.length:=by rw[<-cQ,im,A6,cQ,cQ]
end Dec
namespace Tw
open PySem L2 Tre Wd Mth Dec Su
mutual
noncomputable def tmC:Tr->List Nat
 | .tup (_:: .str x::r)=>match r with
  | []=>cl x
  |t::_=>40::cl x++tmK t++ [41]
 |_=> []
noncomputable def tmK:Tr->List Nat
 | .tup ts=>tmsC ts
 |_=> []
noncomputable def tmsC:List Tr->List Nat
 | []=> []
 |t::ts=>32::tmC t++tmsC ts
end
theorem eK(k x:Str):tmC (.tup [.str k, .str x])=cl x:=by rw[tmC]
theorem dU(k x:Str)(ts:List Tr):tmC (.tup [.str k, .str x, .tup ts])=40::cl x++tmsC ts++ [41]:=by rw[tmC,tmK]
noncomputable def spC(cs:List (List Nat)):List Nat:=(cs.map (32:: ·)).flatten
theorem eJ:∀ts,tmsC ts=spC (ts.map tmC)
 | []=>by rw[tmsC];rfl
 |t::ts=>by
  rw[tmsC,eJ ts];rfl
theorem uM(a b:List (List Nat)):spC (a++b)=spC a++spC b:=by
 unfold spC;rw[zQ,List.flatten_append]
theorem ny{B:Nat}:∀ {cs:List (List Nat)},(∀c∈cs,c.length<=B)->(spC cs).length<=cs.length*(B+1)
 | [],_=>zY _
 |c::cs,h=>by
  have h1:=h c zq;have h2:=ny fun d m=>h d (zp c m);have e:spC (c::cs)=(32::c)++spC cs:=rfl;rw[e,A6,zV,zV,Nat.succ_mul];omega
theorem yB:cl (Str.ofString " ")= [32]:=by decide +kernel
theorem yZ:cl (Str.ofString "(")= [40]:=by decide +kernel
theorem yN:cl (Str.ofString ")")= [41]:=by decide +kernel
theorem lE(y:Str)(ys:List Str):cl (Txt.join (Str.ofString " ") (y::ys))=cl y++spC (ys.map cl):=by
 have e:Txt.join (Str.ofString " ") (y::ys)=Str.join (Str.ofString " ") (y::ys):=StrLaws.glued_eq_join _ _;rw[e];clear e
 induction ys generalizing y with
 |nil=>
  show cl y=cl y++spC [];simp[spC]
 |cons z ys b=>
  have a:Str.join (Str.ofString " ") (y::z::ys)=y++Str.ofString " "++Str.join (Str.ofString " ") (z::ys):=rfl;rw[a,im,im,yB,b z];simp[spC]
theorem qE{B:Nat}:∀ {ys:List Str},(∀y∈ys,y.length<=B)->(ys.map (·.length)).sum<=ys.length*B
 | [],_=>zY _
 |y::ys,h=>by
  have h1:=h y zq;have h2:=qE fun z m=>h z (zp y m);simp only[zU,List.sum_cons,zV];rw[Nat.succ_mul];omega
open PySem PyProof.Rows L2 Tre Wd Mth Dec Su
section
variable{X:Cx}{D:Addr}
end
end Tw
namespace Trm
open PySem
def Ltr(c:Nat):Prop:=97<=c/\c<=122
structure Nm (x:Str):Prop where
 pos:0 < x.length
 le:x.length<=8
 ltr:∀c∈x.cps.toList,Ltr c
open PySem
def cl(x:Str):List Nat:=x.cps.toList
theorem cQ(x:Str):(cl x).length=x.length:=by simp[cl,Str.length]
theorem nm_cl{x:Str}(h:Nm x):∃c l,cl x=c::l/\Ltr c:=by
 cases e:cl x with
 |nil=>
  have:=cQ x;rw[e]at this;have:=h.pos;simp at*;omega
 |cons c l=>exact⟨c,l,rfl,h.ltr c (by show c∈cl x;rw[e];exact zq)⟩
end Trm
namespace Tw
open PySem L2 Tre Wd Mth Dec Su
abbrev Nm:=Trm.Nm
abbrev Ltr:=Trm.Ltr
inductive Lt:Tr->Prop
 |nm (x:Str):Nm x->Lt (.tup [s_ "name", .str x])
 |ap (f:Str) (ts:List Tr):Nm f->0 < ts.length->(∀t∈ts,Lt t)->Lt (.tup [s_ "call", .str f, .tup ts])
def St(Q:Nat->Prop)(r:List Nat):Prop:=∀c l,r=c::l->¬Q c
theorem m4{Q:Nat->Prop}:∀ {x y r s:List Nat},(∀c∈x,Q c)->(∀c∈y,Q c)->St Q r->St Q s->x++r=y++s->x=y/\r=s
 | [],[],_,_,_,_,_,_,e=>⟨rfl,e⟩
 | [],b::y,r,s,_,hy,hr,_,e=>absurd (hy b zq) (hr b _ e)
 |a::x,[],r,s,hx,_,_,hs,e=>absurd (hx a zq) (hs a _ e.symm)
 |a::x,b::y,r,s,hx,hy,hr,hs,e=>by
  rw[Ak,Ak]at e;obtain⟨e1,d⟩:=List.cons.inj e;obtain⟨g,f⟩:=m4 (fun c m=>hx c (zp _ m)) (fun c m=>hy c (zp _ m)) hr hs d;exact⟨by rw[e1,g],f⟩
def En(r:List Nat):Prop:=∀c l,r=c::l->c=32\/c=41
theorem En.st{Q:Nat->Prop}{r:List Nat}(h:En r)(h1:¬Q 32)(h2:¬Q 41):St Q r:=fun c l e=>by
 rcases h c l e with rfl|rfl
 . exact h1
 . exact h2
theorem En.nil:En []:=fun c l e=>by cases e
theorem En.b(l:List Nat):En (32::l):=fun c m e=>by cases e;exact .inl rfl
theorem En.k(l:List Nat):En (41::l):=fun c m e=>by cases e;exact .inr rfl
theorem jq(cs:List (List Nat))(r:List Nat):En (spC cs++41::r):=by
 cases cs with
 |nil=>exact En.k r
 |cons c cs=>exact En.b _
theorem nl32:¬Ltr 32:=by unfold Ltr Trm.Ltr;omega
theorem nl41:¬Ltr 41:=by unfold Ltr Trm.Ltr;omega
theorem qL{α:Type}(c:α->List Nat){Q:α->Prop}:∀ {ts us:List α} {r s:List Nat},(∀t∈ts,∀u,Q u->∀r s,En r->En s->c t++r=c u++s->t=u/\r=s)->(∀u∈us,Q u)->
 spC (ts.map c)++41::r=spC (us.map c)++41::s->ts=us/\r=s
 | [],[],r,s,_,_,e=>by
  simp only[spC,AJ,List.flatten_nil,List.nil_append]at e;exact⟨rfl,(List.cons.inj e).2⟩
 | [],u::us,r,s,_,_,e=>by
  have e':41::r=32::(c u++spC (us.map c)++41::s):=by simpa [spC]using e
  cases e'
 |t::ts,[],r,s,_,_,e=>by
  have e':32::(c t++spC (ts.map c)++41::r)=41::s:=by simpa [spC]using e
  cases e'
 |t::ts,u::us,r,s,ht,hu,e=>by
  have e':32::(c t++(spC (ts.map c)++41::r))=32::(c u++(spC (us.map c)++41::s)):=by simpa [spC]using e
  obtain⟨e1,a⟩:=ht t zq u (hu u zq) _ _ (jq _ _) (jq _ _) (List.cons.inj e').2;obtain⟨b,d⟩:=qL c (fun t m=>ht t (zp _ m)) (fun u m=>hu u (zp _ m)) a;exact⟨by rw[e1,b],d⟩
theorem nm_cl{x:Str}(h:Nm x):∃c l,cl x=c::l/\Ltr c:=Trm.nm_cl h
theorem jH{x:Str}(h:Nm x):∀c∈cl x,Ltr c:=h.ltr
theorem wy{t:Tr}(h:Lt t):∀(u:Tr),Lt u->∀(r s:List Nat),En r->En s->tmC t++r=tmC u++s->t=u/\r=s:=by
 induction h with
 |nm x hx=>
  intro u hu r s hr hs e
  cases hu with
  |nm y hy=>
   unfold s_ at e ⊢;rw[eK,eK]at e;obtain⟨e1,a⟩:=m4 (jH hx) (jH hy) (hr.st nl32 nl41) (hs.st nl32 nl41) e;exact⟨by rw[cl_inj e1],a⟩
  |ap g us b h0 hu=>
   unfold s_ at e;rw[eK,dU]at e;obtain⟨c,l,q,hc⟩:=nm_cl hx;rw[q,Ak]at e;have:c=40:=(List.cons.inj e).1;subst this;unfold Ltr Trm.Ltr at hc;omega
 |ap f ts k h0 ht m=>
  intro u hu r s hr hs e
  cases hu with
  |nm y hy=>
   unfold s_ at e;rw[eK,dU]at e;obtain⟨c,l,q,hc⟩:=nm_cl hy;rw[q,Ak]at e;have:40=c:=(List.cons.inj e).1;subst this;unfold Ltr Trm.Ltr at hc;omega
  |ap g us b j hu=>
   unfold s_ at e ⊢;rw[dU,dU,eJ,eJ]at e;have e':cl f++(spC (ts.map tmC)++41::r)=cl g++(spC (us.map tmC)++41::s):=by simpa using e
   obtain⟨e1,a⟩:=m4 (jH k) (jH b) ((jq _ _).st nl32 nl41) ((jq _ _).st nl32 nl41) e';obtain⟨d,i⟩:=qL tmC m hu a;exact⟨by rw[cl_inj e1,d],i⟩
end Tw
namespace Fs
section
variable{α:Type}
end
end Fs
namespace Tw
open PySem L2 Tre Wd Mth Dec Su
end Tw
namespace Fm
open PySem L2 Tre Wd Mth Dec Su Tw
inductive Gt:Tr->Prop
 |nm (x:Str):Nm x->Gt (.tup [s_ "name", .str x])
 |ap (f:Str) (ts:List Tr):Nm f->0 < ts.length->ts.length<=3->(∀t∈ts,Gt t)->Gt (.tup [s_ "call", .str f, .tup ts])
theorem Gt.lt{t:Tr}(h:Gt t):Lt t:=by
 induction h with
 |nm x hx=>exact .nm x hx
 |ap f ts a h0 h3 _ b=>exact .ap f ts a h0 b
theorem Gt.ty{t:Tr}(h:Gt t):Ty .tm t:=by
 induction h with
 |nm x hx=>exact .nm x
 |ap f ts b h0 h3 _ a=>exact .ap f ts h3 a
theorem Gt.inj{t u:Tr}(h:Gt t)(h':Gt u)(e:tmC t=tmC u):t=u:=(wy h.lt u h'.lt [] [] En.nil En.nil (by rw[e])).1
theorem sub_len{α:Type}:∀ {l U:List α},l.Nodup->(∀x∈l,x∈U)->l.length<=U.length
 | [],U,_,_=>zY _
 |x::l,U,h,hs=>by
  obtain⟨h1,h2⟩:=AG.mp h;obtain⟨a,b,rfl⟩:=List.append_of_mem (hs x zq)
  have:l.length<=(a++b).length:=sub_len h2 fun y c=>by
   have:=hs y (zp _ c);simp only[A9,zJ]at this ⊢;rcases this with h|rfl|h
   . exact .inl h
   . exact absurd c h1
   . exact .inr h
  simp only[A6,zV]at this ⊢;omega
open Classical in
noncomputable def ix(us:List Tr)(t:Tr):Nat:=us.findIdx fun x=>decide (x=t)
open Classical in
theorem oh{us:List Tr}{t:Tr}(m:t∈us):us[ix us t]?=some t:=by
 unfold ix;have h:us.findIdx (fun x=>decide (x=t)) < us.length:=List.findIdx_lt_length_of_exists ⟨t,m,by simp⟩
 have:=List.findIdx_getElem (w:=h);rw[zo h];exact congrArg some (of_decide_eq_true this)
theorem z6{us:List Tr}{t:Tr}(m:t∈us):ix us t < us.length:=(zv.mp (oh m)).1
theorem sW{α:Type}{l:List α}(h:l.Nodup){i j:Nat}{x:α}(h1:l[i]?=some x)(h2:l[j]?=some x):i=j:=by
 obtain⟨hi,e1⟩:=zv.mp h1;obtain⟨b,a⟩:=zv.mp h2;have n:=Al.mp h;rw[An]at n;rcases Nat.lt_trichotomy i j with q|q|q
 . exact absurd (e1.trans a.symm) (n i j hi b q)
 . exact q
 . exact absurd (a.trans e1.symm) (n j i b hi q)
theorem ix_eq{us:List Tr}(nd:us.Nodup){i:Nat}{t:Tr}(e:us[i]?=some t):ix us t=i:=sW nd (oh (zw e)) e
end Fm
namespace L2
open PySem PySem.Spec PyProof.Rows Zp
def Ite(K:PySem.W.Frag)(a:Addr):It:=
 ⟨fun i H=>∃xs x,SqL K H a xs/\xs[i]?=some x,
  fun i H v H'=>∃T x,v= .ref T/\H T=none/\H'=upd H T (.tup [.int i,x])/\(∀xs,SqL K H a xs->xs[i]?=some x)/\i < sizeLine,
  fun i H=>∃xs,SqL K H a xs/\xs.length<=i⟩
theorem oG{P:Program}{w:World}{K:PySem.W.Frag}{es:List Expr}{kk:Nat}{pos:Pos}(a e it:Addr)(hd:e≠it):
 Turn P w K (.Tuple es kk pos) (Ite K a) [e,it] e (fun i h=>(∃old,IsEnum h e it i old)/\h.IsListIter it a i/\a∉ [e,it]) where
 mem:=by simp
 obj:=fun i h ⟨⟨u,h1⟩,h2,_⟩ c hc=>by
  simp only[zJ,Ab,or_false]at hc;rcases hc with rfl|rfl
  . exact⟨_,h1,fun v e=>by cases (show Data.fields _=Data.cell v from e)⟩
  . refine hZq fun q_ e_=>?_;obtain⟨o,e1,_,e3⟩:=h2;subst e_;exact⟨o,e1,fun v e=>by rw[e3]at e;cases e⟩
 keep:=fun i h h' ⟨⟨u,h1⟩,h2,h3⟩ kp=>⟨⟨u,kp e (by simp) _ h1⟩,h2.at fun o x=>kp it (by simp) o x,h3⟩
 item:=by
  intro X hP hw z hc i pins s σ H E I r ⟨⟨u0,h1⟩,h2,y⟩ t;subst hP hw z;refine hZq fun q_ e_=>?_;obtain⟨xs,x,k,j⟩:=t;obtain⟨as,r1,l,z1⟩:=I.list k;obtain⟨u,e1,q1⟩:=r1.get j;subst e_;have l:=l.isList;simp only[zJ,Ab,or_false,not_or]at y;refine wpAny_pyNext_enum_item h1 h2 l (x:=u) (by simpa using e1) hd fun h' a1 a3 a5 a6 up=>⟨_,rfl,?_⟩
  refine wpAny_letOwnedTupleGo_enum (s:= {s with heap:=h',toks:=s.toks+1}) a1 fun g b1 sb=>?_;have fr:H s.heap.objs.size=none:=I.hok.fresh (zu _);have lt:∀ {c:Addr} {o:Obj},s.heap.get? c=some o->c≠s.heap.objs.size:=fun e=>zO (Heap.lt_size e)
  have all:∀c o,c∉ [e,it]->s.heap.get? c=some o->g.get? c=some o:=fun c o n f=>by
   simp only[zJ,Ab,or_false,not_or]at n;exact sb.extBut c o n.1 (up c o n.1 n.2 f)
  have nz:s.heap.objs.size≠e:=(lt h1).symm;have pT:g.get? s.heap.objs.size=some {cls:= .type "tuple",data:= .seq #[.int i s.toks,u]}:=sb.extBut _ _ nz a5
  have fp:∀b∈ [e,it],upd H s.heap.objs.size (.tup [.int i,x]) b=none:=fun c hc=>by
   have nc:c≠s.heap.objs.size:=by
    simp only[zJ,Ab,or_false]at hc;rcases hc with rfl|rfl
    . exact lt h1
    . obtain⟨o,f,_⟩:=h2;exact lt f
   rw[ae nc];exact(r c hc).1
  refine⟨.ref s.heap.objs.size,upd H s.heap.objs.size (.tup [.int i,x]),?_,rfl,⟨_,x,rfl,fr,rfl,fun zs hz=>?_,A5 (zv.mp j).1 z1⟩,⟨⟨u,by simpa using b1⟩,?_,?_⟩,fp⟩
  ·
   refine I.call' (s':= {s with heap:=g,toks:=s.toks+1}) (ch:= [e,it]) rfl ⟨fun b o e _ _ hx=>all b o hx e,fun b o e _ _ hx=>⟨o.slots,all b o hx e⟩,fun c o e n _=>by rw[ae (lt e)];exact n,fun b o e hx=>⟨o,all b o hx e⟩,fun c zs e=>by rw[ae (av e fr)];exact e,fun c o zs e=>by rw[ae (av e fr)];exact e,fun c ps e=>⟨#[],by rw[ae (av e fr),e];simp⟩⟩ ?_ I.bare fun b hb=>?_
   . intro c o f;by_cases p:c=s.heap.objs.size
     . subst p;rw[a8]at f;cases f;exact⟨by show 2<=sizeLine;decide,[.int i s.toks,u], .cons ⟨_,rfl⟩ (.cons q1 .nil),⟨_,pT,rfl,_,rfl⟩⟩
     . rw[ae p]at f;have nb:∀c u,H c=some u->c∉ [e,it]:=fun c u e hz=>by rw[(r c hz).1]at e;cases e
       refine(I.hok c o f).stay (fun d v hc q=>all d v ?_ q) (fun d q=>?_) fun d m q=>?_
       . rcases hc with hz|hz
         . rw[hz];exact nb c o f
         . exact nb d _ hz
       . rw[ae (av q fr)];exact q
       . rw[ae (av q fr)];exact q
   . refine hZq fun q_ e_=>?_;obtain⟨g0,k,g2,j,g4,g5⟩:=r b hb;subst e_;exact⟨j,k,g4,g5⟩
  . rw[I.list_inj hz k];exact j
  . exact a3.extBut sb.extBut hd.symm
  . simpa using y
 done:=by
  intro X hP hw z hc i pins s σ H E I r ⟨⟨u0,h1⟩,h2,y⟩ t;subst hP hw z;refine hZq fun q_ e_=>?_;obtain⟨xs,k,j⟩:=t;obtain⟨as,r1,l,z1⟩:=I.list k;subst e_;have hl:=r1.length;refine wpAny_pyNext_enum_end (I.ok.hd hc) h1 h2 l.isList (by simp;omega) fun h' up=>⟨rfl,I.turneds (t':=s.toks) (fun c o n f=>?_) r⟩
  simp only[zJ,Ab,or_false,not_or]at n;exact up c o n.2 f
 self:=fun _ _ _ _ _ st h=>by
  obtain⟨⟨u,h1⟩,_⟩:=st;exact wpAny_pyIter_enum h1 h
section
variable{X:Cx}
def wg(K:PySem.W.Frag)(ta:TA):TI:=fun σ H R=>ta σ H fun vs H1=>∃a xs,vs= [.ref a]/\SqL K H1 a xs/\R (Ite K a) H1
theorem va{es:List Expr}{kk:Nat}{pt:Pos}{x:Expr}{ta:TA}{p pos:Pos}(hg:Gl X "enumerate")(hm:X.mg "enumerate"=none)(ha:PA X [x] ta)(hs:starEach [x] X.env= [(false,eval x X.env)]:=by rfl):
 PI X (.Tuple es kk pt) (.Call (.Name "enumerate" p) [x] [] pos) (wg X.K ta):=by
 intro pins s σ H R I h;refine Call_ (eF I hg hm PyProof.Rows.boot_enumerate (PyProof.Rows.callWith_type1 (thn (ha pos pins s σ H _ I h) fun us s1 ⟨vs,H1,d,r1,k⟩=>?_) (by rw[hs];rfl) rfl))
 refine hZq fun q_ e_=>?_;obtain⟨a,xs,e,k1,q⟩:=k;subst e_;subst e
 cases r1 with
 |cons r i=>
  cases i;cases r;refine hZq fun q_ e_=>?_;obtain⟨as,_,b,_⟩:=d.list k1;subst e_;have b:=b.isList
  have f:a < s1.heap.objs.size:=by
   obtain⟨o,e,_⟩:=b;exact Heap.lt_size e
  refine call_enumerate_list b fun h' h1 h2 sz up=>?_;refine wpAny_pyIter_enum (s:= {s1 with heap:=h'}) h1 ?_;have g:∀j,a≠s1.heap.objs.size+j:=fun j=>zO (A5 f (AT ..))
  have le:∀c∈ [s1.heap.objs.size+1,s1.heap.objs.size+0],s1.heap.objs.size<=c:=fun c hc=>by
   simp only[zJ,Ab,or_false]at hc;rcases hc with rfl|rfl<;>exact AT ..
  refine⟨s1.heap.objs.size+1,[s1.heap.objs.size+1,s1.heap.objs.size+0],_,_,H1,rfl,d.kept (t':=s1.toks) up,oG a _ _ (by simp),⟨⟨_,h1⟩,h2,?_⟩,fun c hc=>d.fpOk (le c hc) (d.hok.fresh (le c hc)),q⟩
  simp only[zJ,Ab,or_false,not_or];exact⟨g 1,g 0⟩
end
end L2
namespace L2
section
open PySem
variable{prog:Program}{w:World}{A:Around}{R:Result->Shared->Prop}{s:Shared}
theorem fP{kx vx target iter:Expr}{ifs:List Expr}{scope:Scope}{pos:Pos}{it:Value}{D:Addr}{env:Env}(I:Nat->Shared->Prop)(turn:∀n s,I n s->wpAny (model prog w) A (pyNext it) (fun r s₁=>match r with
  |none=>R (.ok .next) s₁
  |some v=>wpAny (model prog w) A (letOwnedTupleGo target it v) (fun _ s₁'=>wpAny (model prog w) A (assign target env v) (fun _ s₂=>
   wpAny (model prog w) A (forIn ifs true fun c r=>if r=true then do let ok<-isTrue c env (eval c env);pure (ForInStep.yield ok)else pure (ForInStep.yield r)) (fun ok s₃=>
    if ok=true then wpAny (model prog w) A (eval kx env) (fun kv s₄=>wpAny (model prog w) A (eval vx env) (fun vv s₅=>
     wpAny (model prog w) A (dictSet D kv vv) (fun _ s₆=>∃m,m < n/\I m s₆) (fun _ _=>False) s₅) (fun _ _=>False) s₄) (fun _ _=>False) s₃
    else∃m,m < n/\I m s₃) (fun _ _=>False) s₂) (fun _ _=>False) s₁') (fun _ _=>False) s₁) (fun _ _=>False) s)(n:Nat)(h:I n s):codeAny (model prog w) A (.compLoop (.DictComp kx vx [⟨target,iter,ifs,0⟩] scope pos) 0 it (.ref D) env) R s:=by
 refine codeAny_loop rfl I (fun n s f=>?_) n h;show wpAny _ A ((compTurn (.DictComp kx vx [⟨target,iter,ifs,0⟩] scope pos) 0 it (.ref D) env).onRaise (fun x=>do noteFrame x env;theTreesLotGoes x)) _ _ s
 refine wpAny_noted ?_;rw[compTurn_dict];refine wpAny_bind (wpAny_standAt (wpAny_bind (wpAny_mono (turn n s f) (fun r s₁ d=>?_) fun _ _ z=>z.elim)))
 cases r with
 |none=>exact wpAny_pure d
 |some v=>
  refine wpAny_bind (wpAny_mono d (fun _ s₁' a=>?_) fun _ _ z=>z.elim);refine wpAny_bind (wpAny_mono a (fun _ s₂ i=>wpAny_bind (wpAny_mono i (fun ok s₃ b=>?_) fun _ _ z=>z.elim)) fun _ _ z=>z.elim)
  cases ok with
  |false=>exact wpAny_pure ⟨rfl,b⟩
  |true=>
   exact wpAny_bind (wpAny_bind (wpAny_mono b (fun kv s₄ j=>wpAny_bind (wpAny_holding (wpAny_mono j (fun vv s₅ g=>wpAny_bind (wpAny_standAt (wpAny_holding (wpAny_mono g (fun _ s₆ e=>wpAny_pure ⟨rfl,e⟩) fun _ _ z=>z.elim)))) fun _ _ z=>z.elim))) fun _ _ z=>z.elim))
end
open PySem PySem.Spec PyProof.Rows
def lT(mp:List (Option Nat))(wi:TI)(g:TG)(tc:TT)(tk te:TE):TE:=fun σ H Q=>wi σ H fun J H1=>∀D,H1 D=none->
 ∃W:Nat->Nat->List (Key×V)->Hp->Prop,(∃m,W 0 m [] (upd H1 D (.dK [])))/\∀i m acc H2,W i m acc H2->
  (J.stop i H2/\Q (.ref D) H2)\/
  (J.go i H2/\∀x H3,J.yld i H2 x H3->g x (subS mp σ) H3 fun σ4 H4=>Ext (subS mp σ) σ4/\tc σ4 H4 fun b H5=>if b=true then tk σ4 H5 fun y H6=>∃k,y=kV k/\te σ4 H6 fun v H7=>H7 D=some (.dK acc)/\acc.length < sizeLine/\∃m',m' < m/\W (i+1) m' (putK acc k v) (upd H7 D (.dK (putK acc k v)))
   else∃m',m' < m/\W (i+1) m' acc H5)
section
variable{X:Cx}{pins:List (Addr×Obj)}{σ:St}{H:Hp}{s:Shared}
variable{kx vx target iter:Expr}{ifs:List Expr}{scope:Scope}{NC:List Str}{mp:List (Option Nat)}{pos:Pos}{wi:TI}{g:TG}{tc:TT}{tk te:TE}
theorem sG(hcalm:X.calm=true)(hi:PI X target iter wi)(hg:∀C s H fp pn,PG (XC X scope NC C s H fp pn) target g)(ht:∀C s H fp pn,PTs (XC X scope NC C s H fp pn) ifs tc)(hkx:∀C s H fp pn,PE (XC X scope NC C s H fp pn) kx tk)(he:∀C s H fp pn,PE (XC X scope NC C s H fp pn) vx te)(hl:mp.length=NC.length:=by rfl)(hm:hX X.N NC mp scope.names X.env.scope.names=true:=by rfl)(hc:bJ scope.names X.env.cells=true:=by rfl)(hk:scope.kind= .function:=by rfl)(hnc:∀y∈scope.names,y.2≠ .cell:=by decide +kernel)(hnm:∀y∈scope.names,y.2= .local->scope.names.lookup y.1=some .local:=by decide +kernel)(hs:∀x,foldedSetIterable iter X.env x=pure x:=by intro _;rfl):
 PE X (.DictComp kx vx [⟨target,iter,ifs,0⟩] scope pos) (lT mp wi g tc tk te):=by
 intro pins s σ H Q I h;rw[arm_eval_DictComp];refine wpAny_comprehension_free (use:=none) rfl hs (gj hc) hk hnm (thn (hi pins s σ H _ I h) fun v s1 h1=>thn h1 fun dH f h2=>?_);refine hZq fun q_ e_=>?_;obtain⟨it,fp,tn,J,H2,e,I2,T,a6,f2,W⟩:=h2;subst e_;subst e;refine wpAny_newObj_type ?_;have nD:H2 f.heap.objs.size=none:=I2.hok.fresh (zu _)
 have I3:Inv X pins σ (upd H2 f.heap.objs.size (.dK [])) {f with heap:=f.heap.push {cls:= .type "dict",data:= .dict #[]}}:=
  I2.laid (t':=f.toks) (fun b u e=>Heap.get?_push_of_some _ e) (zu _) (kU f.heap I2.big)
 refine hZq fun q_ e_=>?_;obtain⟨W,⟨m0,w0⟩,turn⟩:=W _ nD;subst e_
 have a7:∀b∈fp,b < f.heap.objs.size:=fun b hb=>by
  obtain⟨o,e,_⟩:=T.obj 0 _ a6 b hb;exact Heap.lt_size e
 have cI:∀b∈fp,b≠f.heap.objs.size:=fun b hb=>zO (a7 b hb)
 have f3:∀b∈fp,FpOk X pins (upd H2 f.heap.objs.size (.dK [])) b:=fun b hb=>by
  obtain⟨g0,g1⟩:=f2 b hb;exact⟨by rw[ae (cI b hb)];exact g0,g1⟩
 have bj:tn 0 (f.heap.push {cls:= .type "dict",data:= .dict #[]}):=T.keep 0 _ _ a6 fun b _ o e=>Heap.get?_push_of_some _ e
 have a3:∀b∈fp,b < (f.heap.push {cls:= .type "dict",data:= .dict #[]}).objs.size:=fun b hb=>by
  rw[Heap.size_push];exact Aq (a7 b hb)
 generalize hD:f.heap.objs.size=D at*;generalize cb:({f with heap:=f.heap.push {cls:= .type "dict",data:= .dict #[]}}:Shared)=a at*;have bI:a.heap=f.heap.push {cls:= .type "dict",data:= .dict #[]}:=by rw[<-cb]
 rw[<-bI]at bj a3;generalize dr:upd H2 D (.dK [])=H3 at*;refine wpAny_newFunctionEnv (around:=some X.env) hnc (by intro y hy;cases hy) (fun h4 c8 bx=>?_) hk
 have bC:∀b o,a.heap.get? b=some o->h4.get? b=some o:=fun b o e=>bx.extBut b o (zO (Heap.lt_size e)) (Heap.get?_push_of_some _ e);have I4:=I3.block (tk:=a.toks+([]:List (Str×Value)).length) f3 a3 hk hnc hc hl hm bC c8;have bw:tn 0 h4:=T.keep 0 _ _ bj fun b _ o e=>bC b o e
 have fin:∀(s5:Shared) (σ5:St) (H5:Hp),Inv (XC X scope NC a.heap.objs.size a H3 fp (X.pn++pins)) [] σ5 H5 s5->Q (.ref D) H5->compPost (model X.prog X.w) X.A X.xe none (EP X pins σ Q) (.ref D) a.heap.objs.size (.ok .next) s5:=by
  intro s5 σ5 H5 I5 q5;obtain⟨m5,b6,_⟩:=id I5.loc;refine⟨m5,b6,fun h6 c2=>⟨.ref D,H5,?_,rfl,q5⟩⟩;have au:∀b o,b≠a.heap.objs.size->s5.heap.get? b=some o->h6.get? b=some o:=fun b o hb e=>c2.extBut b o hb e;have nC:∀b o,a.heap.get? b=some o->b≠a.heap.objs.size:=fun b o e=>zO (Heap.lt_size e);have un:Un (frs X.stack) fp H3 H5 a.heap s5.heap:=I5.base;have j:H5 a.heap.objs.size=none:=I5.free;refine I3.call' (s':= {s5 with heap:=h6}) (ch:=fp) I5.os ⟨fun b o e n hb hx=>au b o (nC b o e) (un.keep b o e n hb hx),fun b o e n hb hx=>?_,un.free,fun b o e hx=>?_,un.tups,un.frzs,un.tbls⟩ ?_ I5.bare (fun b hb=>?_)
  . obtain⟨sl,e1⟩:=un.slot b o e n hb hx;exact⟨sl,au b _ (nC b o e) e1⟩
  . obtain⟨o',e1⟩:=un.there b o e hx;exact⟨o',au b o' (nC b o e) e1⟩
  . intro b o e;have nb:b≠a.heap.objs.size:=fun z=>by rw[z,j]at e;cases e
    refine(I5.hok b o e).stay (fun c v b4 r=>au c v ?_ r) (fun _ r=>r) fun _ _ r=>r;rcases b4 with z|z
    . rw[z];exact nb
    . intro y;rw[y,j]at z;cases z
  . refine hZq fun q_ e_=>?_;obtain⟨g0,g1,g2,g3,g4,g5⟩:=f3 b hb;subst e_;exact⟨g3,g1,g4,g5⟩
 have loop:codeAny (model X.prog X.w) X.A (.compLoop (.DictComp kx vx [⟨target,iter,ifs,0⟩] scope pos) 0 (.ref it) (.ref D) (compEnvC scope (bZ scope.names X.env.cells []) a.heap.objs.size X.env)) (compPost (model X.prog X.w) X.A X.xe none (EP X pins σ Q) (.ref D) a.heap.objs.size)
  {a with heap:=h4,toks:=a.toks+([]:List (Str×Value)).length}:=by
  refine fP (fun n s'=>∃i acc σ' H',Inv (XC X scope NC a.heap.objs.size a H3 fp (X.pn++pins)) [] σ' H' s'/\Ext (subS mp σ) σ'/\tn i s'.heap/\(∀b∈fp,H' b=none)/\W i n acc H') ?_ m0
   ⟨0,[],subS mp σ,H3,I4,fun _ _ e=>e,bw,fun b hb=>(f3 b hb).1,w0⟩
  intro n s5 z_;refine hZq fun q_ e_=>?_;obtain⟨i,acc,σ5,H5,I5,hσ,a5,bg,w5⟩:=z_;subst e_;have bb:Inv (XC X scope NC a.heap.objs.size a H3 fp (X.pn++pins)) [] (subS mp σ) H5 s5:=I5.weak (by rw[I5.len];unfold subS;rw[zm];exact hl) hσ
  have a4:∀ {H':Hp},(∀b∈fp,H' b=none)->∀b∈fp,FpOk (XC X scope NC a.heap.objs.size a H3 fp (X.pn++pins)) [] H' b:=fun hn b hb=>by
   refine hZq fun q_ e_=>?_;obtain⟨g0,g1,g2,g3,g4,g5⟩:=f3 b hb;subst e_;refine⟨hn b hb,zO (a3 b hb),?_, .inl hb,(I4.ok.exf b hb).2,fun p hp=>g5 p (by simpa using hp)⟩
   exact I4.ok.exfs b hb
  rcases turn i n acc H5 w5 with⟨stop,q⟩|⟨go,step⟩
  . refine thn (T.done (XC X scope NC a.heap.objs.size a H3 fp (X.pn++pins)) rfl rfl rfl hcalm i [] s5 _ H5 (fun _ _=>False) bb (a4 bg) a5 stop) fun r s6 ⟨hr,I6⟩=>?_;subst hr;exact fin s6 _ H5 I6 q
  . refine thn (T.item (XC X scope NC a.heap.objs.size a H3 fp (X.pn++pins)) rfl rfl rfl hcalm i [] s5 _ H5 (fun _ _=>False) bb (a4 bg) a5 go) fun r s6 ⟨u,hr,h6⟩=>?_;subst hr;refine thn h6 fun _ s7 ⟨x,H7,I7,r7,y7,a2,cp⟩=>?_;have c3:=I7.pinned (a4 cp) (T.obj _ _ a2);refine thn (hg _ _ _ _ _ _ s7 _ H7 x u _ c3 r7 (step x H7 y7)) fun _ s8 ⟨σ8,H8,I8,aT,q8⟩=>?_;refine thn (ht _ _ _ _ _ _ s8 σ8 H8 _ I8 q8) fun ok s9 ⟨H9,I9,q9⟩=>?_
    have again:∀ {σ':St} {H':Hp} {s':Shared} {l:List (Key×V)} {m':Nat},Inv (XC X scope NC a.heap.objs.size a H3 fp (X.pn++pins)) ([]++dF fp s7.heap) σ' H' s'->Ext (subS mp σ) σ'->m' < n->W (i+1) m' l H'->
     ∃m,m < n/\∃i acc σ' H',Inv (XC X scope NC a.heap.objs.size a H3 fp (X.pn++pins)) [] σ' H' s'/\Ext (subS mp σ) σ'/\tn i s'.heap/\(∀b∈fp,H' b=none)/\W i m acc H':=by
     intro σ' H' s' l m' I' cm t w';refine⟨m',t,i+1,l,σ',H',I'.unpinned,cm,T.keep _ _ _ a2 fun b hb o e=>(I'.pin (b,o) (zR _ (zR _ (aZ hb e)))).1,fun b hb=>?_,w'⟩;obtain⟨o,e,d⟩:=T.obj _ _ a2 b hb;exact(I'.pin (b,o) (zR _ (zR _ (aZ hb e)))).2.1
    cases ok with
    |false=>
     rw[if_neg zX]at q9;rw[if_neg zX];obtain⟨m',t,w'⟩:=q9;exact again I9 aT t w'
    |true=>
     rw[if_pos rfl]at q9;rw[if_pos rfl];refine thn (hkx _ _ _ _ _ _ s9 σ8 H9 _ I9 q9) fun kv b8 ⟨y,b7,bR,bF,k,ek,qv⟩=>?_;subst ek;refine thn (he _ _ _ _ _ _ b8 σ8 b7 _ bR qv) fun v dl ⟨z,dI,bB,cn,a1,hz,m',t,w'⟩=>?_;refine hZq fun q_ e_=>?_;obtain⟨z1,bY,c4,aC,dj⟩:=oo bB.hok a1;subst e_;have cd:c4.length<=sizeLine:=by rw[<-aC.length];exact z1
     have db:(putK acc k z).length<=sizeLine:=by have:=fK acc k z;omega
     refine wpAny_dictSet_pairs (hsz:=cd) (og bF) dj fun h' bi hs=>?_;have bT:∃q,h'.get? D=some q:=let ⟨q,_,_,hq,_⟩:=bi;⟨q,hq⟩;exact again (ge bB (by rw[a1];exact True.intro) hs bT (u9 db bY (aC.put k cn) bi)) aT t w'
 exact codeAny_compStart_dict loop (T.self _ 0 _ _ _ bw loop)
end
end L2
namespace L2
section
open PySem
variable{prog:Program}{w:World}{A:Around}{R:Result->Shared->Prop}{s:Shared}
end
open PySem PySem.Spec PyProof.Rows
section
variable{X:Cx}{pins:List (Addr×Obj)}{σ:St}{H:Hp}{s:Shared}
variable{elt target iter t2 i2:Expr}{scope:Scope}{NC:List Str}{mp:List (Option Nat)}{pos:Pos}{wi:TI}{g:TG}{wi2:TI}{g2:TG}{te:TE}
end
end L2
namespace Dj
open PySem PySem.Spec PySem.W PyProof.Rows L2 Tre
def RawD(h:Heap)(d:Addr)(es:Array DictEntry)(ep:Nat):Prop:=∃o,h.get? d=some o/\o.ExactDict/\o.data= .dict es ep
section
variable{prog:Program}{w:World}{A:Around}{E:Value->Shared->Prop}{s:Shared}{d it:Addr}{es:Array DictEntry}{ep:Nat}
theorem RawD.ty(x:RawD s.heap d es ep):s.TypeIs (.ref d) "dict":=by
 obtain⟨o,h1,h2,_⟩:=x;exact⟨o,h1,h2.1⟩
end
open PySem PySem.Spec PySem.W PyProof.Rows L2 Tre Srt
section
variable{prog:Program}{w:World}{A:Around}{E:Value->Shared->Prop}{s:Shared}{T:String}{r d:Addr}{n:Nat}{P:Nat->Value->Prop}{OK:Heap->Prop}
theorem lj{Q:List Value->Shared->Prop}(K:KdlSrc prog w T r d n P OK)(hh:A.handled=none)(hok:OK s.heap)(hn:n<=sizeLine)(hQ:∀h' tk (acc:Array Value),(∀b o,s.heap.get? b=some o->h'.get? b=some o)->s.heap.objs.size < h'.objs.size->ItemsOf P acc n->Q acc.toList {s with heap:=h',toks:=tk}):wpAny (model prog w) A (collect (.ref r)) Q E s:=by
 have h:=K.there _ hok;unfold collect;refine wpAny_bind (wpAny_runValue (codeAny_builtin PySem.F.entry_proto_collect ?_));rw[Around.under_plainId PySem.F.plain_proto_collect _];show wpAny _ A.in1 (newList [] >>=fun l=>again (.builtin "list.__iadd__" ⟨[l, .ref r],[]⟩)) _ _ s;refine wpAny_bind (wpAny_newObj_type (wpAny_pure ⟨plainId_quiet PySem.F.plain_list_iadd _,codeAny_builtin PySem.F.entry_list_iadd ?_⟩));rw[Around.under_plainId PySem.F.plain_list_iadd _];have i:(s.heap.push {cls:= .type "list",data:= .seq ([]:List Value).toArray}).get? s.heap.objs.size=some {cls:= .type "list",data:= .seq ([]:List Value).toArray}:=Heap.get?_push_size _ rfl;show wpAny _ A.in1 (Builtin.List.listExtendWith (.ref s.heap.objs.size) (.ref r) (.ref s.heap.objs.size)) _ _ _
 refine kdl_extend (R:=fun r' s'=>match r' with
  | .ok (.ret v)=>wpAny (model prog w) A (match v with
   | .ref a=>do match (<-load a).data with
    | .seq xs _=>pure xs.toList
    |_=>unsupported "internal:collect"
   |_=>unsupported "internal:collect") Q E s'
  | .ok _=>False
  | .error e=>E e s') (s:= {s with heap:=s.heap.push {cls:= .type "list",data:= .seq ([]:List Value).toArray}}) K hh (K.keep _ _ hok fun b _ o e=>Heap.get?_push_of_some _ e) _ (Nat.ne_of_gt h.1) (Nat.ne_of_gt h.2) _ _ i (fun h' tk f j hk g c=>?_) hn
 show wpAny _ A (load s.heap.objs.size >>=_) _ _ _;refine wpAny_bind (wpAny_load g (wpAny_pure (hQ h' tk f (fun b o e=>hk b o (zO (Heap.lt_size e)) (Heap.get?_push_of_some _ e)) (Heap.lt_size g) c)))
end
section
variable{prog:Program}{w:World}{A:Around}{E:Value->Shared->Prop}{s:Shared}{lt:Nat->Nat->Bool}{κ:SortKind}
theorem iL{l:Addr}{vs:List Value}{Q:Value->Shared->Prop}(O:Ord lt)(h64:vs.length < 64)(hcol:∀Q':List Value->Shared->Prop,(∀h' tk,(∀b o,s.heap.get? b=some o->h'.get? b=some o)->s.heap.objs.size < h'.objs.size->Q' vs {s with heap:=h',toks:=tk})->wpAny (model prog w) A.in1 (collect (.ref l)) Q' E s)(hkind:2<=vs.length->∀h' tk,(∀b o,s.heap.get? b=some o->h'.get? b=some o)->∀(E':Value->Shared->Prop) (R:SortKind->Shared->Prop),R κ {s with heap:=h',toks:=tk}->wpAny (model prog w) A.in1.in1 (keyKind' vs.toArray) R E' {s with heap:=h',toks:=tk})(hask:∀h' tk,(∀b o,s.heap.get? b=some o->h'.get? b=some o)->∀i j (R:Bool->Shared->Prop),i < vs.length->j < vs.length->R (lt i j) {s with heap:=h',toks:=tk}->kas_ask prog w A.in1.in1 κ vs i j R {s with heap:=h',toks:=tk})(h:∀p:Array Nat,Pm vs.length p->Up lt p vs.length->∀h' tk D e,(∀b o,s.heap.get? b=some o->h'.get? b=some o)->s.heap.objs.size<=D->h'.get? D=some (seqObj "list" (List.toArray (p.toList.map fun i=>vs.getD i Value.none)) e)->Q (.ref D) {s with heap:=h',toks:=tk}):
 wpAny (model prog w) A (call (.builtin "sorted") [.ref l]) Q E s:=by
 refine Calls.call_function_entry kind_sorted plain_sorted entry_sorted (args_sorted1 _) ?_;unfold Builtin.«sorted»;refine wpAny_bind (m:=checkCount "sorted" 1 1 _) (wpAny_pure (wpAny_bind (hcol _ fun h1 tk k1 sz=>?_)));refine wpAny_bind (wpAny_newList (s:= {s with heap:=h1,toks:=tk}) ?_ (by rw[sizeLine_eq];omega))
 have a:(h1.push (seqObj "list" vs.toArray 0)).get? h1.objs.size=some (seqObj "list" vs.toArray 0):=Heap.get?_push_size _ rfl;have keep:∀b o,s.heap.get? b=some o->(h1.push (seqObj "list" vs.toArray 0)).get? b=some o/\b≠h1.objs.size:=fun b o q=>⟨Heap.get?_push_of_some _ (k1 b o q),zO (Heap.lt_size (k1 b o q))⟩;show wpAny _ _ _ _ _ {s with heap:=h1.push (seqObj "list" vs.toArray 0),toks:=tk}
 refine wpAny_bind (wpAny_holding (wpAny_call_entry slot_list_sort ⟨_,a,rfl⟩ entry_list_sort (eh (s:= {s with heap:=h1.push (seqObj "list" vs.toArray 0),toks:=tk}) (lt:=lt) (κ:=κ) O a h64 (fun h2 h' st R c=>hkind h2 h' tk (fun b o e=>st b o (keep b o e).2 (keep b o e).1) _ R c)
  (fun h' st i j R hi d c=>hask h' tk (fun b o e=>st b o (keep b o e).2 (keep b o e).1) i j R hi d c) fun p f g=>⟨_,rfl,?_⟩) (args_list_sort _)))
 obtain⟨e,he⟩:=sortedHeap_at (out:=List.toArray (p.toList.map fun i=>vs.getD i Value.none)) a;refine wpAny_pure ⟨_,rfl,h p f g _ tk _ e (fun b o q=>?_) (Nat.le_of_lt sz) he⟩;rw[sortedHeap_old (keep b o q).2 (Heap.lt_size (keep b o q).1)];exact(keep b o q).1
end
theorem jN{prog:Program}{w:World}{A:Around}{s:Shared}{fin:Bool}{Q:Bool->Shared->Prop}:∀ {as bs:List Value} {q:List (Bool×Bool)} {i:Nat},0 < i->bD A s as bs q->Q (lexV fin q) s->KatLex prog w A true fin Q (as.zip bs) i s
 | [],_,q,i,_,h,hq=>by
  unfold bD at h;subst h;rw[List.zip_nil_left];exact kat_nil hq
 |_::_,[],q,i,_,h,hq=>by
  unfold bD at h;subst h;rw[List.zip_nil_right];exact kat_nil hq
 |a::as,b::bs,[],i,_,h,hq=>h.elim
 |a::as,b::bs,(e,l)::q,i,h0,h,hq=>by
  obtain⟨h1,h2,h3⟩:=h;rw[Ay];refine kat_cons (h1 prog w _ _ ?_)
  cases e with
  |true=>exact kat_yes (jN (by omega) (h3 rfl) hq)
  |false=>
   refine kat_no ?_
   have c:(true&&i==0)=false:=by
    cases i with
    |zero=>omega
    |succ i=>rfl
   rw[c];exact kat_one a b (h2 rfl prog w _ _ hq)
theorem vC{prog:Program}{w:World}{A:Around}{s:Shared}{fin:Bool}{Q:Bool->Shared->Prop}{x y:Str}{t u:Tok}{as bs:List Value}{q:List (Bool×Bool)}(h:bD A s as bs q)(hq:Q (lexV fin ((x==y,decide (x.cps.toList < y.cps.toList))::q)) s):KatLex prog w A true fin Q ((Value.str x t::as).zip (Value.str y u::bs)) 0 s:=by
 rw[Ay];refine kat_cons (SeqAt.EqAt.str_str x t y u prog w _ _ ?_)
 cases e:(x==y)with
 |true=>
  rw[e]at hq;exact kat_yes (jN (by decide) h hq)
 |false=>
  rw[e]at hq;refine kat_no ?_;exact oneLt_str hq
def Hs(t:Tr):Prop:=∃x r,t= .tup (.str x::r)
section
variable{X:Cx}{pins:List (Addr×Obj)}{σ:L2.St}{H:Hp}{s:Shared}
theorem o8(I:Inv X pins σ H s):∀ {vs:List V} {ts:List Tr} {as:List Value},TrsAt H vs ts->Vals vs as->(∀t∈ts,Hs t)->∃fs,KatTups s.heap as fs/\fs.length=as.length/\∀v∈fs,∃(x:Str) (t:Tok),v= .str x t
 |vs,[],as,h,r,_=>by
  unfold TrsAt at h;subst h;cases r;exact⟨[], .nil,rfl,fun v m=>by cases m⟩
 |vs,t::ts,as,h,r,hh=>by
  obtain⟨v,p,rfl,h1,h2⟩:=h.inv
  cases r with
  |cons r1 r2=>
   obtain⟨fs,c,d,f⟩:=o8 I h2 r2 fun u m=>hh u (zp _ m);obtain⟨x,j,rfl⟩:=hh t zq;unfold TrAt at h1;obtain⟨a,ws,rfl,g,k⟩:=h1;cases r1;obtain⟨y,i,rfl,k1,k2⟩:=k.inv;unfold TrAt at k1;subst k1;obtain⟨bs,o,n,b,ho,hc,hd⟩:=c5 I g
   cases b with
   |cons b l=>
    obtain⟨tk,rfl⟩:=b;refine⟨_,KatTups.cons ho hc hd rfl c,by simp[d],fun v m=>?_⟩
    rcases zJ.mp m with e|m
    . exact⟨x,tk,e⟩
    . exact f v m
end
end Dj
namespace L2
open PySem PySem.Spec PyProof.Rows
section
variable{X:Cx}
def yQ:V->List V->Hp->VK->Prop:=fun x vs H Q=>∃a kvs k v,x= .ref a/\vs= [kV k,v]/\H a=some (.dK kvs)/\kvs.length < sizeLine/\
 (∀z,valV kvs k=some z->Q z H)/\(valV kvs k=none->Q v (upd H a (.dK (kvs++ [(k,v)]))))
theorem iB:MtM X "dict.setdefault" yQ:=by
 intro pins s σ H x vs u us Q I g rv h;refine hZq fun q_ e_=>?_;obtain⟨a,kvs,k,v,rfl,rfl,f,hz,h1,h2⟩:=h;subst e_;cases g;refine hZq fun q_ e_=>?_;obtain⟨j,i,rfl,r1,r2⟩:=rv.two;obtain⟨z,hd,ws,b,dd⟩:=oo I.hok f;subst e_
 refine call_meetsIn PySem.F.slot_dict_setdefault dd.typeIs PySem.F.entry_dict_setdefault (PySem.F.args_dict_setdefault_3 _ _ _) (kt_meets_setdefault (aM X.prog X.w) a (og r1) hd i)
  ⟨ws,dd,by rw[<-b.length];exact z,fun q hq=>?_,fun hq h' d hs=>?_⟩
 . have c:=b.val k;rw[hq]at c
   cases e:valV kvs k with
   |none=>rw[e]at c;exact c.elim
   |some y=>rw[e]at c;exact⟨y,H,I.tok _,c,h1 y e⟩
 . have c:=b.val k;rw[hq]at c
   cases e:valV kvs k with
   |some y=>rw[e]at c;exact c.elim
   |none=>
    have he:∃q,h'.get? a=some q:=let ⟨q,_,_,hq,_⟩:=d;⟨q,hq⟩;have hp:=b.put k r2;rw[rS v e]at hp;exact⟨v,_,ge I (by rw[f];exact True.intro) hs he (u9 (by rw[A6,List.length_singleton];omega) hd hp d),r2,h2 e⟩
def jb(v d:Addr):HO:= .ext fun h=>h.IsValuesView v d
theorem uA{P:Program}{w:World}{H:Hp}{h:Heap}{v d:Addr}(x:h.IsValuesView v d):ObjOk P w H h v (jb v d):=by
 obtain⟨o,e,r⟩:=x;exact⟨⟨o,e,r⟩,⟨_,e⟩,fun _ _ ⟨o',y,c⟩ k=>⟨o',k _ y,c⟩⟩
def uS:V->List V->Hp->VK->Prop:=fun x vs H Q=>∃a kvs,x= .ref a/\vs= []/\H a=some (.dK kvs)/\∀v,H v=none->Q (.ref v) (upd H v (jb v a))
theorem oX:MtM X "dict.values" uS:=by
 intro pins s σ H x vs u us Q I c rv h;obtain⟨a,kvs,rfl,rfl,d,q⟩:=h;cases c;cases rv.zero;obtain⟨z,hd,ws,f,dd⟩:=oo I.hok d;refine call_meetsIn PySem.F.slot_dict_values dd.typeIs PySem.F.entry_dict_values (PySem.F.args_dict_values_1 _) (meets_dict_values (aM X.prog X.w) a hd) ⟨⟨ws,dd⟩,?_⟩;exact⟨.ref _,_,I.laid (t':=s.toks) (fun b ob e=>Heap.get?_push_of_some _ e) (zu _) (uA ⟨_,Heap.get?_push_size _ rfl,rfl,rfl⟩),rfl,q _ (I.hok.fresh (zu _))⟩
end
end L2
namespace Dj
open PySem PySem.Spec PySem.W PyProof.Rows L2 Tre Srt
section
variable{X:Cx}{pins:List (Addr×Obj)}{σ:L2.St}{H:Hp}{s:Shared}
def SrQ(H:Hp)(ts:List Tr)(Q:VK):Prop:=∀(D:Addr) (ws:List V) (us:List Tr),H D=none->us.Perm ts->TrsAt H ws us->(∀(i j:Nat) (t u:Tr),i<=j->us[i]?=some t->us[j]?=some u->ltT u t=false)->Q (.ref D) (upd H D (.lst ws))
theorem ku{Q:VK}{a:Addr}{as:List Value}{vs:List V}{ts:List Tr}(hu:X.A.units+60 < cLine)(I:Inv X pins σ H s)(rv:Vals vs as)(hT:TrsAt H vs ts)(hlen:ts.length < 64)(hts:∀t∈ts,Hs t/\t.pure/\t.depth<=40)(hcm:∀t∈ts,∀u∈ts,Cm t u)(hcol:∀(E:Value->Shared->Prop) (Q':List Value->Shared->Prop),(∀h' tk,(∀b o,s.heap.get? b=some o->h'.get? b=some o)->s.heap.objs.size < h'.objs.size->Q' as {s with heap:=h',toks:=tk})->wpAny (model X.prog X.w) X.A.in1 (collect (.ref a)) Q' E s)(q:SrQ H ts Q):wpAny (model X.prog X.w) X.A (call (.builtin "sorted") [.ref a]) (EP X pins σ Q) X.xe s:=by
 have l1:=hT.len;have l2:=rv.length;have O:Srt.Ord fun i j=>ltT (ts.getD i .non) (ts.getD j .non):=⟨fun a b h=>eW h,fun a b c h1 h2=>mh h1 h2⟩
 have at_:∀i,i < as.length->∃t v a,ts.getD i .non=t/\t∈ts/\TrAt H v t/\RelV v a/\as.getD i Value.none=a:=fun i hi=>by
  have l:i < ts.length:=by omega
  refine hZq fun q_ e_=>?_;obtain⟨v,e1,g⟩:=hT.get (i:=i) (t:=ts[i]) (zo l);obtain⟨a,e3,e4⟩:=rv.get e1;subst e_;exact⟨ts[i],v,a,by rw[zt,zo l];rfl,A4 l,g,e4,by rw[zt,e3];rfl⟩
 refine iL (κ:=tuples' true) (vs:=as) O (by omega) (fun Q' a5=>?_) (fun h2 h' tk kp E' R hR=>?_) (fun h' tk kp i j R hi hj hR=>?_) fun p hp a4 h' tk D e kp sz he=>?_
 . exact hcol _ Q' a5
 . have r:Inv X pins σ H {s with heap:=h',toks:=tk}:=I.kept (t':=tk) kp;refine hZq fun q_ e_=>?_;obtain⟨fs,k1,k2,k3⟩:=o8 r hT rv fun t m=>(hts t m).1;subst e_;refine kat_kind (T:=Value.type "str") k1 (by omega) (fun v m=>?_) (by decide +kernel) ?_
   . obtain⟨x,t,rfl⟩:=k3 v m;exact .now
   . rw[show(Value.type "str" !=Value.type "tuple")=true by decide +kernel]
     exact hR
 . have r:Inv X pins σ H {s with heap:=h',toks:=tk}:=I.kept (t':=tk) kp;refine hZq fun q_ e_=>?_;obtain⟨t,v,a,et,mt,ht,ra,ea⟩:=at_ i hi;obtain⟨u,v',b,eu,mu,a3,rb,eb⟩:=at_ j hj;have k:=hcm t mt u mu;obtain⟨⟨x1,r1,rfl⟩,p1,d1⟩:=hts t mt;obtain⟨⟨f,r2,rfl⟩,p2,d2⟩:=hts u mu;unfold TrAt at ht a3;obtain⟨x0,bC,rfl,g0,g1⟩:=ht;obtain⟨y0,bB,rfl,g2,g3⟩:=a3;subst e_;cases ra;cases rb;refine hZq fun q_ e_=>?_;obtain⟨bY,o,n,q3,ho,bF,bi⟩:=c5 r g0;obtain⟨bR,o',n',q4,bw,bx,bg⟩:=c5 r g2;have z0:=g1.len;have z1:=g3.len;have z2:=q3.length;have z3:=q4.length;obtain⟨y1,bT,rfl,w1,w2⟩:=g1.inv;obtain⟨y2,bI,rfl,w3,w4⟩:=g3.inv;subst e_;unfold TrAt at w1 w3;subst w1 w3
   cases q3 with
   |cons q3 a6=>
    cases q4 with
    |cons q4 bj=>
     obtain⟨au,rfl⟩:=q3;obtain⟨y,rfl⟩:=q4;unfold Tr.depth at d1;unfold Trs.depth at d1;unfold Tr.pure at p1;unfold Trs.pure at p1;unfold kas_ask;rw[ea,eb];refine kat_lt (b:=true) ho bi bw bg ?_;rw[AI,AI];have aC:X.A.in1.in1.units+40+1 < cLine:=by show X.A.units+1+1+40+1 < cLine;omega
     have e:∀q,lexV (decide ((Value.str x1 au::_).toArray.size < (Value.str f y::_).toArray.size)) ((x1==f,decide (x1.cps.toList < f.cps.toList))::q)=lexV (decide ((Tr.str x1::r1).length < (Tr.str f::r2).length)) ((x1==f,decide (x1.cps.toList < f.cps.toList))::q):=fun q=>by
      rw[zx,zx,<-z2,<-z3,z0,z1]
     by_cases ex:(x1==f)=true
     . unfold Cm at k;unfold Cms at k
       have a7:Cms r1 r2:=by
        rcases k with⟨_,c⟩|⟨n,_⟩
        . exact c
        . unfold Tre.eqT at n;rw[ex]at n;cases n
       have hx':=fu (A:=X.A.in1.in1) r aC (fun d pp cc a1 a2 b1 b2=>fV r 40 d pp cc a1 a2 b1 b2 aC) (by omega) (.inl p1.2) a7 w2 w4 a6 bj
       refine vC hx' ?_;rw[e]
       have g:lexV (decide ((Tr.str x1::r1).length < (Tr.str f::r2).length)) ((x1==f,decide (x1.cps.toList < f.cps.toList))::qs r1 r2)=ltT (ts.getD i .non) (ts.getD j .non):=by
        rw[et,eu];refine aW ?_;rw[ltT_iff];have el:decide ((Tr.str x1::r1).length < (Tr.str f::r2).length)=decide (r1.length < r2.length):=by simp
        have e4:=(jp x1 f).mp ex;simp only[lexV,ex,if_true,el,e5,Tre.code,Tre.codes,LtC,LtCs,e4];constructor
        . intro h;exact .inr ⟨trivial,h⟩
        . rintro(h|h)
          . exact absurd h (List.lt_irrefl _)
          . exact h.2
       rw[g];exact hR
     . have exf:(x1==f)=false:=by simpa using ex
       rw[Ay];refine kat_cons (SeqAt.EqAt.str_str x1 au f y X.prog X.w _ _ ?_);rw[exf];refine kat_no ?_;refine oneLt_str ?_
       have g:decide (x1.cps.toList < f.cps.toList)=ltT (ts.getD i .non) (ts.getD j .non):=by
        rw[et,eu];refine aW ?_;rw[ltT_iff,decide_eq_true_iff];have ne:x1.cps.toList≠f.cps.toList:=fun z=>ex ((jp x1 f).mpr z);simp only[Tre.code,Tre.codes,LtC,LtCs,Co.str.injEq];constructor
        . intro h;exact .inl h
        . rintro(h|h)
          . exact h
          . exact absurd h.1 ne
       rw[g];exact hR
 . have aT:∀i∈p.toList,i < ts.length:=fun i m=>by
    have:=Af.mp (List.Perm.mem_iff hp |>.mp m);omega
   refine⟨.ref D,upd H D (.lst (p.toList.map fun i=>vs.getD i .non)),I.laid (t':=tk) kp sz ?_,rfl,?_⟩
   . refine⟨?_,p.toList.map fun i=>as.getD i Value.none,e,Vals.map rv fun i m=>by have:=aT i m;omega,he⟩
     rw[zm,Ae,hp.size];have:(64:Nat)<=sizeLine:=by decide +kernel
     omega
   . refine q _ _ (p.toList.map fun i=>ts.getD i .non) (I.hok.fresh sz) ?_ (TrsAt.map hT aT) fun i j t u bb e1 g=>?_
     . have:=List.Perm.map (fun i=>ts.getD i Tr.non) hp;rw[show as.length=ts.length by omega,cY]at this
       exact this
     . rw[zr]at e1 g;refine hZq fun q_ e_=>?_;obtain⟨a,ea,rfl⟩:=zy.mp e1;obtain⟨b,eb,rfl⟩:=zy.mp g;subst e_
       have hj:j < as.length:=by
        have:=(zv.mp eb).1;rw[Ae,hp.size]at this;exact this
       have:=a4 i j bb hj;rw[cg,cg,<-Ah,<-Ah,ea,eb]at this;exact this
def rO:List V->Hp->VK->Prop:=fun xs H Q=>∃(v a:Addr) (kvs:List (Key×V)) (ts:List Tr),xs= [.ref v]/\H v=some (jb v a)/\H a=some (.dK kvs)/\TrsAt H (kvs.map (·.2)) ts/\ts.length < 64/\(∀t∈ts,Hs t/\t.pure/\t.depth<=40)/\(∀t∈ts,∀u∈ts,Cm t u)/\SrQ H ts Q
theorem call_sortedV(hc:X.calm=true)(hu:X.A.units+60 < cLine):cr X (.builtin "sorted") rO:=by
 intro pins s σ H xs us Q I r h;refine hZq fun q_ e_=>?_;obtain⟨v,a,kvs,ts,rfl,hv,m,n,g,k,l,q⟩:=h;obtain⟨u,rfl,p⟩:=dw r;subst e_;cases p;refine hZq fun q_ e_=>?_;obtain⟨z,hd,ws,d,dd⟩:=oo I.hok m;obtain⟨c,_⟩:=(show ObjOk X.prog X.w H s.heap v (jb v a)from I.hok v _ hv);obtain⟨ep,f⟩:=dd.dictAt;subst e_
 have o:Vals (kvs.map (·.2)) (ws.map (·.2)):=by
  clear f dd z q m n
  induction d with
  |nil=>exact .nil
  |cons r1 _ t=>exact .cons r1.2 t
 refine ku hu I o n g k l (fun E y i=>?_) q;refine lj (A:=X.A.in1) (PySem.W.kdl_values (knd:=aM X.prog X.w) (kvs:=ws) (ep:=ep)) (I.ok.hd hc) ⟨c,f⟩ (by rw[<-d.length];exact z) fun h' tk acc k1 sz b=>?_
 have e:acc.toList=ws.map (·.2):=PySem.W.kdl_vals_eq acc.toList (by rw[Ae];exact b.1) fun j x ex=>b.2 j x (by rw[<-Ah];exact ex)
 rw[e];exact i h' tk k1 sz
end
end Dj
namespace Dj
open PySem PySem.Spec PySem.W PyProof.Rows L2
section
variable{prog:Program}{w:World}{K:Type}[DecidableEq K]{knd:HeapKind prog w K}{A:Around}{E:Value->Shared->Prop}{s:Shared}
end
section
variable{X:Cx}{o e f:Expr}{apos cpos:Pos}{td ty tx:TE}
end
end Dj
namespace L2
open PySem PySem.Spec PyProof.Rows
section
variable{prog:Program}{w:World}{A:Around}{R:Result->Shared->Prop}{it S:Addr}{fp wr:List Addr}{n:Nat}{P:Nat->Value->Prop}{St:Nat->Heap->Prop}{kw:List (Str×Value)}
end
section
variable{X:Cx}
end
open PySem PySem.Spec PyProof.Rows
section
variable{X:Cx}{CX:CXT}{k i:Nat}{f:Addr}{fd:FuncData}{ps:List Str}{sp:Sp}{x y:Str}{p py pos epos:Pos}{e:Expr}{es:List Expr}{t:TA}
end
section
variable{X:Cx}{pins:List (Addr×Obj)}{σ σ':St}{H:Hp}{s:Shared}{h9:Heap}{tk:Nat}
end
section
variable{X:Cx}{body suite:List Stmt}{b0:Stmt}{tb:TSX}{ts:TS}{i:Nat}{n cx:Str}{np hpos pos:Pos}{W:Addr}
end
section
variable{X:Cx}{k:Nat}{f a:Addr}{fd:FuncData}{ps:List Str}{sp:Sp}{E:XK}{x:Str}{p pos:Pos}{e:Expr}{es:List Expr}{t:TA}
end
open PySem PySem.Spec PyProof.Rows
theorem rY{X:Cx}{b:List Stmt}:PSs X b (fun _ _ _=>False):=fun _ _ _ _ _ _ h=>h.elim
end L2
namespace K44
open PySem L2 Mth
noncomputable def top(i:Nat):Stmt:=PySem.Challenge.pw_smallword_k44_least_bounds.main.body.getD i (.Pass ⟨0,0,0,0⟩)
noncomputable abbrev sCd:Stmt:=top 4
noncomputable abbrev sFr:Stmt:=top 5
noncomputable abbrev sBr:Stmt:=top 7
noncomputable abbrev sSt:Stmt:=top 8
noncomputable abbrev iM:Stmt:=vE (top 10) 0
noncomputable abbrev sTof:Stmt:=top 11
noncomputable abbrev sSet:Stmt:=top 12
noncomputable abbrev sTmo:Stmt:=top 13
noncomputable abbrev sShi:Stmt:=top 14
noncomputable abbrev sSco:Stmt:=top 15
noncomputable abbrev sWho:Stmt:=top 16
noncomputable abbrev sCto:Stmt:=top 17
noncomputable abbrev sIsl:Stmt:=top 18
noncomputable abbrev sSll:Stmt:=top 19
noncomputable abbrev sTur:Stmt:=top 20
noncomputable abbrev sTud:Stmt:=top 21
noncomputable abbrev sLby:Stmt:=top 22
noncomputable abbrev sRef:Stmt:=top 23
noncomputable abbrev sWag:Stmt:=top 24
noncomputable abbrev sHco:Stmt:=top 25
noncomputable abbrev sWby:Stmt:=top 26
noncomputable abbrev sLio:Stmt:=top 27
noncomputable abbrev sStr:Stmt:=top 28
noncomputable abbrev sTli:Stmt:=top 29
noncomputable abbrev sNua:Stmt:=top 30
noncomputable abbrev sWgd:Stmt:=top 32
noncomputable abbrev sLpl:Stmt:=top 34
noncomputable abbrev rF:Stmt:=top 36
noncomputable abbrev lX:Stmt:=top 37
noncomputable abbrev lY:Stmt:=top 38
noncomputable abbrev jx:Stmt:=top 39
noncomputable abbrev sTog:Stmt:=top 40
noncomputable abbrev jz:Stmt:=top 41
noncomputable abbrev jy:Stmt:=top 42
noncomputable abbrev lZ:Stmt:=top 43
noncomputable abbrev sLaw:Stmt:=top 44
theorem aa{H:Hp}{p:Addr}{o:HO}(h:H p=none):Same H (upd H p o):=fun b u e=>by
 rw[ae (av e h)];exact e
theorem aD{H H':Hp}{D:Addr}{o:HO}(h:H D=none)(s:Same H H'):Same H (upd H' D o):=fun b u e=>by
 rw[ae (av e h)];exact s b u e
section
variable{P:Program}{w:World}{K:PySem.W.Frag}{mg:Str->Option Value}{base:Heap}{T0:Addr}
structure Blt (mg:Str->Option Value):Prop where
 ab:mg "abs"=none
 le:mg "len"=none
 ra:mg "range"=none
 isi:mg "isinstance"=none
 tu:mg "tuple"=none
 it:mg "int"=none
 bo:mg "bool"=none
 li:mg "list"=none
 st:mg "str"=none
 al:mg "all"=none
 an:mg "any"=none
 su:mg "sum"=none
 zi:mg "zip"=none
 so:mg "sorted"=none
 ve:mg "ValueError"=none
 re:mg "repr"=none
 en:mg "enumerate"=none
 ma:mg "max"=none
 mi:mg "min"=none
def spCd:Sp:=fun vs H Q _=>∃(a b:Int),vs= [.int a, .int b]/\Q (.int (Int.gcd a b:Int)) H
theorem scC:FnScope ["one","other"] ["one","other"] (ag sCd):= .of
theorem vS(a:Int):(if a < 0 then -a else a)=(Int.gcd a 0:Int):=by
 rw[Int.gcd_zero_right];split<;>omega
theorem sO{f:Addr}{fd:FuncData}(F:Fun K "common_divisor" "common_divisor" sCd f fd)(B:Blt mg):FnOk P w K mg base CX0 1 f fd ["one","other"] spCd:=by
 refine F.ok scC (fun vs H Q E h=>?_) (fun l A outer s H vs Q E hr h=>?_)
 . refine hZq fun q_ e_=>?_;obtain⟨a,b,rfl,_⟩:=h;subst e_;rfl
 . refine hZq fun q_ e_=>?_;obtain⟨a,b,rfl,k⟩:=h;subst e_
   refine⟨_,ad (gR PassesOwn.never (aw iP (pv 1) ac (ay _)) (af (se (i:=0) (j:=1) rfl scC.nd rfl rfl (by decide) rfl rfl (a0 (pv 1) (a0 (am vi (pv 0) (pv 1)) a9)) rfl)))
    (af (ar (aA iq rfl B.ab ir (a0 (pv 0) a9)))),?_⟩
   refine k8 (fun σ H'=>H'=H/\∃x y:Int,σ= [some (.int x),some (.int y)]/\Int.gcd x y=Int.gcd a b) (fun σ _=>match σ with| [_,some (.int y)]=>y.natAbs|_=>0) ⟨rfl,a,b,rfl,rfl⟩ ?_ ?_
   . intro σ H' z_;refine hZq fun q_ e_=>?_;obtain⟨rfl,x,y,rfl,e⟩:=z_;subst e_;refine⟨_,rfl,rfl,_,rfl,?_⟩;by_cases z:y=0
     . subst z;rw[decide_eq_true rfl];refine iteF ?_;refine⟨_,rfl,x,rfl,?_⟩;rw[vS,e];exact k
     . have m:¬(V.int y=V.int 0):=fun q=>z (V.int.inj q);rw[decide_eq_false m];refine iteT ?_;refine⟨_,rfl,_,rfl,_,rfl,x,y,rfl,rfl,z,_,_,rfl,?_⟩;refine⟨⟨rfl,y,x.fmod y,rfl,?_⟩,?_⟩
       . rw[tQ,e]
       . exact vJ z
   . intro σ H' R n c h;refine hZq fun q_ e_=>?_;obtain⟨v,e1,d,q,g,h⟩:=h;subst e_;exact⟨v,e1,d,q,g,c _ _ h⟩
theorem e7{t b:Int}(h:Big b)(z:b≠0):Big (Int.gcd t b:Int):=by
 have:Int.gcd t b<=b.natAbs:=Int.gcd_le_natAbs_right t (by omega)
 unfold Big at*;omega
open PySem L2 Mth Dec Tre Wd Tw
def spBr(K:PySem.W.Frag):Sp:=fun vs H Q _=>∃(l:Addr) (y:Str) (ys:List Str),vs= [.ref l]/\SqL K H l ((y::ys).map V.str)/\y.length<=1000/\ys.length<=10/\(∀z∈ys,z.length<=600000)/\∀z,cl z=40::cl y++spC (ys.map cl)++ [41]->Q (.str z) H
theorem scBr:FnScope ["words"] ["words"] (ag sBr):= .of
theorem yW{f:Addr}{fd:FuncData}(F:Fun K "bracketed" "bracketed" sBr f fd):FnOk P w K mg base CX0 1 f fd ["words"] (spBr K):=by
 refine F.okb scBr fun vs H Q E h=>?_;refine hZq fun q_ e_=>?_;obtain⟨l,y,ys,rfl,hl,hy,hn,hz,k⟩:=h;subst e_;refine⟨rfl,fun d A outer s hr=>?_⟩;refine⟨_,af (ar (am gZ (am gZ cC (iO PySem.F.plainAttrs_str PySem.F.slot_str_join PySem.F.type_str_join vq cC (a0 (pv 0) a9))) cC)),?_⟩;have e1:(Str.ofString " ").length=1:=by decide +kernel
 have a:(Str.ofString "(").length=1:=by decide +kernel
 have b:(Str.ofString ")").length=1:=by decide +kernel
 have hs:=qE hz;have hm:ys.length*600000<=10*600000:=Ap _ hn
 have g:(Txt.join (Str.ofString " ") (y::ys)).length<=6002000:=by
  have h2:=ny (B:=600000) (cs:=ys.map cl) (fun c m=>by
   obtain⟨z,e,rfl⟩:=zM.mp m;rw[cQ]
   exact hz z e)
  rw[zm]at h2;have h3:ys.length*(600000+1)<=10*600001:=Ap _ hn;rw[<-cQ,lE,A6,cQ];omega
 have i:(16000000:Nat)<=sizeLine:=by decide +kernel
 refine⟨rfl,_,rfl,_,l,y::ys,rfl,rfl,hl,by rw[e1];simp only[zU,List.sum_cons,zV];omega,_,_,rfl,rfl,by rw[a];omega,_,_,rfl,rfl,by rw[Dec.len_app,a,b];omega,k _ ?_⟩
 rw[im,im,yZ,yN,lE];simp
def spSt(n:Nat):Sp:=fun vs H Q _=>∃(v:V) (t:Tr),vs= [v]/\TrAt H v t/\Ty .tm t/\t.depth < n/\(tmC t).length<=1000/\∀z H',Same H H'->cl z=tmC t->Q (.str z) H'
theorem scSt:FnScope ["term"] ["term"] (ag sSt):= .of
theorem pZ{ts:List Tr}{t:Tr}(m:t∈ts):(tmC t).length<=(tmsC ts).length:=by
 rw[eJ];obtain⟨a,b,rfl⟩:=List.append_of_mem m;rw[zQ,uM,zU];show _<=(_++((32::tmC t)++spC (b.map tmC))).length;simp only[A6,zV];omega
theorem yV{f fB:Addr}{fd fdB:FuncData}(F:Fun K "shown_term" "shown_term" sSt f fd)(bF:Binds K fd ["term"] [])(mF:mg "shown_term"=some (.ref f))(FB:Fun K "bracketed" "bracketed" sBr fB fdB)(bB:Binds K fdB ["words"] [])(mB:mg "bracketed"=some (.ref fB)):
 ∀n,FnOk P w K mg base CX0 (n+1) f fd ["term"] (spSt n):=by
 have GB:FnOk P w K mg base CX0 1 fB fdB ["words"] (spBr K):=yW FB;intro n
 induction n with
 |zero=>exact⟨fun vs H Q E ⟨_,_,_,_,_,h,_⟩=>absurd h (by omega),fun A outer s H args us vs Q E _ _ _ _ ⟨_,_,_,_,_,h,_⟩=>absurd h (by omega)⟩
 |succ n ih=>
  refine F.ok scSt (fun vs H Q E h=>?_) (fun a3 A outer s H vs Q E hr h=>?_)
  . refine hZq fun q_ e_=>?_;obtain⟨v,t,rfl,_⟩:=h;subst e_;rfl
  refine hZq fun q_ e_=>?_;obtain⟨v,t,rfl,hv,hw,hd,hl,k⟩:=h;subst e_;have m:Room 1 _:=hr.mono (by omega)
  refine⟨_,ad (bh (aw dy (ak aE (pv 0) ac fun _ _=>rfl) cC (ay _)) (af (ar (ak aE (pv 0) ac fun _ _=>rfl))) aI)
   (af (ar (dZ GB m rfl mB FB.kp bB .nil gX (a0 (am eE (bX (a0 (ak aE (pv 0) ac fun _ _=>rfl) a9))
    (aO (NC:= ["inner"]) (mp:= [none]) rfl (fk (ak aE (pv 0) ac fun _ _=>rfl)) (fun _ _ _ _ _=>pgA 0 (show(["inner"]:List Str).Nodup by decide +kernel)) (fun _ _ _ _ _=>aR) (fun _ _ _ _ _=>dZ ih hr rfl mF F.kp bF .nil gX (a0 (pv 0) a9)))) a9)))),?_⟩
  cases hw with
  |nm x=>
   refine hZq fun q_ e_=>?_;obtain⟨r,y,rfl,h1,h2⟩:=at2 hv;subst e_;have h3:=at_s h2;subst h3;refine⟨_,rfl,r,_,0, .str "name",rfl,rfl,SqT.of h1,rfl,rfl,_,rfl,?_⟩;rw[decide_eq_true rfl];refine iteT ⟨_,rfl,r,_,1, .str x,rfl,rfl,SqT.of h1,rfl,?_⟩;exact k _ H (Same.refl H) (eK _ _).symm
  |ap g ts a2 j=>
   refine hZq fun q_ e_=>?_;obtain⟨r,y,z,rfl,h1,h2,h3⟩:=at3 hv;have e2:=at_s h2;subst e2;obtain⟨q,vs,rfl,h4,h5⟩:=at_t h3;subst e_;refine⟨_,rfl,r,_,0, .str "call",rfl,rfl,SqT.of h1,rfl,rfl,_,rfl,?_⟩;rw[decide_eq_false (show¬V.str "call"=V.str "name" by decide +kernel)]
   refine iteF ?_;refine⟨_,rfl,r,_,1, .str g,rfl,rfl,SqT.of h1,rfl,by show 1<=sizeLine;decide,fun l nl=>?_⟩
   have s1:Same H (upd H l (.lst [.str g])):=aa nl;refine bM rfl ?_;refine⟨_,rfl,r,_,2, .ref q,rfl,rfl,SqT.of (s1 _ _ h1),rfl,q,rfl,⟨vs,SqT.of (s1 _ _ h4)⟩,fun D nD=>?_⟩;have d:=h5.len;have hL:(100000:Nat)<=sizeLine:=by decide +kernel
   have hl':=hl;unfold s_ at hl';rw[dU]at hl';simp only[A6,zV,cQ]at hl';refine uh (xs:=vs) (fun i acc H'=>Same (upd H l (.lst [.str g])) H'/\H' D=some (.lst acc)/\∃ys:List Str,acc=ys.map V.str/\ys.map cl=(ts.take i).map tmC) ⟨aa nD,a8,[],rfl,rfl⟩ (fun i acc H' p=>SqT.of (p.1 _ _ (s1 _ _ h4))) ?_ ?_
   . intro i x acc H' hi ex z_;refine hZq fun q_ e_=>?_;obtain⟨b,hD,ys,rfl,a⟩:=z_;obtain⟨t,et,aC⟩:=h5.get' ex;subst e_;have c:=zw et;have a1:=pZ c;have o:=congrArg List.length a;rw[zm,zm,A7]at o;refine⟨_,rfl,x,t,rfl,aC.mono (Kd.of_same (s1.trans b)),j t c,?_,by omega,fun z H6 s6 u=>CompN.mk hi ?_ (s6 _ _ hD) ⟨aD nD (b.trans s6),a8,ys++ [z],by rw[zQ];rfl,?_⟩⟩
     . have au:=hd;simp only[Tr.depth,Trs.depth]at au;have:=bA c;omega
     . rw[zm];omega
     . rw[zQ,a,List.take_add_one,et];simp[u]
   . intro acc H' z_;refine hZq fun q_ e_=>?_;obtain⟨b,hD,ys,rfl,a⟩:=z_;subst e_;rw[d,A3]at a;have aT:H' l=some (.lst [.str g]):=b _ _ a8;have o:=congrArg List.length a;rw[zm,zm]at o;refine⟨l,D,[.str g],_,rfl,rfl,aT,hD,by simp only[zm,zV,List.length_nil];omega,fun p np=>?_⟩
     refine⟨p,g,ys,rfl,SqL.of ?_,by omega,by omega,fun y my=>?_,fun z u=>?_⟩
     . rw[a8];rfl
     . have:cl y∈ts.map tmC:=by rw[<-a];exact List.mem_map_of_mem my
       obtain⟨t,c,e⟩:=zM.mp this;have:=pZ c;rw[<-cQ,<-e];omega
     . refine k z _ (s1.trans (b.trans (aa np))) ?_;unfold s_;rw[u,dU,eJ,a]
end
end K44
namespace Su
open PySem L2 Tre Mth Wd
noncomputable def lin(g:Tr->Rat):List Pq->Rat
 | []=>0
 |p::r=>rv p.2*g p.1+lin g r
theorem jM(g:Tr->Rat)(a b:List Pq):lin g (a++b)=lin g a+lin g b:=by
 induction a with
 |nil=>simp only[List.nil_append,lin];grind
 |cons p r c=>simp only[Ak,lin,c];grind
theorem vA(g:Tr->Rat)(a:List Pq):lin g (a.map neg)= -lin g a:=by
 induction a with
 |nil=>simp only[AJ,lin];grind
 |cons p r b=>
  simp only[zU,lin,b];show rv (negF p.2)*g p.1+_=_;rw[rH];grind
theorem pf(g:Tr->Rat){q:Fr}(hq:Sh q){a:List Pq}(h:∀p∈a,Sh p.2):lin g (a.map (scale q))=lin g a*rv q:=by
 induction a with
 |nil=>simp only[AJ,lin];grind
 |cons p r b=>
  simp only[zU,lin,b fun x m=>h x (zp _ m)];show rv (fc p.2 q)*g p.1+_=_;rw[gN (h p zq) hq];grind
open Classical in
theorem pe(g:Tr->Rat)(k:Tr)(l:List Pq):lin g l=g k*tot k l+lin g (l.filter fun p=>decide (p.1≠k)):=by
 induction l with
 |nil=>simp only[List.filter_nil,lin,tot];grind
 |cons p r a=>
  rw[List.filter_cons];by_cases z:p.1=k
  . have e:decide (p.1≠k)=false:=by simp[z]
    rw[e,if_neg (by decide)]
    simp only[lin,tot,if_pos z,a,z];grind
  . have e:decide (p.1≠k)=true:=by simp[z]
    rw[e,if_pos rfl];simp only[lin,tot,if_neg z,a];grind
open Classical in
theorem pW(t k:Tr)(l:List Pq):tot t (l.filter fun p=>decide (p.1≠k))=if t=k then 0 else tot t l:=by
 induction l with
 |nil=>simp only[List.filter_nil,tot];grind
 |cons p r a=>
  rw[List.filter_cons];by_cases z:p.1=k
  . have e:decide (p.1≠k)=false:=by simp[z]
    rw[e,if_neg (by decide),a]
    by_cases y:t=k
    . simp only[if_pos y]
    . simp only[if_neg y,tot,if_neg (fun q:p.1=t=>y (q.symm.trans z))];grind
  . have e:decide (p.1≠k)=true:=by simp[z]
    rw[e,if_pos rfl];simp only[tot,a];by_cases y:t=k
    . simp only[if_pos y];rw[if_neg (fun q:p.1=t=>z (q.trans y))];grind
    . simp only[if_neg y]
open Classical in
theorem kK(g:Tr->Rat):∀(n:Nat) (l:List Pq),l.length<=n->(∀t,tot t l=0)->lin g l=0
 |_,[],_,_=>rfl
 |0,p::r,h,_=>by simp at h
 |n+1,p::r,h,ht=>by
  rw[pe g p.1,ht,kK g n]
  . grind
  . have e:decide (p.1≠p.1)=false:=by simp
    rw[List.filter_cons,e,if_neg (by decide)]
    have:=Aa (fun q:Pq=>decide (q.1≠p.1)) r;simp only[zV]at h;omega
  . intro t;rw[pW];split
    . rfl
    . exact ht t
theorem xL(g:Tr->Rat){a b:List Pq}(h:∀t,tot t a=tot t b):lin g a=lin g b:=by
 have:=kK g _ (a++b.map neg) (zu _) fun t=>by rw[df,uF,h];grind
 rw[jM,vA]at this;grind
theorem yM{p q:Fr}(h1:0 < p.2)(h2:0 < q.2):p.1*q.2<=q.1*p.2↔rv p<=rv q:=by
 have a:(0:Rat) < p.2:=by exact_mod_cast h1
 have b:(0:Rat) < q.2:=by exact_mod_cast h2
 have e:(p.1*q.2<=q.1*p.2)↔((p.1:Rat)*q.2<=q.1*p.2):=by
  rw[<-Rat.intCast_mul,<-Rat.intCast_mul,Rat.intCast_le_intCast]
 rw[e];unfold rv;have j:(0:Rat) < (p.2:Rat)⁻¹:=Rat.inv_pos.mpr a;have i:(0:Rat) < (q.2:Rat)⁻¹:=Rat.inv_pos.mpr b;rw[Rat.div_def,Rat.div_def];have k:(p.2:Rat)*(p.2:Rat)⁻¹=1:=Rat.mul_inv_cancel _ (by grind)
 have nb:(q.2:Rat)*(q.2:Rat)⁻¹=1:=Rat.mul_inv_cancel _ (by grind)
 generalize (p.2:Rat)⁻¹=x at*;generalize (q.2:Rat)⁻¹=y at*;generalize (p.2:Rat)=c at*;generalize (q.2:Rat)=d at*;generalize (p.1:Rat)=m at*;generalize (q.1:Rat)=n at*;constructor
 . intro h;have h3:=Rat.mul_le_mul_of_nonneg_right h (Rat.le_of_lt j);have f:=Rat.mul_le_mul_of_nonneg_right h3 (Rat.le_of_lt i);have e1:m*d*x*y=m*x:=by clear h h3 f e;grind
   have g:n*c*x*y=n*y:=by clear h h3 f e;grind
   rw[e1,g]at f;exact f
 . intro h;have h3:=Rat.mul_le_mul_of_nonneg_right h (Rat.le_of_lt a);have f:=Rat.mul_le_mul_of_nonneg_right h3 (Rat.le_of_lt b);have e1:m*x*c*d=m*d:=by clear h h3 f e;grind
   have g:n*y*c*d=n*c:=by clear h h3 f e;grind
   rw[e1,g]at f;exact f
open PySem L2 Tre Mth Wd
open Classical in
noncomputable def cnt(t:Tr):List Pq->Nat
 | []=>0
 |p::r=>(if p.1=t then 1 else 0)+cnt t r
theorem gg(t:Tr)(a b:List Pq):cnt t (a++b)=cnt t a+cnt t b:=by
 induction a with
 |nil=>simp[cnt]
 |cons p r c=>simp only[Ak,cnt,c];omega
theorem vM(t:Tr)(p:Pq)(e:p.1=t):cnt t [p]=1:=by simp[cnt,e]
theorem lu{t:Tr}:∀ {l:List Pq},(∀p∈l,p.1≠t)->cnt t l=0
 | [],_=>rfl
 |p::r,h=>by
  simp only[cnt,if_neg (h p zq),lu fun x m=>h x (zp _ m)]
theorem jY{t:Tr}:∀ {us:List Pq},Asc us->cnt t us<=1
 | [],_=>zY _
 |p::r,h=>by
  obtain⟨h1,h2⟩:=List.pairwise_cons.mp h;by_cases e:p.1=t
  . rw[cnt,if_pos e,lu fun q m z=>iS (h1 q m) (e.trans z.symm)];exact zu _
  . rw[cnt,if_neg e];have:=jY (t:=t) h2;omega
theorem jX{t:Tr}{f:Pq->Pq}(hf:∀p,(f p).1=p.1):∀l:List Pq,cnt t (l.map f)=cnt t l
 | []=>rfl
 |p::r=>by
  have e:=hf p;simp only[zU,cnt,jX hf r];by_cases z:p.1=t
  . rw[if_pos z,if_pos (e.trans z)]
  . rw[if_neg z,if_neg fun q=>z (e.symm.trans q)]
theorem asc_len:∀ {us:List Pq} {T:List Tr},Asc us->(∀u∈us,u.1∈T)->us.length<=T.length
 | [],_,_,_=>zY _
 |p::r,T,h,hm=>by
  classical
  obtain⟨h1,h2⟩:=List.pairwise_cons.mp h
  have a:=asc_len (T:=T.filter fun t=>decide (t≠p.1)) h2 fun u m=>Ag.mpr ⟨hm u (zp _ m),by
   have:=iS (h1 u m);simp only[decide_eq_true_eq]
   exact fun z=>this z.symm⟩
  have:(T.filter fun t=>decide (t≠p.1)).length < T.length:=by
   refine Nat.lt_of_le_of_ne (Aa _ _) fun e=>?_;have:=List.length_filter_eq_length_iff.mp e p.1 (hm p zq);simp at this
  rw[zV];omega
structure Bd where
 us:List Pq
 m:Fr
 st:Bool
abbrev Wt:=Nat×Fr
def wtT(k:Wt):Tr:= .tup [.int (k.1:Int),frT k.2]
def bdAt(bs:List Bd)(i:Nat):Bd:=bs.getD i ⟨[],zero,false⟩
noncomputable def be(bs:List Bd):List Wt->List Pq
 | []=> []
 |k::r=>(bdAt bs k.1).us.map (scale k.2)++be bs r
noncomputable def totR(bs:List Bd):List Wt->Rat
 | []=>0
 |k::r=>rv (bdAt bs k.1).m*rv k.2+totR bs r
theorem pY(bs:List Bd)(a b:List Wt):totR bs (a++b)=totR bs a+totR bs b:=by
 induction a with
 |nil=>simp only[List.nil_append,totR];grind
 |cons k r c=>simp only[Ak,totR,c];grind
theorem pX(bs:List Bd)(k:Wt):totR bs [k]=rv (bdAt bs k.1).m*rv k.2:=by simp only[totR];grind
theorem vN{ps us:List Pq}(h:Can ps us){u:Pq}(m:u∈us):∃p∈ps,p.1=u.1:=by
 have e1:=k6 h.asc m;rw[h.eq]at e1;have a:rv u.2≠0:=fun z=>(h.sh u m).2 ((rJ (h.sh u m).1).mp z);refine Classical.byContradiction fun no=>a ?_;rw[<-e1];exact dB fun p mp e=>no ⟨p,mp,e⟩
end Su
namespace Tre
open PySem PySem.Spec PyProof.Rows L2
section
variable{X:Cx}
def rNeT:R2:=fun x y H Q=>∃ts us,TrAt H x (.tup ts)/\TrAt H y (.tup us)/\(Trs.pure ts\/Trs.pure us)/\Trs.depth ts<=40/\Q (.bl (!eqTs ts us)) H
theorem kL{pins:List (Addr×Obj)}{σ:L2.St}{H:Hp}{s:Shared}{A:Around}{ts us:List Tr}{vs ws:List V}{as bs:List Value}(I:Inv X pins σ H s)(hu:A.units+42 < cLine)(h1:TrsAt H vs ts)(h2:TrsAt H ws us)(hp:Trs.pure ts\/Trs.pure us)(hd:Trs.depth ts<=40)(r1:Vals vs as)(r2:Vals ws bs)(j:Nat)(g1:j < as.toArray.size)(g2:j < bs.toArray.size):SeqAt.EqAt A s as.toArray[j] bs.toArray[j] (eqJ ts us j):=by
 have l1:=h1.len;have l2:=h2.len;have p:=r1.length;have l4:=r2.length;have b:j < as.length:=by simpa using g1
 have c:j < bs.length:=by simpa using g2
 have a:ts[j]?=some (ts[j]'(by omega)):=zo _
 have t2:us[j]?=some (us[j]'(by omega)):=zo _
 obtain⟨v,e1,h⟩:=h1.get a;obtain⟨w,g,k⟩:=h2.get t2;obtain⟨n,d,l⟩:=r1.get e1;obtain⟨o,e,i⟩:=r2.get g;have m:as.toArray[j]=n:=by rw[List.getElem_toArray];rw[zo b]at d;exact zN d
 have f:bs.toArray[j]=o:=by rw[List.getElem_toArray];rw[zo c]at e;exact zN e
 rw[m,f,tW a t2];refine jh I 40 ?_ ?_ h k l i (by omega)
 . have:=bA (zw a);omega
 . rcases hp with hp|hp
   . exact .inl (dD hp (zw a))
   . exact .inr (dD hp (zw t2))
theorem wR(hu:X.A.units+50 < cLine):OpR X (compareOp .NotEq) rNeT:=by
 intro pins s σ H x y v u Q I f d h;obtain⟨ts,us,h1,h2,hp,hd,q⟩:=h;unfold TrAt at h1 h2;obtain⟨a,vs,rfl,c,k1⟩:=h1;obtain⟨b,ws,rfl,g2,k2⟩:=h2;cases f;cases d;obtain⟨as,r1,g,_⟩:=I.tuple (SqT.of c);obtain⟨bs,r2,p2,_⟩:=I.tuple (SqT.of g2);refine SeqAt.RcNeAt.tuples (A:=X.A) (e:=eqJ ts us) (show s.heap.IsTuple a as.toArray from g) (show s.heap.IsTuple b bs.toArray from p2) (by omega) (fun j c g2=>kL I (by show X.A.units+1+42 < cLine;omega) k1 k2 hp hd r1 r2 j c g2) X.prog X.w X.xe _ ?_
 refine⟨.bl (!eqTs ts us),H,I,?_,q⟩;rw[zx,zx,<-r1.length,<-r2.length,k1.len,k2.len,<-dO];rfl
end
end Tre
namespace L2
open PySem
section
variable{X:Cx}{tg:Expr}
end
end L2
namespace K44
open PySem L2 Mth Tre Wd Su
noncomputable def lcmF(s:Int):List Fr->Int
 | []=>s
 |f::r=>lcmF (s / (Int.gcd s f.2:Int)*f.2) r
theorem tD(s:Int)(a b:List Fr):lcmF s (a++b)=lcmF (lcmF s a) b:=by
 induction a generalizing s with
 |nil=>rfl
 |cons f r c=>simp only[Ak,lcmF,c]
theorem lcm1{s b:Int}(hs:0 < s)(hb:0 < b):0 < s / (Int.gcd s b:Int)*b/\s∣s / (Int.gcd s b:Int)*b/\b∣s / (Int.gcd s b:Int)*b/\(s / (Int.gcd s b:Int)*b).natAbs<=s.natAbs*b.natAbs:=by
 obtain⟨a,d,e1,c,_,e,_⟩:=cR (x:=s) (y:=b) (by omega)
 have f:0 < (Int.gcd s b:Int):=by
  have:Int.gcd s b≠0:=fun z=>by
   rw[z]at c;have:b=0:=by rw[c];exact Av _
   omega
  omega
 rw[e];have hx:0 < a:=dh (k:=(Int.gcd s b:Int)) (by omega) (by rw[<-e1];exact hs)
 refine⟨Int.mul_pos hx hb,⟨d,?_⟩,⟨a,AV _ _⟩,?_⟩
 . generalize (Int.gcd s b:Int)=g at*;subst e1;rw[c];grind
 . rw[Ac];refine Ap _ ?_
   have:a.natAbs<=((Int.gcd s b:Int)*a).natAbs:=by
    rw[Ac];exact Nat.le_mul_of_pos_left _ (by omega)
   rw[<-e1]at this;exact this
theorem fZ{M:Nat}:∀ {fs:List Fr} {s:Int},0 < s->(∀f∈fs,0 < f.2/\f.2.natAbs<=M)->0 < lcmF s fs/\s∣lcmF s fs/\(∀f∈fs,f.2∣lcmF s fs)/\(lcmF s fs).natAbs<=s.natAbs*M^fs.length
 | [],s,hs,_=>⟨hs,Int.dvd_refl _,fun f m=>(by cases m),by simp[lcmF]⟩
 |f::r,s,hs,h=>by
  obtain⟨a,c,e,b⟩:=lcm1 hs (h f zq).1;obtain⟨b1,b2,b3,d⟩:=fZ (M:=M) (fs:=r) a fun g m=>h g (zp _ m);refine⟨b1,Int.dvd_trans c b2,fun g m=>?_,?_⟩
  . rcases zJ.mp m with rfl|m
    . exact Int.dvd_trans e b2
    . exact b3 g m
  . refine zK d ?_;rw[zV,Nat.pow_succ,Nat.mul_comm (M^r.length),<-Nat.mul_assoc];exact Ap _ (zK b (Nat.mul_le_mul_left _ (h f zq).2))
section
variable{P:Program}{w:World}{K:PySem.W.Frag}{mg:Str->Option Value}{base:Heap}{T0:Addr}
def nj:Sp:=fun vs H Q _=>∃(t b:Int),vs= [.int t, .int b]/\0 < b/\Big b/\∀p,H p=none->Q (.ref p) (upd H p (.tup [.int (fx t b), .int (fy t b)]))
theorem scF:FnScope ["top","bottom","divisor"] ["top","bottom"] (ag sFr):= .of
theorem xC{f fC:Addr}{fd fdC:FuncData}(F:Fun K "fraction" "fraction" sFr f fd)(FC:Fun K "common_divisor" "common_divisor" sCd fC fdC)(bC:Binds K fdC ["one","other"] [])(mC:mg "common_divisor"=some (.ref fC))(B:Blt mg):FnOk P w K mg base CX0 2 f fd ["top","bottom"] nj:=by
 have e:FnOk P w K mg base CX0 1 fC fdC ["one","other"] spCd:=sO FC B;refine F.okb scF fun vs H Q E h=>?_;refine hZq fun q_ e_=>?_;obtain⟨t,b,rfl,h0,hb,k⟩:=h;subst e_;refine⟨rfl,fun d A outer s hr=>?_⟩
 refine⟨_,ad (bh (aw dy (pv 1) ac (ay _)) rY aI)
  (ad (psA 2 scF.nd (dZ e hr rfl mC FC.kp bC .nil gX (a0 (pv 0) (a0 (pv 1) a9))))
  (ad (bh (aw iQ (pv 1) ac (ay _)) rY aI)
  (af (ar (aQ (a0 (am kB (pv 0) (pv 2)) (a0 (am kB (pv 1) (pv 2)) a9))))))),?_⟩
 have z:b≠0:=by omega
 have g:¬(V.int b=V.int 0):=fun q=>z (V.int.inj q);refine⟨_,rfl,rfl,_,rfl,?_⟩;rw[decide_eq_false g];refine iteF ?_;refine⟨_,rfl,_,rfl,t,b,rfl,?_⟩;refine⟨_,rfl,b,0,rfl,rfl,_,rfl,?_⟩;rw[decide_eq_false (show¬b < 0 by omega)]
 refine iteF ?_;have c:dv t b=(Int.gcd t b:Int):=by unfold dv;rw[if_neg (by omega)]
 have a:(Int.gcd t b:Int)≠0:=by rw[<-c];exact tZ z
 refine⟨_,rfl,_,rfl,t,_,rfl,rfl,⟨a,e7 hb z⟩,_,rfl,_,rfl,b,_,rfl,rfl,⟨a,e7 hb z⟩,two,fun p hp=>?_⟩;have:=k p hp;unfold fx fy at this;rw[c]at this;exact this
def qW:Sp:=fun vs H Q _=>∃(v:V) (us:List Pq),vs= [v]/\TrAt H v (.tup (us.map prT))/\us.length<=64/\∀(l:Addr) (ws:List V) (H':Hp),Same H H'->H l=none->H' l=some (.lst ws)->TrsAt H' ws (us.map fun u=>frT u.2)->Q (.ref l) H'
theorem yH:FnScope ["pairs"] ["pairs"] (ag sShi):= .of
theorem xk{f:Addr}{fd:FuncData}(F:Fun K "shares_in" "shares_in" sShi f fd):FnOk P w K mg base CX0 1 f fd ["pairs"] qW:=by
 refine F.okb yH fun vs H Q E h=>?_;refine hZq fun q_ e_=>?_;obtain⟨v,us,rfl,hv,hl,k⟩:=h;subst e_;refine⟨rfl,fun a1 A outer s hr=>?_⟩
 refine⟨_,af (ar (aO (NC:= ["term","share"]) (mp:= [none,none]) (g:=gTup K 2 (aV (aH 0) (aV (aH 1) gNil))) rfl (fk (pv 0))
  (fun _ _ _ _ _=>aS (n:=2) rfl (ai (pgA 0 (show(["term","share"]:List Str).Nodup by decide +kernel)) (ai (pgA 1 (show(["term","share"]:List Str).Nodup by decide +kernel)) aL))) (fun _ _ _ _ _=>aR)
  (fun _ _ _ _ _=>pv 1))),?_⟩
 have aT:(20000:Nat)<=sizeLine:=by decide +kernel
 refine hZq fun q_ e_=>?_;obtain⟨au,xs,rfl,e,i⟩:=at_t hv;subst e_;have xl:=i.len;rw[zm]at xl;refine ui (K':=K) (xs:=xs) (rest:= []) (a:=au) rfl (fun Q q=>⟨_,rfl,q⟩) (SqT.of e) fun L t=>?_;refine⟨fun j b H'=>Same H H'/\H' L=some (.lst b)/\TrsAt H' b ((us.take j).map fun u=>frT u.2),⟨aa t,a8,by rw[Ar];exact .nil⟩,fun j b H' p=>SqT.of (p.1 _ _ e),?_,?_⟩
 . rintro j z b H' hj ⟨m,l,c⟩ ez;refine hZq fun q_ e_=>?_;obtain⟨t',d,aC⟩:=(i.mono (Kd.of_same m)).get' ez;rw[zr]at d;obtain⟨⟨tm,fr⟩,eq,rfl⟩:=zy.mp d;obtain⟨T',x,y,rfl,o,hx,hy⟩:=bE aC;subst e_;have r:=c.len;rw[zm,A7]at r;refine⟨T',x,y,rfl,SqT.of o,_,rfl,?_⟩;have kd:=Kd.upd (ys:=b++ [y]) l;refine CompN.mk hj (by omega) l ⟨aD t m,a8,?_⟩
   rw[aq eq,zQ];exact TrsAt.app (.cons (hy.mono kd) .nil) (c.mono kd)
 . rintro b H2 ⟨m,l,c⟩;rw[xl,A3]at c;exact k L b H2 m t l c
def qY:Sp:=fun vs H Q _=>∃(l:Addr) (ws:List V) (fs:List Fr) (M:Nat),vs= [.ref l]/\H l=some (.lst ws)/\TrsAt H ws (fs.map frT)/\(∀f∈fs,0 < f.2/\f.2.natAbs<=M)/\0 < M/\M^(fs.length+1) < 2^8000/\Q (.int (lcmF 1 fs)) H
theorem scSco:FnScope ["shares","scale","top","bottom"] ["shares"] (ag sSco):= .of
theorem xp{f fC:Addr}{fd fdC:FuncData}(F:Fun K "scale_of" "scale_of" sSco f fd)(FC:Fun K "common_divisor" "common_divisor" sCd fC fdC)(bC:Binds K fdC ["one","other"] [])(mC:mg "common_divisor"=some (.ref fC))(B:Blt mg):FnOk P w K mg base CX0 2 f fd ["shares"] qY:=by
 have z:FnOk P w K mg base CX0 1 fC fdC ["one","other"] spCd:=sO FC B;refine F.okb scSco fun vs H Q E h=>?_;refine hZq fun q_ e_=>?_;obtain⟨l,ws,fs,M,rfl,hl,q,a,b,hM,k⟩:=h;subst e_;refine⟨rfl,fun y A outer s hr=>?_⟩
 refine⟨_,ad (psA 1 scSco.nd ac)
  (ad (bK PassesOwn.never rfl (aJ (pv 0)) (aS rfl (ai (pgA 2 scSco.nd) (ai (pgA 3 scSco.nd) aL)))
   (af (psA 1 scSco.nd (am aU (am cD (pv 1) (dZ z hr rfl mC FC.kp bC .nil gX (a0 (pv 1) (a0 (pv 3) a9)))) (pv 3)))))
  (af (ar (pv 1)))),?_⟩
 have o:=q.len;rw[zm]at o;refine⟨_,rfl,l,rfl,⟨_,SqL.of hl⟩,?_⟩;refine cE (xs:=ws) (fun i σ H'=>H'=H/\∃d j:Option V,σ= [some (.ref l),some (.int (lcmF 1 (fs.take i))),d,j]) ⟨rfl,none,none,rfl⟩ (fun i σ H' _ p=>by rw[p.1];exact SqL.of hl) ?_ ?_
 . intro i x σ H1 ex z_;refine hZq fun q_ e_=>?_;obtain⟨rfl,d,j,rfl⟩:=z_;obtain⟨t,n,ht⟩:=q.get' ex;rw[zr]at n;obtain⟨fr,e,rfl⟩:=zy.mp n;obtain⟨u,rfl,c⟩:=bS ht;have il:i < fs.length:=(zv.mp e).1;obtain⟨f0,fM⟩:=a fr (zw e);obtain⟨c1,_,_,r⟩:=fZ (M:=M) (fs:=fs.take i) (s:=1) (by decide) fun g m=>a g (AN m)
   subst e_;have p1:M^(fs.take i).length<=M^(fs.length+1):=Aw b (by rw[A7];omega)
   have p2:M^1<=M^(fs.length+1):=Aw b (by omega)
   rw[Nat.pow_one]at p2
   have b1:Big (lcmF 1 (fs.take i)):=by
    unfold Big;have:(1:Int).natAbs=1:=rfl;rw[this,Nat.one_mul]at r;omega
   have b2:Big fr.2:=by unfold Big;omega
   have v:0 < (Int.gcd (lcmF 1 (fs.take i)) fr.2:Int):=by
    have:0 < Int.gcd (lcmF 1 (fs.take i)) fr.2:=Ad _ (by omega)
    omega
   refine⟨u,_,rfl,SqT.of c,rfl,_,_,rfl,_,_,rfl,rfl,?_⟩;refine⟨_,rfl,_,rfl,_,rfl,_,_,rfl,_,_,rfl,rfl,⟨v,e7 b2 (by omega)⟩,_,rfl,_,_,rfl,rfl,⟨?_,b2⟩,rfl,some (.int fr.1),some (.int fr.2),?_⟩
   . unfold Big at*;exact zZ (cz _ _) b1
   . rw[aq e,tD];rfl
 . intro σ H1 z_;refine hZq fun q_ e_=>?_;obtain⟨rfl,d,j,rfl⟩:=z_;subst e_;rw[o,A3];exact⟨_,rfl,k⟩
def wh(f:Fr)(s:Int):Int:=f.1*(s / f.2)
def mX:Sp:=fun vs H Q _=>∃(v:V) (f:Fr) (s:Int),vs= [v, .int s]/\TrAt H v (frT f)/\0 < f.2/\Big f.2/\Big f.1/\Big s/\Q (.int (wh f s)) H
theorem yD:FnScope ["share","scale"] ["share","scale"] (ag sWho):= .of
theorem wV{f:Addr}{fd:FuncData}(F:Fun K "whole_of" "whole_of" sWho f fd):FnOk P w K mg base CX0 1 f fd ["share","scale"] mX:=by
 refine F.okb yD fun vs H Q E h=>?_;refine hZq fun q_ e_=>?_;obtain⟨v,f,sc,rfl,hv,f0,b2,b1,bs,k⟩:=h;subst e_;refine⟨rfl,fun c A outer s hr=>?_⟩;refine⟨_,af (ar (am aU (ak aE (pv 0) ac fun _ _=>rfl) (am cD (pv 1) (ak aE (pv 0) ac fun _ _=>rfl)))),?_⟩;obtain⟨b,rfl,a⟩:=bS hv;refine⟨_,rfl,b,_,0,_,rfl,rfl,SqT.of a,rfl,_,rfl,_,rfl,b,_,1,_,rfl,rfl,SqT.of a,rfl,_,_,rfl,rfl,⟨f0,b2⟩,_,_,rfl,rfl,⟨b1,?_⟩,k⟩;unfold Big at*;exact zZ (cz _ _) bs
theorem vU{f:Fr}{s:Int}(h:0 < f.2):(wh f s).natAbs<=f.1.natAbs*s.natAbs:=by
 unfold wh;rw[Ac];exact Nat.mul_le_mul_left _ (cz _ _)
end
end K44
namespace L2
open PySem
open PySem PySem.Spec PyProof.Rows
section
variable{prog:Program}{w:World}{A:Around}{E:Value->Shared->Prop}{s:Shared}
end
section
variable{X:Cx}{o:Expr}{lo:Expr}{p2 tpos pos:Pos}{ta tl:TE}
end
end L2
namespace K44
open PySem L2 Mth Tre Wd Su Tw Fm
theorem SqL.same{K:PySem.W.Frag}{H H':Hp}{a:Addr}{xs:List V}(s:Same H H')(h:SqL K H a xs):SqL K H' a xs:=h.imp (fun x=>x.imp (fun e=>s _ _ e) fun⟨o,e⟩=>⟨o,s _ _ e⟩) id
def Rk(H:Hp)(e:Key×V)(t:Tr):Prop:=∃z:Str,e.1=Sum.inr z/\Dec.cl z=tmC t/\Gt t/\TrAt H e.2 t
def DictT(H:Hp)(kvs:List (Key×V))(acc:List Tr):Prop:=Paired (Rk H) kvs acc
def But1(d:Addr)(H H':Hp):Prop:=∀x o,x≠d->H x=some o->H' x=some o
theorem But1.trans{d:Addr}{H H1 H2:Hp}(a:But1 d H H1)(b:But1 d H1 H2):But1 d H H2:=fun x o n e=>b x o n (a x o n e)
theorem But1.of_same{d:Addr}{H H':Hp}(s:Same H H'):But1 d H H':=fun x o _ e=>s x o e
theorem But1.kd{d:Addr}{H H':Hp}{kvs:List (Key×V)}(hd:H d=some (.dK kvs))(b:But1 d H H'):Kd H H':=by
 have ne:∀ {a:Addr} {o:HO},H a=some o->(∀z,o≠ .dK z)->a≠d:=fun e h z=>by
  rw[z,hd]at e;exact h _ (zN e).symm
 exact⟨fun a xs e=>b a _ (ne e fun z t=>by cases t) e,fun a xs e=>⟨xs,b a _ (ne e fun z t=>by cases t) e⟩⟩
theorem DictT.mono{H H':Hp}{kvs:List (Key×V)}{acc:List Tr}(h:DictT H kvs acc)(k:Kd H H'):DictT H' kvs acc:=Paired.imp' (fun e t ⟨z,a,b,c,d⟩=>⟨z,a,b,c,d.mono k⟩) h
theorem DictT.len{H:Hp}{kvs:List (Key×V)}{acc:List Tr}(h:DictT H kvs acc):kvs.length=acc.length:=Paired.length h
theorem DictT.vals{H:Hp}{kvs:List (Key×V)}{acc:List Tr}(h:DictT H kvs acc):TrsAt H (kvs.map (·.2)) acc:=by
 unfold DictT at h
 induction h with
 |nil=>exact .nil
 |cons h1 _ a=>
  obtain⟨z,_,_,_,d⟩:=h1;exact .cons d a
theorem DictT.none_iff{H:Hp}{kvs:List (Key×V)}{acc:List Tr}{t:Tr}{z:Str}(h:DictT H kvs acc)(hg:Gt t)(hz:Dec.cl z=tmC t):valV kvs (Sum.inr z)=none↔¬t∈acc:=by
 have e:=dA (Sum.inr z:Key) kvs
 have c:(kvs.any fun kv=>decide (kv.1=(Sum.inr z:Key)))=true↔t∈acc:=by
  clear e;unfold DictT at h
  induction h with
  |nil=>simp
  | @cons kv u kvs us h1 _ d=>
   rw[List.any_cons,Bool.or_eq_true,zJ,d]
   have:decide (kv.1=(Sum.inr z:Key))=true↔t=u:=by
    obtain⟨i,a,b,g,_⟩:=h1;rw[decide_eq_true_iff,a];constructor
    . intro q;have f:=Sum.inr.inj q;subst f;exact hg.inj g (hz.symm.trans b)
    . rintro rfl;rw[Dec.cl_inj (b.trans hz.symm)]
   rw[this]
 rw[<-c,e];cases valV kvs (Sum.inr z:Key)<;>simp
def CompD(n i:Nat)(D:Addr)(acc:List (Key×V))(Pv:Nat->List (Key×V)->Hp->Prop)(k:Key):VK:=fun v H7=>H7 D=some (.dK acc)/\acc.length < sizeLine/\∃m',m' < n - i/\(m'=n - (i+1)/\i+1<=n/\Pv (i+1) (putK acc k v) (upd H7 D (.dK (putK acc k v))))
theorem CompD.mk{n i:Nat}{D:Addr}{acc:List (Key×V)}{Pv:Nat->List (Key×V)->Hp->Prop}{k:Key}{v:V}{H7:Hp}(hi:i < n)(hl:acc.length < sizeLine)(h1:H7 D=some (.dK acc))(h2:Pv (i+1) (putK acc k v) (upd H7 D (.dK (putK acc k v)))):CompD n i D acc Pv k v H7:=
 ⟨h1,hl,n - (i+1),by omega,rfl,hi,h2⟩
theorem pG{K K':PySem.W.Frag}{a:Addr}{mp:List (Option Nat)}{tl:TE}{tk te:TE}{Q:VK}{σ rest:L2.St}{H H1:Hp}{xs:List V}(e:subS mp σ=none::none::rest)(ha:∀Q:VK,Q (.ref a) H1->tl σ H Q)(h1:SqT K H1 a xs)(h:∀D,H1 D=none->∃Pv:Nat->List (Key×V)->Hp->Prop,Pv 0 [] (upd H1 D (.dK []))/\(∀i acc H,Pv i acc H->SqT K H a xs)/\
  (∀i z acc H,i < xs.length->Pv i acc H->xs[i]?=some z->∃T x y,z= .ref T/\SqT K' H T [x,y]/\tk (some x::some y::rest) H fun yk H6=>∃k,yk=kV k/\te (some x::some y::rest) H6 (CompD xs.length i D acc Pv k))/\∀acc H,Pv xs.length acc H->Q (.ref D) H):
 lT mp (iTup K tl) (gTup K' 2 (aV (aH 0) (aV (aH 1) gNil))) cH tk te σ H Q:=by
 unfold lT;rw[e];refine ha _ ⟨a,rfl,⟨xs,h1⟩,fun D g=>?_⟩;refine hZq fun q_ e_=>?_;obtain⟨Pv,f,l,ps,n⟩:=h D g;subst e_;refine⟨fun i m acc H=>m=xs.length - i/\i<=xs.length/\Pv i acc H,⟨xs.length,by simp,zY _,f⟩,?_⟩
 rintro i m acc H ⟨rfl,hi,p⟩;have d:=l i acc H p;by_cases b:i < xs.length
 . refine .inr ⟨⟨xs,xs[i],d,by simp[b]⟩,?_⟩
   intro v H' z_;refine hZq fun q_ e_=>?_;obtain⟨rfl,y⟩:=z_;obtain⟨T,x,z,rfl,j,c⟩:=ps i v acc _ b p (y xs d);subst e_;exact⟨T,[x,z],rfl,j,rfl,x,[z],rfl,z,[],rfl,rfl,ext2,c⟩
 . have ei:i=xs.length:=by omega
   subst ei;exact .inl ⟨⟨xs,d,zu _⟩,n acc H p⟩
end K44
namespace K44
open PySem L2 Mth Tre
theorem ur{ns:List Int}{i:Int}(h0:0<=i)(h1:i < ns.length):∃(z:Int),atI (ns.map V.int) i=some (.int z)/\z=ns.getD i.toNat 0:=by
 obtain⟨j,rfl⟩:∃j:Nat,i=(j:Int):=⟨i.toNat,by omega⟩
 have a:j < ns.length:=by omega
 exact⟨ns[j],aB (by rw[zr,zo a];rfl),by rw[AA,zt,zo a];rfl⟩
noncomputable def w9(z kk m:Int):Int:=(z%1000003+31*kk*kk+1)*48271%999983*7919%524287%m
noncomputable def u7(ns:List Int)(kk m:Int):Int:=
 if ns.length=0 then w9 0 kk m else if ns.getD 0 0%2=1 then ns.getD (kk%(ns.length:Int)).toNat 0 / 2^(20*(kk / (ns.length:Int))+1).toNat%1048576%m else w9 (ns.getD (kk%(ns.length:Int)).toNat 0) kk m
theorem gm{m:Int}(h0:0<=m)(h:m<=1000000000000):Big m:=by
 unfold Big;have:(1000000000000:Nat) < 2^8000:=by decide +kernel
 exact zZ (by omega) this
section
variable{P:Program}{w:World}{K:PySem.W.Frag}{mg:Str->Option Value}{base:Heap}{T0:Addr}
def jt(K:PySem.W.Frag):Sp:=fun vs H Q _=>∃(a:Addr) (ns:List Int) (kk m:Int),vs= [.ref a, .int kk, .int m]/\SqL K H a (ns.map V.int)/\ns.length<=63/\0<=kk/\kk<=100000/\0 < m/\∀r:Int,0<=r->r < m->r=u7 ns kk m->Q (.int r) H
theorem scD:FnScope ["_law_script","_law_k","_law_many","_law_cell","_law_seed"] ["_law_script","_law_k","_law_many"] (ag rF):= .of
theorem vo{f:Addr}{fd:FuncData}(F:Fun K "_law_draw" "_law_draw" rF f fd)(B:Blt mg):FnOk P w K mg base CX0 1 f fd ["_law_script","_law_k","_law_many"] (jt K):=by
 refine F.okb scD fun vs H Q E h=>?_;refine hZq fun q_ e_=>?_;obtain⟨a,ns,kk,m,rfl,c,n,k0,k5,d,k⟩:=h;subst e_;refine⟨rfl,fun p A outer s hr=>?_⟩
 refine⟨_,ad (psA 3 scD.nd (dG (aw dc (aA ax rfl B.le PySem.boot_len (a0 (pv 0) a9)) ac (ay _))
  (ak ao (pv 0) (am di (pv 1) (aA ax rfl B.le PySem.boot_len (a0 (pv 0) a9))) fun _ _=>rfl) ac))
  (ad (bh (PW.pt (fi (aw dc (aA ax rfl B.le PySem.boot_len (a0 (pv 0) a9)) ac (ay _)) (dX (aw dy (am di (ak ao (pv 0) ac fun _ _=>rfl) ac) ac (ay _)))))
   (af (ar (am di (am di (am wQ (pv 3) (am aY (am fm ac (am vj (pv 1) (aA ax rfl B.le PySem.boot_len (a0 (pv 0) a9)))) ac)) ac) (pv 2)))) aI)
  (ad (psA 4 scD.nd (am aY (am aY (am di (pv 3) ac) (am aU (am fm ac (pv 1)) (pv 1))) ac))
  (af (ar (am di (am di (am fm (am di (am fm (pv 4) ac) ac) ac) ac) (pv 2)))))),?_⟩
 by_cases e:ns.length=0
 . have o:ns= []:=List.length_eq_zero_iff.mp e;subst o;refine⟨_,rfl,a,_,rfl, .inl c,_,0,rfl,rfl,_,rfl,?_⟩;refine iteF ?_;refine⟨_,rfl,a,_,rfl, .inl c,_,0,rfl,rfl,_,rfl,?_⟩;refine iteF ?_;refine iteF ?_;refine⟨_,rfl,0,1000003,rfl,rfl,(by show(0:Int) < 1000003;decide),_,rfl,31,kk,rfl,rfl, .inl ⟨by decide,by decide⟩,_,rfl,_,kk,rfl,rfl,⟨gm (by omega) (by omega),gm k0 (by omega)⟩,_,_,rfl,rfl,_,_,rfl,rfl,?_⟩
   refine⟨_,rfl,_,48271,rfl,rfl, .inr ⟨by decide,by decide⟩,_,999983,rfl,rfl,(by show(0:Int) < 999983;decide),_,7919,rfl,rfl, .inr ⟨by decide,by decide⟩,_,524287,rfl,rfl,(by show(0:Int) < 524287;decide),_,rfl,_,m,rfl,rfl,d,?_⟩
   exact k _ (Int.emod_nonneg _ (by omega)) (Int.emod_lt_of_pos _ d) rfl
 . have lp:(0:Int) < (ns.length:Int):=by omega
   refine hZq fun q_ e_=>?_;obtain⟨z,hz,j⟩:=ur (ns:=ns) (i:=kk%(ns.length:Int)) (Int.emod_nonneg _ (by omega)) (Int.emod_lt_of_pos _ lp)
   obtain⟨y,hy,g⟩:=ur (ns:=ns) (i:=0) (by omega) lp
   subst e_;have l:decide ((0:Int) < (ns.length:Int))=true:=decide_eq_true lp;refine⟨_,rfl,a,_,rfl, .inl c,_,0,rfl,rfl,_,rfl,?_⟩;rw[zm,l];refine iteT ?_;refine⟨_,rfl,_,rfl,_,rfl,a,_,rfl, .inl c,kk,_,rfl,rfl,(by rw[zm];omega),a,_,kk%(ns.length:Int), .int z,rfl,(by rw[zm]),c,hz,?_⟩
   refine⟨_,rfl,a,_,rfl, .inl c,_,0,rfl,rfl,_,rfl,?_⟩;rw[zm,l];refine iteT ?_;refine⟨_,rfl,a,_,0, .int y,rfl,rfl,c,hy,_,2,rfl,rfl,(by show(0:Int) < 2;decide),rfl,_,rfl,?_⟩
   refine ite2 (fun hd=>?_) (fun hd=>?_)
   . have hb:ns.getD 0 0%2=1:=by
      have:=of_decide_eq_true hd;rw[<-show y=ns.getD 0 0 from g];exact V.int.inj this
     refine⟨_,rfl,_,rfl,_,rfl,a,_,rfl, .inl c,kk,_,rfl,rfl,⟨by rw[zm];omega,by rw[zm];omega⟩,20,_,rfl,rfl, .inl ⟨by decide,by decide⟩,_,1,rfl,rfl,z,_,rfl,rfl,?_,_,1048576,rfl,rfl,(by show(0:Int) < 1048576;decide),_,rfl,_,m,rfl,rfl,d,?_⟩
     . have:=Int.ediv_nonneg k0 (b:=((ns.map V.int).length:Int)) (by omega)
       omega
     . exact k _ (Int.emod_nonneg _ (by omega)) (Int.emod_lt_of_pos _ d) (by subst j;unfold u7;rw[if_neg e,if_pos hb,zm])
   . have hb:¬ns.getD 0 0%2=1:=by
      rw[<-show y=ns.getD 0 0 from g];exact fun q=>hd (decide_eq_true (congrArg V.int q))
     refine⟨_,rfl,z,1000003,rfl,rfl,(by show(0:Int) < 1000003;decide),_,rfl,31,kk,rfl,rfl, .inl ⟨by decide,by decide⟩,_,rfl,_,kk,rfl,rfl,⟨gm (by omega) (by omega),gm k0 (by omega)⟩,_,_,rfl,rfl,_,_,rfl,rfl,?_⟩
     refine⟨_,rfl,_,48271,rfl,rfl, .inr ⟨by decide,by decide⟩,_,999983,rfl,rfl,(by show(0:Int) < 999983;decide),_,7919,rfl,rfl, .inr ⟨by decide,by decide⟩,_,524287,rfl,rfl,(by show(0:Int) < 524287;decide),_,rfl,_,m,rfl,rfl,d,?_⟩
     exact k _ (Int.emod_nonneg _ (by omega)) (Int.emod_lt_of_pos _ d) (by subst j;unfold u7;rw[if_neg e,if_neg hb];rfl)
open PySem L2 Mth Tre Wd Su Tw Fm
structure Gm (T:List Tr) (t:Tr):Prop where
 gt:Gt t
 dep:t.depth<=39
 len:(tmC t).length<=1000
 mem:t∈T
theorem za{t:Tr}(h:Gt t):Dj.Hs t:=by
 cases h with
 |nm x hx=>exact⟨_,_,rfl⟩
 |ap f ts _ _ _ _=>exact⟨_,_,rfl⟩
def sumT(ps:List Pq):Tr:= .tup (ps.map prT)
def qT:Sp:=fun vs H Q _=>∃(l:Addr) (xs:List V) (pss:List (List Pq)) (T:List Tr),vs= [.ref l]/\H l=some (.lst xs)/\TrsAt H xs (pss.map sumT)/\(∀ps∈pss,∀p∈ps,Gm T p.1)/\T.length < 64/\
 ∀D ws us H',H D=none->Same H H'->H' D=some (.lst ws)->TrsAt H' ws us->us.Nodup->(∀x,x∈us↔∃ps∈pss,∃p∈ps,p.1=x)->Q (.ref D) H'
theorem scTmo:FnScope ["sums","found","pairs","term","share"] ["sums"] (ag sTmo):= .of
theorem xg{f:Addr}{fd:FuncData}(F:Fun K "terms_of" "terms_of" sTmo f fd)(B:Blt mg)(zS:Cl P w K mg base 41 "shown_term" ["term"] (spSt 40)):
 FnOk P w K mg base CX0 42 f fd ["sums"] qT:=by
 refine F.okb scTmo fun vs H Q E h=>?_;refine hZq fun q_ e_=>?_;obtain⟨l,xs,pss,T,rfl,hl,hT,hg,c3,k⟩:=h;subst e_;refine⟨rfl,fun c2 A outer s hr=>?_⟩;have bC:(A.deeper (PyProof.Rows.envOfC (Str.ofString "terms_of") (ag sTmo) s.heap.objs.size f c2)).units+60 < cLine:=by have:=hr.units;omega
 refine⟨_,ad (psA 1 scTmo.nd ss)
  (ad (bK PassesOwn.never rfl (aJ (pv 0)) (pgA 2 scTmo.nd)
   (af (bK PassesOwn.never rfl (fk (pv 2)) (aS rfl (ai (pgA 3 scTmo.nd) (ai (pgA 4 scTmo.nd) aL)))
    (af (dg (iO PySem.F.plainAttrs_dict PySem.F.slot_dict_setdefault PySem.F.type_dict_setdefault iB (pv 1) (a0 (aj zS hr (a0 (pv 3) a9)) (a0 (pv 3) a9))))))))
  (af (ar (aA (Dj.call_sortedV rfl bC) rfl B.so PyProof.Rows.boot_sorted (a0 (wO PySem.F.plainAttrs_dict PySem.F.slot_dict_values PySem.F.type_dict_values oX (pv 1)) a9))))),?_⟩
 have c4:(20000:Nat)<=sizeLine:=by decide +kernel
 intro d nd;have s1:Same H (upd H d (.dK [])):=aa nd;have cI:l≠d:=fun q=>by rw[q,nd]at hl;cases hl
 have bB:(upd H d (.dK [])) d=some (.dK []):=a8;have bg:=hT.len;rw[zm]at bg;refine⟨_,rfl,l,rfl,⟨xs,SqL.of (s1 _ _ hl)⟩,?_⟩
 refine cE (xs:=xs) (fun i σ H'=>(∃v2 v3 v4,σ= [some (.ref l),some (.ref d),v2,v3,v4])/\But1 d (upd H d (.dK [])) H'/\∃a3 v,H' d=some (.dK a3)/\DictT H' a3 v/\v.Nodup/\(∀x,x∈v↔∃ps∈pss.take i,∃p∈ps,p.1=x))
  ⟨⟨none,none,none,rfl⟩,fun x o _ e=>e,[],[],bB, .nil,List.nodup_nil,fun x=>by simp⟩ (fun i σ H' _ p=>SqL.of (p.2.1 _ _ cI (s1 _ _ hl))) ?_ ?_
 . intro i x σ H' ex z_;refine hZq fun q_ e_=>?_;obtain⟨⟨v2,v3,v4,rfl⟩,b1,a3,v,bj,b6,bI,b4⟩:=z_;obtain⟨u,eu,hu⟩:=hT.get' ex;rw[zr]at eu;obtain⟨ps,ep,rfl⟩:=zy.mp eu;have bF:=zw ep;have cd:Kd H H':=(Kd.of_same s1).trans (b1.kd bB);obtain⟨au,ys,rfl,bb,bY⟩:=at_t (hu.mono cd);subst e_;have yl:=bY.len;rw[zm]at yl;have b7:au≠d:=fun q=>by rw[q,bj]at bb;cases bb
   have cp:∀x∈v,x∈T:=fun x m=>by
    refine hZq fun q_ e_=>?_;obtain⟨qs,mq,p,mp,rfl⟩:=(b4 x).mp m;subst e_;exact(hg qs (AN mq) p mp).mem
   refine⟨_,rfl,au,rfl,⟨ys,SqT.of bb⟩,?_⟩
   refine jQ (xs:=ys) (fun j σ a7=>(∃v3 v4,σ= [some (.ref l),some (.ref d),some (.ref au),v3,v4])/\But1 d H' a7/\∃a5 a1,a7 d=some (.dK a5)/\DictT a7 a5 a1/\a1.Nodup/\(∀x,x∈a1↔x∈v\/∃p∈ps.take j,p.1=x))
    ⟨⟨v3,v4,rfl⟩,fun x o _ e=>e,a3,v,bj,b6,bI,fun x=>by simp⟩ (fun i σ a7 _ p=>SqT.of (p.2.1 _ _ b7 bb)) ?_ ?_
   . intro j z σ H2 ez z_;refine hZq fun q_ e_=>?_;obtain⟨⟨v3,v4,rfl⟩,b2,c,n,aT,a4,r,aC⟩:=z_;have cb:Kd H' H2:=b2.kd bj;obtain⟨t',bR,b8⟩:=(bY.mono cb).get' ez;rw[zr]at bR;obtain⟨⟨tm,fr⟩,eq,rfl⟩:=zy.mp bR;obtain⟨T',x,y,rfl,cn,hx,hy⟩:=bE b8;subst e_;have g:=hg ps bF _ (zw eq);refine⟨T',_,rfl,SqT.of cn,rfl,_,_,rfl,_,_,rfl,rfl,?_⟩;refine⟨_,rfl, .inr (.inr (.inl ⟨rfl, .inl ⟨c,aT⟩⟩)),_,rfl,x,tm,rfl,hx,g.gt.ty,(by have:tm.depth<=39:=g.dep;omega),g.len,fun z H3 s3 bi=>⟨_,rfl,?_⟩⟩
     have bw:=s3 _ _ aT;have a6:=a4.mono (Kd.of_same s3)
     have bx:∀x∈n,x∈T:=fun x m=>by
      rcases(aC x).mp m with m|⟨p,mp,rfl⟩
      . exact cp x m
      . exact(hg ps bF p (AN mp)).mem
     have l2:=sub_len r bx;refine⟨d,c,Sum.inr z,x,rfl,rfl,bw,by rw[a6.len];omega,fun y' ev=>?_,fun ev=>?_⟩
     . have mt:tm∈n:=by
        by_cases m:tm∈n
        . exact m
        . rw[(a6.none_iff g.gt bi).mpr m]at ev;cases ev
       refine⟨⟨_,_,rfl⟩,b2.trans (But1.of_same s3),c,n,bw,a6,r,fun x=>?_⟩;rw[aC,aq eq];simp only[A9,A8];constructor
       . rintro(h|⟨p,mp,e⟩)
         . exact .inl h
         . exact .inr ⟨p, .inl mp,e⟩
       . rintro(h|⟨p,mp|rfl,e⟩)
         . exact .inl h
         . exact .inr ⟨p,mp,e⟩
         . exact(aC x).mp (e▸mt)
     . have mo:=(a6.none_iff g.gt bi).mp ev;have bT:Kd H3 (upd H3 d (.dK (c++ [(Sum.inr z,x)]))):=Dj.Kd.updK bw;refine⟨⟨_,_,rfl⟩,(b2.trans (But1.of_same s3)).trans fun x o nx e=>by rw[ae nx];exact e,c++ [(Sum.inr z,x)],n++ [tm],a8,Paired.snoc (a6.mono bT) ⟨z,rfl,bi,g.gt,(hx.mono (Kd.of_same s3)).mono bT⟩,?_,fun x=>?_⟩
       . rw[List.nodup_append];exact⟨r,by simp,fun a ma b mb=>by rw[A8.mp mb];exact fun q=>mo (q▸ma)⟩
       . rw[A9,aC,aq eq];simp only[A9,A8];constructor
         . rintro((h|⟨p,mp,e⟩)|h)
           . exact .inl h
           . exact .inr ⟨p, .inl mp,e⟩
           . exact .inr ⟨_, .inr rfl,h.symm⟩
         . rintro(h|⟨p,mp|rfl,e⟩)
           . exact .inl (.inl h)
           . exact .inl (.inr ⟨p,mp,e⟩)
           . exact .inr e.symm
   . intro σ H2 z_;refine hZq fun q_ e_=>?_;obtain⟨⟨v3,v4,rfl⟩,b2,c,n,aT,a4,r,aC⟩:=z_;subst e_;rw[yl,A3]at aC;refine⟨⟨_,_,_,rfl⟩,b1.trans b2,c,n,aT,a4,r,fun x=>?_⟩;rw[aC,b4,aq ep];simp only[A9,A8];constructor
     . rintro(⟨qs,mq,h⟩|h)
       . exact⟨qs, .inl mq,h⟩
       . exact⟨ps, .inr rfl,h⟩
     . rintro⟨qs,mq|rfl,h⟩
       . exact .inl ⟨qs,mq,h⟩
       . exact .inr h
 . intro σ H2 z_;refine hZq fun q_ e_=>?_;obtain⟨⟨v2,v3,v4,rfl⟩,b2,c,n,aT,a4,r,aC⟩:=z_;subst e_;rw[bg,A3]at aC;refine⟨_,rfl, .inr (.inr (.inl ⟨rfl, .inl ⟨c,aT⟩⟩)),d,c,rfl,rfl,aT,fun x nx=>?_⟩;have s3:Same H2 (upd H2 x (jb x d)):=aa nx
   have a2:∀t∈n,Gm T t:=fun t m=>by
    refine hZq fun q_ e_=>?_;obtain⟨qs,mq,p,mp,rfl⟩:=(aC t).mp m;subst e_;exact hg qs mq p mp
   have db:n.length<=T.length:=sub_len r fun y my=>(a2 y my).mem;refine⟨x,d,c,n,rfl,a8,s3 _ _ aT,a4.vals.mono (Kd.of_same s3),by omega,fun t m=>⟨za (a2 t m).gt,fU (a2 t m).gt.ty,by have:=(a2 t m).dep;omega⟩,fun t m u m'=>pO 40 (by have:=(a2 t m).dep;omega) (a2 t m).gt.ty (a2 u m').gt.ty,fun D ws us nD hp cm c8=>?_⟩
   have sH:Same H (upd (upd H2 x (jb x d)) D (.lst ws)):=fun y o e=>aa nD _ _ (s3 _ _ (b2 y o (av e nd) (s1 _ _ e)));refine k D ws us _ ?_ sH a8 (cm.mono (Kd.of_same (aa nD))) (hp.nodup_iff.mpr r) fun y=>by rw[hp.mem_iff,aC]
   have n2:=s3.free nD
   cases e:H D with
   |none=>rfl
   |some o=>rw[b2 D o (av e nd) (s1 _ _ e)]at n2;cases n2
open Classical in
noncomputable def cw(s:Int)(t:Tr):List Pq->Int
 | []=>0
 |p::r=>if p.1=t then wh p.2 s else cw s t r
theorem ow{s:Int}{t:Tr}{p:Pq}:∀ {a:List Pq},p.1≠t->cw s t (a++ [p])=cw s t a
 | [],h=>by simp[cw,h]
 |q::r,h=>by
  simp only[Ak,cw];split
  . rfl
  . exact ow h
theorem ud{s:Int}{t:Tr}{p:Pq}:∀ {a:List Pq},p.1=t->(∀q∈a,q.1≠t)->cw s t (a++ [p])=wh p.2 s
 | [],h,_=>by simp[cw,h]
 |q::r,h,hn=>by
  simp only[Ak,cw];rw[if_neg (hn q zq)];exact ud h fun x m=>hn x (zp _ m)
theorem wo{s:Int}{t:Tr}{e:Nat}{M:Nat}:∀ {a:List Pq},(∀p∈a,0 < p.2.2/\p.2.1.natAbs<=M)->(cw s t a).natAbs<=M*s.natAbs
 | [],_=>by simp[cw]
 |q::r,h=>by
  simp only[cw];split
  . exact zK (vU (h q zq).1) (Ap _ (h q zq).2)
  . exact wo (e:=e) fun p m=>h p (zp _ m)
theorem eM{te:TE}{i:Nat}{u:TS}{Z:Ends}{σ:L2.St}{H:Hp}(h:te σ H fun v H1=>aH i v σ H1 (u Z)):tSeq (tAsg te (aH i)) u Z σ H:=h
def rC:Sp:=fun vs H Q _=>∃(v:V) (ps:List Pq) (lt:Addr) (ws:List V) (us T:List Tr) (s:Int) (e:Nat),vs= [v, .ref lt, .int s]/\TrAt H v (sumT ps)/\Asc ps/\(∀p∈ps,Gm T p.1/\Gq e p)/\e<=8000/\Big s/\T.length < 64/\
 H lt=some (.lst ws)/\TrsAt H ws us/\(∀t∈us,Gm T t)/\us.length < 64/\∀l H',H l=none->Same H H'->H' l=some (.lst ((us.map fun t=>cw s t ps).map V.int))->Q (.ref l) H'
theorem scCto:FnScope ["pairs","terms","scale","counts"] ["pairs","terms","scale"] (ag sCto):= .of
theorem xD{f:Addr}{fd:FuncData}(F:Fun K "counts_of" "counts_of" sCto f fd)(zS:Cl P w K mg base 41 "shown_term" ["term"] (spSt 40))(zW:Cl P w K mg base 1 "whole_of" ["share","scale"] mX):
 FnOk P w K mg base CX0 42 f fd ["pairs","terms","scale"] rC:=by
 refine F.okb scCto fun vs H Q E h=>?_;refine hZq fun q_ e_=>?_;obtain⟨v,ps,lt,ws,us,T,sc,e,rfl,hv,l,a2,he,bi,bC,bB,a3,a7,ul,k⟩:=h;subst e_;refine⟨rfl,fun bR A outer s hr=>?_⟩;have bg:=tL hr;have bw:Room 1 _:=hr.mono (by decide)
 have a1:(["term","share","scale"]:List Str).Nodup:=by decide +kernel
 have a6:(["term","counts"]:List Str).Nodup:=by decide +kernel
 refine⟨_,ad (psR 3 scCto.nd (sG (NC:= ["term","share","scale"]) (mp:= [none,none,some 2]) (g:=gTup K 2 (aV (aH 0) (aV (aH 1) gNil))) rfl (fk (pv 0))
  (fun _ _ _ _ _=>aS (n:=2) rfl (ai (pgA 0 a1) (ai (pgA 1 a1) aL))) (fun _ _ _ _ _=>aR)
  (fun _ _ _ _ _=>aj zS hr (a0 (pv 0) a9)) (fun _ _ _ _ _=>aj zW bw (a0 (pv 1) (a0 (pv 2) a9)))))
  (af (ar (aO (NC:= ["term","counts"]) (mp:= [none,some 3]) rfl (aJ (pv 1)) (fun _ _ _ _ _=>pgA 0 a6) (fun _ _ _ _ _=>aR)
   (fun _ _ _ _ _=>sF bg (pv 1) (aj zS hr (a0 (pv 0) a9)) ac ⟨rfl,rfl,rfl,rfl⟩)))),?_⟩
 have bF:(20000:Nat)<=sizeLine:=by decide +kernel
 refine hZq fun q_ e_=>?_;obtain⟨au,xs,rfl,a4,aT⟩:=at_t hv;subst e_;have xl:=aT.len;rw[zm]at xl;have pl:=asc_len l fun u m=>(a2 u m).1.mem;refine eM ?_;refine pG (K':=K) (xs:=xs) (rest:= [some (.int sc)]) (a:=au) rfl (fun Q q=>⟨_,rfl,q⟩) (SqT.of a4) fun L nL=>?_;refine⟨fun j acc H'=>Same H H'/\H' L=some (.dK acc)/\acc.length<=j/\∀(t:Tr) (z:Str),Gt t->Dec.cl z=tmC t->(valV acc (Sum.inr z)).getD (.int 0)= .int (cw sc t (ps.take j)),⟨aa nL,a8,zu _,fun t z _ _=>by rw[Ar];rfl⟩,fun j bI H' p=>SqT.of (p.1 _ _ a4),?_,?_⟩
 . rintro j z acc H' hj ⟨d,hL,bx,b⟩ ez;refine hZq fun q_ e_=>?_;obtain⟨t',a5,bb⟩:=(aT.mono (Kd.of_same d)).get' ez;rw[zr]at a5;obtain⟨⟨tm,fr⟩,eq,rfl⟩:=zy.mp a5;obtain⟨T',x,y,rfl,bj,hx,hy⟩:=bE bb;obtain⟨g,gq⟩:=a2 _ (zw eq);subst e_;have jl:j < ps.length:=(zv.mp eq).1;refine⟨T',x,y,rfl,SqT.of bj,?_⟩;refine⟨_,rfl,x,tm,rfl,hx,g.gt.ty,(by have:tm.depth<=39:=g.dep;omega),g.len,fun z H6 s6 c=>⟨Sum.inr z,rfl,?_⟩⟩
   refine⟨_,rfl,_,rfl,y,fr,sc,rfl,hy.mono (Kd.of_same s6),gq.gf.pos,gq.gf.bot.big (by omega),gq.gf.top.big (by omega),bi,?_⟩
   refine CompD.mk hj (by omega) (s6 _ _ hL) ⟨aD nL (d.trans s6),a8,?_,fun t z' gt r=>?_⟩
   . have:=fK acc (Sum.inr z) (.int (wh fr sc));omega
   . rw[pN,aq eq];by_cases q:(Sum.inr z':Key)=Sum.inr z
     . rw[if_pos q];have q':=Sum.inr.inj q;subst q';have et:t=tm:=gt.inj g.gt (r.symm.trans c);subst et;rw[ud (p:=(t,fr)) (t:=t) rfl fun q mq=>?_]
       . rfl
       . obtain⟨i,hi,e1⟩:=Ax mq;rw[A7]at hi;rw[List.getElem_take]at e1;have:=An.mp l i j (by omega) jl (by omega)
         rw[e1,show ps[j]=(t,fr)from(zv.mp eq).2]at this;exact iS this
     . rw[if_neg q,b t z' gt r,ow];intro h;have h':tm=t:=h;subst h';exact q (by rw[Dec.cl_inj (r.trans c.symm)])
 intro kvs H1 z_;refine hZq fun q_ e_=>?_;obtain⟨s1,hL,bx,b⟩:=z_;subst e_;rw[xl,A3]at b;have o:=s1 _ _ bB;have wl:=a3.len;refine⟨_,rfl,lt,rfl,⟨ws,SqL.of o⟩,fun D nD=>?_⟩;refine bG (xs:=ws) (fun j acc H'=>Same H1 H'/\H' D=some (.lst acc)/\acc=((us.take j).map fun t=>cw sc t ps).map V.int) ⟨aa nD,a8,rfl⟩ (fun j acc H' p=>SqL.of (p.1 _ _ o)) ?_ ?_
 . intro j x acc H' hj ex z_;refine hZq fun q_ e_=>?_;obtain⟨d,hD,rfl⟩:=z_;obtain⟨t,et,ht⟩:=(a3.mono (Kd.of_same (s1.trans d))).get' ex;subst e_;have g:=a7 t (zw et);have aC:=d _ _ hL;refine⟨_,rfl,L,rfl, .inl ⟨kvs, .inl aC⟩,?_⟩;refine⟨_,rfl,x,t,rfl,ht,g.gt.ty,(by have:=g.dep;omega),g.len,fun z H6 s6 c=>⟨_,DGet.k (k:=Sum.inr z) (s6 _ _ aC),?_⟩⟩
   have jl:j < us.length:=(zv.mp et).1;refine CompN.mk hj (by rw[zm,zm,A7];omega) (s6 _ _ hD) ⟨aD nD (d.trans s6),a8,?_⟩
   rw[b t z g.gt c,aq et];simp
 . rintro acc H2 ⟨d,hD,rfl⟩;rw[wl,A3]at hD;exact k D H2 (s1.free nD) (s1.trans d) hD
end
end K44
namespace Zp
open PySem
section
variable{prog:Program}{w:World}{A:Around}{E:Value->Shared->Prop}{s:Shared}{k:Src}{z TI TO i1 i2 l1 l2:Addr}{j:Nat}{xs ys:Array Value}{x y a b:Value}
end
end Zp
namespace L2
open PySem PySem.Spec PyProof.Rows Zp
section
variable{X:Cx}
end
end L2
namespace Dj
open PySem PySem.Spec PyProof.Rows L2 Tre
noncomputable def lS(P:Program)(w:World)(K:PySem.W.Frag)(mp:List (Option Nat))(wi:TI)(g:TG)(tc:TT)(tk te:TE):TE:=fun σ H Q=>wi σ H fun J H1=>∀D,H1 D=none->
 ∃W:Nat->Nat->List Ent->Hp->Prop,(∃m,W 0 m [] (upd H1 D (dJ P w D [])))/\∀i m acc H2,W i m acc H2->
  (J.stop i H2/\Q (.ref D) H2)\/
  (J.go i H2/\∀x H3,J.yld i H2 x H3->g x (subS mp σ) H3 fun σ4 H4=>Ext (subS mp σ) σ4/\tc σ4 H4 fun b H5=>if b=true then tk σ4 H5 fun y H6=>∃b k,y= .ref b/\te σ4 H6 fun v H7=>DJ P w K H7 D acc/\KeyAt K H7 k b/\acc.length < sizeLine/\∃m',m' < m/\W (i+1) m' (putJ acc k b v) (upd H7 D (dJ P w D (putJ acc k b v)))
   else∃m',m' < m/\W (i+1) m' acc H5)
section
variable{X:Cx}{pins:List (Addr×Obj)}{σ:L2.St}{H:Hp}{s:Shared}
variable{kx vx target iter:Expr}{ifs:List Expr}{scope:Scope}{NC:List Str}{mp:List (Option Nat)}{pos:Pos}{wi:TI}{g:TG}{tc:TT}{tk te:TE}
theorem pe_compJ(hcalm:X.calm=true)(hu:X.A.units+30 < cLine)(hi:PI X target iter wi)(hg:∀C s H fp pn,PG (XC X scope NC C s H fp pn) target g)(ht:∀C s H fp pn,PTs (XC X scope NC C s H fp pn) ifs tc)(hkx:∀C s H fp pn,PE (XC X scope NC C s H fp pn) kx tk)(he:∀C s H fp pn,PE (XC X scope NC C s H fp pn) vx te)(hl:mp.length=NC.length:=by rfl)(hm:hX X.N NC mp scope.names X.env.scope.names=true:=by rfl)(hc:bJ scope.names X.env.cells=true:=by rfl)(hk:scope.kind= .function:=by rfl)(hnc:∀y∈scope.names,y.2≠ .cell:=by decide +kernel)(hnm:∀y∈scope.names,y.2= .local->scope.names.lookup y.1=some .local:=by decide +kernel)(hs:∀x,foldedSetIterable iter X.env x=pure x:=by intro _;rfl):
 PE X (.DictComp kx vx [⟨target,iter,ifs,0⟩] scope pos) (lS X.prog X.w X.K mp wi g tc tk te):=by
 intro pins s σ H Q I h;rw[arm_eval_DictComp];refine wpAny_comprehension_free (use:=none) rfl hs (gj hc) hk hnm (thn (hi pins s σ H _ I h) fun v s1 h1=>thn h1 fun dr f h2=>?_);refine hZq fun q_ e_=>?_;obtain⟨it,fp,tn,J,H2,e,I2,T,a6,f2,W⟩:=h2;subst e_;subst e;refine wpAny_newObj_type ?_;have nD:H2 f.heap.objs.size=none:=I2.hok.fresh (zu _)
 have I3:Inv X pins σ (upd H2 f.heap.objs.size (dJ X.prog X.w f.heap.objs.size [])) {f with heap:=f.heap.push {cls:= .type "dict",data:= .dict #[]}}:=
  I2.laid (t':=f.toks) (fun b u e=>Heap.get?_push_of_some _ e) (zu _) (kX f.heap I2.big)
 refine hZq fun q_ e_=>?_;obtain⟨W,⟨m0,w0⟩,turn⟩:=W _ nD;subst e_
 have bb:∀b∈fp,b < f.heap.objs.size:=fun b hb=>by
  obtain⟨o,e,_⟩:=T.obj 0 _ a6 b hb;exact Heap.lt_size e
 have cn:∀b∈fp,b≠f.heap.objs.size:=fun b hb=>zO (bb b hb)
 have f3:∀b∈fp,FpOk X pins (upd H2 f.heap.objs.size (dJ X.prog X.w f.heap.objs.size [])) b:=fun b hb=>by
  obtain⟨g0,g1⟩:=f2 b hb;exact⟨by rw[ae (cn b hb)];exact g0,g1⟩
 have bj:tn 0 (f.heap.push {cls:= .type "dict",data:= .dict #[]}):=T.keep 0 _ _ a6 fun b _ o e=>Heap.get?_push_of_some _ e
 have a3:∀b∈fp,b < (f.heap.push {cls:= .type "dict",data:= .dict #[]}).objs.size:=fun b hb=>by
  rw[Heap.size_push];exact Aq (bb b hb)
 generalize hD:f.heap.objs.size=D at*;generalize b7:({f with heap:=f.heap.push {cls:= .type "dict",data:= .dict #[]}}:Shared)=a at*;have bF:a.heap=f.heap.push {cls:= .type "dict",data:= .dict #[]}:=by rw[<-b7]
 rw[<-bF]at bj a3;generalize dl:upd H2 D (dJ X.prog X.w D [])=H3 at*;refine wpAny_newFunctionEnv (around:=some X.env) hnc (by intro y hy;cases hy) (fun h4 c2 bx=>?_) hk
 have bB:∀b o,a.heap.get? b=some o->h4.get? b=some o:=fun b o e=>bx.extBut b o (zO (Heap.lt_size e)) (Heap.get?_push_of_some _ e);have I4:=I3.block (tk:=a.toks+([]:List (Str×Value)).length) f3 a3 hk hnc hc hl hm bB c2;have bw:tn 0 h4:=T.keep 0 _ _ bj fun b _ o e=>bB b o e
 have fin:∀(s5:Shared) (σ5:L2.St) (H5:Hp),Inv (XC X scope NC a.heap.objs.size a H3 fp (X.pn++pins)) [] σ5 H5 s5->Q (.ref D) H5->compPost (model X.prog X.w) X.A X.xe none (EP X pins σ Q) (.ref D) a.heap.objs.size (.ok .next) s5:=by
  intro s5 σ5 H5 I5 q5;obtain⟨m5,bY,_⟩:=id I5.loc;refine⟨m5,bY,fun h6 cp=>⟨.ref D,H5,?_,rfl,q5⟩⟩;have aC:∀b o,b≠a.heap.objs.size->s5.heap.get? b=some o->h6.get? b=some o:=fun b o hb e=>cp.extBut b o hb e;have nC:∀b o,a.heap.get? b=some o->b≠a.heap.objs.size:=fun b o e=>zO (Heap.lt_size e);have un:Un (frs X.stack) fp H3 H5 a.heap s5.heap:=I5.base;have j:H5 a.heap.objs.size=none:=I5.free;refine I3.call' (s':= {s5 with heap:=h6}) (ch:=fp) I5.os ⟨fun b o e n hb hx=>aC b o (nC b o e) (un.keep b o e n hb hx),fun b o e n hb hx=>?_,un.free,fun b o e hx=>?_,un.tups,un.frzs,un.tbls⟩ ?_ I5.bare (fun b hb=>?_)
  . obtain⟨sl,e1⟩:=un.slot b o e n hb hx;exact⟨sl,aC b _ (nC b o e) e1⟩
  . obtain⟨o',e1⟩:=un.there b o e hx;exact⟨o',aC b o' (nC b o e) e1⟩
  . intro b o e;have nb:b≠a.heap.objs.size:=fun z=>by rw[z,j]at e;cases e
    refine(I5.hok b o e).stay (fun c v bT r=>aC c v ?_ r) (fun _ r=>r) fun _ _ r=>r;rcases bT with z|z
    . rw[z];exact nb
    . intro y;rw[y,j]at z;cases z
  . refine hZq fun q_ e_=>?_;obtain⟨g0,g1,g2,g3,g4,g5⟩:=f3 b hb;subst e_;exact⟨g3,g1,g4,g5⟩
 have loop:codeAny (model X.prog X.w) X.A (.compLoop (.DictComp kx vx [⟨target,iter,ifs,0⟩] scope pos) 0 (.ref it) (.ref D) (compEnvC scope (bZ scope.names X.env.cells []) a.heap.objs.size X.env)) (compPost (model X.prog X.w) X.A X.xe none (EP X pins σ Q) (.ref D) a.heap.objs.size)
  {a with heap:=h4,toks:=a.toks+([]:List (Str×Value)).length}:=by
  refine fP (fun n s'=>∃i acc σ' H',Inv (XC X scope NC a.heap.objs.size a H3 fp (X.pn++pins)) [] σ' H' s'/\Ext (subS mp σ) σ'/\tn i s'.heap/\(∀b∈fp,H' b=none)/\W i n acc H') ?_ m0
   ⟨0,[],subS mp σ,H3,I4,fun _ _ e=>e,bw,fun b hb=>(f3 b hb).1,w0⟩
  intro n s5 z_;refine hZq fun q_ e_=>?_;obtain⟨i,acc,σ5,H5,I5,hσ,a5,bi,w5⟩:=z_;subst e_;have bg:Inv (XC X scope NC a.heap.objs.size a H3 fp (X.pn++pins)) [] (subS mp σ) H5 s5:=I5.weak (by rw[I5.len];unfold subS;rw[zm];exact hl) hσ
  have a4:∀ {H':Hp},(∀b∈fp,H' b=none)->∀b∈fp,FpOk (XC X scope NC a.heap.objs.size a H3 fp (X.pn++pins)) [] H' b:=fun hn b hb=>by
   refine hZq fun q_ e_=>?_;obtain⟨g0,g1,g2,g3,g4,g5⟩:=f3 b hb;subst e_;refine⟨hn b hb,zO (a3 b hb),?_, .inl hb,(I4.ok.exf b hb).2,fun p hp=>g5 p (by simpa using hp)⟩
   exact I4.ok.exfs b hb
  rcases turn i n acc H5 w5 with⟨stop,q⟩|⟨go,step⟩
  . refine thn (T.done (XC X scope NC a.heap.objs.size a H3 fp (X.pn++pins)) rfl rfl rfl hcalm i [] s5 _ H5 (fun _ _=>False) bg (a4 bi) a5 stop) fun r s6 ⟨hr,I6⟩=>?_;subst hr;exact fin s6 _ H5 I6 q
  . refine thn (T.item (XC X scope NC a.heap.objs.size a H3 fp (X.pn++pins)) rfl rfl rfl hcalm i [] s5 _ H5 (fun _ _=>False) bg (a4 bi) a5 go) fun r s6 ⟨u,hr,h6⟩=>?_;subst hr;refine thn h6 fun _ s7 ⟨x,H7,I7,r7,y7,a2,cm⟩=>?_;have cI:=I7.pinned (a4 cm) (T.obj _ _ a2);refine thn (hg _ _ _ _ _ _ s7 _ H7 x u _ cI r7 (step x H7 y7)) fun _ s8 ⟨σ8,H8,I8,a1,q8⟩=>?_;refine thn (ht _ _ _ _ _ _ s8 σ8 H8 _ I8 q8) fun ok s9 ⟨H9,I9,q9⟩=>?_
    have again:∀ {σ':L2.St} {H':Hp} {s':Shared} {l:List Ent} {m':Nat},Inv (XC X scope NC a.heap.objs.size a H3 fp (X.pn++pins)) ([]++dF fp s7.heap) σ' H' s'->Ext (subS mp σ) σ'->m' < n->W (i+1) m' l H'->
     ∃m,m < n/\∃i acc σ' H',Inv (XC X scope NC a.heap.objs.size a H3 fp (X.pn++pins)) [] σ' H' s'/\Ext (subS mp σ) σ'/\tn i s'.heap/\(∀b∈fp,H' b=none)/\W i m acc H':=by
     intro σ' H' s' l m' I' cb au w';refine⟨m',au,i+1,l,σ',H',I'.unpinned,cb,T.keep _ _ _ a2 fun b hb o e=>(I'.pin (b,o) (zR _ (zR _ (aZ hb e)))).1,fun b hb=>?_,w'⟩;obtain⟨o,e,d⟩:=T.obj _ _ a2 b hb;exact(I'.pin (b,o) (zR _ (zR _ (aZ hb e)))).2.1
    cases ok with
    |false=>
     rw[if_neg zX]at q9;rw[if_neg zX];obtain⟨m',au,w'⟩:=q9;exact again I9 a1 au w'
    |true=>
     rw[if_pos rfl]at q9;rw[if_pos rfl];refine thn (hkx _ _ _ _ _ _ s9 σ8 H9 _ I9 q9) fun kv b6 ⟨y,b4,bI,bC,b,k,ek,qv⟩=>?_;subst ek;obtain rfl:kv=Value.ref b:=bC;refine thn (he _ _ _ _ _ _ b6 σ8 b4 _ bI qv) fun v dj ⟨z,dH,t,cd,a7,kb,hz,m',au,w'⟩=>?_;refine hZq fun q_ e_=>?_;obtain⟨z1,bR,c8,aT,db⟩:=ig t.hok t.kIn a7;subst e_;have b8:c8.length<=sizeLine:=by rw[<-Paired.length aT];exact z1
     have c4:(putJ acc k b z).length<=sizeLine:=by have:=fL acc k b z;omega
     refine wpAny_dictSet_heap (hsz:=b8) (by show X.A.units+20 < cLine;omega) (kb.is t.hok t.kIn) db fun h' c3 hs=>?_
     refine hZq fun q_ e_=>?_;obtain⟨q,es,ep,hq,h2,h3,h4,_,h5⟩:=c3;subst e_;exact again (ge t (by rw[a7.at_];exact True.intro) hs ⟨q,hq⟩ (mJ c4 bR (aT.put k cd) ⟨q,es,ep,hq,h2,h3,h4,h5⟩)) a1 au w'
 exact codeAny_compStart_dict loop (T.self _ 0 _ _ _ bw loop)
end
end Dj
namespace L2
open PySem PySem.Spec PyProof.Rows
theorem mN{K:PySem.W.Frag}{a:Addr}{mp:List (Option Nat)}{ta:TA}{g:TG}{tc:TT}{te:TE}{Q:VK}{σ:L2.St}{H1:Hp}{xs:List V}(ha:∀Q:List V->Hp->Prop,Q [.ref a] H1->ta σ H1 Q)(h1:SqL K H1 a xs)(h:∀D,H1 D=none->∃Pv:Nat->List V->Hp->Prop,Pv 0 [] (upd H1 D (.lst []))/\(∀i acc H,Pv i acc H->SqL K H a xs)/\
  (∀i T x acc H,i < xs.length->i < sizeLine->Pv i acc H->xs[i]?=some x->H T=none->g (.ref T) (subS mp σ) (upd H T (.tup [.int i,x])) fun σ4 H4=>Ext (subS mp σ) σ4/\tc σ4 H4 fun b H5=>if b=true then te σ4 H5 (CompN xs.length i D acc Pv)else CompS xs.length i acc Pv H5)/\∀acc H,Pv xs.length acc H->Q (.ref D) H):
 bQ mp (wg K ta) g tc te σ H1 Q:=by
 unfold bQ;refine ha _ ⟨a,xs,rfl,h1,fun D j=>?_⟩;refine hZq fun q_ e_=>?_;obtain⟨Pv,e,k,ps,l⟩:=h D j;subst e_;refine⟨fun i m acc H=>m=xs.length - i/\i<=xs.length/\Pv i acc H,⟨xs.length,by simp,zY _,e⟩,?_⟩
 rintro i m acc H ⟨rfl,hi,p⟩;have d:=k i acc H p;by_cases c:i < xs.length
 . refine .inr ⟨⟨xs,xs[i],d,by simp[c]⟩,?_⟩
   intro v H' z_;refine hZq fun q_ e_=>?_;obtain⟨T,x,rfl,f,rfl,y1,z⟩:=z_;subst e_;exact ps i T x acc H c z p (y1 xs d) f
 . have ei:i=xs.length:=by omega
   subst ei;exact .inl ⟨⟨xs,d,zu _⟩,l acc H p⟩
theorem j4{K:PySem.W.Frag}{a b:Addr}{mp:List (Option Nat)}{ta:TA}{g:TG}{tc:TT}{te:TE}{Q:VK}{σ:L2.St}{H1:Hp}{xs ys:List V}(hl:xs.length<=ys.length)(ha:∀Q:List V->Hp->Prop,Q [.ref a, .ref b] H1->ta σ H1 Q)(h1:SqL K H1 a xs)(h2:SqL K H1 b ys)(h:∀D,H1 D=none->∃Pv:Nat->List V->Hp->Prop,Pv 0 [] (upd H1 D (.lst []))/\(∀i acc H,Pv i acc H->SqL K H a xs/\SqL K H b ys)/\
  (∀i T x y acc H,i < xs.length->i < sizeLine->Pv i acc H->xs[i]?=some x->ys[i]?=some y->H T=none->g (.ref T) (subS mp σ) (upd H T (.tup [x,y])) fun σ4 H4=>Ext (subS mp σ) σ4/\tc σ4 H4 fun b H5=>if b=true then te σ4 H5 (CompN xs.length i D acc Pv)else CompS xs.length i acc Pv H5)/\∀acc H,Pv xs.length acc H->Q (.ref D) H):
 bQ mp (iZip .lst K ta) g tc te σ H1 Q:=by
 unfold bQ;refine ha _ ⟨a,b,xs,ys,rfl,h1,h2,fun D k=>?_⟩;refine hZq fun q_ e_=>?_;obtain⟨Pv,f,l,ps,n⟩:=h D k;subst e_;refine⟨fun i m acc H=>m=xs.length - i/\i<=xs.length/\Pv i acc H,⟨xs.length,by simp,zY _,f⟩,?_⟩
 intro i m acc H z_;refine hZq fun q_ e_=>?_;obtain⟨rfl,hi,p⟩:=z_;obtain⟨e,d⟩:=l i acc H p;subst e_;by_cases c:i < xs.length
 . refine .inr ⟨⟨xs,ys,xs[i],ys[i]'(by omega),e,d,by simp[c],zo _⟩,?_⟩
   intro v H' z_;refine hZq fun q_ e_=>?_;obtain⟨T,x,y,rfl,j,rfl,y1,o,z⟩:=z_;subst e_;exact ps i T x y acc H c z p (y1 xs e) (o ys d) j
 . have ei:i=xs.length:=by omega
   subst ei;exact .inl ⟨⟨xs,ys,e,d,zu _⟩,n acc H p⟩
theorem tR{K:PySem.W.Frag}{a b:Addr}{xs ys:List V}{g:TG}{tb:TS}{D:Ends}{σ:St}{H:Hp}(hl:xs.length<=ys.length)(Pv:Nat->St->Hp->Prop)(h0:Pv 0 σ H)(hq:∀i σ H,i<=xs.length->Pv i σ H->SqL K H a xs/\SqL K H b ys)(hs:∀i T x y σ H,xs[i]?=some x->ys[i]?=some y->i < sizeLine->Pv i σ H->H T=none->g (.ref T) σ (upd H T (.tup [x,y])) fun σ2 H2=>tb {D with nx:=Pv (i+1),ct:=Pv (i+1),bk:=D.nx} σ2 H2)(hd:∀σ H,Pv xs.length σ H->D.nx σ H):
 ∃W:Nat->Nat->St->Hp->Prop,(∃m,W 0 m σ H)/\∀i m σ H,W i m σ H->
  ((Itz .lst K a b).stop i H/\D.nx σ H)\/((Itz .lst K a b).go i H/\∃N:St->Hp->Prop,(∀σ' H',N σ' H'->∃m',m' < m/\W (i+1) m' σ' H')/\∀x H',(Itz .lst K a b).yld i H x H'->g x σ H' fun σ2 H2=>tb {D with nx:=N,ct:=N,bk:=D.nx} σ2 H2):=by
 refine⟨fun i m σ H=>m=xs.length - i/\i<=xs.length/\Pv i σ H,⟨xs.length,by simp,zY _,h0⟩,?_⟩
 rintro i m σ H ⟨rfl,hi,p⟩;obtain⟨e,d⟩:=hq i σ H hi p;by_cases c:i < xs.length
 . refine .inr ⟨⟨xs,ys,xs[i],ys[i]'(by omega),e,d,by simp[c],zo _⟩,Pv (i+1),fun σ' H' h=>⟨xs.length - (i+1),by omega,rfl,c,h⟩,?_⟩
   rintro v H' ⟨T,x,y,rfl,f,rfl,y1,j,z⟩;exact hs i T x y σ H (y1 xs e) (j ys d) z p f
 . have ei:i=xs.length:=by omega
   subst ei;exact .inl ⟨⟨xs,ys,e,d,zu _⟩,hd σ H p⟩
end L2
namespace Dj
open PySem PySem.Spec PyProof.Rows L2 Tre
noncomputable def CompJ(P:Program)(w:World)(K:PySem.W.Frag)(n i:Nat)(D:Addr)(acc:List Ent)(Pv:Nat->List Ent->Hp->Prop)(k:List Tk.KT)(b:Addr):VK:=fun v H7=>DJ P w K H7 D acc/\KeyAt K H7 k b/\acc.length < sizeLine/\∃m',m' < n - i/\(m'=n - (i+1)/\i+1<=n/\Pv (i+1) (putJ acc k b v) (upd H7 D (dJ P w D (putJ acc k b v))))
theorem CompJ.mk{P:Program}{w:World}{K:PySem.W.Frag}{n i:Nat}{D:Addr}{acc:List Ent}{Pv:Nat->List Ent->Hp->Prop}{k:List Tk.KT}{b:Addr}{v:V}{H7:Hp}(hi:i < n)(hl:acc.length < sizeLine)(h1:DJ P w K H7 D acc)(hk:KeyAt K H7 k b)(h2:Pv (i+1) (putJ acc k b v) (upd H7 D (dJ P w D (putJ acc k b v)))):CompJ P w K n i D acc Pv k b v H7:=
 ⟨h1,hk,hl,n - (i+1),by omega,rfl,hi,h2⟩
theorem comp_zipJ{P:Program}{w:World}{K K':PySem.W.Frag}{a b:Addr}{mp:List (Option Nat)}{ta:TA}{tk te:TE}{Q:VK}{σ rest:L2.St}{H1:Hp}{xs ys:List V}(e:subS mp σ=none::none::rest)(hl:xs.length<=ys.length)(ha:∀Q:List V->Hp->Prop,Q [.ref a, .ref b] H1->ta σ H1 Q)(h1:SqL K H1 a xs)(h2:SqL K H1 b ys)(h:∀D,H1 D=none->∃Pv:Nat->List Ent->Hp->Prop,Pv 0 [] (upd H1 D (dJ P w D []))/\(∀i acc H,Pv i acc H->SqL K H a xs/\SqL K H b ys)/\
  (∀i T x y acc H,i < xs.length->Pv i acc H->xs[i]?=some x->ys[i]?=some y->H T=none->tk (some x::some y::rest) (upd H T (.tup [x,y])) fun yk H6=>∃b' k,yk= .ref b'/\te (some x::some y::rest) H6 (CompJ P w K xs.length i D acc Pv k b'))/\∀acc H,Pv xs.length acc H->Q (.ref D) H):
 lS P w K mp (iZip .lst K ta) (gTup K' 2 (aV (aH 0) (aV (aH 1) gNil))) cH tk te σ H1 Q:=by
 unfold lS;rw[e];refine ha _ ⟨a,b,xs,ys,rfl,h1,h2,fun D l=>?_⟩;refine hZq fun q_ e_=>?_;obtain⟨Pv,g,n,ps,o⟩:=h D l;subst e_;refine⟨fun i m acc H=>m=xs.length - i/\i<=xs.length/\Pv i acc H,⟨xs.length,by simp,zY _,g⟩,?_⟩
 intro i m acc H z_;refine hZq fun q_ e_=>?_;obtain⟨rfl,hi,p⟩:=z_;obtain⟨f,d⟩:=n i acc H p;subst e_;by_cases c:i < xs.length
 . refine .inr ⟨⟨xs,ys,xs[i],ys[i]'(by omega),f,d,by simp[c],zo _⟩,?_⟩
   intro v H' z_;refine hZq fun q_ e_=>?_;obtain⟨T,x,y,rfl,j,rfl,y1,q,z⟩:=z_;subst e_;exact⟨T,[x,y],rfl,SqT.of a8,rfl,x,[y],rfl,y,[],rfl,rfl,ext2,ps i T x y acc H c p (y1 xs f) (q ys d) j⟩
 . have ei:i=xs.length:=by omega
   subst ei;exact .inl ⟨⟨xs,ys,f,d,zu _⟩,o acc H p⟩
end Dj
namespace L2
open PySem PySem.Spec PyProof.Rows
theorem pz{P:Program}{w:World}{K:PySem.W.Frag}{mg mb:Str->Option Value}{CX:CXT}{k:Nat}{fa a:Addr}{fd:FuncData}{x:Str}{sp:Sp}{s₁:Shared}{vs:List Value}{ns:List Int}(KX:K.In s₁.heap)(hns:s₁.heap.Ns mainGlobals mg)(hb:s₁.heap.Ns builtinsNs mb)(hbb:∀x:Str,x≠"__name__"->mb x=bootBuiltins x)(hlim:s₁.heap.NoLimit)(hg:s₁.gens= #[])(ha:s₁.heap.get? a=some {cls:= .type "list",data:= .seq vs.toArray})(hi:IntsAre vs ns)(hl:ns.length<=sizeLine)(hr:Room k callerA){T0 c0:Addr}(hT0:s₁.heap.get? T0=some (PySem.W.tabObj #[]))(kT0:K.lookup T0=none)(cT0:PySem.W.codeHdIn K c0 T0=true)(hbm:s₁.heap.BuiltinsAt mg T0)(F:∀base:Heap,K.In base->base.Ns mainGlobals mg->base.BuiltinsAt mg T0->FnOk P w K mg base CX k fa fd [x] sp)(hbind:∀(s:Shared) (u:Value),BindsTo s fd ⟨[u],[]⟩ [(x,u)])(hsp:∀H:Hp,H T0=some (.tbl #[])->SqL K H a (ns.map V.int)->sp [.ref a] H (fun v _=>v= .bl true) fun _ _ _=>False)(hCX:∀H e s',CX [] H s₁ (fun _ _ _=>False) e s'->False):
 codeAny (model P w) callerA (.call (.ref fa) ⟨[.ref a],[]⟩) (fun r s'=>r= .ok (.ret (.bool true))/\OldK s₁.heap s'.heap/\s'.os=s₁.os/\AllBare s'.gens) s₁:=by
 have rv:=iE hi;have aC:=hi.length
 have j:∀H:Hp,Only H->SqL K H a (ns.map V.int)->HOk P w H s₁.heap->(∀b,H b≠none->b=a)->(H a≠none->K.lookup a=none)->
  codeAny (model P w) callerA (.call (.ref fa) ⟨[.ref a],[]⟩) (fun r s'=>r= .ok (.ret (.bool true))/\OldK s₁.heap s'.heap/\s'.os=s₁.os/\AllBare s'.gens) s₁:=by
  intro H₁ hO a6 l a1 hK
  have aT:a≠T0:=fun z=>by
   rw[<-z,ha]at hT0;cases hT0
  have a3:H₁ T0=none:=by
   cases q:H₁ T0 with
   |none=>rfl
   |some u=>exact absurd (a1 T0 (by rw[q];simp)).symm aT
  obtain⟨H,eH⟩:∃H,H=upd H₁ T0 (.tbl #[]):=⟨_,rfl⟩;have t:H T0=some (.tbl #[]):=by rw[eH];exact a8
  have g:∀b,b≠T0->H b=H₁ b:=fun b n=>by rw[eH];exact ae n
  have hA:∀b,H b≠none->b=a\/b=T0:=fun b n=>by
   by_cases z:b=T0
   . exact .inr z
   . exact .inl (a1 b (by rw[<-g b z];exact n))
  have hS:SqL K H a (ns.map V.int):=by
   rcases a6 with(h|⟨o,h⟩)|h
   . exact .inl (.inl ((g a aT).trans h))
   . exact .inl (.inr ⟨o,(g a aT).trans h⟩)
   . exact .inr h
  have hok:HOk P w H s₁.heap:=fun b u e=>by
   by_cases hb:b=T0
   . subst hb;rw[t]at e;cases e;exact hT0
   . rw[g b hb]at e;exact(l b u e).stay (fun c v _ q=>q) (fun c q=>by rw[g c (fun z=>by rw[z,a3]at q;cases q)];exact q) fun c xs q=>by rw[g c (fun z=>by rw[z,a3]at q;cases q)];exact q
  have f:∀ {b:Addr} {o:Obj},s₁.heap.get? b=some o->H b=none->(hidT s₁.heap H).get? b=some o:=fun e n=>tM e n
  have a5:∀ {b:Addr} {o:Obj} {es:Array DictEntry} {ep:Nat},s₁.heap.get? b=some o->o.data= .dict es ep->H b=none:=fun{b o es ep} e d=>by
   cases q:H b with
   |none=>rfl
   |some u=>
    rcases hA b (by rw[q];simp)with e'|e'
    . subst e';rw[ha]at e;cases e;have d':Data.seq vs.toArray _=Data.dict es ep:=d;cases d'
    . subst e';rw[hT0]at e;cases e;cases d
  have i:∀ {b:Addr} {m:Str->Option Value},s₁.heap.Ns b m->(hidT s₁.heap H).Ns b m:=fun{b m} ⟨o,es,ep,e,d,r⟩=>⟨o,es,ep,f e (a5 e d),d,r⟩
  have au:K.In (hidT s₁.heap H):=fun b o e=>f (KX b o e) (by
   cases q:H b with
   |none=>rfl
   |some u=>
    rcases hA b (by rw[q];simp)with e'|e'
    . subst e';rw[hK (by rw[<-g b aT,q];simp)]at e;cases e
    . subst e'
      rw[kT0]at e;cases e)
  have hM:Mod K mg (hidT s₁.heap H):=⟨au,i hns,⟨mb,i hb,hbb⟩,let ⟨mc,h1,h2⟩:=hlim;⟨mc,i h1,h2⟩⟩
  have a2:(hidT s₁.heap H).BuiltinsAt mg T0:=by
   refine hZq fun q_ e_=>?_;obtain⟨bm,ob,b1,b2,b3,b4,b5,b6,b7,b8⟩:=hbm;subst e_;refine⟨bm,ob,b1,b2,b3,b4,f b5 ?_,b6,b7,b8⟩
   cases q:H bm with
   |none=>rfl
   |some u=>
    rcases hA bm (by rw[q];simp)with e'|e'
    . subst e';rw[ha]at b5;cases b5;cases b8
    . exact absurd e' b4
  have e0:Env0 P w K mg (hidT s₁.heap H) callerA [] s₁ H:=⟨rfl,hM,fun b o e=>⟨(nU e).1, .inl (nU e).2⟩,Nat.le_of_eq (pC _ _),trivial,fun b hb=>absurd (show b∈([]:List Addr)from hb) (by simp),hok, .of_eq hg⟩
  refine codeAny_mono ((F _ au (i hns) a2).run callerA [] s₁ H ⟨[.ref a],[]⟩ [.ref a] [.ref a] _ _ hr e0 (hbind s₁ (.ref a)) (.cons rfl .nil) (hsp H t hS)) fun r s' h=>?_
  cases r with
  |error e=>exact(hCX H e s' h).elim
  |ok fl=>
   cases fl with
   |next=>exact False.elim h
   |brk=>exact False.elim h
   |cont=>exact False.elim h
   |ret u=>
    refine hZq fun q_ e_=>?_;obtain⟨v,H',os,bare,un,p,r',q⟩:=h;subst e_;have q':v= .bl true:=q;subst q';obtain rfl:u=Value.bool true:=r';have y:=((PySem.W.codeHd_of_K KX cT0).tab hT0).isCodeTable;obtain⟨more,hm⟩:=un.tbls T0 _ t;have a4:=p T0 _ hm
    suffices old:∀b o,b≠T0->s₁.heap.get? b=some o->s'.heap.get? b=some o by
     refine⟨rfl,⟨fun b o e=>?_,fun b o e=>?_⟩,os,bare⟩
     . by_cases hb:b=T0
       . subst hb;rw[hT0]at e;cases e;exact .inr (.inl ⟨y,rfl, #[],more,rfl,a4⟩)
       . exact .inl (old b o hb e)
     . by_cases hb:b=T0
       . subst hb;exact⟨_,a4⟩
       . exact⟨o,old b o hb e⟩
    intro b o hb e
    cases q:H b with
    |none=>exact un.keep b o e (.inl q) (by intro z;exact absurd (show b∈([]:List Addr)from z) (by simp)) (by simp)
    |some u=>
     rw[g b hb]at q;rcases hO b with z|⟨ob,xs,z⟩
     . rw[q]at z;cases z
     . have z2:=un.frzs b ob _ ((g b hb).trans z);obtain⟨e1,_⟩:=l b _ z;obtain⟨e2,_⟩:=p b _ z2;rw[e]at e1;cases e1;exact e2
 cases hk:K.lookup a with
 |some o=>
  have e:=KX a o hk;rw[ha]at e;cases e;refine j (fun _=>none) (fun _=> .inl rfl) (.inr ⟨_,vs.toArray,_,hk,rfl,rfl,rfl,by rw[zx,aC];exact hl,by simpa using rv⟩) (fun b u z=>by have z':(none:Option HO)=some u:=z;cases z') (fun b z=>absurd rfl z) fun z=>absurd rfl z
 |none=>
  refine j (fun b=>if b=a then some (.frz {cls:= .type "list",data:= .seq vs.toArray} (.lst (ns.map V.int)))else none) (fun b=>?_) (.inl (.inr ⟨{cls:= .type "list",data:= .seq vs.toArray},if_pos rfl⟩)) (fun b u z=>?_) (fun b z=>?_) fun _=>hk
  . by_cases hb:b=a
    . exact .inr ⟨_,_,if_pos hb⟩
    . exact .inl (if_neg hb)
  . by_cases hb:b=a
    . have z':=(if_pos hb).symm.trans z;cases z';subst hb;exact⟨ha,by rw[zm];exact hl,vs,_,rv,ha⟩
    . have z':=(if_neg hb).symm.trans z;cases z'
  . by_cases hb:b=a
    . exact hb
    . exact absurd (if_neg hb) z
theorem walk_ofT{l:PySem.W.OpenLaw}{n k:Nat}{q:Program}{loose:List Str}{XP:(Str->Option Value)->Heap->Prop}{YP:World->Heap->Prop}{d:DefRec}{K:Params->PySem.W.Frag}{CX:World->CXT}{sp:World->Addr->Sp}{T0:Addr}{x:Str}(hn:l.most=some n)(hn2:n<=sizeLine)(hdf:d.params.defaults= [])(hr:Room k callerA)(hY:∀(w:World) (h:Heap),YP w h->(K w.params).In h)(hYT:∀(w:World) (h:Heap),YP w h->h.get? T0=some (PySem.W.tabObj #[]))(F:∀(w:World) (mg:Str->Option Value) (fa:Addr) (h:Heap),(K w.params).In h->h.Ns mainGlobals mg->mg d.name=some (.ref fa)->
  ∃(c0:Addr),(K w.params).lookup T0=none/\PySem.W.codeHdIn (K w.params) c0 T0=true/\∃fd:FuncData,(∀(s:Shared) (u:Value),BindsTo s fd ⟨[u],[]⟩ [(x,u)])/\
   ∀base:Heap,(K w.params).In base->base.Ns mainGlobals mg->base.BuiltinsAt mg T0->FnOk l.prog w (K w.params) mg base (CX w) k fa fd [x] (sp w T0))(hsp:∀(w:World) (H:Hp) (a:Addr) (ns:List Int),ns.length<=n->H T0=some (.tbl #[])->SqL (K w.params) H a (ns.map V.int)->sp w T0 [.ref a] H (fun v _=>v= .bl true) fun _ _ _=>False)(hCX:∀(w:World) (H:Hp) (s:Shared) (e:Value) (s':Shared),CX w [] H s (fun _ _ _=>False) e s'->False):
 PySem.W.WalkO q loose XP YP l.row.toRowW d [] (fun f vs=>PySem.call f vs):=by
 refine Att.attach_call hn hdf fun w s₀ s₁ mg mb fa o pm cd aC a vs ns G Y ho hd aT y j i c hg=>?_;have KX:=hY w _ Y;refine hZq fun q_ e_=>?_;obtain⟨c0,au,z,fd,hb,hF⟩:=F w mg fa _ KX G.T.g y;have m:=hYT w _ Y;obtain⟨bm,ob,b1,b2,b3,b4,b5,t⟩:=G.T.bmain;subst e_
 have p:bm≠T0:=fun q=>by
  rw[q,m]at b3;cases b3;cases b4
 have r:bm≠mainGlobals:=fun q=>by
  refine hZq fun q_ e_=>?_;obtain⟨o,es,ep,e,hd,_⟩:=G.T.g;subst e_;rw[q,e]at b3;cases b3;rw[hd]at t;cases t
 exact pz KX G.T.g G.T.b G.T.builtins G.T.nolimit hg j i (zK c hn2) hr m au z ⟨bm,ob,b1,b2,r,p,b3,b4,b5,t⟩ hF hb (fun H hO hS=>hsp w H a ns c hO hS) fun H e s'=>hCX w H s₁ e s'
open PySem PySem.Spec PyProof.Rows
theorem pK(a u v:Value):argsOk "min" ⟨[a],[(Str.ofString "key",u),(Str.ofString "default",v)]⟩:=by unfold argsOk;kernel_rfl
theorem dk:(toString "min"++toString ".loop":String)= "min.loop":=by decide
section
variable{prog:Program}{w:World}{A:Around}{R:Result->Shared->Prop}{it S q:Addr}{fp wr:List Addr}{n:Nat}{P:Nat->Value->Prop}{St:Nat->Heap->Prop}{kw:List (Str×Value)}{s₀:Shared}{G:Heap->Prop}{kf:Nat->Int}
def Kp(wr:List Addr)(S:Addr)(h h':Heap):Prop:=∀b o,b∉wr->b≠S->h.get? b=some o->h'.get? b=some o
theorem Kp.trans{wr:List Addr}{S:Addr}{a b c:Heap}(x:Kp wr S a b)(y:Kp wr S b c):Kp wr S a c:=fun d o h1 h2 e=>y d o h1 h2 (x d o h1 h2 e)
theorem p5(W:Walks prog w A.in1 it fp wr n P St)(nS:S∉fp)(hG:∀h h',G h->Kp wr S h h'->G h')(turn:∀i v h tk,i < n->P i v->G h->wpAny (model prog w) A.in1 (call (.ref q) [v]) (fun x s''=>∃t h' tk',x=Value.int (kf i) t/\s''= {s₀ with heap:=h',toks:=tk'}/\∀b o,h.get? b=some o->h'.get? b=some o) (fun _ _=>False) {s₀ with heap:=h,toks:=tk}):
 ∀(k j i:Nat) (h:Heap) (tk:Nat) (vb:Value) (tb:Tok) (c:Nat),j+k=n->St j h->G h->
 h.get? S=some ({cls:= .type "list",data:= .seq #[vb,Value.int (kf i) tb] c}:Obj)->P i vb->i < n->(∀j',j' < j->kf i<=kf j')->
 (∀(i:Nat) (v:Value) (h':Heap) (tk:Nat),i < n->P i v->(∀j,j < n->kf i<=kf j)->Kp wr S h h'->R (.ok (.ret v)) {s₀ with heap:=h',toks:=tk})->
 codeAny (model prog w) A (.builtin "min.loop" ⟨[.ref it, .ref q, .ref S],kw⟩) R {s₀ with heap:=h,toks:=tk}:=by
 have nw:S∉wr:=fun z=>nS (W.sub _ z);intro k
 induction k with
 |zero=>
  intro j i h tk vb tb c e st hg u pb hi hb hR;have e':j=n:=by omega
  subst e';refine codeAny_builtin PySem.F.entry_min_loop ?_;rw[Around.under_plainId PySem.F.plain_min_loop _];show wpAny _ A.in1 (seqItems? (.ref S) >>=fun _=>_) _ _ _;refine wpAny_bind (wpAny_seqItems u rfl ?_);show wpAny _ A.in1 (tryCatch (pyNext (.ref it)) _ >>=fun _=>_) _ _ _;refine wpAny_bind (wpAny_tryCatch (W.done _ _ _ st fun h1 g k1=>?_));have d:=k1 S _ nw u;show wpAny _ A.in1 (updateSeq S (fun _=> #[]) >>=fun _=>_) _ _ _;refine wpAny_bind (wpAny_updateSeq d rfl (wpAny_bind (wpAny_letGo (wpAny_pure ?_))));exact hR i vb _ g hi pb hb fun b o nb a m=>(Heap.get?_update_other _ _ (Ne.symm a)).trans (k1 b o nb m)
 |succ k ih=>
  intro j i h tk vb tb c e st hg u pb hi hb hR;refine codeAny_builtin PySem.F.entry_min_loop ?_;rw[Around.under_plainId PySem.F.plain_min_loop _];show wpAny _ A.in1 (seqItems? (.ref S) >>=fun _=>_) _ _ _;refine wpAny_bind (wpAny_seqItems u rfl ?_);show wpAny _ A.in1 (tryCatch (pyNext (.ref it)) _ >>=fun _=>_) _ _ _;refine wpAny_bind (wpAny_tryCatch (W.item j _ _ _ (by omega) st fun v h1 g pv aC k1=>?_))
  have d:=k1 S _ nw u;have s:Kp wr S h h1:=fun b o nb _ m=>k1 b o nb m;show wpAny _ A.in1 (tryCatch (holding [v] (call (.ref q) [v])) _ >>=_) _ _ _;refine wpAny_bind (wpAny_tryCatch (wpAny_holding (wpAny_mono (turn j v h1 g (by omega) pv (hG _ _ hg s)) (fun x s'' he=>?_) fun _ _ hF=>hF.elim)))
  refine hZq fun q_ e_=>?_;obtain⟨t2,h2,aT,rfl,rfl,k2⟩:=he;subst e_;have f:Kp wr S h h2:=fun b o nb nS m=>k2 b o (s b o nb nS m);have au:St (j+1) h2:=W.frame _ _ _ aC fun b hb o eo=>k2 b o eo;have p:=k2 _ _ d;show wpAny _ A.in1 (tryCatch (holding [v, .int (kf j) t2] (richCompare .Lt (.int (kf j) t2) (.int (kf i) tb) >>=_)) _ >>=_) _ _ _;refine wpAny_bind (wpAny_tryCatch (wpAny_holding (wpAny_bind (CmpOf.ints_lt (prog:=prog) (w:=w) (A:=A.in1) (P:=fun i v=>∃t,v= .int (kf i) t) kf (fun i v h=>h) j i _ _ _ _ _ ⟨t2,rfl⟩ ⟨tb,rfl⟩ ?_))));refine wpAny_bind (wpAny_holding (wpAny_truthy_bool ?_));refine wpAny_bind (wpAny_letGo (wpAny_pure ?_));by_cases r:kf j < kf i
  . simp only[r,decide_true,if_true];refine wpAny_bind (wpAny_updateSeq p rfl (wpAny_bind (wpAny_letGo ?_)));rw[dk];have y:Kp wr S h (h2.update S (Obj.mapSeq fun _=> #[v, .int (kf j) t2])):=fun b o nb a m=>(Heap.get?_update_other _ _ (Ne.symm a)).trans (f b o nb a m);refine wpAny_pure ⟨plainId_quiet PySem.F.plain_min_loop _,ih (j+1) j _ _ v t2 _ (by omega) (W.frame _ _ _ au fun b hb o eo=>(Heap.get?_update_other _ _ (fun z:S=b=>nS (by rw[z];exact hb))).trans eo) (hG _ _ hg y) (Heap.get?_update_self _ p rfl) pv (by omega) (fun j' hj=>?_) fun i' v' h3 l a1 a2 a3 a4=>hR i' v' h3 l a1 a2 a3 (y.trans a4)⟩
    by_cases z:j'=j
    . rw[z];exact Int.le_refl _
    . have:=hb j' (by omega);omega
  . simp only[r,decide_false,AE,if_false];refine wpAny_bind (wpAny_letGo ?_);rw[dk];refine wpAny_pure ⟨plainId_quiet PySem.F.plain_min_loop _,ih (j+1) i _ _ vb tb c (by omega) au (hG _ _ hg f) p pb hi (fun j' hj=>?_) fun i' v' h3 l a1 a2 a3 a4=>hR i' v' h3 l a1 a2 a3 (f.trans a4)⟩
    by_cases z:j'=j
    . rw[z];omega
    . exact hb j' (by omega)
theorem m8(W:Walks prog w A.in1 it fp wr n P St)(nS:S∉fp)(hG:∀h h',G h->Kp wr S h h'->G h')(turn:∀i v h tk,i < n->P i v->G h->wpAny (model prog w) A.in1 (call (.ref q) [v]) (fun x s''=>∃t h' tk',x=Value.int (kf i) t/\s''= {s₀ with heap:=h',toks:=tk'}/\∀b o,h.get? b=some o->h'.get? b=some o) (fun _ _=>False) {s₀ with heap:=h,toks:=tk})(d:Value){h:Heap}{tk:Nat}{c:Nat}(st:St 0 h)(hg:G h)(gS:h.get? S=some ({cls:= .type "list",data:= .seq #[] c}:Obj))(h0:n=0->∀(h':Heap) (tk:Nat),Kp wr S h h'->R (.ok (.ret d)) {s₀ with heap:=h',toks:=tk})(hR:∀(i:Nat) (v:Value) (h':Heap) (tk:Nat),i < n->P i v->(∀j,j < n->kf i<=kf j)->Kp wr S h h'->R (.ok (.ret v)) {s₀ with heap:=h',toks:=tk}):
 codeAny (model prog w) A (.builtin "min.loop" ⟨[.ref it, .ref q, .ref S],[(Str.ofString "default",d)]⟩) R {s₀ with heap:=h,toks:=tk}:=by
 have nw:S∉wr:=fun z=>nS (W.sub _ z);refine codeAny_builtin PySem.F.entry_min_loop ?_;rw[Around.under_plainId PySem.F.plain_min_loop _];show wpAny _ A.in1 (seqItems? (.ref S) >>=fun _=>_) _ _ _;refine wpAny_bind (wpAny_seqItems gS rfl ?_);show wpAny _ A.in1 (tryCatch (pyNext (.ref it)) _ >>=fun _=>_) _ _ _;by_cases z:n=0
 . refine wpAny_bind (wpAny_tryCatch (W.done _ _ _ (by rw[z];exact st) fun h1 a k1=>?_))
   refine wpAny_bind (wpAny_rule (wpAny_pure ?_));exact h0 z _ a fun b o nb _ e=>k1 b o nb e
 . refine wpAny_bind (wpAny_tryCatch (W.item 0 _ _ _ (by omega) st fun v h1 a pv r k1=>?_))
   have m:=k1 S _ nw gS;have g:Kp wr S h h1:=fun b o nb _ e=>k1 b o nb e;show wpAny _ A.in1 (tryCatch (holding [v] (call (.ref q) [v])) _ >>=_) _ _ _;refine wpAny_bind (wpAny_tryCatch (wpAny_holding (wpAny_mono (turn 0 v h1 a (by omega) pv (hG _ _ hg g)) (fun x s'' he=>?_) fun _ _ hF=>hF.elim)))
   refine hZq fun q_ e_=>?_;obtain⟨t2,h2,au,rfl,rfl,k2⟩:=he;subst e_;have p:Kp wr S h h2:=fun b o nb nS e=>k2 b o (g b o nb nS e);have y:St 1 h2:=W.frame _ _ _ r fun b hb o u=>k2 b o u;have l:=k2 _ _ m;show wpAny _ A.in1 (updateSeq S (fun _=> #[v, .int (kf 0) t2]) >>=_) _ _ _;refine wpAny_bind (wpAny_updateSeq l rfl ?_);rw[dk];have k:Kp wr S h (h2.update S (Obj.mapSeq fun _=> #[v, .int (kf 0) t2])):=fun b o nb f e=>(Heap.get?_update_other _ _ (Ne.symm f)).trans (p b o nb f e);refine wpAny_pure ⟨plainId_quiet PySem.F.plain_min_loop _,p5 W nS hG turn (n - 1) 1 0 _ _ v t2 _ (by omega) (W.frame _ _ _ y fun b hb o u=>(Heap.get?_update_other _ _ (fun z:S=b=>nS (by rw[z];exact hb))).trans u) (hG _ _ hg k) (Heap.get?_update_self _ l rfl) pv (by omega) (fun j' hj=>?_) fun i' v' h3 s a1 a2 a3 a4=>hR i' v' h3 s a1 a2 a3 (k.trans a4)⟩
   rw[show j'=0 by omega]
   exact Int.le_refl _
end
open PySem PySem.Spec PyProof.Rows
def CdX(c:Addr)(q:Str):HO:= .ext fun h=>h.CodeRec (.ref c) q
theorem ym{P:Program}{w:World}{H:Hp}{h:Heap}{c:Addr}{q:Str}(x:h.CodeRec (.ref c) q):ObjOk P w H h c (CdX c q):=by
 refine⟨x,?_,fun h1 h2 y k=>?_⟩
 . obtain⟨a,o,vs,t,e,ho,_⟩:=x;cases e;exact⟨o,ho⟩
 . obtain⟨a,o,vs,t,e,ho,z⟩:=y;cases e;exact⟨c,o,vs,t,rfl,k o ho,z⟩
def Lam(T0:Addr)(pos:Pos)(q:Str)(H:Hp):Prop:=H T0=some (.tbl #[])\/∃c,H T0=some (.tbl #[rawInt pos.line,rawInt pos.col, .ref c])/\H c=some (CdX c q)
theorem Lam.tb{T0:Addr}{pos:Pos}{q:Str}{H:Hp}(h:Lam T0 pos q H):∃ps,H T0=some (.tbl ps):=by
 rcases h with h|⟨c,h,_⟩
 . exact⟨_,h⟩
 . exact⟨_,h⟩
def ButT(T0:Addr)(H H':Hp):Prop:=∀b o,b≠T0->H b=some o->H' b=some o
section
variable{X:Cx}{pins:List (Addr×Obj)}{σ:St}{H:Hp}{s:Shared}{T0 c0:Addr}{params:Arguments}{body:Expr}{scope:Scope}{pos:Pos}{clos:List (Str×Addr)}{Q:Value->Shared->Prop}{E:Value->Shared->Prop}{q:Str}
theorem Inv.pinF{f:Addr}{o:Obj}(I:Inv X pins σ H s)(hf:s.heap.get? f=some o)(hn:H f=none)(hL:f≠X.env.locals)(hs:f∉X.fs)(hd:∀v,o.data≠ .cell v):Inv X ((f,o)::pins) σ H s:=by
 refine{I with pin:=fun p hp=>?_};rcases A9.mp hp with hp|hp
 . exact I.pin p (AO _ hp)
 . rcases zJ.mp hp with rfl|hp
   . exact⟨hf,hn,hL,hs,hd⟩
   . exact I.pin p (zR _ hp)
theorem Inv.unpin{p:Addr×Obj}(I:Inv X (p::pins) σ H s):Inv X pins σ H s:=by
 refine{I with pin:=fun p hp=>?_};rcases A9.mp hp with hp|hp
 . exact I.pin p (AO _ hp)
 . exact I.pin p (zR _ (zp _ hp))
theorem tE(I:Inv X pins σ H s)(hcode:X.env.code= .ref c0)(C:PySem.W.codeHdIn X.K c0 T0=true)(hB:X.base.BuiltinsAt X.mg T0)(hdef:defaultsOf params X.env=([],[]))(hcl:closureFor scope X.env=pure clos)(hL:Lam T0 pos (X.env.qual++"<lambda>") H)(h:∀f c' ctv H' s',Inv X ((f,PySem.W.kla_obj "<lambda>" (X.env.qual++"<lambda>") params body scope clos ((X.mg "__name__").getD .none) c' ctv)::pins) σ H' s'->ButT T0 H H'->Lam T0 pos (X.env.qual++"<lambda>") H'->s'.heap.CodeRec (.ref c') (X.env.qual++"<lambda>")->Q (.ref f) s'):
 wpAny (model X.prog X.w) X.A (eval (.Lambda params body scope pos) X.env) Q E s:=by
 refine PySem.W.kla_eval hdef ?_;have hg:s.heap.Ns mainGlobals X.mg:=I.mod.glob.keeps I.bk;have Ch:PySem.W.CodeHd s.heap c0 T0:=PySem.W.codeHd_of_K I.kIn C
 have hb:s.heap.BuiltinsAt X.mg T0:=by
  refine hZq fun q_ e_=>?_;obtain⟨bm,ob,b1,b2,b3,b4,b5,b6⟩:=hB;subst e_;exact⟨bm,ob,b1,b2,b3,b4,I.bk _ _ b5,b6⟩
 refine hZq fun q_ e_=>?_;obtain⟨m,⟨oL,_,_,a5,_⟩,_⟩:=id I.loc;subst e_;have lL:=Heap.lt_size a5
 have a1:∀b∈X.fs,b < s.heap.objs.size:=fun b aT=>by
  refine hZq fun q_ e_=>?_;obtain⟨o,ho,_⟩:=(I.ok.funs.mem aT).2;obtain⟨o',bb⟩:=I.base.there b o ho (fun z=>I.ok.exfs b z aT);subst e_;exact Heap.lt_size bb
 rcases hL with hL|⟨c,hL,hc⟩
 . have hP:s.heap.get? T0=some (PySem.W.tabObj #[]):=I.hok T0 _ hL
   have a6:mainGlobals≠T0:=fun e=>by
    refine hZq fun q_ e_=>?_;obtain⟨o,es,ep,e1,hd,_⟩:=hg;subst e_;rw[e,hP]at e1;cases e1;cases hd
   refine PySem.W.kla_makeFunction (mg:=X.mg) hcl I.ok.glob hg hcode Ch hP trivial rfl a6 hb fun c' ctv h' tk hx a2 a4 g a7=>?_;have aC:H c'=none:=I.hok.fresh a2;have cT:c'≠T0:=fun e=>by rw[e,hL]at aC;cases aC
   have l:∀b o,b≠T0->s.heap.get? b=some o->(h'.push (PySem.W.kla_obj "<lambda>" (X.env.qual++"<lambda>") params body scope clos ((X.mg "__name__").getD .none) c' ctv)).get? b=some o:=fun b o n e=>Heap.get?_push_of_some _ (hx b o n e);have p:=Heap.get?_push_of_some (PySem.W.kla_obj "<lambda>" (X.env.qual++"<lambda>") params body scope clos ((X.mg "__name__").getD .none) c' ctv) a7
   have d:(h'.push (PySem.W.kla_obj "<lambda>" (X.env.qual++"<lambda>") params body scope clos ((X.mg "__name__").getD .none) c' ctv)).CodeRec (.ref c') (X.env.qual++"<lambda>"):=by
    refine hZq fun q_ e_=>?_;obtain⟨c2,o,vs,t,e,ho,z⟩:=g;subst e_;exact⟨c2,o,vs,t,e,Heap.get?_push_of_some _ ho,z⟩
   have hf:=Heap.get?_push_size h' (o:=PySem.W.kla_obj "<lambda>" (X.env.qual++"<lambda>") params body scope clos ((X.mg "__name__").getD .none) c' ctv) rfl;generalize bg:h'.push (PySem.W.kla_obj "<lambda>" (X.env.qual++"<lambda>") params body scope clos ((X.mg "__name__").getD .none) c' ctv)=h2 at*
   have tb:∀b o,H b=some o->(∀ps,o≠ .tbl ps)->b≠T0:=fun b o e n z=>by
    rw[z,hL]at e;exact n _ (zN e).symm
   have j:∀b,b≠T0->b≠c'->(upd (upd H T0 (.tbl #[rawInt pos.line,rawInt pos.col, .ref c'])) c' (CdX c' (X.env.qual++"<lambda>"))) b=H b:=fun b n1 n2=>by rw[ae n2,ae n1]
   have nc:∀b o,s.heap.get? b=some o->b≠c':=fun b o e z=>by
    have:=Heap.lt_size e;rw[z]at this;exact absurd this (Nat.not_lt.mpr a2)
   have a:∀b o,H b=some o->b≠c':=fun b o e z=>by rw[z,aC]at e;cases e
   have x:(upd (upd H T0 (.tbl #[rawInt pos.line,rawInt pos.col, .ref c'])) c' (CdX c' (X.env.qual++"<lambda>"))) T0=some (.tbl #[rawInt pos.line,rawInt pos.col, .ref c']):=by rw[ae (Ne.symm cT),a8]
   have a3:HOk X.prog X.w (upd (upd H T0 (.tbl #[rawInt pos.line,rawInt pos.col, .ref c'])) c' (CdX c' (X.env.qual++"<lambda>"))) h2:=fun b u e=>by
    by_cases b1:b=c'
    . subst b1;rw[a8]at e;cases e;exact ym d
    . by_cases b2:b=T0
      . subst b2;rw[x]at e;cases e;show h2.get? _=some _;rw[p];rfl
      . rw[j b b2 b1]at e;refine(I.hok b u e).stay (fun c v z q=>l c v ?_ q) (fun c q=>?_) fun c xs q=>?_
        . rcases z with rfl|z
          . exact b2
          . exact tb _ _ z (by intro ps y;cases y)
        . rw[j c (tb _ _ q (by intro ps y;cases y)) (a _ _ q)]
          exact q
        . rw[j c (tb _ _ q (by intro ps y;cases y)) (a _ _ q)]
          exact q
   have au:∀b,Idl (H b)->b≠T0:=fun b i z=>by
    rw[z,hL]at i;rcases i with i|⟨xs,i⟩<;>cases i
   have I2:=I.step (h':=h2) (H':=upd (upd H T0 (.tbl #[rawInt pos.line,rawInt pos.col, .ref c'])) c' (CdX c' (X.env.qual++"<lambda>"))) (g':=s.gens) (d':=s.drawn) (t':=tk) (ch:= []) (fun _ z=>nomatch z) (fun b o _ _ _ e n=>l b o (au b n) e)
    (fun b o _ _ _ e n=>⟨o.slots,l b o (au b (.inl n)) e⟩) (fun b o _ e n=>by rw[j b (au b (.inl n)) (nc b o e)];exact n)
    (fun b o _ e=>by
     by_cases z:b=T0
     . exact⟨_,z▸p⟩
     . exact⟨o,l b o z e⟩)
    (fun b xs e=>by rw[j b (tb _ _ e (by intro ps y;cases y)) (a _ _ e)];exact e) (fun b o u e=>by rw[j b (tb _ _ e (by intro ps y;cases y)) (a _ _ e)];exact e)
    (fun b ps e=>by
     by_cases z:b=T0
     . subst z;rw[hL]at e;cases e;exact⟨#[rawInt pos.line,rawInt pos.col, .ref c'],by rw[x];rfl⟩
     . exact⟨#[],by rw[j b z (a _ _ e),e];simp⟩)
    (fun m' ⟨o,es,ep,e,r⟩=>⟨o,es,ep,l _ o (fun z=>by have:=I.free;rw[z,hL]at this;cases this) e,r⟩) a3 I.bare
   have k:s.heap.objs.size<=h'.objs.size:=by omega
   refine h h'.objs.size c' ctv _ _ (I2.pinF hf ?_ ?_ ?_ (by intro v z;cases z)) (fun b o n e=>by rw[j b n (a _ _ e)];exact e) (.inr ⟨c',x,a8⟩) d
   . rw[j _ (fun z=>by have:=Heap.lt_size hP;rw[<-z]at this;exact absurd this (Nat.not_lt.mpr k)) (fun z=>by rw[<-z]at a4;exact absurd a4 (AS _))]
     exact I.hok.fresh k
   . exact fun z=>by rw[<-z]at lL;exact absurd lL (Nat.not_lt.mpr k)
   . exact fun z=>absurd (a1 _ z) (Nat.not_lt.mpr k)
 . have hP:s.heap.get? T0=some (PySem.W.tabObj #[rawInt pos.line,rawInt pos.col, .ref c]):=I.hok T0 _ hL;have g:s.heap.CodeRec (.ref c) (X.env.qual++"<lambda>"):=(I.hok c _ hc).1;refine PySem.W.kla_makeFunctionHit (mg:=X.mg) (cv:= .ref c) hcl I.ok.glob hg hcode Ch hP trivial (by simp[codeAmong,rawInt]) hb fun ctv h' tk hk hsz=>?_
   have l:∀b o,s.heap.get? b=some o->(h'.push (PySem.W.kla_obj "<lambda>" (X.env.qual++"<lambda>") params body scope clos ((X.mg "__name__").getD .none) c ctv)).get? b=some o:=fun b o e=>Heap.get?_push_of_some _ (hk b o e);have hf:=Heap.get?_push_size h' (o:=PySem.W.kla_obj "<lambda>" (X.env.qual++"<lambda>") params body scope clos ((X.mg "__name__").getD .none) c ctv) rfl;refine h h'.objs.size c ctv H _ ((I.kept (t':=tk) l).pinF hf (I.hok.fresh hsz) ?_ ?_ (by intro v z;cases z)) (fun b o _ e=>e) (.inr ⟨c,hL,hc⟩) ?_
   . exact fun z=>by rw[<-z]at lL;exact absurd lL (Nat.not_lt.mpr hsz)
   . exact fun z=>absurd (a1 _ z) (Nat.not_lt.mpr hsz)
   . refine hZq fun q_ e_=>?_;obtain⟨c2,o,vs,t,e,ho,z⟩:=g;subst e_;exact⟨c2,o,vs,t,e,l _ _ ho,z⟩
end
open PySem PySem.Spec PyProof.Rows
noncomputable abbrev lmSc:Scope:= {kind:= .function,names:= [(Str.ofString "place", .local),(Str.ofString "numbers", .free)],isGenerator:=false,isCoroutine:=false,more:= []}
abbrev lmAr(p:Pos):Arguments:= {posonlyargs:= [],args:= [{arg:="place",annotation:=none,pos:=p}],vararg:=none,kwonlyargs:= [],kw_defaults:= [],kwarg:=none,defaults:= []}
abbrev lmBd(p1 p2 p3:Pos):Expr:= .Subscript (.Name "numbers" p1) (.Name "place" p2) p3
theorem vz{env:Env}{c:Addr}(h:env.cells.lookup (Str.ofString "numbers")=some c):closureFor lmSc env=pure [(Str.ofString "numbers",c)]:=by
 have e:cellOf env (Str.ofString "numbers")=pure c:=by unfold cellOf;rw[h]
 unfold closureFor;simp only[List.forIn_cons,List.forIn_nil,pure_bind,bind_pure_comp];simp[e]
theorem tF{prog:Program}{w:World}{A:Around}{s:Shared}{f a c c':Addr}{q:Str}{p0 p1 p2 p3:Pos}{pm ctv:Value}{its:Array Value}{i k:Int}{t u:Tok}(hroom:A.depth < recursionLimit)(ho:s.heap.get? f=some (PySem.W.kla_obj "<lambda>" q (lmAr p0) (lmBd p1 p2 p3) lmSc [(Str.ofString "numbers",c)] pm c' ctv))(hrec:s.heap.CodeRec (.ref c') q)(hlim:s.heap.NoLimit)(hcell:s.heap.IsCell c (some (.ref a)))(hl:s.heap.IsList a its)(h0:0<=i)(hfit:i < 2^63)(hx:its[i.toNat]?=some (.int k u)):
 wpAny (model prog w) A (call (.ref f) [.int i t]) (fun x s''=>∃t h' tk',x=Value.int k t/\s''= {s with heap:=h',toks:=tk'}/\∀b o,s.heap.get? b=some o->h'.get? b=some o) (fun _ _=>False) s:=by
 refine wpAny_call (PySem.W.kla_callFunE hroom ho rfl rfl rfl rfl hrec ?_);rw[show bindArgs (PySem.W.kla_fn "<lambda>" q (lmAr p0) (lmBd p1 p2 p3) lmSc [(Str.ofString "numbers",c)] pm (.ref c') ctv) ⟨[.int i t],[]⟩=pure [(Str.ofString "place", .int i t)]from rfl]
 refine wpAny_pure (wpAny_newFunctionEnv (scope:=lmSc) (by decide +kernel) (by
  intro x m;rw[A8.mp m];show List.lookup (Str.ofString "place") lmSc.names=_
  decide +kernel) (fun l j g=>⟨hlim.fresh _ g,PySem.W.kla_codeExpr ?_⟩) rfl)
 have d:∀b o,s.heap.get? b=some o->l.get? b=some o:=fun b o e=>g.extBut b o (zO (Heap.lt_size e)) (Heap.get?_push_of_some _ e);refine Subscript_ (wpAny_Name (wpAny_loadName_free rfl (show List.lookup (Str.ofString "numbers") lmSc.names=some .free by decide +kernel) (c:=c) (v:= .ref a) ?_ (hcell.keeps d) ?_ (by decide +kernel)) (by decide +kernel))
 . show List.lookup (Str.ofString "numbers") [(Str.ofString "numbers",c)]=some c;simp
 refine wpAny_Name (wpAny_loadName_local rfl (show List.lookup (Str.ofString "place") lmSc.names=some .local by decide +kernel) j (v:= .int i t) ?_ ?_) (by decide +kernel)
 . show List.lookup (Str.ofString "place") [(Str.ofString "place",Value.int i t)]=_;simp
 obtain⟨n,h,hr⟩:=hl;refine item_listR (s:= {s with heap:=l,toks:=_}) (items:=its) ⟨n,d _ _ h,hr⟩ h0 hfit hx ?_;exact⟨u,l,_,rfl,rfl,d⟩
theorem SqL.butT{K:PySem.W.Frag}{H H':Hp}{T0 a:Addr}{xs:List V}{ps:Array Value}(hT:H T0=some (.tbl ps))(b:ButT T0 H H')(h:SqL K H a xs):SqL K H' a xs:=by
 rcases h with(h|⟨o,h⟩)|h
 . exact .inl (.inl (b _ _ (fun z=>by rw[z,hT]at h;cases h) h))
 . exact .inl (.inr ⟨o,b _ _ (fun z=>by rw[z,hT]at h;cases h) h⟩)
 . exact .inr h
def nv(ps:List Nat):List V:=ps.map fun(p:Nat)=>V.int (p:Int)
def wB(K:PySem.W.Frag)(T0:Addr)(pos:Pos)(q:Str):TE:=fun σ H Q=>∃(a b:Addr) (ns:List Int) (ps:List Nat),σ[0]?=some (some (.ref a))/\σ[1]?=some (some (.ref b))/\SqL K H a (ns.map V.int)/\SqL K H b (nv ps)/\(∀p∈ps,p < ns.length)/\Lam T0 pos q H/\
 (ps= []->∀H',ButT T0 H H'->Lam T0 pos q H'->Q .non H')/\∀p∈ps,(∀r∈ps,ns.getD p 0<=ns.getD r 0)->∀H',ButT T0 H H'->Lam T0 pos q H'->Q (.int (p:Int)) H'
theorem sm{X:Cx}{T0 c0:Addr}{p p' p0 p1 p2 p3 p4 pos kp kp2 cpos:Pos}{k:Nat}(hc:X.calm=true)(hr:Room k X.A)(hN:X.N= [Str.ofString "numbers",Str.ofString "places"])(hn:X.env.scope.names.lookup (Str.ofString "numbers")=some .cell)(hpl:Vis X.env.scope (Str.ofString "places"))(hcode:X.env.code= .ref c0)(C:PySem.W.codeHdIn X.K c0 T0=true)(hB:X.base.BuiltinsAt X.mg T0)(hg:Gl X (Str.ofString "min"))(hm:X.mg (Str.ofString "min")=none):
 PE X (.Call (.Name "min" p) [.Name "places" p'] [⟨some (Str.ofString "key"), .Lambda (lmAr p0) (lmBd p1 p2 p3) lmSc pos,kp⟩,⟨some (Str.ofString "default"), .Constant .none 0 p4,kp2⟩] cpos) (wB X.K T0 pos (X.env.qual++"<lambda>")):=by
 intro pins s σ H Q I h;refine hZq fun q_ e_=>?_;obtain⟨a,b,ns,ps,e0,e1,ha,hb,bw,hL,bi,a1⟩:=h;subst e_;refine wpAny_Call_Name_kw (eF I hg hm boot_min ?_ (by decide) (by decide))
 refine PyProof.Rows.callWith_kw (thn ((a0 (sk (i:=1) (by rw[hN];rfl) hpl) a9) cpos pins s σ H (fun vs H1=>vs= [.ref b]/\H1=H) I ⟨_,e1,rfl,rfl⟩) fun us s1 ⟨vs,H1,I1,r1,q1⟩=>?_)
 refine hZq fun q_ e_=>?_;obtain⟨rfl,rfl⟩:=q1;obtain⟨u,rfl,ru⟩:=dw r1;subst e_;cases ru;obtain⟨b6,hT⟩:=hL.tb;show wpAny _ _ (evalAll ((do let v<-eval (.Lambda (lmAr p0) (lmBd p1 p2 p3) lmSc pos) X.env;standAt cpos;pure v)::(do let v<-eval (.Constant .none 0 p4) X.env;standAt cpos;pure v):: [])) _ _ s1
 have lk:=I1.loc;refine hZq fun q_ e_=>?_;obtain⟨m,b7,b4⟩:=lk;obtain⟨u,ru,l⟩:=b4 0 (Str.ofString "numbers") (.ref a) (by rw[hN];rfl) e0 (.inr (.inl hn))
 subst e_;cases ru
 obtain⟨c,a3,bC⟩:∃c,X.env.cells.lookup (Str.ofString "numbers")=some c/\s1.heap.IsCell c (some (.ref a)):=by
  rcases l with⟨l,_⟩|⟨_,l⟩
  . have:X.env.scope.names.lookup (Str.ofString "numbers")=some .local:=l;rw[hn]at this;cases this
  . exact l
 refine wpAny_evalAll_cons (wpAny_bind (tE I1 hcode C hB rfl (vz a3) hL fun f c' b8 H2 d I2 bt a2 bb=>wpAny_bind (wpAny_standAt (wpAny_pure ?_))));refine wpAny_evalAll_cons (wpAny_bind (Constant_none (wpAny_bind (wpAny_standAt (wpAny_pure (wpAny_evalAll_nil ?_))))));show wpAny _ X.A (call (.builtin "min") [.ref b] [(Str.ofString "key", .ref f),(Str.ofString "default", .none)]) _ _ d;have bx:=SqL.butT hT bt hb;have bj:=SqL.butT hT bt ha;refine hZq fun q_ e_=>?_;obtain⟨its,rv,pl,_⟩:=I2.list bx;obtain⟨a5,bY,bF,bI⟩:=I2.list bj;subst e_;have aT:=rv.length;unfold nv at aT;rw[zm]at aT;have bg:b < d.heap.objs.size:=by obtain⟨_,e,_⟩:=pl.isList;exact Heap.lt_size e
 have bR:=(I2.pin _ (zR _ zq)).1
 have au:d.heap.IsCell c (some (.ref a)):=by
  refine hZq fun q_ e_=>?_;obtain⟨m2,_,a7⟩:=I2.loc;obtain⟨u,ru,l⟩:=a7 0 (Str.ofString "numbers") (.ref a) (by rw[hN];rfl) e0 (.inr (.inl hn))
  subst e_;cases ru;rcases l with⟨l,_⟩|⟨_,c2,l1,l2⟩
  . have:X.env.scope.names.lookup (Str.ofString "numbers")=some .local:=l;rw[hn]at this;cases this
  . rw[a3]at l1;cases l1;exact l2
 refine PyProof.Rows.kmk_tree PySem.F.kind_min PySem.F.plain_min PySem.F.entry_min (pK _ _ _) ?_;show wpAny _ X.A.in1 (Builtin.Builtins.bindParams "min" ["key","default"] 0 ⟨[],[(Str.ofString "key", .ref f),(Str.ofString "default", .none)]⟩ >>=fun _=>_) _ _ d;refine wpAny_bind (wpAny_of_eq (show Builtin.Builtins.bindParams "min" ["key","default"] 0 ⟨[],[(Str.ofString "key", .ref f),(Str.ofString "default", .none)]⟩=pure [some (.ref f),some .none]from rfl) ?_);refine wpAny_bind (wpAny_pure (wpAny_bind (wpAny_pyIter_list pl.isList (wpAny_bind (wpAny_newObj_type ?_ (zY _))))));rw[dk];have aC:∀o:Obj,(d.heap.push o).objs.size=d.heap.objs.size+1:=fun o=>Heap.size_push ..
 have a6:∀ {h':Heap},Kp [d.heap.objs.size] (d.heap.push {cls:= .type "list_iterator",data:= .fields #[.ref b, .int 0 0]}).objs.size ((d.heap.push {cls:= .type "list_iterator",data:= .fields #[.ref b, .int 0 0]}).push {cls:= .type "list",data:= .seq ([]:List Value).toArray}) h'->∀b o,d.heap.get? b=some o->h'.get? b=some o:=fun hk b x ex=>hk b x (fun hm=>by
  rw[A8.mp hm]at ex;exact AS _ (Heap.lt_size ex)) (fun e=>by
  have l:=Heap.lt_size ex;rw[e]at l
  exact absurd l (by rw[aC];exact Nat.not_lt.mpr (Nat.le_succ _))) (Heap.get?_push_of_some _ (Heap.get?_push_of_some _ ex))
 have fin:∀ {x:V} {v:Value} {h':Heap} {tk:Nat},(∀b o,d.heap.get? b=some o->h'.get? b=some o)->RelV x v->Q x H2->EP X pins σ Q v {d with heap:=h',toks:=tk}:=fun hk r q=>⟨_,H2,(I2.unpin).kept hk,r,q⟩
 have n:∀i v,its.toArray[i]?=some v->∃(hi:i < ps.length) (t:Tok),v= .int (ps[i]:Int) t:=fun i v e=>by
  have e':its[i]?=some v:=by simpa using e
  have hi:i < ps.length:=by have:=(zv.mp e').1;omega
  obtain⟨y,ey,ry⟩:=rv.get (i:=i) (x:= .int (ps[i]:Int)) (by unfold nv;rw[zr,zo hi];rfl)
  rw[e']at ey;cases ey;exact⟨hi,ry⟩
 refine wpAny_pure ⟨plainId_quiet PySem.F.plain_min_loop _,m8 (s₀:=d) (G:=fun h=>∀b o,d.heap.get? b=some o->h.get? b=some o) (kf:=fun i=>ns.getD (ps.getD i 0) 0) (Walks.list (A:=X.A.in1) (I2.ok.hd hc) d.heap.objs.size b (zO bg) its.toArray) (fun hm=>?_) (fun h h' g k b o e=>?_) (fun i v h tk hi pv g=>?_) .none
  ⟨⟨_,Heap.get?_push_of_some _ (Heap.get?_push_size _ rfl),rfl,rfl⟩,(pl.isList.push _).push _⟩ (fun b o e=>Heap.get?_push_of_some _ (Heap.get?_push_of_some _ e)) (Heap.get?_push_size _ rfl) (fun hz h' tk hk=>?_) fun i v h' tk hi pv a4 hk=>?_⟩
 . rcases zJ.mp hm with e|hm
   . exact absurd ((aC _).symm.trans e) (Nat.succ_ne_self _)
   . exact absurd ((aC _).symm.trans (A8.mp hm)) (Nat.ne_of_gt (Aq bg))
 . refine k b o (fun hm=>?_) (fun e'=>?_) (g b o e)
   . rw[A8.mp hm]at e;exact AS _ (Heap.lt_size e)
   . have l:=Heap.lt_size e;rw[e']at l;exact absurd l (by rw[aC];exact Nat.not_lt.mpr (Nat.le_succ _))
 . refine hZq fun q_ e_=>?_;obtain⟨w,t,rfl⟩:=n i v pv;have hp:=bw _ (A4 w);have ei:ps.getD i 0=ps[i]:=by simp[w]
   obtain⟨y,ey,ry⟩:=bY.get (i:=ps[i]) (x:= .int ns[ps[i]]) (by rw[zr,zo hp];rfl)
   obtain⟨ty,rfl⟩:=ry;obtain⟨oa,bT,bB⟩:=bF.isList;subst e_;have hz:=ft;rw[zm]at bI;refine tF (s:= {d with heap:=h,toks:=tk}) (a:=a) (its:=a5.toArray) (show X.A.in1.depth < _ from hr.depth) (g _ _ bR) ?_ ?_ (au.keeps g) ⟨oa,g _ _ bT,bB⟩ (by omega) ?_ (u:=ty) ?_
   . refine hZq fun q_ e_=>?_;obtain⟨c2,o,vs,t,e,ho,z⟩:=bb;subst e_;exact⟨c2,o,vs,t,e,g _ _ ho,z⟩
   . exact I2.nolimit.keeps g
   . have:((ps[i]:Nat):Int) < (sizeLine:Int):=by omega
     omega
   . show(a5.toArray)[((ps[i]:Nat):Int).toNat]?=some (.int (ns.getD (ps.getD i 0) 0) ty);rw[ei,AA,show ns.getD ps[i] 0=ns[ps[i]]by simp[hp]]
     simpa using ey
 . rw[zx]at hz;exact fin (x:= .non) (a6 hk) rfl (bi (List.eq_nil_of_length_eq_zero (by omega)) H2 bt a2)
 . obtain⟨w,t,rfl⟩:=n i v pv;have ei:ps.getD i 0=ps[i]:=by simp[w]
   refine fin (x:= .int (ps[i]:Int)) (a6 hk) ⟨_,rfl⟩ (a1 _ (A4 w) (fun r mr=>?_) H2 bt a2);obtain⟨j,hj,rfl⟩:=Ax mr;have:=a4 j (by rw[zx];omega)
   rw[ei,show ps.getD j 0=ps[j]by simp[hj]]at this
   exact this
end L2
namespace Wg
def sumN:Nat->(Nat->Int)->Int
 |0,_=>0
 |n+1,f=>sumN n f+f n
theorem sumN_congr{n:Nat}{f g:Nat->Int}(h:∀i,i < n->f i=g i):sumN n f=sumN n g:=by
 induction n with
 |zero=>rfl
 |succ n a=>
  rw[sumN,sumN,a fun i hi=>h i (Aq hi),h n (AK n)]
theorem sumN_add{n:Nat}{f g:Nat->Int}:sumN n (fun i=>f i+g i)=sumN n f+sumN n g:=by
 induction n with
 |zero=>rfl
 |succ n a=>
  simp only[sumN,a];omega
theorem sumN_mul{n:Nat}{x:Int}{f:Nat->Int}:sumN n (fun i=>x*f i)=x*sumN n f:=by
 induction n with
 |zero=>simp[sumN]
 |succ n a=>simp only[sumN,a,Int.mul_add]
theorem sumN_zero{n:Nat}{f:Nat->Int}(h:∀i,i < n->f i=0):sumN n f=0:=by
 induction n with
 |zero=>rfl
 |succ n a=>
  rw[sumN,a fun i hi=>h i (Aq hi),h n (AK n)];rfl
theorem sumN_one{n k:Nat}{f:Nat->Int}(hk:k < n)(h:∀i,i < n->i≠k->f i=0):sumN n f=f k:=by
 induction n with
 |zero=>omega
 |succ n a=>
  rw[sumN];by_cases e:k=n
  . subst e;rw[sumN_zero fun i hi=>h i (Aq hi) (by omega)]
    omega
  . rw[a (by omega) fun i hi=>h i (Aq hi),h n (AK n) (fun z=>e z.symm)]
    omega
theorem qH{n k:Nat}{f:Nat->Int}(hk:k+1 < n)(h:∀i,i < n->i≠k->i≠k+1->f i=0):sumN n f=f k+f (k+1):=by
 induction n with
 |zero=>omega
 |succ n a=>
  rw[sumN];by_cases e:k+1=n
  . subst e;rw[sumN_one (k:=k) (by omega) fun i hi hne=>h i (by omega) hne (by omega)]
  . rw[a (by omega) fun i hi=>h i (Aq hi),h n (AK n) (by omega) (by omega)]
    omega
def sgn:Nat->Int
 |0=>1
 |n+1=> -sgn n
abbrev Vec:=Nat->Int
noncomputable def setV(B:Nat->Vec)(i:Nat)(v:Vec):Nat->Vec:=fun k=>if k=i then v else B k
theorem bH{B:Nat->Vec}{i:Nat}{v:Vec}:setV B i v i=v:=by unfold setV;rw[if_pos rfl]
theorem cf{B:Nat->Vec}{i k:Nat}{v:Vec}(h:k≠i):setV B i v k=B k:=by unfold setV;rw[if_neg h]
noncomputable def skip(j:Nat)(B:Nat->Vec):Nat->Vec:=fun k c=>B (if k < j then k else k+1) (c+1)
noncomputable def det:Nat->(Nat->Vec)->Int
 |0,_=>1
 |m+1,B=>sumN (m+1) fun j=>sgn j*B j 0*det m (skip j B)
theorem fD:∀(m:Nat) {B C:Nat->Vec},(∀k c,k < m->c < m->B k c=C k c)->det m B=det m C
 |0,_,_,_=>rfl
 |m+1,B,C,h=>by
  rw[det,det];refine sumN_congr fun j a=>?_;rw[h j 0 a (by omega),fD m (B:=skip j B) (C:=skip j C) fun k c hk hc=>?_]
  unfold skip;split
  . exact h k (c+1) (by omega) (by omega)
  . exact h (k+1) (c+1) (by omega) (by omega)
theorem cN{B:Nat->Vec}{i:Nat}{v:Vec}:skip i (setV B i v)=skip i B:=by
 funext k c;unfold skip;rw[cf (by split<;>omega)]
def pos(j i:Nat):Nat:=if i < j then i else i - 1
def sh(v:Vec):Vec:=fun c=>v (c+1)
theorem gJ{B:Nat->Vec}{i j:Nat}{v:Vec}(h:j≠i):skip j (setV B i v)=setV (skip j B) (pos j i) (sh v):=by
 funext k c;unfold skip setV pos sh;by_cases a:i < j
 . rw[if_pos a];by_cases hk:k < j
   . rw[if_pos hk];by_cases e:k=i
     . rw[if_pos e,if_pos e]
     . rw[if_neg e,if_neg e];show _=B (if k < j then k else k+1) (c+1);rw[if_pos hk]
   . rw[if_neg hk,if_neg (by omega),if_neg (by omega)]
     show _=B (if k < j then k else k+1) (c+1);rw[if_neg hk]
 . rw[if_neg a];by_cases hk:k < j
   . rw[if_pos hk,if_neg (by omega),if_neg (by omega)]
     show _=B (if k < j then k else k+1) (c+1);rw[if_pos hk]
   . rw[if_neg hk];by_cases e:k+1=i
     . rw[if_pos e,if_pos (by omega)]
     . rw[if_neg e,if_neg (by omega)]
       show _=B (if k < j then k else k+1) (c+1);rw[if_neg hk]
theorem jS:∀(m:Nat) (B:Nat->Vec) (i:Nat) (x y:Int) (u v:Vec),i < m->det m (setV B i fun c=>x*u c+y*v c)=x*det m (setV B i u)+y*det m (setV B i v)
 |0,_,i,_,_,_,_,h=>by omega
 |m+1,B,i,x,y,u,v,h=>by
  rw[det,det,det,<-sumN_mul,<-sumN_mul,<-sumN_add];refine sumN_congr fun j b=>?_;by_cases e:j=i
  . subst e;rw[bH,bH,bH,cN,cN,cN];simp only[Int.mul_add,Int.add_mul];congr 1<;>simp only[<-Int.mul_assoc]<;>congr 1<;>rw[AV (sgn j)]
  . rw[cf e,cf e,cf e,gJ e,gJ e,gJ e];have hp:pos j i < m:=by unfold pos;split<;>omega
    have:=jS m (skip j B) (pos j i) x y (sh u) (sh v) hp;have a:(sh fun c=>x*u c+y*v c)=fun c=>x*sh u c+y*sh v c:=rfl;rw[a,this,Int.mul_add];rw[Int.mul_left_comm _ x,Int.mul_left_comm _ y]
theorem gc:∀(m:Nat) (B:Nat->Vec) (a:Nat),a+1 < m->B a=B (a+1)->det m B=0
 |0,_,_,h,_=>by omega
 |m+1,B,a,h,e=>by
  rw[det,qH (k:=a) h]
  . have hs:skip a B=skip (a+1) B:=by
     funext k c;unfold skip;by_cases hk:k < a
     . rw[if_pos hk,if_pos (by omega)]
     . rw[if_neg hk];by_cases d:k < a+1
       . have:k=a:=by omega
         subst this;rw[if_pos d,e]
       . rw[if_neg d]
    rw[hs,e];show _+ -sgn a*_*_=_;rw[Int.neg_mul,Int.neg_mul];omega
  . intro j f h1 h2
    have:det m (skip j B)=0:=by
     by_cases hl:a+1 < j
     . refine gc m (skip j B) a (by omega) ?_
       funext c;unfold skip;rw[if_pos (by omega),if_pos hl,e]
     . have g:j < a:=by omega
       obtain⟨b,rfl⟩:∃b,a=b+1:=⟨a - 1,by omega⟩
       refine gc m (skip j B) b (by omega) ?_
       funext c;unfold skip;rw[if_neg (by omega),if_neg (by omega),e]
    rw[this,Az]
theorem set_comm{B:Nat->Vec}{i j:Nat}{u v:Vec}(h:i≠j):setV (setV B i u) j v=setV (setV B j v) i u:=by
 funext k;unfold setV;by_cases e:k=j
 . rw[if_pos e,if_neg (by omega),if_pos e]
 . rw[if_neg e];by_cases a:k=i
   . rw[if_pos a,if_pos a]
   . rw[if_neg a,if_neg a,if_neg e]
theorem gM{B:Nat->Vec}{i:Nat}:setV B i (B i)=B:=by
 funext k;unfold setV;by_cases e:k=i
 . rw[if_pos e,e]
 . rw[if_neg e]
theorem jT{m:Nat}(B:Nat->Vec)(i:Nat)(u v:Vec)(h:i < m):det m (setV B i fun c=>u c+v c)=det m (setV B i u)+det m (setV B i v):=by
 have:=jS m B i 1 1 u v h;rw[Int.one_mul,Int.one_mul]at this;rw[<-this];congr 2;funext c;rw[Int.one_mul,Int.one_mul]
theorem jR{m:Nat}(B:Nat->Vec)(i:Nat)(x:Int)(u:Vec)(h:i < m):det m (setV B i fun c=>x*u c)=x*det m (setV B i u):=by
 have:=jS m B i x 0 u u h;rw[Av,Int.add_zero]at this;rw[<-this];congr 2;funext c;rw[Av,Int.add_zero]
theorem ua{m:Nat}(B:Nat->Vec)(a:Nat)(u v:Vec)(h:a+1 < m):det m (setV (setV B a u) (a+1) v)= -det m (setV (setV B a v) (a+1) u):=by
 have z:∀w:Vec,det m (setV (setV B a w) (a+1) w)=0:=fun w=>gc m _ a h (by rw[bH,cf (by omega),bH])
 have t:=z fun c=>u c+v c
 have q:∀w:Vec,det m (setV (setV B a fun c=>u c+v c) (a+1) w)=det m (setV (setV B a u) (a+1) w)+det m (setV (setV B a v) (a+1) w):=by
  intro w;rw[set_comm (by omega),jT _ _ _ _ (by omega),set_comm (by omega),set_comm (i:=a+1) (j:=a) (u:=w) (v:=v) (by omega)]
 rw[jT _ _ _ _ h,q,q]at t;rw[z u,z v]at t;omega
theorem mL:∀(d m:Nat) (B:Nat->Vec) (i:Nat),i+d+1 < m->B i=B (i+d+1)->det m B=0
 |0,m,B,i,h,e=>gc m B i h e
 |d+1,m,B,i,h,e=>by
  have hb:B=setV (setV B (i+d+1) (B (i+d+1))) (i+d+1+1) (B (i+d+1+1)):=by rw[gM,gM]
  rw[hb,ua B (i+d+1) _ _ h];rw[mL d m (setV (setV B (i+d+1) (B (i+d+1+1))) (i+d+1+1) (B (i+d+1))) i (by omega)]
  . rfl
  . rw[cf (by omega),cf (by omega),cf (by omega),bH]
    exact e
theorem vK{m:Nat}{B:Nat->Vec}{i j:Nat}(hi:i < m)(hj:j < m)(hne:i≠j)(e:B i=B j):det m B=0:=by
 by_cases h:i < j
 . obtain⟨d,rfl⟩:∃d,j=i+d+1:=⟨j - i - 1,by omega⟩
   exact mL d m B i hj e
 . obtain⟨d,rfl⟩:∃d,i=j+d+1:=⟨i - j - 1,by omega⟩
   exact mL d m B j hi e.symm
theorem oq{m:Nat}(B:Nat->Vec)(i:Nat)(h:i < m)(e:Nat->Int)(W:Nat->Vec):∀n:Nat,det m (setV B i fun c=>sumN n fun k=>e k*W k c)=sumN n fun k=>e k*det m (setV B i (W k))
 |0=>by
  have:=jR B i 0 (fun _=>0) h;rw[Av (det m _)]at this;show det m (setV B i fun _=>0)=0;exact this
 |n+1=>by
  rw[sumN,<-oq B i h e W n,<-jR B i (e n) (W n) h,<-jT _ _ _ _ h];rfl
theorem jU{m:Nat}(B:Nat->Vec)(D:Int)(V:Vec)(e:Nat->Int)(hV:∀c,c < m->D*V c=sumN m fun k=>e k*B k c)(i:Nat)(h:i < m):D*det m (setV B i V)=e i*det m B:=by
 rw[<-jR B i D V h];rw[fD m (C:=setV B i fun c=>sumN m fun k=>e k*B k c)]
 . rw[oq B i h e B m,sumN_one (k:=i) h]
   . rw[gM]
   . intro k hk hne;rw[vK (i:=k) (j:=i) hk h hne,Az];rw[bH,cf hne]
 . intro k c hk hc;by_cases e':k=i
   . subst e';rw[bH,bH];exact hV c hc
   . rw[cf e',cf e']
theorem eN{n r:Nat}{f:Nat->Int}{a:Int}(h:r < n):(sumN n fun i=>if i=r then a else f i)=sumN n f - f r+a:=by
 induction n with
 |zero=>omega
 |succ n b=>
  rw[sumN,sumN];by_cases e:r=n
  . subst e;rw[if_pos rfl,sumN_congr (g:=f) fun i hi=>if_neg (by omega)]
    omega
  . rw[b (by omega),if_neg (by omega)]
    omega
structure Tb where
 bot:Int
 ln:Nat->Nat->Int
 sd:Nat->Nat
 hd:Nat->Nat
noncomputable def Tb.W(T:Tb)(V:Nat->Vec)(R:Nat->Vec)(n c:Nat):Vec:=fun t=>if c < n then -V (T.hd c) t else R c t
structure Inv (m n:Nat) (V R:Nat->Vec) (T:Tb):Prop where
 pos:0 < T.bot
 det:(det m fun i=>V (T.sd i)).natAbs=T.bot.natAbs
 ln:∀c t,c < n+2->t < m->(sumN m fun i=>T.ln i c*V (T.sd i) t)=T.bot*T.W V R n c t
def sg(p:Int):Int:=if p > 0 then 1 else -1
theorem rE(p:Int):sg p*p=(p.natAbs:Int):=by
 unfold sg;by_cases h:p > 0
 . rw[if_pos h];omega
 . rw[if_neg h];omega
theorem yC(p:Int):sg p*sg p=1:=by
 unfold sg;by_cases h:p > 0
 . rw[if_pos h];rfl
 . rw[if_neg h];rfl
noncomputable def Tb.num(T:Tb)(r q i c:Nat):Int:=T.ln i c*(T.ln r q).natAbs - sg (T.ln r q)*T.ln i q*T.ln r c
noncomputable def piv(T:Tb)(r q:Nat):Tb where
 bot:=(T.ln r q).natAbs
 ln:=fun i c=>if i=r then(if c=q then sg (T.ln r q)*T.bot else -sg (T.ln r q)*T.ln r c)
  else if c=q then sg (T.ln r q)*T.ln i q else T.num r q i c / T.bot
 sd:=fun i=>if i=r then T.hd q else T.sd i
 hd:=fun c=>if c=q then T.sd r else T.hd c
theorem yX(T:Tb)(r q c:Nat):T.num r q r c=0:=by
 unfold Tb.num;rw[rE,AV];omega
theorem yp{a b:Int}(h:a.natAbs=b.natAbs):∃s:Int,a=s*b/\b=s*a/\s*s=1:=by
 rcases Int.natAbs_eq_natAbs_iff.1 h with e|e
 . exact⟨1,by omega,by omega,rfl⟩
 . exact⟨-1,by omega,by omega,rfl⟩
theorem wN{V:Nat->Vec}{T:Tb}{r q:Nat}:(fun i=>V ((piv T r q).sd i))=setV (fun i=>V (T.sd i)) r (V (T.hd q)):=by
 funext i;unfold setV piv;by_cases e:i=r
 . rw[if_pos e];simp only[e,if_true]
 . rw[if_neg e];simp only[e,if_false]
theorem nQ{m n:Nat}{V R:Nat->Vec}{T:Tb}(I:Inv m n V R T){r q:Nat}(hr:r < m)(hq:q < n):(det m fun i=>V ((piv T r q).sd i)).natAbs=(T.ln r q).natAbs:=by
 rw[wN]
 have h:=jU (fun i=>V (T.sd i)) (-T.bot) (V (T.hd q)) (fun i=>T.ln i q) (fun t ht=>by
  rw[I.ln q t (by omega) ht]
  unfold Tb.W
  rw[if_pos hq,Int.mul_neg,Int.neg_mul]) r hr
 have h2:=congrArg Int.natAbs h;rw[Ac,Ac,I.det,AU,Nat.mul_comm]at h2;have:=I.pos;exact Nat.eq_of_mul_eq_mul_right (by omega) h2
theorem nW{i r:Nat}{a b c d:Int}:(if i=r then a else b)*(if i=r then c else d)=if i=r then a*c else b*d:=by
 by_cases e:i=r
 . rw[if_pos e,if_pos e,if_pos e]
 . rw[if_neg e,if_neg e,if_neg e]
theorem si{V:Nat->Vec}{T:Tb}{r q i t:Nat}:V ((piv T r q).sd i) t=if i=r then V (T.hd q) t else V (T.sd i) t:=by
 unfold piv;by_cases e:i=r
 . simp only[e,if_true]
 . simp only[e,if_false]
theorem Inv.col{m n:Nat}{V R:Nat->Vec}{T:Tb}(I:Inv m n V R T){q t:Nat}(hq:q < n)(ht:t < m):(sumN m fun i=>T.ln i q*V (T.sd i) t)= -(T.bot*V (T.hd q) t):=by
 rw[I.ln q t (by omega) ht]
 unfold Tb.W;rw[if_pos hq,Int.mul_neg]
theorem nP{m n:Nat}{V R:Nat->Vec}{T:Tb}(I:Inv m n V R T){r q:Nat}(hr:r < m)(hq:q < n){c t:Nat}(hc:c < n+2)(ht:t < m):
 (sumN m fun i=>(if i=r then -sg (T.ln r q)*T.bot*T.ln r c else T.num r q i c)*V ((piv T r q).sd i) t)=T.bot*(T.ln r q).natAbs*T.W V R n c t:=by
 have e1:∀i,i < m->(if i=r then -sg (T.ln r q)*T.bot*T.ln r c else T.num r q i c)*V ((piv T r q).sd i) t=if i=r then -sg (T.ln r q)*T.bot*T.ln r c*V (T.hd q) t else T.num r q i c*V (T.sd i) t:=by
  intro i hi;rw[si (V:=V),nW]
 rw[sumN_congr e1,eN hr,yX]
 have a:∀i,i < m->T.num r q i c*V (T.sd i) t=(T.ln r q).natAbs*(T.ln i c*V (T.sd i) t)+(-(sg (T.ln r q)*T.ln r c))*(T.ln i q*V (T.sd i) t):=by
  intro i hi;unfold Tb.num;grind
 rw[sumN_congr a,sumN_add,sumN_mul,sumN_mul,I.ln c t hc ht,I.col hq ht];grind
theorem uZ{m n:Nat}{V R:Nat->Vec}{T:Tb}(I:Inv m n V R T){r q:Nat}(hr:r < m)(hq:q < n)(hp:T.ln r q≠0){c:Nat}(hc:c < n+2){i:Nat}(hi:i < m)(hne:i≠r):
 ∃x:Int,T.num r q i c=T.bot*x/\x.natAbs=(det m (setV (fun i=>V ((piv T r q).sd i)) i (T.W V R n c))).natAbs:=by
 have h:=jU (fun i=>V ((piv T r q).sd i)) (T.bot*(T.ln r q).natAbs) (T.W V R n c) (fun i=>if i=r then -sg (T.ln r q)*T.bot*T.ln r c else T.num r q i c) (fun t ht=>(nP I hr hq hc ht).symm) i hi;obtain⟨s,h1,h2,h3⟩:=yp (a:=det m fun i=>V ((piv T r q).sd i)) (b:=((T.ln r q).natAbs:Int)) (by rw[nQ I hr hq];rfl)
 rw[h1]at h;simp only[hne,if_false]at h;have hz:((T.ln r q).natAbs:Int)≠0:=by omega
 refine⟨s*det m (setV (fun i=>V ((piv T r q).sd i)) i (T.W V R n c)),Int.eq_of_mul_eq_mul_right hz ?_,?_⟩
 . generalize det m (setV (fun i=>V ((piv T r q).sd i)) i (T.W V R n c))=d at h;generalize T.num r q i c=u at h;generalize ((T.ln r q).natAbs:Int)=p at h;grind
 . rw[Ac];have:s.natAbs*s.natAbs=1:=by rw[<-Ac,h3];rfl
   rw[Nat.eq_one_of_mul_eq_one_right this,Nat.one_mul]
theorem uY{m n:Nat}{V R:Nat->Vec}{T:Tb}(I:Inv m n V R T){r q:Nat}(hr:r < m)(hq:q < n)(hp:T.ln r q≠0){c:Nat}(hc:c < n+2){i:Nat}(hi:i < m)(hne:i≠r):
 T.bot*(T.num r q i c / T.bot)=T.num r q i c:=by
 obtain⟨x,h,_⟩:=uZ I hr hq hp hc hi hne;have:=I.pos;rw[h,Int.mul_ediv_cancel_left _ (by omega)]
theorem piv_inv{m n:Nat}{V R:Nat->Vec}{T:Tb}(I:Inv m n V R T){r q:Nat}(hr:r < m)(hq:q < n)(hp:T.ln r q≠0):Inv m n V R (piv T r q):=by
 refine⟨?_,?_,?_⟩
 . show(0:Int) < (T.ln r q).natAbs;omega
 . rw[nQ I hr hq];rfl
 . intro c t hc ht;by_cases e:c=q
   . subst e
     have e1:∀i,i < m->(piv T r c).ln i c*V ((piv T r c).sd i) t=if i=r then sg (T.ln r c)*T.bot*V (T.hd c) t else sg (T.ln r c)*(T.ln i c*V (T.sd i) t):=by
      intro i hi;rw[si (V:=V)];show(if i=r then(if c=c then _ else _)else if c=c then _ else _)*_=_;rw[if_pos rfl,if_pos rfl,nW,Int.mul_assoc (sg _) (T.ln i c)]
     rw[sumN_congr e1,eN hr,sumN_mul,I.col hq ht];show _=((T.ln r c).natAbs:Int)*(if c < n then -V (if c=c then T.sd r else T.hd c) t else R c t);rw[if_pos hq,if_pos rfl,<-rE];grind
   . have e1:∀i,i < m->T.bot*((piv T r q).ln i c*V ((piv T r q).sd i) t)=(if i=r then -sg (T.ln r q)*T.bot*T.ln r c else T.num r q i c)*V ((piv T r q).sd i) t:=by
      intro i hi;show T.bot*((if i=r then(if c=q then _ else _)else if c=q then _ else _)*_)=_;rw[if_neg e,if_neg e,<-Int.mul_assoc];congr 1;by_cases ei:i=r
      . rw[if_pos ei,if_pos ei];grind
      . rw[if_neg ei,if_neg ei];exact uY I hr hq hp hc hi ei
     have hb:T.bot≠0:=by have:=I.pos;omega
     refine Int.eq_of_mul_eq_mul_left hb ?_;rw[<-sumN_mul,sumN_congr e1,nP I hr hq hc ht,Int.mul_assoc];congr 2;show(if c < n then -V (T.hd c) t else R c t)=(if c < n then -V (if c=q then T.sd r else T.hd c) t else R c t);rw[if_neg e]
def fac:Nat->Nat
 |0=>1
 |n+1=>(n+1)*fac n
theorem uL{n K:Nat}{f:Nat->Int}(h:∀i,i < n->(f i).natAbs<=K):(sumN n f).natAbs<=n*K:=by
 induction n with
 |zero=>exact zY _
 |succ n a=>
  rw[sumN,Nat.succ_mul];exact zK (Int.natAbs_add_le _ _) (Nat.add_le_add (a fun i hi=>h i (by omega)) (h n (by omega)))
theorem nE:∀j:Nat,(sgn j).natAbs=1
 |0=>rfl
 |j+1=>by rw[sgn,AU,nE j]
theorem mK{M:Nat}:∀(m:Nat) (B:Nat->Vec),(∀k c,k < m->c < m->(B k c).natAbs<=M)->(det m B).natAbs<=fac m*M^m
 |0,_,_=>zu _
 |m+1,B,h=>by
  rw[det,fac,Nat.mul_assoc];refine uL fun j a=>?_;rw[Ac,Ac,nE,Nat.one_mul,Nat.pow_succ,<-Nat.mul_assoc,Nat.mul_comm];refine AF (mK m (skip j B) fun k c hk hc=>?_) (h j 0 a (by omega))
  unfold skip;split
  . exact h _ _ (by omega) (by omega)
  . exact h _ _ (by omega) (by omega)
theorem Inv.entry{m n:Nat}{V R:Nat->Vec}{T:Tb}(I:Inv m n V R T){i c:Nat}(hi:i < m)(hc:c < n+2):(T.ln i c).natAbs=(Wg.det m (setV (fun i=>V (T.sd i)) i (T.W V R n c))).natAbs:=by
 have h:=congrArg Int.natAbs (jU (fun i=>V (T.sd i)) T.bot (T.W V R n c) (fun i=>T.ln i c) (fun t ht=>(I.ln c t hc ht).symm) i hi);rw[Ac,Ac,I.det,Nat.mul_comm]at h;have:=I.pos;exact(Nat.eq_of_mul_eq_mul_right (by omega) h).symm
theorem Inv.bot_le{m n M:Nat}{V R:Nat->Vec}{T:Tb}(I:Inv m n V R T)(hV:∀k t,t < m->(V k t).natAbs<=M):T.bot.natAbs<=fac m*M^m:=by
 rw[<-I.det];exact mK m _ fun k c hk hc=>hV _ c hc
theorem Inv.ln_le{m n M:Nat}{V R:Nat->Vec}{T:Tb}(I:Inv m n V R T)(hV:∀k t,t < m->(V k t).natAbs<=M)(hR:∀c t,c < n+2->t < m->(R c t).natAbs<=M){i c:Nat}(hi:i < m)(hc:c < n+2):(T.ln i c).natAbs<=fac m*M^m:=by
 rw[I.entry hi hc];refine mK m _ fun k t hk ht=>?_;by_cases e:k=i
 . subst e;rw[bH];unfold Tb.W;split
   . rw[AU];exact hV _ t ht
   . exact hR c t hc ht
 . rw[cf e];exact hV _ t ht
theorem ff{g:Nat->Nat->Int}:∀(m n:Nat),(sumN m fun i=>sumN n fun c=>g i c)=sumN n fun c=>sumN m fun i=>g i c
 |0,n=>by
  show 0=_;exact(sumN_zero fun c hc=>rfl).symm
 |m+1,n=>by
  show _+_=sumN n fun c=>(sumN m fun i=>g i c)+g m c;rw[sumN_add,ff m n]
theorem z7{m:Nat}{B:Nat->Vec}(hB:det m B≠0)(y:Nat->Int)(h:∀t,t < m->(sumN m fun i=>y i*B i t)=0){i:Nat}(hi:i < m):y i=0:=by
 have:=jU B 0 (fun _=>0) y (fun t ht=>by rw[h t ht];rfl) i hi
 rw[Av]at this;exact(Int.mul_eq_zero.1 this.symm).resolve_right hB
theorem Inv.nz{m n:Nat}{V R:Nat->Vec}{T:Tb}(I:Inv m n V R T):(Wg.det m fun i=>V (T.sd i))≠0:=by
 intro h;have h1:=I.det;have:=I.pos;rw[h]at h1;have h2:(0:Int).natAbs=0:=rfl;omega
theorem sumN_mulr{n:Nat}{x:Int}{f:Nat->Int}:(sumN n fun i=>f i*x)=sumN n f*x:=by
 rw[AV,<-sumN_mul];exact sumN_congr fun i hi=>AV _ _
theorem Inv.row{m n:Nat}{V R:Nat->Vec}{T:Tb}(I:Inv m n V R T)(x:Nat->Int)(b e:Int)(hx:∀t,t < m->((sumN m fun i=>x (T.sd i)*V (T.sd i) t)+sumN n fun c=>x (T.hd c)*V (T.hd c) t)=b*R n t+e*R (n+1) t){i:Nat}(hi:i < m):
 T.bot*x (T.sd i)=(sumN n fun c=>T.ln i c*x (T.hd c))+b*T.ln i n+e*T.ln i (n+1):=by
 have key:=z7 I.nz (fun i=>T.bot*x (T.sd i)+ -1*((sumN n fun c=>T.ln i c*x (T.hd c))+b*T.ln i n+e*T.ln i (n+1))) (fun t ht=>?_) hi
 . omega
 . have e1:∀i,i < m->(T.bot*x (T.sd i)+ -1*((sumN n fun c=>T.ln i c*x (T.hd c))+b*T.ln i n+e*T.ln i (n+1)))*V (T.sd i) t
    =T.bot*(x (T.sd i)*V (T.sd i) t)+ -1*((sumN n fun c=>T.ln i c*x (T.hd c)*V (T.sd i) t)+b*(T.ln i n*V (T.sd i) t)+e*(T.ln i (n+1)*V (T.sd i) t)):=by
    intro i hi;rw[sumN_mulr];grind
   rw[sumN_congr e1,sumN_add,sumN_mul,sumN_mul,sumN_add,sumN_add,sumN_mul,sumN_mul,ff]
   have a:∀c,c < n->(sumN m fun i=>T.ln i c*x (T.hd c)*V (T.sd i) t)= -T.bot*(x (T.hd c)*V (T.hd c) t):=by
    intro c hc;rw[sumN_congr (g:=fun i=>x (T.hd c)*(T.ln i c*V (T.sd i) t)) fun i hi=>by grind,sumN_mul,I.col hc ht]
    grind
   rw[sumN_congr a,sumN_mul,I.ln n t (by omega) ht,I.ln (n+1) t (by omega) ht]
   have d:T.W V R n n t=R n t:=if_neg (by omega)
   have f:T.W V R n (n+1) t=R (n+1) t:=if_neg (by omega)
   rw[d,f];have:=hx t ht;grind
theorem bL{f:Nat->Int}:∀ {n:Nat},(∀i,i < n->0<=f i)->0<=sumN n f
 |0,_=>Int.le_refl _
 |n+1,h=>by
  rw[sumN];have:=bL (n:=n) fun i hi=>h i (by omega)
  have:=h n (by omega)
  omega
theorem cJ{f:Nat->Int}{k:Nat}:∀ {n:Nat},(∀i,i < n->0<=f i)->k < n->f k<=sumN n f
 |0,_,hk=>by omega
 |n+1,h,hk=>by
  rw[sumN];have h2:=h n (by omega)
  by_cases e:k=n
  . subst e;have:=bL (n:=k) fun i hi=>h i (by omega)
    omega
  . have:=cJ (n:=n) (fun i hi=>h i (by omega)) (by omega:k < n)
    omega
theorem gC{f:Nat->Int}{k l:Nat}:∀ {n:Nat},(∀i,i < n->0<=f i)->k < n->l < n->k≠l->f k+f l<=sumN n f
 |0,_,hk,_,_=>by omega
 |n+1,h,hk,hl,hne=>by
  rw[sumN];have h2:=h n (by omega)
  by_cases e:k=n
  . subst e;have:=cJ (k:=l) (n:=k) (fun i hi=>h i (by omega)) (by omega)
    omega
  . by_cases a:l=n
    . subst a;have:=cJ (k:=k) (n:=l) (fun i hi=>h i (by omega)) (by omega)
      omega
    . have:=gC (n:=n) (fun i hi=>h i (by omega)) (by omega:k < n) (by omega:l < n) hne
      omega
def Pm(m n:Nat)(T:Tb):Prop:=∀f:Nat->Int,(sumN m fun i=>f (T.sd i))+(sumN n fun c=>f (T.hd c))=sumN (m+n) f
def ind(k:Nat):Nat->Int:=fun x=>if x=k then 1 else 0
theorem cP(k x:Nat):0<=ind k x:=by unfold ind;split<;>omega
theorem bO(k:Nat):ind k k=1:=if_pos rfl
theorem dN{k x:Nat}(h:x≠k):ind k x=0:=if_neg h
theorem jo{k N:Nat}:sumN N (ind k)<=1:=by
 by_cases h:k < N
 . rw[sumN_one h fun i hi hne=>dN hne,bO];exact Int.le_refl _
 . rw[sumN_zero fun i hi=>dN (by omega)]
   decide
theorem Pm.sd_lt{m n:Nat}{T:Tb}(P:Pm m n T){i:Nat}(hi:i < m):T.sd i < m+n:=by
 refine Classical.byContradiction fun h=>?_;have h1:=P (ind (T.sd i));rw[sumN_zero (f:=ind (T.sd i)) (n:=m+n) fun j a=>dN (by omega)]at h1
 have h2:=cJ (f:=fun j=>ind (T.sd i) (T.sd j)) (fun j a=>cP _ _) hi;have h3:=bL (f:=fun c=>ind (T.sd i) (T.hd c)) (n:=n) fun j a=>cP _ _;rw[bO]at h2;omega
theorem Pm.hd_lt{m n:Nat}{T:Tb}(P:Pm m n T){c:Nat}(hc:c < n):T.hd c < m+n:=by
 refine Classical.byContradiction fun h=>?_;have h1:=P (ind (T.hd c));rw[sumN_zero (f:=ind (T.hd c)) (n:=m+n) fun j a=>dN (by omega)]at h1
 have h2:=cJ (f:=fun j=>ind (T.hd c) (T.hd j)) (fun j a=>cP _ _) hc;have h3:=bL (f:=fun j=>ind (T.hd c) (T.sd j)) (n:=m) fun j a=>cP _ _;rw[bO]at h2;omega
theorem Pm.inj{m n:Nat}{T:Tb}(P:Pm m n T){i j:Nat}(hi:i < m)(hj:j < m)(e:T.sd i=T.sd j):i=j:=by
 refine Classical.byContradiction fun h=>?_;have h1:=P (ind (T.sd i));have a:=jo (k:=T.sd i) (N:=m+n);have h2:=gC (f:=fun j=>ind (T.sd i) (T.sd j)) (fun j hj=>cP _ _) hi hj h;have h3:=bL (f:=fun c=>ind (T.sd i) (T.hd c)) (n:=n) fun j hj=>cP _ _;rw[<-e,bO]at h2;omega
theorem Pm.injh{m n:Nat}{T:Tb}(P:Pm m n T){i j:Nat}(hi:i < n)(hj:j < n)(e:T.hd i=T.hd j):i=j:=by
 refine Classical.byContradiction fun h=>?_;have h1:=P (ind (T.hd i));have a:=jo (k:=T.hd i) (N:=m+n);have h2:=gC (f:=fun j=>ind (T.hd i) (T.hd j)) (fun j hj=>cP _ _) hi hj h;have h3:=bL (f:=fun c=>ind (T.hd i) (T.sd c)) (n:=m) fun j hj=>cP _ _;rw[<-e,bO]at h2;omega
theorem Pm.disj{m n:Nat}{T:Tb}(P:Pm m n T){i c:Nat}(hi:i < m)(hc:c < n):T.sd i≠T.hd c:=by
 intro e;have h1:=P (ind (T.sd i));have b:=jo (k:=T.sd i) (N:=m+n);have h2:=cJ (f:=fun j=>ind (T.sd i) (T.sd j)) (fun j a=>cP _ _) hi;have h3:=cJ (f:=fun c=>ind (T.sd i) (T.hd c)) (fun j a=>cP _ _) hc;rw[bO]at h2;rw[<-e,bO]at h3;omega
theorem Pm.cov{m n:Nat}{T:Tb}(P:Pm m n T){k:Nat}(hk:k < m+n):(∃i,i < m/\T.sd i=k)\/∃c,c < n/\T.hd c=k:=by
 refine Classical.byContradiction fun h=>?_;have h1:=P (ind k);rw[sumN_one hk fun i hi hne=>dN hne,bO,sumN_zero fun i hi=>dN fun e=>h (.inl ⟨i,hi,e⟩),sumN_zero fun i hi=>dN fun e=>h (.inr ⟨i,hi,e⟩)]at h1;omega
theorem Pm.piv{m n:Nat}{T:Tb}(P:Pm m n T){r q:Nat}(hr:r < m)(hq:q < n):Pm m n (piv T r q):=by
 intro f
 have e1:(fun i=>f ((Wg.piv T r q).sd i))=fun i=>if i=r then f (T.hd q)else f (T.sd i):=by
  funext i;show f (if i=r then _ else _)=_;split<;>rfl
 have a:(fun c=>f ((Wg.piv T r q).hd c))=fun c=>if c=q then f (T.sd r)else f (T.hd c):=by
  funext c;show f (if c=q then _ else _)=_;split<;>rfl
 rw[e1,a,eN (f:=fun i=>f (T.sd i)) hr,eN (f:=fun i=>f (T.hd i)) hq,<-P f];omega
noncomputable def val(n:Nat)(M:Int)(T:Tb)(i:Nat):Int:=M*T.ln i n+T.ln i (n+1)
noncomputable def pt(m n:Nat)(M:Int)(T:Tb)(k:Nat):Int:=sumN m fun i=>if T.sd i=k then val n M T i else 0
theorem nJ{m n:Nat}{M:Int}{T:Tb}(P:Pm m n T){i:Nat}(hi:i < m):pt m n M T (T.sd i)=val n M T i:=by
 unfold pt;rw[sumN_one hi fun j a hne=>if_neg fun e=>hne (P.inj a hi e),if_pos rfl]
theorem nK{m n:Nat}{M:Int}{T:Tb}(P:Pm m n T){c:Nat}(hc:c < n):pt m n M T (T.hd c)=0:=by
 unfold pt;exact sumN_zero fun j a=>if_neg (P.disj a hc)
theorem rM{m n:Nat}{V R:Nat->Vec}{M:Int}{T T':Tb}(I:Inv m n V R T)(P:Pm m n T)(I':Inv m n V R T')(P':Pm m n T'){i:Nat}(hi:i < m):
 T'.bot*pt m n M T (T'.sd i)=(sumN n fun c=>T'.ln i c*pt m n M T (T'.hd c))+T.bot*val n M T' i:=by
 rw[I'.row (pt m n M T) (T.bot*M) T.bot (fun t ht=>?_) hi]
 . unfold val;grind
 . rw[P' fun k=>pt m n M T k*V k t,<-P fun k=>pt m n M T k*V k t]
   have e1:∀i,i < m->pt m n M T (T.sd i)*V (T.sd i) t=M*(T.ln i n*V (T.sd i) t)+T.ln i (n+1)*V (T.sd i) t:=by
    intro i hi;rw[nJ P hi];unfold val;grind
   rw[sumN_congr e1,sumN_add,sumN_mul,sumN_zero (n:=n) (fun c hc=>by rw[nK P hc,Av]),I.ln n t (by omega) ht,I.ln (n+1) t (by omega) ht]
   have a:T.W V R n n t=R n t:=if_neg (by omega)
   have b:T.W V R n (n+1) t=R (n+1) t:=if_neg (by omega)
   rw[a,b];grind
theorem qI{f:Nat->Int}{k:Nat}:∀ {n:Nat},(∀i,i < n->f i<=0)->k < n->sumN n f<=f k:=by
 intro n h hk;have:=cJ (f:=fun i=> -1*f i) (k:=k) (n:=n) (fun i hi=>by have:=h i hi;omega) hk
 rw[sumN_mul]at this;omega
structure Stp (m n:Nat) (M:Int) (T:Tb) (r q:Nat):Prop where
 hr:r < m
 hq:q < n
 sl:T.sd r < m
 neg:val n M T r < 0
 least:∀i,i < m->T.sd i < m->val n M T i < 0->T.sd r<=T.sd i
 pos:0 < T.ln r q
 head:∀c,c < n->0 < T.ln r c->T.hd q<=T.hd c
def side(m:Nat)(T:Tb)(k:Nat):Prop:=∃i,i < m/\T.sd i=k
theorem rD{m n:Nat}{T:Tb}(P:Pm m n T){r q:Nat}(hr:r < m)(hq:q < n){k:Nat}:side m (piv T r q) k↔(k=T.hd q\/(side m T k/\k≠T.sd r)):=by
 constructor
 . rintro⟨i,hi,e⟩;have e':(if i=r then T.hd q else T.sd i)=k:=e;by_cases h:i=r
   . rw[if_pos h]at e';exact .inl e'.symm
   . rw[if_neg h]at e';refine .inr ⟨⟨i,hi,e'⟩,fun z=>h (P.inj hi hr (e'.trans z))⟩
 . rintro(e|⟨⟨i,hi,e⟩,hne⟩)
   . exact⟨r,hr,(if_pos rfl).trans e.symm⟩
   . exact⟨i,hi,(if_neg fun z=>hne (by rw[<-e,z])).trans e⟩
theorem zh{m n:Nat}{V R:Nat->Vec}{M:Int}{T T':Tb}(I:Inv m n V R T)(P:Pm m n T)(I':Inv m n V R T')(P':Pm m n T'){r q r' q':Nat}(S:Stp m n M T r q)(S':Stp m n M T' r' q')(e:T.sd r=T'.hd q')(ha:T'.sd r' < T.sd r)(hb:∀c,c < n->c≠q'->T'.hd c < T.sd r\/¬side m T (T'.hd c)):False:=by
 have f:∀k,k < T.sd r->0<=pt m n M T k:=by
  intro k hk;have a:k < m+n:=by have:=P.sd_lt S.hr;omega
  rcases P.cov a with⟨i,hi,e⟩|⟨c,hc,e⟩
  . rw[<-e,nJ P hi];refine Classical.byContradiction fun h=>?_;have:=S.least i hi (by have:=S.sl;omega) (by omega)
    omega
  . rw[<-e,nK P hc];exact Int.le_refl _
 have h:=rM (M:=M) I P I' P' S'.hr;have h1:0<=T'.bot*pt m n M T (T'.sd r'):=Int.mul_nonneg (by have:=I'.pos;omega) (f _ ha)
 have h2:T.bot*val n M T' r' < 0:=Int.mul_neg_of_pos_of_neg I.pos S'.neg
 have h3:∀c,c < n->T'.ln r' c*pt m n M T (T'.hd c)<=0:=by
  intro c hc;by_cases b:c=q'
  . subst b;rw[<-e,nJ P S.hr];exact Int.le_of_lt (Int.mul_neg_of_pos_of_neg S'.pos S.neg)
  . rcases hb c hc b with hl|hs
    . have hn:T'.ln r' c<=0:=by
       refine Classical.byContradiction fun z=>?_;have:=S'.head c hc (by omega)
       omega
      exact Int.mul_nonpos_of_nonpos_of_nonneg hn (f _ hl)
    . have:pt m n M T (T'.hd c)=0:=by
       rcases P.cov (P'.hd_lt hc)with h|⟨d,hd,e⟩
       . exact absurd h hs
       . rw[<-e,nK P hd]
      rw[this,Az];exact Int.le_refl _
 have g:=qI h3 S'.hq;have j:=h3 q' S'.hq;omega
theorem kP{P:Nat->Prop}{a:Nat}(ha:P a):∀N:Nat,(∀k,P k->k < N)->∃g,P g/\∀k,P k->k<=g
 |0,h=>absurd (h a ha) (by omega)
 |N+1,h=>by
  by_cases z:P N
  . exact⟨N,z,fun k hk=>by have:=h k hk;omega⟩
  . refine kP ha N fun k hk=>?_;have:=h k hk;have:k≠N:=fun e=>z (e▸hk);omega
structure Rn (m n:Nat) (V R:Nat->Vec) (M:Int) (T:Nat->Tb) (r q:Nat->Nat) (J:Nat):Prop where
 inv:Inv m n V R (T 0)
 pm:Pm m n (T 0)
 st:∀j,j < J->Stp m n M (T j) (r j) (q j)
 nx:∀j,j < J->T (j+1)=piv (T j) (r j) (q j)
section
variable{m n:Nat}{V R:Nat->Vec}{M:Int}{T:Nat->Tb}{r q:Nat->Nat}{J:Nat}
theorem Rn.all(H:Rn m n V R M T r q J):∀j,j<=J->Inv m n V R (T j)/\Pm m n (T j)
 |0,_=>⟨H.inv,H.pm⟩
 |j+1,h=>by
  have⟨I,P⟩:=H.all j (by omega)
  have S:=H.st j (by omega)
  rw[H.nx j (by omega)]
  exact⟨piv_inv I S.hr S.hq (by have:=S.pos;omega),P.piv S.hr S.hq⟩
theorem Rn.side(H:Rn m n V R M T r q J){j k:Nat}(h:j < J):side m (T (j+1)) k↔(k=(T j).hd (q j)\/(side m (T j) k/\k≠(T j).sd (r j))):=by
 have S:=H.st j h;rw[H.nx j h];exact rD (H.all j (by omega)).2 S.hr S.hq
theorem Rn.leaves(H:Rn m n V R M T r q J){k a:Nat}(ha:Wg.side m (T a) k):∀d,a+d<=J->¬Wg.side m (T (a+d)) k->∃j,j < J/\(T j).sd (r j)=k
 |0,_,h=>absurd ha h
 |d+1,hd,h=>by
  by_cases z:Wg.side m (T (a+d)) k
  . refine⟨a+d,by omega,?_⟩
    refine Classical.byContradiction fun hne=>h ?_;exact(H.side (j:=a+d) (by omega)).2 (.inr ⟨z,fun e=>hne e.symm⟩)
  . exact H.leaves ha d (by omega) z
theorem Rn.enters(H:Rn m n V R M T r q J){k a:Nat}(ha:¬Wg.side m (T a) k):∀d,a+d<=J->Wg.side m (T (a+d)) k->∃j,j < J/\(T j).hd (q j)=k
 |0,_,h=>absurd h ha
 |d+1,hd,h=>by
  by_cases z:Wg.side m (T (a+d)) k
  . exact H.enters ha d (by omega) z
  . rcases(H.side (j:=a+d) (by omega)).1 h with e|⟨b,_⟩
    . exact⟨a+d,by omega,e.symm⟩
    . exact absurd b z
theorem Rn.const(H:Rn m n V R M T r q J){k:Nat}(hk:¬∃j,j < J/\((T j).sd (r j)=k\/(T j).hd (q j)=k)):∀j,j<=J->(Wg.side m (T j) k↔Wg.side m (T 0) k)
 |0,_=>Iff.rfl
 |j+1,h=>by
  rw[<-H.const hk j (by omega),H.side (j:=j) (by omega)]
  constructor
  . rintro(e|⟨z,_⟩)
    . exact absurd ⟨j,by omega, .inr e.symm⟩ hk
    . exact z
  . exact fun z=> .inr ⟨z,fun e=>hk ⟨j,by omega, .inl e.symm⟩⟩
theorem Rn.no_circle(H:Rn m n V R M T r q J)(hJ:0 < J)(same:∀k,Wg.side m (T 0) k↔Wg.side m (T J) k):False:=by
 have lv:∀j,j < J->Wg.side m (T j) ((T j).sd (r j)):=fun j h=>⟨r j,(H.st j h).hr,rfl⟩;have en:∀j,j < J->¬Wg.side m (T j) ((T j).hd (q j)):=fun j h ⟨i,hi,e⟩=>(H.all j (by omega)).2.disj hi (H.st j h).hq e
 have ne:∀j,j < J->(T j).sd (r j)≠(T j).hd (q j):=fun j h=>(H.all j (by omega)).2.disj (H.st j h).hr (H.st j h).hq
 refine hZq fun q_ e_=>?_
 obtain⟨g,x,p⟩:=kP (P:=fun k=>∃j,j < J/\((T j).sd (r j)=k\/(T j).hd (q j)=k)) ⟨0,hJ, .inl rfl⟩ (m+n) (by
  rintro k ⟨j,b,e|e⟩
  . rw[<-e];exact(H.all j (by omega)).2.sd_lt (H.st j b).hr
  . rw[<-e];exact(H.all j (by omega)).2.hd_lt (H.st j b).hq)
 have o:(∃j,j < J/\(T j).sd (r j)=g)/\∃j,j < J/\(T j).hd (q j)=g:=by
  obtain⟨j,b,e|e⟩:=x
  . refine⟨⟨j,b,e⟩,?_⟩;have s1:Wg.side m (T j) g:=e▸lv j b
    have u:¬Wg.side m (T (j+1)) g:=by
     rw[H.side b];rintro(z|⟨_,z⟩)
     . exact ne j b (e.trans z)
     . exact z e.symm
    by_cases z:Wg.side m (T 0) g
    . have:=(same g).1 z;obtain⟨d,rfl⟩:∃d,J=j+1+d:=⟨J - j - 1,by omega⟩
      exact H.enters u d (zu _) this
    . exact H.enters (a:=0) z j (by omega) (by rw[Nat.zero_add];exact s1)
  . refine⟨?_,⟨j,b,e⟩⟩;have s1:¬Wg.side m (T j) g:=e▸en j b;have u:Wg.side m (T (j+1)) g:=(H.side b).2 (.inl e.symm);by_cases z:Wg.side m (T 0) g
    . exact H.leaves (a:=0) z j (by omega) (by rw[Nat.zero_add];exact s1)
    . have:¬Wg.side m (T J) g:=fun y=>z ((same g).2 y);obtain⟨d,rfl⟩:∃d,J=j+1+d:=⟨J - j - 1,by omega⟩
      exact H.leaves u d (zu _) this
 obtain⟨⟨t,h1,e1⟩,⟨l,h2,v⟩⟩:=o;subst e_;have w:=H.all t (by omega)
 have s:=H.all l (by omega)
 refine zh w.1 w.2 s.1 s.2 (H.st t h1) (H.st l h2) (e1.trans v.symm) ?_ ?_
 . have:=p _ ⟨l,h2, .inl rfl⟩;have:=ne l h2;omega
 . intro c hc hne;have au:(T l).hd c≠g:=fun e=>hne (s.2.injh hc (H.st l h2).hq (e.trans v.symm));by_cases f:∃j,j < J/\((T j).sd (r j)=(T l).hd c\/(T j).hd (q j)=(T l).hd c)
   . have:=p _ f;exact .inl (by omega)
   . refine .inr fun z=>?_;have:=(H.const f l (by omega)).2 ((H.const f t (by omega)).1 z)
     obtain⟨i,hi,e⟩:=this;exact s.2.disj hi hc e
end
theorem wj:∀(K J:Nat) (f:Nat->Nat),(∀i,i<=J->f i < K)->(∀i j,i<=J->j<=J->f i=f j->i=j)->J < K
 |0,J,f,h,_=>absurd (h 0 (by omega)) (by omega)
 |K+1,0,f,_,_=>by omega
 |K+1,J+1,f,h,inj=>by
  have:=wj K J (fun i=>if f i=K then f (J+1)else f i) (fun i hi=>by
   by_cases e:f i=K
   . have h1:=h (J+1) (by omega)
     have h2:f (J+1)≠K:=fun z=>by have:=inj i (J+1) (by omega) (by omega) (e.trans z.symm);omega
     simp only[e,if_true];omega
   . have:=h i (by omega)
     simp only[e,if_false]
     omega) (fun i j hi c e=>by
   by_cases a:f i=K
   . by_cases b:f j=K
     . exact inj i j (by omega) (by omega) (a.trans b.symm)
     . simp only[a,b,if_true,if_false]at e;have:=inj _ _ (by omega) (by omega) e
       omega
   . by_cases b:f j=K
     . simp only[a,b,if_true,if_false]at e;have:=inj _ _ (by omega) (by omega) e
       omega
     . simp only[a,b,if_false]at e
       exact inj _ _ (by omega) (by omega) e)
  omega
open Classical in
noncomputable def code(S:Nat->Prop):Nat->Nat
 |0=>0
 |k+1=>2*code S k+if S k then 1 else 0
theorem oz(S:Nat->Prop):∀N,code S N < 2^N
 |0=>by rw[code];decide
 |N+1=>by
  have:=oz S N;rw[code,Nat.pow_succ];split<;>omega
theorem ij{S S':Nat->Prop}:∀N,code S N=code S' N->∀k,k < N->(S k↔S' k)
 |0,_,k,hk=>by omega
 |N+1,h,k,hk=>by
  rw[code,code]at h;by_cases a:S N
  . by_cases b:S' N
    . rw[if_pos a,if_pos b]at h;by_cases e:k=N
      . subst e;exact⟨fun _=>b,fun _=>a⟩
      . exact ij N (by omega) k (by omega)
    . rw[if_pos a,if_neg b]at h;omega
  . by_cases b:S' N
    . rw[if_neg a,if_pos b]at h;omega
    . rw[if_neg a,if_neg b]at h;by_cases e:k=N
      . subst e;exact⟨fun z=>absurd z a,fun z=>absurd z b⟩
      . exact ij N (by omega) k (by omega)
section
variable{m n:Nat}{V R:Nat->Vec}{M:Int}{T:Nat->Tb}{r q:Nat->Nat}{J:Nat}
theorem Rn.part(H:Rn m n V R M T r q J){i d:Nat}(h:i+d<=J):Rn m n V R M (fun k=>T (i+k)) (fun k=>r (i+k)) (fun k=>q (i+k)) d:=
 ⟨(H.all i (by omega)).1,(H.all i (by omega)).2,fun j a=>H.st (i+j) (by omega),fun j a=>H.nx (i+j) (by omega)⟩
theorem Rn.no_twice(H:Rn m n V R M T r q J){i j:Nat}(hij:i < j)(hj:j<=J)(e:code (Wg.side m (T i)) (m+n)=code (Wg.side m (T j)) (m+n)):False:=by
 obtain⟨d,rfl⟩:∃d,j=i+d:=⟨j - i,by omega⟩
 refine(H.part hj).no_circle (by omega) fun k=>?_
 show Wg.side m (T i) k↔Wg.side m (T (i+d)) k;by_cases hk:k < m+n
 . exact ij (m+n) e k hk
 . constructor
   . rintro⟨a,ha,z⟩;have:=(H.all i (by omega)).2.sd_lt ha
     omega
   . rintro⟨a,ha,z⟩;have:=(H.all (i+d) hj).2.sd_lt ha;omega
theorem Rn.few(H:Rn m n V R M T r q J):J < 2^(m+n):=by
 refine wj (2^(m+n)) J (fun i=>code (Wg.side m (T i)) (m+n)) (fun i hi=>oz _ _) fun i j hi a e=>?_;rcases Nat.lt_trichotomy i j with h|h|h
 . exact(H.no_twice h a e).elim
 . exact h
 . exact(H.no_twice h hi e.symm).elim
end
def Stl(m n k:Nat)(T:Tb):Prop:=∀c,c < k->c < n->m<=T.hd c->∀i,i < m->T.sd i < m->T.ln i c=0
theorem Stl.piv{m n k:Nat}{V R:Nat->Vec}{T:Tb}(I:Inv m n V R T)(h:Stl m n k T){r q:Nat}(hr:r < m)(hq:q < n)(hs:T.sd r < m)(hp:T.ln r q≠0):Stl m n k (piv T r q):=by
 intro c hc hn hh i hi d;have a:m<=if c=q then T.sd r else T.hd c:=hh;have b:(if i=r then T.hd q else T.sd i) < m:=d;have e:c≠q:=fun e=>by rw[if_pos e]at a;omega
 rw[if_neg e]at a;show(if i=r then(if c=q then _ else _)else if c=q then _ else T.num r q i c / T.bot)=0;rw[if_neg e,if_neg e];have z:=h c hc hn a r hr hs;by_cases ei:i=r
 . rw[if_pos ei,z,Az]
 . rw[if_neg ei]at b ⊢;have f:=h c hc hn a i hi b;unfold Tb.num;rw[z,f];simp
theorem kY:∀(m:Nat) (B:Nat->Vec),(∀k c,k < m->c < m->B k c=if k=c then 1 else 0)->det m B=1
 |0,_,_=>rfl
 |m+1,B,h=>by
  rw[det,sumN_one (k:=0) (by omega)]
  . rw[h 0 0 (by omega) (by omega),if_pos rfl,kY m (skip 0 B)]
    . rfl
    . intro k c hk hc;unfold skip;rw[if_neg (by omega),h (k+1) (c+1) (by omega) (by omega)]
      by_cases e:k=c
      . rw[if_pos e,if_pos (by omega)]
      . rw[if_neg e,if_neg (by omega)]
  . intro j a hne;rw[h j 0 a (by omega),if_neg hne,Az,Av]
theorem eO{f:Nat->Int}{m:Nat}:∀n:Nat,sumN m f+(sumN n fun c=>f (m+c))=sumN (m+n) f
 |0=>by
  show sumN m f+0=sumN m f;omega
 |n+1=>by
  show sumN m f+((sumN n fun c=>f (m+c))+f (m+n))=sumN (m+n) f+f (m+n);rw[<-eO n];omega
def tb0(m:Nat)(L:Nat->Nat->Int):Tb:=⟨1,L,fun i=>i,fun c=>m+c⟩
noncomputable def V0(m:Nat)(L:Nat->Nat->Int):Nat->Vec:=fun k t=>if k < m then(if k=t then 1 else 0)else -L t (k - m)
def R0(L:Nat->Nat->Int):Nat->Vec:=fun c t=>L t c
theorem inv0{m n:Nat}{L:Nat->Nat->Int}:Inv m n (V0 m L) (R0 L) (tb0 m L):=by
 refine⟨(by decide:(0:Int) < 1),?_,?_⟩
 . rw[kY m _ fun k c hk hc=>by
    show(if k < m then(if k=c then(1:Int)else 0)else _)=_
    rw[if_pos hk]]
   rfl
 . intro c t hc ht
   rw[sumN_one (k:=t) ht fun i hi hne=>by
    show L i c*(if i < m then(if i=t then(1:Int)else 0)else _)=0
    rw[if_pos hi,if_neg hne,Az]]
   show L t c*(if t < m then(if t=t then(1:Int)else 0)else _)=1*(if c < n then -(if m+c < m then(if m+c=t then(1:Int)else 0)else -L t (m+c - m))else L t c);rw[if_pos ht,if_pos rfl,if_neg (by omega:¬m+c < m),Nat.add_sub_cancel_left]
   split<;>omega
theorem pm0{m n:Nat}{L:Nat->Nat->Int}:Pm m n (tb0 m L):=fun f=>eO n
theorem lex_neg{u v M:Int}(h:v.natAbs < M.natAbs)(hM:0 < M):(u < 0\/(u=0/\v < 0))↔M*u+v < 0:=by
 constructor
 . rintro(z|⟨z,y⟩)
   . have:M*u<=M* -1:=Int.mul_le_mul_of_nonneg_left (by omega) (by omega)
     omega
   . rw[z];omega
 . intro z;rcases Int.lt_trichotomy u 0 with y|y|y
   . exact .inl y
   . subst y;exact .inr ⟨rfl,by omega⟩
   . have:M*1<=M*u:=Int.mul_le_mul_of_nonneg_left (by omega) (by omega)
     omega
noncomputable def sol(m n:Nat)(L:Nat->Nat->Int)(y:Nat->Int)(b e:Int):Nat->Int:=
 fun k=>if k < m then(sumN n fun c=>L k c*y c)+b*L k n+e*L k (n+1)else y (k - m)
theorem uN{m n:Nat}{L:Nat->Nat->Int}{T:Tb}(I:Inv m n (V0 m L) (R0 L) T)(P:Pm m n T)(y:Nat->Int)(b e:Int){i:Nat}(hi:i < m):
 T.bot*sol m n L y b e (T.sd i)=(sumN n fun c=>T.ln i c*sol m n L y b e (T.hd c))+b*T.ln i n+e*T.ln i (n+1):=by
 refine I.row (sol m n L y b e) b e (fun t ht=>?_) hi
 rw[P fun k=>sol m n L y b e k*V0 m L k t,<-eO n,sumN_one (k:=t) ht fun k hk hne=>by
  show _*(if k < m then(if k=t then(1:Int)else 0)else _)=0
  rw[if_pos hk,if_neg hne,Az]]
 have e1:∀c,c < n->sol m n L y b e (m+c)*V0 m L (m+c) t= -1*(L t c*y c):=by
  intro c hc;show(if m+c < m then _ else y (m+c - m))*(if m+c < m then _ else -L t (m+c - m))=_;rw[if_neg (by omega),if_neg (by omega),Nat.add_sub_cancel_left]
  grind
 rw[sumN_congr e1,sumN_mul];show(if t < m then _ else _)*(if t < m then(if t=t then(1:Int)else 0)else _)+_=b*L t n+e*L t (n+1);rw[if_pos ht,if_pos ht,if_pos rfl];omega
noncomputable def wt(n:Nat)(T:Tb)(i k:Nat):Int:=(if k=T.sd i then T.bot else 0)+sumN n fun c=>if k=T.hd c then -T.ln i c else 0
section
variable{m n:Nat}{L:Nat->Nat->Int}{T:Tb}
theorem iJ{N j:Nat}{a:Int}{s:Nat->Int}(h:j < N):(sumN N fun k=>(if k=j then a else 0)*s k)=a*s j:=by
 rw[sumN_one (k:=j) h fun k hk hne=>by rw[if_neg hne,Av],if_pos rfl]
theorem wt_sum(P:Pm m n T)(S:Stl m n n T){i:Nat}(hi:i < m)(hs:T.sd i < m)(s:Nat->Int):
 (sumN m fun k=>wt n T i k*s k)=T.bot*s (T.sd i)+sumN n fun c=> -T.ln i c*s (T.hd c):=by
 have e1:∀k,k < m->wt n T i k*s k=(if k=T.sd i then T.bot else 0)*s k+sumN n fun c=>(if k=T.hd c then -T.ln i c else 0)*s k:=by
  intro k hk;unfold wt;rw[Int.add_mul,sumN_mulr]
 rw[sumN_congr e1,sumN_add,iJ hs,ff];congr 1;refine sumN_congr fun c hc=>?_;by_cases h:T.hd c < m
 . exact iJ h
 . rw[S c hc hc (by omega) i hi hs,sumN_zero fun k hk=>by rw[if_neg (by omega),Av]]
   rw[Int.neg_zero,Av]
theorem jc(I:Inv m n (V0 m L) (R0 L) T)(P:Pm m n T)(S:Stl m n n T){i:Nat}(hi:i < m)(hs:T.sd i < m)(y:Nat->Int)(b e:Int):
 (sumN m fun k=>wt n T i k*sol m n L y b e k)=b*T.ln i n+e*T.ln i (n+1):=by
 rw[wt_sum P S hi hs,uN I P y b e hi]
 have:(sumN n fun c=> -T.ln i c*sol m n L y b e (T.hd c))= -1*sumN n fun c=>T.ln i c*sol m n L y b e (T.hd c):=by
  rw[<-sumN_mul];exact sumN_congr fun c hc=>by grind
 rw[this];omega
theorem wt_term(I:Inv m n (V0 m L) (R0 L) T)(P:Pm m n T)(S:Stl m n n T){i:Nat}(hi:i < m)(hs:T.sd i < m){c:Nat}(hc:c < n):(sumN m fun k=>wt n T i k*L k c)=0:=by
 have h:=jc I P S hi hs (ind c) 0 0;rw[Av,Av]at h;rw[<-h.trans (by omega:(0:Int)+0=0)]
 refine sumN_congr fun k hk=>?_;show _=_*(if k < m then _ else _);rw[if_pos hk,sumN_one (k:=c) hc fun d hd hne=>by rw[dN hne,Az],bO]
 grind
theorem wt_last(I:Inv m n (V0 m L) (R0 L) T)(P:Pm m n T)(S:Stl m n n T){i:Nat}(hi:i < m)(hs:T.sd i < m):(sumN m fun k=>wt n T i k*L k n)=T.ln i n/\(sumN m fun k=>wt n T i k*L k (n+1))=T.ln i (n+1):=by
 have z:∀k,(sumN n fun c=>L k c*(0:Int))=0:=fun k=>sumN_zero fun c hc=>Az _;constructor
 . have h:=jc I P S hi hs (fun _=>0) 1 0;rw[<-(h.trans (by omega:_=T.ln i n))]
   refine sumN_congr fun k hk=>?_;show _=_*(if k < m then _ else _);rw[if_pos hk,z];grind
 . have h:=jc I P S hi hs (fun _=>0) 0 1;rw[<-(h.trans (by omega:_=T.ln i (n+1)))]
   refine sumN_congr fun k hk=>?_;show _=_*(if k < m then _ else _);rw[if_pos hk,z];grind
theorem pt_meets(I:Inv m n (V0 m L) (R0 L) T)(P:Pm m n T){K:Int}(h:∀i,i < m->T.sd i < m->0<=val n K T i){k:Nat}(hk:k < m):
 0<=(sumN n fun c=>L k c*pt m n K T (m+c))+T.bot*(K*L k n+L k (n+1)):=by
 have r:=rM (M:=K) I P (inv0 (m:=m) (n:=n) (L:=L)) pm0 hk;have e:(1:Int)*pt m n K T k=(sumN n fun c=>L k c*pt m n K T (m+c))+T.bot*(K*L k n+L k (n+1)):=r;rw[<-e,Int.one_mul];rcases P.cov (k:=k) (by omega)with⟨i,hi,z⟩|⟨c,hc,z⟩
 . rw[<-z,nJ P hi];exact h i hi (by omega)
 . rw[<-z,nK P hc];exact Int.le_refl _
theorem parts_ok{u v K:Int}(h:0 < u)(hK:-(v / u)<=K):0<=K*u+v:=by
 have h1:=Int.mul_ediv_add_emod v u;have h2:=Int.emod_nonneg v (by omega:u≠0)
 have h3:0<=(K+v / u)*u:=Int.mul_nonneg (by omega) (by omega)
 rw[Int.add_mul,AV (v / u)]at h3;omega
end
def ls{α:Type}(n:Nat)(f:Nat->α):List α:=(List.range n).map f
theorem ls_len{α:Type}{n:Nat}{f:Nat->α}:(ls n f).length=n:=by unfold ls;rw[zm,Aj]
theorem ls_at{α:Type}{n i:Nat}{f:Nat->α}(h:i < n):(ls n f)[i]?=some (f i):=by
 unfold ls;rw[zr,List.getElem?_range h];rfl
theorem ls_congr{α:Type}{n:Nat}{f g:Nat->α}(h:∀i,i < n->f i=g i):ls n f=ls n g:=List.map_congr_left fun i hi=>h i (Af.1 hi)
theorem sZ{α β:Type}{n:Nat}{f:Nat->α}{g:α->β}:(ls n f).map g=ls n fun i=>g (f i):=by
 unfold ls;rw[At];rfl
theorem xJ{α β γ:Type}{n:Nat}{f:Nat->α}{g:Nat->β}{h:α->β->γ}:List.zipWith h (ls n f) (ls n g)=ls n fun i=>h (f i) (g i):=by
 unfold ls;rw[List.zipWith_map,List.zipWith_self]
theorem jK{α:Type}{n q:Nat}{f:Nat->α}{a:α}:(ls n f).set q a=ls n fun i=>if i=q then a else f i:=by
 refine List.ext_getElem? fun i=>?_;rw[List.getElem?_set,ls_len];by_cases hi:i < n
 . rw[ls_at hi,ls_at hi];by_cases e:q=i
   . subst e;rw[if_pos rfl,if_pos hi,if_pos rfl]
   . rw[if_neg e,if_neg fun z=>e z.symm]
 . have o:∀g:Nat->α,(ls n g)[i]?=none:=fun g=>AM (by rw[ls_len];omega)
   rw[o,o];by_cases e:q=i
   . subst e;rw[if_pos rfl,if_neg hi]
   . rw[if_neg e]
theorem turned0{n r q i:Nat}{T:Tb}(hi:i≠r)(h:sg (T.ln r q)*T.ln i q=0):((ls (n+2) (T.ln i)).map fun x=>x*((T.ln r q).natAbs:Int) / T.bot)=ls (n+2) ((piv T r q).ln i):=by
 rw[sZ];refine ls_congr fun c hc=>?_;show _=if i=r then _ else if c=q then _ else T.num r q i c / T.bot;rw[if_neg hi];by_cases e:c=q
 . subst e;rw[if_pos rfl,h]
   have hz:T.ln i c=0:=by
    have:=yC (T.ln r c);have h2:sg (T.ln r c)*(sg (T.ln r c)*T.ln i c)=0:=by rw[h,Az]
    rw[<-Int.mul_assoc,this,Int.one_mul]at h2;exact h2
   rw[hz,Av,Int.zero_ediv]
 . rw[if_neg e];unfold Tb.num;rw[h,Av,Int.sub_zero]
theorem turned1{n r q i:Nat}{T:Tb}(hi:i≠r):(List.zipWith (fun x y=>(x*((T.ln r q).natAbs:Int) - sg (T.ln r q)*T.ln i q*y) / T.bot) (ls (n+2) (T.ln i)) (ls (n+2) (T.ln r))).set q (sg (T.ln r q)*T.ln i q)=ls (n+2) ((piv T r q).ln i):=by
 rw[xJ,jK];refine ls_congr fun c hc=>?_;show _=if i=r then _ else if c=q then _ else T.num r q i c / T.bot;rw[if_neg hi];rfl
theorem turnedR{n r q:Nat}{T:Tb}:((ls (n+2) (T.ln r)).map fun x=> -sg (T.ln r q)*x).set q (sg (T.ln r q)*T.bot)=ls (n+2) ((piv T r q).ln r):=by
 rw[sZ,jK];refine ls_congr fun c hc=>?_;show _=if r=r then(if c=q then _ else _)else _;rw[if_pos rfl]
theorem piv_sides{m r q:Nat}{T:Tb}:(ls m T.sd).set r (T.hd q)=ls m (piv T r q).sd:=by
 rw[jK];rfl
theorem piv_heads{n r q:Nat}{T:Tb}:(ls n T.hd).set q (T.sd r)=ls n (piv T r q).hd:=by
 rw[jK];rfl
theorem Stl.next{m n k:Nat}{T:Tb}(h:Stl m n k T)(hk:∀i,i < m->T.sd i < m->T.ln i k=0):Stl m n (k+1) T:=by
 intro c hc hn hh i hi hs;by_cases e:c=k
 . subst e;exact hk i hi hs
 . exact h c (by omega) hn hh i hi hs
theorem Stl.turn{m n k:Nat}{V R:Nat->Vec}{T:Tb}(I:Inv m n V R T)(h:Stl m n k T){r:Nat}(hr:r < m)(hk:k < n)(hs:T.sd r < m)(hp:T.ln r k≠0):Stl m n (k+1) (Wg.piv T r k):=by
 intro c hc hn hh i hi a;by_cases e:c=k
 . subst e;have:m<=if c=c then T.sd r else T.hd c:=hh;rw[if_pos rfl]at this;omega
 . exact Stl.piv I h hr hk hs hp c (by omega) hn hh i hi a
end Wg
namespace K44
open PySem L2 Mth Tre Wd Su Tw Fm
theorem c7{X:Cx}{K:PySem.W.Frag}{e:Expr}{f:Str}{pos:Pos}{ta:TE}(hK:X.K=K)(he:PE X e ta)(hb:attributeBase e f X.env (eval e X.env)=eval e X.env):PE X (.Attribute e f pos) (tFld K ta f):=by
 subst hK;exact aN he hb
theorem cB{σ:L2.St}{H:Hp}{A B:Hp->Prop}(h:A H):cH σ H fun b H5=>if b=true then A H5 else B H5:=by
 show if true=true then A H else B H;rw[if_pos rfl];exact h
structure Tk (K:PySem.W.Frag) (C:Addr):Prop where
 cls:Cls K C
 nt:NoAttr K C "terms"
 ns:NoAttr K C "scales"
 nl:NoAttr K C "lines"
 nb:NoAttr K C "bottom"
 nd:NoAttr K C "sides"
 nh:NoAttr K C "heads"
structure TA where
 C:Addr
 a:Addr
 dx:Addr
 pt:Addr
 psc:Addr
 pss:Addr
 ph:Addr
noncomputable def flds(D:TA)(pl:Addr)(b:Int):List (Str×V):= [(Str.ofString "terms", .ref D.pt),(Str.ofString "scales", .ref D.psc),(Str.ofString "lines", .ref pl),(Str.ofString "bottom", .int b),(Str.ofString "sides", .ref D.pss),(Str.ofString "heads", .ref D.ph)]
def Rws(H:Hp)(D:TA)(ls:List V)(m:Nat)(f:Nat->List Int):Prop:=ls.length=m/\∀i,i < m->∃q,ls[i]?=some (.ref q)/\H q=some (.lst ((f i).map V.int))/\q≠D.pss/\q≠D.ph
structure Tab (D:TA) (m n:Nat) (scs:List Int) (us:List Tr) (ws:List V) (pl:Addr) (ls:List V) (T:Wg.Tb) (H:Hp):Prop where
 ob:H D.a=some (.ins D.C D.dx (flds D pl T.bot))
 tm:H D.pt=some (.lst ws)
 tt:TrsAt H ws us
 ul:us.length=n
 sc:H D.psc=some (.lst (scs.map V.int))
 sl:scs.length=m
 li:H pl=some (.lst ls)
 ro:Rws H D ls m fun i=>Wg.ls (n+2) (T.ln i)
 sd:H D.pss=some (.lst (nv (Wg.ls m T.sd)))
 hd:H D.ph=some (.lst (nv (Wg.ls n T.hd)))
 n1:D.pss≠D.pt
 n2:D.pss≠D.psc
 n3:D.pss≠D.ph
 n4:D.pss≠pl
 n5:D.ph≠D.pt
 n6:D.ph≠D.psc
 n7:D.ph≠pl
 m64:m<=64
 n64:n<=64
theorem Rws.keep{H H':Hp}{D:TA}{ls:List V}{m:Nat}{f:Nat->List Int}(k:∀q,q≠D.pss->q≠D.ph->∀xs,H q=some (.lst xs)->H' q=some (.lst xs))(h:Rws H D ls m f):Rws H' D ls m f:=by
 refine⟨h.1,fun i hi=>?_⟩;obtain⟨q,a,b,c,d⟩:=h.2 i hi;exact⟨q,a,k q c d _ b,c,d⟩
theorem Tab.same{D:TA}{m n:Nat}{scs:List Int}{us:List Tr}{ws:List V}{pl:Addr}{ls:List V}{T:Wg.Tb}{H H':Hp}(s:Same H H')(h:Tab D m n scs us ws pl ls T H):Tab D m n scs us ws pl ls T H':=
 ⟨s _ _ h.ob,s _ _ h.tm,h.tt.mono (Kd.of_same s),h.ul,s _ _ h.sc,h.sl,s _ _ h.li,h.ro.keep fun q _ _ xs e=>s _ _ e,s _ _ h.sd,s _ _ h.hd,h.n1,h.n2,h.n3,h.n4,h.n5,h.n6,h.n7,h.m64,h.n64⟩
theorem Tab.butT{T0:Addr}{ps:Array Value}{D:TA}{m n:Nat}{scs:List Int}{us:List Tr}{ws:List V}{pl:Addr}{ls:List V}{T:Wg.Tb}{H H':Hp}(hT:H T0=some (.tbl ps))(b:ButT T0 H H')(h:Tab D m n scs us ws pl ls T H):Tab D m n scs us ws pl ls T H':=by
 have k:∀ {a:Addr} {o:HO},H a=some o->(∀p,o≠ .tbl p)->H' a=some o:=fun{a o} e q=>b _ _ (fun z=>by rw[z,hT]at e;exact q _ (zN e).symm) e
 have c:∀ {a:Addr} {xs:List V},H a=some (.lst xs)->H' a=some (.lst xs):=fun e=>k e (by intro p z;cases z)
 have kd:Kd H H':=⟨fun a xs e=>k e (by intro p z;cases z),fun a xs e=>⟨xs,c e⟩⟩
 exact⟨k h.ob (by intro p z;cases z),c h.tm,h.tt.mono kd,h.ul,c h.sc,h.sl,c h.li,h.ro.keep fun q _ _ xs e=>c e,c h.sd,c h.hd,h.n1,h.n2,h.n3,h.n4,h.n5,h.n6,h.n7,h.m64,h.n64⟩
theorem iR{m i:Nat}{f:Nat->Nat}(h:i < m):(nv (Wg.ls m f))[i]?=some (.int (f i:Nat)):=by
 unfold nv;rw[zr,Wg.ls_at h];rfl
theorem bN{m:Nat}{f:Nat->Nat}:(nv (Wg.ls m f)).length=m:=by
 unfold nv;rw[zm,Wg.ls_len]
theorem fJ{n c:Nat}{f:Nat->Int}(h:c < n):((Wg.ls n f).map V.int)[c]?=some (.int (f c)):=by
 rw[zr,Wg.ls_at h];rfl
noncomputable def slk(m:Nat)(T:Wg.Tb):List Nat:=(List.range m).filter fun i=>decide (T.sd i < m)
theorem slk_mem{m:Nat}{T:Wg.Tb}{i:Nat}:i∈slk m T↔i < m/\T.sd i < m:=by
 unfold slk;rw[Ag,Af,decide_eq_true_iff]
section
variable{P:Program}{w:World}{K:PySem.W.Frag}{mg:Str->Option Value}{base:Heap}{T0:Addr}
def rA:Sp:=fun vs H Q _=>∃(D:TA) (m n:Nat) (scs:List Int) (us:List Tr) (ws:List V) (pl:Addr) (ls:List V) (T:Wg.Tb) (k:Int),vs= [.ref D.a, .int k]/\Tk K D.C/\Tab D m n scs us ws pl ls T H/\Q (.bl (decide (k < (m:Int)))) H
theorem yK:FnScope ["table","number"] ["table","number"] (ag sIsl):= .of
theorem xA{f:Addr}{fd:FuncData}(F:Fun K "is_slack" "is_slack" sIsl f fd)(B:Blt mg):FnOk P w K mg base CX0 1 f fd ["table","number"] (rA (K:=K)):=by
 refine F.okb yK fun vs H Q E h=>?_;refine hZq fun q_ e_=>?_;obtain⟨D,m,n,scs,us,ws,pl,ls,T,k,rfl,hk,b,q⟩:=h;subst e_;refine⟨rfl,fun c A outer s hr=>?_⟩;refine⟨_,af (ar (dY iQ (pv 1) (aA ax rfl B.le PySem.boot_len (a0 (aN (pv 0) rfl) a9)) (ay _))),?_⟩;refine⟨_,rfl,_,rfl,D.a,D.C,D.dx,_,_,rfl,b.ob,hk.cls,hk.ns,rfl,D.psc,_,rfl, .inl (SqL.of b.sc),k,_,rfl,rfl,?_⟩;rw[zm,b.sl];exact q
def ko:Sp:=fun vs H Q _=>∃(D:TA) (m n:Nat) (scs:List Int) (us:List Tr) (ws:List V) (pl:Addr) (ls:List V) (T:Wg.Tb),vs= [.ref D.a]/\Tk K D.C/\Tab D m n scs us ws pl ls T H/\∀l H',H l=none->Same H H'->H' l=some (.lst (nv (slk m T)))->Q (.ref l) H'
theorem yG:FnScope ["table"] ["table"] (ag sSll):= .of
theorem xj{f:Addr}{fd:FuncData}(F:Fun K "slack_lines" "slack_lines" sSll f fd)(B:Blt mg)(zI:Cl P w K mg base 1 "is_slack" ["table","number"] (rA (K:=K))):
 FnOk P w K mg base CX0 2 f fd ["table"] (ko (K:=K)):=by
 refine F.okb yG fun vs H Q E h=>?_;refine hZq fun q_ e_=>?_;obtain⟨D,m,n,scs,us,ws,pl,ls,T,rfl,hk,e,q⟩:=h;subst e_;refine⟨rfl,fun v A outer s hr=>?_⟩;have c:(["at","side","table"]:List Str).Nodup:=by decide +kernel
 refine⟨_,af (ar (aO (NC:= ["at","side","table"]) (mp:= [none,none,some 0]) (g:=gTup K 2 (aV (aH 0) (aV (aH 1) gNil))) rfl (va rfl B.en (a0 (aN (pv 0) rfl) a9)) (fun _ _ _ _ _=>aS (n:=2) rfl (ai (pgA 0 c) (ai (pgA 1 c) aL)))
  (fun _ _ _ _ _=>cy (cO (aj zI hr (a0 (pv 2) (a0 (pv 1) a9))))) (fun _ _ _ _ _=>pv 0))),?_⟩
 have r:(20000:Nat)<=sizeLine:=by decide +kernel
 have m64:=e.m64;refine mN (a:=D.pss) (xs:=nv (Wg.ls m T.sd)) (fun Q q=>⟨_,rfl,D.a,D.C,D.dx,_,_,rfl,e.ob,hk.cls,hk.nd,rfl,q⟩) (SqL.of e.sd) fun L l=>?_;refine⟨fun j acc H'=>Same H H'/\H' L=some (.lst acc)/\acc=nv ((List.range j).filter fun i=>decide (T.sd i < m)),⟨aa l,a8,rfl⟩,fun j acc H' p=>SqL.of (p.1 _ _ e.sd),?_,?_⟩
 . rintro i u x acc H' hi _ ⟨k,d,rfl⟩ ex t;rw[bN]at hi;rw[iR hi]at ex;cases ex;have b:=aa (o:= .tup [.int i, .int (T.sd i:Nat)]) t;refine⟨u,_,rfl,SqT.of a8,rfl,_,_,rfl,_,_,rfl,rfl,ext2,?_⟩;refine⟨_,rfl,_,rfl,D,m,n,scs,us,ws,pl,ls,T,_,rfl,hk,e.same (k.trans b),_,rfl,?_⟩
   have al:(nv ((List.range i).filter fun i=>decide (T.sd i < m))).length<=i:=by
    unfold nv;rw[zm];exact zK (Aa _ _) (by rw[Aj];exact zu _)
   by_cases z:T.sd i < m
   . rw[decide_eq_true (show((T.sd i:Nat):Int) < (m:Int)by omega)]
     refine iteT ?_;refine⟨_,rfl,CompN.mk (by rw[bN];exact hi) (by omega) (b _ _ d) ⟨aD l (k.trans b),a8,?_⟩⟩
     rw[As,Ai];simp[nv,z]
   . rw[decide_eq_false (show¬((T.sd i:Nat):Int) < (m:Int)by omega)]
     refine iteF ?_;refine CompS.mk (by rw[bN];exact hi) ⟨k.trans b,b _ _ d,?_⟩
     rw[As,Ai];simp[nv,z]
 . rintro acc H2 ⟨k,d,rfl⟩;rw[bN]at d;exact q L H2 l k d
noncomputable def tdF(xs ys:List Int)(q:Nat)(b0 B p r:Int):List Int:=
 if Wg.sg p*r=0 then xs.map fun x=>x*B / b0 else(List.zipWith (fun x y=>(x*B - Wg.sg p*r*y) / b0) xs ys).set q (Wg.sg p*r)
def qQ:Sp:=fun vs H Q _=>∃(a C dx qo ql:Addr) (fs:List (Str×V)) (q:Nat) (b0 B p r:Int) (xs ys:List Int),vs= [.ref a, .ref qo, .ref ql, .int (q:Int), .int b0]/\Tk K C/\H a=some (.ins C dx fs)/\fs.lookup (Str.ofString "bottom")=some (.int B)/\
 H qo=some (.lst (xs.map V.int))/\H ql=some (.lst (ys.map V.int))/\xs.length=ys.length/\xs.length<=1000/\ys[q]?=some p/\xs[q]?=some r/\0 < b0/\Big b0/\Big B/\(∀x∈xs,Big x)/\(∀y∈ys,Big y)/\
 ∀l H',H l=none->Same H H'->H' l=some (.lst ((tdF xs ys q b0 B p r).map V.int))->Q (.ref l) H'
theorem scTud:FnScope ["table","other","line","column","bottom","many","told"] ["table","other","line","column","bottom"] (ag sTud):= .of
theorem xa{f:Addr}{fd:FuncData}(F:Fun K "turned" "turned" sTud f fd)(B:Blt mg):FnOk P w K mg base CX0 1 f fd ["table","other","line","column","bottom"] (qQ (K:=K)):=by
 refine F.okb scTud fun vs H Q E h=>?_;refine hZq fun q_ e_=>?_;obtain⟨a,C,dx,qo,ql,fs,q,b0,u,p,r,xs,ys,rfl,hC,ha,aT,ho,hl,a6,a7,hp,v,a1,aC,bB,bx,by_,k⟩:=h;subst e_;refine⟨rfl,fun bg A outer s hr=>?_⟩;have a4:(["number","table","bottom"]:List Str).Nodup:=by decide +kernel
 have a3:(["number","beside","table","bottom","many"]:List Str).Nodup:=by decide +kernel
 refine⟨_,ad (psR 5 scTud.nd (dG (aw dc (ak ao (pv 2) (pv 3) fun _ _=>rfl) ac (ay _)) (ak ao (pv 1) (pv 3) fun _ _=>rfl) (c9 bu (ak ao (pv 1) (pv 3) fun _ _=>rfl))))
  (ad (bh (aw dy (pv 5) ac (ay _))
   (af (ar (aO (NC:= ["number","table","bottom"]) (mp:= [none,some 0,some 4]) rfl (aJ (pv 1)) (fun _ _ _ _ _=>pgA 0 a4) (fun _ _ _ _ _=>aR)
    (fun _ _ _ _ _=>am cD (am aU (pv 0) (c7 (K:=K) rfl (pv 1) rfl)) (pv 2))))) aI)
  (ad (eV (i:=6) (NC:= ["number","beside","table","bottom","many"]) (mp:= [none,none,some 0,some 4,some 5]) (g:=gTup K 2 (aV (aH 0) (aV (aH 1) gNil))) rfl scTud.nd rfl rfl rfl (jE (k:= .lst) rfl B.zi (a0 (pv 1) (a0 (pv 2) a9)))
   (fun _ _ _ _ _=>aS (n:=2) rfl (ai (pgA 0 a3) (ai (pgA 1 a3) aL))) (fun _ _ _ _ _=>aR)
   (fun _ _ _ _ _=>am cD (am dL (am aU (pv 0) (c7 (K:=K) rfl (pv 2) rfl)) (am aU (pv 4) (pv 1))) (pv 3)))
  (ad (fj (pv 5) (gU (pv 6) (pv 3) dC))
  (af (ar (pv 6)))))),?_⟩
 have a5:(20000:Nat)<=sizeLine:=by decide +kernel
 have ep:atI (ys.map V.int) (q:Int)=some (.int p):=aB (by rw[zr,hp];rfl)
 have er:atI (xs.map V.int) (q:Int)=some (.int r):=aB (by rw[zr,v];rfl)
 have bR:Big r:=bx r (zw v);have bb:q < xs.length:=(zv.mp v).1;refine cu (fun σ' H'=>H=H'/\∃t:Int,t=Wg.sg p*r/\Big t/\σ'= [some (.ref a),some (.ref qo),some (.ref ql),some (.int q),some (.int b0),some (.int t),none]) ?_ fun nx au=>?_
 . intro σ' H' z_;refine hZq fun q_ e_=>?_;obtain⟨rfl,t,em,bm,rfl⟩:=z_;subst e_;refine⟨_,rfl,rfl,_,rfl,?_⟩;by_cases z:t=0
   . rw[z,decide_eq_true rfl];refine iteT ?_;refine⟨_,rfl,qo,rfl,⟨_,SqL.of ho⟩,fun D m=>?_⟩;refine bG (xs:=xs.map V.int) (fun j acc H3=>Same H H3/\H3 D=some (.lst acc)/\acc=((xs.take j).map fun x=>x*u / b0).map V.int) ⟨aa m,a8,rfl⟩ (fun j acc H3 d=>SqL.of (d.1 _ _ ho)) ?_ ?_
     . intro j x acc H3 hj ex z_;refine hZq fun q_ e_=>?_;obtain⟨l,c,rfl⟩:=z_;rw[zr]at ex;obtain⟨y,ey,rfl⟩:=zy.mp ex;subst e_;have jl:j < xs.length:=(zv.mp ey).1;refine⟨_,rfl,_,rfl,a,C,dx,fs,_,rfl,l _ _ ha,hC.cls,hC.nb,aT,y,u,rfl,rfl,⟨bx y (zw ey),bB⟩,_,rfl,_,b0,rfl,rfl,⟨a1,aC⟩,?_⟩;refine CompN.mk hj (by rw[zm,zm,A7];omega) c ⟨aD m l,a8,?_⟩
       rw[aq ey];simp
     . rintro acc H3 ⟨l,c,rfl⟩;rw[zm,A3]at c;refine k D H3 m l ?_;unfold tdF;rw[if_pos (by rw[<-em];exact z)]
       exact c
   . have z':¬V.int t=V.int 0:=fun e=>z (V.int.inj e);rw[decide_eq_false z'];refine iteF (bU ?_);dsimp only;refine eM ?_;refine j4 (xs:=xs.map V.int) (ys:=ys.map V.int) (a:=qo) (b:=ql) (by rw[zm,zm];omega) (fun Q q=>⟨_,rfl,_,rfl,q⟩) (SqL.of ho) (SqL.of hl) fun D m=>?_
     refine⟨fun j acc H3=>Same H H3/\H3 D=some (.lst acc)/\acc=((List.zipWith (fun x y=>(x*u - Wg.sg p*r*y) / b0) xs ys).take j).map V.int,⟨aa m,a8,rfl⟩,fun j acc H3 d=>⟨SqL.of (d.1 _ _ ho),SqL.of (d.1 _ _ hl)⟩,?_,?_⟩
     . rintro j T x y acc H3 hj _ ⟨l,c,rfl⟩ ex ey nT;rw[zr]at ex ey;refine hZq fun q_ e_=>?_;obtain⟨x',ex',rfl⟩:=zy.mp ex;obtain⟨y',a2,rfl⟩:=zy.mp ey;subst e_;have jl:j < xs.length:=(zv.mp ex').1;have sT:=aa (o:= .tup [.int x', .int y']) nT;refine⟨T,_,rfl,SqT.of a8,rfl,_,_,rfl,_,_,rfl,rfl,ext2,?_⟩;refine cB ?_;refine⟨_,rfl,_,rfl,a,C,dx,fs,_,rfl,sT _ _ (l _ _ ha),hC.cls,hC.nb,aT,x',u,rfl,rfl,⟨bx _ (zw ex'),bB⟩,_,rfl,_,rfl,t,y',rfl,rfl,⟨bm,by_ _ (zw a2)⟩,_,_,rfl,rfl,_,rfl,_,b0,rfl,rfl,⟨a1,aC⟩,?_⟩;refine CompN.mk hj (by rw[zm,A7,List.length_zipWith];omega) (sT _ _ c) ⟨aD m (l.trans sT),a8,?_⟩
       have ez:(List.zipWith (fun x y=>(x*u - Wg.sg p*r*y) / b0) xs ys)[j]?=some ((x'*u - Wg.sg p*r*y') / b0):=by rw[List.getElem?_zipWith,ex',a2]
       rw[aq ez,em];simp
     . rintro acc H3 ⟨l,c,rfl⟩;have zl:(List.zipWith (fun x y=>(x*u - Wg.sg p*r*y) / b0) xs ys).length=xs.length:=by rw[List.length_zipWith];omega
       rw[zm,<-zl,A3]at c;refine ah ?_;refine⟨_,rfl,_,rfl,_,rfl,D,_,(q:Int),q,rfl,rfl,c,by rw[zm,zl];unfold ixN;rw[if_pos (by omega),if_pos (by omega)];simp,?_⟩
       refine⟨_,rfl,?_⟩;refine k D _ m (aD m l) ?_;rw[a8];unfold tdF;rw[if_neg (by rw[<-em];exact z),<-em,List.map_set]
 refine⟨_,rfl,_,rfl,ql,_,_,_,rfl,rfl,SqL.of hl,ep,p,0,rfl,rfl,_,rfl,?_⟩;by_cases d:0 < p
 . rw[decide_eq_true d];refine iteT ?_;refine⟨_,rfl,_,rfl,qo,_,_,_,rfl,rfl,SqL.of ho,er,?_⟩;exact au _ _ ⟨rfl,r,by unfold Wg.sg;rw[if_pos d];omega,bR,rfl⟩
 . rw[decide_eq_false d];refine iteF ?_;refine⟨_,rfl,_,rfl,qo,_,_,_,rfl,rfl,SqL.of ho,er,r,rfl,?_⟩;refine au _ _ ⟨rfl,-r,by unfold Wg.sg;rw[if_neg d];omega,?_,rfl⟩
   unfold Big at*;rw[AU];exact bR
theorem tU{D:TA}{pl:Addr}{b c:Int}:putF (Str.ofString "bottom") (.int c) (flds D pl b)=flds D pl c:=by
 unfold flds putF;rw[if_neg (by decide +kernel)]
 unfold putF;rw[if_neg (by decide +kernel)]
 unfold putF;rw[if_neg (by decide +kernel)]
 unfold putF;rw[if_pos rfl]
theorem tT{D:TA}{pl ql:Addr}{b:Int}:putF (Str.ofString "lines") (.ref ql) (flds D pl b)=flds D ql b:=by
 unfold flds putF;rw[if_neg (by decide +kernel)]
 unfold putF;rw[if_neg (by decide +kernel)]
 unfold putF;rw[if_pos rfl]
theorem uG{K:PySem.W.Frag}{ta tv:TE}{f:Str}{u:TS}{Z:Ends}{σ:L2.St}{H:Hp}(h:tv σ H fun y H1=>ta σ H1 fun x H2=>∃a C dx fs,x= .ref a/\H2 a=some (.ins C dx fs)/\Cls K C/\NoAttr K C f/\fs.length < 1000/\(u Z) σ (upd H2 a (.ins C dx (putF f y fs)))):tSeq (sFld K ta tv f) u Z σ H:=h
theorem qm{te:TE}{g:TG}{u:TS}{Z:Ends}{σ:L2.St}{H:Hp}(h:te σ H fun x H1=>g x σ H1 (u Z)):tSeq (tAsg te g) u Z σ H:=h
def ButX(D:TA)(H H':Hp):Prop:=∀x o,x≠D.a->x≠D.pss->x≠D.ph->H x=some o->H' x=some o
theorem ButX.of_same{D:TA}{H H':Hp}(s:Same H H'):ButX D H H':=fun x o _ _ _ e=>s _ _ e
theorem ButX.trans{D:TA}{H H1 H2:Hp}(a:ButX D H H1)(b:ButX D H1 H2):ButX D H H2:=fun x o h1 h2 h3 e=>b x o h1 h2 h3 (a x o h1 h2 h3 e)
theorem kdX{D:TA}{m n:Nat}{scs:List Int}{us:List Tr}{ws:List V}{pl:Addr}{ls:List V}{T:Wg.Tb}{H H':Hp}(h:Tab D m n scs us ws pl ls T H)(b:ButX D H H')(h':∃xs,H' D.pss=some (.lst xs))(h'':∃xs,H' D.ph=some (.lst xs)):Kd H H':=by
 have ha:=h.ob;have h1:=h.sd;have h2:=h.hd;refine⟨fun x xs e=>b x _ (fun z=>by rw[z,ha]at e;cases e) (fun z=>by rw[z,h1]at e;cases e) (fun z=>by rw[z,h2]at e;cases e) e,fun x xs e=>?_⟩
 by_cases e1:x=D.pss
 . rw[e1];exact h'
 . by_cases a:x=D.ph
   . rw[a];exact h''
   . exact⟨xs,b x _ (fun z=>by rw[z,ha]at e;cases e) e1 a e⟩
def mZ:Sp:=fun vs H Q _=>∃(D:TA) (m n:Nat) (scs:List Int) (us:List Tr) (ws:List V) (pl:Addr) (ls:List V) (T:Wg.Tb) (r q:Nat),vs= [.ref D.a, .int (r:Int), .int (q:Int)]/\Tk K D.C/\Tab D m n scs us ws pl ls T H/\r < m/\q < n/\T.ln r q≠0/\0 < T.bot/\Big T.bot/\(∀i c,i < m->c < n+2->Big (T.ln i c))/\
 ∀pl' ls' H',ButX D H H'->Tab D m n scs us ws pl' ls' (Wg.piv T r q) H'->Q .non H'
theorem scTur:FnScope ["table","at","column","line","sign","bottom"] ["table","at","column"] (ag sTur):= .of
theorem wZ{f:Addr}{fd:FuncData}(F:Fun K "turn" "turn" sTur f fd)(B:Blt mg)(zT:Cl P w K mg base 1 "turned" ["table","other","line","column","bottom"] (qQ (K:=K))):
 FnOk P w K mg base CX0 2 f fd ["table","at","column"] (mZ (K:=K)):=by
 refine F.okb scTur fun vs H Q E h=>?_;refine hZq fun q_ e_=>?_;obtain⟨D,m,n,scs,us,ws,pl,ls,T,r,q,rfl,hk,d,au,b8,hp,b0,bb,bl,k⟩:=h;subst e_;refine⟨rfl,fun ej A outer s hr=>?_⟩;have ed:(["other","table","column","line","bottom"]:List Str).Nodup:=by decide +kernel
 have dl:(["number","sign"]:List Str).Nodup:=by decide +kernel
 refine⟨_,ad (psR 3 scTur.nd (ak ao (aN (pv 0) rfl) (pv 1) fun _ _=>rfl))
  (ad (psR 4 scTur.nd (dG (aw dc (ak ao (pv 3) (pv 2) fun _ _=>rfl) ac (ay _)) ac (c9 bu ac)))
  (ad (psR 5 scTur.nd (aN (pv 0) rfl))
  (ad (dE (pv 0) (aA iq rfl B.ab ir (a0 (ak ao (pv 3) (pv 2) fun _ _=>rfl) a9)) rfl)
  (ad (dE (pv 0) (aO (NC:= ["other","table","column","line","bottom"]) (mp:= [none,some 0,some 2,some 3,some 5]) rfl (aJ (aN (pv 0) rfl)) (fun _ _ _ _ _=>pgA 0 ed) (fun _ _ _ _ _=>aR)
   (fun _ _ _ _ _=>aj zT hr (a0 (pv 1) (a0 (pv 0) (a0 (pv 3) (a0 (pv 2) (a0 (pv 4) a9))))))) rfl)
  (ad (fj (aO (NC:= ["number","sign"]) (mp:= [none,some 4]) rfl (aJ (pv 3)) (fun _ _ _ _ _=>pgA 0 dl) (fun _ _ _ _ _=>aR)
   (fun _ _ _ _ _=>am aU (c9 bu (pv 1)) (pv 0))) (gU (aN (pv 0) rfl) (pv 1) dC))
  (ad (fj (am aU (pv 4) (pv 5)) (gU (ak ao (aN (pv 0) rfl) (pv 1) fun _ _=>rfl) (pv 2) dC))
  (af (fj (aQ (a0 (ak ao (aN (pv 0) rfl) (pv 2) fun _ _=>rfl) (a0 (ak ao (aN (pv 0) rfl) (pv 1) fun _ _=>rfl) a9))) (aS (n:=2) rfl (ai (gU (aN (pv 0) rfl) (pv 1) dC) (ai (gU (aN (pv 0) rfl) (pv 2) dC) aL))))))))))),?_⟩
 have ee:(20000:Nat)<=sizeLine:=by decide +kernel
 have m64:=d.m64;have n64:=d.n64;refine hZq fun q_ e_=>?_;obtain⟨ll,lr⟩:=d.ro;obtain⟨ql,eb,bw,eg,ef⟩:=lr r au;subst e_;have cb:atI ((Wg.ls (n+2) (T.ln r)).map V.int) (q:Int)=some (.int (T.ln r q)):=aB (fJ (by omega))
 have fb:∀b pl,(flds D pl b).lookup (Str.ofString "bottom")=some (.int b):=fun b pl=>rfl;have fl:∀b pl,(flds D pl b).lookup (Str.ofString "lines")=some (.ref pl):=fun b pl=>rfl;have fs:∀b pl,(flds D pl b).lookup (Str.ofString "sides")=some (.ref D.pss):=fun b pl=>rfl;have fh:∀b pl,(flds D pl b).lookup (Str.ofString "heads")=some (.ref D.ph):=fun b pl=>rfl;have cp:Big (Wg.sg (T.ln r q)):=by unfold Wg.sg Big;split<;>decide +kernel
 have dI:=bl r q au (by omega)
 have d5:(if T.ln r q < 0 then -T.ln r q else T.ln r q)=((T.ln r q).natAbs:Int):=by split<;>omega
 have bB:Big ((T.ln r q).natAbs:Int):=by unfold Big at *;rw[Int.natAbs_natCast];exact dI
 have d0:Big (-Wg.sg (T.ln r q)):=by unfold Big at *;rw[AU];exact cp
 refine⟨_,rfl,D.a,D.C,D.dx,_,_,rfl,d.ob,hk.cls,hk.nl,fl _ _,_,rfl,pl,_,(r:Int),_,rfl,rfl,SqL.of d.li,aB eb,?_⟩;refine ah ?_;dsimp only;refine cu (fun σ' H'=>H=H'/\σ'= [some (.ref D.a),some (.int (r:Int)),some (.int (q:Int)),some (.ref ql),some (.int (Wg.sg (T.ln r q))),none]) ?_ fun nx bY=>?_
 . rintro σ' H' ⟨rfl,rfl⟩;refine⟨_,rfl,D.a,D.C,D.dx,_,_,rfl,d.ob,hk.cls,hk.nb,fb _ _,_,rfl,_,rfl,ql,_,_,_,rfl,rfl,SqL.of bw,cb,_,rfl,_,rfl,D.a,D.C,D.dx,_,rfl,d.ob,hk.cls,hk.nb,(by show 6 < 1000;decide),?_⟩
   rw[d5,tU];obtain⟨B',eB⟩:∃B':Int,B'=((T.ln r q).natAbs:Int):=⟨_,rfl⟩;rw[<-eB]at bB ⊢;obtain⟨H1,a5⟩:∃H1,H1=upd H D.a (.ins D.C D.dx (flds D pl B')):=⟨_,rfl⟩;rw[<-a5];have bg:H1 D.a=some (.ins D.C D.dx (flds D pl B')):=by rw[a5];exact a8
   have g:∀ {x:Addr} {xs:List V},H x=some (.lst xs)->H1 x=some (.lst xs):=fun{x xs} e=>by
    rw[a5,ae (fun z=>by rw[z,d.ob]at e;cases e)]
    exact e
   try dsimp only
   refine uG ?_;refine bM rfl ?_;refine⟨_,rfl,D.a,D.C,D.dx,_,_,rfl,bg,hk.cls,hk.nl,fl _ _,pl,rfl,⟨_,SqL.of (g d.li)⟩,fun L nL=>?_⟩;refine bG (xs:=ls) (fun j acc H'=>Same H1 H'/\H' L=some (.lst acc)/\acc.length=j/\∀i,i < j->∃z,acc[i]?=some (.ref z)/\H' z=some (.lst ((tdF (Wg.ls (n+2) (T.ln i)) (Wg.ls (n+2) (T.ln r)) q T.bot B' (T.ln r q) (T.ln i q)).map V.int))/\H1 z=none/\z≠L) ⟨aa nL,a8,rfl,fun i hi=>by omega⟩ (fun j acc H' p=>SqL.of (p.1 _ _ (g d.li))) ?_ ?_
   . intro j x acc H' hj ex z_;refine hZq fun q_ e_=>?_;obtain⟨s2,hL,al,hz⟩:=z_;rw[ll]at hj;obtain⟨qj,d4,d8,_,_⟩:=lr j hj;subst e_;rw[d4]at ex;cases ex;refine⟨_,rfl,_,rfl,_,rfl,_,rfl,_,rfl,D.a,D.C,D.dx,qj,ql,_,q,T.bot,B',T.ln r q,T.ln j q,Wg.ls (n+2) (T.ln j),Wg.ls (n+2) (T.ln r),rfl,hk,s2 _ _ bg,fb _ _,s2 _ _ (g d8),s2 _ _ (g bw),by rw[Wg.ls_len,Wg.ls_len],by rw[Wg.ls_len];omega,Wg.ls_at (by omega),Wg.ls_at (by omega),b0,bb,bB,?_,?_,fun l H3 nl s3 e3=>?_⟩
     . intro x mx;obtain⟨c,hc,rfl⟩:=zM.mp mx;exact bl j c hj (Af.mp hc)
     . intro x mx;obtain⟨c,hc,rfl⟩:=zM.mp mx;exact bl r c au (Af.mp hc)
     . refine CompN.mk (by rw[ll];exact hj) (by omega) (s3 _ _ hL) ⟨aD nL (s2.trans s3),a8,by rw[A6,al];rfl,fun i hi=>?_⟩
       have c2:l≠L:=fun z=>by rw[z,hL]at nl;cases nl
       have dV:H1 l=none:=s2.free nl;rcases Nat.lt_or_ge i j with h|h
       . refine hZq fun q_ e_=>?_;obtain⟨z,a1,a2,a3,a4⟩:=hz i h;subst e_;exact⟨z,by rw[List.getElem?_append_left (by omega)];exact a1,by rw[ae a4];exact s3 _ _ a2,a3,a4⟩
       . have e:i=j:=by omega
         subst e;exact⟨l,by rw[List.getElem?_append_right (by omega),al];simp,by rw[ae c2];exact e3,dV,c2⟩
   intro acc H2 z_;refine hZq fun q_ e_=>?_;obtain⟨s2,b4,al,hz⟩:=z_;subst e_;rw[ll]at al hz;have cI:=s2 _ _ bg;refine⟨_,rfl,D.a,D.C,D.dx,_,rfl,cI,hk.cls,hk.nl,(by show 6 < 1000;decide),?_⟩
   rw[tT];obtain⟨H3,a6⟩:∃H3,H3=upd H2 D.a (.ins D.C D.dx (flds D L B')):=⟨_,rfl⟩;rw[<-a6];have cn:H3 D.a=some (.ins D.C D.dx (flds D L B')):=by rw[a6];exact a8
   have aC:∀ {x:Addr} {xs:List V},H2 x=some (.lst xs)->H3 x=some (.lst xs):=fun{x xs} e=>by
    rw[a6,ae (fun z=>by rw[z,cI]at e;cases e)]
    exact e
   have bC:=aC (s2 _ _ (g bw))
   try dsimp only
   refine qm ?_;refine bM rfl ?_;refine⟨_,rfl,ql,rfl,⟨_,SqL.of bC⟩,fun M nM=>?_⟩;refine bG (xs:=(Wg.ls (n+2) (T.ln r)).map V.int) (fun j acc H'=>Same H3 H'/\H' M=some (.lst acc)/\acc=(((Wg.ls (n+2) (T.ln r)).take j).map fun x=> -Wg.sg (T.ln r q)*x).map V.int) ⟨aa nM,a8,rfl⟩ (fun j acc H' p=>SqL.of (p.1 _ _ bC)) ?_ ?_
   . intro j x c3 H' hj ex z_;refine hZq fun q_ e_=>?_;obtain⟨s4,hM,rfl⟩:=z_;rw[zr]at ex;obtain⟨y,ey,rfl⟩:=zy.mp ex;subst e_;have jl:j < (Wg.ls (n+2) (T.ln r)).length:=(zv.mp ey).1;have bj:=jl;rw[Wg.ls_len]at bj;rw[Wg.ls_at bj]at ey;cases ey;refine⟨_,rfl,_,rfl,_,rfl,_,_,rfl,rfl,⟨d0,bl r j au bj⟩,?_⟩;refine CompN.mk hj (by rw[zm,zm,A7,Wg.ls_len];omega) hM ⟨aD nM s4,a8,?_⟩
     rw[aq (Wg.ls_at bj)];simp
   rintro c3 H4 ⟨s4,hM,rfl⟩;rw[zm,A3]at hM;have d6:=s4 _ _ (aC b4);have bR:=s4 _ _ cn;have bi:∀ {N j:Nat},j < N->ixN N (j:Int)=some j:=fun{N j} h=>by unfold ixN;rw[if_pos (by omega),if_pos (by omega)];simp
   have cd:L≠M:=fun z=>by rw[<-z,aC b4]at nM;cases nM
   have b7:D.a≠L:=fun z=>by rw[<-z,bg]at nL;cases nL
   have d9:D.a≠M:=fun z=>by rw[<-z,cn]at nM;cases nM
   refine⟨_,rfl,D.a,D.C,D.dx,_,_,rfl,bR,hk.cls,hk.nl,fl _ _,_,rfl,L,_,(r:Int),r,rfl,rfl,d6,bi (by omega),?_⟩
   have d3:(upd H4 L (.lst (acc.set r (.ref M)))) D.a=some (.ins D.C D.dx (flds D L B')):=by rw[ae b7];exact bR
   have ec:(upd H4 L (.lst (acc.set r (.ref M)))) M=some (.lst (((Wg.ls (n+2) (T.ln r)).map fun x=> -Wg.sg (T.ln r q)*x).map V.int)):=by rw[ae cd.symm];exact hM
   refine⟨_,rfl,_,rfl,_,_,rfl,rfl,⟨cp,bb⟩,_,rfl,D.a,D.C,D.dx,_,_,rfl,d3,hk.cls,hk.nl,fl _ _,_,rfl,L,_,(r:Int),_,rfl,rfl,SqL.of a8,aB (v:= .ref M) (by rw[List.getElem?_set_self (by omega)]),_,rfl,M,_,(q:Int),q,rfl,rfl,ec,bi (by rw[zm,zm,Wg.ls_len];omega),?_⟩
   rw[<-List.map_set,Wg.turnedR];obtain⟨H6,a7⟩:∃H6,H6=upd (upd H4 L (.lst (acc.set r (.ref M)))) M (.lst ((Wg.ls (n+2) ((Wg.piv T r q).ln r)).map V.int)):=⟨_,rfl⟩;rw[<-a7]
   have h6:∀ {x:Addr} {o:HO},x≠L->x≠M->H4 x=some o->H6 x=some o:=fun{x o} a b e=>by
    rw[a7,ae b,ae a];exact e
   have dr:H6 M=some (.lst ((Wg.ls (n+2) ((Wg.piv T r q).ln r)).map V.int)):=by rw[a7];exact a8
   have d7:H6 L=some (.lst (acc.set r (.ref M))):=by rw[a7,ae cd];exact a8
   have aT:=h6 b7 d9 bR
   have old:∀ {x:Addr} {o:HO},x≠D.a->H x=some o->H6 x=some o:=fun{x o} na e=>by
    have e1:H1 x=some o:=by rw[a5,ae na];exact e
    have e3:H3 x=some o:=by rw[a6,ae na];exact s2 _ _ e1
    exact h6 (fun z=>by rw[<-z,e1]at nL;cases nL) (fun z=>by rw[<-z,e3]at nM;cases nM) (s4 _ _ e3)
   have u:∀ {x:Addr} {xs:List V},H x=some (.lst xs)->x≠D.a:=fun{x xs} e z=>by rw[z,d.ob]at e;cases e
   have bI:=old (u d.sd) d.sd;have bF:=old (u d.hd) d.hd;refine⟨_,rfl,D.a,D.C,D.dx,_,_,rfl,aT,hk.cls,hk.nh,fh _ _,_,rfl,D.ph,_,(q:Int),_,rfl,rfl,SqL.of bF,aB (iR b8),_,rfl,D.a,D.C,D.dx,_,_,rfl,aT,hk.cls,hk.nd,fs _ _,_,rfl,D.pss,_,(r:Int),_,rfl,rfl,SqL.of bI,aB (iR au),two,fun t nt=>?_⟩;have sT:=aa (o:= .tup [.int (T.hd q:Nat), .int (T.sd r:Nat)]) nt;have ea:(upd (upd H6 t (.tup [.int (T.hd q:Nat), .int (T.sd r:Nat)])) D.pss (.lst ((nv (Wg.ls m T.sd)).set r (.int (T.hd q:Nat))))) D.a=some (.ins D.C D.dx (flds D L B')):=by rw[ae (u d.sd).symm];exact sT _ _ aT
   have d2:(upd (upd H6 t (.tup [.int (T.hd q:Nat), .int (T.sd r:Nat)])) D.pss (.lst ((nv (Wg.ls m T.sd)).set r (.int (T.hd q:Nat))))) D.ph=some (.lst (nv (Wg.ls n T.hd))):=by rw[ae d.n3.symm];exact sT _ _ bF
   refine⟨t,_,rfl,SqT.of a8,rfl,_,_,rfl,_,rfl,D.a,D.C,D.dx,_,_,rfl,sT _ _ aT,hk.cls,hk.nd,fs _ _,_,rfl,D.pss,_,(r:Int),r,rfl,rfl,sT _ _ bI,bi (by rw[bN];exact au),_,_,rfl,_,rfl,D.a,D.C,D.dx,_,_,rfl,ea,hk.cls,hk.nh,fh _ _,_,rfl,D.ph,_,(q:Int),q,rfl,rfl,d2,bi (by rw[bN];exact b8),rfl,?_⟩
   have e1:(nv (Wg.ls m T.sd)).set r (.int (T.hd q:Nat))=nv (Wg.ls m (Wg.piv T r q).sd):=by
    rw[<-Wg.piv_sides];unfold nv;rw[List.map_set]
   have e2:(nv (Wg.ls n T.hd)).set q (.int (T.sd r:Nat))=nv (Wg.ls n (Wg.piv T r q).hd):=by
    rw[<-Wg.piv_heads];unfold nv;rw[List.map_set]
   rw[e1,e2]
   have fin:∀ {x:Addr} {o:HO},x≠D.pss->x≠D.ph->H6 x=some o->(upd (upd (upd H6 t (.tup [.int (T.hd q:Nat), .int (T.sd r:Nat)])) D.pss (.lst (nv (Wg.ls m (Wg.piv T r q).sd)))) D.ph (.lst (nv (Wg.ls n (Wg.piv T r q).hd)))) x=some o:=fun{x o} a b e=>by
    rw[ae b,ae a];exact sT _ _ e
   have bx:ButX D H (upd (upd (upd H6 t (.tup [.int (T.hd q:Nat), .int (T.sd r:Nat)])) D.pss (.lst (nv (Wg.ls m (Wg.piv T r q).sd)))) D.ph (.lst (nv (Wg.ls n (Wg.piv T r q).hd)))):=fun x o na ns nh e=>fin ns nh (old na e);have c4:L≠D.pss:=fun z=>by rw[z,g d.sd]at nL;cases nL
   have db:L≠D.ph:=fun z=>by rw[z,g d.hd]at nL;cases nL
   have cm:M≠D.pss:=fun z=>by rw[z,aC (s2 _ _ (g d.sd))]at nM;cases nM
   have c8:M≠D.ph:=fun z=>by rw[z,aC (s2 _ _ (g d.hd))]at nM;cases nM
   have b6:(upd (upd (upd H6 t (.tup [.int (T.hd q:Nat), .int (T.sd r:Nat)])) D.pss (.lst (nv (Wg.ls m (Wg.piv T r q).sd)))) D.ph (.lst (nv (Wg.ls n (Wg.piv T r q).hd)))) D.pss=some (.lst (nv (Wg.ls m (Wg.piv T r q).sd))):=by rw[ae d.n3];exact a8
   refine k L (acc.set r (.ref M)) _ bx ⟨?_,bx _ _ (u d.tm) d.n1.symm d.n5.symm d.tm,d.tt.mono (kdX d bx ⟨_,b6⟩ ⟨_,a8⟩),d.ul,bx _ _ (u d.sc) d.n2.symm d.n6.symm d.sc,d.sl,fin c4 db d7,⟨by rw[List.length_set];exact al,fun i hi=>?_⟩,b6,a8,d.n1,d.n2,d.n3,c4.symm,d.n5,d.n6,db.symm,m64,n64⟩
   . have:=fin (u d.sd).symm (u d.hd).symm aT;rw[this,eB];rfl
   . by_cases e:i=r
     . subst e;exact⟨M,by rw[List.getElem?_set_self (by omega)],fin cm c8 dr,cm,c8⟩
     . refine hZq fun q_ e_=>?_;obtain⟨z,a1,a2,a3,a4⟩:=hz i hi;subst e_;have z3:=aC a2;have dH:z≠M:=fun y=>by rw[<-y,z3]at nM;cases nM
       have dj:z≠D.pss:=fun y=>by rw[y,g d.sd]at a3;cases a3
       have bT:z≠D.ph:=fun y=>by rw[y,g d.hd]at a3;cases a3
       refine⟨z,by rw[List.getElem?_set_ne (fun y=>e y.symm)];exact a1,?_,dj,bT⟩
       have:=fin dj bT (h6 a4 dH (s4 _ _ z3));rw[this];congr 3;unfold tdF;rw[eB];split
       . rename_i y;exact Wg.turned0 e y
       . exact Wg.turned1 e
 . refine⟨_,rfl,_,rfl,ql,_,_,_,rfl,rfl,SqL.of bw,cb,_,0,rfl,rfl,_,rfl,?_⟩;by_cases pp:0 < T.ln r q
   . rw[decide_eq_true pp];refine iteT ?_;refine bY _ _ ⟨rfl,?_⟩;unfold Wg.sg;rw[if_pos pp];rfl
   . rw[decide_eq_false pp];refine iteF ?_;refine⟨1,rfl,bY _ _ ⟨rfl,?_⟩⟩;unfold Wg.sg;rw[if_neg pp];rfl
end
end K44
namespace L2
open PySem PySem.Spec PyProof.Rows
section
variable{X:Cx}
noncomputable def RgV(r:Addr)(n:Nat):HO:= .ext fun h=>∃t u v,IsRange h r 0 n 1 t u v
theorem yO{P:Program}{w:World}{H:Hp}{h:Heap}{r:Addr}{n:Nat}(x:∃t u v,IsRange h r 0 n 1 t u v):ObjOk P w H h r (RgV r n):=by
 obtain⟨t,u,v,e⟩:=x;exact⟨⟨t,u,v,e⟩,⟨_,e⟩,fun _ _ ⟨t',a,b,y⟩ k=>⟨t',a,b,k _ y⟩⟩
theorem fS:cr X (.type "range") (fun xs H Q=>∃n:Nat,xs= [.int n]/\∀r,H r=none->Q (.ref r) (upd H r (RgV r n))):=by
 intro pins s σ H xs us Q I r h;obtain⟨n,rfl,q⟩:=h;obtain⟨u,rfl,t,rfl⟩:=dw r;refine call_range_1 ?_;exact⟨.ref _,_,I.laid (t':=s.toks+1+1) (fun b ob e=>Heap.get?_push_of_some _ e) (zu _) (yO ⟨_,_,_,Heap.get?_push_size _ rfl⟩),rfl,q _ (I.hok.fresh (zu _))⟩
theorem io(hc:X.calm=true):cr X (.type "list") (fun xs H Q=>∃(r:Addr) (n:Nat),xs= [.ref r]/\H r=some (RgV r n)/\n<=1000/\∀l,H l=none->Q (.ref l) (upd H l (.lst ((List.range n).map fun(i:Nat)=>V.int i)))):=by
 intro pins s σ H xs us Q I r h;refine hZq fun q_ e_=>?_;obtain⟨c,n,rfl,hr,hn,q⟩:=h;obtain⟨u,rfl,g⟩:=dw r;subst e_;cases g;refine hZq fun q_ e_=>?_;obtain⟨⟨t,u,v,d⟩,_⟩:=(show ObjOk X.prog X.w H s.heap c (RgV c n)from I.hok c _ hr);subst e_;refine call_list_range (n:=n) (I.ok.hd hc) d (small_one (by omega) (by omega) (by omega) (by omega)) (by rw[rangeSize_one];split<;>omega) (by omega) fun h' tk a m hk p b=>?_
 have f:Vals ((List.range n).map fun(i:Nat)=>V.int i) a.toList:=by
  have key:∀(ys:List Value) (k:Nat),(∀j x,ys[j]?=some x->∃t,x=Value.int ((k+j:Nat):Int) t)->Vals ((List.range' k ys.length).map fun(i:Nat)=>V.int i) ys:=by
   intro ys
   induction ys with
   |nil=>intro k _;exact .nil
   |cons y ys z=>
    intro k hk;rw[zV,List.range'_succ,zU];obtain⟨t,e⟩:=hk 0 y rfl;refine .cons ⟨t,by rw[e];rfl⟩ (z (k+1) fun j x ex=>?_)
    obtain⟨t,e⟩:=hk (j+1) x ex;exact⟨t,by rw[e];congr 1;omega⟩
  have:=key a.toList 0 fun j x ex=>by
   obtain⟨t,e⟩:=b.2 j x (by rw[<-Ah];exact ex)
   exact⟨t,by rw[e];congr 1;omega⟩
  rw[Ae,b.1]at this;rw[List.range_eq_range'];exact this
 have hL:(1000:Nat)<=sizeLine:=by decide +kernel
 refine⟨.ref _,_,I.laid (t':=tk) (o:= .lst ((List.range n).map fun(i:Nat)=>V.int i)) hk (zu _) ⟨by rw[zm,Aj];omega,a.toList,m,f,by rw[Array.toArray_toList];exact p⟩,rfl,q _ (I.hok.fresh (zu _))⟩
open PySem PySem.Spec PyProof.Rows PySem.W
def uV:V->List V->Hp->VK->Prop:=fun x vs H Q=>∃(l:Addr) (ns:List Int) (k:Int) (j:Nat),x= .ref l/\vs= [.int k]/\H l=some (.lst (ns.map V.int))/\ns[j]?=some k/\(∀i,i < j->ns[i]?≠some k)/\Q (.int (j:Int)) H
theorem tJ{ns:List Int}{its:List Value}(r:Vals (ns.map V.int) its){i:Nat}{k:Int}(hi:i < its.length):isInt k its[i]=decide (ns[i]?=some k):=by
 have hl:=r.length;rw[zm]at hl;obtain⟨y,a,b⟩:=r.get (i:=i) (x:= .int ns[i]) (by rw[zr,zo (by omega)];rfl)
 obtain⟨t,rfl⟩:=b;rw[zo hi]at a;rw[zN a,zo (by omega)]
 simp only[isInt,Option.some.injEq];exact AW.mpr (by simp)
theorem oZ:MtM X "list.index" uV:=by
 intro pins s σ H x vs v us Q I o rv h;refine hZq fun q_ e_=>?_;obtain⟨l,ns,k,j,rfl,rfl,p,f,u,q⟩:=h;subst e_;cases o;refine hZq fun q_ e_=>?_;obtain⟨b,rfl,t,rfl⟩:=dw rv;obtain⟨z,its,n,r,hl,e⟩:=I.lstM p;subst e_;have hl:=r.length;rw[zm]at hl;have w:j < ns.length:=(zv.mp f).1;have hz:its.length<=sizeLine:=by rw[zm]at z;omega
 rw[sizeLine_eq]at hz
 refine call_meets PySem.F.slot_list_index ⟨_,e,rfl⟩ PySem.F.entry_list_index (PySem.F.args_list_index_2 _ _)
  (MeetsSeq.list_index l its.toArray n (.int k t) (isInt k) (fun y hy=>?_) j (by simp;omega) (by simp;omega) ?_ fun i hi d=>?_) ⟨e,⟨.int j,H,I.tok _,⟨_,rfl⟩,q⟩⟩
 . have a:y∈its:=by simpa using hy
   refine hZq fun q_ e_=>?_;obtain⟨i,hi,rfl⟩:=Ax a;obtain⟨y,g,m⟩:=r.get (i:=i) (x:= .int ns[i]) (by rw[zr,zo (by omega)];rfl)
   obtain⟨t',rfl⟩:=m;subst e_;rw[zo hi]at g;rw[zN g];exact MeetsSeq.EqGives.int _ k t' t
 . have:=tJ r (i:=j) (k:=k) (by omega)
   rw[decide_eq_true f]at this;simpa using this
 . have c:i < its.length:=by simpa using hi
   have:=tJ r (i:=i) (k:=k) c;rw[decide_eq_false (u i d)]at this;simpa using this
noncomputable def RgW(r:Addr)(a n:Nat):HO:= .ext fun h=>∃t u v,IsRange h r a (a+n:Nat) 1 t u v
theorem wM{P:Program}{w:World}{H:Hp}{h:Heap}{r:Addr}{a n:Nat}(x:∃t u v,IsRange h r a (a+n:Nat) 1 t u v):ObjOk P w H h r (RgW r a n):=by
 obtain⟨t,u,v,e⟩:=x;exact⟨⟨t,u,v,e⟩,⟨_,e⟩,fun _ _ ⟨t',b,c,y⟩ k=>⟨t',b,c,k _ y⟩⟩
theorem lG:cr X (.type "range") (fun xs H Q=>∃a n:Nat,xs= [.int a, .int (a+n:Nat)]/\∀r,H r=none->Q (.ref r) (upd H r (RgW r a n))):=by
 intro pins s σ H xs us Q I r h;obtain⟨a,n,rfl,q⟩:=h;obtain⟨c,d,rfl,⟨t,rfl⟩,⟨u,rfl⟩⟩:=Vals.two r;refine call_range_2 ?_;exact⟨.ref _,_,I.laid (t':=s.toks+1) (fun b ob e=>Heap.get?_push_of_some _ e) (zu _) (wM ⟨_,_,_,Heap.get?_push_size _ rfl⟩),rfl,q _ (I.hok.fresh (zu _))⟩
theorem mO(hc:X.calm=true):cr X (.type "list") (fun xs H Q=>∃(r:Addr) (a n:Nat),xs= [.ref r]/\H r=some (RgW r a n)/\n<=1000/\a<=1000/\∀l,H l=none->Q (.ref l) (upd H l (.lst ((List.range n).map fun(i:Nat)=>V.int ((a+i:Nat):Int))))):=by
 intro pins s σ H xs us Q I r h;refine hZq fun q_ e_=>?_;obtain⟨d,a,n,rfl,hr,hn,ha,q⟩:=h;obtain⟨u,rfl,m⟩:=dw r;subst e_;cases m;refine hZq fun q_ e_=>?_;obtain⟨⟨t,u,v,f⟩,_⟩:=(show ObjOk X.prog X.w H s.heap d (RgW d a n)from I.hok d _ hr);subst e_;refine call_list_range (n:=n) (I.ok.hd hc) f (small_one (by omega) (by omega) (by omega) (by omega)) (by rw[rangeSize_one];split<;>omega) (by omega) fun h' tk b p hk z c=>?_
 have g:Vals ((List.range n).map fun(i:Nat)=>V.int ((a+i:Nat):Int)) b.toList:=by
  have key:∀(ys:List Value) (k:Nat),(∀j x,ys[j]?=some x->∃t,x=Value.int ((a+(k+j):Nat):Int) t)->Vals ((List.range' k ys.length).map fun(i:Nat)=>V.int ((a+i:Nat):Int)) ys:=by
   intro ys
   induction ys with
   |nil=>intro k _;exact .nil
   |cons y ys ih=>
    intro k hk;rw[zV,List.range'_succ,zU];obtain⟨t,e⟩:=hk 0 y rfl;refine .cons ⟨t,by rw[e];rfl⟩ (ih (k+1) fun j x ex=>?_)
    obtain⟨t,e⟩:=hk (j+1) x ex;exact⟨t,by rw[e];congr 1;omega⟩
  have:=key b.toList 0 fun j x ex=>by
   obtain⟨t,e⟩:=c.2 j x (by rw[<-Ah];exact ex)
   exact⟨t,by rw[e];congr 1<;>omega⟩
  rw[Ae,c.1]at this;rw[List.range_eq_range'];exact this
 have hL:(1000:Nat)<=sizeLine:=by decide +kernel
 refine⟨.ref _,_,I.laid (t':=tk) (o:= .lst ((List.range n).map fun(i:Nat)=>V.int ((a+i:Nat):Int))) hk (zu _) ⟨by rw[zm,Aj];omega,b.toList,p,g,by rw[Array.toArray_toList];exact z⟩,rfl,q _ (I.hok.fresh (zu _))⟩
end
end L2
namespace Wg
theorem Rn.snoc{m n:Nat}{V R:Nat->Vec}{M:Int}{T:Nat->Tb}{r q:Nat->Nat}{J:Nat}(H:Rn m n V R M T r q J){r' q':Nat}(S:Stp m n M (T J) r' q'):
 ∃T2 r2 q2,Rn m n V R M T2 r2 q2 (J+1)/\T2 (J+1)=piv (T J) r' q':=by
 refine⟨fun j=>if j<=J then T j else piv (T J) r' q',fun j=>if j < J then r j else r',fun j=>if j < J then q j else q',⟨?_,?_,?_,?_⟩,?_⟩
 . show Inv m n V R (if 0<=J then T 0 else _);rw[if_pos (by omega)]
   exact H.inv
 . show Pm m n (if 0<=J then T 0 else _);rw[if_pos (by omega)]
   exact H.pm
 . intro j a;show Stp m n M (if j<=J then T j else _) (if j < J then r j else r') (if j < J then q j else q');rw[if_pos (by omega)]
   by_cases h:j < J
   . rw[if_pos h,if_pos h];exact H.st j h
   . have e:j=J:=by omega
     subst e;rw[if_neg h,if_neg h];exact S
 . intro j a;show(if j+1<=J then T (j+1)else _)=piv (if j<=J then T j else _) (if j < J then r j else r') (if j < J then q j else q');rw[if_pos (by omega:j<=J)]
   by_cases h:j < J
   . rw[if_pos h,if_pos h,if_pos (by omega)]
     exact H.nx j h
   . have e:j=J:=by omega
     subst e;rw[if_neg h,if_neg h,if_neg (by omega)]
 . show(if J+1<=J then _ else _)=_;rw[if_neg (by omega)]
structure Sz (m n:Nat) (L:Nat->Nat->Int) (M:Nat):Prop where
 le:∀i c,i < m->c < n+2->(L i c).natAbs<=M
 one:1<=M
theorem Sz.V{m n M:Nat}{L:Nat->Nat->Int}(h:Sz m n L M):∀k t,k < m+n->t < m->(V0 m L k t).natAbs<=M:=by
 intro k t hk ht;unfold V0;have:=h.one;by_cases e:k < m
 . rw[if_pos e];split
   . show 1<=M;exact this
   . exact zY _
 . rw[if_neg e,AU];exact h.le t (k - m) ht (by omega)
noncomputable def cut(m n:Nat)(V:Nat->Vec):Nat->Vec:=fun k t=>if k < m+n then V k t else 0
theorem Inv.cut{m n:Nat}{V R:Nat->Vec}{T:Tb}(I:Inv m n V R T)(P:Pm m n T):Inv m n (Wg.cut m n V) R T:=by
 refine⟨I.pos,?_,fun c t hc ht=>?_⟩
 . rw[<-I.det];congr 1;refine fD m fun k c hk hc=>?_;exact if_pos (P.sd_lt hk)
 . have e:Tb.W T (Wg.cut m n V) R n c t=Tb.W T V R n c t:=by
    unfold Tb.W;split
    . rename_i h;show -(if T.hd c < m+n then V (T.hd c) t else 0)=_;rw[if_pos (P.hd_lt h)]
    . rfl
   rw[e,<-I.ln c t hc ht];refine sumN_congr fun i hi=>?_;show T.ln i c*(if T.sd i < m+n then V (T.sd i) t else 0)=_;rw[if_pos (P.sd_lt hi)]
theorem Sz.bounds{m n M:Nat}{L:Nat->Nat->Int}{T:Tb}(h:Sz m n L M)(I:Inv m n (V0 m L) (R0 L) T)(P:Pm m n T):T.bot.natAbs<=fac m*M^m/\∀i c,i < m->c < n+2->(T.ln i c).natAbs<=fac m*M^m:=by
 have a:∀k t,t < m->(Wg.cut m n (V0 m L) k t).natAbs<=M:=by
  intro k t ht;unfold Wg.cut;split
  . rename_i e;exact h.V k t e ht
  . exact zY _
 refine⟨(I.cut P).bot_le a,fun i c hi hc=>(I.cut P).ln_le a (fun c t hc ht=>?_) hi hc⟩;exact h.le t c ht hc
end Wg
namespace K44
open PySem L2 Mth Tre Wd Su Tw Fm
structure FunC (K:PySem.W.Frag) (x qual:Str) (st:Stmt) (f:Addr) (fd:FuncData) (c0:Addr):Prop where
 ex:∃(oc:Value) (od:Option Addr) (kV doc pm:Value) (an:Option Addr) (ct:Value) (osl:Array (Option Value)),
  fd=PySem.W.fnOf x qual (bc st) (aP st) (ag st) .none kV doc pm an (.ref c0) ct/\K.lookup f=some ⟨oc,od, .func fd,osl⟩/\PySem.W.codeIn K (.ref c0) qual=true
noncomputable def z5:Pos:=match aP sLby with
 | [.Return (some (.Call _ _ [⟨_, .Lambda _ _ _ pos,_⟩,_] _)) _]=>pos
 |_=>⟨0,0,0,0⟩
abbrev lbQ:Str:=(Str.ofString "least_by"++".<locals>.")++"<lambda>"
abbrev Lm(T0:Addr)(H:Hp):Prop:=Lam T0 z5 lbQ H
theorem tS{D:TA}{pl:Addr}:putF (Str.ofString "heads") (.ref D.ph) (putF (Str.ofString "sides") (.ref D.pss) (putF (Str.ofString "bottom") (.int 1) (putF (Str.ofString "lines") (.ref pl) (putF (Str.ofString "scales") (.ref D.psc) (putF (Str.ofString "terms") (.ref D.pt) [])))))=flds D pl 1:=by
 have e:∀(f:Str) (v:V),putF f v []= [(f,v)]:=fun f v=>rfl;have c:∀(f g:Str) (v x:V) (r:List (Str×V)),g≠f->putF f v ((g,x)::r)=(g,x)::putF f v r:=fun f g v x r h=>by unfold putF;rw[if_neg h];cases r<;>rfl
 unfold flds
 repeat (first|rw[e]|rw[c _ _ _ _ _ (by decide +kernel)])
theorem tz(f:Str)(v:V):∀fs:List (Str×V),(putF f v fs).length<=fs.length+1
 | []=>zu _
 |(g,x)::r=>by
  unfold putF;split
  . simp
  . have:=tz f v r;simp only[zV];omega
section
variable{P:Program}{w:World}{K:PySem.W.Frag}{mg:Str->Option Value}{base:Heap}{T0:Addr}
def rp(T0:Addr):Sp:=fun vs H Q _=>∃(a b:Addr) (ns:List Int) (ps:List Nat),vs= [.ref a, .ref b]/\SqL K H a (ns.map V.int)/\SqL K H b (nv ps)/\(∀p∈ps,p < ns.length)/\Lm T0 H/\
 (ps= []->∀H',ButT T0 H H'->Lm T0 H'->Q .non H')/\∀p∈ps,(∀r∈ps,ns.getD p 0<=ns.getD r 0)->∀H',ButT T0 H H'->Lm T0 H'->Q (.int (p:Int)) H'
theorem yJ:FnScope ["numbers","places"] ["numbers","places"] (ag sLby):= .of
theorem xy{f c0:Addr}{fd:FuncData}(F:FunC K "least_by" "least_by" sLby f fd c0)(B:Blt mg)(C:PySem.W.codeHdIn K c0 T0=true)(hB:base.BuiltinsAt mg T0):FnOk P w K mg base CX0 2 f fd ["numbers","places"] (rp (K:=K) T0):=by
 refine hZq fun q_ e_=>?_;obtain⟨j,k,kV,g,pm,an,ct,i,rfl,lk,d⟩:=F.ex;subst e_;refine wm lk d yJ (fun vs H Q E h=>?_) fun A outer s H vs Q E hr h=>?_
 . refine hZq fun q_ e_=>?_;obtain⟨a,b,ns,ps,rfl,_⟩:=h;subst e_;rfl
 refine hZq fun q_ e_=>?_;obtain⟨a,b,ns,ps,rfl,ha,hb,c,e,h1,h2⟩:=h;subst e_
 have hk:PSs (cxOf CX0 P w K mg base ["numbers","places"] "least_by" (ag sLby) f (.ref c0) A outer s H E).nox (aP sLby) _:=
  af (ar (sm rfl hr rfl rfl (Or.inl rfl) rfl C hB rfl B.mi))
 exact⟨_,hk.nox,a,b,ns,ps,rfl,rfl,ha,hb,c,e,h1,h2⟩
def lU(C:Addr):Sp:=fun vs H Q _=>∃(a dx pt psc pl:Addr) (m n:Nat) (scs:List Int) (us:List Tr) (ws ls:List V) (L:Nat->Nat->Int),vs= [.ref a, .ref pt, .ref psc, .ref pl]/\Tk K C/\H a=some (.ins C dx [])/\H pt=some (.lst ws)/\TrsAt H ws us/\us.length=n/\H psc=some (.lst (scs.map V.int))/\scs.length=m/\H pl=some (.lst ls)/\
 (ls.length=m/\∀i,i < m->∃q,ls[i]?=some (.ref q)/\H q=some (.lst ((Wg.ls (n+2) (L i)).map V.int)))/\m<=64/\n<=64/\
 ∀(D:TA) (H':Hp),D.a=a->D.C=C->But1 a H H'->Tab D m n scs us ws pl ls (Wg.tb0 m L) H'->H D.pss=none->H D.ph=none->Q .non H'
theorem wI:FnScope ["self","terms","scales","lines"] ["self","terms","scales","lines"] (ag iM):= .of
theorem vm{f C:Addr}{fd:FuncData}(F:Fun K "__init__" "Table.__init__" iM f fd)(B:Blt mg):FnOk P w K mg base CX0 1 f fd ["self","terms","scales","lines"] (lU (K:=K) C):=by
 refine F.okb wI fun vs H Q E h=>?_;refine hZq fun q_ e_=>?_;obtain⟨a,dx,pt,psc,pl,m,n,scs,us,ws,ls,L,rfl,hk,ha,u,a7,ul,j,sl,a1,bi,m64,n64,k⟩:=h;subst e_;refine⟨rfl,fun bF A outer s hr=>?_⟩
 refine⟨_,ad (dE (pv 0) (pv 1) rfl) (ad (dE (pv 0) (pv 2) rfl) (ad (dE (pv 0) (pv 3) rfl) (ad (dE (pv 0) ac rfl)
  (ad (dE (pv 0) (bp (io rfl) rfl B.li PyProof.Rows.boot_list (a0 (bp fS rfl B.ra PyProof.Rows.boot_range (a0 (aA ax rfl B.le PySem.boot_len (a0 (pv 2) a9)) a9)) a9)) rfl)
  (af (dE (pv 0) (bp (mO rfl) rfl B.li PyProof.Rows.boot_list (a0 (bp lG rfl B.ra PyProof.Rows.boot_range (a0 (aA ax rfl B.le PySem.boot_len (a0 (pv 2) a9)) (a0 (am aY (aA ax rfl B.le PySem.boot_len (a0 (pv 2) a9)) (aA ax rfl B.le PySem.boot_len (a0 (pv 1) a9))) a9))) a9)) rfl)))))),?_⟩
 have wl:=a7.len;have g:∀ {x:Addr} {xs:List V},H x=some (.lst xs)->x≠a:=fun{x xs} e z=>by rw[z,ha]at e;cases e
 refine⟨_,rfl,_,rfl,a,C,dx,_,rfl,ha,hk.cls,hk.nt,(by show 0 < 1000;decide),?_⟩
 refine⟨_,rfl,_,rfl,a,C,dx,_,rfl,a8,hk.cls,hk.ns,(by show 1 < 1000;decide),?_⟩
 refine⟨_,rfl,_,rfl,a,C,dx,_,rfl,a8,hk.cls,hk.nl,(by show 2 < 1000;decide),?_⟩
 refine⟨_,rfl,a,C,dx,_,rfl,a8,hk.cls,hk.nb,(by show 3 < 1000;decide),?_⟩
 rw[jd,jd,jd];obtain⟨b,a5⟩:∃b,b=putF (Str.ofString "bottom") (.int 1) (putF (Str.ofString "lines") (.ref pl) (putF (Str.ofString "scales") (.ref psc) (putF (Str.ofString "terms") (.ref pt) []))):=⟨_,rfl⟩;rw[<-a5];have l4:b.length=4:=by rw[a5];rfl
 have o4:∀ {x:Addr} {xs:List V},H x=some (.lst xs)->(upd H a (.ins C dx b)) x=some (.lst xs):=fun{x xs} e=>by rw[ae (g e)];exact e
 refine⟨_,rfl,psc,_,rfl, .inl (SqL.of (o4 j)),m,(by rw[zm,sl]),fun r nr=>?_⟩
 have bb:a≠r:=fun z=>by rw[<-z,a8]at nr;cases nr
 refine⟨r,m,rfl,a8,by omega,fun ps aC=>?_⟩
 have bB:r≠ps:=fun z=>by rw[<-z,a8]at aC;cases aC
 have t:(upd H a (.ins C dx b)) ps=none:=by rw[ae bB.symm]at aC;exact aC
 have a2:a≠ps:=fun z=>by rw[<-z,a8]at t;cases t
 refine⟨_,rfl,a,C,dx,_,rfl,by rw[ae a2,ae bb];exact a8,hk.cls,hk.nd,by rw[l4];decide,?_⟩
 obtain⟨H5,aT⟩:∃H5,H5=upd (upd (upd (upd H a (.ins C dx b)) r (RgV r m)) ps (.lst ((List.range m).map fun(i:Nat)=>V.int i))) a (.ins C dx (putF (Str.ofString "sides") (.ref ps) b)):=⟨_,rfl⟩;rw[<-aT];have a4:H5 a=some (.ins C dx (putF (Str.ofString "sides") (.ref ps) b)):=by rw[aT];exact a8
 have bx:H r=none:=by rw[ae bb.symm]at nr;exact nr
 have d:H ps=none:=by rw[ae a2.symm]at t;exact t
 have o5:∀ {x:Addr} {o:HO},x≠a->H x=some o->H5 x=some o:=fun{x o} na e=>by
  rw[aT,ae na,ae (fun z=>by rw[z,d]at e;cases e),ae (fun z=>by rw[z,bx]at e;cases e),ae na]
  exact e
 have au:H5 ps=some (.lst ((List.range m).map fun(i:Nat)=>V.int i)):=by rw[aT,ae a2.symm];exact a8
 refine⟨_,rfl,psc,_,rfl, .inl (SqL.of (o5 (g j) j)),_,rfl,psc,_,rfl, .inl (SqL.of (o5 (g j) j)),_,rfl,pt,_,rfl, .inl (SqL.of (o5 (g u) u)),_,_,rfl,rfl,m,n,?_,fun r2 v=>?_⟩
 . rw[zm,sl,wl,ul];simp
 refine⟨r2,m,n,rfl,a8,by omega,by omega,fun ph a3=>?_⟩
 have bj:r2≠ph:=fun z=>by rw[<-z,a8]at a3;cases a3
 have c:H5 ph=none:=by rw[ae bj.symm]at a3;exact a3
 have a6:a≠ph:=fun z=>by rw[<-z,a4]at c;cases c
 have bg:a≠r2:=fun z=>by rw[<-z,a4]at v;cases v
 have bw:ps≠ph:=fun z=>by rw[<-z,au]at c;cases c
 have bC:ps≠r2:=fun z=>by rw[<-z,au]at v;cases v
 refine⟨_,rfl,a,C,dx,_,rfl,by rw[ae a6,ae bg];exact a4,hk.cls,hk.nh,?_,?_⟩
 . have:=tz (Str.ofString "sides") (.ref ps) b;rw[l4]at this;omega
 have o7:∀ {x:Addr} {o:HO},x≠a->H5 x=some o->(upd (upd (upd H5 r2 (RgW r2 m n)) ph (.lst ((List.range n).map fun(i:Nat)=>V.int ((m+i:Nat):Int)))) a (.ins C dx (putF (Str.ofString "heads") (.ref ph) (putF (Str.ofString "sides") (.ref ps) b)))) x=some o:=fun{x o} na e=>by
  rw[ae na,ae (fun z=>by rw[z,c]at e;cases e),ae (fun z=>by rw[z,v]at e;cases e)]
  exact e
 have p:H ph=none:=by
  cases q:H ph with
  |none=>rfl
  |some o=>rw[o5 a6.symm q]at c;cases c
 have b1:But1 a H (upd (upd (upd H5 r2 (RgW r2 m n)) ph (.lst ((List.range n).map fun(i:Nat)=>V.int ((m+i:Nat):Int)))) a (.ins C dx (putF (Str.ofString "heads") (.ref ph) (putF (Str.ofString "sides") (.ref ps) b)))):=fun x o na e=>o7 na (o5 na e)
 have kd:Kd H (upd (upd (upd H5 r2 (RgW r2 m n)) ph (.lst ((List.range n).map fun(i:Nat)=>V.int ((m+i:Nat):Int)))) a (.ins C dx (putF (Str.ofString "heads") (.ref ph) (putF (Str.ofString "sides") (.ref ps) b)))):=by
  refine⟨fun x xs e=>b1 x _ (fun z=>by rw[z,ha]at e;cases e) e,fun x xs e=>⟨xs,b1 x _ (g e) e⟩⟩
 have l:∀ {x y:Addr} {o:HO},H x=some o->H y=none->y≠x:=fun{x y o} e n z=>by rw[z,e]at n;cases n
 refine k ⟨C,a,dx,pt,psc,ps,ph⟩ _ rfl rfl b1 ⟨?_,b1 _ _ (g u) u,a7.mono kd,ul,b1 _ _ (g j) j,sl,b1 _ _ (g a1) a1,⟨bi.1,fun i hi=>?_⟩,?_,?_,l u d,l j d,bw,l a1 d,l u p,l j p,l a1 p,m64,n64⟩ d p
 . rw[a8,a5];exact congrArg (fun z=>some (HO.ins C dx z)) (tS (D:=⟨C,a,dx,pt,psc,ps,ph⟩))
 . obtain⟨q,e1,e2⟩:=bi.2 i hi;exact⟨q,e1,b1 _ _ (g e2) e2,(l e2 d).symm,(l e2 p).symm⟩
 . have e:(List.range m).map (fun(i:Nat)=>V.int i)=nv (Wg.ls m (Wg.tb0 m L).sd):=by
    unfold nv Wg.ls;rw[At];rfl
   rw[<-e];exact o7 a2.symm au
 . have e:(List.range n).map (fun(i:Nat)=>V.int ((m+i:Nat):Int))=nv (Wg.ls n (Wg.tb0 m L).hd):=by
    unfold nv Wg.ls;rw[At];rfl
   rw[<-e,ae a6.symm];exact a8
theorem gT{X:Cx}{K:PySem.W.Frag}{tg l:Expr}{tl:TE}(hK:X.K=K)(h:PE X l tl):PI X tg l (iY K tl):=by
 subst hK;exact aJ h
def lim:Nat:=2^2600
structure Wb (m n:Nat) (L:Nat->Nat->Int) (scs:List Int) (C:Nat):Prop where
 ex:∃M,Wg.Sz m n L M/\Wg.fac m*M^m<=C
 sc:∀s∈scs,0 < s/\s.natAbs<=C
 le:1<=C
 big:C < lim
structure Okt (m n:Nat) (L:Nat->Nat->Int) (T:Wg.Tb):Prop where
 inv:Wg.Inv m n (Wg.V0 m L) (Wg.R0 L) T
 pm:Wg.Pm m n T
 st:Wg.Stl m n n T
theorem Wb.bnd{m n C:Nat}{L:Nat->Nat->Int}{scs:List Int}{T:Wg.Tb}(h:Wb m n L scs C)(I:Wg.Inv m n (Wg.V0 m L) (Wg.R0 L) T)(P:Wg.Pm m n T):T.bot.natAbs<=C/\∀i c,i < m->c < n+2->(T.ln i c).natAbs<=C:=by
 obtain⟨M,h1,h2⟩:=h.ex;obtain⟨a,b⟩:=h1.bounds I P;exact⟨zK a h2,fun i c hi hc=>zK (b i c hi hc) h2⟩
theorem ck{C:Nat}{x:Int}(h:x.natAbs<=C)(hb:C < lim):Big x:=
 zZ h (A5 hb (Aw (by decide) (by decide)))
def qX:Sp:=fun vs H Q _=>∃(D:TA) (m n C:Nat) (scs:List Int) (us:List Tr) (ws:List V) (pl:Addr) (ls:List V) (L:Nat->Nat->Int),vs= [.ref D.a]/\Tk K D.C/\Tab D m n scs us ws pl ls (Wg.tb0 m L) H/\Wb m n L scs C/\
 ∀pl' ls' T H',ButX D H H'->Tab D m n scs us ws pl' ls' T H'->Okt m n L T->Q .non H'
theorem scSet:FnScope ["table","column","hanging"] ["table"] (ag sSet):= .of
theorem xo{f:Addr}{fd:FuncData}(F:Fun K "settle" "settle" sSet f fd)(B:Blt mg)(zS:Cl P w K mg base 2 "slack_lines" ["table"] (ko (K:=K)))(zT:Cl P w K mg base 2 "turn" ["table","at","column"] (mZ (K:=K))):
 FnOk P w K mg base CX0 3 f fd ["table"] (qX (K:=K)):=by
 refine F.okb scSet fun vs H Q E h=>?_;refine hZq fun q_ e_=>?_;obtain⟨D,m,n,C,scs,us,ws,pl,ls,L,rfl,hk,u,hW,k⟩:=h;subst e_;refine⟨rfl,fun bg A outer s hr=>?_⟩;have a3:(["at","table","column"]:List Str).Nodup:=by decide +kernel
 refine⟨_,af (bK PassesOwn.never rfl (cA rfl B.ra (a0 (aA ax rfl B.le PySem.boot_len (a0 (aN (pv 0) rfl) a9)) a9)) (fW (i:=1) scSet.nd rfl (Or.inr rfl))
  (ad (eV (i:=2) (NC:= ["at","table","column"]) (mp:= [none,some 0,some 1]) rfl scSet.nd rfl rfl rfl (gT (K:=K) rfl (aj zS hr (a0 (pv 0) a9)))
   (fun _ _ _ _ _=>pgA 0 a3) (fun _ _ _ _ _=>cy (aw iP (ak (r:=rIxL K) ao (ak (r:=rIxL K) ao (c7 (K:=K) rfl (pv 1) rfl) (pv 0) fun _ _=>rfl) (pv 2) fun _ _=>rfl) ac (ay _))) (fun _ _ _ _ _=>pv 0))
  (af (bh (rV (pv 2) (by intro _;rfl)) (af (dg (aj zT hr (a0 (pv 0) (a0 (ak ao (pv 2) ac fun _ _=>rfl) (a0 (pv 1) a9)))))) aI)))),?_⟩
 have a7:(20000:Nat)<=sizeLine:=by decide +kernel
 have fl:∀b pl,(flds D pl b).lookup (Str.ofString "lines")=some (.ref pl):=fun b pl=>rfl;have wl:=u.tt.len;have m64:=u.m64;have n64:=u.n64;have ul:=u.ul;refine⟨_,rfl,D.a,D.C,D.dx,_,_,rfl,u.ob,hk.cls,hk.nt,rfl,D.pt,_,rfl, .inl (SqL.of u.tm),(ws.length:Int),rfl,by omega,by omega,?_⟩
 refine e6 (n:=ws.length) (fun i σ H'=>(∃v1 v2,σ= [some (.ref D.a),v1,v2])/\∃pl' ls' T',ButX D H H'/\Tab D m n scs us ws pl' ls' T' H'/\Wg.Inv m n (Wg.V0 m L) (Wg.R0 L) T'/\Wg.Pm m n T'/\Wg.Stl m n i T')
  ⟨⟨none,none,rfl⟩,pl,ls,_,fun x o _ _ _ e=>e,u,Wg.inv0,Wg.pm0,fun c hc=>absurd hc (Nat.not_lt_zero _)⟩ ?_ ?_
 . intro i σ H' hi z_;refine hZq fun q_ e_=>?_;obtain⟨⟨v1,v2,rfl⟩,pl',ls',T',bx,tb,I,Pm,St⟩:=z_;subst e_;rw[AD];have t:i < n:=by omega
   obtain⟨bb,bl⟩:=hW.bnd I Pm;refine ah ?_;dsimp only;refine eM ?_;refine bV rfl ?_;refine⟨_,rfl,D,m,n,scs,us,ws,pl',ls',T',rfl,hk,tb,fun l H1 nl s1 hl=>?_⟩;have aC:=tb.same s1;refine⟨l,rfl,⟨_,SqL.of hl⟩,fun L' nL=>?_⟩;refine cF (xs:=nv (slk m T')) (fun j acc H2=>Same H1 H2/\H2 L'=some (.lst acc)/\acc=nv (((slk m T').take j).filter fun x=>decide (T'.ln x i≠0))) ⟨aa nL,a8,rfl⟩ (fun j acc H2 p=>SqL.of (p.1 _ _ hl)) ?_ ?_
   . intro j x acc H2 hj ex z_;refine hZq fun q_ e_=>?_;obtain⟨s2,y,rfl⟩:=z_;unfold nv at ex;rw[zr]at ex;obtain⟨r,er,rfl⟩:=zy.mp ex;obtain⟨rm,rs⟩:=slk_mem.mp (zw er);have d:=aC.same s2;obtain⟨q,eq,hq,_,_⟩:=d.ro.2 r rm;subst e_
     have al:(((slk m T').take j).filter fun x=>decide (T'.ln x i≠0)).length<=m:=by
      refine zK (Aa _ _) (zK (List.length_take_le' _ _) ?_);unfold slk;exact zK (Aa _ _) (by rw[Aj];exact zu _)
     refine⟨_,rfl,D.a,D.C,D.dx,_,_,rfl,d.ob,hk.cls,hk.nl,fl _ _,_,rfl,pl',_,(r:Int),_,rfl,rfl,SqL.of d.li,aB eq,_,rfl,q,_,(i:Int),_,rfl,rfl,SqL.of hq,aB (fJ (by omega)),rfl,_,rfl,?_⟩
     by_cases z:T'.ln r i=0
     . rw[decide_eq_true (show V.int (T'.ln r i)=V.int 0 by rw[z])]
       refine iteF ?_;refine CompS.mk hj ⟨s2,y,?_⟩;rw[aq er,Ai];simp[z]
     . rw[decide_eq_false (show¬V.int (T'.ln r i)=V.int 0 from fun e=>z (V.int.inj e))];refine iteT ?_;refine⟨_,rfl,CompN.mk hj (by unfold nv;rw[zm];omega) y ⟨aD nL s2,a8,?_⟩⟩
       rw[aq er,Ai];simp[z,nv]
   . rintro acc H2 ⟨s2,y,rfl⟩;have d:=aC.same s2;have a4:(nv (slk m T')).length=(slk m T').length:=by unfold nv;rw[zm]
     rw[a4,A3]at y;refine ah ?_;obtain⟨hg,v⟩:∃hg,hg=(slk m T').filter fun x=>decide (T'.ln x i≠0):=⟨_,rfl⟩;rw[<-v]at y;refine⟨_,rfl,_, .inl ⟨_,SqL.of y,rfl⟩,?_⟩
     cases hg with
     |nil=>
      refine iteF ?_;refine⟨⟨_,_,rfl⟩,pl',ls',T',(bx.trans (.of_same s1)).trans (.of_same s2),d,I,Pm,St.next fun x hx hs=>?_⟩;refine Classical.byContradiction fun z=>?_
      have:x∈(slk m T').filter fun x=>decide (T'.ln x i≠0):=by
       rw[Ag,slk_mem];exact⟨⟨hx,hs⟩,decide_eq_true z⟩
      rw[<-v]at this;cases this
     |cons r rest=>
      have mr:r∈(slk m T').filter fun x=>decide (T'.ln x i≠0):=by rw[<-v];exact zq
      rw[Ag,slk_mem,decide_eq_true_iff]at mr;obtain⟨⟨g,a1⟩,au⟩:=mr;refine iteT ?_;refine⟨_,rfl,_,rfl,L',_,((0:Nat):Int),_,rfl,rfl,SqL.of y,aB rfl,_,rfl,D,m,n,scs,us,ws,pl',ls',T',r,i,rfl,hk,d,g,t,au,I.pos,ck bb hW.big,fun a c ha hc=>ck (bl a c ha hc) hW.big,fun aT a6 H3 a2 a5=>?_⟩;exact⟨⟨_,_,rfl⟩,aT,a6,_,((bx.trans (.of_same s1)).trans (.of_same s2)).trans a2,a5,Wg.piv_inv I g t au,Pm.piv g t,St.turn I g t a1 au⟩
 . intro σ H' z_;refine hZq fun q_ e_=>?_;obtain⟨_,pl',ls',T',bx,tb,I,Pm,St⟩:=z_;subst e_;rw[wl,ul]at St;exact k pl' ls' T' H' bx tb ⟨I,Pm,St⟩
end
end K44
namespace Dj
open PySem PySem.Spec PySem.W PyProof.Rows L2 Tre Srt
section
variable{X:Cx}
end
open PySem PySem.Spec PySem.W PyProof.Rows L2 Tre Srt
theorem vD{prog:Program}{w:World}{A:Around}{s:Shared}{fin:Bool}{Q:Bool->Shared->Prop}{x y:Int}{t u:Tok}{as bs:List Value}{q:List (Bool×Bool)}(h:bD A s as bs q)(hq:Q (lexV fin ((x==y,decide (x < y))::q)) s):KatLex prog w A true fin Q ((Value.int x t::as).zip (Value.int y u::bs)) 0 s:=by
 rw[Ay];refine kat_cons (SeqAt.EqAt.int_int x t y u prog w _ _ ?_)
 cases e:(x==y)with
 |true=>
  rw[e]at hq;exact kat_yes (jN (by decide) h hq)
 |false=>
  rw[e]at hq;refine kat_no ?_;exact oneLt_int hq
def Hi(t:Tr):Prop:=∃x r,t= .tup (.int x::r)
section
variable{X:Cx}{pins:List (Addr×Obj)}{σ:L2.St}{H:Hp}{s:Shared}
theorem o9(I:Inv X pins σ H s):∀ {vs:List V} {ts:List Tr} {as:List Value},TrsAt H vs ts->Vals vs as->(∀t∈ts,Hi t)->∃fs,KatTups s.heap as fs/\fs.length=as.length/\∀v∈fs,∃(x:Int) (t:Tok),v= .int x t
 |vs,[],as,h,r,_=>by
  unfold TrsAt at h;subst h;cases r;exact⟨[], .nil,rfl,fun v m=>by cases m⟩
 |vs,t::ts,as,h,r,hh=>by
  obtain⟨v,p,rfl,h1,h2⟩:=h.inv
  cases r with
  |cons r1 r2=>
   obtain⟨fs,c,d,f⟩:=o9 I h2 r2 fun u m=>hh u (zp _ m);obtain⟨x,j,rfl⟩:=hh t zq;unfold TrAt at h1;obtain⟨a,ws,rfl,g,k⟩:=h1;cases r1;obtain⟨y,i,rfl,k1,k2⟩:=k.inv;unfold TrAt at k1;subst k1;obtain⟨bs,o,n,b,ho,hc,hd⟩:=c5 I g
   cases b with
   |cons b l=>
    obtain⟨tk,rfl⟩:=b;refine⟨_,KatTups.cons ho hc hd rfl c,by simp[d],fun v m=>?_⟩
    rcases zJ.mp m with e|m
    . exact⟨x,tk,e⟩
    . exact f v m
theorem jv{Q:VK}{a:Addr}{as:List Value}{vs:List V}{ts:List Tr}(hu:X.A.units+60 < cLine)(I:Inv X pins σ H s)(rv:Vals vs as)(hT:TrsAt H vs ts)(hlen:ts.length < 64)(hts:∀t∈ts,Hi t/\t.pure/\t.depth<=40)(hcm:∀t∈ts,∀u∈ts,Cm t u)(hcol:∀(E:Value->Shared->Prop) (Q':List Value->Shared->Prop),(∀h' tk,(∀b o,s.heap.get? b=some o->h'.get? b=some o)->s.heap.objs.size < h'.objs.size->Q' as {s with heap:=h',toks:=tk})->wpAny (model X.prog X.w) X.A.in1 (collect (.ref a)) Q' E s)(q:SrQ H ts Q):wpAny (model X.prog X.w) X.A (call (.builtin "sorted") [.ref a]) (EP X pins σ Q) X.xe s:=by
 have l1:=hT.len;have l2:=rv.length;have O:Srt.Ord fun i j=>ltT (ts.getD i .non) (ts.getD j .non):=⟨fun a b h=>eW h,fun a b c h1 h2=>mh h1 h2⟩
 have at_:∀i,i < as.length->∃t v a,ts.getD i .non=t/\t∈ts/\TrAt H v t/\RelV v a/\as.getD i Value.none=a:=fun i hi=>by
  have l:i < ts.length:=by omega
  refine hZq fun q_ e_=>?_;obtain⟨v,e1,g⟩:=hT.get (i:=i) (t:=ts[i]) (zo l);obtain⟨a,e3,e4⟩:=rv.get e1;subst e_;exact⟨ts[i],v,a,by rw[zt,zo l];rfl,A4 l,g,e4,by rw[zt,e3];rfl⟩
 refine iL (κ:=tuples' true) (vs:=as) O (by omega) (fun Q' a5=>?_) (fun h2 h' tk kp E' R hR=>?_) (fun h' tk kp i j R hi hj hR=>?_) fun p hp a4 h' tk D e kp sz he=>?_
 . exact hcol _ Q' a5
 . have r:Inv X pins σ H {s with heap:=h',toks:=tk}:=I.kept (t':=tk) kp;refine hZq fun q_ e_=>?_;obtain⟨fs,k1,k2,k3⟩:=o9 r hT rv fun t m=>(hts t m).1;subst e_;refine kat_kind (T:=Value.type "int") k1 (by omega) (fun v m=>?_) (by decide +kernel) ?_
   . obtain⟨x,t,rfl⟩:=k3 v m;exact .now
   . rw[show(Value.type "int" !=Value.type "tuple")=true by decide +kernel]
     exact hR
 . have r:Inv X pins σ H {s with heap:=h',toks:=tk}:=I.kept (t':=tk) kp;refine hZq fun q_ e_=>?_;obtain⟨t,v,a,et,mt,ht,ra,ea⟩:=at_ i hi;obtain⟨u,v',b,eu,mu,a3,rb,eb⟩:=at_ j hj;have k:=hcm t mt u mu;obtain⟨⟨x1,r1,rfl⟩,p1,d1⟩:=hts t mt;obtain⟨⟨f,r2,rfl⟩,p2,d2⟩:=hts u mu;unfold TrAt at ht a3;obtain⟨x0,bC,rfl,g0,g1⟩:=ht;obtain⟨y0,bB,rfl,g2,g3⟩:=a3;subst e_;cases ra;cases rb;refine hZq fun q_ e_=>?_;obtain⟨bY,o,n,q3,ho,bF,bi⟩:=c5 r g0;obtain⟨bR,o',n',q4,bw,bx,bg⟩:=c5 r g2;have z0:=g1.len;have z1:=g3.len;have z2:=q3.length;have z3:=q4.length;obtain⟨y1,bT,rfl,w1,w2⟩:=g1.inv;obtain⟨y2,bI,rfl,w3,w4⟩:=g3.inv;subst e_;unfold TrAt at w1 w3;subst w1 w3
   cases q3 with
   |cons q3 a6=>
    cases q4 with
    |cons q4 bj=>
     obtain⟨au,rfl⟩:=q3;obtain⟨y,rfl⟩:=q4;unfold Tr.depth at d1;unfold Trs.depth at d1;unfold Tr.pure at p1;unfold Trs.pure at p1;unfold kas_ask;rw[ea,eb];refine kat_lt (b:=true) ho bi bw bg ?_;rw[AI,AI];have aC:X.A.in1.in1.units+40+1 < cLine:=by show X.A.units+1+1+40+1 < cLine;omega
     have e:∀q,lexV (decide ((Value.int x1 au::_).toArray.size < (Value.int f y::_).toArray.size)) ((x1==f,decide (x1 < f))::q)=lexV (decide ((Tr.int x1::r1).length < (Tr.int f::r2).length)) ((x1==f,decide (x1 < f))::q):=fun q=>by
      rw[zx,zx,<-z2,<-z3,z0,z1]
     by_cases ex:(x1==f)=true
     . unfold Cm at k;unfold Cms at k
       have a7:Cms r1 r2:=by
        rcases k with⟨_,c⟩|⟨n,_⟩
        . exact c
        . unfold Tre.eqT at n;rw[ex]at n;cases n
       have hx':=fu (A:=X.A.in1.in1) r aC (fun d pp cc a1 a2 b1 b2=>fV r 40 d pp cc a1 a2 b1 b2 aC) (by omega) (.inl p1.2) a7 w2 w4 a6 bj
       refine vD hx' ?_;rw[e]
       have g:lexV (decide ((Tr.int x1::r1).length < (Tr.int f::r2).length)) ((x1==f,decide (x1 < f))::qs r1 r2)=ltT (ts.getD i .non) (ts.getD j .non):=by
        rw[et,eu];refine aW ?_;rw[ltT_iff];have e4:x1=f:=beq_iff_eq.mp ex;have el:decide ((Tr.int x1::r1).length < (Tr.int f::r2).length)=decide (r1.length < r2.length):=by simp
        rw[el];simp only[lexV,ex,if_true,e5,Tre.code,Tre.codes,LtC,LtCs,Co.num.injEq,e4,beq_self_eq_true];constructor
        . intro h;exact .inr ⟨trivial,h⟩
        . rintro(h|h)
          . exact absurd h (Int.lt_irrefl _)
          . exact h.2
       rw[g];exact hR
     . have exf:(x1==f)=false:=by simpa using ex
       rw[Ay];refine kat_cons (SeqAt.EqAt.int_int x1 au f y X.prog X.w _ _ ?_);rw[exf];refine kat_no ?_;refine oneLt_int ?_
       have g:decide (x1 < f)=ltT (ts.getD i .non) (ts.getD j .non):=by
        rw[et,eu];refine aW ?_;rw[ltT_iff,decide_eq_true_iff];have ne:x1≠f:=fun z=>ex (beq_iff_eq.mpr z);simp only[Tre.code,Tre.codes,LtC,LtCs,Co.num.injEq];constructor
        . intro h;exact .inl h
        . rintro(h|h)
          . exact h
          . exact absurd h.1 ne
       rw[g];exact hR
 . have aT:∀i∈p.toList,i < ts.length:=fun i m=>by
    have:=Af.mp (List.Perm.mem_iff hp |>.mp m);omega
   refine⟨.ref D,upd H D (.lst (p.toList.map fun i=>vs.getD i .non)),I.laid (t':=tk) kp sz ?_,rfl,?_⟩
   . refine⟨?_,p.toList.map fun i=>as.getD i Value.none,e,Vals.map rv fun i m=>by have:=aT i m;omega,he⟩
     rw[zm,Ae,hp.size];have:(64:Nat)<=sizeLine:=by decide +kernel
     omega
   . refine q _ _ (p.toList.map fun i=>ts.getD i .non) (I.hok.fresh sz) ?_ (TrsAt.map hT aT) fun i j t u bb e1 g=>?_
     . have:=List.Perm.map (fun i=>ts.getD i Tr.non) hp;rw[show as.length=ts.length by omega,cY]at this
       exact this
     . rw[zr]at e1 g;refine hZq fun q_ e_=>?_;obtain⟨a,ea,rfl⟩:=zy.mp e1;obtain⟨b,eb,rfl⟩:=zy.mp g;subst e_
       have hj:j < as.length:=by
        have:=(zv.mp eb).1;rw[Ae,hp.size]at this;exact this
       have:=a4 i j bb hj;rw[cg,cg,<-Ah,<-Ah,ea,eb]at this;exact this
def rP:List V->Hp->VK->Prop:=fun xs H Q=>∃(l:Addr) (vs:List V) (ts:List Tr),xs= [.ref l]/\H l=some (.lst vs)/\TrsAt H vs ts/\ts.length < 64/\(∀t∈ts,Hi t/\t.pure/\t.depth<=40)/\(∀t∈ts,∀u∈ts,Cm t u)/\SrQ H ts Q
theorem call_sortedI(hu:X.A.units+60 < cLine):cr X (.builtin "sorted") rP:=by
 intro pins s σ H xs us Q I r h;obtain⟨l,vs,ts,rfl,hl,i,a,f,g,q⟩:=h;obtain⟨u,rfl,k⟩:=dw r;cases k;obtain⟨as,rv,pl,_⟩:=I.list (SqL.of hl);have l1:=i.len;have l2:=rv.length;have j:(64:Nat)<=sizeLine:=by decide +kernel
 refine jv hu I rv i a f g (fun E m d=>?_) q;refine collect_list pl.isList ?_ (by omega)
 have:=d ((s.heap.push (seqObj "list" #[] 0)).update s.heap.objs.size (Obj.mapSeq (· ++as.toArray))) s.toks (fun b o e=>?_) ?_
 . simpa using this
 . have c:b < s.heap.objs.size:=Heap.lt_size e;rw[Heap.get?_update_ne _ _ _ _ (zO c),Heap.get?_push_ne _ _ _ (zO c)];exact e
 . rw[Heap.size_update,size_push'];exact AK _
end
end Dj
namespace L2
open PySem PySem.Spec PyProof.Rows
theorem pF{K K':PySem.W.Frag}{a:Addr}{mp:List (Option Nat)}{tl:TE}{tc:TT}{te:TE}{Q:VK}{σ rest:L2.St}{H H1:Hp}{xs:List V}(e:subS mp σ=none::none::rest)(ha:∀Q:VK,Q (.ref a) H1->tl σ H Q)(h1:SqL K H1 a xs)(h:∀D,H1 D=none->∃Pv:Nat->List V->Hp->Prop,Pv 0 [] (upd H1 D (.lst []))/\(∀i acc H,Pv i acc H->SqL K H a xs)/\
  (∀i z acc H,i < xs.length->Pv i acc H->xs[i]?=some z->∃T x y,z= .ref T/\SqT K' H T [x,y]/\tc (some x::some y::rest) H fun b H5=>if b=true then te (some x::some y::rest) H5 (CompN xs.length i D acc Pv)else CompS xs.length i acc Pv H5)/\∀acc H,Pv xs.length acc H->Q (.ref D) H):
 bQ mp (iY K tl) (gTup K' 2 (aV (aH 0) (aV (aH 1) gNil))) tc te σ H Q:=by
 unfold bQ;rw[e];refine ha _ ⟨a,rfl,⟨xs,h1⟩,fun D k=>?_⟩;refine hZq fun q_ e_=>?_;obtain⟨Pv,g,n,ps,o⟩:=h D k;subst e_;refine⟨fun i m acc H=>m=xs.length - i/\i<=xs.length/\Pv i acc H,⟨xs.length,by simp,zY _,g⟩,?_⟩
 rintro i m acc H ⟨rfl,hi,p⟩;have f:=n i acc H p;by_cases c:i < xs.length
 . refine .inr ⟨⟨xs,xs[i],f,by simp[c]⟩,?_⟩
   intro v H' z_;refine hZq fun q_ e_=>?_;obtain⟨rfl,y⟩:=z_;have j:=y xs f;obtain⟨T,x,z,rfl,l,d⟩:=ps i v acc _ c p j;subst e_;exact⟨T,[x,z],rfl,l,rfl,x,[z],rfl,z,[],rfl,rfl,ext2,d⟩
 . have ei:i=xs.length:=by omega
   subst ei;exact .inl ⟨⟨xs,f,zu _⟩,o acc H p⟩
end L2
namespace K44
open PySem L2 Mth Tre Wd Su Tw Fm
theorem f8{t u:Tr}{ts us:List Tr}(h:Cm t u)(hs:Cms ts us):Cms (t::ts) (u::us):=by
 unfold Cms;cases e:Tre.eqT t u
 . exact .inr ⟨rfl,h⟩
 . exact .inl ⟨rfl,hs⟩
theorem bf{us:List Tr}:Cms [] us:=by unfold Cms;trivial
theorem fF{a b:Int}:Cm (.int a) (.int b):=by unfold Cm;trivial
theorem dQ{ts us:List Tr}(h:Cms ts us):Cm (.tup ts) (.tup us):=by unfold Cm;exact h
theorem at_i{H:Hp}{x:Int}:TrAt H (.int x) (.int x):=by unfold TrAt;rfl
def cT(p:Nat×Int):Tr:= .tup [.int (p.1:Int), .int p.2]
noncomputable def hcs(n:Nat)(T:Wg.Tb)(i:Nat):List (Nat×Int):=((List.range n).filter fun c=>decide (T.ln i c≠0)).map fun c=>(T.hd c,-T.ln i c)
noncomputable def cnt(n:Nat)(T:Wg.Tb)(i:Nat):List (Nat×Int):=(T.sd i,T.bot)::hcs n T i
noncomputable def wf(scs:List Int)(g:Int)(p:Nat×Int):Fr:=(fx (p.2*scs.getD p.1 0) g,fy (p.2*scs.getD p.1 0) g)
def wT(p:Nat×Fr):Tr:= .tup [.int (p.1:Int),frT p.2]
noncomputable def gF(s:Int):List Int->Int
 | []=>s
 |x::r=>gF (Int.gcd s x:Int) r
theorem y9(s:Int)(a b:List Int):gF s (a++b)=gF (gF s a) b:=by
 induction a generalizing s with
 |nil=>rfl
 |cons x r c=>simp only[Ak,gF,c]
theorem xZ{s:Int}{a:List Int}(h:0 < s):0 < gF s a/\(gF s a).natAbs<=s.natAbs:=by
 induction a generalizing s with
 |nil=>exact⟨h,zu _⟩
 |cons x r e=>
  have f:0 < Int.gcd s x:=Int.gcd_pos_of_ne_zero_left _ (by omega)
  have b:Int.gcd s x<=s.natAbs:=Int.gcd_le_natAbs_left x (by omega)
  obtain⟨c,d⟩:=e (s:=(Int.gcd s x:Int)) (by omega)
  exact⟨c,zK d (by rw[Int.natAbs_natCast];exact b)⟩
theorem fX{n:Nat}{T:Wg.Tb}{i:Nat}{p:Nat×Int}(h:p∈hcs n T i):∃c,c < n/\T.ln i c≠0/\p=(T.hd c,-T.ln i c):=by
 unfold hcs at h;obtain⟨c,hc,rfl⟩:=zM.mp h;rw[Ag,Af,decide_eq_true_iff]at hc;exact⟨c,hc.1,hc.2,rfl⟩
theorem om{n:Nat}{T:Wg.Tb}{i:Nat}:(hcs n T i).length<=n:=by
 unfold hcs;rw[zm];exact zK (Aa _ _) (by rw[Aj];exact zu _)
section
variable{P:Program}{w:World}{K:PySem.W.Frag}{mg:Str->Option Value}{base:Heap}{T0:Addr}
def rB:Sp:=fun vs H Q _=>∃(D:TA) (m n:Nat) (scs:List Int) (us:List Tr) (ws:List V) (pl:Addr) (ls:List V) (T:Wg.Tb) (i:Nat) (ql:Addr),vs= [.ref D.a, .ref ql]/\Tk K D.C/\Tab D m n scs us ws pl ls T H/\H ql=some (.lst ((Wg.ls (n+2) (T.ln i)).map V.int))/\
 ∀l H' ws',H l=none->Same H H'->H' l=some (.lst ws')->TrsAt H' ws' ((hcs n T i).map cT)->Q (.ref l) H'
theorem yL:FnScope ["table","line"] ["table","line"] (ag sHco):= .of
theorem xB{f:Addr}{fd:FuncData}(F:Fun K "head_counts" "head_counts" sHco f fd)(B:Blt mg):FnOk P w K mg base CX0 1 f fd ["table","line"] (rB (K:=K)):=by
 refine F.okb yL fun vs H Q E h=>?_;refine hZq fun q_ e_=>?_;obtain⟨D,m,n,scs,us,ws,pl,ls,T,d,ql,rfl,hk,hT,v,k⟩:=h;subst e_;refine⟨rfl,fun aC A outer s hr=>?_⟩;have r:(["head","count"]:List Str).Nodup:=by decide +kernel
 refine⟨_,af (ar (aO (NC:= ["head","count"]) (mp:= [none,none]) (g:=gTup K 2 (aV (aH 0) (aV (aH 1) gNil))) rfl (jE (k:= .lst) rfl B.zi (a0 (aN (pv 0) rfl) (a0 (pv 1) a9)))
  (fun _ _ _ _ _=>aS (n:=2) rfl (ai (pgA 0 r) (ai (pgA 1 r) aL))) (fun _ _ _ _ _=>cy (aw iP (pv 1) ac (ay _)))
  (fun _ _ _ _ _=>aQ (a0 (pv 0) (a0 (c9 bu (pv 1)) a9))))),?_⟩
 have au:(20000:Nat)<=sizeLine:=by decide +kernel
 have n64:=hT.n64;refine j4 (xs:=nv (Wg.ls n T.hd)) (ys:=(Wg.ls (n+2) (T.ln d)).map V.int) (a:=D.ph) (b:=ql) (by rw[bN,zm,Wg.ls_len];omega) (fun Q q=>⟨_,rfl,D.a,D.C,D.dx,_,_,rfl,hT.ob,hk.cls,hk.nh,rfl,_,rfl,q⟩) (SqL.of hT.hd) (SqL.of v) fun L nL=>?_
 refine⟨fun j acc H'=>Same H H'/\H' L=some (.lst acc)/\TrsAt H' acc ((((List.range j).filter fun c=>decide (T.ln d c≠0)).map fun c=>(T.hd c,-T.ln d c)).map cT),⟨aa nL,a8, .nil⟩,fun j acc H' p=>⟨SqL.of (p.1 _ _ hT.hd),SqL.of (p.1 _ _ v)⟩,?_,?_⟩
 . rintro j Tt x y acc H' hj _ ⟨s2,u,l⟩ ex ey nT;rw[bN]at hj;rw[iR hj]at ex;rw[fJ (by omega)]at ey
   cases ex;cases ey;have i:=aa (o:= .tup [.int (T.hd j:Nat), .int (T.ln d j)]) nT;refine⟨Tt,_,rfl,SqT.of a8,rfl,_,_,rfl,_,_,rfl,rfl,ext2,?_⟩;refine⟨_,rfl,rfl,_,rfl,?_⟩
   have al:acc.length<=j:=by
    rw[l.len,zm,zm];exact zK (Aa _ _) (by rw[Aj];exact zu _)
   by_cases z:T.ln d j=0
   . rw[decide_eq_true (show V.int (T.ln d j)=V.int 0 by rw[z])]
     refine iteF ?_;refine CompS.mk (by rw[bN];exact hj) ⟨s2.trans i,i _ _ u,?_⟩
     rw[As,Ai];have:(List.filter (fun c=>decide (T.ln d c≠0)) [j])= []:=by simp[z]
     rw[this,AH];exact l.mono (Kd.of_same i)
   . rw[decide_eq_false (show¬V.int (T.ln d j)=V.int 0 from fun e=>z (V.int.inj e))];refine iteT ?_;refine⟨_,rfl,_,rfl,_,rfl,two,fun t nt=>?_⟩;have st:=aa (o:= .tup [.int (T.hd j:Nat), .int (-T.ln d j)]) nt;refine CompN.mk (by rw[bN];exact hj) (by omega) (st _ _ (i _ _ u)) ⟨aD nL ((s2.trans i).trans st),a8,?_⟩
     rw[As,Ai];have e1:(List.filter (fun c=>decide (T.ln d c≠0)) [j])= [j]:=by simp[z]
     rw[e1,zQ,zQ];have kd:=Kd.upd (ys:=acc++ [.ref t]) (st _ _ (i _ _ u));refine TrsAt.app (.cons ?_ .nil) ((l.mono (Kd.of_same (i.trans st))).mono kd);exact(bP (a:= .int (T.hd j:Nat)) (b:= .int (-T.ln d j)) a8 at_i at_i).mono kd
 . rintro acc H2 ⟨s2,u,l⟩;rw[bN]at l;exact k L H2 acc nL s2 u l
def qN:Sp:=fun vs H Q _=>∃(D:TA) (m n:Nat) (scs:List Int) (us:List Tr) (ws:List V) (pl:Addr) (ls:List V) (T:Wg.Tb) (lc:Addr) (wc:List V) (cs:List (Nat×Int)) (g:Int),vs= [.ref D.a, .ref lc, .int g]/\Tk K D.C/\Tab D m n scs us ws pl ls T H/\H lc=some (.lst wc)/\TrsAt H wc (cs.map cT)/\
 (∀p∈cs,p.1 < m/\Big p.2)/\(∀s∈scs,Big s)/\0 < g/\Big g/\cs.length < 64/\
 ∀l H' ws2 us2,H l=none->Same H H'->H' l=some (.lst ws2)->TrsAt H' ws2 us2->us2.Perm ((cs.map fun p=>(p.1,wf scs g p)).map wT)->(∀(i j:Nat) (t u:Tr),i<=j->us2[i]?=some t->us2[j]?=some u->ltT u t=false)->Q (.ref l) H'
theorem yE:FnScope ["table","counts","bottom"] ["table","counts","bottom"] (ag sWby):= .of
theorem wX{f:Addr}{fd:FuncData}(F:Fun K "weights_by" "weights_by" sWby f fd)(B:Blt mg)(zF:Cl P w K mg base 2 "fraction" ["top","bottom"] nj):
 FnOk P w K mg base CX0 3 f fd ["table","counts","bottom"] (qN (K:=K)):=by
 refine F.okb yE fun vs H Q E h=>?_;refine hZq fun q_ e_=>?_;obtain⟨D,m,n,scs,us,ws,pl,ls,T,lc,wc,cs,g,rfl,hk,hT,a1,a3,hcs,a7,g0,gb,a6,k⟩:=h;subst e_;refine⟨rfl,fun bg A outer s hr=>?_⟩;have l:(A.deeper (PyProof.Rows.envOfC (Str.ofString "weights_by") (ag sWby) s.heap.objs.size f bg)).units+60 < cLine:=by have:=hr.units;omega
 have v:(["place","count","table","bottom"]:List Str).Nodup:=by decide +kernel
 refine⟨_,af (ar (aA (Dj.call_sortedI l) rfl B.so PyProof.Rows.boot_sorted (a0 (aO (NC:= ["place","count","table","bottom"]) (mp:= [none,none,some 0,some 2]) (g:=gTup K 2 (aV (aH 0) (aV (aH 1) gNil))) rfl (aJ (pv 1))
  (fun _ _ _ _ _=>aS (n:=2) rfl (ai (pgA 0 v) (ai (pgA 1 v) aL))) (fun _ _ _ _ _=>aR)
  (fun _ _ _ _ _=>aQ (a0 (pv 0) (a0 (aj zF hr (a0 (am aU (pv 1) (ak (r:=rIxL K) ao (c7 (K:=K) rfl (pv 2) rfl) (pv 0) fun _ _=>rfl)) (a0 (pv 3) a9))) a9)))) a9))),?_⟩
 have bi:(20000:Nat)<=sizeLine:=by decide +kernel
 have wl:=a3.len;rw[zm]at wl;refine uD ?_;refine pF (K':=K) (xs:=wc) (rest:= [some (.ref D.a),some (.int g)]) (a:=lc) rfl (fun Q q=>⟨_,rfl,q⟩) (SqL.of a1) fun L nL=>?_;refine⟨fun j acc H'=>Same H H'/\H' L=some (.lst acc)/\TrsAt H' acc (((cs.take j).map fun p=>(p.1,wf scs g p)).map wT),⟨aa nL,a8,by rw[Ar];exact .nil⟩,fun j acc H' p=>SqL.of (p.1 _ _ a1),?_,?_⟩
 . rintro j z acc H' hj ⟨e,hL,hA⟩ ez;refine hZq fun q_ e_=>?_;obtain⟨t',a2,a5⟩:=(a3.mono (Kd.of_same e)).get' ez;rw[zr]at a2;obtain⟨⟨d,c⟩,eq,rfl⟩:=zy.mp a2;obtain⟨T',x,y,rfl,bb,hx,hy⟩:=bE a5;unfold TrAt at hx hy;subst hx hy;obtain⟨pm,cb⟩:=hcs _ (zw eq);subst e_;have i:=hT.same e;have sl:=hT.sl
   have aC:scs[d]?=some (scs.getD d 0):=by
    rw[zt,zo (by omega)]
    rfl
   refine⟨T',_,_,rfl,SqT.of bb,?_⟩;refine cB ?_;refine⟨_,rfl,_,rfl,_,rfl,D.a,D.C,D.dx,_,_,rfl,i.ob,hk.cls,hk.ns,rfl,_,rfl,D.psc,_,(d:Int), .int (scs.getD d 0),rfl,rfl,SqL.of i.sc,aB (by rw[zr,aC];rfl),c,_,rfl,rfl,⟨cb,a7 _ (zw aC)⟩,_,rfl,c*scs.getD d 0,g,rfl,g0,gb,fun q nq=>?_⟩
   have sq:=aa (o:= .tup [.int (fx (c*scs.getD d 0) g), .int (fy (c*scs.getD d 0) g)]) nq;refine⟨two,fun t nt=>?_⟩;have st:=aa (o:= .tup [.int (d:Int), .ref q]) nt;refine CompN.mk hj (by rw[hA.len,zm,zm,A7];omega) (st _ _ (sq _ _ hL)) ⟨aD nL ((e.trans sq).trans st),a8,?_⟩
   have kd:=Kd.upd (ys:=acc++ [.ref t]) (st _ _ (sq _ _ hL));rw[aq eq,zQ,zQ];refine TrsAt.app (.cons ?_ .nil) ((hA.mono (Kd.of_same (sq.trans st))).mono kd);have hq:TrAt (upd (upd H' q (.tup [.int (fx (c*scs.getD d 0) g), .int (fy (c*scs.getD d 0) g)])) t (.tup [.int (d:Int), .ref q])) (.ref q) (frT (wf scs g (d,c))):=bP (st _ _ a8) at_i at_i;exact(bP (a:= .int (d:Int)) (b:=frT (wf scs g (d,c))) a8 at_i hq).mono kd
 . rintro acc H2 ⟨e,hL,hA⟩;rw[wl,A3]at hA;refine⟨L,acc,_,rfl,hL,hA,by rw[zm,zm];exact a6,fun t mt=>?_,fun t mt u mu=>?_,fun D2 ws2 us2 aT hp au a4=>?_⟩
   . obtain⟨q,mq,rfl⟩:=zM.mp mt;refine⟨⟨_,_,rfl⟩,?_,?_⟩
     . unfold wT frT Tr.pure Trs.pure Trs.pure Tr.pure Trs.pure Tr.pure Trs.pure;simp[Trs.pure,Tr.pure]
     . unfold wT frT;simp[Tr.depth,Trs.depth]
   . refine hZq fun q_ e_=>?_;obtain⟨q,mq,rfl⟩:=zM.mp mt;obtain⟨q',bj,rfl⟩:=zM.mp mu;subst e_;exact dQ (f8 fF (f8 (dQ (f8 fF (f8 fF bf))) bf))
   . have sD:=aa (o:= .lst ws2) aT;exact k D2 _ ws2 us2 (e.free aT) (e.trans sD) a8 (au.mono (Kd.of_same sD)) hp a4
end
end K44
namespace L2
open PySem PySem.Spec PyProof.Rows
theorem l8{n:Nat}{D:Addr}{tc:TT}{te:TE}{rest:L2.St}{Q:VK}{H1:Hp}(Pv:Nat->List V->Hp->Prop)(h0:Pv 0 [] (upd H1 D (.lst [])))(hs:∀(i:Nat) acc H,i < n->Pv i acc H->tc (some (.int (0+(i:Int)))::rest) H fun b H5=>if b=true then te (some (.int (0+(i:Int)))::rest) H5 (CompN n i D acc Pv)else CompS n i acc Pv H5)(hd:∀acc H,Pv n acc H->Q (.ref D) H):k7 (Itr 0 n) D tc te rest Q H1:=by
 refine⟨fun i m acc H=>m=n - i/\i<=n/\Pv i acc H,⟨n,by simp,zY _,h0⟩,?_⟩
 rintro i m acc H ⟨rfl,hi,p⟩;by_cases a:i < n
 . refine .inr ⟨a,fun x H' y=>⟨ext1,?_⟩⟩;obtain⟨e,y⟩:=y;subst e y;exact hs i acc _ a p
 . have e:i=n:=by omega
   subst e;exact .inl ⟨zu _,hd acc H p⟩
section
variable{X:Cx}
end
end L2
namespace Tre
open PySem PySem.Spec PyProof.Rows L2
section
variable{X:Cx}
def rEqL(b:Bool):R2:=fun x y H Q=>∃l m vs ws ts us,x= .ref l/\y= .ref m/\H l=some (.lst vs)/\H m=some (.lst ws)/\TrsAt H vs ts/\TrsAt H ws us/\(Trs.pure ts\/Trs.pure us)/\Trs.depth ts<=40/\Q (.bl (eqTs ts us==b)) H
theorem tV{ts us:List Tr}(h:ts.length≠us.length):eqTs ts us=false:=by
 rw[dO,Bool.and_eq_false_iff];right;simp[h]
theorem tw{A:Around}{pins:List (Addr×Obj)}{σ:L2.St}{H:Hp}{s:Shared}{l m:Addr}{vs ws:List V}{ts us:List Tr}(hu:A.units+50 < cLine)(I:Inv X pins σ H s)(h1:H l=some (.lst vs))(h2:H m=some (.lst ws))(k1:TrsAt H vs ts)(k2:TrsAt H ws us)(hp:Trs.pure ts\/Trs.pure us)(hd:Trs.depth ts<=40):
 SeqAt.RcAt A s (.ref l) (.ref m) (eqTs ts us)/\SeqAt.RcNeAt A s (.ref l) (.ref m) (!eqTs ts us):=by
 obtain⟨as,r1,a,_⟩:=I.list (SqL.of h1);obtain⟨bs,r2,p2,_⟩:=I.list (SqL.of h2);have l1:=k1.len;have l2:=k2.len;have f:=r1.length;have l4:=r2.length;by_cases z:ts.length=us.length
 . have hsz:as.toArray.size=bs.toArray.size:=by rw[zx,zx];omega
   have he:=fun j (d:j < as.toArray.size) (g2:j < bs.toArray.size)=>kL (A:=A.in1) I (by show A.units+1+42 < cLine;omega) k1 k2 hp hd r1 r2 j d g2
   have b:=SeqAt.RcAt.lists (A:=A) (e:=eqJ ts us) a.isList p2.isList hsz (by omega) he
   have c:=SeqAt.RcNeAt.lists (A:=A) (e:=eqJ ts us) a.isList p2.isList hsz (by omega) he
   have e:(List.range as.toArray.size).all (eqJ ts us)=eqTs ts us:=by
    rw[dO,<-z,Nat.min_self];have:as.toArray.size=ts.length:=by rw[zx];omega
    rw[this];simp
   rw[e]at b c;exact⟨b,c⟩
 . have hsz:(as.toArray.size !=bs.toArray.size)=true:=by
    rw[zx,zx];simp only[bne_iff_ne,ne_eq];omega
   rw[tV z];exact⟨SeqAt.RcAt.lists_lengths a.isList p2.isList hsz (by omega),SeqAt.RcNeAt.lists_lengths a.isList p2.isList hsz (by omega)⟩
theorem sK(hu:X.A.units+60 < cLine):OpR X (compareOp .NotEq) (rEqL false):=by
 intro pins s σ H x y v u Q I b a h;obtain⟨l,m,vs,ws,ts,us,rfl,rfl,h1,h2,k1,k2,hp,hd,q⟩:=h;cases b;cases a;rw[zj]at q;exact(tw (A:=X.A) (by omega) I h1 h2 k1 k2 hp hd).2 X.prog X.w X.xe _ ⟨.bl (!eqTs ts us),H,I,rfl,q⟩
open PySem PySem.Spec PyProof.Rows L2
end
open PySem PySem.Spec PyProof.Rows L2
theorem b9{M:Model}{A:Around}{E:Value->Shared->Prop}{s:Shared}{l:Addr}{items:Array Value}{n:Nat}{Q:Array Value->Shared->Prop}(hl:s.heap.get? l=some {cls:= .type "list",data:= .seq items n})(h:Q items s):wpAny M A (Builtin.List.listItems (.ref l)) Q E s:=by
 unfold Builtin.List.listItems;refine wpAny_bind ?_;unfold seqItems?;refine wpAny_bind (wpAny_load hl ?_);exact wpAny_pure (wpAny_pure h)
theorem jL(l b:Addr)(items items2:Array Value)(n n2:Nat):∀(k i:Nat) (q:List (Bool×Bool)),items.size - i=k->
 Meets (Builtin.«list.__eq__.loop» {pos:= [Value.ref l,Value.ref b,rawInt (i:Int),rawInt 0]}) (fun A R s=>s.heap.get? l=some {cls:= .type "list",data:= .seq items n}/\s.heap.get? b=some {cls:= .type "list",data:= .seq items2 n2}/\
  bD A.in1 s (items.toList.drop i) (items2.toList.drop i) q/\R (.ok (.ret (.bool (lexV (decide (items.size < items2.size)) q)))) s):=by
 intro k
 induction k with
 |zero=>
  intro i q hk prog w A R s h;refine hZq fun q_ e_=>?_;obtain⟨hl,hb,hx,h⟩:=h;subst e_;have e1:items[i]?=none:=by simp;omega
  have d1:items.toList.drop i= []:=by simp;omega
  rw[d1]at hx
  have hq:q= []:=by
   cases h2:items2.toList.drop i<;>(rw[h2]at hx;unfold bD at hx;exact hx)
  subst hq;refine wpAny_bind (b9 hl (wpAny_bind (b9 hb ?_)));show wpAny _ _ (match (items[i]?,items2[i]?)with|(some x,some y)=>_|_=>_) _ _ _
  rw[e1];refine wpAny_bind (b9 hl (wpAny_bind (b9 hb ?_)));exact wpAny_pure h
 |succ k j=>
  intro i q hk prog w A R s h;refine hZq fun q_ e_=>?_;obtain⟨hl,hb,hx,h⟩:=h;subst e_;have hi:i < items.size:=by omega
  have d1:items.toList.drop i=items[i]::items.toList.drop (i+1):=by
   rw[List.drop_eq_getElem_cons (by simpa using hi)]
   simp
  refine wpAny_bind (b9 hl (wpAny_bind (b9 hb ?_)));show wpAny _ _ (match (items[i]?,items2[i]?)with|(some x,some y)=>_|_=>_) _ _ _
  rw[d1]at hx;by_cases a:i < items2.size
  . have c:items2.toList.drop i=items2[i]::items2.toList.drop (i+1):=by
     rw[List.drop_eq_getElem_cons (by simpa using a)]
     simp
    rw[c]at hx;rw[Ao hi,Ao a]
    cases q with
    |nil=>exact hx.elim
    |cons p q=>
     refine hZq fun q_ e_=>?_;obtain⟨e,lo⟩:=p;obtain⟨he,f,d⟩:=hx;subst e_;refine wpAny_bind (he prog w _ _ ?_)
     cases e with
     |true=>
      refine wpAny_pure ⟨plainId_quiet MeetsSeq3.plain_eq_loop _,codeAny_builtin MeetsSeq3.entry_eq_loop ?_⟩;rw[Around.under_plainId MeetsSeq3.plain_eq_loop _];have:=j (i+1) q (by omega) prog w A R s ⟨hl,hb,d rfl,h⟩
      exact this
     |false=>
      refine wpAny_bind (b9 hl (wpAny_bind (b9 hb ?_)));show wpAny _ _ (match items[i]?,items2[i]?,CmpOp.Lt with|some _,some _,CmpOp.Eq=>_|some _,some _,CmpOp.NotEq=>_|some x,some y,x_1=>_|_,_,_=>_) _ _ _
      rw[Ao hi,Ao a];refine wpAny_bind (f rfl prog w _ _ ?_);exact wpAny_pure h
  . have g:items2[i]?=none:=by simp;omega
    have c:items2.toList.drop i= []:=by simp;omega
    rw[c]at hx;have hq:q= []:=by unfold bD at hx;exact hx
    subst hq;rw[Ao hi,g];refine wpAny_bind (b9 hl (wpAny_bind (b9 hb ?_)));exact wpAny_pure h
theorem kJ(l b:Addr)(items items2:Array Value)(n n2:Nat)(q:List (Bool×Bool)):
 Meets (Builtin.«list.__lt__» ⟨[.ref l, .ref b],[]⟩)
  (fun A R s=>s.heap.get? l=some {cls:= .type "list",data:= .seq items n}/\s.heap.get? b=some {cls:= .type "list",data:= .seq items2 n2}/\
   bD A.in1 s items.toList items2.toList q/\R (.ok (.ret (.bool (lexV (decide (items.size < items2.size)) q)))) s):=by
 intro prog w A R s h;obtain⟨hl,hb,hx,h⟩:=h;refine wpAny_bind (m:=slotArgs _ _ _) (wpAny_pure ?_);refine wpAny_bind (wpAny_isInstance (T:="list") (b:=true) ⟨_,hb,rfl⟩ (by first|exact AutoSeq1.sub_list_list|exact PySem.F.sub_list_list|rfl) ?_)
 refine wpAny_pure ⟨plainId_quiet MeetsSeq3.plain_eq_loop _,codeAny_builtin MeetsSeq3.entry_eq_loop ?_⟩;rw[Around.under_plainId MeetsSeq3.plain_eq_loop _];exact jL l b items items2 n n2 _ 0 q rfl prog w A R s ⟨hl,hb,by simpa using hx,h⟩
open PySem PySem.Spec PySem.W PyProof.Rows L2 Srt
section
variable{X:Cx}
end
open PySem PySem.Spec PySem.W PyProof.Rows L2 Srt
theorem p9{A:Around}{s:Shared}{l b:Addr}{items items2:Array Value}{n n2:Nat}{q:List (Bool×Bool)}(hl:s.heap.get? l=some {cls:= .type "list",data:= .seq items n})(hb:s.heap.get? b=some {cls:= .type "list",data:= .seq items2 n2})(hu:A.units < cLine)(hx:bD A.in1 s items.toList items2.toList q):LtAt A s (.ref l) (.ref b) (lexV (decide (items.size < items2.size)) q):=by
 intro prog w E Q h
 exact richCompare_meets_room (op:= .Lt) ⟨_,hl,rfl⟩ ⟨_,hb,rfl⟩ PySem.F.slot_list_lt PySem.F.entry_list_lt (PySem.F.args_list_lt_2 _ _) (kJ l b items items2 n n2 q)
  ⟨hl,hb,hx,show Value.bool (lexV (decide (items.size < items2.size)) q)≠Value.notImplemented/\Q (.bool (lexV (decide (items.size < items2.size)) q)) s from⟨(fun x=>nomatch x),h⟩⟩ hu
variable{X:Cx}
def rLt2:R2:=fun x y H Q=>∃(l b:Addr) (u v:Int),x= .ref l/\y= .ref b/\H l=some (.lst [.int u, .int v])/\H b=some (.lst [.int 0, .int 0])/\Q (.bl (decide (u < 0\/(u=0/\v < 0)))) H
theorem wS(hu:X.A.units+50 < cLine):OpR X (compareOp .Lt) rLt2:=by
 intro pins s σ H x y vx vy Q I p m h;refine hZq fun q_ e_=>?_;obtain⟨l,b,u,v,rfl,rfl,hl,hb,q⟩:=h;subst e_;cases p;cases m;refine hZq fun q_ e_=>?_;obtain⟨its,n,r,e,z⟩:=I.lst hl;obtain⟨f,n2,r2,e2,z2⟩:=I.lst hb;subst e_;have g:X.A.in1.units+40+1 < cLine:=by show X.A.units+1+40+1 < cLine;omega
 have at_:∀a c:Int,TrsAt H [.int a, .int c] [.int a, .int c]:=fun a c=> .cons (by unfold TrAt;rfl) (.cons (by unfold TrAt;rfl) .nil)
 have j:∀a c:Int,Cm (.int a) (.int c):=fun a c=>by unfold Cm;trivial
 have i:Cms [.int u, .int v] [.int 0, .int 0]:=by
  unfold Cms;cases k:Tre.eqT (.int u) (.int 0)
  . exact .inr ⟨rfl,j _ _⟩
  . refine .inl ⟨rfl,?_⟩;unfold Cms;cases k2:Tre.eqT (.int v) (.int 0)
    . exact .inr ⟨rfl,j _ _⟩
    . exact .inl ⟨rfl,by unfold Cms;trivial⟩
 have hx:=fu (A:=X.A.in1) I g (fun d o cc a1 a2 b1 b2=>fV I 40 d o cc a1 a2 b1 b2 g) (by simp[Trs.depth,Tr.depth]) (.inl (by simp[Trs.pure,Tr.pure])) i (at_ u v) (at_ 0 0) r r2
 have:=p9 (A:=X.A) e e2 (by omega) (by simpa using hx)
 have l2:=r.length;have l3:=r2.length
 have t:lexV (decide (its.toArray.size < f.toArray.size)) (qs [.int u, .int v] [.int 0, .int 0])=decide (u < 0\/(u=0/\v < 0)):=by
  have e0:decide (its.toArray.size < f.toArray.size)=decide (([.int u, .int v]:List Tr).length < ([.int 0, .int 0]:List Tr).length):=by
   rw[zx,zx,<-l2,<-l3];rfl
  rw[e0];refine aW ?_;rw[e5,decide_eq_true_iff];simp[codes,code,LtCs,LtC]
 rw[t]at this;exact this X.prog X.w X.xe _ ⟨.bl _,H,I,rfl,q⟩
end Tre
namespace K44
open PySem L2 Mth Tre Wd Su Tw Fm
noncomputable def gcn(scs:List Int)(cs:List (Nat×Int)):Int:=gF 0 (cs.map fun p=>p.2*scs.getD p.1 0)
noncomputable def wts(scs:List Int)(cs:List (Nat×Int)):List (Nat×Fr):=cs.map fun p=>(p.1,wf scs (gcn scs cs) p)
def Ngv(n:Nat)(T:Wg.Tb)(i:Nat):Prop:=T.ln i n < 0\/(T.ln i n=0/\T.ln i (n+1) < 0)
def ux(H H':Hp)(l:Addr)(ws2:List V)(us2:List Tr)(wl:List (Nat×Fr)):Prop:=
 H' l=some (.lst ws2)/\TrsAt H' ws2 us2/\us2.Perm (wl.map wT)/\∀(i j:Nat) (t u:Tr),i<=j->us2[i]?=some t->us2[j]?=some u->ltT u t=false
theorem Okt.head{m n:Nat}{L:Nat->Nat->Int}{T:Wg.Tb}(h:Okt m n L T){i c:Nat}(hi:i < m)(hs:T.sd i < m)(hc:c < n)(z:T.ln i c≠0):T.hd c < m:=
 Classical.byContradiction fun y=>z (h.st c hc hc (by omega) i hi hs)
theorem Wb.cnts{m n C:Nat}{L:Nat->Nat->Int}{scs:List Int}{T:Wg.Tb}(h:Wb m n L scs C)(O:Okt m n L T){i:Nat}(hi:i < m)(hs:T.sd i < m):∀p∈cnt n T i,p.1 < m/\p.2.natAbs<=C:=by
 obtain⟨b1,b2⟩:=h.bnd O.inv O.pm;intro p mp;unfold cnt at mp;rcases zJ.mp mp with rfl|mp
 . exact⟨hs,b1⟩
 . obtain⟨c,hc,hz,rfl⟩:=fX mp;refine⟨O.head hi hs hc hz,?_⟩;show(-T.ln i c).natAbs<=C;rw[AU];exact b2 i c hi (by omega)
theorem Wb.gcn{m n C:Nat}{L:Nat->Nat->Int}{scs:List Int}{T:Wg.Tb}(h:Wb m n L scs C)(sl:scs.length=m)(O:Okt m n L T){i:Nat}(hi:i < m)(hs:T.sd i < m):0 < K44.gcn scs (cnt n T i)/\(K44.gcn scs (cnt n T i)).natAbs<=C*C:=by
 obtain⟨b1,b2⟩:=h.bnd O.inv O.pm;unfold K44.gcn cnt;simp only[zU,gF]
 have b:scs.getD (T.sd i) 0∈scs:=by
  rw[zt,zo (by omega)]
  exact A4 _
 obtain⟨g,s1⟩:=h.sc _ b;have c:0 < T.bot*scs.getD (T.sd i) 0:=Int.mul_pos O.inv.pos g
 have e:(Int.gcd 0 (T.bot*scs.getD (T.sd i) 0):Int)=T.bot*scs.getD (T.sd i) 0:=by
  rw[Int.gcd_zero_left];omega
 rw[e];obtain⟨d,f⟩:=xZ (a:=(hcs n T i).map fun p=>p.2*scs.getD p.1 0) c;refine⟨d,zK f ?_⟩;rw[Ac];exact AF b1 s1
theorem big2{C:Nat}{x:Int}(h:x.natAbs<=C*C)(hb:C < lim):Big x:=by
 exact zZ h (zZ (AF (Nat.le_of_lt hb) (Nat.le_of_lt hb)) (zZ (Nat.le_of_eq (Nat.pow_add 2 2600 2600).symm) (Nat.pow_lt_pow_right (by decide) (by decide))))
section
variable{P:Program}{w:World}{K:PySem.W.Frag}{mg:Str->Option Value}{base:Heap}{T0:Addr}
def qP:Sp:=fun vs H Q _=>∃(D:TA) (m n C:Nat) (scs:List Int) (us:List Tr) (ws:List V) (pl:Addr) (ls:List V) (L:Nat->Nat->Int) (T:Wg.Tb) (i:Nat),vs= [.ref D.a, .int (i:Int)]/\Tk K D.C/\Tab D m n scs us ws pl ls T H/\Wb m n L scs C/\Okt m n L T/\i < m/\T.sd i < m/\n < 60/\
 ∀l H' ws2 us2,H l=none->Same H H'->ux H H' l ws2 us2 (wts scs (cnt n T i))->Q (.ref l) H'
theorem scWag:FnScope ["table","at","counts","shared","place","count"] ["table","at"] (ag sWag):= .of
theorem wY{f fC:Addr}{fd fdC:FuncData}(F:Fun K "weights_against" "weights_against" sWag f fd)(B:Blt mg)(zH:Cl P w K mg base 1 "head_counts" ["table","line"] (rB (K:=K)))(FC:Fun K "common_divisor" "common_divisor" sCd fC fdC)(bC:Binds K fdC ["one","other"] [])(mC:mg "common_divisor"=some (.ref fC))(zW:Cl P w K mg base 3 "weights_by" ["table","counts","bottom"] (qN (K:=K))):
 FnOk P w K mg base CX0 4 f fd ["table","at"] (qP (K:=K)):=by
 have GC:FnOk P w K mg base CX0 1 fC fdC ["one","other"] spCd:=sO FC B;refine F.okb scWag fun vs H Q E h=>?_;refine hZq fun q_ e_=>?_;obtain⟨D,m,n,C,scs,us,ws,pl,ls,L,T,i,rfl,hk,z,g,hO,hi,hs,bj,k⟩:=h;subst e_;refine⟨rfl,fun bB A outer s hr=>?_⟩;have a1:Room 1 _:=hr.mono (by decide)
 refine⟨_,ad (psA 2 scWag.nd (am eE (bX (a0 (aQ (a0 (ak ao (aN (pv 0) rfl) (pv 1) fun _ _=>rfl) (a0 (aN (pv 0) rfl) a9))) a9)) (aj zH a1 (a0 (pv 0) (a0 (ak ao (aN (pv 0) rfl) (pv 1) fun _ _=>rfl) a9)))))
  (ad (psA 3 scWag.nd ac)
  (ad (bK PassesOwn.never rfl (aJ (pv 2)) (aS rfl (ai (pgA 4 scWag.nd) (ai (pgA 5 scWag.nd) aL)))
   (af (psA 3 scWag.nd (dZ GC a1 rfl mC FC.kp bC .nil gX (a0 (pv 3) (a0 (am aU (pv 5) (ak ao (aN (pv 0) rfl) (pv 4) fun _ _=>rfl)) a9))))))
  (af (ar (aj zW hr (a0 (pv 0) (a0 (pv 2) (a0 (pv 3) a9)))))))),?_⟩
 have bi:(20000:Nat)<=sizeLine:=by decide +kernel
 have n64:=z.n64;have sl:=z.sl;refine hZq fun q_ e_=>?_;obtain⟨q,eq,hq,_,_⟩:=z.ro.2 i hi;obtain⟨b1,b2⟩:=g.bnd hO.inv hO.pm;subst e_;refine⟨_,rfl,D.a,D.C,D.dx,_,_,rfl,z.ob,hk.cls,hk.nd,rfl,_,rfl,D.pss,_,(i:Int),_,rfl,rfl,SqL.of z.sd,aB (iR hi),_,rfl,D.a,D.C,D.dx,_,_,rfl,z.ob,hk.cls,hk.nb,rfl,two,fun t nt=>?_⟩;have sT:=aa (o:= .tup [.int (T.sd i:Nat), .int T.bot]) nt;refine⟨(by show 1<=sizeLine;decide),fun l1 a5=>?_⟩
 have r:=aa (o:= .lst [.ref t]) a5;have u:=(z.same sT).same r;refine⟨_,rfl,_,rfl,D.a,D.C,D.dx,_,_,rfl,u.ob,hk.cls,hk.nl,rfl,_,rfl,pl,_,(i:Int),_,rfl,rfl,SqL.of u.li,aB eq,?_⟩;refine⟨D,m,n,scs,us,ws,pl,ls,T,i,q,rfl,hk,u,r _ _ (sT _ _ hq),fun lh H2 wh bx s2 a4 a3=>?_⟩;have a7:=a3.len;rw[zm]at a7;have bw:=om (n:=n) (T:=T) (i:=i);refine⟨l1,lh,[.ref t],wh,rfl,rfl,s2 _ _ a8,a4,by show 1+wh.length<=sizeLine;omega,fun lc bg=>?_⟩
 have s3:=aa (o:= .lst ([.ref t]++wh)) bg;have y:=(u.same s2).same s3;have d:Same H (upd H2 lc (.lst ([.ref t]++wh))):=((sT.trans r).trans s2).trans s3
 have e:TrsAt (upd H2 lc (.lst ([.ref t]++wh))) ([.ref t]++wh) ((cnt n T i).map cT):=by
  unfold cnt;rw[zU];refine .cons ?_ (a3.mono (Kd.of_same s3));exact bP (a:= .int (T.sd i:Nat)) (b:= .int T.bot) (s3 _ _ (s2 _ _ (r _ _ a8))) at_i at_i
 obtain⟨H3,aC⟩:∃H3,H3=upd H2 lc (.lst ([.ref t]++wh)):=⟨_,rfl⟩;have v:H3 lc=some (.lst ([.ref t]++wh)):=by rw[aC];exact a8
 rw[<-aC]at e y d ⊢;obtain⟨wc,a6⟩:∃wc,wc=([.ref t]++wh:List V):=⟨_,rfl⟩;rw[<-a6]at v e;have a2:=e.len;rw[zm]at a2;have au:=g.cnts hO hi hs;obtain⟨g0,g1⟩:=g.gcn sl hO hi hs;refine⟨_,rfl,lc,rfl,⟨_,SqL.of v⟩,?_⟩;refine cE (xs:=wc) (fun j σ H'=>H'=H3/\∃v4 v5:Option V,σ= [some (.ref D.a),some (.int (i:Int)),some (.ref lc),some (.int (gF 0 (((cnt n T i).take j).map fun p=>p.2*scs.getD p.1 0))),v4,v5]) ⟨rfl,none,none,rfl⟩ (fun j σ H' _ p=>by rw[p.1];exact SqL.of v) ?_ ?_
 . intro j x σ H1 ex z_;refine hZq fun q_ e_=>?_;obtain⟨rfl,v4,v5,rfl⟩:=z_;obtain⟨t',et,ht⟩:=e.get' ex;rw[zr]at et;obtain⟨⟨pc,c⟩,ep,rfl⟩:=zy.mp et;obtain⟨rf,x1,y1,rfl,bb,hx,hy⟩:=bE ht;unfold TrAt at hx hy;subst hx hy;obtain⟨pm,cb⟩:=au _ (zw ep)
   have aT:scs[pc]?=some (scs.getD pc 0):=by
    rw[zt,zo (show pc < scs.length by omega)]
    rfl
   obtain⟨s0,s1⟩:=g.sc _ (zw aT);subst e_;refine⟨rf,_,rfl,SqT.of bb,rfl,_,_,rfl,_,_,rfl,rfl,?_⟩;refine⟨_,rfl,_,rfl,_,rfl,D.a,D.C,D.dx,_,_,rfl,y.ob,hk.cls,hk.ns,rfl,_,rfl,D.psc,_,(pc:Int), .int (scs.getD pc 0),rfl,rfl,SqL.of y.sc,aB (by rw[zr,aT];rfl),c,_,rfl,rfl,⟨ck cb g.big,ck s1 g.big⟩,_,_,rfl,?_⟩
   refine⟨rfl,some (.int (pc:Int)),some (.int c),?_⟩;rw[aq ep,zQ,y9];rfl
 . intro σ H1 z_;refine hZq fun q_ e_=>?_;obtain⟨rfl,v4,v5,rfl⟩:=z_;subst e_;rw[a2,A3];refine⟨_,rfl,_,rfl,_,rfl,D,m,n,scs,us,ws,pl,ls,T,lc,wc,cnt n T i,gcn scs (cnt n T i),rfl,hk,y,v,e,fun p mp=>⟨(au p mp).1,ck (au p mp).2 g.big⟩,fun x mx=>ck (g.sc x mx).2 g.big,g0,big2 g1 g.big,?_,fun l H' ws2 us2 nl s4 h1 h2 h3 h4=>?_⟩
   . unfold cnt;rw[zV];omega
   . exact k l H' ws2 us2 (d.free nl) (d.trans s4) ⟨h1,h2,h3,h4⟩
def ButY(T0:Addr)(D:TA)(H H':Hp):Prop:=∀x o,x≠T0->x≠D.a->x≠D.pss->x≠D.ph->H x=some o->H' x=some o
theorem ButY.trans{T0:Addr}{D:TA}{H H1 H2:Hp}(a:ButY T0 D H H1)(b:ButY T0 D H1 H2):ButY T0 D H H2:=fun x o h0 h1 h2 h3 e=>b x o h0 h1 h2 h3 (a x o h0 h1 h2 h3 e)
theorem ButY.of_same{T0:Addr}{D:TA}{H H':Hp}(s:Same H H'):ButY T0 D H H':=fun x o _ _ _ _ e=>s _ _ e
theorem ButY.of_x{T0:Addr}{D:TA}{H H':Hp}(s:ButX D H H'):ButY T0 D H H':=fun x o _ h1 h2 h3 e=>s x o h1 h2 h3 e
theorem ButY.of_t{T0:Addr}{D:TA}{H H':Hp}(s:ButT T0 H H'):ButY T0 D H H':=fun x o h0 _ _ _ e=>s x o h0 e
theorem Lm.same{T0:Addr}{H H':Hp}(s:Same H H')(h:Lm T0 H):Lm T0 H':=by
 rcases h with h|⟨c,h,h2⟩
 . exact .inl (s _ _ h)
 . exact .inr ⟨c,s _ _ h,s _ _ h2⟩
theorem Lm.butX{T0:Addr}{D:TA}{m n:Nat}{scs:List Int}{us:List Tr}{ws:List V}{pl:Addr}{ls:List V}{T:Wg.Tb}{H H':Hp}(t:Tab D m n scs us ws pl ls T H)(b:ButX D H H')(h:Lm T0 H):Lm T0 H':=by
 have k:∀ {x:Addr} {o:HO},H x=some o->(∀C dx fs,o≠ .ins C dx fs)->(∀xs,o≠ .lst xs)->H' x=some o:=fun{x o} e h1 h2=>by
  refine b x o (fun z=>?_) (fun z=>?_) (fun z=>?_) e
  . rw[z,t.ob]at e;exact h1 _ _ _ (zN e).symm
  . rw[z,t.sd]at e;exact h2 _ (zN e).symm
  . rw[z,t.hd]at e;exact h2 _ (zN e).symm
 rcases h with h|⟨c,h,h2⟩
 . exact .inl (k h (by intro a b c z;cases z) (by intro a z;cases z))
 . exact .inr ⟨c,k h (by intro a b c z;cases z) (by intro a z;cases z),k h2 (by intro a b c z;cases z) (by intro a z;cases z)⟩
theorem Lm.tbl{T0:Addr}{H:Hp}(h:Lm T0 H):∃ps,H T0=some (.tbl ps):=h.tb
theorem sU{m:Nat}{f:Nat->Nat}:nv (Wg.ls m f)=(Wg.ls m fun i=>((f i:Nat):Int)).map V.int:=by
 unfold nv Wg.ls;rw[At,At];rfl
theorem fY{m i:Nat}{f:Nat->Int}(h:i < m):(Wg.ls m f).getD i 0=f i:=by
 rw[zt,Wg.ls_at h];rfl
theorem cut2{n:Nat}{f:Nat->Int}:cutV ((Wg.ls (n+2) f).map V.int) (some (-2)) none= [.int (f n), .int (f (n+1))]:=by
 have l:((Wg.ls (n+2) f).map V.int).length=n+2:=by rw[zm,Wg.ls_len]
 have h1:HT.sIx (n+2) 0 (some (-2))=n:=by
  show(if (-2:Int) < 0 then((-2:Int)+((n+2:Nat):Int)).toNat else min (-2:Int).toNat (n+2))=n;rw[if_pos (by decide)]
  omega
 have h2:HT.sIx (n+2) (n+2) none=n+2:=rfl;unfold cutV;rw[l,h1,h2];refine List.ext_getElem? fun i=>?_;rw[List.getElem?_take,List.getElem?_drop,zr];by_cases hi:i < 2
 . rw[if_pos (by omega),Wg.ls_at (by omega)]
   rcases Nat.lt_or_ge i 1 with z|z
   . have:i=0:=by omega
     subst this;rfl
   . have:i=1:=by omega
     subst this;rfl
 . rw[if_neg (by omega)]
   exact(AM (by simp;omega)).symm
instance {n:Nat} {T:Wg.Tb} {i:Nat}:Decidable (Ngv n T i):=by unfold Ngv;infer_instance
def qZ(T0:Addr):Sp:=fun vs H Q _=>∃(D:TA) (m n C:Nat) (scs:List Int) (us:List Tr) (ws:List V) (pl:Addr) (ls:List V) (L:Nat->Nat->Int) (T:Wg.Tb),vs= [.ref D.a]/\Tk K D.C/\Tab D m n scs us ws pl ls T H/\Wb m n L scs C/\Okt m n L T/\Lm T0 H/\n < 60/\
 (∀pl' ls' T' H',ButY T0 D H H'->Lm T0 H'->Tab D m n scs us ws pl' ls' T' H'->Okt m n L T'->(∀i,i < m->T'.sd i < m->¬Ngv n T' i)->Q .non H')/\
 ∀T' i l H' ws2 us2,ButY T0 D H H'->Lm T0 H'->Okt m n L T'->i < m->T'.sd i < m->Ngv n T' i->(∀c,c < n->T'.ln i c<=0)->ux H H' l ws2 us2 (wts scs (cnt n T' i))->l≠D.pss->l≠D.ph->(∀xs,H l≠some (.lst xs))->Q (.ref l) H'
theorem scRef:FnScope ["table","below","at","line","column"] ["table"] (ag sRef):= .of
theorem xq{f:Addr}{fd:FuncData}(F:Fun K "refuted" "refuted" sRef f fd)(B:Blt mg)(zS:Cl P w K mg base 2 "slack_lines" ["table"] (ko (K:=K)))(zL:Cl P w K mg base 2 "least_by" ["numbers","places"] (rp (K:=K) T0))(zW:Cl P w K mg base 4 "weights_against" ["table","at"] (qP (K:=K)))(zT:Cl P w K mg base 2 "turn" ["table","at","column"] (mZ (K:=K))):
 FnOk P w K mg base CX0 5 f fd ["table"] (qZ (K:=K) T0):=by
 refine F.okb scRef fun vs H Q E h=>?_;refine hZq fun q_ e_=>?_;obtain⟨D,m,n,C,scs,us,ws,pl,ls,L,T,rfl,hk,hT,hW,hO,ea,db,kn,kw⟩:=h;subst e_;refine⟨rfl,fun d9 A outer s hr=>?_⟩;have a5:Room 2 _:=hr.mono (by decide)
 have b8:(A.deeper (PyProof.Rows.envOfC (Str.ofString "refuted") (ag sRef) s.heap.objs.size f d9)).units+50 < cLine:=by have:=hr.units;omega
 have dl:(["at","table"]:List Str).Nodup:=by decide +kernel
 have c3:(["column","line"]:List Str).Nodup:=by decide +kernel
 refine⟨_,af (gR PassesOwn.never (cO cZ)
  (ad (eV (i:=1) (NC:= ["at","table"]) (mp:= [none,some 0]) rfl scRef.nd rfl rfl rfl (gT (K:=K) rfl (aj zS a5 (a0 (pv 0) a9)))
   (fun _ _ _ _ _=>pgA 0 dl) (fun _ _ _ _ _=>cy (aw (wS b8) (kA (r:=rSlL K) nA (ak (r:=rIxL K) ao (c7 (K:=K) rfl (pv 1) rfl) (pv 0) fun _ _=>rfl) (nN (c9 bu ac)) nO) (bX (a0 ac (a0 ac a9))) (ay _))) (fun _ _ _ _ _=>pv 0))
  (ad (psA 2 scRef.nd (aj zL a5 (a0 (aN (pv 0) rfl) (a0 (pv 1) a9))))
  (ad (bh (aw sL (pv 2) jF (ay _)) (af (ar jF)) aI)
  (ad (psR 3 scRef.nd (ak ao (aN (pv 0) rfl) (pv 2) fun _ _=>rfl))
  (ad (psA 4 scRef.nd (aj zL a5 (a0 (aN (pv 0) rfl) (a0 (aO (NC:= ["column","line"]) (mp:= [none,some 3]) rfl (cA rfl B.ra (a0 (aA ax rfl B.le PySem.boot_len (a0 (aN (pv 0) rfl) a9)) a9))
   (fun _ _ _ _ _=>pgA 0 c3) (fun _ _ _ _ _=>cy (aw dc (ak (r:=rIxL K) ao (pv 1) (pv 0) fun _ _=>rfl) ac (ay _))) (fun _ _ _ _ _=>pv 0)) a9))))
  (ad (bh (aw sL (pv 4) jF (ay _)) (af (ar (aj zW hr (a0 (pv 0) (a0 (pv 2) a9))))) aI)
  (af (dg (aj zT a5 (a0 (pv 0) (a0 (pv 2) (a0 (pv 4) a9))))))))))))),?_⟩
 have eb:(20000:Nat)<=sizeLine:=by decide +kernel
 have m64:=hT.m64;have n64:=hT.n64;have fl:∀b pl,(flds D pl b).lookup (Str.ofString "lines")=some (.ref pl):=fun b pl=>rfl;obtain⟨MM,ee⟩:∃MM:Int,MM=(C:Int)+1:=⟨_,rfl⟩
 refine⟨fun k σ H'=>(∃v1 v2 v3 v4,σ= [some (.ref D.a),v1,v2,v3,v4])/\∃pl' ls' T',ButY T0 D H H'/\Lm T0 H'/\Tab D m n scs us ws pl' ls' T' H'/\Okt m n L T'/\∃Tf rf qf J,Wg.Rn m n (Wg.V0 m L) (Wg.R0 L) MM Tf rf qf J/\Tf J=T'/\k=2^(m+n) - J,
  ⟨2^(m+n) - 0,⟨none,none,none,none,rfl⟩,pl,ls,T,fun x o _ _ _ _ e=>e,ea,hT,hO,fun _=>T,fun _=>0,fun _=>0,0,⟨hO.inv,hO.pm,fun j hj=>absurd hj (Nat.not_lt_zero _),fun j hj=>absurd hj (Nat.not_lt_zero _)⟩,rfl,rfl⟩,?_⟩
 intro k σ H1 z_;refine hZq fun q_ e_=>?_;obtain⟨⟨v1,v2,v3,v4,rfl⟩,pl',ls',T',bY,cI,tb,O,Tf,rf,qf,J,c4,eT,rfl⟩:=z_;subst e_;refine⟨true,rfl,iteT ?_⟩;refine⟨_,fun σ' H' h=>h,?_⟩;obtain⟨bb,bl⟩:=hW.bnd O.inv O.pm;have cp:∀(p:Nat->Bool),((List.range m).filter p).length<=m:=fun p=>zK (Aa _ _) (by rw[Aj];exact zu _)
 have cd:∀(p:Nat->Bool) (j:Nat),((List.range j).filter p).length<=j:=fun p j=>zK (Aa _ _) (by rw[Aj];exact zu _)
 refine eM ?_;refine bV rfl ?_;refine⟨_,rfl,D,m,n,scs,us,ws,pl',ls',T',rfl,hk,tb,fun l H2 nl s1 hl=>?_⟩;have cb:=tb.same s1;refine⟨l,rfl,⟨_,SqL.of hl⟩,fun L' nL=>?_⟩;refine cF (xs:=nv (slk m T')) (fun j acc H3=>Same H2 H3/\H3 L'=some (.lst acc)/\acc=nv (((slk m T').take j).filter fun x=>decide (Ngv n T' x))) ⟨aa nL,a8,rfl⟩ (fun j acc H3 p=>SqL.of (p.1 _ _ hl)) ?_ ?_
 . intro j x acc H3 hj ex z_;refine hZq fun q_ e_=>?_;obtain⟨s2,hL,rfl⟩:=z_;unfold nv at ex;rw[zr]at ex;obtain⟨r,er,rfl⟩:=zy.mp ex;obtain⟨rm,rs⟩:=slk_mem.mp (zw er);have bB:=cb.same s2;obtain⟨q,eq,hq,_,_⟩:=bB.ro.2 r rm;subst e_;have al:(((slk m T').take j).filter fun x=>decide (Ngv n T' x)).length<=m:=zK (Aa _ _) (zK (List.length_take_le' _ _) (cp _));refine⟨_,rfl,D.a,D.C,D.dx,_,_,rfl,bB.ob,hk.cls,hk.nl,fl _ _,_,rfl,pl',_,(r:Int),_,rfl,rfl,SqL.of bB.li,aB eq,2,rfl,_,rfl,q,_,rfl,SqL.of hq,fun p np=>?_⟩;rw[cut2];have sp:=aa (o:= .lst [.int (T'.ln r n), .int (T'.ln r (n+1))]) np;refine⟨two,fun l2 d=>?_⟩;have aC:=aa (o:= .lst [.int 0, .int 0]) d;refine⟨p,l2,_,_,rfl,rfl,aC _ _ a8,a8,_,rfl,?_⟩;by_cases z:Ngv n T' r
   . rw[show decide (T'.ln r n < 0\/(T'.ln r n=0/\T'.ln r (n+1) < 0))=true from decide_eq_true z];refine iteT ?_;refine⟨_,rfl,CompN.mk hj (by unfold nv;rw[zm];omega) (aC _ _ (sp _ _ hL)) ⟨aD nL ((s2.trans sp).trans aC),a8,?_⟩⟩
     rw[aq er,Ai];simp[z,nv]
   . rw[show decide (T'.ln r n < 0\/(T'.ln r n=0/\T'.ln r (n+1) < 0))=false from decide_eq_false z];refine iteF ?_;refine CompS.mk hj ⟨(s2.trans sp).trans aC,aC _ _ (sp _ _ hL),?_⟩;rw[aq er,Ai];simp[z]
 intro acc H3 z_;refine hZq fun q_ e_=>?_;obtain⟨s2,hL,rfl⟩:=z_;have d0:(nv (slk m T')).length=(slk m T').length:=by unfold nv;rw[zm]
 rw[d0,A3]at hL;have bg:=cb.same s2;have a2:=(cI.same s1).same s2;have b6:ButY T0 D H H3:=bY.trans (.of_same (s1.trans s2));obtain⟨bw,b7⟩:∃bw,bw=(slk m T').filter fun x=>decide (Ngv n T' x):=⟨_,rfl⟩;subst e_;rw[<-b7]at hL;have a6:∀x,x∈bw↔(x < m/\T'.sd x < m)/\Ngv n T' x:=fun x=>by rw[b7,Ag,slk_mem,decide_eq_true_iff]
 refine ah ?_;refine⟨_,rfl,D.a,D.C,D.dx,_,_,rfl,bg.ob,hk.cls,hk.nd,rfl,_,rfl,D.pss,L',Wg.ls m fun i=>((T'.sd i:Nat):Int),bw,rfl,by rw[<-sU];exact SqL.of bg.sd,SqL.of hL,fun x mx=>by rw[Wg.ls_len];exact((a6 x).mp mx).1.1,a2,fun e0 H4 bt a1=>?_,fun r mr lst H4 bt a1=>?_⟩
 ·
  obtain⟨dV,bI⟩:=a2.tbl;have t:=bg.butT bI bt;refine ah ?_;refine⟨_,rfl,rfl,_,rfl,?_⟩;rw[decide_eq_true rfl];refine iteT ?_;refine kn pl' ls' T' H4 (b6.trans (.of_t bt)) a1 t O fun i hi hs z=>?_;have:=(a6 i).mpr ⟨⟨hi,hs⟩,z⟩;rw[e0]at this;cases this
 refine hZq fun q_ e_=>?_;obtain⟨dV,bI⟩:=a2.tbl;have t:=bg.butT bI bt;have d2:=b6.trans (.of_t (D:=D) bt);obtain⟨⟨g,a4⟩,bj⟩:=(a6 r).mp mr;obtain⟨q,eq,hq,_,_⟩:=t.ro.2 r g;subst e_;refine ah ?_;dsimp only;refine cu (fun σ' H'=>H4=H'/\σ'= [some (.ref D.a),some (.ref L'),some (.int (r:Int)),v3,v4]) ?_ fun nx bC=>?_;rotate_left
 . refine⟨_,rfl,rfl,_,rfl,?_⟩;rw[decide_eq_false (by intro z;cases z)]
   exact iteF (bC _ _ ⟨rfl,rfl⟩)
 rintro σ' H' ⟨rfl,rfl⟩;refine⟨_,rfl,D.a,D.C,D.dx,_,_,rfl,t.ob,hk.cls,hk.nl,fl _ _,_,rfl,pl',_,(r:Int),_,rfl,rfl,SqL.of t.li,aB eq,?_⟩;refine ah ?_;refine⟨_,rfl,D.a,D.C,D.dx,_,_,rfl,t.ob,hk.cls,hk.nh,rfl,?_⟩;refine wz ?_;refine bV rfl ?_;refine⟨_,rfl,D.a,D.C,D.dx,_,_,rfl,t.ob,hk.cls,hk.nh,rfl,D.ph,_,rfl, .inl (SqL.of t.hd),(n:Int),by rw[bN],by omega,by omega,fun L2 c2=>?_⟩
 refine l8 (n:=n) (fun j acc H5=>Same H4 H5/\H5 L2=some (.lst acc)/\acc=nv ((List.range j).filter fun c=>decide (0 < T'.ln r c))) ⟨aa c2,a8,rfl⟩ ?_ ?_
 . rintro c acc H5 hc ⟨s5,aT,rfl⟩;rw[AD];refine⟨_,rfl,_,rfl,q,_,(c:Int),_,rfl,rfl,SqL.of (s5 _ _ hq),aB (fJ (by omega)),_,0,rfl,rfl,_,rfl,?_⟩
   by_cases z:0 < T'.ln r c
   . rw[decide_eq_true z];refine iteT ?_;refine⟨_,rfl,CompN.mk hc (by unfold nv;rw[zm];have:=cd (fun c=>decide (0 < T'.ln r c)) c;omega) aT ⟨aD c2 s5,a8,?_⟩⟩
     rw[As,Ai];simp[z,nv]
   . rw[decide_eq_false z];refine iteF ?_;refine CompS.mk hc ⟨s5,aT,?_⟩;rw[As,Ai];simp[z]
 intro acc H5 z_;refine hZq fun q_ e_=>?_;obtain⟨s5,aT,rfl⟩:=z_;have bF:=t.same s5;have bi:=a1.same s5;have c8:=d2.trans (.of_same (D:=D) (T0:=T0) s5);obtain⟨pc,bR⟩:∃pc,pc=(List.range n).filter fun c=>decide (0 < T'.ln r c):=⟨_,rfl⟩;rw[<-bR]at aT;have a7:∀c,c∈pc↔c < n/\0 < T'.ln r c:=fun c=>by rw[bR,Ag,Af,decide_eq_true_iff]
 obtain⟨ed,cm⟩:=bi.tbl;subst e_;refine⟨D.ph,L2,Wg.ls n fun i=>((T'.hd i:Nat):Int),pc,rfl,by rw[<-sU];exact SqL.of bF.hd,SqL.of aT,fun x mx=>by rw[Wg.ls_len];exact((a7 x).mp mx).1,bi,fun e0 H6 a3 v=>?_,fun c mc bT H6 a3 v=>?_⟩
 ·
  have u:=bF.butT cm a3;refine ah ?_;refine⟨_,rfl,rfl,_,rfl,?_⟩;rw[decide_eq_true rfl];refine iteT ?_;refine⟨_,rfl,_,rfl,D,m,n,C,scs,us,ws,pl',ls',L,T',r,rfl,hk,u,hW,O,g,a4,db,fun l2 H7 ws2 us2 d s7 hw=>?_⟩;have dj:ButY T0 D H H6:=c8.trans (.of_t a3);refine kw T' r l2 H7 ws2 us2 (dj.trans (.of_same s7)) (v.same s7) O g a4 bj (fun c hc=>?_) hw (fun z=>by rw[z,u.sd]at d;cases d) (fun z=>by rw[z,u.hd]at d;cases d) fun xs z=>?_
  . refine Classical.byContradiction fun y=>?_;have:=(a7 c).mpr ⟨hc,by omega⟩
    rw[e0]at this;cases this
  . by_cases y0:l2=T0
    . subst y0;obtain⟨ec,dH⟩:=v.tbl;rw[dH]at d;cases d
    . have:=dj l2 _ y0 (fun y=>by rw[y,hT.ob]at z;cases z) (fun y=>by rw[y,u.sd]at d;cases d) (fun y=>by rw[y,u.hd]at d;cases d) z
      rw[this]at d;cases d
 . have u:=bF.butT cm a3;obtain⟨au,d8⟩:=(a7 c).mp mc;refine ah ?_;dsimp only;refine cu (fun σ' H'=>H6=H'/\σ'= [some (.ref D.a),some (.ref L'),some (.int (r:Int)),some (.ref q),some (.int (c:Int))]) ?_ fun nx bC=>?_;rotate_left
   . refine⟨_,rfl,rfl,_,rfl,?_⟩;rw[decide_eq_false (by intro z;cases z)]
     exact iteF (bC _ _ ⟨rfl,rfl⟩)
   rintro σ' H' ⟨rfl,rfl⟩;refine⟨_,rfl,_,rfl,_,rfl,D,m,n,scs,us,ws,pl',ls',T',r,c,rfl,hk,u,g,au,by omega,O.inv.pos,ck bb hW.big,fun a b ha hb=>ck (bl a b ha hb) hW.big,fun dr d5 H7 bx d3=>?_⟩
   have vn:∀i,i < m->(Ngv n T' i↔Wg.val n MM T' i < 0):=fun i hi=>by
    unfold Ngv Wg.val;refine Wg.lex_neg ?_ (by omega)
    have:=bl i (n+1) hi (by omega)
    omega
   have S:Wg.Stp m n MM T' r c:=by
    refine⟨g,au,a4,(vn r g).mp bj,fun i hi hs hv=>?_,d8,fun c' b4 d6=>?_⟩
    . have:=lst i ((a6 i).mpr ⟨⟨hi,hs⟩,(vn i hi).mpr hv⟩);rw[fY g,fY hi]at this;omega
    . have:=bT c' ((a7 c').mpr ⟨b4,d6⟩);rw[fY au,fY b4]at this;omega
   subst eT;refine hZq fun q_ e_=>?_;obtain⟨d4,dI,d7,cn,e2⟩:=c4.snoc S;subst e_;refine⟨2^(m+n) - (J+1),Nat.sub_lt_sub_left c4.few (AK J),⟨_,_,_,_,rfl⟩,dr,d5,_,(c8.trans (.of_t a3)).trans (.of_x bx),v.butX u bx,d3,⟨Wg.piv_inv O.inv g au (by omega),O.pm.piv g au,O.st.piv O.inv g au a4 (by omega)⟩,d4,dI,d7,J+1,cn,e2,rfl⟩
end
end K44
namespace L2
open PySem PySem.Spec PyProof.Rows
theorem pH{X:Cx}(hc:X.calm=true):cr X (.builtin "max") (fun xs H Q=>∃(p:Addr) (ns:List Int),xs= [.ref p]/\SqL X.K H p (ns.map V.int)/\0 < ns.length/\∀m,m∈ns->(∀x∈ns,x<=m)->Q (.int m) H):=by
 intro pins s σ H xs us Q I r h;refine hZq fun q_ e_=>?_;obtain⟨p,ns,e,hp,h0,q⟩:=h;subst e_;subst e
 cases r with
 | @cons _ u _ _ r f=>
  cases f;cases (show u=Value.ref p from r);refine hZq fun q_ e_=>?_;obtain⟨its,rv,pl,_⟩:=I.list hp;have hi:=mG rv;obtain⟨zs,c⟩:=hi.allInts.items;subst e_;have hl:=pl.isList;rw[c]at hl
  have b:zs.toList.map (·.1)=ns:=by
   rw[<-nums_intItems,<-c];exact hi.numsOf
  have n:zs.size=ns.length:=by rw[<-b,zm,Ae]
  have nat_:∀i,i < zs.size->ns[i]?=some (numAt zs i):=fun i a=>by
   rw[<-b,zr,Ah];unfold numAt;rw[Ao a];rfl
  refine max_intList (I.ok.hd hc) hl (by omega) fun v h' tk hv hk=>?_
  obtain⟨t,rfl⟩:=intItems_at hv;obtain⟨b1,b2⟩:=argBest_gt (numAt zs) (zs.size - 1);generalize argBest (fun i j=>decide (numAt zs i > numAt zs j)) (zs.size - 1)=k at*;refine⟨.int (numAt zs k),H,I.kept hk,⟨_,rfl⟩,q _ (zw (nat_ k (by omega))) fun x l=>?_⟩
  obtain⟨j,d,g⟩:=Ax l;have:=nat_ j (by omega)
  rw[zo d,g]at this;rw[zN this];exact b2 j (by omega)
end L2
namespace Dj
open PySem PySem.Spec PyProof.Rows L2 Tre Wd Su
section
variable{X:Cx}{pos:Pos}{o i:Expr}{td ty:TE}{P:Program}{w:World}{K:PySem.W.Frag}
end
mutual
noncomputable def ktT:Tr->Tk.KT
 | .int i=> .lf (.inl i)
 | .str x=> .lf (.inr x)
 | .tup ts=> .tp (ktTs ts)
 |_=> .tp []
noncomputable def ktTs:List Tr->List Tk.KT
 | []=> []
 |t::ts=>ktT t::ktTs ts
end
noncomputable def ktL:Tr->List Tk.KT
 | .tup ts=>ktTs ts
 |_=> []
mutual
def Kp:Tr->Prop
 | .int _=>True
 | .str _=>True
 | .tup ts=>Kps ts
 |_=>False
def Kps:List Tr->Prop
 | []=>True
 |t::ts=>Kp t/\Kps ts
end
theorem vB{ts:List Tr}(h:∀t∈ts,Kp t):Kps ts:=by
 induction ts with
 |nil=>trivial
 |cons t ts a=>exact⟨h t zq,a fun u m=>h u (zp _ m)⟩
theorem qe{t:Tr}(h:Ty .tm t):Kp t:=by
 generalize e:So.tm=k at h
 induction h with
 |nm x=>simp only[Kp,Kps,and_self]
 |ap x ts _ _ a=>simp only[Kp,Kps,and_true,true_and];exact vB fun t m=>a t m e
 |fr=>cases e
 |pr=>cases e
 |fl=>cases e
 |mo=>cases e
 |li=>cases e
 |no=>cases e
 |bo=>cases e
 |ei=>cases e
 |lt=>cases e
mutual
theorem xR:∀ {t u:Tr},Kp t->Kp u->ktT t=ktT u->t=u
 | .int i, .int j,_,_,e=>by simp only[ktT,Tk.KT.lf.injEq,Sum.inl.injEq]at e;rw[e]
 | .int i, .str y,_,_,e=>by simp[ktT]at e
 | .int i, .tup us,_,_,e=>by simp[ktT]at e
 | .str x, .int j,_,_,e=>by simp[ktT]at e
 | .str x, .str y,_,_,e=>by simp only[ktT,Tk.KT.lf.injEq,Sum.inr.injEq]at e;rw[e]
 | .str x, .tup us,_,_,e=>by simp[ktT]at e
 | .tup ts, .int j,_,_,e=>by simp[ktT]at e
 | .tup ts, .str y,_,_,e=>by simp[ktT]at e
 | .tup ts, .tup us,h1,h2,e=>by
  simp only[ktT,Tk.KT.tp.injEq]at e;rw[kts_inj h1 h2 e]
theorem kts_inj:∀ {ts us:List Tr},Kps ts->Kps us->ktTs ts=ktTs us->ts=us
 | [],[],_,_,_=>rfl
 | [],_::_,_,_,e=>by simp[ktTs]at e
 |_::_,[],_,_,e=>by simp[ktTs]at e
 |t::ts,u::us,h1,h2,e=>by
  simp only[ktTs,AQ]at e;rw[xR h1.1 h2.1 e.1,kts_inj h1.2 h2.2 e.2]
end
theorem o0{t u:Tr}(h1:Ty .tm t)(h2:Ty .tm u)(e:ktL t=ktL u):t=u:=by
 have k1:=qe h1;have k2:=qe h2;obtain⟨ts,rfl⟩:=ji h1;obtain⟨us,rfl⟩:=ji h2;rw[kts_inj k1 k2 e]
mutual
theorem xS:∀ {t:Tr},Kp t->(ktT t).depth=t.depth
 | .int i,_=>by simp[ktT,Tk.KT.depth,Tr.depth]
 | .str x,_=>by simp[ktT,Tk.KT.depth,Tr.depth]
 | .tup ts,k=>by
  simp only[ktT,Tk.KT.depth,Tr.depth];rw[kts_dep k]
theorem kts_dep:∀ {ts:List Tr},Kps ts->Tk.KTs.depth (ktTs ts)=Trs.depth ts
 | [],_=>by simp[ktTs,Tk.KTs.depth,Trs.depth]
 |t::ts,k=>by
  simp only[ktTs,Tk.KTs.depth,Trs.depth];rw[xS k.1,kts_dep k.2]
end
section
variable{K:PySem.W.Frag}{H:Hp}
mutual
theorem xQ:∀ {v:V} {t:Tr},Kp t->TrAt H v t->KVt K H v (ktT t)
 |v, .int i,_,h=>by unfold TrAt at h;simp only[ktT,KVt];exact h
 |v, .str x,_,h=>by unfold TrAt at h;simp only[ktT,KVt];exact h
 |v, .tup ts,k,h=>by
  unfold TrAt at h;obtain⟨r,vs,e,h1,h2⟩:=h;simp only[ktT,KVt];exact⟨r,vs,e, .inl h1,kvts_of k h2⟩
theorem kvts_of:∀ {vs:List V} {ts:List Tr},Kps ts->TrsAt H vs ts->KVts K H vs (ktTs ts)
 |vs,[],_,h=>by unfold TrsAt at h;simp only[ktTs,KVts];exact h
 |vs,t::ts,k,h=>by
  obtain⟨v,r,e,h1,h2⟩:=h.inv;simp only[ktTs,KVts];exact⟨v,r,e,xQ k.1 h1,kvts_of k.2 h2⟩
end
theorem key_tm{b:Addr}{t:Tr}(ty:Ty .tm t)(hd:t.depth<=7)(h:TrAt H (.ref b) t):KeyAt K H (ktL t) b:=by
 have kp:=qe ty;obtain⟨ts,rfl⟩:=ji ty;unfold TrAt at h;obtain⟨r,vs,e,h1,h2⟩:=h;cases e;refine⟨vs, .inl h1,kvts_of kp h2,?_⟩;have:= @kts_dep ts kp;simp only[Tr.depth]at hd;simp only[ktL,Tk.KT.depth];omega
end
theorem tm_ref{H:Hp}{v:V}{t:Tr}(ty:Ty .tm t)(h:TrAt H v t):∃b,v= .ref b:=by
 obtain⟨ts,rfl⟩:=ji ty;unfold TrAt at h;obtain⟨r,vs,e,_⟩:=h;exact⟨r,e⟩
def En(H:Hp)(g:Tr->Fr)(e:Ent)(t:Tr):Prop:=e.1=ktL t/\TrAt H (.ref e.2.1) t/\TrAt H e.2.2 (frT (g t))
structure DAt (P:Program) (w:World) (K:PySem.W.Frag) (H:Hp) (a:Addr) (ks:List Tr) (g:Tr->Fr):Prop where
 ex:∃kvs,DJ P w K H a kvs/\Paired (En H g) kvs ks
 ty:∀t∈ks,Ty .tm t/\t.depth<=7
 nd:ks.Nodup
section
variable{P:Program}{w:World}{K:PySem.W.Frag}{H H':Hp}{a:Addr}{ks:List Tr}{g:Tr->Fr}
theorem en_mono{kvs:List Ent}(k:Kd H H')(h:Paired (En H g) kvs ks):Paired (En H' g) kvs ks:=Paired.imp' (fun e t x=>⟨x.1,x.2.1.mono k,x.2.2.mono k⟩) h
theorem DAt.kd(x:DAt P w K H a ks g)(k:Kd H H')(hs:∀o,(∀xs,o≠ .lst xs)->H a=some o->H' a=some o):DAt P w K H' a ks g:=by
 obtain⟨kvs,d,p⟩:=x.ex;exact⟨⟨kvs,d.kd k (hs _ (fun _ z=>by cases z) d.at_),en_mono k p⟩,x.ty,x.nd⟩
theorem DAt.same(x:DAt P w K H a ks g)(s:Same H H'):DAt P w K H' a ks g:=x.kd (Kd.of_same s) fun o _ e=>s _ _ e
theorem en_val{kvs:List Ent}(h:Paired (En H g) kvs ks)(ty:∀t∈ks,Ty .tm t){t:Tr}(tt:Ty .tm t):(t∈ks->∃v,valJ kvs (ktL t)=some v/\TrAt H v (frT (g t)))/\(t∉ks->valJ kvs (ktL t)=none):=by
 induction h with
 |nil=>exact⟨fun m=>(by cases m),fun _=>rfl⟩
 | @cons e u es us h1 _ a=>
  obtain⟨i1,i2⟩:=a fun x m=>ty x (zp _ m);by_cases z:u=t
  . subst z;exact⟨fun _=>⟨e.2.2,ka h1.1,h1.2.2⟩,fun n=>absurd zq n⟩
  . have ne:¬e.1=ktL t:=fun q=>z (o0 (ty u zq) tt (h1.1.symm.trans q));refine⟨fun m=>?_,fun n=>?_⟩
    . rw[gv ne];rcases zJ.mp m with e'|m
      . exact absurd e'.symm z
      . exact i1 m
    . rw[gv ne];exact i2 fun m=>n (zp _ m)
theorem DAt.val(x:DAt P w K H a ks g){t:Tr}(tt:Ty .tm t):∃kvs,DJ P w K H a kvs/\kvs.length=ks.length/\(t∈ks->∃v,valJ kvs (ktL t)=some v/\TrAt H v (frT (g t)))/\(t∉ks->valJ kvs (ktL t)=none):=by
 obtain⟨kvs,d,p⟩:=x.ex;exact⟨kvs,d,Paired.length p,en_val p (fun t m=>(x.ty t m).1) tt⟩
open Classical in
noncomputable def setG(g:Tr->Fr)(t:Tr)(f:Fr):Tr->Fr:=fun u=>if u=t then f else g u
open Classical in
noncomputable def addK(ks:List Tr)(t:Tr):List Tr:=if t∈ks then ks else ks++ [t]
theorem ye{kvs:List Ent}{t:Tr}{f:Fr}{v:V}(hv:TrAt H v (frT f))(tt:Ty .tm t)(h:Paired (En H g) kvs ks)(ty:∀t∈ks,Ty .tm t):Paired (En H (setG g t f)) (kvs.map fun p=>if p.1=ktL t then(p.1,p.2.1,v)else p) ks:=by
 induction h with
 |nil=>exact .nil
 | @cons e u es us h1 _ a=>
  rw[zU];refine .cons ?_ (a fun x m=>ty x (zp _ m));by_cases z:u=t
  . subst z;rw[if_pos h1.1];refine⟨h1.1,h1.2.1,?_⟩;unfold setG;rw[if_pos rfl];exact hv
  . have ne:¬e.1=ktL t:=fun q=>z (o0 (ty u zq) tt (h1.1.symm.trans q));rw[if_neg ne];refine⟨h1.1,h1.2.1,?_⟩;unfold setG;rw[if_neg z];exact h1.2.2
theorem yd{kvs:List Ent}{t:Tr}{f:Fr}(n:t∉ks)(h:Paired (En H g) kvs ks):Paired (En H (setG g t f)) kvs ks:=by
 induction h with
 |nil=>exact .nil
 | @cons e u es us h1 _ a=>
  refine .cons ⟨h1.1,h1.2.1,?_⟩ (a fun m=>n (zp _ m));unfold setG;rw[if_neg (fun z=>n (by rw[<-z];exact zq))]
  exact h1.2.2
theorem DAt.put(x:DAt P w K H a ks g){t:Tr}{b:Addr}{v:V}{f:Fr}(tt:Ty .tm t)(hd:t.depth<=7)(hb:TrAt H (.ref b) t)(hv:TrAt H v (frT f)){kvs:List Ent}(d:DJ P w K H a kvs)(hk:DAt P w K H a ks g->Paired (En H g) kvs ks):
 DAt P w K (upd H a (dJ P w a (putJ kvs (ktL t) b v))) a (addK ks t) (setG g t f):=by
 have p:=hk x;have kd:=Kd.updJ (o:=dJ P w a (putJ kvs (ktL t) b v)) d.at_;have c:=en_val p (fun t m=>(x.ty t m).1) tt;refine⟨⟨_,d.put (key_tm tt hd hb),?_⟩,fun u m=>?_,?_⟩
 . refine en_mono kd ?_;unfold putJ addK;by_cases m:t∈ks
   . obtain⟨e,e',_⟩:=c.1 m;rw[e',if_pos m,if_pos (show(some e).isSome=true from rfl)];exact ye hv tt p fun t m=>(x.ty t m).1
   . rw[c.2 m,if_neg m,if_neg (by simp)]
     refine Paired.snoc (yd m p) ⟨rfl,hb,?_⟩;unfold setG;rw[if_pos rfl];exact hv
 . unfold addK at m;split at m
   . exact x.ty u m
   . rcases A9.mp m with m|m
     . exact x.ty u m
     . rw[A8.mp m];exact⟨tt,hd⟩
 . unfold addK;split
   . exact x.nd
   . rename_i n;exact List.nodup_append.mpr ⟨x.nd,(by simp),fun u h y i=>by rw[A8.mp i];exact fun z=>n (by rw[<-z];exact h)⟩
end
open Classical in
structure Sd (ds:List Pq) (ks:List Tr) (g:Tr->Fr):Prop where
 sh:∀t∈ks,Sh (g t)
 eq:∀t,tot t ds=if t∈ks then rv (g t)else 0
theorem Sd.nil(g:Tr->Fr):Sd [] [] g:=⟨fun t m=>(by cases m),fun t=>(by rw[if_neg (by simp)];rfl)⟩
open Classical in
theorem Sd.add{ds:List Pq}{ks:List Tr}{g:Tr->Fr}(h:Sd ds ks g){p:Pq}{f:Fr}(hf:Sh f)(e:rv f=(if p.1∈ks then rv (g p.1)else 0)+rv p.2):Sd (ds++ [p]) (addK ks p.1) (setG g p.1 f):=by
 refine⟨fun t m=>?_,fun t=>?_⟩
 . unfold setG;by_cases z:t=p.1
   . rw[if_pos z];exact hf
   . rw[if_neg z];unfold addK at m;split at m
     . exact h.sh t m
     . rcases A9.mp m with m|m
       . exact h.sh t m
       . exact absurd (A8.mp m) z
 . rw[df,uE,h.eq];unfold addK setG;by_cases z:t=p.1
   . subst z;rw[if_pos rfl];by_cases m:p.1∈ks
     . rw[if_pos m,if_pos m,if_pos m,if_pos rfl,e,if_pos m]
     . have b:p.1∈ks++ [p.1]:=zR _ zq;rw[if_neg m,if_neg m,if_pos b,if_pos rfl,e,if_neg m]
   . have c:¬p.1=t:=fun q=>z q.symm
     have a:(t∈(if p.1∈ks then ks else ks++ [p.1]))↔t∈ks:=by
      split
      . exact Iff.rfl
      . rw[A9,A8];exact⟨fun q=>q.elim id fun q=>absurd q z, .inl⟩
     simp only[a,z,c,if_false];grind
noncomputable def outP(g:Tr->Fr)(ts:List Tr):List Pq:=(ts.filter fun t=>decide ((g t).1≠0)).map fun t=>(t,g t)
open Classical in
theorem mT(g:Tr->Fr)(u:Tr):∀ {ts:List Tr},ts.Nodup->(∀t∈ts,Sh (g t))->tot u (outP g ts)=if u∈ts then rv (g u)else 0
 | [],_,_=>by rw[if_neg (by simp)];rfl
 |t::ts,nd,hs=>by
  obtain⟨n1,n2⟩:=AG.mp nd;have c:=mT g u n2 fun x m=>hs x (zp _ m);unfold outP at c ⊢;rw[List.filter_cons]
  have a:∀(q:Rat),(if u=t then q else 0)+(if u∈ts then rv (g u)else 0)=(if u∈t::ts then(if u=t then q else rv (g u))else 0):=by
   intro q;by_cases z:u=t
   . have d:u∉ts:=fun m=>n1 (by rw[<-z];exact m)
     rw[if_pos z,if_neg d,if_pos (by rw[z];exact zq),if_pos z]
     grind
   . rw[if_neg z];by_cases m:u∈ts
     . rw[if_pos m,if_pos (zp _ m),if_neg z];grind
     . rw[if_neg m,if_neg (fun q=>(zJ.mp q).elim z m)];grind
  by_cases b:(g t).1=0
  . have e:decide ((g t).1≠0)=false:=by simp[b]
    rw[e,if_neg (by decide),c]
    have f:rv (g t)=0:=by
     unfold rv;rw[b];have:((0:Int):Rat)=0:=by simp
     rw[this];grind
    have:=a 0;by_cases z:u=t
    . subst z;rw[if_neg n1,if_pos zq,f]
    . rw[if_neg z]at this;by_cases m:u∈ts
      . rw[if_pos m,if_pos (zp _ m)]
      . rw[if_neg m,if_neg (fun q=>(zJ.mp q).elim z m)]
  . have e:decide ((g t).1≠0)=true:=by simp[b]
    rw[e,if_pos rfl,zU];simp only[tot];rw[c];by_cases z:u=t
    . subst z;rw[if_pos rfl,if_neg n1,if_pos zq];grind
    . rw[if_neg (fun q=>z q.symm)];by_cases m:u∈ts
      . rw[if_pos m,if_pos (zp _ m)];grind
      . rw[if_neg m,if_neg (fun q=>(zJ.mp q).elim z m)];grind
end Dj
namespace K44
open PySem L2 Mth Tre Wd Su Tw Fm
theorem pI{X:Cx}{K:PySem.W.Frag}(hK:X.K=K):cr X (.builtin "len") (fun xs H Q=>∃p ys,xs= [.ref p]/\(SqL K H p ys\/SqT K H p ys)/\Q (.int (ys.length:Int)) H):=by
 subst hK;exact ax
theorem pS{r:R2}{ta tb:TE}{Z:Ends}{σ:L2.St}{H:Hp}(h:ta σ H fun x H1=>tb σ H1 fun y H2=>r x y H2 Z.rt):tRet (tOp r ta tb) Z σ H:=h
noncomputable def lno(m n:Nat)(T:Wg.Tb)(k c:Nat):Int:=(Wg.sumN m fun i=>if T.sd i=k then T.ln i c else 0)+if c < n/\T.hd c=k then T.bot else 0
theorem tj{m n:Nat}{T:Wg.Tb}(P:Wg.Pm m n T){i c:Nat}(hi:i < m):lno m n T (T.sd i) c=T.ln i c:=by
 unfold lno;rw[Wg.sumN_one hi fun j a hne=>if_neg fun e=>hne (P.inj a hi e),if_pos rfl,if_neg fun z=>P.disj hi z.1 z.2.symm,Int.add_zero]
theorem i4{m n:Nat}{T:Wg.Tb}{k c:Nat}(h:∀i,i < m->T.sd i≠k):lno m n T k c=if c < n/\T.hd c=k then T.bot else 0:=by
 unfold lno;rw[Wg.sumN_zero fun i hi=>if_neg (h i hi),AD]
theorem tq{m n:Nat}{T:Wg.Tb}{k:Nat}{M:Int}:lno m n T k n*M+lno m n T k (n+1)=Wg.pt m n M T k:=by
 unfold lno;rw[if_neg (by omega),if_neg (by omega),Int.add_zero,Int.add_zero]
 unfold Wg.pt;rw[<-Wg.sumN_mulr,<-Wg.sumN_add];refine Wg.sumN_congr fun i hi=>?_;unfold Wg.val;split<;>grind
theorem ml{m n C:Nat}{T:Wg.Tb}{k c:Nat}(P:Wg.Pm m n T)(hb:T.bot.natAbs<=C)(hl:∀i c,i < m->c < n+2->(T.ln i c).natAbs<=C)(hc:c < n+2):(lno m n T k c).natAbs<=C:=by
 by_cases h:∃i,i < m/\T.sd i=k
 . obtain⟨i,hi,rfl⟩:=h;rw[tj P hi];exact hl i c hi hc
 . rw[i4 fun i hi e=>h ⟨i,hi,e⟩];split
   . exact hb
   . exact zY _
theorem ut{n:Nat}{f:Nat->Int}:atI ((Wg.ls (n+2) f).map V.int) (-1)=some (.int (f (n+1))):=by
 have l:((Wg.ls (n+2) f).map V.int).length=n+2:=by rw[zm,Wg.ls_len]
 unfold atI
 have:ixN (n+2) (-1)=some (n+1):=by
  unfold ixN;rw[if_neg (by decide),if_pos (by omega)]
  congr 1;omega
 rw[l,this];exact fJ (by omega)
theorem mP{n:Nat}{f:Nat->Int}:atI ((Wg.ls (n+2) f).map V.int) (-2)=some (.int (f n)):=by
 have l:((Wg.ls (n+2) f).map V.int).length=n+2:=by rw[zm,Wg.ls_len]
 unfold atI
 have:ixN (n+2) (-2)=some n:=by
  unfold ixN;rw[if_neg (by decide),if_pos (by omega)]
  congr 1;omega
 rw[l,this];exact fJ (by omega)
theorem sR{H:Hp}:∀ {ps:List Nat},TrsAt H (nv ps) (ps.map fun(p:Nat)=>Tr.int (p:Int))
 | []=> .nil
 |_::_=> .cons at_i sR
theorem uw{k:Nat}:∀ {ps:List Nat},((ps.map fun(p:Nat)=>Tr.int (p:Int)).any fun u=>Tre.eqT u (.int (k:Int)))=decide (k∈ps)
 | []=>by simp
 |p::r=>by
  rw[zU,List.any_cons,uw];unfold Tre.eqT;by_cases e:k=p
  . subst e;simp
  . have:((p:Int)==(k:Int))=false:=by
     rw[beq_eq_false_iff_ne];omega
    rw[this];simp[e]
theorem mem_ls{m:Nat}{f:Nat->Nat}{k:Nat}:k∈Wg.ls m f↔∃i,i < m/\f i=k:=by
 unfold Wg.ls;rw[zM];constructor
 . rintro⟨i,hi,e⟩;exact⟨i,Af.mp hi,e⟩
 . rintro⟨i,hi,e⟩;exact⟨i,Af.mpr hi,e⟩
section
variable{P:Program}{w:World}{K:PySem.W.Frag}{mg:Str->Option Value}{base:Heap}{T0:Addr}
def rn:Sp:=fun vs H Q _=>∃(D:TA) (m n:Nat) (scs:List Int) (us:List Tr) (ws:List V) (pl:Addr) (ls:List V) (T:Wg.Tb) (k:Nat),vs= [.ref D.a, .int (k:Int)]/\Tk K D.C/\Tab D m n scs us ws pl ls T H/\Wg.Pm m n T/\
 ∀q H',Same H H'->H' q=some (.lst ((Wg.ls (n+2) (lno m n T k)).map V.int))->Q (.ref q) H'
theorem yI:FnScope ["table","number"] ["table","number"] (ag sLio):= .of
theorem xx{f:Addr}{fd:FuncData}(F:Fun K "line_of" "line_of" sLio f fd)(B:Blt mg):FnOk P w K mg base CX0 1 f fd ["table","number"] (rn (K:=K)):=by
 refine F.okb yI fun vs H Q E h=>?_;refine hZq fun q_ e_=>?_;obtain⟨D,m,n,scs,us,ws,pl,ls,T,k,rfl,hk,b,hP,q⟩:=h;subst e_;refine⟨rfl,fun a1 A outer s hr=>?_⟩;have r:(A.deeper (PyProof.Rows.envOfC (Str.ofString "line_of") (ag sLio) s.heap.objs.size f a1)).units+50 < cLine:=by have:=hr.units;omega
 have aC:(["head","table","number"]:List Str).Nodup:=by decide +kernel
 refine⟨_,ad (bh (aw (wU r) (pv 1) (aN (pv 0) rfl) (by with_unfolding_all rfl)) (af (ar (ak ao (aN (pv 0) rfl) (iO PySem.F.plainAttrs_list PySem.F.slot_list_index PySem.F.type_list_index oZ (aN (pv 0) rfl) (a0 (pv 1) a9)) fun _ _=>rfl))) aI)
  (af (ar (am eE (aO (NC:= ["head","table","number"]) (mp:= [none,some 0,some 1]) rfl (aJ (aN (pv 0) rfl)) (fun _ _ _ _ _=>pgA 0 aC) (fun _ _ _ _ _=>aR)
   (fun _ _ _ _ _=>dG (aw dy (pv 0) (pv 2) (ay _)) (c7 (K:=K) rfl (pv 1) rfl) ac)) (bX (a0 ac (a0 ac a9)))))),?_⟩
 have a2:(20000:Nat)<=sizeLine:=by decide +kernel
 have n64:=b.n64
 have dep:∀u∈(Wg.ls m T.sd).map fun(p:Nat)=>Tr.int (p:Int),u.depth<=40:=fun u mu=>by
  obtain⟨p,_,rfl⟩:=zM.mp mu;simp[Tr.depth]
 refine⟨_,rfl,_,rfl,D.a,D.C,D.dx,_,_,rfl,b.ob,hk.cls,hk.nd,rfl,D.pss,_,_, .int (k:Int),rfl, .inl b.sd,sR,at_i,dep,by simp[Tr.pure],_,rfl,?_⟩
 rw[uw,uo];by_cases hm:k∈Wg.ls m T.sd
 . rw[decide_eq_true hm];refine iteT ?_;refine hZq fun q_ e_=>?_;obtain⟨i,hi,e⟩:=mem_ls.mp hm;obtain⟨qr,eq,hq,_,_⟩:=b.ro.2 i hi;subst e_;refine⟨_,rfl,D.a,D.C,D.dx,_,_,rfl,b.ob,hk.cls,hk.nl,rfl,_,rfl,D.a,D.C,D.dx,_,_,rfl,b.ob,hk.cls,hk.nd,rfl, .inl ⟨rfl,_,SqL.of b.sd⟩,_,rfl,D.pss,Wg.ls m fun i=>((T.sd i:Nat):Int),(k:Int),i,rfl,rfl,by rw[<-sU];exact b.sd,by rw[Wg.ls_at hi,e],fun j hj=>?_,?_⟩
   . rw[Wg.ls_at (by omega)]
     intro z;have z':T.sd j=k:=by have:=zN z;omega
     have:=hP.inj (i:=j) (j:=i) (by omega) hi (z'.trans e.symm)
     omega
   . refine⟨pl,_,(i:Int),_,rfl,rfl,SqL.of b.li,aB eq,?_⟩;refine q qr H (fun _ _ e=>e) ?_;rw[hq];have:Wg.ls (n+2) (T.ln i)=Wg.ls (n+2) (lno m n T k):=Wg.ls_congr fun c hc=>by rw[<-e,tj hP hi]
     rw[<-this]
 . rw[decide_eq_false hm];refine iteF (bU ?_);have g:∀i,i < m->T.sd i≠k:=fun i hi e=>hm (mem_ls.mpr ⟨i,hi,e⟩);dsimp only;refine pS ?_;refine bM rfl ?_;refine⟨_,rfl,D.a,D.C,D.dx,_,_,rfl,b.ob,hk.cls,hk.nh,rfl,D.ph,rfl,⟨_,SqL.of b.hd⟩,fun L nL=>?_⟩;refine bG (xs:=nv (Wg.ls n T.hd)) (fun j acc H'=>Same H H'/\H' L=some (.lst acc)/\acc=(Wg.ls j (lno m n T k)).map V.int/\j<=n) ⟨aa nL,a8,rfl,zY _⟩ (fun j acc H' p=>SqL.of (p.1 _ _ b.hd)) ?_ ?_
   . intro j x acc H' hj ex z_;refine hZq fun q_ e_=>?_;obtain⟨v,t,rfl,_⟩:=z_;subst e_;have d:=hj;rw[bN]at d;rw[iR d]at ex;cases ex;have au:=b.same v
     have es:(Wg.ls (j+1) (lno m n T k)).map V.int=(Wg.ls j (lno m n T k)).map V.int++ [.int (lno m n T k j)]:=by
      unfold Wg.ls;rw[As,zQ,zQ];rfl
     have al:((Wg.ls j (lno m n T k)).map V.int).length < sizeLine:=by rw[zm,Wg.ls_len];omega
     refine⟨_,rfl,_,rfl,rfl,_,rfl,?_⟩;by_cases z:T.hd j=k
     . rw[decide_eq_true (show V.int (T.hd j:Nat)=V.int (k:Int)by rw[z])]
       refine iteT ?_;refine⟨_,rfl,D.a,D.C,D.dx,_,_,rfl,au.ob,hk.cls,hk.nb,rfl,?_⟩;refine CompN.mk hj al t ⟨aD nL v,a8,?_,d⟩;rw[es,i4 g,if_pos ⟨d,z⟩]
     . rw[decide_eq_false (show¬V.int (T.hd j:Nat)=V.int (k:Int)from fun e=>z (by have:=V.int.inj e;omega))]
       refine iteF ?_;refine CompN.mk hj al t ⟨aD nL v,a8,?_,d⟩;rw[es,i4 g,if_neg fun y=>z y.2]
   . intro acc H2 z_;refine hZq fun q_ e_=>?_;obtain⟨v,t,rfl,_⟩:=z_;subst e_;rw[bN]at t;refine⟨two,fun l2 aT=>?_⟩;have l:=aa (o:= .lst [.int 0, .int 0]) aT;refine⟨L,l2,_,_,rfl,rfl,l _ _ t,a8,by rw[zm,Wg.ls_len];show n+2<=sizeLine;omega,fun p np=>?_⟩
     refine q p _ ((v.trans l).trans (aa np)) ?_;rw[a8]
     have es:(Wg.ls (n+2) (lno m n T k)).map V.int=(Wg.ls n (lno m n T k)).map V.int++ [.int (lno m n T k n), .int (lno m n T k (n+1))]:=by
      unfold Wg.ls;rw[As,As,zQ,zQ,zQ,zQ,List.append_assoc];rfl
     rw[es,i4 (c:=n) g,i4 (c:=n+1) g,if_neg (by omega),if_neg (by omega)]
def Rwl(H:Hp)(ls:List V)(n k:Nat)(f:Nat->Nat->Int):Prop:=ls.length=k/\∀j,j < k->∃q,ls[j]?=some (.ref q)/\H q=some (.lst ((Wg.ls (n+2) (f j)).map V.int))
def qU:Sp:=fun vs H Q _=>∃(D:TA) (m n:Nat) (scs:List Int) (us:List Tr) (ws:List V) (pl:Addr) (ls:List V) (T:Wg.Tb),vs= [.ref D.a]/\Tk K D.C/\Tab D m n scs us ws pl ls T H/\Wg.Pm m n T/\
 ∀l ls' H',Same H H'->H' l=some (.lst ls')->Rwl H' ls' n n (fun j=>lno m n T (m+j))->Q (.ref l) H'
theorem yF:FnScope ["table"] ["table"] (ag sTli):= .of
theorem xh{f:Addr}{fd:FuncData}(F:Fun K "term_lines" "term_lines" sTli f fd)(B:Blt mg)(zL:Cl P w K mg base 1 "line_of" ["table","number"] (rn (K:=K))):
 FnOk P w K mg base CX0 2 f fd ["table"] (qU (K:=K)):=by
 refine F.okb yF fun vs H Q E h=>?_;refine hZq fun q_ e_=>?_;obtain⟨D,m,n,scs,us,ws,pl,ls,T,rfl,hk,c,hP,q⟩:=h;subst e_;refine⟨rfl,fun au A outer s hr=>?_⟩;have o:(["number","table"]:List Str).Nodup:=by decide +kernel
 refine⟨_,af (ar (aO (NC:= ["number","table"]) (mp:= [none,some 0]) rfl (cA rfl B.ra (a0 (aA ax rfl B.le PySem.boot_len (a0 (aN (pv 0) rfl) a9)) a9)) (fun _ _ _ _ _=>pgA 0 o) (fun _ _ _ _ _=>aR)
  (fun _ _ _ _ _=>aj zL hr (a0 (pv 1) (a0 (am aY (aA (pI (K:=K) rfl) rfl B.le PySem.boot_len (a0 (c7 (K:=K) rfl (pv 1) rfl) a9)) (pv 0)) a9))))),?_⟩
 have v:(20000:Nat)<=sizeLine:=by decide +kernel
 have n64:=c.n64;have wl:=c.tt.len;have ul:=c.ul;have sl:=c.sl;refine jg ?_;refine bM rfl ?_;refine⟨_,rfl,D.a,D.C,D.dx,_,_,rfl,c.ob,hk.cls,hk.nt,rfl,D.pt,_,rfl, .inl (SqL.of c.tm),(n:Int),by rw[wl,ul],by omega,by omega,fun L x=>?_⟩
 refine mM (n:=n) (fun j acc H'=>Same H H'/\H' L=some (.lst acc)/\acc.length=j/\∀i,i < j->∃z,acc[i]?=some (.ref z)/\H' z=some (.lst ((Wg.ls (n+2) (lno m n T (m+i))).map V.int))/\z≠L) ⟨aa x,a8,rfl,fun i hi=>absurd hi (Nat.not_lt_zero _)⟩ ?_ ?_
 . intro j acc H' p z_;refine hZq fun q_ e_=>?_;obtain⟨k,g,al,hz⟩:=z_;subst e_;rw[AD];have b:=c.same k;refine⟨_,rfl,_,rfl,D.a,D.C,D.dx,_,_,rfl,b.ob,hk.cls,hk.ns,rfl,D.psc,_,rfl, .inl (SqL.of b.sc),_,rfl,_,_,rfl,rfl,D,m,n,scs,us,ws,pl,ls,T,m+j,?_,hk,b,hP,fun z H3 l t=>?_⟩
   . rw[zm,sl];simp
   . have nz:z≠L:=fun y=>by
      have h1:=l _ _ g;rw[y,h1]at t;have e4:=HO.lst.inj (zN t);have l4:=congrArg List.length e4
      have h0:∀i,acc[i]?≠some (V.int (lno m n T (m+j) i)):=fun i hi=>by
       have u:i < j:=by rw[<-al];exact(zv.mp hi).1
       obtain⟨z',d,_⟩:=hz i u;rw[d]at hi;cases hi
      have:=h0 0;rw[e4,fJ (by omega)]at this
      exact this rfl
     refine CompN.mk p (by omega) (l _ _ g) ⟨aD x (k.trans l),a8,by rw[A6,al];rfl,fun i hi=>?_⟩
     rcases Nat.lt_or_ge i j with h|h
     . refine hZq fun q_ e_=>?_;obtain⟨z',d,r,a3⟩:=hz i h;subst e_;exact⟨z',by rw[List.getElem?_append_left (by omega)];exact d,by rw[ae a3];exact l _ _ r,a3⟩
     . have e:i=j:=by omega
       subst e;exact⟨z,by rw[List.getElem?_append_right (by omega),al];simp,by rw[ae nz];exact t,nz⟩
 . intro acc H2 z_;refine hZq fun q_ e_=>?_;obtain⟨k,g,al,hz⟩:=z_;subst e_;refine q L acc H2 k g ⟨al,fun j p=>?_⟩;refine hZq fun q_ e_=>?_;obtain⟨z,d,r,_⟩:=hz j p;subst e_;exact⟨z,d,r⟩
theorem xM:lim < 2^8000:=Nat.pow_lt_pow_right (by decide) (by decide)
theorem big1{C:Nat}{x:Int}(h:x.natAbs<=C+1)(hb:C < lim):Big x:=zZ (zK h hb) xM
theorem uC{te:TE}{u:L2.TA}{Z:Ends}{σ:L2.St}{H:Hp}(h:te σ H fun v H1=>u σ H1 fun vs H2=>(v::vs).length<=sizeLine/\∀p,H2 p=none->Z.rt (.ref p) (upd H2 p (.tup (v::vs)))):tRet (tTup (cW te u)) Z σ H:=h
def qV:Sp:=fun vs H Q _=>∃(D:TA) (m n C:Nat) (scs:List Int) (us:List Tr) (ws:List V) (pl:Addr) (ls:List V) (L:Nat->Nat->Int) (T:Wg.Tb),vs= [.ref D.a]/\Tk K D.C/\Tab D m n scs us ws pl ls T H/\Wb m n L scs C/\Okt m n L T/\
 ∀(t l:Addr) (H':Hp) (M:Int),Same H H'->H' t=some (.tup [.ref l, .int (T.bot*M)])->H' l=some (.lst ((Wg.ls n fun j=>Wg.pt m n M T (m+j)).map V.int))->1<=M->M<=(C:Int)+1->(∀i,i < m->T.sd i < m->0 < T.ln i n-> -(T.ln i (n+1) / T.ln i n)<=M)->Q (.ref t) H'
theorem scStr:FnScope ["table","parts","lines"] ["table"] (ag sStr):= .of
theorem xi{f:Addr}{fd:FuncData}(F:Fun K "strict_point" "strict_point" sStr f fd)(B:Blt mg)(zS:Cl P w K mg base 2 "slack_lines" ["table"] (ko (K:=K)))(zL:Cl P w K mg base 2 "term_lines" ["table"] (qU (K:=K))):
 FnOk P w K mg base CX0 3 f fd ["table"] (qV (K:=K)):=by
 refine F.okb scStr fun vs H Q E h=>?_;refine hZq fun q_ e_=>?_;obtain⟨D,m,n,C,scs,us,ws,pl,ls,L,T,rfl,hk,hT,hW,hO,k⟩:=h;subst e_;refine⟨rfl,fun bF A outer s hr=>?_⟩;have a7:(["at","table"]:List Str).Nodup:=by decide +kernel
 have a3:(["line","parts"]:List Str).Nodup:=by decide +kernel
 refine⟨_,ad (psR 1 scStr.nd (aA (pH rfl) rfl B.ma PyProof.Rows.boot_max (a0 (am eE (bX (a0 ac a9)) (aO (NC:= ["at","table"]) (mp:= [none,some 0]) rfl (gT (K:=K) rfl (aj zS hr (a0 (pv 0) a9)))
  (fun _ _ _ _ _=>pgA 0 a7) (fun _ _ _ _ _=>cy (aw dc (ak (r:=rIxL K) ao (ak (r:=rIxL K) ao (c7 (K:=K) rfl (pv 1) rfl) (pv 0) fun _ _=>rfl) (c9 bu ac) fun _ _=>rfl) ac (ay _)))
  (fun _ _ _ _ _=>c9 bu (am cD (ak (r:=rIxL K) ao (ak (r:=rIxL K) ao (c7 (K:=K) rfl (pv 1) rfl) (pv 0) fun _ _=>rfl) (c9 bu ac) fun _ _=>rfl) (ak (r:=rIxL K) ao (ak (r:=rIxL K) ao (c7 (K:=K) rfl (pv 1) rfl) (pv 0) fun _ _=>rfl) (c9 bu ac) fun _ _=>rfl))))) a9)))
  (ad (psA 2 scStr.nd (aj zL hr (a0 (pv 0) a9)))
  (af (ar (aQ (a0 (aO (NC:= ["line","parts"]) (mp:= [none,some 1]) rfl (aJ (pv 2)) (fun _ _ _ _ _=>pgA 0 a3) (fun _ _ _ _ _=>aR)
   (fun _ _ _ _ _=>am aY (am aU (ak (r:=rIxL K) ao (pv 0) (c9 bu ac) fun _ _=>rfl) (pv 1)) (ak (r:=rIxL K) ao (pv 0) (c9 bu ac) fun _ _=>rfl)))
   (a0 (am aU (aN (pv 0) rfl) (pv 1)) a9)))))),?_⟩
 have bB:(20000:Nat)<=sizeLine:=by decide +kernel
 have m64:=hT.m64;have n64:=hT.n64;have fl:∀b pl,(flds D pl b).lookup (Str.ofString "lines")=some (.ref pl):=fun b pl=>rfl;obtain⟨bb,bl⟩:=hW.bnd hO.inv hO.pm;have y:∀(p:Nat->Bool),((List.range m).filter p).length<=m:=fun p=>zK (Aa _ _) (by rw[Aj];exact zu _)
 refine⟨(by show 1<=sizeLine;decide),fun l1 bi=>?_⟩
 have au:=aa (o:= .lst [.int 1]) bi;refine bV rfl ?_;have aT:=hT.same au;refine⟨_,rfl,D,m,n,scs,us,ws,pl,ls,T,rfl,hk,aT,fun l H2 nl s2 hl=>?_⟩;have a6:=aT.same s2;refine⟨l,rfl,⟨_,SqL.of hl⟩,fun L' nL=>?_⟩;refine cF (xs:=nv (slk m T)) (fun j acc H3=>Same H2 H3/\H3 L'=some (.lst acc)/\acc=((((slk m T).take j).filter fun x=>decide (0 < T.ln x n)).map fun x=> -(T.ln x (n+1) / T.ln x n)).map V.int) ⟨aa nL,a8,rfl⟩ (fun j acc H3 p=>SqL.of (p.1 _ _ hl)) ?_ ?_
 . intro j x acc H3 hj ex z_;refine hZq fun q_ e_=>?_;obtain⟨s3,hL,rfl⟩:=z_;unfold nv at ex;rw[zr]at ex;obtain⟨r,er,rfl⟩:=zy.mp ex;obtain⟨rm,rs⟩:=slk_mem.mp (zw er);have d:=a6.same s3;obtain⟨q,eq,hq,_,_⟩:=d.ro.2 r rm;subst e_;have al:(((slk m T).take j).filter fun x=>decide (0 < T.ln x n)).length<=m:=zK (Aa _ _) (zK (List.length_take_le' _ _) (y _));refine⟨_,rfl,D.a,D.C,D.dx,_,_,rfl,d.ob,hk.cls,hk.nl,fl _ _,_,rfl,pl,_,(r:Int),_,rfl,rfl,SqL.of d.li,aB eq,2,rfl,q,_,-2,_,rfl,rfl,SqL.of hq,mP,_,0,rfl,rfl,_,rfl,?_⟩;by_cases z:0 < T.ln r n
   . rw[decide_eq_true z];refine iteT ?_;refine⟨_,rfl,D.a,D.C,D.dx,_,_,rfl,d.ob,hk.cls,hk.nl,fl _ _,_,rfl,pl,_,(r:Int),_,rfl,rfl,SqL.of d.li,aB eq,1,rfl,q,_,-1,_,rfl,rfl,SqL.of hq,ut,_,rfl,D.a,D.C,D.dx,_,_,rfl,d.ob,hk.cls,hk.nl,fl _ _,_,rfl,pl,_,(r:Int),_,rfl,rfl,SqL.of d.li,aB eq,2,rfl,q,_,-2,_,rfl,rfl,SqL.of hq,mP,_,_,rfl,rfl,⟨z,ck (bl r n rm (by omega)) hW.big⟩,_,rfl,?_⟩
     refine CompN.mk hj (by rw[zm,zm];omega) hL ⟨aD nL s3,a8,?_⟩
     rw[aq er,Ai];simp[z]
   . rw[decide_eq_false z];refine iteF ?_;refine CompS.mk hj ⟨s3,hL,?_⟩;rw[aq er,Ai];simp[z]
 intro acc H3 z_;refine hZq fun q_ e_=>?_;obtain⟨s3,hL,rfl⟩:=z_;have bj:(nv (slk m T)).length=(slk m T).length:=by unfold nv;rw[zm]
 rw[bj,A3]at hL;obtain⟨ms,u⟩:∃ms:List Int,ms=((slk m T).filter fun x=>decide (0 < T.ln x n)).map fun x=> -(T.ln x (n+1) / T.ln x n):=⟨_,rfl⟩;subst e_;rw[<-u]at hL
 have bC:ms.length<=m:=by
  rw[u,zm];exact zK (Aa _ _) (y _)
 refine⟨l1,L',_,_,rfl,rfl,s3 _ _ (s2 _ _ a8),hL,by rw[zm];show 1+ms.length<=sizeLine;omega,fun p np=>?_⟩
 have sp:=aa (o:= .lst ([.int 1]++ms.map V.int)) np;refine⟨p,1::ms,rfl,SqL.of a8,by simp,fun M hM a5=>?_⟩
 have M1:1<=M:=a5 1 zq
 have MC:M<=(C:Int)+1:=by
  rcases zJ.mp hM with e|e
  . rw[e];omega
  . rw[u]at e;obtain⟨x,hx,rfl⟩:=zM.mp e;rw[Ag,slk_mem]at hx;have h1:=bl x (n+1) hx.1.1 (by omega)
    have h2:=cz (T.ln x (n+1)) (T.ln x n);omega
 have MP:∀i,i < m->T.sd i < m->0 < T.ln i n-> -(T.ln i (n+1) / T.ln i n)<=M:=fun i hi hs hp=>by
  refine a5 _ (zp _ ?_);rw[u];refine zM.mpr ⟨i,?_,rfl⟩;rw[Ag,slk_mem];exact⟨⟨hi,hs⟩,decide_eq_true hp⟩
 have MB:Big M:=big1 (C:=C) (by omega) hW.big
 have sA:=((au.trans s2).trans s3).trans sp;have aC:=hT.same sA;refine ah ?_;refine⟨_,rfl,D,m,n,scs,us,ws,pl,ls,T,rfl,hk,aC,hO.pm,fun l2 bx H5 s5 a4 v=>?_⟩;have bg:=aC.same s5;refine ah ?_;dsimp only;refine uC ?_;refine bM rfl ?_;refine⟨_,rfl,l2,rfl,⟨_,SqL.of a4⟩,fun L2 a2=>?_⟩;refine bG (xs:=bx) (fun j acc H6=>Same H5 H6/\H6 L2=some (.lst acc)/\acc=(Wg.ls j fun j=>Wg.pt m n M T (m+j)).map V.int/\j<=n) ⟨aa a2,a8,rfl,zY _⟩ (fun j acc H6 p=>SqL.of (p.1 _ _ a4)) ?_ ?_
 . intro j x acc H6 hj ex z_;refine hZq fun q_ e_=>?_;obtain⟨s6,g,rfl,_⟩:=z_;rw[v.1]at hj;obtain⟨q,eq,hq⟩:=v.2 j hj;subst e_;rw[eq]at ex;cases ex;have a1:=s6 _ _ hq;have b1:=ml (k:=m+j) (c:=n) hO.pm bb bl (by omega)
   refine⟨_,rfl,2,rfl,q,_,-2,_,rfl,rfl,SqL.of a1,mP,_,rfl,_,_,rfl,rfl,⟨ck b1 hW.big,MB⟩,_,rfl,1,rfl,q,_,-1,_,rfl,rfl,SqL.of a1,ut,_,_,rfl,rfl,?_⟩;show CompN _ _ _ _ _ (V.int (lno m n T (m+j) n*M+lno m n T (m+j) (n+1))) H6;rw[tq];refine CompN.mk (by rw[v.1];exact hj) (by rw[zm,Wg.ls_len];omega) g ⟨aD a2 s6,a8,?_,hj⟩
   unfold Wg.ls;rw[As,zQ,zQ];rfl
 . intro acc H6 z_;refine hZq fun q_ e_=>?_;obtain⟨s6,g,rfl,_⟩:=z_;subst e_;rw[v.1]at g;have bw:=bg.same s6;refine⟨_,rfl,D.a,D.C,D.dx,_,_,rfl,bw.ob,hk.cls,hk.nb,rfl,_,rfl,_,_,rfl,rfl,⟨ck bb hW.big,MB⟩,two,fun t nt=>?_⟩;have st:=aa (o:= .tup [.ref L2, .int (T.bot*M)]) nt;exact k t L2 _ M (((sA.trans s5).trans s6).trans st) a8 (st _ _ g) M1 MC MP
def r8:Sp:=fun vs H Q _=>∃(D:TA) (m n:Nat) (scs:List Int) (us:List Tr) (ws:List V) (pl:Addr) (ls:List V) (T:Wg.Tb) (t l:Addr) (b:Int) (tp:Nat->Int),vs= [.ref D.a, .ref t]/\Tk K D.C/\Tab D m n scs us ws pl ls T H/\H t=some (.tup [.ref l, .int b])/\H l=some (.lst ((Wg.ls n tp).map V.int))/\0 < b/\Big b/\us.Nodup/\(∀u∈us,Ty .tm u/\u.depth<=7)/\
 ∀(d:Addr) (H':Hp) (G:Tr->Fr),H d=none->Same H H'->Dj.DAt P w K H' d us G->(∀j u,us[j]?=some u->G u=(fx (tp j) b,fy (tp j) b))->Q (.ref d) H'
theorem scNua:FnScope ["table","point","tops","bottom"] ["table","point"] (ag sNua):= .of
theorem xr{f:Addr}{fd:FuncData}(F:Fun K "numbers_at" "numbers_at" sNua f fd)(B:Blt mg)(zF:Cl P w K mg base 2 "fraction" ["top","bottom"] nj):
 FnOk P w K mg base CX0 3 f fd ["table","point"] (r8 (P:=P) (w:=w) (K:=K)):=by
 refine F.okb scNua fun vs H Q E h=>?_;refine hZq fun q_ e_=>?_;obtain⟨D,m,n,scs,us,ws,pl,ls,T,t,l,b,tp,rfl,hk,v,ht,hl,hb,bb,nd,r,k⟩:=h;subst e_;refine⟨rfl,fun a4 A outer s hr=>?_⟩;have a3:(A.deeper (PyProof.Rows.envOfC (Str.ofString "numbers_at") (ag sNua) s.heap.objs.size f a4)).units+30 < cLine:=by have:=hr.units;omega
 have aT:(["term","top","bottom"]:List Str).Nodup:=by decide +kernel
 refine⟨_,ad (fj (pv 1) (aS (n:=2) rfl (ai (pgA 2 scNua.nd) (ai (fW (i:=3) scNua.nd rfl (Or.inr rfl)) aL))))
  (af (ar (Dj.pe_compJ (NC:= ["term","top","bottom"]) (mp:= [none,none,some 3]) (g:=gTup K 2 (aV (aH 0) (aV (aH 1) gNil))) rfl a3 (jE (k:= .lst) rfl B.zi (a0 (aN (pv 0) rfl) (a0 (pv 2) a9)))
   (fun _ _ _ _ _=>aS (n:=2) rfl (ai (pgA 0 aT) (ai (pgA 1 aT) aL))) (fun _ _ _ _ _=>aR)
   (fun _ _ _ _ _=>pv 0) (fun _ _ _ _ _=>aj zF hr (a0 (pv 1) (a0 (pv 2) a9)))))),?_⟩
 have a6:(20000:Nat)<=sizeLine:=by decide +kernel
 have n64:=v.n64;have wl:=v.tt.len;have ul:=v.ul;obtain⟨G,eG⟩:∃G:Tr->Fr,G=fun u=>(fx (tp (Fm.ix us u)) b,fy (tp (Fm.ix us u)) b):=⟨_,rfl⟩;have hG:∀j u,us[j]?=some u->G u=(fx (tp j) b,fy (tp j) b):=fun j u e=>by rw[eG];show(fx (tp (Fm.ix us u)) b,_)=_;rw[Fm.ix_eq nd e]
 refine⟨_,rfl,t,_,rfl,SqT.of ht,rfl,_,_,rfl,_,_,rfl,rfl,?_⟩;dsimp only;refine Dj.comp_zipJ (P:=P) (w:=w) (K:=K) (xs:=ws) (ys:=(Wg.ls n tp).map V.int) (rest:= [some (.int b)]) (a:=D.pt) (b:=l) rfl (by rw[zm,Wg.ls_len];omega) (fun Q q=>⟨_,rfl,D.a,D.C,D.dx,_,_,rfl,v.ob,hk.cls,hk.nt,rfl,_,rfl,q⟩) (SqL.of v.tm) (SqL.of hl) fun d au=>?_
 refine⟨fun j acc H'=>Same H H'/\Dj.DJ P w K H' d acc/\Paired (Dj.En H' G) acc (us.take j),⟨aa au,⟨a8,fun p m=>(by cases m)⟩,by rw[Ar];exact .nil⟩,fun j acc H' p=>⟨SqL.of (p.1 _ _ v.tm),SqL.of (p.1 _ _ hl)⟩,?_,?_⟩
 . rintro j T' x y acc H' hj ⟨s2,hD,hP⟩ ex ey nT;have jn:j < n:=by omega
   rw[fJ jn]at ey;cases ey;refine hZq fun q_ e_=>?_;obtain⟨u,eu,hu⟩:=v.tt.get' ex;obtain⟨ty,dp⟩:=r u (zw eu);obtain⟨c,rfl⟩:=Dj.tm_ref ty hu;subst e_;have sT:=aa (o:= .tup [.ref c, .int (tp j)]) nT;refine⟨_,rfl,c,Dj.ktL u,rfl,?_⟩;refine⟨_,rfl,_,rfl,tp j,b,rfl,hb,bb,fun q nq=>?_⟩;have sq:=aa (o:= .tup [.int (fx (tp j) b), .int (fy (tp j) b)]) nq;have a1:=hu.mono (Kd.of_same ((s2.trans sT).trans sq));have aC:Dj.DJ P w K (upd (upd H' T' (.tup [.ref c, .int (tp j)])) q (.tup [.int (fx (tp j) b), .int (fy (tp j) b)])) d acc:=hD.kd (Kd.of_same (sT.trans sq)) ((sT.trans sq) _ _ hD.at_);have a2:=Dj.en_mono (Kd.of_same (sT.trans sq)) hP
   have hv:TrAt (upd (upd H' T' (.tup [.ref c, .int (tp j)])) q (.tup [.int (fx (tp j) b), .int (fy (tp j) b)])) (.ref q) (frT (G u)):=by
    rw[hG j u eu];exact bP a8 at_i at_i
   have key:=Dj.key_tm ty dp a1 (K:=K);have pl':=Paired.length hP;rw[A7]at pl'
   have a5:u∉us.take j:=fun m=>by
    obtain⟨i,hi,e⟩:=Ax m;rw[A7]at hi;rw[List.getElem_take]at e;have:=sW nd eu (show us[i]?=some u by rw[zo (by omega),e])
    omega
   have e0:=(Dj.en_val a2 (fun t m=>(r t (AN m)).1) ty).2 a5
   have ep:Dj.putJ acc (Dj.ktL u) c (.ref q)=acc++ [(Dj.ktL u,c, .ref q)]:=by
    unfold Dj.putJ;rw[e0,if_neg (by simp)]
   refine Dj.CompJ.mk (by omega) (by omega) aC key ⟨?_,aC.put key,?_⟩
   . intro x o e;have:=((s2.trans sT).trans sq) _ _ e;rw[ae (fun z=>by rw[z,au]at e;cases e)]
     exact this
   . rw[ep,aq eu];have kd:=Dj.Kd.updJ (o:=Dj.dJ P w d (acc++ [(Dj.ktL u,c, .ref q)])) aC.at_;exact Paired.snoc (Dj.en_mono kd a2) ⟨rfl,a1.mono kd,hv.mono kd⟩
 . rintro acc H2 ⟨s2,hD,hP⟩;rw[wl,A3]at hP;exact k d H2 G au s2 ⟨⟨acc,hD,hP⟩,r,nd⟩ hG
end
end K44
namespace L2
open PySem PySem.Spec PyProof.Rows
theorem ext3{o p q:Option V}{r:St}:Ext (none::none::none::r) (o::p::q::r)
 |0,v,e=>by cases (zN (show some (none:Option V)=some (some v)from e))
 |1,v,e=>by cases (zN (show some (none:Option V)=some (some v)from e))
 |2,v,e=>by cases (zN (show some (none:Option V)=some (some v)from e))
 |j+3,v,e=>e
theorem dq{K:PySem.W.Frag}{a:Addr}{mp:List (Option Nat)}{tl:TE}{g:TG}{tc:TT}{te:TE}{Q:VK}{σ:L2.St}{H H1:Hp}{xs:List V}(ha:∀Q:VK,Q (.ref a) H1->tl σ H Q)(h1:SqL K H1 a xs)(h:∀D,H1 D=none->∃Pv:Nat->List V->Hp->Prop,Pv 0 [] (upd H1 D (.lst []))/\(∀i acc H,Pv i acc H->SqL K H a xs)/\
  (∀i z acc H,i < xs.length->Pv i acc H->xs[i]?=some z->g z (subS mp σ) H fun σ4 H4=>Ext (subS mp σ) σ4/\tc σ4 H4 fun b H5=>if b=true then te σ4 H5 (CompN xs.length i D acc Pv)else CompS xs.length i acc Pv H5)/\∀acc H,Pv xs.length acc H->Q (.ref D) H):
 bQ mp (iY K tl) g tc te σ H Q:=by
 unfold bQ;refine ha _ ⟨a,rfl,⟨xs,h1⟩,fun D f=>?_⟩;refine hZq fun q_ e_=>?_;obtain⟨Pv,e,j,ps,k⟩:=h D f;subst e_;refine⟨fun i m acc H=>m=xs.length - i/\i<=xs.length/\Pv i acc H,⟨xs.length,by simp,zY _,e⟩,?_⟩
 rintro i m acc H ⟨rfl,hi,p⟩;have d:=j i acc H p;by_cases c:i < xs.length
 . refine .inr ⟨⟨xs,xs[i],d,by simp[c]⟩,?_⟩
   rintro v H' ⟨rfl,y⟩;exact ps i v acc _ c p (y xs d)
 . have ei:i=xs.length:=by omega
   subst ei;exact .inl ⟨⟨xs,d,zu _⟩,k acc H p⟩
end L2
namespace K44
open PySem L2 Mth Tre Wd Su Tw Fm
theorem kc{sp:Sp}{dvs:List V}{E:XK}{r:R2}{ta tb:TE}{i:Nat}{u:TS}{Z:Ends}{σ:L2.St}{H:Hp}(h:ta σ H fun x H1=>tb σ H1 fun y H2=>r x y H2 fun v H3=>sp ([v]++dvs) H3 (fun x H4=>aH i x σ H4 (u Z)) E):tSeq (tAsg (iG sp dvs E (cW (tOp r ta tb) tNil)) (aH i)) u Z σ H:=h
theorem qh{r:R2}{ta tb:TE}{σ:L2.St}{H:Hp}{Q:List V->Hp->Prop}(h:ta σ H fun x H1=>tb σ H1 fun y H2=>r x y H2 fun v H3=>Q [v] H3):cW (tOp r ta tb) tNil σ H Q:=h
structure Bnd where
 ps:List Pq
 lim:Fr
 st:Bool
def bdT(b:Bnd):Tr:= .tup [sumT b.ps,frT b.lim, .bl b.st]
theorem c6{H:Hp}{v:V}{a b c:Tr}(h:TrAt H v (.tup [a,b,c])):∃r x y z,v= .ref r/\H r=some (.tup [x,y,z])/\TrAt H x a/\TrAt H y b/\TrAt H z c:=by
 obtain⟨r,vs,rfl,hr,e⟩:=at_t h;obtain⟨x,r1,rfl,h1,h2⟩:=e.inv;obtain⟨y,r2,rfl,h3,g⟩:=h2.inv;obtain⟨z,i,rfl,f,d⟩:=g.inv;unfold TrsAt at d;subst d;exact⟨r,x,y,z,rfl,hr,h1,h3,f⟩
noncomputable def scl(b:Bnd):Int:=lcmF 1 (b.ps.map (·.2)++ [b.lim])
noncomputable def rowF(us:List Tr)(b:Bnd)(c:Nat):Int:=
 if c < us.length then -(cw (scl b) (us.getD c .non) b.ps)else if c=us.length then wh b.lim (scl b)else if b.st then -1 else 0
noncomputable def Lf(bs:List Bnd)(us:List Tr)(i:Nat):Nat->Int:=rowF us (bs.getD i ⟨[],(0,1),false⟩)
theorem uR{us:List Tr}{b:Bnd}{n:Nat}(h:us.length=n):Wg.ls (n+2) (rowF us b)=((us.map fun t=>cw (scl b) t b.ps).map fun x=> -x)++ [wh b.lim (scl b),if b.st then -1 else 0]:=by
 subst h;unfold Wg.ls;rw[As,As,List.append_assoc,zQ];congr 1
 . refine List.ext_getElem? fun i=>?_;rw[zr,zr,zr];by_cases hi:i < us.length
   . rw[List.getElem?_range hi,zo hi];simp only[Option.map_some,Option.some.injEq];unfold rowF;rw[if_pos hi,zt,zo hi];rfl
   . rw[AM (by rw[Aj];omega),AM (by omega)]
     rfl
 . show[rowF us b us.length,rowF us b (us.length+1)]=_;unfold rowF;rw[if_neg (by omega),if_pos rfl,if_neg (by omega),if_neg (by omega)]
structure Bz (bs:List Bnd) (X Y S k C:Nat):Prop where
 ps:∀b∈bs,b.ps.length<=k/\(∀p∈b.ps,p.2.1.natAbs<=X/\p.2.2.natAbs<=Y)/\b.lim.1.natAbs<=X/\b.lim.2.natAbs<=Y
 sc:∀b∈bs,(scl b).natAbs<=S
 y1:1<=Y
 xs:1<=X*S
 yb:Y^(k+2) < 2^8000
 cc:Wg.fac bs.length*(X*S)^bs.length<=C
 s1:S<=C
 c1:1<=C
 big:C < lim
structure Gbd (T:List Tr) (e:Nat) (b:Bnd):Prop where
 asc:Asc b.ps
 ps:∀p∈b.ps,Gm T p.1/\Gq e p
 lim:Gf e b.lim
 sh:Sh b.lim
theorem oQ{Y a b:Nat}(hY:1<=Y)(h:a<=b):Y^a<=Y^b:=Aw hY h
theorem Gbd.scl_ok{T:List Tr}{e:Nat}{b:Bnd}(g:Gbd T e b):0 < scl b/\(∀p∈b.ps,p.2.2∣scl b)/\b.lim.2∣scl b:=by
 have h:∀f∈b.ps.map (·.2)++ [b.lim],0 < f.2/\f.2.natAbs<=(((b.ps.map (·.2)++ [b.lim]).map fun f:Fr=>f.2.natAbs).foldr max 0):=by
  intro f a;refine⟨?_,?_⟩
  . rcases A9.mp a with m|m
    . obtain⟨p,mp,rfl⟩:=zM.mp m;exact(g.ps p mp).2.gf.pos
    . rw[A8.mp m];exact g.lim.pos
  . generalize b.ps.map (·.2)++ [b.lim]=fs at a;clear g
    induction fs with
    |nil=>cases a
    |cons x r i=>
     rw[zU,List.foldr_cons];rcases zJ.mp a with rfl|a
     . exact Nat.le_max_left _ _
     . exact zK (i a) (Nat.le_max_right _ _)
 obtain⟨d,j,c,_⟩:=fZ (s:=1) (by decide) h
 refine⟨d,fun p mp=>c p.2 (AO _ (zM.mpr ⟨p,mp,rfl⟩)),c _ (zR _ zq)⟩
theorem Bz.wb{bs:List Bnd}{X Y S k C:Nat}(h:Bz bs X Y S k C){T:List Tr}{e:Nat}(g:∀b∈bs,Gbd T e b)(us:List Tr):Wb bs.length us.length (Lf bs us) (bs.map scl) C:=by
 refine⟨⟨X*S,⟨fun i c hi hc=>?_,h.xs⟩,h.cc⟩,fun s d=>?_,h.c1,h.big⟩
 . have mb:bs.getD i ⟨[],(0,1),false⟩∈bs:=by
    rw[zt,zo hi];exact A4 hi
   unfold Lf;generalize bs.getD i ⟨[],(0,1),false⟩=b at mb;obtain⟨_,h2,h3,_⟩:=h.ps b mb;have hs:=h.sc b mb;have a:=g b mb;unfold rowF;split
   . rw[AU];refine zK (wo (e:=e) (M:=X) fun p mp=>⟨(a.ps p mp).2.gf.pos,(h2 p mp).1⟩) (Nat.mul_le_mul_left _ hs)
   . split
     . exact zK (vU a.lim.pos) (AF h3 hs)
     . have:=h.xs;split
       . show 1<=X*S;exact this
       . exact zY _
 . obtain⟨b,mb,rfl⟩:=zM.mp d;exact⟨(g b mb).scl_ok.1,zK (h.sc b mb) h.s1⟩
section
variable{P:Program}{w:World}{K:PySem.W.Frag}{mg:Str->Option Value}{base:Heap}{T0:Addr}
def qR(C0:Addr):Sp:=fun vs H Q _=>∃(lb lsu:Addr) (xs ys:List V) (bs:List Bnd) (ex:List (List Pq)) (T:List Tr) (e X Y S k C:Nat),vs= [.ref lb, .ref lsu]/\H lb=some (.lst xs)/\TrsAt H xs (bs.map bdT)/\H lsu=some (.lst ys)/\TrsAt H ys (ex.map sumT)/\
 (∀b∈bs,Gbd T e b)/\(∀ps∈ex,∀p∈ps,Gm T p.1)/\e<=8000/\T.length < 60/\bs.length<=64/\ex.length<=64/\k<=60/\Bz bs X Y S k C/\
 ∀(D:TA) (H':Hp) (us:List Tr) (ws:List V) (pl:Addr) (ls:List V) (Tb:Wg.Tb),D.C=C0->Same H H'->Tab D bs.length us.length (bs.map scl) us ws pl ls Tb H'->Okt bs.length us.length (Lf bs us) Tb->us.Nodup->(∀u∈us,Gm T u)->us.length<=T.length->
  (∀x,x∈us↔(∃b∈bs,∃p∈b.ps,p.1=x)\/∃ps∈ex,∃p∈ps,p.1=x)->H D.a=none->H D.pss=none->H D.ph=none->Q (.ref D.a) H'
theorem scTof:FnScope ["bounds","sums","bound","terms","pairs","strict","scales","lines","scale","counts","table"] ["bounds","sums"] (ag sTof):= .of
theorem xc{f fI C0:Addr}{fd dI:FuncData}(F:Fun K "table_of" "table_of" sTof f fd)(B:Blt mg)(hk:Tk K C0)(zTm:Cl P w K mg base 42 "terms_of" ["sums"] qT)(zSc:Cl P w K mg base 2 "scale_of" ["shares"] qY)(zSh:Cl P w K mg base 1 "shares_in" ["pairs"] qW)(zCt:Cl P w K mg base 42 "counts_of" ["pairs","terms","scale"] rC)(zWh:Cl P w K mg base 1 "whole_of" ["share","scale"] mX)(M:Mk K C0 fI)(GI:FnOk P w K mg base CX0 1 fI dI ["self","terms","scales","lines"] (lU (K:=K) C0))(bI:Binds K dI ["self","terms","scales","lines"] [])(mC:mg "Table"=some (.ref C0))(zSe:Cl P w K mg base 3 "settle" ["table"] (qX (K:=K))):
 FnOk P w K mg base CX0 43 f fd ["bounds","sums"] (qR C0):=by
 refine F.okb scTof fun vs H Q E h=>?_;refine hZq fun q_ e_=>?_;obtain⟨lb,lsu,xs,ys,bs,ex,T,e,X,Y,S,k,C,rfl,au,bC,eT,eo,hg,em,he,fM,e2,f4,f6,hz,q⟩:=h;subst e_;refine⟨rfl,fun gl A outer s hr=>?_⟩;have ea:Room 1 _:=hr.mono (by decide)
 have dV:Room 2 _:=hr.mono (by decide)
 have eH:Room 3 _:=hr.mono (by decide)
 have eB:(["bound"]:List Str).Nodup:=by decide +kernel
 have d6:(["count"]:List Str).Nodup:=by decide +kernel
 have cm:(["pairs","bound","strict"]:List Str).Nodup:=by decide +kernel
 refine⟨_,ad (psA 3 scTof.nd (aj zTm hr (a0 (am eE (aO (NC:= ["bound"]) (mp:= [none]) rfl (aJ (pv 0)) (fun _ _ _ _ _=>pgA 0 eB) (fun _ _ _ _ _=>aR) (fun _ _ _ _ _=>ak (r:=rIxT K) aE (pv 0) ac fun _ _=>rfl)) (bp f9 rfl B.li PyProof.Rows.boot_list (a0 (pv 1) a9))) a9)))
  (ad (eV (i:=6) (NC:= ["pairs","bound","strict"]) (mp:= [none,none,none]) (g:=gTup K 3 (aV (aH 0) (aV (aH 1) (aV (aH 2) gNil)))) rfl scTof.nd rfl rfl rfl (aJ (pv 0))
   (fun _ _ _ _ _=>aS (n:=3) rfl (ai (pgA 0 cm) (ai (pgA 1 cm) (ai (pgA 2 cm) aL)))) (fun _ _ _ _ _=>aR)
   (fun _ _ _ _ _=>aj zSc dV (a0 (am eE (aj zSh ea (a0 (pv 0) a9)) (bX (a0 (pv 1) a9))) a9)))
  (ad (psA 7 scTof.nd (bX a9))
  (ad (bK PassesOwn.never rfl (jE (k:= .lst) rfl B.zi (a0 (pv 0) (a0 (pv 6) a9))) (aS rfl (ai (aS (n:=3) rfl (ai (pgA 4 scTof.nd) (ai (pgA 2 scTof.nd) (ai (pgA 5 scTof.nd) aL)))) (ai (pgA 8 scTof.nd) aL)))
   (ad (psA 9 scTof.nd (aj zCt hr (a0 (pv 4) (a0 (pv 3) (a0 (pv 8) a9)))))
   (af (dg (iO PySem.F.plainAttrs_list PySem.F.slot_list_append PySem.F.type_list_append de (pv 7) (a0 (am eE (aO (NC:= ["count"]) (mp:= [none]) rfl (aJ (pv 9)) (fun _ _ _ _ _=>pgA 0 d6) (fun _ _ _ _ _=>aR) (fun _ _ _ _ _=>c9 bu (pv 0)))
    (bX (a0 (aj zWh ea (a0 (pv 2) (a0 (pv 8) a9))) (a0 (dG (cO (pv 5)) (c9 bu ac) ac) a9)))) a9))))))
  (ad (psA 10 scTof.nd (vd M GI dV rfl mC bI .nil gX (a0 (pv 3) (a0 (pv 6) (a0 (pv 7) a9)))))
  (ad (dg (aj zSe eH (a0 (pv 10) a9)))
  (af (ar (pv 10)))))))),?_⟩
 have f3:(20000:Nat)<=sizeLine:=by decide +kernel
 have xl:=bC.len;rw[zm]at xl;have yl:=eo.len;rw[zm]at yl;obtain⟨pss,bi⟩:∃pss,pss=bs.map (·.ps)++ex:=⟨_,rfl⟩;refine kc ?_;refine bM rfl ?_;refine⟨_,rfl,lb,rfl,⟨_,SqL.of au⟩,fun L1 d0=>?_⟩;refine bG (xs:=xs) (fun j acc H'=>Same H H'/\H' L1=some (.lst acc)/\TrsAt H' acc ((bs.take j).map fun b=>sumT b.ps)) ⟨aa d0,a8,by rw[Ar];exact .nil⟩ (fun j acc H' p=>SqL.of (p.1 _ _ au)) ?_ ?_
 . intro j x acc H' hj bF z_;refine hZq fun q_ e_=>?_;obtain⟨s2,hL,hA⟩:=z_;obtain⟨t,et,ht⟩:=(bC.mono (Kd.of_same s2)).get' bF;rw[zr]at et;obtain⟨b,eb,rfl⟩:=zy.mp et;obtain⟨r,x1,y1,z1,rfl,bg,a6,_,_⟩:=c6 ht;subst e_;have al:=hA.len;rw[zm,A7]at al;refine⟨_,rfl,r,_,0,_,rfl,rfl,SqT.of bg,rfl,?_⟩;have kd:=Kd.upd (ys:=acc++ [x1]) hL;refine CompN.mk hj (by omega) hL ⟨aD d0 s2,a8,?_⟩
   rw[aq eb,zQ];exact TrsAt.app (.cons (a6.mono kd) .nil) (hA.mono kd)
 rintro acc H1 ⟨s1,fv,hA⟩;rw[xl,A3]at hA;have al:=hA.len;rw[zm]at al;refine⟨_,rfl,lsu,_,rfl, .inl (SqL.of (s1 _ _ eT)),fun l2 fB=>?_⟩;have cd:=aa (o:= .lst ys) fB;refine⟨L1,l2,_,_,rfl,rfl,cd _ _ fv,a8,by omega,fun p1 ew=>?_⟩
 have dr:=aa (o:= .lst (acc++ys)) ew;have sA:=(s1.trans cd).trans dr;refine⟨p1,_,pss,T,rfl,a8,?_,?_,by omega,fun lt ws us H2 f7 s2 c3 e9 db d7=>?_⟩
 . rw[bi,zQ,At];exact TrsAt.app (eo.mono (Kd.of_same sA)) (hA.mono (Kd.of_same (cd.trans dr)))
 . intro ps d5 p mp;rw[bi]at d5;rcases A9.mp d5 with m|m
   . obtain⟨b,mb,rfl⟩:=zM.mp m;exact((hg b mb).ps p mp).1
   . exact em ps m p mp
 have a7:∀x,x∈us↔(∃b∈bs,∃p∈b.ps,p.1=x)\/∃ps∈ex,∃p∈ps,p.1=x:=fun x=>by
  rw[d7 x,bi];constructor
  . rintro⟨ps,m,h⟩;rcases A9.mp m with m|m
    . obtain⟨b,mb,rfl⟩:=zM.mp m;exact .inl ⟨b,mb,h⟩
    . exact .inr ⟨ps,m,h⟩
  . rintro(⟨b,mb,h⟩|⟨ps,m,h⟩)
    . exact⟨b.ps,AO _ (zM.mpr ⟨b,mb,rfl⟩),h⟩
    . exact⟨ps,zR _ m,h⟩
 have cp:∀u∈us,Gm T u:=fun u mu=>by
  rcases(a7 u).mp mu with⟨b,mb,p,mp,rfl⟩|⟨ps,m,p,mp,rfl⟩
  . exact((hg b mb).ps p mp).1
  . exact em ps m p mp
 have uT:us.length<=T.length:=sub_len db fun u mu=>(cp u mu).mem;have sB:=sA.trans s2;refine ah ?_;refine eM ?_;refine dq (K:=K) (xs:=xs) (a:=lb) (fun Q q=>⟨_,rfl,q⟩) (SqL.of (sB _ _ au)) fun L3 d9=>?_;refine⟨fun j acc H'=>Same H2 H'/\H' L3=some (.lst acc)/\acc=((bs.take j).map scl).map V.int,⟨aa d9,a8,rfl⟩,fun j acc H' p=>SqL.of (p.1 _ _ (sB _ _ au)),?_,?_⟩
 . rintro j z acc H' hj ⟨s3,aT,rfl⟩ ez;refine hZq fun q_ e_=>?_;obtain⟨t,et,ht⟩:=(bC.mono (Kd.of_same (sB.trans s3))).get' ez;rw[zr]at et;obtain⟨b,eb,rfl⟩:=zy.mp et;have mb:=zw eb;obtain⟨r,x1,y1,z1,rfl,bg,a6,cb,cn⟩:=c6 ht;obtain⟨k1,k2,k3,k4⟩:=hz.ps b mb;subst e_;have gb:=hg b mb;refine⟨r,_,rfl,SqT.of bg,rfl,_,_,rfl,_,_,rfl,_,_,rfl,rfl,ext3,cB ?_⟩;refine⟨_,rfl,x1,b.ps,rfl,a6,by omega,fun l4 w4 H4 s4 gk e8 ef=>?_⟩
   have eR:=ef.len;rw[zm]at eR;refine⟨_,rfl,(by show 1<=sizeLine;decide),fun l5 dj=>?_⟩
   have s5:=aa (o:= .lst [y1]) dj;refine⟨l4,l5,_,_,rfl,rfl,s5 _ _ e8,a8,by show w4.length+1<=sizeLine;omega,fun p6 e3=>?_⟩
   have s6:=aa (o:= .lst (w4++ [y1])) e3;refine⟨p6,_,b.ps.map (·.2)++ [b.lim],Y,rfl,a8,?_,?_,hz.y1,?_,?_⟩
   . rw[zQ,At];refine TrsAt.app (.cons (cb.mono (Kd.of_same ((s4.trans s5).trans s6))) .nil) ?_;exact ef.mono (Kd.of_same (s5.trans s6))
   . intro f mf;rcases A9.mp mf with m|m
     . obtain⟨p,mp,rfl⟩:=zM.mp m;exact⟨(gb.ps p mp).2.gf.pos,(k2 p mp).2⟩
     . rw[A8.mp m];exact⟨gb.lim.pos,k4⟩
   . refine zZ (oQ hz.y1 ?_) hz.yb;rw[A6,zm];show b.ps.length+1+1<=k+2;omega
   . have jl:j < bs.length:=(zv.mp eb).1;refine CompN.mk hj (by rw[zm,zm,A7];omega) (((s4.trans s5).trans s6) _ _ aT) ⟨aD d9 (((s3.trans s4).trans s5).trans s6),a8,?_⟩
     rw[aq eb];simp[scl]
 rintro f2 H3 ⟨s3,aT,rfl⟩;rw[xl,A3]at aT;have sC:=sB.trans s3;refine ah ?_;refine⟨(by show 0<=sizeLine;omega),fun pl bb=>?_⟩
 have bB:=aa (o:= .lst []) bb;refine ah ?_;have sD:=sC.trans bB;obtain⟨H4,d4⟩:∃H4,H4=upd H3 pl (.lst []):=⟨_,rfl⟩;rw[<-d4]at bB sD ⊢;have b7:H4 pl=some (.lst []):=by rw[d4];exact a8
 have ev:H pl=none:=sC.free bb;have eP:lb≠pl:=fun z=>by rw[z,ev]at au;cases au
 have ed:=sD _ _ au;have bj:H4 L3=some (.lst ((bs.map scl).map V.int)):=bB _ _ aT;have ee:L3≠pl:=fun z=>by rw[z,bb]at aT;cases aT
 have er:H4 lt=some (.lst ws):=(s3.trans bB) _ _ c3;have eu:lt≠pl:=fun z=>by rw[z]at c3;rw[s3 _ _ c3]at bb;cases bb
 have b8:=e9.mono (Kd.of_same (s3.trans bB))
 have eg:∀ {H':Hp},But1 pl H4 H'->(∃zs,H' pl=some (.lst zs))->Kd H4 H':=fun{H'} b hp=>⟨fun x o e=>b _ _ (fun z=>by rw[z,b7]at e;cases e) e,fun x o e=>by
  by_cases z:x=pl
  . rw[z];exact hp
  . exact⟨o,b _ _ z e⟩⟩
 refine⟨_,rfl,_,rfl,lb,L3,xs,(bs.map scl).map V.int,rfl,SqL.of ed,SqL.of bj,?_⟩
 refine tR (xs:=xs) (ys:=(bs.map scl).map V.int) (by rw[zm,zm];omega)
  (fun i σ H'=>(∃v2 v4 v5 v8 v9,σ= [some (.ref lb),some (.ref lsu),v2,some (.ref lt),v4,v5,some (.ref L3),some (.ref pl),v8,v9,none])/\But1 pl H4 H'/\∃acc,H' pl=some (.lst acc)/\acc.length=i/\∀j,j < i->∃q,acc[j]?=some (.ref q)/\H' q=some (.lst ((Wg.ls (us.length+2) (Lf bs us j)).map V.int))/\q≠pl)
  ⟨⟨none,none,none,none,none,rfl⟩,fun x o _ e=>e,[],b7,rfl,fun j hj=>absurd hj (Nat.not_lt_zero _)⟩ (fun i σ H' _ p=>⟨SqL.of (p.2.1 _ _ eP ed),SqL.of (p.2.1 _ _ ee bj)⟩) ?_ ?_
 . rintro i Tt x y σ H' ex' ey _ ⟨⟨v2,v4,v5,v8,v9,rfl⟩,b1,d,a4,c4,fC⟩ nT;rw[zr,zr]at ey;have d2:=eg b1 ⟨_,a4⟩;refine hZq fun q_ e_=>?_;obtain⟨t,et,ht⟩:=((bC.mono (Kd.of_same sD)).mono d2).get' ex';rw[zr]at et;obtain⟨b,eb,rfl⟩:=zy.mp et;subst e_;rw[eb]at ey;cases ey;have mb:=zw eb;have ib:i < bs.length:=(zv.mp eb).1;have gb:=hg b mb;refine hZq fun q_ e_=>?_;obtain⟨r,x1,y1,z1,rfl,bg,a6,cb,cn⟩:=c6 ht;have sT:=aa (o:= .tup [.ref r, .int (scl b)]) nT;obtain⟨k1,k2,k3,k4⟩:=hz.ps b mb;subst e_;have bY:Big (scl b):=ck (zK (hz.sc b mb) hz.s1) hz.big;unfold TrAt at cn;subst cn;refine⟨Tt,_,rfl,SqT.of a8,rfl,_,_,rfl,r,_,rfl,SqT.of (sT _ _ bg),rfl,_,_,rfl,_,_,rfl,_,_,rfl,rfl,_,_,rfl,rfl,?_⟩;refine⟨_,rfl,_,rfl,_,rfl,x1,b.ps,lt,ws,us,T,scl b,e,rfl,a6.mono (Kd.of_same sT),gb.asc,gb.ps,he,bY,by omega,sT _ _ (b1 _ _ eu er),(b8.mono d2).mono (Kd.of_same sT),cp,by omega,fun l5 H5 dj s5 dl=>?_⟩
   refine ah ?_;refine⟨_,rfl, .inl ⟨rfl,_,SqL.of ((sT.trans s5) _ _ a4)⟩,?_⟩;refine qh ?_;refine bM rfl ?_;refine⟨_,rfl,l5,rfl,⟨_,SqL.of dl⟩,fun L6 dH=>?_⟩;refine bG (xs:=(us.map fun t=>cw (scl b) t b.ps).map V.int) (fun j acc H6=>Same H5 H6/\H6 L6=some (.lst acc)/\acc=(((us.map fun t=>cw (scl b) t b.ps).take j).map fun x=> -x).map V.int) ⟨aa dH,a8,rfl⟩ (fun j acc H6 p=>SqL.of (p.1 _ _ dl)) ?_ ?_
   . intro j x acc H6 hj bF z_;refine hZq fun q_ e_=>?_;obtain⟨s6,bw,rfl⟩:=z_;rw[zr]at bF;obtain⟨c,ec,rfl⟩:=zy.mp bF;subst e_;have jl:j < us.length:=by have:=(zv.mp ec).1;rw[zm]at this;exact this
     refine⟨_,rfl,c,rfl,?_⟩;refine CompN.mk hj (by rw[zm,zm,A7,zm];omega) bw ⟨aD dH s6,a8,?_⟩
     rw[aq ec];simp
   rintro f1 H6 ⟨s6,bw,rfl⟩;rw[zm,A3]at bw;have sE:=(sT.trans s5).trans s6;refine⟨_,rfl,_,rfl,y1,b.lim,scl b,rfl,cb.mono (Kd.of_same sE),gb.lim.pos,gb.lim.bot.big he,gb.lim.top.big he,bY,_,rfl,b.st,rfl,?_⟩;have row:=uR (us:=us) (b:=b) (n:=us.length) rfl
   have eG:Lf bs us i=rowF us b:=by
    unfold Lf;rw[zt,eb];rfl
   have f5:∀v:Int,(d++ [V.int v]).length=i+1:=fun v=>by rw[A6,c4];rfl
   have fin:∀st:Int,(if b.st=true then(-1:Int)else 0)=st->∀l7 p8,H6 l7=none->(upd H6 l7 (.lst [.int (wh b.lim (scl b)), .int st])) p8=none->
    But1 pl H4 (upd (upd (upd H6 l7 (.lst [.int (wh b.lim (scl b)), .int st])) p8 (.lst ((((us.map fun t=>cw (scl b) t b.ps).map fun x=> -x).map V.int)++ [.int (wh b.lim (scl b)), .int st]))) pl (.lst (d++ [.ref p8])))/\
    ∃acc,(upd (upd (upd H6 l7 (.lst [.int (wh b.lim (scl b)), .int st])) p8 (.lst ((((us.map fun t=>cw (scl b) t b.ps).map fun x=> -x).map V.int)++ [.int (wh b.lim (scl b)), .int st]))) pl (.lst (d++ [.ref p8]))) pl=some (.lst acc)/\acc.length=i+1/\
     ∀j,j < i+1->∃q,acc[j]?=some (.ref q)/\(upd (upd (upd H6 l7 (.lst [.int (wh b.lim (scl b)), .int st])) p8 (.lst ((((us.map fun t=>cw (scl b) t b.ps).map fun x=> -x).map V.int)++ [.int (wh b.lim (scl b)), .int st]))) pl (.lst (d++ [.ref p8]))) q=some (.lst ((Wg.ls (us.length+2) (Lf bs us j)).map V.int))/\q≠pl:=by
    intro st fb l7 p8 aC l;have s7:=aa (o:= .lst [.int (wh b.lim (scl b)), .int st]) aC;have s8:=aa (o:= .lst ((((us.map fun t=>cw (scl b) t b.ps).map fun x=> -x).map V.int)++ [.int (wh b.lim (scl b)), .int st])) l;have fR:=((sE.trans s7).trans s8) _ _ a4;have n8:p8≠pl:=fun z=>by rw[z,(sE.trans s7) _ _ a4]at l;cases l
    refine⟨fun x o nx e=>?_,d++ [.ref p8],a8,by rw[A6,c4];rfl,fun j hj=>?_⟩
    . rw[ae nx];exact((sE.trans s7).trans s8) _ _ (b1 _ _ nx e)
    . rcases Nat.lt_or_ge j i with h|h
      . refine hZq fun q_ e_=>?_;obtain⟨q,a1,a2,a3⟩:=fC j h;subst e_;exact⟨q,by rw[List.getElem?_append_left (by omega)];exact a1,by rw[ae a3];exact((sE.trans s7).trans s8) _ _ a2,a3⟩
      . have e:j=i:=by omega
        subst e;refine⟨p8,by rw[List.getElem?_append_right (by omega),c4];simp,?_,n8⟩
        rw[ae n8,a8,eG,row,zQ,<-fb];rfl
   have b4:∀z:Int,((((us.map fun t=>cw (scl b) t b.ps).map fun x=> -x).map V.int)).length+ [V.int (wh b.lim (scl b)),V.int z].length<=sizeLine:=fun z=>by
    rw[zm,zm,zm];show us.length+2<=sizeLine;omega
   cases ek:b.st with
   |true=>
    refine iteT ⟨1,rfl,two,fun l7 aC=>?_⟩;have s7:=aa (o:= .lst [.int (wh b.lim (scl b)), .int (-1)]) aC;refine⟨L6,l7,_,_,rfl,rfl,s7 _ _ bw,a8,b4 _,fun p8 l=>?_⟩;have s8:=aa (o:= .lst ((((us.map fun t=>cw (scl b) t b.ps).map fun x=> -x).map V.int)++ [.int (wh b.lim (scl b)), .int (-1)])) l;refine⟨pl,d,_,rfl,rfl,((sE.trans s7).trans s8) _ _ a4,by omega,?_⟩
    obtain⟨c1,c2⟩:=fin (-1) (by rw[ek];rfl) l7 p8 aC l
    exact⟨⟨_,_,_,_,_,rfl⟩,c1,c2⟩
   |false=>
    refine iteF ⟨two,fun l7 aC=>?_⟩;have s7:=aa (o:= .lst [.int (wh b.lim (scl b)), .int 0]) aC;refine⟨L6,l7,_,_,rfl,rfl,s7 _ _ bw,a8,b4 _,fun p8 l=>?_⟩;have s8:=aa (o:= .lst ((((us.map fun t=>cw (scl b) t b.ps).map fun x=> -x).map V.int)++ [.int (wh b.lim (scl b)), .int 0])) l;refine⟨pl,d,_,rfl,rfl,((sE.trans s7).trans s8) _ _ a4,by omega,?_⟩
    obtain⟨c1,c2⟩:=fin 0 (by rw[ek];rfl) l7 p8 aC l
    exact⟨⟨_,_,_,_,_,rfl⟩,c1,c2⟩
 intro σ H5 z_;refine hZq fun q_ e_=>?_;obtain⟨⟨v2,v4,v5,v8,v9,rfl⟩,b1,bT,a5,d3,ej⟩:=z_;subst e_;rw[xl]at d3 ej;have e0:=eg b1 ⟨_,a5⟩;refine⟨_,rfl,_,rfl,_,rfl,fun x dx nx fg eL=>?_⟩;have gh:x≠pl:=fun z=>by rw[z,a5]at nx;cases nx
 have sx:Same H5 (upd (upd H5 dx (.own x)) x (.ins C0 dx [])):=(aa fg).trans (aa (by rw[ae eL.symm];exact nx))
 have o4:∀ {y:Addr} {o:HO},y≠pl->H4 y=some o->(upd (upd H5 dx (.own x)) x (.ins C0 dx [])) y=some o:=fun{y o} n e=>sx _ _ (b1 _ _ n e);have oH:∀ {y:Addr} {o:HO},H y=some o->H5 y=some o:=fun{y o} e=>b1 _ _ (fun z=>by rw[z,ev]at e;cases e) (sD _ _ e)
 have cI:H x=none:=by
  cases qq:H x with
  |none=>rfl
  |some o=>rw[oH qq]at nx;cases nx
 refine⟨x,dx,lt,L3,pl,bs.length,us.length,bs.map scl,us,ws,bT,Lf bs us,rfl,hk,a8,o4 eu er,(b8.mono e0).mono (Kd.of_same sx),rfl,o4 ee bj,by rw[zm],sx _ _ a5,⟨d3,fun i hi=>?_⟩,e2,by omega,fun D H6 bR d8 b6 fa c8 el=>⟨rfl,?_⟩⟩
 . refine hZq fun q_ e_=>?_;obtain⟨q,a1,a2,_⟩:=ej i hi;subst e_;exact⟨q,a1,sx _ _ a2⟩
 refine ah ?_;refine⟨_,rfl,D,bs.length,us.length,C,bs.map scl,us,ws,pl,bT,Lf bs us,by rw[bR];rfl,by rw[d8];exact hk,fa,hz.wb hg us,fun pl' ls' Tb H7 bx e4 fh=>?_⟩
 have o6:∀ {y:Addr} {o:HO},H y=some o->H6 y=some o:=fun{y o} e=>b6 _ _ (fun z=>by rw[z,cI]at e;cases e) (sx _ _ (oH e))
 have fresh:∀ {y:Addr},(upd (upd H5 dx (.own x)) x (.ins C0 dx [])) y=none->H y=none:=fun{y} n=>by
  cases qq:H y with
  |none=>rfl
  |some o=>rw[sx _ _ (oH qq)]at n;cases n
 have nH:∀ {y z:Addr} {o:HO},H y=some o->H z=none->y≠z:=fun{y z o} e n w=>by rw[w,n]at e;cases e
 have res:=q D H7 us ws pl' ls' Tb d8 (fun y o e=>bx _ _ (by rw[bR];exact nH e cI) (nH e (fresh c8)) (nH e (fresh el)) (o6 e)) e4 fh db cp uT a7 (by rw[bR];exact cI) (fresh c8) (fresh el)
 rw[bR]at res;exact⟨_,rfl,res⟩
theorem big3{C:Nat}{x y:Int}(h:x.natAbs<=C)(h2:y.natAbs<=C+1)(hb:C < lim):Big (x*y):=by
 unfold Big;rw[Ac];exact zZ (AF (zK h (Nat.le_of_lt hb)) (zK h2 hb)) (zZ (Nat.le_of_eq (Nat.pow_add 2 2600 2600).symm) (Nat.pow_lt_pow_right (by decide) (by decide)))
def TmIn(us:List Tr)(bs:List Bnd):Prop:=us.Nodup/\∀x,x∈us↔∃b∈bs,∃p∈b.ps,p.1=x
structure WOut (T0:Addr) (H H':Hp) (bs:List Bnd) (l:Addr) (ws2:List V) (us2 us:List Tr) (Tb:Wg.Tb) (i:Nat):Prop where
 bt:ButT T0 H H'
 lm:Lm T0 H'
 ok:Okt bs.length us.length (Lf bs us) Tb
 hi:i < bs.length
 hs:Tb.sd i < bs.length
 ng:Ngv us.length Tb i
 le:∀c,c < us.length->Tb.ln i c<=0
 wt:ux H H' l ws2 us2 (wts (bs.map scl) (cnt us.length Tb i))
 tm:TmIn us bs
 nw:∀xs,H l≠some (.lst xs)
structure NOut (P:Program) (w:World) (K:PySem.W.Frag) (T0:Addr) (H H':Hp) (bs:List Bnd) (C:Nat) (d:Addr) (us:List Tr) (Tb:Wg.Tb) (M:Int) (G:Tr->Fr):Prop where
 bt:ButT T0 H H'
 lm:Lm T0 H'
 ok:Okt bs.length us.length (Lf bs us) Tb
 no:∀i,i < bs.length->Tb.sd i < bs.length->¬Ngv us.length Tb i
 m1:1<=M
 mc:M<=(C:Int)+1
 mp:∀i,i < bs.length->Tb.sd i < bs.length->0 < Tb.ln i us.length-> -(Tb.ln i (us.length+1) / Tb.ln i us.length)<=M
 da:Dj.DAt P w K H' d us G
 g:∀j u,us[j]?=some u->G u=(fx (Wg.pt bs.length us.length M Tb (bs.length+j)) (Tb.bot*M),fy (Wg.pt bs.length us.length M Tb (bs.length+j)) (Tb.bot*M))
 tm:TmIn us bs
 dn:H d=none
def mY(P:Program)(w:World)(K:PySem.W.Frag)(T0:Addr):Sp:=fun vs H Q _=>∃(lb:Addr) (xs:List V) (bs:List Bnd) (T:List Tr) (e X Y S k C:Nat),vs= [.ref lb]/\H lb=some (.lst xs)/\TrsAt H xs (bs.map bdT)/\(∀b∈bs,Gbd T e b)/\e<=8000/\T.length < 60/\bs.length<=64/\k<=60/\Bz bs X Y S k C/\Lm T0 H/\
 (∀r l H' ws2 us2 us Tb i,H' r=some (.tup [.str (Str.ofString "weights"), .ref l])->WOut T0 H H' bs l ws2 us2 us Tb i->Q (.ref r) H')/\
 ∀r d H' us Tb M G,H' r=some (.tup [.str (Str.ofString "numbers"), .ref d])->NOut P w K T0 H H' bs C d us Tb M G->Q (.ref r) H'
theorem scWgd:FnScope ["bounds","table","weights"] ["bounds"] (ag sWgd):= .of
theorem wW{f C0:Addr}{fd:FuncData}(F:Fun K "weighed" "weighed" sWgd f fd)(hk:Tk K C0)(zTo:Cl P w K mg base 43 "table_of" ["bounds","sums"] (qR C0))(zRe:Cl P w K mg base 5 "refuted" ["table"] (qZ (K:=K) T0))(zNu:Cl P w K mg base 3 "numbers_at" ["table","point"] (r8 (P:=P) (w:=w) (K:=K)))(zSt:Cl P w K mg base 3 "strict_point" ["table"] (qV (K:=K))):
 FnOk P w K mg base CX0 44 f fd ["bounds"] (mY P w K T0):=by
 refine F.okb scWgd fun vs H Q E h=>?_;refine hZq fun q_ e_=>?_;obtain⟨lb,xs,bs,T,e,X,Y,S,k,C,rfl,bb,bi,hg,he,a1,bC,bx,hz,b7,kw,kn⟩:=h;subst e_;refine⟨rfl,fun cb A outer s hr=>?_⟩;have bR:Room 5 _:=hr.mono (by decide)
 have a2:Room 3 _:=hr.mono (by decide)
 refine⟨_,ad (psA 1 scWgd.nd (aj zTo hr (a0 (pv 0) (a0 (bX a9) a9))))
  (ad (psA 2 scWgd.nd (aj zRe bR (a0 (pv 1) a9)))
  (ad (bh (rW (vh (pv 2)) (ay _)) (af (ar (aQ (a0 cC (a0 (pv 2) a9))))) aI)
  (af (ar (aQ (a0 cC (a0 (aj zNu a2 (a0 (pv 1) (a0 (aj zSt a2 (a0 (pv 1) a9)) a9))) a9))))))),?_⟩
 refine⟨_,rfl,(by show 0<=sizeLine;omega),fun l0 a6=>?_⟩
 have s0:=aa (o:= .lst []) a6;refine⟨lb,l0,xs,[],bs,[],T,e,X,Y,S,k,C,rfl,s0 _ _ bb,bi.mono (Kd.of_same s0),a8, .nil,hg,(fun ps m=>by cases m),he,a1,bC,by show 0<=64;decide,bx,hz,fun D H1 us ws pl ls Tb bI s1 tb ok aT b8 uT a3 a7 bj bg=>?_⟩
 have sA:=s0.trans s1;have au:TmIn us bs:=⟨aT,fun x=>(a3 x).trans ⟨fun h=>h.elim id (fun⟨_,m,_⟩=>(by cases m)),fun h=>Or.inl h⟩⟩
 have fr:∀ {y:Addr},(upd H l0 (.lst [])) y=none->H y=none:=fun{y} n=>s0.free n;have v:∀ {H':Hp},ButY T0 D H1 H'->ButT T0 H H':=fun{H'} b x o n ex=>b x o n (fun z=>by rw[z,fr a7]at ex;cases ex) (fun z=>by rw[z,fr bj]at ex;cases ex) (fun z=>by rw[z,fr bg]at ex;cases ex) (sA _ _ ex)
 have hW:=hz.wb hg us;have q:Tk K D.C:=by rw[bI];exact hk
 refine ah ?_;refine⟨_,rfl,D,bs.length,us.length,C,bs.map scl,us,ws,pl,ls,Lf bs us,Tb,rfl,q,tb,hW,ok,b7.same sA,by omega,fun pl' ls' g H2 bY c aC a b6=>?_,fun g i l H2 ws2 us2 bY c a hi hs b4 bF bB _ _ a5=>?_⟩
 . refine ah ?_;refine⟨_,rfl,_,rfl,?_⟩;rw[decide_eq_true rfl];refine iteF (bU ?_);refine⟨_,rfl,_,rfl,D,bs.length,us.length,C,bs.map scl,us,ws,pl',ls',Lf bs us,g,rfl,q,aC,hW,a,fun t l H3 M s3 ht hl m1 mc mp=>?_⟩;have bw:=(hW.bnd a.inv a.pm).1;refine⟨D,bs.length,us.length,bs.map scl,us,ws,pl',ls',g,t,l,g.bot*M,_,rfl,q,aC.same s3,ht,hl,Int.mul_pos a.inv.pos (by omega),big3 bw (by omega) hz.big,aT,fun u mu=>?_,fun d H4 G nd s4 da hG=>?_⟩
   . refine hZq fun q_ e_=>?_;obtain⟨b,mb,p,a4,rfl⟩:=(au.2 u).mp mu;subst e_;exact⟨((hg b mb).ps p a4).2.ty,((hg b mb).ps p a4).2.dep⟩
   . have bT:ButT T0 H H4:=v ((bY.trans (.of_same s3)).trans (.of_same s4))
     have dH:H d=none:=by
      cases qq:H d with
      |none=>rfl
      |some o=>
       by_cases z:d=T0
       . subst z;obtain⟨ps,hp⟩:=(c.same s3).tbl;rw[hp]at nd;cases nd
       . have:=v (bY.trans (.of_same s3)) _ _ z qq;rw[this]at nd;cases nd
     refine⟨two,fun r nr=>?_⟩;have j:=aa (o:= .tup [.str (Str.ofString "numbers"), .ref d]) nr;exact kn r d _ us g M G a8 ⟨fun x o n ex=>j _ _ (bT x o n ex),((c.same s3).same s4).same j,a,b6,m1,mc,mp,da.same j,hG,au,dH⟩
 . refine ah ?_;refine⟨_,rfl,_,rfl,?_⟩;rw[decide_eq_false (by intro z;cases z)]
   refine iteT ?_;refine⟨_,rfl,two,fun r nr=>?_⟩;have j:=aa (o:= .tup [.str (Str.ofString "weights"), .ref l]) nr;refine hZq fun q_ e_=>?_;obtain⟨w1,w2,w3,w4⟩:=bB;subst e_;exact kw r l _ ws2 us2 us g i a8 ⟨fun x o n ex=>j _ _ (v bY x o n ex),c.same j,a,hi,hs,b4,bF,⟨j _ _ w1,w2.mono (Kd.of_same j),w3,w4⟩,au,fun ys z=>a5 ys (sA _ _ z)⟩
def ofB(b:Bnd):Bd:=⟨b.ps,b.lim,b.st⟩
theorem jD{t b:Int}(h:0 < b):rv ((fx t b,fy t b):Fr)=(t:Rat) / (b:Rat):=by
 have a:0 < Int.gcd t b:=Ad t (by omega)
 have e:((fx t b,fy t b):Fr)=low t b:=by
  unfold fx fy low dv;rw[if_neg (by omega),Am _ (by omega),Am _ (by omega)]
 rw[e];exact jC h
theorem cL{b:Int}(h:0 < b):(b:Rat)≠0:=by
 intro z;have:b=0:=by exact_mod_cast z
 omega
theorem cG{b:Int}(h:0 < b):(0:Rat) < (b:Rat):=by exact_mod_cast h
theorem mS{f:Fr}{s:Int}(h:0 < f.2)(d:f.2∣s):((wh f s:Int):Rat)=rv f*(s:Rat):=by
 obtain⟨q,rfl⟩:=d;have n:=cL h;unfold wh rv;rw[Int.mul_ediv_cancel_left _ (by omega)]
 simp only[Rat.intCast_mul];rw[Rat.div_def];grind
theorem ox{s:Int}{t:Tr}:∀ {a:List Pq},(∀q∈a,q.1≠t)->cw s t a=0
 | [],_=>rfl
 |p::r,h=>by
  simp only[cw];rw[if_neg (h p zq)];exact ox fun q m=>h q (zp _ m)
theorem mQ{p:Pq}{r:List Pq}(h:Asc (p::r)):Asc r/\∀q∈r,q.1≠p.1:=by
 have:=List.pairwise_cons.mp h;exact⟨this.2,fun q m e=>iS (this.1 q m) e.symm⟩
open Classical in
theorem oy{s:Int}{t:Tr}{p:Pq}{r:List Pq}(h:∀q∈r,q.1≠p.1):cw s t (p::r)=(if p.1=t then wh p.2 s else 0)+cw s t r:=by
 simp only[cw];by_cases e:p.1=t
 . rw[if_pos e,if_pos e,ox fun q m=>by rw[<-e];exact h q m,Int.add_zero]
 . rw[if_neg e,if_neg e,AD]
noncomputable def linI(s:Int)(x:Tr->Int):List Pq->Int
 | []=>0
 |p::r=>wh p.2 s*x p.1+linI s x r
theorem qF{us:List Tr}(nd:us.Nodup){s:Int}{X:Nat->Int}:∀ {ps:List Pq},Asc ps->(∀p∈ps,p.1∈us)->(Wg.sumN us.length fun c=>cw s (us.getD c .non) ps*X c)=linI s (fun t=>X (Fm.ix us t)) ps
 | [],_,_=>Wg.sumN_zero fun c _=>by simp[cw]
 |p::r,ha,hm=>by
  obtain⟨b,hne⟩:=mQ ha;have g:=qF nd (s:=s) (X:=X) b fun q m=>hm q (zp _ m);simp only[linI];rw[<-g]
  classical
  have e1:(Wg.sumN us.length fun c=>cw s (us.getD c .non) (p::r)*X c)=Wg.sumN us.length fun c=>(if p.1=us.getD c .non then wh p.2 s else 0)*X c+cw s (us.getD c .non) r*X c:=Wg.sumN_congr fun c _=>by rw[oy hne,Int.add_mul]
  rw[e1,Wg.sumN_add];congr 1;have mp:=hm p zq;have d:=oh mp;have e:=z6 mp;have f:us.getD (Fm.ix us p.1) .non=p.1:=by rw[zt,d];rfl
  rw[Wg.sumN_one e fun c hc a=>?_]
  . rw[f,if_pos rfl]
  . rw[if_neg,Av];intro z;refine a (sW nd (x:=p.1) ?_ d);rw[zo hc,z,zt,zo hc];rfl
theorem nX{s:Int}{x:Tr->Int}{g:Tr->Rat}{D:Rat}:∀ {ps:List Pq},(∀p∈ps,0 < p.2.2/\p.2.2∣s)->(∀p∈ps,((x p.1:Int):Rat)=g p.1*D)->((linI s x ps:Int):Rat)=(s:Rat)*D*lin g ps
 | [],_,_=>by simp only[linI,lin];grind
 |p::r,h1,h2=>by
  have a:=nX (s:=s) (x:=x) (g:=g) (D:=D) (ps:=r) (fun q m=>h1 q (zp _ m)) fun q m=>h2 q (zp _ m);simp only[linI,lin,Rat.intCast_add,Rat.intCast_mul];rw[a,mS (h1 p zq).1 (h1 p zq).2,h2 p zq];grind
theorem lR{s:Int}{t:Tr}:∀ {ps:List Pq},Asc ps->(∀p∈ps,0 < p.2.2/\p.2.2∣s)->((cw s t ps:Int):Rat)=tot t ps*(s:Rat)
 | [],_,_=>by simp only[cw,tot];grind
 |p::r,ha,h1=>by
  obtain⟨a,hne⟩:=mQ ha;have b:=lR (s:=s) (t:=t) a fun q m=>h1 q (zp _ m);rw[oy hne];simp only[tot,Rat.intCast_add];rw[b];by_cases e:p.1=t
  . rw[if_pos e,if_pos e,mS (h1 p zq).1 (h1 p zq).2];grind
  . rw[if_neg e,if_neg e];grind
open Classical in
noncomputable def gw(us:List Tr)(G:Tr->Fr)(t:Tr):Rat:=if t∈us then rv (G t)else 0
theorem i9{bs:List Bnd}{us:List Tr}{k:Nat}{b:Bnd}(e:bs[k]?=some b):Lf bs us k=rowF us b:=by
 unfold Lf;rw[zt,e];rfl
theorem NOut.met{P:Program}{w:World}{K:PySem.W.Frag}{T0 d:Addr}{H H':Hp}{bs:List Bnd}{C:Nat}{us:List Tr}{Tb:Wg.Tb}{M:Int}{G:Tr->Fr}{T:List Tr}{e:Nat}(hg:∀b∈bs,Gbd T e b)(h:NOut P w K T0 H H' bs C d us Tb M G):
 ∀b∈bs,lin (gw us G) b.ps < rv b.lim\/(lin (gw us G) b.ps=rv b.lim/\b.st=false):=by
 intro b mb;refine hZq fun q_ e_=>?_;obtain⟨k,hk,ek⟩:=Ax mb;have l:bs[k]?=some b:=by rw[zo hk,ek]
 have f:=hg b mb;obtain⟨s0,sd,ld⟩:=f.scl_ok;subst e_;have m1:=h.m1;have b0:=h.ok.inv.pos;have pm:=Wg.pt_meets h.ok.inv h.ok.pm (K:=M) (fun i hi hs=>?_) hk;rotate_left
 . have nn:=h.no i hi hs;unfold Ngv at nn;unfold Wg.val;by_cases u:0 < Tb.ln i us.length
   . exact Wg.parts_ok u (h.mp i hi hs u)
   . have y:Tb.ln i us.length=0:=by omega
     rw[y,Az,AD];omega
 have er:=i9 (us:=us) l;rw[er]at pm
 have e1:(Wg.sumN us.length fun c=>rowF us b c*Wg.pt bs.length us.length M Tb (bs.length+c))= -1*linI (scl b) (fun t=>Wg.pt bs.length us.length M Tb (bs.length+Fm.ix us t)) b.ps:=by
  rw[<-qF h.tm.1 f.asc (fun p mp=>(h.tm.2 p.1).mpr ⟨b,mb,p,mp,rfl⟩) (X:=fun c=>Wg.pt bs.length us.length M Tb (bs.length+c)),<-Wg.sumN_mul];refine Wg.sumN_congr fun c hc=>?_;unfold rowF;rw[if_pos hc];grind
 have r:rowF us b us.length=wh b.lim (scl b):=by unfold rowF;rw[if_neg (by omega),if_pos rfl]
 have e3:rowF us b (us.length+1)=if b.st then -1 else 0:=by unfold rowF;rw[if_neg (by omega),if_neg (by omega)]
 rw[e1,r,e3]at pm;have m:(0:Int) < Tb.bot*M:=Int.mul_pos b0 (by omega)
 have Dn:=cL m
 have lr:=nX (s:=scl b) (x:=fun t=>Wg.pt bs.length us.length M Tb (bs.length+Fm.ix us t)) (g:=gw us G) (D:=((Tb.bot*M:Int):Rat)) (ps:=b.ps) (fun p mp=>⟨(f.ps p mp).2.gf.pos,sd p mp⟩) fun p mp=>by
  have o:p.1∈us:=(h.tm.2 p.1).mpr ⟨b,mb,p,mp,rfl⟩;unfold gw;rw[if_pos o,h.g _ _ (oh o),jD m];rw[Rat.div_def];grind
 have wr:=mS (s:=scl b) f.lim.pos ld;have v:=cG s0;have q:=cG m;have B0:=cG b0;have n:(0:Rat) < (scl b:Rat)*((Tb.bot*M:Int):Rat):=Rat.mul_pos v q
 have key:((linI (scl b) (fun t=>Wg.pt bs.length us.length M Tb (bs.length+Fm.ix us t)) b.ps:Int):Rat)<=((Tb.bot*(M*wh b.lim (scl b)+(if b.st=true then -1 else 0)):Int):Rat):=by
  have:linI (scl b) (fun t=>Wg.pt bs.length us.length M Tb (bs.length+Fm.ix us t)) b.ps<=Tb.bot*(M*wh b.lim (scl b)+(if b.st=true then -1 else 0)):=by omega
  exact_mod_cast this
 rw[lr]at key
 cases a:b.st with
 |true=>
  rw[a,if_pos rfl]at key;left;refine Rat.not_le.mp fun z=>?_;have:=Rat.mul_le_mul_of_nonneg_left z (Rat.le_of_lt n);simp only[Rat.intCast_add,Rat.intCast_mul,Rat.intCast_neg]at key this wr;rw[wr]at key;have j:(((1:Int):Rat))=1:=rfl;rw[j]at key;grind
 |false=>
  rw[a,if_neg (by decide)]at key
  have le:lin (gw us G) b.ps<=rv b.lim:=by
   refine Rat.not_lt.mp fun z=>?_;have:=Rat.mul_lt_mul_of_pos_left z n;simp only[Rat.intCast_add,Rat.intCast_mul]at key this wr;rw[wr]at key;have j:(((0:Int):Rat))=0:=rfl;rw[j]at key;grind
  rcases Rat.le_iff_lt_or_eq.mp le with h|h
  . exact .inl h
  . exact .inr ⟨h,rfl⟩
noncomputable def sumL(F:Nat->Int):List (Nat×Int)->Int
 | []=>0
 |p::r=>p.2*F p.1+sumL F r
theorem qJ(F:Nat->Int)(a b:List (Nat×Int)):sumL F (a++b)=sumL F a+sumL F b:=by
 induction a with
 |nil=>simp only[List.nil_append,sumL,AD]
 |cons p r c=>simp only[Ak,sumL,c,Int.add_assoc]
theorem kj{F:Nat->Int}{T:Wg.Tb}{i:Nat}:∀n:Nat,sumL F (hcs n T i)=Wg.sumN n fun c=> -T.ln i c*F (T.hd c)
 |0=>rfl
 |n+1=>by
  have e:hcs (n+1) T i=hcs n T i++if T.ln i n≠0 then[(T.hd n,-T.ln i n)]else[]:=by
   unfold hcs;rw[As,Ai,zQ];congr 1;by_cases z:T.ln i n=0
   . simp[z]
   . simp[z]
  rw[e,qJ,kj n,Wg.sumN];congr 1;by_cases z:T.ln i n=0
  . rw[if_neg (by simpa using z),z]
    simp[sumL]
  . rw[if_pos z];simp[sumL]
theorem gD{m n:Nat}{L:Nat->Nat->Int}{T:Wg.Tb}(O:Okt m n L T){i:Nat}(hi:i < m)(hs:T.sd i < m)(F:Nat->Int):sumL F (cnt n T i)=Wg.sumN m fun k=>Wg.wt n T i k*F k:=by
 rw[Wg.wt_sum O.pm O.st hi hs];unfold cnt;simp only[sumL];rw[kj]
theorem jA{p:Fr}(h:0 < p.2):0 < rv p↔0 < p.1:=by
 have h2:(0:Rat) < (p.2:Rat):=by exact_mod_cast h
 unfold rv;constructor
 . intro q
   have:(0:Rat) < (p.1:Rat):=by
    have:=Rat.mul_pos q h2
    rwa [Rat.div_mul_cancel (by grind)]at this
   exact_mod_cast this
 . intro q;have a:(0:Rat) < (p.1:Rat):=by exact_mod_cast q
   rw[Rat.div_def];exact Rat.mul_pos a (Rat.inv_pos.mpr h2)
structure Wts (bs:List Bnd) (wk:List Wt):Prop where
 ne:wk≠ []
 asc:wk.Pairwise fun a b=>a.1 < b.1
 lt:∀k∈wk,k.1 < bs.length
 sh:∀k∈wk,Sh k.2
 pos:∀k∈wk,0 < k.2.1
 tot:∀t,tot t (be (bs.map ofB) wk)=0
 low:totR (bs.map ofB) wk < 0\/(totR (bs.map ofB) wk=0/\∃k∈wk,(bdAt (bs.map ofB) k.1).st=true)
theorem iz{bs:List Bd}{t:Tr}{a b:List Wt}(h:a.Perm b):Su.tot t (be bs a)=Su.tot t (be bs b):=by
 induction h with
 |nil=>rfl
 |cons x _ c=>simp only[be,df,c]
 |swap x y l=>simp only[be,df];grind
 |trans _ _ h1 h2=>rw[h1,h2]
theorem oJ{bs:List Bd}{a b:List Wt}(h:a.Perm b):totR bs a=totR bs b:=by
 induction h with
 |nil=>rfl
 |cons x _ c=>simp only[totR,c]
 |swap x y l=>simp only[totR];grind
 |trans _ _ h1 h2=>rw[h1,h2]
theorem du{bs:List Bnd}{k:Nat}{b:Bnd}(e:bs[k]?=some b):bdAt (bs.map ofB) k=ofB b:=by
 unfold bdAt;rw[zt,zr,e];rfl
theorem on{bs:List Bnd}{us T:List Tr}{e:Nat}(hg:∀b∈bs,Gbd T e b){g:Int}(g0:0 < g){t:Tr}{c:Nat}(hc:us[c]?=some t):∀ {cs:List (Nat×Int)},(∀p∈cs,p.1 < bs.length)->
 Su.tot t (be (bs.map ofB) (cs.map fun p=>(p.1,wf (bs.map scl) g p)))*(g:Rat)= -((sumL (fun k=>Lf bs us k c) cs:Int):Rat)
 | [],_=>by simp only[AJ,be,Su.tot,sumL];grind
 |p::r,h=>by
  have o:=on hg g0 hc (cs:=r) fun q m=>h q (zp _ m);have hp:=h p zq;have j:bs[p.1]?=some bs[p.1]:=zo hp;have mb:=A4 hp;have d:=hg _ mb;obtain⟨u,sd,_⟩:=d.scl_ok;have es:(bs.map scl).getD p.1 0=scl bs[p.1]:=by rw[zt,zr,j];rfl
  have i:Sh (wf (bs.map scl) g p):=dm (by omega)
  have f:rv (wf (bs.map scl) g p)=((p.2*scl bs[p.1]:Int):Rat) / (g:Rat):=by
   unfold wf;rw[jD g0,es]
  have cl:c < us.length:=(zv.mp hc).1
  have l:Lf bs us p.1 c= -(cw (scl bs[p.1]) t bs[p.1].ps):=by
   rw[i9 j];unfold rowF;rw[if_pos cl,zt,hc];rfl
  have tc:=lR (s:=scl bs[p.1]) (t:=t) d.asc fun q a=>⟨(d.ps q a).2.gf.pos,sd q a⟩;have n:=cL g0;simp only[zU,be,sumL];rw[df,du j];show(Su.tot t (bs[p.1].ps.map (scale (wf (bs.map scl) g p)))+_)*_=_;rw[dS t i fun q a=>(d.ps q a).2.sh,f,l];simp only[Rat.intCast_add,Rat.intCast_mul,Rat.intCast_neg];rw[tc];rw[Rat.div_def];grind
theorem mU{bs:List Bnd}{us T:List Tr}{e:Nat}(hg:∀b∈bs,Gbd T e b){g:Int}(g0:0 < g):∀ {cs:List (Nat×Int)},(∀p∈cs,p.1 < bs.length)->
 totR (bs.map ofB) (cs.map fun p=>(p.1,wf (bs.map scl) g p))*(g:Rat)=((sumL (fun k=>Lf bs us k us.length) cs:Int):Rat)
 | [],_=>by simp only[AJ,totR,sumL];grind
 |p::r,h=>by
  have l:=mU (us:=us) hg g0 (cs:=r) fun q m=>h q (zp _ m);have hp:=h p zq;have c:bs[p.1]?=some bs[p.1]:=zo hp;have d:=hg _ (A4 hp);obtain⟨n,sd,i⟩:=d.scl_ok;have es:(bs.map scl).getD p.1 0=scl bs[p.1]:=by rw[zt,zr,c];rfl
  have a:rv (wf (bs.map scl) g p)=((p.2*scl bs[p.1]:Int):Rat) / (g:Rat):=by
   unfold wf;rw[jD g0,es]
  have f:Lf bs us p.1 us.length=wh bs[p.1].lim (scl bs[p.1]):=by
   rw[i9 c];unfold rowF;rw[if_neg (by omega),if_pos rfl]
  have tc:=mS (s:=scl bs[p.1]) d.lim.pos i;have j:=cL g0;simp only[zU,totR,sumL];rw[du c];show(rv bs[p.1].lim*_+_)*_=_;rw[a,f];simp only[Rat.intCast_add,Rat.intCast_mul];rw[tc,Rat.div_def];grind
theorem w6{bs:List Bnd}{us:List Tr}:∀ {cs:List (Nat×Int)},(∀p∈cs,p.1 < bs.length)->sumL (fun k=>Lf bs us k (us.length+1)) cs < 0->∃p∈cs,(bdAt (bs.map ofB) p.1).st=true
 | [],_,z=>absurd z (by simp[sumL])
 |p::r,h,z=>by
  have hp:=h p zq;have b:bs[p.1]?=some bs[p.1]:=zo hp
  cases a:bs[p.1].st with
  |true=>exact⟨p,zq,by rw[du b];exact a⟩
  |false=>
   have c:Lf bs us p.1 (us.length+1)=0:=by
    rw[i9 b];unfold rowF;rw[if_neg (by omega),if_neg (by omega),a]
    rfl
   simp only[sumL]at z;rw[c,Az,AD]at z;obtain⟨q,d,hq⟩:=w6 (fun q m=>h q (zp _ m)) z;exact⟨q,zp _ d,hq⟩
theorem yY{a b:Wt}(h:a.1 < b.1):ltT (wtT a) (wtT b)=true:=by
 rw[ltT_iff];simp only[wtT,Tre.code,codes,LtC,LtCs];left;omega
theorem vL{m n:Nat}{L:Nat->Nat->Int}{T:Wg.Tb}(O:Okt m n L T){i:Nat}(hle:∀c,c < n->T.ln i c<=0):∀p∈cnt n T i,0 < p.2:=by
 intro p mp;unfold cnt at mp;rcases zJ.mp mp with rfl|mp
 . exact O.inv.pos
 . obtain⟨c,hc,hz,rfl⟩:=fX mp;have:=hle c hc;show 0 < -T.ln i c;omega
theorem yi{m n:Nat}{L:Nat->Nat->Int}{T:Wg.Tb}(O:Okt m n L T){i:Nat}(hi:i < m):((cnt n T i).map (·.1)).Nodup:=by
 unfold cnt;rw[zU,AG];refine⟨fun z=>?_,?_⟩
 . obtain⟨p,mp,e⟩:=zM.mp z;obtain⟨c,hc,_,rfl⟩:=fX mp;exact O.pm.disj hi hc e.symm
 . unfold hcs;rw[At];show(List.map (fun c=>T.hd c) _).Nodup;rw[Al,AR];have:((List.range n).filter fun c=>decide (T.ln i c≠0)).Nodup:=List.nodup_range.filter _;rw[Al]at this;refine List.Pairwise.imp_of_mem (fun{a b} ma mb h z=>h ?_) this;have h1:=Af.mp (Ag.mp ma).1;have h2:=Af.mp (Ag.mp mb).1;exact O.pm.injh h1 h2 z
theorem WOut.wts{T0 l:Addr}{H H':Hp}{bs:List Bnd}{ws2:List V}{us2 us T:List Tr}{Tb:Wg.Tb}{i e C:Nat}(hg:∀b∈bs,Gbd T e b)(hW:Wb bs.length us.length (Lf bs us) (bs.map scl) C)(h:WOut T0 H H' bs l ws2 us2 us Tb i):
 ∃wk:List Wt,us2=wk.map wtT/\Wts bs wk/\wk.length<=us.length+1/\∀k∈wk,k.2.1.natAbs<=C*C/\k.2.2.natAbs<=C*C:=by
 refine hZq fun q_ e_=>?_;obtain⟨w1,w2,w3,w4⟩:=h.wt;obtain⟨qs,rfl,s⟩:=gW w3 rfl;have au:=hW.cnts h.ok h.hi h.hs;have a1:=om (n:=us.length) (T:=Tb) (i:=i);obtain⟨o,g1⟩:=hW.gcn (by rw[zm]) h.ok h.hi h.hs
 have cl:∀p∈cnt us.length Tb i,p.1 < bs.length:=fun p mp=>(au p mp).1;have cp:=vL h.ok h.le
 have u:∀p∈cnt us.length Tb i,0 < (bs.map scl).getD p.1 0/\((bs.map scl).getD p.1 0).natAbs<=C:=fun p mp=>by
  refine hW.sc _ ?_;rw[zt,zo (by rw[zm];exact cl p mp)]
  exact A4 _
 have mq:∀k∈qs,∃p∈cnt us.length Tb i,k=(p.1,wf (bs.map scl) (gcn (bs.map scl) (cnt us.length Tb i)) p):=fun k mk=>by
  have:=s.mem_iff.mp mk;unfold K44.wts at this;obtain⟨p,mp,e⟩:=zM.mp this;exact⟨p,mp,e.symm⟩
 have w:∀k∈qs,0 < k.2.1:=fun k mk=>by
  obtain⟨p,mp,rfl⟩:=mq k mk;have sh:Sh (wf (bs.map scl) (gcn (bs.map scl) (cnt us.length Tb i)) p):=dm (by omega)
  refine(jA sh.1).mp ?_;unfold wf;rw[jD o,Rat.div_def];exact Rat.mul_pos (cG (Int.mul_pos (cp p mp) (u p mp).1)) (Rat.inv_pos.mpr (cG o))
 have j:(qs.map (·.1)).Nodup:=by
  rw[(s.map (·.1)).nodup_iff];unfold K44.wts;rw[At];exact yi h.ok h.hi
 have v:∀t,Su.tot t (be (bs.map ofB) qs)=0:=fun t=>by
  rw[iz s];unfold K44.wts;by_cases mu:t∈us
  . obtain⟨c,hc,ec⟩:=Ax mu;have aC:us[c]?=some t:=by rw[zo hc,ec]
    have f:=on hg o aC cl;rw[gD h.ok h.hi h.hs,Wg.wt_term h.ok.inv h.ok.pm h.ok.st h.hi h.hs hc]at f;have gn:=cL o
    have:Su.tot t (be (bs.map ofB) ((cnt us.length Tb i).map fun p=>(p.1,wf (bs.map scl) (gcn (bs.map scl) (cnt us.length Tb i)) p)))*(gcn (bs.map scl) (cnt us.length Tb i):Rat)=0:=by
     rw[f];rfl
    rcases Rat.mul_eq_zero.mp this with z|z
    . exact z
    . exact absurd z gn
  . refine dB fun p mp e=>mu ?_
    have fl:∀ {wk:List Wt},(∀k∈wk,k.1 < bs.length)->∀p∈be (bs.map ofB) wk,∃b∈bs,∃q∈b.ps,q.1=p.1:=by
     intro wk
     induction wk with
     |nil=>intro _ p mp;cases mp
     |cons k r ih=>
      intro hk p mp;simp only[be]at mp;rcases A9.mp mp with mp|mp
      . rw[du (zo (hk k zq))]at mp;obtain⟨q,g,rfl⟩:=zM.mp mp;exact⟨_,A4 _,q,g,rfl⟩
      . exact ih (fun x m=>hk x (zp _ m)) p mp
    refine hZq fun q_ e_=>?_;obtain⟨b,mb,q,g,eq⟩:=fl (fun k mk=>by obtain⟨p,mp,rfl⟩:=zM.mp mk;exact cl p mp) p mp
    subst e_;exact(h.tm.2 t).mpr ⟨b,mb,q,g,eq.trans e⟩
 obtain⟨l1,l2⟩:=Wg.wt_last h.ok.inv h.ok.pm h.ok.st h.hi h.hs;subst e_;have fR:=mU (us:=us) hg o cl;rw[gD h.ok h.hi h.hs,l1]at fR;have eR:totR (bs.map ofB) qs=totR (bs.map ofB) ((cnt us.length Tb i).map fun p=>(p.1,wf (bs.map scl) (gcn (bs.map scl) (cnt us.length Tb i)) p)):=oJ s;have gp:=cG o
 have d:qs.length=(cnt us.length Tb i).length:=by
  rw[s.length_eq];unfold K44.wts;rw[zm]
 refine⟨qs,rfl,⟨?_,?_,fun k mk=>?_,fun k mk=>?_,w,v,?_⟩,?_,fun k mk=>?_⟩
 . intro z;rw[z]at d;unfold cnt at d;simp at d
 . rw[Al,AR]at j;rw[An]at j ⊢;intro a b ha hb aT;have ne:=j a b ha hb aT;have le:=w4 a b (wtT qs[a]) (wtT qs[b]) (by omega) (by rw[zr,zo ha];rfl) (by rw[zr,zo hb];rfl)
   refine Classical.byContradiction fun z=>?_;have:=yY (a:=qs[b]) (b:=qs[a]) (by omega)
   rw[this]at le;cases le
 . obtain⟨p,mp,rfl⟩:=mq k mk;exact cl p mp
 . obtain⟨p,mp,rfl⟩:=mq k mk;exact dm (by omega)
 . rcases h.ng with z|⟨z1,z2⟩
   . left;rw[eR];refine Rat.not_le.mp fun y=>?_;have y2:=Rat.mul_nonneg y (Rat.le_of_lt gp);rw[fR]at y2;have:(0:Int)<=Tb.ln i us.length:=by exact_mod_cast y2
     omega
   . right;rw[z1]at fR;refine⟨?_,?_⟩
     . rw[eR];rcases Rat.mul_eq_zero.mp (fR.trans rfl)with y|y
       . exact y
       . exact absurd y (cL o)
     . obtain⟨p,mp,hp⟩:=w6 (us:=us) cl (by rw[gD h.ok h.hi h.hs,l2];exact z2)
       refine⟨(p.1,wf (bs.map scl) (gcn (bs.map scl) (cnt us.length Tb i)) p),?_,hp⟩;rw[s.mem_iff];unfold K44.wts;exact zM.mpr ⟨p,mp,rfl⟩
 . rw[d];unfold cnt;rw[zV];omega
 . refine hZq fun q_ e_=>?_;obtain⟨p,mp,rfl⟩:=mq k mk;obtain⟨pm,pb⟩:=au p mp;subst e_
   have d0:0 < dv (p.2*(bs.map scl).getD p.1 0) (gcn (bs.map scl) (cnt us.length Tb i)):=by
    have:=Ad (p.2*(bs.map scl).getD p.1 0) (show gcn (bs.map scl) (cnt us.length Tb i)≠0 by omega)
    unfold dv;rw[if_neg (by omega)]
    omega
   refine⟨?_,?_⟩
   . show(fx _ _).natAbs<=C*C;unfold fx;rw[Am _ (by omega)]
     refine zK (cz _ _) ?_;rw[Ac];exact AF pb (u p mp).2
   . show(fy _ _).natAbs<=C*C;unfold fy;rw[Am _ (by omega)]
     exact zK (cz _ _) g1
end
end K44
namespace K44
open PySem L2 Mth Tre Wd Su
section
variable{P:Program}{w:World}{K:PySem.W.Frag}{mg:Str->Option Value}{base:Heap}{T0:Addr}
def kr:Sp:=fun vs H Q _=>∃(t b:Int),vs= [.int t, .int b]/\0 < b/\Big (Int.gcd t b:Int)/\∀(r:Addr) (H':Hp),H r=none->H'=upd H r (.tup [.int (low t b).1, .int (low t b).2])->Q (.ref r) H'
theorem scLo:FnScope ["_law_top","_law_bottom","_law_one","_law_other"] ["_law_top","_law_bottom"] (ag lX):= .of
theorem xv{f:Addr}{fd:FuncData}(F:Fun K "_law_least" "_law_least" lX f fd)(B:Blt mg):FnOk P w K mg base CX0 1 f fd ["_law_top","_law_bottom"] kr:=by
 refine F.ok scLo (fun vs H Q E h=>?_) (fun o A outer s H vs Q E hr h=>?_)
 . refine hZq fun q_ e_=>?_;obtain⟨t,b,rfl,_⟩:=h;subst e_;rfl
 . refine hZq fun q_ e_=>?_;obtain⟨t,b,rfl,b0,c,k⟩:=h;subst e_
   refine⟨_,ad (psA 2 scLo.nd (aA iq rfl B.ab ir (a0 (pv 0) a9)))
    (ad (psA 3 scLo.nd (pv 1))
    (ad (gR PassesOwn.never (aw dc (pv 3) ac (ay _))
     (af (se (i:=2) (j:=3) rfl scLo.nd rfl rfl (by decide) rfl rfl (a0 (pv 3) (a0 (am di (pv 2) (pv 3)) a9)) rfl)))
    (af (ar (aQ (a0 (am cD (pv 0) (pv 2)) (a0 (am cD (pv 1) (pv 2)) a9))))))),?_⟩
   refine⟨_,rfl,t,rfl,_,rfl,?_⟩;have n:(if t < 0 then -t else t)=(t.natAbs:Int):=by split<;>omega
   rw[n];have g0:0 < Int.gcd t b:=Ad t (by omega)
   refine k8 (fun σ H'=>H'=H/\∃(x y:Nat),σ= [some (.int t),some (.int b),some (.int x),some (.int y)]/\Nat.gcd x y=Int.gcd t b) (fun σ _=>match σ with| [_,_,_,some (.int y)]=>y.natAbs|_=>0)
    ⟨rfl,t.natAbs,b.natAbs,by rw[show((b.natAbs:Nat):Int)=b by omega];rfl,rfl⟩ ?_ ?_
   . intro σ H' z_;refine hZq fun q_ e_=>?_;obtain⟨rfl,x,y,rfl,e⟩:=z_;subst e_;refine⟨_,rfl,_,0,rfl,rfl,_,rfl,?_⟩;by_cases z:(0:Int) < (y:Int)
     . rw[decide_eq_true z];refine iteT ?_;refine⟨_,rfl,_,rfl,_,rfl,x,y,rfl,rfl,z,_,_,rfl,?_⟩;have hm:((x:Int)%(y:Int))=((x%y:Nat):Int):=by simp
       refine⟨⟨rfl,y,x%y,?_,?_⟩,?_⟩
       . show[some (V.int t),some (V.int b),some (V.int (y:Int)),some (V.int ((x:Int)%(y:Int)))]=_;rw[hm]
       . rw[<-e,Nat.gcd_comm x y,Nat.gcd_rec y x,Nat.gcd_comm]
       . show((x:Int)%(y:Int)).natAbs < (y:Int).natAbs;rw[hm];have:=Nat.mod_lt x (show 0 < y by omega)
         omega
     . rw[decide_eq_false z];refine iteF ?_;have p:y=0:=by omega
       subst p;rw[Nat.gcd_zero_right]at e;subst e;refine⟨_,rfl,_,rfl,t,_,rfl,rfl,⟨by omega,c⟩,_,rfl,_,rfl,b,_,rfl,rfl,⟨by omega,c⟩,by show 2<=sizeLine;decide,fun r a=>?_⟩
       exact k r _ a rfl
   . intro σ H' R u d h;refine hZq fun q_ e_=>?_;obtain⟨v,e1,i,j,g,l,q,m,h⟩:=h;subst e_;exact⟨v,e1,i,j,g,l,q,m,d _ _ h⟩
def dW:Sp:=fun vs H Q _=>∃(v u:V) (p q:Fr) (m n:Nat),vs= [v,u]/\TrAt H v (frT p)/\TrAt H u (frT q)/\Gf m p/\Gf n q/\m+n+1<=8000/\
 ∀(x:V) (H':Hp) (r:Fr),Same H H'->TrAt H' x (frT r)->Sh r->rv r=rv p+rv q->Gf (m+n+1) r->Q x H'
def cX:Sp:=fun vs H Q _=>∃(v u:V) (p q:Fr) (m n:Nat),vs= [v,u]/\TrAt H v (frT p)/\TrAt H u (frT q)/\Gf m p/\Gf n q/\m+n<=8000/\
 ∀(x:V) (H':Hp) (r:Fr),Same H H'->TrAt H' x (frT r)->Sh r->rv r=rv p*rv q->Gf (m+n) r->Q x H'
theorem scLP:FnScope ["_law_one","_law_other"] ["_law_one","_law_other"] (ag lY):= .of
theorem scLT:FnScope ["_law_one","_law_other"] ["_law_one","_law_other"] (ag jx):= .of
theorem sN{f:Addr}{fd:FuncData}(F:Fun K "_law_plus" "_law_plus" lY f fd)(zL:Cl P w K mg base 1 "_law_least" ["_law_top","_law_bottom"] kr):FnOk P w K mg base CX0 2 f fd ["_law_one","_law_other"] dW:=by
 refine F.ok scLP (fun vs H Q E h=>?_) (fun o A outer s H vs Q E hr h=>?_)
 . refine hZq fun q_ e_=>?_;obtain⟨v,u,p,q,m,n,rfl,_⟩:=h;subst e_;rfl
 refine hZq fun q_ e_=>?_;obtain⟨v,u,p,q,m,n,rfl,hv,hu,gp,gq,j,k⟩:=h;obtain⟨a,rfl,ha⟩:=bS hv;obtain⟨b,rfl,hb⟩:=bS hu;subst e_;refine⟨_,af (ar (aj zL hr (a0 (am aY (am aU (ak aE (pv 0) ac fun _ _=>rfl) (ak aE (pv 1) ac fun _ _=>rfl)) (am aU (ak aE (pv 1) ac fun _ _=>rfl) (ak aE (pv 0) ac fun _ _=>rfl))) (a0 (am aU (ak aE (pv 0) ac fun _ _=>rfl) (ak aE (pv 1) ac fun _ _=>rfl)) a9)))),?_⟩;have g:Big p.1:=gp.top.big (by omega)
 have p2:Big p.2:=gp.bot.big (by omega)
 have i:Big q.1:=gq.top.big (by omega)
 have e:Big q.2:=gq.bot.big (by omega)
 refine⟨_,rfl,a,_,0, .int p.1,rfl,rfl,SqT.of ha,rfl,_,rfl,b,_,1, .int q.2,rfl,rfl,SqT.of hb,rfl,_,_,rfl,rfl,⟨g,e⟩,_,rfl,b,_,0, .int q.1,rfl,rfl,SqT.of hb,rfl,_,rfl,a,_,1, .int p.2,rfl,rfl,SqT.of ha,rfl,_,_,rfl,rfl,⟨i,p2⟩,_,_,rfl,rfl,_,rfl,a,_,1, .int p.2,rfl,rfl,SqT.of ha,rfl,_,rfl,b,_,1, .int q.2,rfl,rfl,SqT.of hb,rfl,_,_,rfl,rfl,⟨p2,e⟩,?_⟩;have c:0 < p.2*q.2:=Int.mul_pos gp.pos gq.pos
 have l:Lt2 (m+n+1) (p.1*q.2+q.1*p.2):=by
  refine Lt2.add (gp.top.mul gq.bot) ?_;rw[Nat.add_comm];exact gq.top.mul gp.bot
 have d:Lt2 (m+n+1) (p.2*q.2):=(gp.bot.mul gq.bot).mono (by omega)
 refine⟨_,_,rfl,c,e7 (d.big j) (by omega),fun r H1 t e1=>?_⟩
 subst e1;refine k (.ref r) _ _ (aa t) (aX a8) (gL c) ?_ (tP c l d);rw[jC c];have n1:=ne0 gp.pos;have n2:=ne0 gq.pos;unfold rv;simp only[Rat.intCast_mul,Rat.intCast_add];grind
theorem oU{f:Addr}{fd:FuncData}(F:Fun K "_law_times" "_law_times" jx f fd)(zL:Cl P w K mg base 1 "_law_least" ["_law_top","_law_bottom"] kr):FnOk P w K mg base CX0 2 f fd ["_law_one","_law_other"] cX:=by
 refine F.ok scLT (fun vs H Q E h=>?_) (fun o A outer s H vs Q E hr h=>?_)
 . refine hZq fun q_ e_=>?_;obtain⟨v,u,p,q,m,n,rfl,_⟩:=h;subst e_;rfl
 refine hZq fun q_ e_=>?_;obtain⟨v,u,p,q,m,n,rfl,hv,hu,gp,gq,j,k⟩:=h;obtain⟨a,rfl,ha⟩:=bS hv;obtain⟨b,rfl,hb⟩:=bS hu;subst e_;refine⟨_,af (ar (aj zL hr (a0 (am aU (ak aE (pv 0) ac fun _ _=>rfl) (ak aE (pv 1) ac fun _ _=>rfl)) (a0 (am aU (ak aE (pv 0) ac fun _ _=>rfl) (ak aE (pv 1) ac fun _ _=>rfl)) a9)))),?_⟩;have e:Big p.1:=gp.top.big (by omega)
 have p2:Big p.2:=gp.bot.big (by omega)
 have i:Big q.1:=gq.top.big (by omega)
 have g:Big q.2:=gq.bot.big (by omega)
 refine⟨_,rfl,a,_,0, .int p.1,rfl,rfl,SqT.of ha,rfl,_,rfl,b,_,0, .int q.1,rfl,rfl,SqT.of hb,rfl,_,_,rfl,rfl,⟨e,i⟩,_,rfl,a,_,1, .int p.2,rfl,rfl,SqT.of ha,rfl,_,rfl,b,_,1, .int q.2,rfl,rfl,SqT.of hb,rfl,_,_,rfl,rfl,⟨p2,g⟩,?_⟩;have c:0 < p.2*q.2:=Int.mul_pos gp.pos gq.pos;have l:=gp.top.mul gq.top;have d:=gp.bot.mul gq.bot;refine⟨_,_,rfl,c,e7 (d.big j) (by omega),fun r H1 t e1=>?_⟩
 subst e1;refine k (.ref r) _ _ (aa t) (aX a8) (gL c) ?_ (tP c l d);rw[jC c];have n1:=ne0 gp.pos;have n2:=ne0 gq.pos;unfold rv;simp only[Rat.intCast_mul];grind
end
end K44
namespace Wg
noncomputable def hx(m:Nat)(T:Tb)(q:Nat)(k:Nat):Int:=(sumN m fun i=>if T.sd i=k then T.ln i q else 0)+if T.hd q=k then T.bot else 0
section
variable{m n:Nat}{L:Nat->Nat->Int}{T:Tb}
theorem hx_sd(P:Pm m n T){i q:Nat}(hi:i < m)(hq:q < n):hx m T q (T.sd i)=T.ln i q:=by
 unfold hx;rw[sumN_one hi fun j a hne=>if_neg fun e=>hne (P.inj a hi e),if_pos rfl,if_neg fun e=>P.disj hi hq e.symm,Int.add_zero]
theorem hx_hd(P:Pm m n T){c q:Nat}(hc:c < n)(hq:q < n):hx m T q (T.hd c)=if c=q then T.bot else 0:=by
 unfold hx;rw[sumN_zero fun j a=>if_neg (P.disj a hc),AD];by_cases e:c=q
 . rw[if_pos e,if_pos (by rw[e])]
 . rw[if_neg e,if_neg fun z=>e (P.injh hq hc z).symm]
theorem hx_row(I:Inv m n (V0 m L) (R0 L) T)(P:Pm m n T){q t:Nat}(hq:q < n)(ht:t < m):hx m T q t=sumN n fun c=>L t c*hx m T q (m+c):=by
 have a:=I.ln q t (by omega) ht
 unfold Tb.W at a;rw[if_pos hq]at a;have p:=P fun k=>hx m T q k*V0 m L k t
 rw[<-eO n,sumN_congr (g:=fun i=>T.ln i q*V0 m L (T.sd i) t) fun i hi=>by rw[hx_sd P hi hq],a,sumN_one (k:=q) hq fun c hc hne=>by rw[hx_hd P hc hq,if_neg hne,Av],hx_hd P hq hq,if_pos rfl,sumN_one (k:=t) ht fun k hk hne=>by
  show _*(if k < m then(if k=t then(1:Int)else 0)else _)=0
  rw[if_pos hk,if_neg hne,Az]]at p
 have e1:∀c,c < n->hx m T q (m+c)*V0 m L (m+c) t= -1*(L t c*hx m T q (m+c)):=by
  intro c hc;show _*(if m+c < m then _ else -L t (m+c - m))=_;rw[if_neg (by omega),show m+c - m=c by omega]
  grind
 rw[sumN_congr e1,sumN_mul]at p
 have b:V0 m L t t=1:=by
  show(if t < m then(if t=t then(1:Int)else 0)else _)=1;rw[if_pos ht,if_pos rfl]
 rw[b]at p;have d:T.bot* -V0 m L (T.hd q) t+T.bot*V0 m L (T.hd q) t=0:=by grind
 rw[d,Int.mul_one]at p;omega
end
end Wg
namespace K44
open PySem L2 Mth Tre Wd Su Tw Fm
def MetB(g:Tr->Rat)(b:Bnd):Prop:=lin g b.ps < rv b.lim\/(lin g b.ps=rv b.lim/\b.st=false)
def Met(g:Tr->Rat)(bs:List Bnd):Prop:=∀b∈bs,MetB g b
theorem dR{bs:List Bnd}{pl:Nat}(h:pl < bs.length):bs[pl]?=some bs[pl]/\bdAt (bs.map ofB) pl=ofB bs[pl]:=⟨zo h,du (zo h)⟩
theorem fark{bs:List Bnd}{g:Tr->Rat}(hsh:∀b∈bs,∀p∈b.ps,Sh p.2):
 ∀ {wk:List Wt},(∀k∈wk,∃b,bs[k.1]?=some b/\MetB g b)->(∀k∈wk,Sh k.2/\0 < k.2.1)->lin g (be (bs.map ofB) wk)<=totR (bs.map ofB) wk/\((∃k∈wk,(bdAt (bs.map ofB) k.1).st=true)->lin g (be (bs.map ofB) wk) < totR (bs.map ofB) wk)
 | [],_,_=>⟨by simp only[be,lin,totR];exact Rat.le_refl,fun⟨k,m,_⟩=>by cases m⟩
 |k::r,h1,h2=>by
  obtain⟨i1,i2⟩:=fark hsh (wk:=r) (fun x m=>h1 x (zp _ m)) fun x m=>h2 x (zp _ m);obtain⟨b,i,d⟩:=h1 k zq;have a:=du i;have e:=hsh _ (zw i);obtain⟨c,j⟩:=h2 k zq;have pos:0 < rv k.2:=(jA c.1).mpr j;simp only[be,totR];rw[jM,a];show lin g (b.ps.map (scale k.2))+_<=rv b.lim*rv k.2+_/\(_->lin g (b.ps.map (scale k.2))+_ < rv b.lim*rv k.2+_);rw[pf g c e]
  have le:lin g b.ps*rv k.2<=rv b.lim*rv k.2:=by
   refine Rat.mul_le_mul_of_nonneg_right ?_ (Rat.le_of_lt pos);rcases d with h|⟨h,_⟩
   . exact Rat.le_of_lt h
   . rw[h];exact Rat.le_refl
  refine⟨by grind,fun⟨x,f,hx⟩=>?_⟩
  rcases zJ.mp f with rfl|f
  . have lt:lin g b.ps*rv x.2 < rv b.lim*rv x.2:=by
     rcases d with h|⟨_,h⟩
     . exact Rat.mul_lt_mul_of_pos_right h pos
     . rw[a]at hx;rw[show b.st=true from hx]at h;cases h
    grind
  . have:=i2 ⟨x,f,hx⟩;grind
theorem never{bs:List Bnd}{g:Tr->Rat}{wk:List Wt}(hsh:∀b∈bs,∀p∈b.ps,Sh p.2)(hm:∀k∈wk,∃b,bs[k.1]?=some b/\MetB g b)(h:Wts bs wk):False:=by
 obtain⟨c,d⟩:=fark hsh hm fun k m=>⟨h.sh k m,h.pos k m⟩;have a:lin g (be (bs.map ofB) wk)=lin g []:=xL g fun t=>h.tot t;simp only[lin]at a;rw[a]at c d;rcases h.low with z|⟨z,x⟩
 . exact absurd c (Rat.not_le.mpr z)
 . have:=d x;rw[z]at this;exact absurd this Rat.lt_irrefl
def oE(bs:List Bnd)(wk:List Wt):Prop:=∀vk,Wts bs vk->(∀k∈vk,∃p∈wk,p.1=k.1)->∀p∈wk,∃k∈vk,k.1=p.1
noncomputable def sumW(bs:List Bnd)(F:Nat->Int):List Wt->Rat
 | []=>0
 |k::r=>rv k.2 / ((scl (bs.getD k.1 ⟨[],(0,1),false⟩):Int):Rat)*((F k.1:Int):Rat)+sumW bs F r
theorem ki(bs:List Bnd)(F G:Nat->Int):∀vk,sumW bs (fun k=>F k+G k) vk=sumW bs F vk+sumW bs G vk
 | []=>by simp only[sumW];grind
 |k::r=>by
  simp only[sumW,ki bs F G r,Rat.intCast_add];grind
theorem kh(bs:List Bnd)(F:Nat->Int)(y:Int):∀vk,sumW bs (fun k=>F k*y) vk=sumW bs F vk*(y:Rat)
 | []=>by simp only[sumW];grind
 |k::r=>by
  simp only[sumW,kh bs F y r,Rat.intCast_mul];grind
theorem gA(bs:List Bnd){F G:Nat->Int}:∀ {vk:List Wt},(∀k∈vk,F k.1=G k.1)->sumW bs F vk=sumW bs G vk
 | [],_=>rfl
 |k::r,h=>by
  simp only[sumW];rw[h k zq,gA bs fun x m=>h x (zp _ m)]
theorem fe(bs:List Bnd):∀ {vk:List Wt} {F:Nat->Int},(∀k∈vk,F k.1=0)->sumW bs F vk=0
 | [],_,_=>rfl
 |k::r,F,h=>by
  simp only[sumW];rw[h k zq,fe bs fun x m=>h x (zp _ m)];have c0:((0:Int):Rat)=0:=rfl;rw[c0];grind
theorem kg(bs:List Bnd){L:Nat->Nat->Int}{y:Nat->Int}{vk:List Wt}:∀ {n:Nat},(∀c,c < n->sumW bs (fun k=>L k c) vk=0)->sumW bs (fun k=>Wg.sumN n fun c=>L k c*y c) vk=0
 |0,_=>fe bs fun _ _=>rfl
 |n+1,h=>by
  have e:(fun k=>Wg.sumN (n+1) fun c=>L k c*y c)=fun k=>(Wg.sumN n fun c=>L k c*y c)+L k n*y n:=by
   funext k;rw[Wg.sumN]
  rw[e,ki bs (fun k=>Wg.sumN n fun c=>L k c*y c) fun k=>L k n*y n,kg bs fun c hc=>h c (by omega),kh bs (fun k=>L k n),h n (by omega)]
  grind
theorem gy(bs:List Bnd){q:Nat}:∀ {vk:List Wt} {F:Nat->Int},vk.Pairwise (fun a b=>a.1 < b.1)->(∀k∈vk,0 < k.2.2/\0 < k.2.1/\0 < scl (bs.getD k.1 ⟨[],(0,1),false⟩))->(∀k∈vk,k.1≠q->F k.1=0)->(∃k∈vk,k.1=q)->F q≠0->sumW bs F vk≠0
 | [],_,_,_,_,h,_=>by
  obtain⟨k,m,_⟩:=h;cases m
 |k::r,F,ha,hp,hz,hx,hF=>by
  obtain⟨h1,h2⟩:=List.pairwise_cons.mp ha;simp only[sumW];by_cases e:k.1=q
  . rw[fe bs (vk:=r) (F:=F) fun x m=>hz x (zp _ m) fun z=>by have:=h1 x m;omega]
    obtain⟨f,p2,g⟩:=hp k zq;have a:=(jA f).mpr p2;have b:=cG g
    have c:((F k.1:Int):Rat)≠0:=by
     rw[e];intro z;exact hF (by exact_mod_cast z)
    intro z;rw[Rat.add_zero]at z;rcases Rat.mul_eq_zero.mp z with z|z
    . rw[Rat.div_def]at z;have:=Rat.mul_pos a (Rat.inv_pos.mpr b);rw[z]at this;exact absurd this Rat.lt_irrefl
    . exact c z
  . rw[hz k zq e]
    have i:=gy bs (q:=q) (vk:=r) (F:=F) h2 (fun x m=>hp x (zp _ m)) (fun x m=>hz x (zp _ m)) (by
     obtain⟨x,d,ex⟩:=hx;rcases zJ.mp d with rfl|d
     . exact absurd ex e
     . exact⟨x,d,ex⟩) hF
    intro z;apply i;have c0:((0:Int):Rat)=0:=rfl;rw[c0]at z;grind
theorem iH{bs:List Bnd}{us T:List Tr}{e:Nat}(hg:∀b∈bs,Gbd T e b){t:Tr}{c:Nat}(hc:us[c]?=some t):∀ {vk:List Wt},(∀k∈vk,k.1 < bs.length)->(∀k∈vk,Sh k.2)->sumW bs (fun k=>Lf bs us k c) vk= -Su.tot t (be (bs.map ofB) vk)
 | [],_,_=>by simp only[sumW,be,Su.tot];grind
 |k::r,h1,h2=>by
  have l:=iH hg hc (vk:=r) (fun x m=>h1 x (zp _ m)) fun x m=>h2 x (zp _ m);have hp:=h1 k zq;obtain⟨g,f⟩:=dR hp;have h:=i9 (us:=us) g;have d:=hg _ (A4 hp);have j:bs.getD k.1 ⟨[],(0,1),false⟩=bs[k.1]:=by rw[zt,g];rfl
  obtain⟨n,sd,_⟩:=d.scl_ok;have cl:c < us.length:=(zv.mp hc).1;have tc:=lR (s:=scl bs[k.1]) (t:=t) d.asc fun q a=>⟨(d.ps q a).2.gf.pos,sd q a⟩;have sn:=cL n;simp only[sumW,be];rw[l,df,f,j,h];show _*((rowF us bs[k.1] c:Int):Rat)+_= -(Su.tot t (bs[k.1].ps.map (scale k.2))+_);rw[dS t (h2 k zq) fun q a=>(d.ps q a).2.sh]
  have i:rowF us bs[k.1] c= -(cw (scl bs[k.1]) t bs[k.1].ps):=by
   unfold rowF;rw[if_pos cl,zt,hc];rfl
  rw[i,Rat.intCast_neg,tc,Rat.div_def];grind
def fstT:Tr->Nat
 | .tup (.int i::_)=>i.toNat
 |_=>0
theorem WOut.least{T0 l:Addr}{H H':Hp}{bs:List Bnd}{ws2:List V}{us2 us T:List Tr}{Tb:Wg.Tb}{i e:Nat}(hg:∀b∈bs,Gbd T e b)(h:WOut T0 H H' bs l ws2 us2 us Tb i){wk:List Wt}(ek:us2=wk.map wtT):oE bs wk:=by
 refine hZq fun q_ e_=>?_;obtain⟨_,_,u,_⟩:=h.wt;subst e_
 have pl:∀q:Nat,(∃p∈wk,p.1=q)↔∃p∈cnt us.length Tb i,p.1=q:=by
  have pm:(wk.map (·.1)).Perm ((cnt us.length Tb i).map (·.1)):=by
   have:=(u.map fstT);rw[ek,At,At]at this
   have e1:(fstT ∘ wtT)=fun k:Wt=>k.1:=by
    funext k;show fstT (.tup [.int (k.1:Int),frT k.2])=k.1;simp[fstT]
   rw[e1]at this;unfold K44.wts at this;rw[At]at this;exact this
  intro q;have:=pm.mem_iff (a:=q);simp only[zM]at this;exact this
 intro vk hv f;have O:=h.ok
 have g:∀q,(∃p∈wk,p.1=q)->q=Tb.sd i\/∃c,c < us.length/\Tb.ln i c≠0/\q=Tb.hd c:=by
  intro q hq;obtain⟨p,mp,rfl⟩:=(pl q).mp hq;unfold cnt at mp;rcases zJ.mp mp with rfl|mp
  . exact .inl rfl
  . refine hZq fun q_ e_=>?_;obtain⟨c,hc,hz,rfl⟩:=fX mp;subst e_;exact .inr ⟨c,hc,hz,rfl⟩
 have key:∀c,c < us.length->sumW bs (fun k=>Wg.hx bs.length Tb c k) vk=0:=by
  intro c hc;have e1:sumW bs (fun k=>Wg.hx bs.length Tb c k) vk=sumW bs (fun k=>Wg.sumN us.length fun d=>Lf bs us k d*Wg.hx bs.length Tb c (bs.length+d)) vk:=gA bs fun k mk=>Wg.hx_row O.inv O.pm hc (hv.lt k mk);rw[e1];refine kg bs fun d hd=>?_;rw[iH hg (zo hd) hv.lt hv.sh,hv.tot];rfl
 have hpos:∀k∈vk,0 < k.2.2/\0 < k.2.1/\0 < scl (bs.getD k.1 ⟨[],(0,1),false⟩):=fun k mk=>by
  refine⟨(hv.sh k mk).1,hv.pos k mk,?_⟩;obtain⟨v,_⟩:=dR (hv.lt k mk);rw[zt,v];exact(hg _ (A4 (hv.lt k mk))).scl_ok.1
 have b0:=O.inv.pos
 have side:∃k∈vk,k.1=Tb.sd i:=by
  refine Classical.byContradiction fun no=>?_;refine hZq fun q_ e_=>?_;obtain⟨k,r,t⟩:=List.exists_cons_of_ne_nil hv.ne;have mk:k∈vk:=by rw[t];exact zq
  obtain⟨p,mp,ep⟩:=f k mk;subst e_;rcases g k.1 ⟨p,mp,ep⟩with z|⟨c,hc,_,z⟩
  . exact no ⟨k,mk,z⟩
  . refine gy bs (q:=k.1) hv.asc hpos (fun x n hne=>?_) ⟨k,mk,rfl⟩ ?_ (key c hc)
    . obtain⟨s,m,j⟩:=f x n;rcases g x.1 ⟨s,m,j⟩with y|⟨d,hd,_,y⟩
      . exact absurd ⟨x,n,y⟩ no
      . rw[y,Wg.hx_hd O.pm hd hc,if_neg];intro w';rw[w',<-z]at y;exact hne y
    . rw[z,Wg.hx_hd O.pm hc hc,if_pos rfl];omega
 intro p mp;rcases g p.1 ⟨p,mp,rfl⟩with z|⟨c,hc,hz,z⟩
 . obtain⟨k,mk,o⟩:=side;exact⟨k,mk,o.trans z.symm⟩
 . refine Classical.byContradiction fun no=>?_;refine gy bs (q:=Tb.sd i) hv.asc hpos (fun x n hne=>?_) side ?_ (key c hc)
   . obtain⟨s,m,j⟩:=f x n;rcases g x.1 ⟨s,m,j⟩with y|⟨d,hd,_,y⟩
     . exact absurd y hne
     . rw[y,Wg.hx_hd O.pm hd hc,if_neg];intro w';rw[w',<-z]at y;exact no ⟨x,n,y⟩
   . rw[Wg.hx_sd O.pm h.hi hc];exact hz
noncomputable def lift(js:List Nat)(vk:List Wt):List Wt:=vk.map fun k=>(js.getD k.1 0,k.2)
noncomputable def ba(bs:List Bnd)(js:List Nat):List Bnd:=js.map fun j=>bs.getD j ⟨[],(0,1),false⟩
theorem qt{bs:List Bnd}{js:List Nat}{q:Nat}(h:q < js.length):(ba bs js)[q]?=some (bs.getD (js.getD q 0) ⟨[],(0,1),false⟩):=by
 unfold ba;rw[zr,zo h,zt (l:=js),zo h];rfl
theorem ja{bs:List Bnd}{js:List Nat}(hj:∀j∈js,j < bs.length){q:Nat}(h:q < js.length):bdAt ((ba bs js).map ofB) q=bdAt (bs.map ofB) (js.getD q 0):=by
 have hq:js.getD q 0 < bs.length:=by
  rw[zt,zo h];exact hj _ (A4 h)
 obtain⟨e1,a⟩:=dR hq;rw[du (qt h),a,zt,e1];rfl
theorem iT{bs:List Bnd}{js:List Nat}(hj:∀j∈js,j < bs.length):∀ {vk:List Wt},(∀k∈vk,k.1 < js.length)->be ((ba bs js).map ofB) vk=be (bs.map ofB) (lift js vk)/\totR ((ba bs js).map ofB) vk=totR (bs.map ofB) (lift js vk)
 | [],_=>⟨rfl,rfl⟩
 |k::r,h=>by
  obtain⟨i1,i2⟩:=iT hj (vk:=r) fun x m=>h x (zp _ m);have e:=ja (bs:=bs) hj (h k zq);show(bdAt _ k.1).us.map _++_=(bdAt _ (js.getD k.1 0)).us.map _++be _ (lift js r)/\rv (bdAt _ k.1).m*_+_=rv (bdAt _ (js.getD k.1 0)).m*_+totR _ (lift js r);rw[e,i1,i2];exact⟨rfl,rfl⟩
theorem Wts.lift{bs:List Bnd}{js:List Nat}(hj:∀j∈js,j < bs.length)(ha:js.Pairwise (· < ·)){vk:List Wt}(h:Wts (ba bs js) vk):Wts bs (lift js vk):=by
 have hl:∀k∈vk,k.1 < js.length:=fun k m=>by
  have:=h.lt k m;unfold ba at this;rw[zm]at this;exact this
 obtain⟨e1,f⟩:=iT (bs:=bs) hj hl
 have g:∀ {k:Wt},k∈vk->js.getD k.1 0∈js:=fun{k} m=>by
  rw[zt,zo (hl k m)];exact A4 (hl k m)
 refine⟨fun z=>h.ne (List.map_eq_nil_iff.mp z),?_,fun k mk=>?_,fun k mk=>?_,fun k mk=>?_,fun t=>?_,?_⟩
 . unfold K44.lift;rw[AR];refine List.Pairwise.imp_of_mem (fun{a b} ma mb d=>?_) h.asc;have e:=hl a ma;have lb:=hl b mb;rw[zt,zt,zo e,zo lb];exact An.mp ha a.1 b.1 e lb d
 . obtain⟨c,m',rfl⟩:=zM.mp mk;exact hj _ (g m')
 . obtain⟨c,m',rfl⟩:=zM.mp mk;exact h.sh c m'
 . obtain⟨c,m',rfl⟩:=zM.mp mk;exact h.pos c m'
 . rw[<-e1];exact h.tot t
 . rw[<-f];rcases h.low with z|⟨z,k,mk,hk⟩
   . exact .inl z
   . refine .inr ⟨z,(js.getD k.1 0,k.2),zM.mpr ⟨k,mk,rfl⟩,?_⟩;rw[<-ja hj (hl k mk)];exact hk
theorem i8{js:List Nat}{vk:List Wt}(hl:∀k∈vk,k.1 < js.length):∀k∈lift js vk,k.1∈js:=fun k mk=>by
 obtain⟨a,m',rfl⟩:=zM.mp mk;show js.getD a.1 0∈js;rw[zt,zo (hl a m')];exact A4 (hl a m')
end K44
namespace Dj
open PySem PySem.Spec PyProof.Rows L2 Tre Wd Su
section
variable{X:Cx}{pins:List (Addr×Obj)}{σ:L2.St}{H:Hp}{s:Shared}{a:Addr}
theorem vI{kvs:List Ent}{o:Obj}{P:Program}{w:World}(I:Inv X pins σ H s)(ha:H a=some (dJ P w a kvs))(ho:s.heap.get? a=some o):Inv X pins σ (upd H a (.frz o (dJ P w a kvs))) s:=by
 have ne:∀ {b:Addr} {u:HO},H b=some u->(∀z,dJ P w a kvs=z->u≠z)->b≠a:=fun e q z=>by
  rw[z,ha]at e;exact q _ rfl (zN e).symm
 have st:∀ {b:Addr} {u:HO},ObjOk X.prog X.w H s.heap b u->ObjOk X.prog X.w (upd H a (.frz o (dJ P w a kvs))) s.heap b u:=fun x=>
  x.stay (fun _ _ _ q=>q) (fun b q=>by rw[ae (ne q fun z e=>by subst e;intro t;cases t)];exact q) fun b xs q=>by rw[ae (ne q fun z e=>by subst e;intro t;cases t)];exact q
 exact I.step (h':=s.heap) (g':=s.gens) (d':=s.drawn) (t':=s.toks) (ch:= []) (fun _ z=>nomatch z) (fun b o _ _ _ e _=>e) (fun b o _ _ _ e _=>⟨o.slots,e⟩)
  (fun b o _ e n=>by rw[ae (fun z=>by rw[z,ha]at n;cases n)];exact n) (fun b o _ e=>⟨o,e⟩)
  (fun b xs e=>by rw[ae (ne e fun z q=>by subst q;intro t;cases t)];exact e) (fun b o' u e=>by rw[ae (ne e fun z q=>by subst q;intro t;cases t)];exact e)
  (fun b ps e=>⟨#[],by rw[ae (ne e fun z q=>by subst q;intro t;cases t),e];simp⟩) (fun m hm=>hm) (fun b u e=>by
   by_cases z:b=a
   . subst z;rw[a8]at e;cases e;exact⟨ho,st (I.hok b _ ha)⟩
   . rw[ae z]at e
     exact st (I.hok b u e)) I.bare
end
end Dj
namespace Dj
open PySem PySem.Spec PySem.W PyProof.Rows L2 Tre
abbrev IiAt(h:Heap)(it d:Addr)(i n ep:Nat)(f0:Value)(f:Bool)(ok ov:Value):Prop:=
 h.get? it=some {cls:= .type "dict_itemiterator",dict:=none,data:= .fields #[f0, .bool f, .ref d, .int i 0, .int n 0, .int ep 0,ok,ov],slots:= #[]}
def Ii(h:Heap)(it d:Addr)(i n ep:Nat):Prop:=∃f0 f ok ov,IiAt h it d i n ep f0 f ok ov/\(f0= .none\/∃a:Nat,f0=rawInt a)
theorem iD:entryFor table "dict_itemiterator.__iter__"=some Builtin.«dict_keyiterator.__iter__»:=
 entryFor_alias (id':="dict_keyiterator.__iter__") (by kernel_rfl) rfl (by decide +kernel) (by kernel_rfl)
section
variable{prog:Program}{w:World}{A:Around}{E:Value->Shared->Prop}{s:Shared}{d it v:Addr}{es:Array DictEntry}{ep:Nat}
theorem oP{Q:Value->Shared->Prop}(hd:(d==sysModules)=false)(hm:RawD s.heap d es ep)(hQ:Q (.ref s.heap.objs.size) {s with heap:=s.heap.push {cls:= .type "dict_items",data:= .fields #[.ref d]}}):wpAny (model prog w) A (call (.builtin "dict.items") [.ref d]) Q E s:=by
 have a:=hm.ty;refine wpAny_call_entry F.slot_dict_items a F.entry_dict_items ?_ (F.args_dict_items_1 _);unfold Builtin.«dict.items»;refine wpAny_bind ?_;unfold Builtin.Dict.noArgs;refine wpAny_bind (wpAny_notOrdered_dict a ?_);show wpAny _ _ (pure d) _ _ s;refine wpAny_pure ?_;show wpAny _ _ (Builtin.Dict.showsAll d >>=_) _ _ s;unfold Builtin.Dict.showsAll;rw[if_neg (by rw[hd];exact zX)]
 refine wpAny_bind (wpAny_pure ?_);exact wpAny_bind (wpAny_newObj_type (wpAny_pure ⟨_,rfl,hQ⟩))
theorem mD{Q:Value->Shared->Prop}(hv:s.heap.IsItemsView v d)(hm:RawD s.heap d es ep)(hQ:Q (.ref s.heap.objs.size) {s with heap:=s.heap.push {cls:= .type "dict_itemiterator",data:= .fields #[.none, .bool false, .ref d, .int 0 0, .int es.size 0, .int ep 0, .none, .none]}}):
 wpAny (model prog w) A (pyIter (.ref v)) Q E s:=by
 obtain⟨ov,e,f,c⟩:=id hv;obtain⟨o,ho,hc,a⟩:=id hm;refine wpAny_pyIter_slot hv.typeIs F.slot_dict_items_iter (wpAny_call_entry F.slot_dict_items_iter hv.typeIs F.entry_dict_items_iter ?_ (F.args_dict_items_iter_1 _));unfold Builtin.«dict_items.__iter__»;refine wpAny_bind (wpAny_pure ?_);refine wpAny_bind ?_;unfold Builtin.Dict_items.dictOf;refine wpAny_bind (wpAny_field e c (x:= .ref d) rfl (wpAny_pure ?_));refine wpAny_bind ?_;unfold Builtin.Dict_items.newIterator;refine wpAny_bind (wpAny_dictEntries ho a ?_);refine wpAny_bind (wpAny_dictEpoch ho a ?_);have b:Builtin.Dict_items.ownsTuple "dict_itemiterator"=true:=by decide
 simp only[b,if_true]
 refine wpAny_newObj_type (wpAny_pure ⟨_,rfl,"dict_itemiterator",_,⟨_,Heap.get?_push_size _ rfl,rfl⟩,F.slot_dict_itemiterator_next.lookup,?_⟩)
  (by simp only[sizeOk,Builtin.Dict_items.ownedTupleFields,zx,A6,zV,List.length_nil,sizeLine_eq];omega)
 simpa [rawInt,Builtin.Dict_items.ownedTupleFields]using hQ
theorem pL{a:Addr}{Q:Option Obj->Shared->Prop}(h:∀r,Q r s):wpAny (model prog w) A (loadIfAlive a) Q E s:=fun _ _ _=>h _
theorem mw{i:Nat}{Q:Option Value->Shared->Prop}(hit:Ii s.heap it d i es.size ep)(hm:RawD s.heap d es ep)(hi:i < es.size)(hQ:∀h',Ii h' it d (i+1) es.size ep->h'.get? s.heap.objs.size=some {cls:= .type "tuple",data:= .seq #[es[i].key,es[i].val]}->h'.objs.size=s.heap.objs.size+1->
  (∀b o,b≠it->s.heap.get? b=some o->h'.get? b=some o)->Q (some (.ref s.heap.objs.size)) {s with heap:=h'}):
 wpAny (model prog w) A (pyNext (.ref it)) Q E s:=by
 refine hZq fun q_ e_=>?_;obtain⟨hp,g,v,tk,os⟩:=s;obtain⟨f0,f,ok,ov,hit,bw⟩:=hit;obtain⟨od,a5,bx,a6⟩:=id hm;subst e_;have hT:Shared.TypeIs ⟨hp,g,v,tk,os⟩ (.ref it) "dict_itemiterator":=⟨_,hit,rfl⟩;unfold pyNext
 refine wpAny_bind (wpAny_attempt (wpAny_callSpecial?_slot (name:=Str.ofString "__next__") hT F.slot_dict_itemiterator_next
  (wpAny_call_entry F.slot_dict_itemiterator_next hT F.entry_dict_itemiterator_next ?_ (F.args_dict_itemiterator_next_1 _))))
 refine wpAny_bind (wpAny_pure ?_);refine wpAny_bind ?_;refine wpAny_bind ?_
 first|refine wpAny_bind (wpAny_typeNameOfWhole_itemiter hT (wpAny_pure ?_))|refine wpAny_bind (wpAny_typeNameOf_itemiter hT (wpAny_pure ?_))
 refine wpAny_bind (wpAny_fieldsOf hit rfl ?_);have a7:Builtin.Dict_items.ownsTuple "dict_itemiterator"=true:=by decide
 simp only[a7,if_true];show wpAny _ _ (if (Value.ref d==Value.none)=true then _ else _) _ _ _;rw[if_neg (show¬((Value.ref d==Value.none)=true)from zX)];refine wpAny_bind (wpAny_pure ?_);refine wpAny_bind (wpAny_dictEntries a5 a6 ?_);rw[if_neg (by simp)]
 refine wpAny_bind (wpAny_pure ?_);refine wpAny_bind (wpAny_dictEpoch a5 a6 ?_);rw[if_neg (by simp)]
 refine wpAny_pure ?_;simp only[show¬((i:Int) < 0)from by omega,if_false,AA,Ao hi]
 refine wpAny_bind ?_
 first|refine wpAny_bind (wpAny_typeNameOfWhole_itemiter hT (wpAny_pure ?_))|refine wpAny_bind (wpAny_typeNameOf_itemiter hT (wpAny_pure ?_))
 refine wpAny_bind (wpAny_isOneOf_itemiter hT ?_);show wpAny _ _ (setField (.ref it) 3 (rawInt ((i:Int)+1)) >>=_) _ _ ⟨hp,g,v,tk,os⟩;refine wpAny_bind (wpAny_setField_rec hit (by simp) fun z l n=>?_)
 replace n:Heap.SameBut it hp z:=n
 replace l:IiAt z it d (i+1) es.size ep f0 f ok ov:=by
  have e:((i+1:Nat):Int)=(i:Int)+1:=by omega
  unfold IiAt;rw[e];simpa [rawInt]using l
 have a4:Shared.TypeIs ⟨z,g,v,tk,os⟩ (.ref it) "dict_itemiterator":=⟨_,l,rfl⟩;refine wpAny_bind (wpAny_holding ?_);refine wpAny_bind (wpAny_isOneOf_itemiter a4 ?_);refine wpAny_bind (wpAny_isOneOf_itemiter a4 ?_);show wpAny _ _ (Builtin.Dict_items.pairFromOwner (.ref it) 6 es[i].key es[i].val) _ _ ⟨z,g,v,tk,os⟩;unfold Builtin.Dict_items.pairFromOwner;refine wpAny_bind (wpAny_newTuple ?_);have c:IiAt (z.push {cls:= .type "tuple",data:= .seq #[es[i].key,es[i].val]}) it d (i+1) es.size ep f0 f ok ov:=Heap.get?_push_of_some _ l;generalize u:z.push {cls:= .type "tuple",data:= .seq #[es[i].key,es[i].val]} =p at c;have t:z.objs.size=hp.objs.size:=n.1;have bj:it < hp.objs.size:=Heap.lt_size hit;have bi:p.get? hp.objs.size=some {cls:= .type "tuple",data:= .seq #[es[i].key,es[i].val]}:=by rw[<-u,<-t];exact Heap.get?_push_size _ rfl
 have bg:p.objs.size=hp.objs.size+1:=by rw[<-u,Heap.size_push,t]
 have bb:∀b o,b≠it->hp.get? b=some o->p.get? b=some o:=fun b o hb e=>by rw[<-u];exact Heap.get?_push_of_some _ (n.extBut b o hb e)
 show wpAny _ _ (Builtin.Dict_items.ownedTupleIsFree (.ref it) >>=_) _ _ ⟨p,g,v,tk,os⟩;rw[t];clear u l n a4 t z
 have fin:∀k:Heap,Ii k it d (i+1) es.size ep->Heap.SameBut it p k->Q (some (.ref hp.objs.size)) ⟨k,g,v,tk,os⟩:=fun k j h=>
  hQ k j (h.extBut _ _ (Nat.ne_of_gt bj) bi) (by show k.objs.size=hp.objs.size+1;rw[h.1,bg]) fun b o hb e=>h.extBut b o hb (bb b o hb e)
 have put:∀q:Heap,IiAt q it d (i+1) es.size ep f0 f ok ov->Heap.SameBut it p q->∀ {B:Around} {Φ:Value->Shared->Prop} {E':Value->Shared->Prop},(∀m,Ii m it d (i+1) es.size ep->Heap.SameBut it p m->Φ (.ref hp.objs.size) ⟨m,g,v,tk,os⟩)->
  wpAny (model prog w) B (do
   let x<-field (.ref it) 6
   let y<-field (.ref it) (6+1)
   setField (.ref it) 6 es[i].key
   setField (.ref it) (6+1) es[i].val
   setField (.ref it) 0 (rawInt (hp.objs.size:Nat))
   setField (.ref it) 1 (.bool false)
   letGo [x,y] [.ref hp.objs.size]
   pure (Value.ref hp.objs.size)) Φ E' ⟨q,g,v,tk,os⟩:=by
  intro q c sb B Φ E' fin;refine wpAny_bind (wpAny_field c rfl (x:=ok) rfl ?_);refine wpAny_bind (wpAny_field c rfl (x:=ov) rfl ?_);refine wpAny_bind (wpAny_setField_rec c (by simp) fun k j h=>?_)
  replace h:Heap.SameBut it q k:=h
  replace j:IiAt k it d (i+1) es.size ep f0 f es[i].key ov:=j
  refine wpAny_bind (wpAny_setField_rec j (by simp) fun h₄ a2 aC=>?_)
  replace aC:Heap.SameBut it k h₄:=aC
  replace a2:IiAt h₄ it d (i+1) es.size ep f0 f es[i].key es[i].val:=a2
  refine wpAny_bind (wpAny_setField_rec a2 (by simp) fun h₅ a1 au=>?_)
  replace au:Heap.SameBut it h₄ h₅:=au
  replace a1:IiAt h₅ it d (i+1) es.size ep (rawInt (hp.objs.size:Nat)) f es[i].key es[i].val:=a1
  refine wpAny_bind (wpAny_setField_rec a1 (by simp) fun m a3 aT=>?_)
  replace aT:Heap.SameBut it h₅ m:=aT
  replace a3:IiAt m it d (i+1) es.size ep (rawInt (hp.objs.size:Nat)) false es[i].key es[i].val:=a3
  exact wpAny_bind (wpAny_letGo (wpAny_pure (fin m ⟨_,_,_,_,a3, .inr ⟨_,rfl⟩⟩ (sb.trans (h.trans (aC.trans (au.trans aT)))))))
 refine wpAny_bind ?_;unfold Builtin.Dict_items.ownedTupleIsFree;rcases bw with rfl|⟨a,rfl⟩
 . refine wpAny_bind (wpAny_field c rfl (x:= .none) rfl (wpAny_pure ?_));simp only[if_true];exact put p c (Heap.SameBut.refl _ _) fun m i6 s6=>wpAny_pure ⟨_,rfl,wpAny_pure (fin m i6 s6)⟩
 . refine wpAny_bind (wpAny_field c rfl (x:=rawInt a) rfl ?_);show wpAny _ _ (loadIfAlive ((a:Int).toNat) >>=_) _ _ _;refine wpAny_bind (pL fun r=>?_)
   cases r with
   |none=>
    simp only[Option.isNone_none,if_true];refine wpAny_pure ?_;simp only[if_true];exact put p c (Heap.SameBut.refl _ _) fun m i6 s6=>wpAny_pure ⟨_,rfl,wpAny_pure (fin m i6 s6)⟩
   |some o=>
    simp only[Option.isNone_some,AE,if_false];refine wpAny_bind (wpAny_field c rfl (x:= .bool f) rfl ?_)
    cases f with
    |true=>
     rw[if_neg (show¬((Value.bool true !=Value.bool true)=true)from zX)];refine wpAny_pure ?_;simp only[AE,if_false];exact wpAny_pure (wpAny_pure ⟨_,rfl,wpAny_pure (fin p ⟨_,_,_,_,c, .inr ⟨_,rfl⟩⟩ (Heap.SameBut.refl _ _))⟩)
    |false=>
     rw[if_pos (show(Value.bool false !=Value.bool true)=true from rfl)];refine wpAny_bind (wpAny_setField_rec c (by simp) fun k j h=>?_)
     replace h:Heap.SameBut it p k:=h
     replace j:IiAt k it d (i+1) es.size ep (rawInt a) true ok ov:=j
     refine wpAny_pure ?_;simp only[AE,if_false];exact wpAny_pure (wpAny_pure ⟨_,rfl,wpAny_pure (fin k ⟨_,_,_,_,j, .inr ⟨_,rfl⟩⟩ h)⟩)
theorem pA{i:Nat}{Q:Option Value->Shared->Prop}(hh:A.handled=none)(hit:Ii s.heap it d i es.size ep)(hm:RawD s.heap d es ep)(hi:es.size<=i)(hQ:∀h',Heap.ExtBut it s.heap h'->Q none {s with heap:=h'}):wpAny (model prog w) A (pyNext (.ref it)) Q E s:=by
 refine hZq fun q_ e_=>?_;obtain⟨f0,f,ok,ov,hit,k⟩:=hit;obtain⟨l,g,j,e⟩:=id hm;subst e_;have c:s.TypeIs (.ref it) "dict_itemiterator":=⟨_,hit,rfl⟩;unfold pyNext
 refine wpAny_bind (wpAny_attempt (wpAny_callSpecial?_slot (name:=Str.ofString "__next__") c F.slot_dict_itemiterator_next
  (wpAny_call_entry F.slot_dict_itemiterator_next c F.entry_dict_itemiterator_next ?_ (F.args_dict_itemiterator_next_1 _))))
 refine wpAny_bind (wpAny_pure ?_);refine wpAny_bind ?_;refine wpAny_bind ?_
 first|refine wpAny_bind (wpAny_typeNameOfWhole_itemiter c (wpAny_pure ?_))|refine wpAny_bind (wpAny_typeNameOf_itemiter c (wpAny_pure ?_))
 refine wpAny_bind (wpAny_fieldsOf hit rfl ?_);have h:Builtin.Dict_items.ownsTuple "dict_itemiterator"=true:=by decide
 simp only[h,if_true];show wpAny _ _ (if (Value.ref d==Value.none)=true then _ else _) _ _ s;rw[if_neg (show¬((Value.ref d==Value.none)=true)from zX)];refine wpAny_bind (wpAny_pure ?_);refine wpAny_bind (wpAny_dictEntries g e ?_);rw[if_neg (by simp)]
 refine wpAny_bind (wpAny_pure ?_);refine wpAny_bind (wpAny_dictEpoch g e ?_);rw[if_neg (by simp)]
 refine wpAny_pure ?_;simp only[show¬((i:Int) < 0)from by omega,if_false,AA,Array.getElem?_eq_none hi]
 refine wpAny_bind ?_
 first|refine wpAny_bind (wpAny_typeNameOfWhole_itemiter c (wpAny_pure ?_))|refine wpAny_bind (wpAny_typeNameOf_itemiter c (wpAny_pure ?_))
 show wpAny _ _ (setField (.ref it) 2 .none >>=_) _ _ s;refine wpAny_bind (wpAny_setField hit rfl (by simp) ?_)
 show wpAny _ _ (newExc (.type "StopIteration") [] >>=_) _ _ _;refine wpAny_bind ?_;simp only[newExc,newTuple];refine wpAny_bind (wpAny_newObj_type ?_ (by size_fits))
 refine wpAny_bind (m:=firstArgMember _ _) (wpAny_of_eq (a:=Value.none) (by first|rfl|(simp only[firstArgMember];rfl)) ?_)
 refine wpAny_newObj_type ?_ (by size_fits)
 simp only[raiseNew];refine wpAny_bind (wpAny_handled ?_);rw[show A.in1.handled=none from hh];refine wpAny_bind (wpAny_pure (wpAny_throw ?_));refine wpAny_bind (wpAny_isInstance (T:="StopIteration") (b:=true) ⟨_,Heap.get?_push_size _ rfl,rfl⟩ isSubtype_stop ?_);exact wpAny_pure (hQ _ (((Heap.SameBut.update ..).extBut.push _).push _))
theorem mn{i:Nat}{Q:Value->Shared->Prop}{n:Nat}(hit:Ii s.heap it d i n ep)(hQ:Q (.ref it) s):wpAny (model prog w) A (pyIter (.ref it)) Q E s:=by
 obtain⟨f0,f,ok,ov,hit,b⟩:=hit;have a:s.TypeIs (.ref it) "dict_itemiterator":=⟨_,hit,rfl⟩;refine wpAny_pyIter_slot a F.slot_dict_itemiterator_iter (wpAny_call_entry F.slot_dict_itemiterator_iter a iD ?_ (F.args_dict_itemiterator_iter_1 _));show wpAny _ _ (ret (.ref it)) _ _ s;exact wpAny_pure ⟨_,rfl,"dict_itemiterator",_,a,F.slot_dict_itemiterator_next.lookup,hQ⟩
theorem Ii.kp{h h':Heap}{i n:Nat}(x:Ii h it d i n ep)(e:∀o,h.get? it=some o->h'.get? it=some o):Ii h' it d i n ep:=by
 obtain⟨f0,f,ok,ov,b,a⟩:=x;exact⟨f0,f,ok,ov,e _ b,a⟩
end
def Iti(a:Addr)(o:Obj)(u:HO)(kvs:List (V×V)):It:=⟨fun i H=>H a=some (.frz o u)/\i < kvs.length,
 fun i H v H'=>∃T x y,v= .ref T/\H T=none/\H'=upd H T (.tup [x,y])/\kvs[i]?=some (x,y),fun i H=>H a=some (.frz o u)/\kvs.length<=i⟩
theorem lO{P:Program}{w:World}{K:PySem.W.Frag}{nm:Str}{np:Pos}{a it:Addr}{o:Obj}{u:HO}{es:Array DictEntry}{ep:Nat}{kvs:List (V×V)}(hx:o.ExactDict)(hd:o.data= .dict es ep)(hl:kvs.length=es.size)(hk:∀i (h:i < es.size),∃x y,kvs[i]?=some (x,y)/\RelV x es[i].key/\RelV y es[i].val):
 Turn P w K (.Name nm np) (Iti a o u kvs) [it] it (fun i h=>Ii h it a i es.size ep) where
 mem:=by simp
 obj:=fun i h st b hb=>by
  have e:b=it:=by simpa using hb
  subst e;refine hZq fun q_ e_=>?_;obtain⟨f0,f,ok,ov,j,_⟩:=st;subst e_;exact⟨_,j,fun v z=>by cases (show Data.fields _=Data.cell v from z)⟩
 keep:=fun i h h' st k=>st.kp fun o e=>k it (by simp) o e
 item:=by
  intro X hP hw hK hc i pins s σ H E I p st t;subst hP hw hK;refine hZq fun q_ e_=>?_;obtain⟨ha,hi⟩:=t;have g:RawD s.heap a es ep:=⟨o,(I.hok a _ ha).1,hx,hd⟩;obtain⟨x,y,hv,r1,r2⟩:=hk i (by omega)
  subst e_;refine mw st g (by omega) fun h' au ht sz up=>⟨_,rfl,?_⟩
  have fr:H s.heap.objs.size=none:=I.hok.fresh (zu _);have lt:∀ {c:Addr} {o:Obj},s.heap.get? c=some o->c≠s.heap.objs.size:=fun e=>zO (Heap.lt_size e)
  have r:it≠s.heap.objs.size:=by
   refine hZq fun q_ e_=>?_;obtain⟨f0,f,ok,ov,j,_⟩:=st;subst e_;exact lt j
  have all:∀c o,c∉ [it]->s.heap.get? c=some o->h'.get? c=some o:=fun c o n e=>up c o (by simpa using n) e
  refine wpAny_pure ⟨.ref s.heap.objs.size,upd H s.heap.objs.size (.tup [x,y]),?_,rfl,⟨_,x,y,rfl,fr,rfl,hv⟩,au,fun b hb=>?_⟩
  . refine I.call' (s':= {s with heap:=h'}) (ch:= [it]) rfl ⟨fun b o e _ _ hx=>all b o hx e,fun b o e _ _ hx=>⟨o.slots,all b o hx e⟩,fun c o e n _=>by rw[ae (lt e)];exact n,fun b o e hx=>⟨o,all b o hx e⟩,fun c zs e=>by rw[ae (av e fr)];exact e,fun c o zs e=>by rw[ae (av e fr)];exact e,fun c ps e=>⟨#[],by rw[ae (av e fr),e];simp⟩⟩ ?_ I.bare fun b hb=>?_
    . intro c o e;by_cases l:c=s.heap.objs.size
      . subst l;rw[a8]at e;cases e;exact⟨by show 2<=sizeLine;decide,[es[i].key,es[i].val], .cons r1 (.cons r2 .nil),⟨_,ht,rfl,_,rfl⟩⟩
      . rw[ae l]at e;have nb:∀c u,H c=some u->c∉ [it]:=fun c u e hz=>by rw[(p c hz).1]at e;cases e
        refine(I.hok c o e).stay (fun d v hc q=>all d v ?_ q) (fun d q=>?_) fun d m q=>?_
        . rcases hc with hz|hz
          . rw[hz];exact nb c o e
          . exact nb d _ hz
        . rw[ae (av q fr)];exact q
        . rw[ae (av q fr)];exact q
    . refine hZq fun q_ e_=>?_;obtain⟨g0,g1,g2,g3,g4,g5⟩:=p b hb;subst e_;exact⟨g3,g1,g4,g5⟩
  . have e:b=it:=by simpa using hb
    subst e;rw[ae r];exact(p b hb).1
 done:=by
  intro X hP hw hK hc i pins s σ H E I p st t;subst hP hw hK;refine hZq fun q_ e_=>?_;obtain⟨ha,hi⟩:=t;have g:RawD s.heap a es ep:=⟨o,(I.hok a _ ha).1,hx,hd⟩;obtain⟨f0,f1,f2,f3,f4,f5⟩:=p it (by simp)
  subst e_;exact pA (I.ok.hd hc) st g (by omega) fun h' eb=>⟨rfl,I.turned (t':=s.toks) (fun b o hb e=>eb b o hb e) f0 f1 f3 f4 f5⟩
 self:=fun A i s Q E st hq=>mn st hq
theorem eD{α β:Type}{F:α->β->Prop}:∀ {l₁:List α} {l₂:List β} {i:Nat} {a:α},Paired F l₁ l₂->l₁[i]?=some a->∃b,l₂[i]?=some b/\F a b
 |_,_,i,a, .nil,h=>by simp at h
 |_,_,0,a, .cons r _,h=>by
  simp at h;subst h;exact⟨_,rfl,r⟩
 |_,_,i+1,a, .cons _ rs,h=>by
  obtain⟨b,e,q⟩:=eD (i:=i) rs (by simpa using h)
  exact⟨b,by simpa using e,q⟩
def iw(v d:Addr):HO:= .ext fun h=>h.IsItemsView v d
theorem pM{P:Program}{w:World}{H:Hp}{h:Heap}{v d:Addr}(x:h.IsItemsView v d):ObjOk P w H h v (iw v d):=by
 obtain⟨o,e,r⟩:=x;exact⟨⟨o,e,r⟩,⟨_,e⟩,fun _ _ ⟨o',y,c⟩ k=>⟨o',k _ y,c⟩⟩
noncomputable def rQ(P:Program)(w:World)(K:PySem.W.Frag):V->List V->Hp->VK->Prop:=fun x vs H Q=>∃a kvs,x= .ref a/\vs= []/\DJ P w K H a kvs/\∀v,H v=none->Q (.ref v) (upd H v (iw v a))
noncomputable def tK(P:Program)(w:World)(K:PySem.W.Frag)(tl:TE):TI:=fun σ H R=>tl σ H fun x H1=>∃v a kvs,x= .ref v/\H1 v=some (iw v a)/\DJ P w K H1 a kvs/\∀o,R (Iti a o (dJ P w a kvs) (kvs.map fun e=>(V.ref e.2.1,e.2.2))) (upd H1 a (.frz o (dJ P w a kvs)))
section
variable{X:Cx}
theorem oY:MtM X "dict.items" (rQ X.prog X.w X.K):=by
 intro pins s σ H x vs u us Q I c rv h;obtain⟨a,kvs,rfl,rfl,d,q⟩:=h;cases c;cases rv.zero;obtain⟨z,hd,xs,f,o,es,ep,h1,h2,h3,i,g⟩:=ig I.hok I.kIn d;refine oP hd (⟨o,h1,h2,h3⟩:RawD s.heap a es ep) ?_;exact⟨.ref _,_,I.laid (t':=s.toks) (fun b ob e=>Heap.get?_push_of_some _ e) (zu _) (pM ⟨_,Heap.get?_push_size _ rfl,rfl,rfl⟩),rfl,q _ (I.hok.fresh (zu _))⟩
theorem oS{nm:Str}{np:Pos}{l:Expr}{tl:TE}(hl:PE X l tl):PI X (.Name nm np) l (tK X.prog X.w X.K tl):=by
 intro pins s σ H R I h;refine thn (hl pins s σ H _ I h) fun v s1 ⟨x,H1,j,r1,u⟩=>?_;refine hZq fun q_ e_=>?_;obtain⟨n,a,kvs,e,hv,d,q⟩:=u;subst e_;subst e;cases r1;refine hZq fun q_ e_=>?_;obtain⟨z,hd,xs,g,o,es,ep,h1,h2,h3,p,h5⟩:=ig j.hok j.kIn d;obtain⟨c,_⟩:=(show ObjOk X.prog X.w H1 s1.heap n (iw n a)from j.hok n _ hv);subst e_;have m:RawD s1.heap a es ep:=⟨o,h1,h2,h3⟩
 have le:es.size=xs.length:=by
  have:=congrArg List.length p;simpa using this
 have kx:=Paired.length g;have lk:(kvs.map fun e=>(V.ref e.2.1,e.2.2)).length=es.size:=by rw[zm,kx,le]
 refine mD c m ?_;have k:=vI j d.at_ h1;refine⟨s1.heap.objs.size,[s1.heap.objs.size],_,_,_,rfl,k.kept (t':=s1.toks) fun b o e=>Heap.get?_push_of_some _ e,lO h2 h3 lk (fun i hi=>?_),⟨.none,false, .none, .none,Heap.get?_push_size _ rfl, .inl rfl⟩,fun b hb=>?_,q o⟩
 . have au:i < xs.length:=by omega
   have f:i < kvs.length:=by omega
   obtain⟨y,t,r⟩:=eD g (zo f);refine⟨.ref (kvs[i]).2.1,(kvs[i]).2.2,by rw[zr,zo f];rfl,?_⟩
   have e1:es[i]=entryOfKey (Tk.treeKind X.prog X.w) y:=by
    have:es.toList[i]?=(xs.map (entryOfKey (Tk.treeKind X.prog X.w)))[i]?:=by rw[p]
    rw[zr,t,Ah,Ao hi]at this;exact zN this
   rw[e1,r.2.1];exact⟨rfl,r.2.2⟩
 . have e:b=s1.heap.objs.size:=by simpa using hb
   subst e;exact k.fpOk (zu _) (k.hok.fresh (zu _))
theorem sj{nm:Str}{np:Pos}{l:Expr}{tl:TE}{P:Program}{w:World}{K:PySem.W.Frag}(hP:X.prog=P)(hw:X.w=w)(hK:X.K=K)(hl:PE X l tl):PI X (.Name nm np) l (tK P w K tl):=by
 subst hP hw hK;exact oS hl
end
noncomputable def uK(P:Program)(w:World)(K:PySem.W.Frag)(td:TE):TE:=fun σ H Q=>td σ H fun x H1=>rQ P w K x [] H1 Q
theorem oT{X:Cx}{P:Program}{w:World}{K:PySem.W.Frag}{o:Expr}{td:TE}{apos cpos:Pos}(hP:X.prog=P)(hw:X.w=w)(hK:X.K=K)(ho:PE X o td)(hbase:attributeBase o "items" X.env (eval o X.env)=eval o X.env:=by rfl)(hline:(apos.endLine==cpos.line)=true:=by rfl):PE X (.Call (.Attribute o "items" apos) [] [] cpos) (uK P w K td):=by
 subst hP hw hK;intro pins s σ H Q I h;refine wpAny_Call_method0_late hbase hline (thn (ho pins s σ H _ I h) fun v s1 ⟨x,H1,e,r1,f⟩=>?_);obtain⟨a,kvs,rfl,_,d,q⟩:=id f;cases r1
 have c:s1.TypeIs (.ref a) "dict"/\∀b,Value.ref a= .ref b->∃ob,s1.heap.get? b=some ob/\ob.dict=none:=by
  obtain⟨_,_,xs,_,dd⟩:=ig e.hok e.kIn d;refine⟨dd.typeIs,fun b q=>?_⟩;cases q;obtain⟨ob,_,_,h1,h2,_⟩:=dd;exact⟨ob,h1,h2.2.1⟩
 exact⟨"dict","dict.items",PySem.F.plainAttrs_dict,PySem.F.slot_dict_items,PySem.F.type_dict_items,c.1,c.2,Calls.callWith_builtin rfl (PySem.evalArgs_none (oY pins s1 σ H1 (.ref a) [] _ [] Q e rfl .nil f))⟩
theorem l9{a D:Addr}{o:Obj}{u:HO}{kvs:List (V×V)}{tc:TT}{te:TE}{rest:L2.St}{Q:VK}{H1:Hp}(Pv:Nat->List V->Hp->Prop)(h0:Pv 0 [] (upd H1 D (.lst [])))(hl:∀i acc H,Pv i acc H->H a=some (.frz o u))(hs:∀i T x y acc H,i < kvs.length->kvs[i]?=some (x,y)->Pv i acc H->H T=none->tc (some (.ref T)::rest) (upd H T (.tup [x,y])) fun b H5=>if b=true then te (some (.ref T)::rest) H5 (CompN kvs.length i D acc Pv)else CompS kvs.length i acc Pv H5)(hd:∀acc H,Pv kvs.length acc H->Q (.ref D) H):k7 (Iti a o u kvs) D tc te rest Q H1:=by
 refine⟨fun i m acc H=>m=kvs.length - i/\i<=kvs.length/\Pv i acc H,⟨kvs.length,by simp,zY _,h0⟩,?_⟩
 rintro i m acc H ⟨rfl,hi,p⟩;by_cases c:i < kvs.length
 . refine .inr ⟨⟨hl i acc H p,c⟩,fun x H' y=>⟨ext1,?_⟩⟩;refine hZq fun q_ e_=>?_;obtain⟨T,d,h,rfl,g,rfl,f⟩:=y;subst e_;exact hs i T d h acc _ c f p g
 . have e:i=kvs.length:=by omega
   subst e;exact .inl ⟨⟨hl _ acc H p,zu _⟩,hd acc H p⟩
end Dj
namespace Tre
open PySem PySem.Spec PyProof.Rows L2
section
variable{X:Cx}
end
end Tre
namespace Dj
open PySem L2 Tre Wd Su
theorem Sd.canP{ds qs:List Pq}{ks:List Tr}{g:Tr->Fr}(h:Sd ds ks g)(nd:ks.Nodup)(ty:∀t∈ks,Ty .tm t)(pm:qs.Perm (outP g ks))(hr:∀(i j:Nat) (p q:Pq),i<=j->qs[i]?=some p->qs[j]?=some q->ltT (prT q) (prT p)=false):Can ds qs:=by
 have a:∀p∈qs,p.1∈ks/\p.2=g p.1/\(g p.1).1≠0:=fun p m=>by
  have m:=pm.mem_iff.mp m;unfold outP at m;obtain⟨t,l,rfl⟩:=zM.mp m;obtain⟨m1,c⟩:=Ag.mp l;exact⟨m1,rfl,by simpa using c⟩
 have d:(qs.map (·.1)).Nodup:=by
  rw[(pm.map (·.1)).nodup_iff];unfold outP;rw[At];show(List.map (fun t=>t) (ks.filter _)).Nodup;rw[List.map_id'];exact nd.filter _
 refine⟨?_,fun p m=>?_,fun t=>?_⟩
 . unfold Asc;rw[An];intro i j hi b f;have le:=nY (hr i j _ _ (by omega) (zo hi) (zo b))
   refine we le ?_
   cases q:eqT (qs[i]).1 (qs[j]).1 with
   |false=>rfl
   |true=>
    have e:=vW (ty _ (a _ (A4 hi)).1) (ty _ (a _ (A4 b)).1) q;have n:=Al.mp d;rw[An]at n;exact absurd (by rw[List.getElem_map,List.getElem_map];exact e) (n i j (by rw[zm];exact hi) (by rw[zm];exact b) f)
 . obtain⟨m1,c,k⟩:=a p m;rw[c];exact⟨h.sh _ m1,fun z=>k (by rw[z];rfl)⟩
 . rw[pV pm,mT g t nd h.sh,h.eq]
end Dj
namespace K44
open PySem L2 Mth Tre Wd Su Dj
theorem uu{us:List Pq}(h:Asc us)(j:Nat):Asc (us.take j):=List.Pairwise.sublist (List.take_sublist _ _) h
theorem Gf.one{e:Nat}(h:1<=e):Gf e zero:=⟨by decide,A5 (show(0:Nat) < 2^1 by decide) (Aw (by decide) h),A5 (show(1:Nat) < 2^1 by decide) (Aw (by decide) h)⟩
theorem zd{p:Fr}(h:Sh p):(!decide (p.1=0/\p.2=1))=decide (p.1≠0):=by
 by_cases z:p.1=0
 . have:p=zero:=by
    refine(rJ h).mp ?_;unfold rv;rw[z];have:((0:Int):Rat)=0:=by simp
    rw[this];grind
   rw[this];rfl
 . simp[z]
theorem pU{r1 r2:List V->Hp->VK->Prop}{te:TE}{Z:Ends}{σ:L2.St}{H:Hp}(h:te σ H fun v H1=>r2 [v] H1 fun x H2=>r1 [x] H2 Z.rt):tRet (tCB r1 (cW (tCB r2 (cW te tNil)) tNil)) Z σ H:=h
abbrev Part:=List Pq×Fr
def ptT(p:Part):Tr:= .tup [.tup (p.1.map prT),frT p.2]
noncomputable def bn:List Part->List Pq
 | []=> []
 |k::r=>k.1.map (scale k.2)++bn r
theorem iZ:∀a b:List Part,bn (a++b)=bn a++bn b
 | [],b=>rfl
 |k::r,b=>by simp only[Ak,bn,iZ r b,List.append_assoc]
structure Pt (T:List Tr) (e m:Nat) (p:Part):Prop where
 asc:Asc p.1
 mem:∀u∈p.1,u.1∈T
 gq:∀u∈p.1,Gq e u
 sh:Sh p.2
 gf:Gf m p.2
theorem fA{T:List Tr}{e m:Nat}(t:Tr):∀ {ks:List Part},(∀k∈ks,Pt T e m k)->Su.cnt t (bn ks)<=ks.length
 | [],_=>zY _
 |k::r,h=>by
  have h1:=jY (t:=t) (h k zq).asc;have h2:=fA t (ks:=r) fun x m=>h x (zp _ m);rw[bn,gg,jX (f:=scale k.2) fun _=>rfl,zV];omega
theorem fz{T:List Tr}{e m:Nat}:∀ {ks:List Part},(∀k∈ks,Pt T e m k)->(bn ks).length<=ks.length*T.length
 | [],_=>zY _
 |k::r,h=>by
  have h1:=Su.asc_len (h k zq).asc (h k zq).mem;have h2:=fz (ks:=r) fun x m=>h x (zp _ m);rw[bn,A6,zm,zV,Nat.succ_mul];omega
section
variable{P:Program}{w:World}{K:PySem.W.Frag}{mg:Str->Option Value}{base:Heap}{T0:Addr}
structure Ds (P:Program) (w:World) (K:PySem.W.Frag) (H:Hp) (D:Addr) (ds:List Pq) (E1:Nat) (keys:List Tr) (g:Tr->Fr):Prop where
 da:DAt P w K H D keys g
 sd:Sd ds keys g
 gf:∀t∈keys,Gf (1+Su.cnt t ds*E1) (g t)
 len:keys.length<=ds.length
theorem Ds.same{H H':Hp}{D:Addr}{ds:List Pq}{E1:Nat}{keys:List Tr}{g:Tr->Fr}(s:Same H H')(h:Ds P w K H D ds E1 keys g):Ds P w K H' D ds E1 keys g:=⟨h.da.same s,h.sd,h.gf,h.len⟩
def n9:Sp:=fun vs H Q _=>∃(lp:Addr) (pvs:List V) (T:List Tr) (ks:List Part) (e m:Nat),vs= [.ref lp]/\H lp=some (.lst pvs)/\TrsAt H pvs (ks.map ptT)/\(∀k∈ks,Pt T e m k)/\T.length<=5/\ks.length<=8/\1+8*(e+m+1)<=8000/\
 ∀(p:Addr) (us:List Pq) (H':Hp),Same H H'->TrAt H' (.ref p) (.tup (us.map prT))->Can (bn ks) us->(∀u∈us,Gq (1+ks.length*(e+m+1)) u)->Q (.ref p) H'
theorem scTg:FnScope ["_law_parts","_law_shares","_law_whole","_law_many","_law_term","_law_share"] ["_law_parts"] (ag sTog):= .of
open Classical in
theorem xb{f:Addr}{fd:FuncData}(F:Fun K "_law_together" "_law_together" sTog f fd)(B:Blt mg)(zT:Cl P w K mg base 2 "_law_times" ["_law_one","_law_other"] cX)(zP:Cl P w K mg base 2 "_law_plus" ["_law_one","_law_other"] dW):FnOk P w K mg base CX0 3 f fd ["_law_parts"] n9:=by
 refine F.okb scTg fun vs H Q E h=>?_;refine hZq fun q_ e_=>?_;obtain⟨lp,pvs,T,ks,e,m,rfl,cd,d6,a3,tl,kl,h8,k⟩:=h;subst e_;refine⟨rfl,fun gz A outer s hr=>?_⟩;have c4:=hr.units;have eR:=tL hr;have a6:=zZ (AB (show 30<=64 by decide) _) c4
 have bT:=zZ (AB (show 60<=64 by decide) _) c4
 have eg:(["_law_one"]:List Str).Nodup:=by decide +kernel
 refine⟨_,ad (psA 1 scTg.nd (vc (P:=P) (w:=w) rfl rfl))
  (ad (bK PassesOwn.never rfl (aJ (pv 0)) (aS rfl (ai (pgA 2 scTg.nd) (ai (pgA 3 scTg.nd) aL)))
   (af (bK PassesOwn.never rfl (fk (pv 2)) (aS rfl (ai (pgA 4 scTg.nd) (ai (pgA 5 scTg.nd) aL)))
    (af (uX (P:=P) (w:=w) (K:=K) rfl rfl rfl a6 (pv 1) (pv 4) (aj zP hr (a0 (pe_getJ (P:=P) (w:=w) (K:=K) rfl rfl rfl a6 (pv 1) (pv 4) (aQ (a0 ac (a0 ac a9))) ⟨rfl,rfl,rfl,rfl⟩) (a0 (aj zT hr (a0 (pv 5) (a0 (pv 3) a9))) a9))) rfl)))))
  (af (ar (bp eC rfl B.tu PyProof.Rows.boot_tuple (a0 (aA (fQ bT) rfl B.so PyProof.Rows.boot_sorted (a0
   (aO (NC:= ["_law_one"]) (mp:= [none]) rfl (sj (P:=P) (w:=w) (K:=K) rfl rfl rfl (oT (P:=P) (w:=w) (K:=K) rfl rfl rfl (pv 1))) (fun _ _ _ _ _=>pgA 0 eg)
    (fun _ _ _ _ _=>cy (aw (r:=rNeP K) (sJ eR) (ak (r:=rIxT K) aE (pv 0) ac fun _ _=>rfl) (aQ (a0 ac (a0 ac a9))) (ay _)))
    (fun _ _ _ _ _=>pv 0)) a9)) a9))))),?_⟩
 have f6:(20000:Nat)<=sizeLine:=by decide +kernel
 have wl:=d6.len;rw[zm]at wl;generalize hE:e+m+1=E1 at h8 k ⊢;intro D nD;have s1:Same H (upd H D (dJ P w D [])):=aa nD;have d0:DAt P w K (upd H D (dJ P w D [])) D [] (fun _=>zero):=⟨⟨[],⟨a8,fun p m=>(by cases m)⟩, .nil⟩,fun t m=>(by cases m),List.nodup_nil⟩
 generalize upd H D (dJ P w D [])=H0 at s1 d0 ⊢;refine ah ?_
 try dsimp only
 refine⟨_,rfl,lp,rfl,⟨_,SqL.of (s1 _ _ cd)⟩,?_⟩
 refine cE (xs:=pvs) (fun i σ H'=>Same H H'/\∃(keys:List Tr) (g:Tr->Fr) (v2 v3 v4 v5:Option V),σ= [some (.ref lp),some (.ref D),v2,v3,v4,v5]/\Ds P w K H' D (bn (ks.take i)) E1 keys g)
  ⟨s1,[],_,none,none,none,none,rfl,⟨d0,by rw[Ar];exact Sd.nil _,(fun t m=>by cases m),zY _⟩⟩ (fun i σ H' _ p=>SqL.of (p.1 _ _ cd)) ?_ ?_
 . intro i x σ H1 ex z_;refine hZq fun q_ e_=>?_;obtain⟨n,keys,g,v2,v3,v4,v5,rfl,b⟩:=z_;obtain⟨t,et,ht⟩:=d6.get' ex;rw[zr]at et;obtain⟨kk,ek,rfl⟩:=zy.mp et;have mk:=zw ek;have eo:i < ks.length:=(zv.mp ek).1;obtain⟨pw,xw,yw,rfl,fg,ed,eH⟩:=bE ht;obtain⟨bR,rfl,f3⟩:=bS eH;obtain⟨au,xs,rfl,dV,b6⟩:=at_t ed;subst e_;have gB:=a3 kk mk;have er:=gB.sh;have gK:=gB.gf;have xl:=b6.len;rw[zm]at xl;have f2:=aq ek;have ul:=Su.asc_len gB.asc gB.mem;have dI:∀k∈ks.take i,Pt T e m k:=fun x m=>a3 x (AN m);have fl:=fz dI;rw[A7]at fl;have fb:(min i ks.length)*T.length<=8*5:=AF (by omega) tl
   have c8:∀(t:Tr) (j:Nat),Su.cnt t (bn (ks.take i)++(kk.1.take j).map (scale kk.2))<=8:=fun t j=>by
    have h1:=fA t dI;rw[A7]at h1;have h2:=jY (t:=t) (uu gB.asc j);rw[gg,jX (f:=scale kk.2) fun _=>rfl];omega
   have b8:∀c:Nat,c<=8->1+c*E1<=8000:=fun c hc=>by
    have:c*E1<=8*E1:=Ap _ hc;omega
   refine⟨pw,_,rfl,SqT.of (n _ _ fg),rfl,_,_,rfl,_,_,rfl,rfl,?_⟩;refine⟨_,rfl,au,rfl,⟨_,SqT.of (n _ _ dV)⟩,?_⟩
   refine jQ (xs:=xs) (fun j σ H'=>Same H H'/\∃(keys:List Tr) (g:Tr->Fr) (v4 v5:Option V),σ= [some (.ref lp),some (.ref D),some (.ref au),some (.ref bR),v4,v5]/\Ds P w K H' D (bn (ks.take i)++(kk.1.take j).map (scale kk.2)) E1 keys g)
    ⟨n,keys,g,v4,v5,rfl,by rw[Ar,AJ,AH];exact b⟩ (fun j σ H' _ p=>SqT.of (p.1 _ _ dV)) ?_ ?_
   . clear b n keys g v4 v5 v2 v3;intro j x σ H2 ex2 z_;refine hZq fun q_ e_=>?_;obtain⟨n,keys,g,v4,v5,rfl,b⟩:=z_;obtain⟨t',d5,eG⟩:=b6.get' ex2;rw[zr]at d5;obtain⟨⟨tm,fr⟩,eq,rfl⟩:=zy.mp d5;have gu:=gB.gq _ (zw eq);have f7:j < kk.1.length:=(zv.mp eq).1;obtain⟨T',xt,xf,rfl,bx,bj,fB⟩:=bE eG;obtain⟨rf,rfl,fC⟩:=bS fB;have d:=gu.ty;have a2:=gu.dep;have d9:=gu.gf;have cp:=gu.sh;dsimp only at bj d a2 d9 cp;obtain⟨bt,rfl⟩:=tm_ref d bj;subst e_;have e8:=c8 tm j;have ew:(kk.1.take (j+1)).map (scale kk.2)=(kk.1.take j).map (scale kk.2)++ [scale kk.2 (tm,fr)]:=by rw[aq eq,zQ];rfl
     have e9:=c8 tm (j+1)
     have dl:(bn (ks.take i)++(kk.1.take j).map (scale kk.2)).length<=45:=by
      rw[A6,zm,A7];omega
     generalize fM:bn (ks.take i)++(kk.1.take j).map (scale kk.2)=ds at b e8 dl;have ej:bn (ks.take i)++(kk.1.take (j+1)).map (scale kk.2)=ds++ [scale kk.2 (tm,fr)]:=by rw[ew,<-List.append_assoc,fM]
     rw[ej]at e9 ⊢;have ec:Su.cnt tm (ds++ [scale kk.2 (tm,fr)])=Su.cnt tm ds+1:=by rw[gg,vM tm _ rfl]
     rw[ec]at e9;refine⟨T',_,rfl,SqT.of (n _ _ bx),rfl,_,_,rfl,_,_,rfl,rfl,?_⟩;refine hZq fun q_ e_=>?_;obtain⟨kvs,dj,gh,fR,cI⟩:=b.da.val d;subst e_;refine⟨_,rfl,D,kvs,rfl,dj,_,rfl,two,fun p np=>?_⟩;have sp:=aa (o:= .tup [.int 0, .int 1]) np;have bg:=b.same sp;have ea:=dj.kd (Kd.of_same sp) (sp _ _ dj.at_);have a1:=n.trans sp;have aC:=bj.mono (Kd.of_same a1);refine⟨bt,ktL tm,rfl,ea,key_tm d a2 aC,?_⟩
     obtain⟨z,ez,hz⟩:∃z,(valJ kvs (ktL tm)).getD (.ref p)=z/\TrAt (upd H2 p (.tup [.int 0, .int 1])) z (frT (if tm∈keys then g tm else zero)):=by
      by_cases m:tm∈keys
      . obtain⟨v,e1,e2⟩:=fR m;rw[e1,if_pos m];exact⟨v,rfl,e2.mono (Kd.of_same sp)⟩
      . rw[cI m,if_neg m];exact⟨_,rfl,aX a8⟩
     rw[ez]
     have gq:Gf (1+Su.cnt tm ds*E1) (if tm∈keys then g tm else zero):=by
      split
      . rename_i m;exact b.gf tm m
      . exact Gf.one (by omega)
     have rq:rv (if tm∈keys then g tm else zero)=if tm∈keys then rv (g tm)else 0:=by
      split
      . rfl
      . exact rv_zero
     generalize upd H2 p (.tup [.int 0, .int 1])=H3 at sp bg ea hz a1 aC ⊢;generalize (if tm∈keys then g tm else zero)=q at gq rq hz;refine⟨_,rfl,_,rfl, .ref rf, .ref bR,fr,kk.2,e,m,rfl,aX (a1 _ _ fC),aX (a1 _ _ f3),d9,gK,by omega,fun y H4 nw s4 hy gl fh ee=>?_⟩
     refine⟨z,y,q,nw,1+Su.cnt tm ds*E1,e+m,rfl,hz.mono (Kd.of_same s4),hy,gq,ee,by have:=b8 _ e9;rw[Nat.succ_mul]at this;omega,fun y2 H5 nv s5 e4 f4 fv e0=>?_⟩
     have bb:=bg.same (s4.trans s5);have eP:=a1.trans (s4.trans s5);have a5:=aC.mono (Kd.of_same (s4.trans s5));obtain⟨bi,cb,d8⟩:=bb.da.ex;have gn:bi.length=keys.length:=Paired.length d8;have gs:=b.len;refine⟨_,rfl,_,rfl,D,bt,ktL tm,bi,rfl,rfl,cb,key_tm d a2 a5,by omega,?_⟩
     refine⟨aD nD eP,addK keys tm,setG g tm nv,_,_,rfl,⟨bb.da.put d a2 a5 e4 cb (fun _=>d8),?_,fun t m'=>?_,?_⟩⟩
     . refine b.sd.add (p:=scale kk.2 (tm,fr)) f4 ?_;show rv nv=(if tm∈keys then rv (g tm)else 0)+rv (fc fr kk.2);rw[fv,fh,rq,gN cp er]
     . unfold setG;by_cases z':t=tm
       . rw[if_pos z',z',ec];have:1+(Su.cnt tm ds+1)*E1=1+Su.cnt tm ds*E1+(e+m)+1:=by rw[Nat.succ_mul];omega
         rw[this];exact e0
       . rw[if_neg z']
         have mt:t∈keys:=by
          unfold addK at m';split at m'
          . exact m'
          . rcases A9.mp m' with m'|m'
            . exact m'
            . exact absurd (A8.mp m') z'
         refine(b.gf t mt).mono ?_;have:Su.cnt t ds<=Su.cnt t (ds++ [scale kk.2 (tm,fr)]):=by rw[gg];omega
         have:=Ap E1 this;omega
     . rw[A6,List.length_singleton];unfold addK;split
       . omega
       . rw[A6,List.length_singleton];omega
   . clear b n keys g v4 v5 v2 v3;intro σ H2 z_;refine hZq fun q_ e_=>?_;obtain⟨n,keys,g,v4,v5,rfl,b⟩:=z_;subst e_;rw[xl,A3]at b;refine⟨n,keys,g,_,_,_,_,rfl,?_⟩;rw[f2,iZ];show Ds _ _ _ _ _ (bn (ks.take i)++(kk.1.map (scale kk.2)++ [])) _ _ _;rw[AH];exact b
 . intro σ H1 z_;refine hZq fun q_ e_=>?_;obtain⟨n,keys,g,v2,v3,v4,v5,rfl,b⟩:=z_;rw[wl,A3]at b;have fl:=fz a3;have fb:ks.length*T.length<=8*5:=AF kl tl;have f5:=b.len;have cn:∀t,Su.cnt t (bn ks)<=ks.length:=fun t=>fA t a3;have gk:∀t∈keys,Gq (1+ks.length*E1) (t,g t):=fun t m=>⟨(b.da.ty t m).1,(b.da.ty t m).2,(b.gf t m).mono (by have:=Ap E1 (cn t);show 1+_<=_;omega),b.sd.sh t m⟩
   obtain⟨kvs,dj,pr⟩:=b.da.ex;subst e_;have el:kvs.length=keys.length:=Paired.length pr
   try dsimp only
   refine pU ?_;refine bV rfl ?_;refine⟨_,rfl,D,kvs,rfl,rfl,dj,fun vw eB=>?_⟩;have sv:=aa (o:=iw vw D) eB;have bB:=dj.kd (Kd.of_same sv) (sv _ _ dj.at_);have d7:=en_mono (Kd.of_same sv) pr;have db:=a8 (H:=H1) (a:=vw) (o:=iw vw D);have bC:=n.trans sv;generalize upd H1 vw (iw vw D)=H2 at sv bB d7 db bC ⊢;refine⟨vw,D,kvs,rfl,db,bB,fun ob D2 bw=>?_⟩;have cm:Kd H2 (upd H2 D (.frz ob (dJ P w D kvs))):=Kd.updJ bB.at_;have bI:Same H (upd H2 D (.frz ob (dJ P w D kvs))):=aD nD bC;have c2:=en_mono cm d7;have bY:=a8 (H:=H2) (a:=D) (o:= .frz ob (dJ P w D kvs));generalize upd H2 D (.frz ob (dJ P w D kvs))=H3 at cm bI c2 bY bw ⊢;refine l9 (fun i acc H'=>Same H3 H'/\H' D2=some (.lst acc)/\TrsAt H' acc ((outP g (keys.take i)).map prT)) ⟨aa bw,a8,by rw[Ar];exact .nil⟩ (fun i acc H' p=>p.1 _ _ bY) ?_ ?_
   . rintro i Tt x y acc H4 hi ex ⟨s4,a4,hA⟩ nT;rw[zm]at hi;refine hZq fun q_ e_=>?_
     obtain⟨⟨ek,eb,ev⟩,f1,eT⟩:∃en,kvs[i]?=some en/\(V.ref en.2.1,en.2.2)=(x,y):=by
      rw[zr]at ex;obtain⟨en,e1,e2⟩:=zy.mp ex;exact⟨en,e1,e2⟩
     subst e_;cases eT;refine hZq fun q_ e_=>?_;obtain⟨t,et,e1,e2,e3⟩:=eD c2 f1;subst e_;dsimp only at e1 e2 e3 nT ⊢;obtain⟨aT,dr,d2⟩:=bS e3;subst dr;have mt:=zw et;have eo:i < keys.length:=(zv.mp et).1;have sT:=aa (o:= .tup [.ref eb, .ref aT]) nT;have kT:=(Kd.of_same s4).trans (Kd.of_same sT);have hv:=e3.mono kT;have d3:=sT _ _ (s4 _ _ d2);have dH:=a8 (H:=H4) (a:=Tt) (o:= .tup [.ref eb, .ref aT]);have d4:=s4.trans sT;have a7:=sT _ _ a4;have b4:=hA.mono (Kd.of_same sT);have ey:=e2.mono kT;have eL:Tt≠D2:=fun z=>by rw[z,a4]at nT;cases nT
     generalize upd H4 Tt (.tup [.ref eb, .ref aT])=H5 at*;have al:=hA.len;rw[zm]at al
     have gb:(outP g (keys.take i)).length<=keys.length:=by
      unfold outP;rw[zm];refine zK (Aa _ _) ?_;rw[A7];omega
     refine⟨_,rfl,Tt,_,1, .ref aT,rfl,rfl,SqT.of dH,rfl,two,fun z nz=>?_⟩;have sz:=aa (o:= .tup [.int 0, .int 1]) nz;have hz:=a8 (H:=H5) (a:=z) (o:= .tup [.int 0, .int 1]);refine⟨aT,z,(g t).1,(g t).2,0,1,rfl,rfl,SqT.of (sz _ _ d3),SqT.of hz,_,rfl,?_⟩;rw[zd (b.sd.sh t mt)]
     have ef:outP g (keys.take (i+1))=outP g (keys.take i)++(if decide ((g t).1≠0)=true then[(t,g t)]else[]):=by
      unfold outP;rw[aq et,Ai,zQ,List.filter_cons];split<;>rfl
     have kz:=Kd.of_same sz;refine ite2 (fun y=>?_) (fun y=>CompS.mk (by rw[zm];exact hi) ⟨d4.trans sz,sz _ _ a7,?_⟩)
     . have bF:=sz _ _ a7;have kd:=kz.trans (Kd.upd (ys:=acc++ [.ref Tt]) bF);refine⟨_,rfl,CompN.mk (by rw[zm];exact hi) (by omega) bF ⟨aD bw (d4.trans sz),a8,?_⟩⟩
       rw[ef,if_pos y,zQ];exact TrsAt.app (.cons (bP ((ae eL).trans (sz _ _ dH)) (ey.mono kd) (hv.mono kd)) .nil) (b4.mono kd)
     . rw[ef,if_neg y,AH];exact b4.mono kz
   . rintro acc H4 ⟨s4,a4,hA⟩;rw[zm,el,A3]at hA
     have ol:(outP g keys).length<=keys.length:=by
      unfold outP;rw[zm];exact Aa _ _
     have l:∀t∈(outP g keys).map prT,Ty .pr t/\t.depth<=8:=fun t m=>by
      refine hZq fun q_ e_=>?_;obtain⟨p,mp,rfl⟩:=zM.mp m;unfold outP at mp;obtain⟨t,mt,rfl⟩:=zM.mp mp;subst e_;exact(gk t (Ag.mp mt).1).pr
     refine⟨D2,acc,_,rfl,a4,hA,by rw[zm];omega,fun t m=>⟨vV (.inr (l t m).1),fU (l t m).1,by have:=(l t m).2;omega⟩,fun t m u mu=>pO 30 (by have:=(l t m).2;omega) (l t m).1 (l u mu).1,fun S ws' gr nS pm bx em=>?_⟩
     obtain⟨qs,rfl,pq⟩:=gW pm rfl;have sS:=aa (o:= .lst ws') nS;have c3:=b.sd.canP b.da.nd (fun t m=>(b.da.ty t m).1) pq fun i j p q fa e1 e2=>em i j _ _ fa (by rw[zr,e1];rfl) (by rw[zr,e2];rfl)
     refine⟨S,ws',rfl, .inl ⟨SqL.of a8,fun p np=>?_⟩⟩;have sp:=aa (o:= .tup ws') np;have eu:=bx.mono (Kd.of_same (sS.trans sp));have b7:=s4.trans (sS.trans sp);refine k p qs _ (bI.trans b7) (iu a8 eu) c3 (fun u m=>?_);have m:=pq.mem_iff.mp m;unfold outP at m;obtain⟨t,mt,rfl⟩:=zM.mp m;exact gk t (Ag.mp mt).1
abbrev tN(x:String):Tr:= .tup [.str (Str.ofString "name"), .str (Str.ofString x)]
abbrev tC'(f:String)(ts:List Tr):Tr:= .tup [.str (Str.ofString "call"), .str (Str.ofString f), .tup ts]
def TQ:List Tr:= [tN "x",tC' "f" [tN "x"],tN "y",tN "zz"]
theorem cM:∀t∈TQ,Ty .tm t/\t.depth<=7:=by
 intro t m;simp only[TQ,zJ,Ab,or_false]at m;rcases m with rfl|rfl|rfl|rfl
 . exact⟨.nm _,by simp[Tr.depth,Trs.depth]⟩
 . exact⟨.ap _ _ (by decide) (by simp only[zJ,Ab,or_false];rintro t rfl;exact .nm _),by simp[Tr.depth,Trs.depth]⟩
 . exact⟨.nm _,by simp[Tr.depth,Trs.depth]⟩
 . exact⟨.nm _,by simp[Tr.depth,Trs.depth]⟩
theorem TQ_nd:TQ.Nodup:=by
 have cl:∀ {x y:String},(Str.ofString x).cps.toList≠(Str.ofString y).cps.toList->Str.ofString x≠Str.ofString y:=fun h e=>h (by rw[e])
 have h1:Str.ofString "x"≠Str.ofString "y":=cl (by decide +kernel)
 have h2:Str.ofString "x"≠Str.ofString "zz":=cl (by decide +kernel)
 have h3:Str.ofString "y"≠Str.ofString "zz":=cl (by decide +kernel)
 simp[TQ,h1,h2,h3]
theorem yo{qs ps:List Pq}(pm:qs.Perm ps)(nd:(ps.map (·.1)).Nodup)(ty:∀p∈ps,Ty .tm p.1)(hr:∀(i j:Nat) (p q:Pq),i<=j->qs[i]?=some p->qs[j]?=some q->ltT (prT q) (prT p)=false):Asc qs:=by
 have a:(qs.map (·.1)).Nodup:=by
  rw[(pm.map (·.1)).nodup_iff];exact nd
 unfold Asc;rw[An];intro i j hi b c;have le:=nY (hr i j _ _ (by omega) (zo hi) (zo b))
 refine we le ?_
 cases q:eqT (qs[i]).1 (qs[j]).1 with
 |false=>rfl
 |true=>
  have e:=vW (ty _ (pm.mem_iff.mp (A4 hi))) (ty _ (pm.mem_iff.mp (A4 b))) q;have n:=Al.mp a;rw[An]at n;exact absurd (by rw[List.getElem_map,List.getElem_map];exact e) (n i j (by rw[zm];exact hi) (by rw[zm];exact b) c)
structure Sx (B:Nat) (f:Fr):Prop where
 sh:Sh f
 z:∃z:Int,(z:Rat)=rv f*6/\z.natAbs<=B
theorem Sx.mono{B C:Nat}{f:Fr}(h:Sx B f)(hb:B<=C):Sx C f:=⟨h.sh,by
 obtain⟨z,a,b⟩:=h.z
 exact⟨z,a,zK b hb⟩⟩
theorem Sx.bd{B:Nat}{f:Fr}(h:Sx B f):f.2.natAbs<=6/\f.1.natAbs<=B:=by
 obtain⟨⟨f0,j⟩,z,e,k⟩:=h;have n:=cL f0
 have c:z*f.2=f.1*6:=by
  have:((z*f.2:Int):Rat)=((f.1*6:Int):Rat):=by
   rw[Rat.intCast_mul,Rat.intCast_mul,e];unfold rv;rw[Rat.div_def];show _=(f.1:Rat)*6;grind
  exact_mod_cast this
 have a:=congrArg Int.natAbs c;rw[Ac,Ac]at a;have g:(6:Int).natAbs=6:=rfl;rw[g]at a
 have i:Nat.Coprime f.2.natAbs f.1.natAbs:=by
  unfold Nat.Coprime;rw[Nat.gcd_comm];exact j
 have d:f.2.natAbs∣6:=i.dvd_of_dvd_mul_left ⟨z.natAbs,by rw[<-a,Nat.mul_comm]⟩
 have b:f.2.natAbs<=6:=Nat.le_of_dvd (by decide) d
 refine⟨b,?_⟩;have:z.natAbs*f.2.natAbs<=z.natAbs*6:=Nat.mul_le_mul_left _ b;omega
theorem Sx.gf{B:Nat}{f:Fr}(h:Sx B f)(hB:B < 2^12):Gf 12 f:=by
 obtain⟨a,b⟩:=h.bd;exact⟨h.sh.1,zZ b hB,zZ a (by decide)⟩
theorem wF{t b:Int}(hb:b=1\/b=2\/b=3)(ht:t.natAbs<=3):Sx 18 (low t b):=by
 have b0:0 < b:=by omega
 refine⟨gL b0,?_⟩;rw[jC b0];rcases hb with rfl|rfl|rfl
 . exact⟨t*6,by rw[Rat.intCast_mul,Rat.div_def];show(t:Rat)*6=t*(1:Rat)⁻¹*6;grind,by omega⟩
 . exact⟨t*3,by rw[Rat.intCast_mul,Rat.div_def];show(t:Rat)*3=t*(2:Rat)⁻¹*6;grind,by omega⟩
 . exact⟨t*2,by rw[Rat.intCast_mul,Rat.div_def];show(t:Rat)*2=t*(3:Rat)⁻¹*6;grind,by omega⟩
theorem gO(t:Int):rv ((t,1):Fr)=(t:Rat):=by
 unfold rv;rw[Rat.div_def];show(t:Rat)*(1:Rat)⁻¹=t;grind
theorem wG{t:Int}(ht:t.natAbs<=3):Sx 18 ((t,1):Fr):=⟨⟨by show(0:Int) < 1;decide,Int.gcd_one_right _⟩,t*6,by rw[gO,Rat.intCast_mul];rfl,by omega⟩
def lvB:Nat->Nat
 |0=>18
 |k+1=>2*lvB k+3
theorem sY(k:Nat):lvB k<=lvB (k+1):=by rw[lvB];omega
theorem i3:∀ {k n:Nat},k<=n->lvB k<=lvB n
 |k,n,h=>by
  induction h with
  |refl=>exact zu _
  |step _ a=>exact zK a (sY _)
theorem xG(k:Nat):18<=lvB k:=i3 (k:=0) (zY k)
structure Gh (B:Nat) (us:List Pq) (m:Fr):Prop where
 asc:Asc us
 mem:∀u∈us,u.1∈TQ
 sx:∀u∈us,Sx B u.2
 lim:Sx B m
theorem Gh.mono{B C:Nat}{us:List Pq}{m:Fr}(h:Gh B us m)(hb:B<=C):Gh C us m:=⟨h.asc,h.mem,fun u a=>(h.sx u a).mono hb,h.lim.mono hb⟩
def Ub(b:Bnd):Prop:=Gh (lvB 7) b.ps b.lim
theorem lQ{B:Nat}{t:Tr}:∀ {ps:List Pq},Asc ps->(∀u∈ps,Sx B u.2)->∃z:Int,(z:Rat)=Su.tot t ps*6/\z.natAbs<=B
 | [],_,_=>⟨0,by show(0:Rat)=0*6;grind,zY _⟩
 |p::r,ha,h=>by
  obtain⟨a,hne⟩:=mQ ha;simp only[Su.tot];by_cases e:p.1=t
  . rw[if_pos e,dB fun q m z=>hne q m (z.trans e.symm),Rat.add_zero];exact(h p zq).z
  . rw[if_neg e,Rat.zero_add];exact lQ a fun u m=>h u (zp _ m)
theorem nB{r:Int}(h:r=0\/r=1):Sh ((-r,1):Fr)/\Gf 2 ((-r,1):Fr):=by
 refine⟨⟨by show(0:Int) < 1;decide,Int.gcd_one_right _⟩,by show(0:Int) < 1;decide,?_,by show(1:Nat) < 2^2;decide⟩
 show(-r).natAbs < 2^2;omega
theorem wx{B:Nat}{ps qs us:List Pq}{r:Int}(hr:r=0\/r=1)(h1:Asc ps)(h2:Asc qs)(s1:∀u∈ps,Sx B u.2)(s2:∀u∈qs,Sx B u.2)(hc:Can (bn [(ps,(-1,1)),(qs,(-r,1))]) us):∀u∈us,Sx (2*B) u.2:=by
 intro u a;refine⟨(hc.sh u a).1,?_⟩;have e:=k6 hc.asc a;rw[hc.eq]at e;simp only[bn,AH]at e;rw[df,dS _ (nB (.inr rfl)).1 fun p m=>(s1 p m).sh,dS _ (nB hr).1 fun p m=>(s2 p m).sh,gO,gO]at e;obtain⟨c,b,b1⟩:=lQ (t:=u.1) h1 s1;obtain⟨d,f,b2⟩:=lQ (t:=u.1) h2 s2;refine⟨-c+d* -r,?_,?_⟩
 . rw[<-e,Rat.intCast_add,Rat.intCast_neg,Rat.intCast_mul,b,f];have m1:(((-1:Int)):Rat)= -1:=rfl;rw[m1];grind
 . rcases hr with rfl|rfl<;>omega
def gH(K:PySem.W.Frag):Sp:=fun vs H Q _=>∃(a:Addr) (ns:List Int) (l:Addr) (ws:List V) (n:Nat),vs= [.ref a, .ref l]/\SqL K H a (ns.map V.int)/\ns.length<=63/\H l=some (.lst ws)/\TrsAt H ws (TQ.take n)/\1<=n/\n<=4/\
 ∀(lb:Addr) (bvs:List V) (bs:List Bnd) (H':Hp),Same H H'->H lb=none->H' lb=some (.lst bvs)->TrsAt H' bvs (bs.map bdT)->(∀b∈bs,Ub b)->1<=bs.length->bs.length<=8->Q (.ref lb) H'
noncomputable def nBo:List Str:= ["_law_script","_law_terms","_law_bounds_here","_law_k","_law_pairs","_law_i","_law_base","_law_share","_law_whole","_law_most","_law_way","_law_first","_law_second","_law_many"]
theorem scBo:FnScope nBo ["_law_script","_law_terms"] (ag jz):= .of
theorem oV{f:Addr}{fd:FuncData}(F:Fun K "_law_bounds" "_law_bounds" jz f fd)(B:Blt mg)(zD:Cl P w K mg base 1 "_law_draw" ["_law_script","_law_k","_law_many"] (jt K))(zL:Cl P w K mg base 1 "_law_least" ["_law_top","_law_bottom"] kr)(zT:Cl P w K mg base 2 "_law_times" ["_law_one","_law_other"] cX)(zP:Cl P w K mg base 2 "_law_plus" ["_law_one","_law_other"] dW)(zG:Cl P w K mg base 3 "_law_together" ["_law_parts"] n9):FnOk P w K mg base CX0 4 f fd ["_law_script","_law_terms"] (gH K):=by
 refine F.okb scBo fun vs H Q E h=>?_;refine hZq fun q_ e_=>?_;obtain⟨a,ns,l,ws,n,rfl,hS,e,hl,hT,n1,n4,k⟩:=h;subst e_;refine⟨rfl,fun jn A outer s hr=>?_⟩;have fv:=hr.units;have hf:=tL hr;have d:Room 1 _:=hr.mono (by decide)
 have b8:Room 2 _:=hr.mono (by decide)
 have e8:Room 3 _:=hr;have eo:=zZ (AB (show 60<=64 by decide) _) fv
 have nd:=scBo.nd
 refine⟨_,ad (psA 2 nd (bX a9))
  (ad (bK PassesOwn.never rfl (cA rfl B.ra (a0 (am aY ac (aj zD d (a0 (pv 0) (a0 ac (a0 ac a9))))) a9)) (pgA 3 nd)
   (ad (psA 4 nd (bX a9))
   (ad (bK PassesOwn.never rfl (cA rfl B.ra (a0 (aA ax rfl B.le PySem.boot_len (a0 (pv 1) a9)) a9)) (pgA 5 nd)
    (ad (psA 6 nd (am aY (am aY ac (am fm ac (pv 3))) (am fm ac (pv 5))))
    (ad (psA 7 nd (aj zL d (a0 (am dL (aj zD d (a0 (pv 0) (a0 (pv 6) (a0 ac a9)))) ac) (a0 (am aY ac (aj zD d (a0 (pv 0) (a0 (am aY (pv 6) ac) (a0 ac a9))))) a9))))
    (af (bh (PW.pt (fi (aw dc (aj zD d (a0 (pv 0) (a0 (am aY (pv 6) ac) (a0 ac a9)))) ac (ay _)) (dX (aw (sJ hf) (pv 7) (aQ (a0 ac (a0 ac a9))) (ay _)))))
     (af (dg (iO PySem.F.plainAttrs_list PySem.F.slot_list_append PySem.F.type_list_append de (pv 4) (a0 (aQ (a0 (ak ao (pv 1) (pv 5) fun _ _=>rfl) (a0 (pv 7) a9))) a9)))) aI)))))
   (ad (psA 8 nd (bp eC rfl B.tu PyProof.Rows.boot_tuple (a0 (aA (fQ eo) rfl B.so PyProof.Rows.boot_sorted (a0 (pv 4) a9)) a9)))
   (ad (psA 9 nd (aQ (a0 (am dL (aj zD d (a0 (pv 0) (a0 (am aY ac (pv 3)) (a0 ac a9)))) ac) (a0 ac a9))))
   (ad (psA 10 nd (aj zD d (a0 (pv 0) (a0 (am aY ac (pv 3)) (a0 ac a9)))))
   (ad (bh (PW.pt (fi (aw dc (pv 3) ac (ay _)) (dX (aw iQ (pv 10) ac (ay _)))))
    (ad (psA 11 nd (ak ao (pv 2) (aj zD d (a0 (pv 0) (a0 (am aY ac (pv 3)) (a0 (pv 3) a9)))) fun _ _=>rfl))
    (ad (psA 12 nd (ak ao (pv 2) (aj zD d (a0 (pv 0) (a0 (am aY ac (pv 3)) (a0 (pv 3) a9)))) fun _ _=>rfl))
    (ad (psA 13 nd (aQ (a0 (c9 bu (aj zD d (a0 (pv 0) (a0 (am aY ac (pv 3)) (a0 ac a9))))) (a0 ac a9))))
    (ad (psA 8 nd (aj zG e8 (a0 (bX (a0 (aQ (a0 (ak aE (pv 11) ac fun _ _=>rfl) (a0 (aQ (a0 (c9 bu ac) (a0 ac a9))) a9))) (a0 (aQ (a0 (ak aE (pv 12) ac fun _ _=>rfl) (a0 (pv 13) a9))) a9))) a9)))
    (ad (psA 9 nd (aj zP b8 (a0 (aj zT b8 (a0 (ak aE (pv 11) ac fun _ _=>rfl) (a0 (aQ (a0 (c9 bu ac) (a0 ac a9))) a9))) (a0 (aj zT b8 (a0 (ak aE (pv 12) ac fun _ _=>rfl) (a0 (pv 13) a9))) a9))))
    (af (psA 9 nd (aj zP b8 (a0 (pv 9) (a0 (aQ (a0 (am dL (aj zD d (a0 (pv 0) (a0 (am aY ac (pv 3)) (a0 ac a9)))) ac) (a0 ac a9))) a9))))))))))
    aI)
   (ad (bh (PW.pt (fi (aw dc (pv 3) ac (ay _)) (dX (aw dy (pv 10) ac (ay _)))))
    (ad (psA 8 nd (ak aE (ak ao (pv 2) (am dL (pv 3) ac) fun _ _=>rfl) ac fun _ _=>rfl))
    (af (psA 9 nd (ak aE (ak ao (pv 2) (am dL (pv 3) ac) fun _ _=>rfl) ac fun _ _=>rfl)))) aI)
   (af (dg (iO PySem.F.plainAttrs_list PySem.F.slot_list_append PySem.F.type_list_append de (pv 2) (a0 (aQ (a0 (pv 8) (a0 (pv 9) (a0 (dY dy (aj zD d (a0 (pv 0) (a0 (am aY ac (pv 3)) (a0 ac a9)))) ac (ay _)) a9)))) a9))))))))))))
  (af (ar (pv 2)))),?_⟩
 have hM:(20000:Nat)<=sizeLine:=by decide +kernel
 have wl:=hT.len;have b6:TQ.length=4:=rfl;rw[A7,b6]at wl;refine⟨by show 0<=sizeLine;decide,fun lb dI=>?_⟩
 have s0:=aa (o:= .lst []) dI;have c4:=a8 (H:=H) (a:=lb) (o:= .lst []);generalize upd H lb (.lst [])=H0 at s0 c4 ⊢;refine ah ?_
 try dsimp only
 refine⟨_,rfl,a,ns,4,8,rfl,SqL.same s0 hS,e,by decide,by decide,by decide,fun r0 il kb _=>?_⟩
 obtain⟨nb,rfl⟩:∃nb:Nat,r0=(nb:Int):=⟨r0.toNat,by omega⟩
 refine⟨1,(nb:Int),rfl,rfl,1+(nb:Int),rfl,by omega,by omega,?_⟩
 rw[show(1+(nb:Int)).toNat=nb+1 by omega]
 refine e6 (n:=nb+1) (fun i σ H'=>Same H H'/\∃(bvs:List V) (bs:List Bnd) (x3 x4 x5 x6 x7 x8 x9 a7 a5 a6 y:Option V),σ= [some (.ref a),some (.ref l),some (.ref lb),x3,x4,x5,x6,x7,x8,x9,a7,a5,a6,y]/\H' lb=some (.lst bvs)/\TrsAt H' bvs (bs.map bdT)/\(∀b∈bs,Gh (lvB (i - 1)) b.ps b.lim)/\bs.length=i)
  ⟨s0,[],[],none,none,none,none,none,none,none,none,none,none,none,rfl,c4, .nil,(fun b m=>by cases m),rfl⟩ ?_ ?_
 . intro i σ H1 hi z_;refine hZq fun q_ e_=>?_;obtain⟨sH,bvs,bs,x3,x4,x5,x6,x7,x8,x9,a7,a5,a6,y,rfl,bg,hB,hG,bl⟩:=z_;subst e_;have i7:i<=7:=by omega
   have bF:=SqL.same sH hS;rw[AD];refine ah ?_
   try dsimp only
   refine⟨by show 0<=sizeLine;decide,fun D nD=>?_⟩
   have sD:=aa (o:= .lst []) nD;have d7:=a8 (H:=H1) (a:=D) (o:= .lst []);generalize upd H1 D (.lst [])=H2 at sD d7 ⊢;refine ah ?_
   try dsimp only
   refine⟨_,rfl,l,ws,rfl, .inl (SqL.of (sD _ _ (sH _ _ hl))),_,rfl,by omega,by omega,?_⟩
   rw[AA,wl]
   refine e6 (n:=min n 4) (fun j σ H'=>Same H1 H'/\∃(acc:List V) (ps:List Pq) (v5 v6 v7:Option V),σ= [some (.ref a),some (.ref l),some (.ref lb),some (.int (i:Int)),some (.ref D),v5,v6,v7,x8,x9,a7,a5,a6,y]/\H' D=some (.lst acc)/\TrsAt H' acc (ps.map prT)/\(ps.map (·.1)).Sublist (TQ.take j)/\∀p∈ps,Sx 18 p.2)
    ⟨sD,[],[],x5,x6,x7,rfl,d7, .nil,by rw[Ar];exact List.Sublist.refl _,fun p m=>by cases m⟩ ?_ ?_
   . intro j σ H3 hj z_;refine hZq fun q_ e_=>?_;obtain⟨s3,acc,ps,v5,v6,v7,rfl,hD,hA,c,a4⟩:=z_;subst e_;rw[AD];refine ah ?_
     try dsimp only
     have d0:=SqL.same s3 bF;refine⟨_,rfl,20,(i:Int),rfl,rfl, .inl ⟨by decide,by decide⟩,60,20*(i:Int),rfl,rfl,_,rfl,4,(j:Int),rfl,rfl, .inl ⟨by decide,by decide⟩,60+20*(i:Int),4*(j:Int),rfl,rfl,?_⟩
     refine ah ?_
     try dsimp only
     refine⟨_,rfl,_,rfl,a,ns,60+20*(i:Int)+4*(j:Int),7,rfl,d0,e,by omega,by omega,by decide,fun r1 hR ih _=>?_⟩
     refine⟨r1,3,rfl,rfl,_,rfl,_,rfl,60+20*(i:Int)+4*(j:Int),1,rfl,rfl,a,ns,60+20*(i:Int)+4*(j:Int)+1,3,rfl,d0,e,by omega,by omega,by decide,fun r2 kq h4 _=>?_⟩
     refine⟨1,r2,rfl,rfl,r1 - 3,1+r2,rfl,by omega,e7 (by show(1+r2).natAbs < _;exact zZ (show(1+r2).natAbs<=3 by omega) (by decide +kernel)) (by omega),fun rs H4 gI e4=>?_⟩
     have s4:Same H3 H4:=by rw[e4];exact aa gI
     have db:H4 rs=some (.tup [.int (low (r1 - 3) (1+r2)).1, .int (low (r1 - 3) (1+r2)).2]):=by rw[e4];exact a8
     have d8:Sx 18 (low (r1 - 3) (1+r2)):=wF (by omega) (by omega)
     clear e4;generalize low (r1 - 3) (1+r2)=fr at db d8;have gr:=SqL.same s4 d0;refine ah ?_
     try dsimp only
     have gu:=s3.trans s4;have al:=hA.len;rw[zm]at al;have sl:=c.length_le;rw[zm,A7,b6]at sl
     have cI:∀H',Same H4 H'->Same H1 H'/\∃(acc:List V) (ps:List Pq) (v5 v6 v7:Option V),[some (.ref a),some (.ref l),some (.ref lb),some (.int (i:Int)),some (.ref D),some (.int (j:Int)),some (.int (60+20*(i:Int)+4*(j:Int))),some (.ref rs),x8,x9,a7,a5,a6,y]= [some (.ref a),some (.ref l),some (.ref lb),some (.int (i:Int)),some (.ref D),v5,v6,v7,x8,x9,a7,a5,a6,y]/\H' D=some (.lst acc)/\TrsAt H' acc (ps.map prT)/\(ps.map (·.1)).Sublist (TQ.take (j+1))/\∀p∈ps,Sx 18 p.2:=
      fun H' s'=>⟨gu.trans s',acc,ps,_,_,_,rfl,s' _ _ (s4 _ _ hD),hA.mono (Kd.of_same (s4.trans s')),c.trans (List.take_sublist_take_left (by omega)),a4⟩
     refine⟨_,rfl,_,rfl,60+20*(i:Int)+4*(j:Int),2,rfl,rfl,a,ns,60+20*(i:Int)+4*(j:Int)+2,3,rfl,gr,e,by omega,by omega,by decide,fun r3 _ _ _=>?_⟩
     refine⟨r3,0,rfl,rfl,_,rfl,?_⟩;refine ite2 (fun _=>?_) (fun _=>cI H4 (Same.refl _));refine⟨_,rfl,two,fun z nz=>?_⟩;have sz:=aa (o:= .tup [.int 0, .int 1]) nz;refine⟨rs,z,fr.1,fr.2,0,1,rfl,rfl,SqT.of (sz _ _ db),SqT.of a8,_,rfl,?_⟩;have s5:=s4.trans sz;generalize upd H4 z (.tup [.int 0, .int 1])=H5 at sz s5 ⊢;refine ite2 (fun _=>?_) (fun _=>cI H5 sz);have hL:j < (TQ.take n).length:=by rw[A7,b6];omega
     obtain⟨xt,ext,ew⟩:=(hT.mono (Kd.of_same (sH.trans (s3.trans s5)))).get (i:=j) (zo hL);rw[List.getElem_take]at ew;have f6:=(sH.trans (s3.trans s5)) _ _ hl;have dr:=s5 _ _ hD;refine⟨_,rfl, .inl ⟨rfl,_,SqL.of dr⟩,_,rfl,_,rfl,l,ws,(j:Int),xt,rfl,rfl,SqL.of f6,aB ext,_,rfl,two,fun p np=>?_⟩;have sp:=aa (o:= .tup [xt, .ref rs]) np;have em:=sp _ _ dr;refine⟨D,acc,_,rfl,rfl,em,by omega,?_⟩
     have kd:=(Kd.of_same sp).trans (Kd.upd (ys:=acc++ [.ref p]) em);have g4:p≠D:=fun z=>by rw[z,dr]at np;cases np
     refine⟨aD nD (s3.trans (s5.trans sp)),acc++ [.ref p],ps++ [(TQ[j],fr)],_,_,_,rfl,a8,?_,?_,fun q mq=>?_⟩
     . rw[zQ];exact TrsAt.app (.cons (bP (a:=TQ[j]) (b:=frT fr) ((ae g4).trans a8) (ew.mono kd) ((aX (sz _ _ db)).mono kd)) .nil) ((hA.mono (Kd.of_same s5)).mono kd)
     . rw[zQ,aq (zo (show j < TQ.length by rw[b6];omega))]
       exact c.append (List.Sublist.refl _)
     . rcases A9.mp mq with mq|mq
       . exact a4 q mq
       . rw[A8.mp mq];exact d8
   . intro σ H3 z_;refine hZq fun q_ e_=>?_;obtain⟨s3,acc,ps,v5,v6,v7,rfl,hD,hA,c,a4⟩:=z_;subst e_;refine bU ?_
     try dsimp only
     have sl:=c.length_le;rw[zm,A7,b6]at sl;have bw:∀p∈ps,p.1∈TQ:=fun p m=>AN (c.subset (List.mem_map_of_mem (f:=(·.1)) m));have gB:(ps.map (·.1)).Nodup:=c.nodup (TQ_nd.sublist (List.take_sublist _ _));have dV:∀p∈ps,Gq 12 p:=fun p m=>⟨(cM _ (bw p m)).1,(cM _ (bw p m)).2,(a4 p m).gf (by decide),(a4 p m).sh⟩
     have aC:∀t∈ps.map prT,Ty .pr t/\t.depth<=8:=fun t m=>by
      obtain⟨p,mp,rfl⟩:=zM.mp m;exact(dV p mp).pr
     refine⟨_,rfl,D,acc,_,rfl,hD,hA,by rw[zm];omega,fun t m=>⟨vV (.inr (aC t m).1),fU (aC t m).1,by have:=(aC t m).2;omega⟩,fun t m u mu=>pO 30 (by have:=(aC t m).2;omega) (aC t m).1 (aC u mu).1,fun S ws' i6 nS pm eu ey=>?_⟩
     obtain⟨qs,rfl,pq⟩:=gW pm rfl;have sS:=aa (o:= .lst ws') nS;refine⟨S,ws',rfl, .inl ⟨SqL.of a8,fun p np=>?_⟩⟩;have sp:=aa (o:= .tup ws') np;have d2:TrAt (upd (upd H3 S (.lst ws')) p (.tup ws')) (.ref p) (.tup (qs.map prT)):=iu a8 (eu.mono (Kd.of_same (sS.trans sp)));have cn:=s3.trans (sS.trans sp);have er:Asc qs:=yo pq gB (fun p m=>(dV p m).ty) fun i j p q fh e1 e2=>ey i j _ _ fh (by rw[zr,e1];rfl) (by rw[zr,e2];rfl)
     have ee:∀u∈qs,u.1∈TQ:=fun u m=>bw u (pq.mem_iff.mp m);have hC:∀u∈qs,Sx 18 u.2:=fun u m=>a4 u (pq.mem_iff.mp m);generalize upd (upd H3 S (.lst ws')) p (.tup ws')=H4 at d2 cn ⊢;clear hA hD eu aC dV a4 c ey pm pq;refine ah ?_
     try dsimp only
     refine⟨_,rfl,_,rfl,260,(i:Int),rfl,rfl,a,ns,260+(i:Int),7,rfl,SqL.same cn bF,e,by omega,by omega,by decide,fun r4 kl h7 _=>?_⟩
     refine⟨r4,3,rfl,rfl,two,fun rm hK=>?_⟩;have t5:=aa (o:= .tup [.int (r4 - 3), .int 1]) hK;have ez:=a8 (H:=H4) (a:=rm) (o:= .tup [.int (r4 - 3), .int 1]);have a3:=cn.trans t5;have eg:=d2.mono (Kd.of_same t5);generalize upd H4 rm (.tup [.int (r4 - 3), .int 1])=H5 at ez a3 eg ⊢;clear cn d2 t5;refine ah ?_
     try dsimp only
     refine⟨_,rfl,_,rfl,280,(i:Int),rfl,rfl,a,ns,280+(i:Int),6,rfl,SqL.same a3 bF,e,by omega,by omega,by decide,fun cb _ _ _=>?_⟩
     refine ah ?_
     try dsimp only
     have hE:Gh (lvB i) qs (r4 - 3,1):=(Gh.mk er ee hC (wG (by omega))).mono (xG i)
     let R:L2.St->Hp->Prop:=fun σ' H'=>Same H1 H'/\∃(xw:V) (r:Addr) (us:List Pq) (mm:Fr) (bR bi bx:Option V),σ'= [some (.ref a),some (.ref l),some (.ref lb),some (.int (i:Int)),some (.ref D),v5,v6,v7,some xw,some (.ref r),some (.int cb),bR,bi,bx]/\TrAt H' xw (.tup (us.map prT))/\H' r=some (.tup [.int mm.1, .int mm.2])/\Gh (lvB i) us mm
     have fB:=hB.len;rw[zm]at fB;have r0:R [some (.ref a),some (.ref l),some (.ref lb),some (.int (i:Int)),some (.ref D),v5,v6,v7,some (.ref p),some (.ref rm),some (.int cb),a5,a6,y] H5:=⟨a3, .ref p,rm,qs,(r4 - 3,1),_,_,_,rfl,eg,ez,hE⟩;refine cu R ?_ fun nx x=>?_;rotate_left
     . refine⟨_,rfl,(i:Int),0,rfl,rfl,_,rfl,?_⟩;refine ite2 (fun y1=>?_) (fun _=>iteF (x _ _ r0))
       have ek:0 < i:=by
        have:=of_decide_eq_true y1;omega
       refine⟨_,rfl,cb,3,rfl,rfl,_,rfl,?_⟩;refine ite2 (fun _=>?_) (fun _=>x _ _ r0);have cp:=SqL.same a3 bF;have eL:=hB.mono (Kd.of_same a3);have c3:=a3 _ _ bg;refine⟨_,rfl,_,rfl,_,rfl,300,(i:Int),rfl,rfl,_,rfl,a,ns,300+(i:Int),(i:Int),rfl,cp,e,by omega,by omega,by omega,fun rf h6 js _=>?_⟩
       refine hZq fun q_ e_=>?_;obtain⟨nf,rfl⟩:∃nf:Nat,rf=(nf:Int):=⟨rf.toNat,by omega⟩
       have lf:nf < bs.length:=by omega
       obtain⟨hJ,dl,bT⟩:=eL.get (i:=nf) (t:=bdT bs[nf]) (by rw[zr,zo lf];rfl)
       obtain⟨q1,aT,fM,gl,rfl,b4,bB,bj,_⟩:=c6 bT;subst e_;have v:=hG _ (A4 lf);generalize bs[nf]=b1 at bB bj v bT;refine⟨lb,bvs,(nf:Int), .ref q1,rfl,rfl,SqL.of c3,aB dl,?_⟩;refine ah ?_
       try dsimp only
       refine⟨_,rfl,_,rfl,_,rfl,320,(i:Int),rfl,rfl,_,rfl,a,ns,320+(i:Int),(i:Int),rfl,cp,e,by omega,by omega,by omega,fun rg hY hW _=>?_⟩
       refine hZq fun q_ e_=>?_;obtain⟨ng,rfl⟩:∃ng:Nat,rg=(ng:Int):=⟨rg.toNat,by omega⟩
       have lg:ng < bs.length:=by omega
       obtain⟨ib,gb,eH⟩:=eL.get (i:=ng) (t:=bdT bs[ng]) (by rw[zr,zo lg];rfl)
       obtain⟨q2,cm,iI,hV,rfl,d9,ed,ev,_⟩:=c6 eH;subst e_;have g2:=hG _ (A4 lg);generalize bs[ng]=b2 at ed ev g2 eH;refine⟨lb,bvs,(ng:Int), .ref q2,rfl,rfl,SqL.of c3,aB gb,?_⟩;refine ah ?_
       try dsimp only
       refine⟨_,rfl,_,rfl,340,(i:Int),rfl,rfl,a,ns,340+(i:Int),2,rfl,cp,e,by omega,by omega,by decide,fun r5 hU jl _=>?_⟩
       refine⟨r5,rfl,two,fun q3 eT=>?_⟩;have t3:=aa (o:= .tup [.int (-r5), .int 1]) eT;have d4:=a8 (H:=H5) (a:=q3) (o:= .tup [.int (-r5), .int 1]);generalize upd H5 q3 (.tup [.int (-r5), .int 1])=H6 at t3 d4 ⊢;have d3:r5=0\/r5=1:=by omega
       refine hZq fun q_ e_=>?_;obtain⟨g8,el⟩:=nB d3;obtain⟨gk,ej⟩:=nB (r:=1) (.inr rfl);obtain⟨i',rfl⟩:∃i',i=i'+1:=⟨i - 1,by omega⟩
       subst e_;rw[Nat.add_sub_cancel]at v g2;have lB:lvB i' < 2^12:=zZ (i3 (show i'<=6 by omega)) (by decide)
       have f7:Pt TQ 12 2 (b1.ps,(-1,1)):=⟨v.asc,v.mem,fun u m=>⟨(cM _ (v.mem u m)).1,(cM _ (v.mem u m)).2,(v.sx u m).gf lB,(v.sx u m).sh⟩,gk,ej⟩;have pt2:Pt TQ 12 2 (b2.ps,(-r5,1)):=⟨g2.asc,g2.mem,fun u m=>⟨(cM _ (g2.mem u m)).1,(cM _ (g2.mem u m)).2,(g2.sx u m).gf lB,(g2.sx u m).sh⟩,g8,el⟩;refine ah ?_
       try dsimp only
       refine⟨_,rfl,q1,_,0,aT,rfl,rfl,SqT.of (t3 _ _ b4),rfl,1,rfl,two,fun q4 hI=>?_⟩;have t4:=aa (o:= .tup [.int (-1), .int 1]) hI;refine⟨two,fun q5 gz=>?_⟩;have t5:=aa (o:= .tup [aT, .ref q4]) gz;have dj:TrAt (upd (upd H6 q4 (.tup [.int (-1), .int 1])) q5 (.tup [aT, .ref q4])) (.ref q5) (ptT (b1.ps,(-1,1))):=bP (b:=frT (-1,1)) a8 (bB.mono (Kd.of_same ((t3.trans t4).trans t5))) (aX (t5 _ _ a8));have au:=t4.trans t5;generalize upd (upd H6 q4 (.tup [.int (-1), .int 1])) q5 (.tup [aT, .ref q4])=H7 at au dj ⊢;refine⟨_,rfl,q2,_,0,cm,rfl,rfl,SqT.of ((t3.trans au) _ _ d9),rfl,_,rfl,two,fun q6 f5=>?_⟩;have t6:=aa (o:= .tup [cm, .ref q3]) f5;have dH:TrAt (upd H7 q6 (.tup [cm, .ref q3])) (.ref q6) (ptT (b2.ps,(-r5,1))):=bP (b:=frT (-r5,1)) a8 (ed.mono (Kd.of_same ((t3.trans au).trans t6))) (aX ((au.trans t6) _ _ d4));generalize upd H7 q6 (.tup [cm, .ref q3])=H8 at t6 dH ⊢;refine⟨two,fun q7 eR=>?_⟩;have t7:=aa (o:= .lst [.ref q5, .ref q6]) eR;have ea:=a8 (H:=H8) (a:=q7) (o:= .lst [.ref q5, .ref q6]);have et:TrsAt (upd H8 q7 (.lst [.ref q5, .ref q6])) [.ref q5, .ref q6] (([(b1.ps,(-1,1)),(b2.ps,(-r5,1))]:List Part).map ptT):= .cons (dj.mono (Kd.of_same (t6.trans t7))) (.cons (dH.mono (Kd.of_same t7)) .nil);have eG:=((t3.trans au).trans t6).trans t7;have eP:=(au.trans t6).trans t7;generalize upd H8 q7 (.lst [.ref q5, .ref q6])=H9 at ea et eG eP ⊢;clear t4 t5 au t6 t7 dj dH;refine⟨q7,_,TQ,[(b1.ps,(-1,1)),(b2.ps,(-r5,1))],12,2,rfl,ea,et,fun kx m=>?_,by decide,by show 2<=8;decide,by decide,fun pu us j1 d5 e9 bC _=>?_⟩
       . simp only[zJ,Ab,or_false]at m;rcases m with rfl|rfl
         . exact f7
         . exact pt2
       refine ah ?_
       try dsimp only
       have bY:=eG.trans d5;refine hZq fun q_ e_=>?_;obtain⟨m1,rfl,bI⟩:=bS bj;obtain⟨m2,rfl,ef⟩:=bS ev;subst e_;refine⟨_,rfl,q1,_,1, .ref m1,rfl,rfl,SqT.of (bY _ _ b4),rfl,1,rfl,two,fun q8 fC=>?_⟩;have u1:=aa (o:= .tup [.int (-1), .int 1]) fC;refine⟨.ref m1, .ref q8,b1.lim,(-1,1),12,2,rfl,aX ((bY.trans u1) _ _ bI),aX a8,v.lim.gf lB,ej,by decide,fun z1 h8 f1 u2 fg hP fb g5=>?_⟩
       have bb:=u1.trans u2;refine⟨_,rfl,q2,_,1, .ref m2,rfl,rfl,SqT.of ((bY.trans bb) _ _ d9),rfl,_,rfl,?_⟩;refine⟨.ref m2, .ref q3,b2.lim,(-r5,1),12,2,rfl,aX ((bY.trans bb) _ _ ef),aX ((eP.trans (d5.trans bb)) _ _ d4),g2.lim.gf lB,el,by decide,fun z2 j2 f2 u3 gK hO hH gn=>?_⟩
       refine⟨z1,z2,f1,f2,14,14,rfl,fg.mono (Kd.of_same u3),gK,g5,gn,by decide,fun z3 ia f3 u4 gS hN fa g3=>?_⟩
       refine ah ?_
       try dsimp only
       have ec:=((bY.trans bb).trans u3).trans u4;have hQ:=d5.trans ((bb.trans u3).trans u4);refine⟨_,rfl,_,rfl,_,rfl,360,((i'+1:Nat):Int),rfl,rfl,a,ns,360+((i'+1:Nat):Int),3,rfl,SqL.same ec cp,e,by omega,by omega,by decide,fun r6 jm i0 _=>?_⟩
       refine⟨r6,1,rfl,rfl,two,fun q9 fR=>?_⟩;have u5:=aa (o:= .tup [.int (r6 - 1), .int 2]) fR;have g6:Gf 2 ((r6 - 1,2):Fr):=⟨by show(0:Int) < 2;decide,by show(r6 - 1).natAbs < 2^2;omega,by show(2:Nat) < 2^2;decide⟩
       refine⟨z3, .ref q9,f3,(r6 - 1,2),29,2,rfl,gS.mono (Kd.of_same u5),aX a8,g3,g6,by decide,fun z4 kn f4 u6 e0 eB gs h5=>?_⟩
       obtain⟨r9,rfl,e3⟩:=bS e0;refine ah ?_;refine x _ _ ⟨a3.trans (ec.trans (u5.trans u6)), .ref pu,r9,us,f4,_,_,_,rfl,e9.mono (Kd.of_same (((bb.trans u3).trans u4).trans (u5.trans u6))),e3,bC.asc,fun u m=>?_,fun u m=>((wx d3 v.asc g2.asc v.sx g2.sx bC) u m).mono (by rw[lvB];omega),eB,?_⟩
       . obtain⟨q,mq,eq⟩:=vN bC m;rw[<-eq];simp only[bn,AH]at mq;rcases A9.mp mq with mq|mq
         . obtain⟨q',d6,rfl⟩:=zM.mp mq;exact v.mem q' d6
         . obtain⟨q',d6,rfl⟩:=zM.mp mq;exact g2.mem q' d6
       . refine hZq fun q_ e_=>?_;obtain⟨hg,a1,c1⟩:=v.lim.z;obtain⟨g7,a2,c2⟩:=g2.lim.z;subst e_;refine⟨-hg+g7* -r5+3*(r6 - 1),?_,?_⟩
         . have e2:rv ((r6 - 1,2):Fr)*6=3*((r6 - 1:Int):Rat):=by
            unfold rv;rw[Rat.div_def];show((r6 - 1:Int):Rat)*(2:Rat)⁻¹*6=_;grind
           rw[gs,fa,fb,hH,Rat.add_mul,e2,gO,gO];simp only[Rat.intCast_add,Rat.intCast_neg,Rat.intCast_mul];rw[a1,a2];have m1:(((-1:Int)):Rat)= -1:=rfl;have m3:(((3:Int)):Rat)=3:=rfl;have mo:(((1:Int)):Rat)=1:=rfl;rw[m3];grind
         . rw[lvB];rcases d3 with rfl|rfl<;>omega
     intro σ' H6 z_;refine hZq fun q_ e_=>?_;obtain⟨s6,xw,r,us,mm,bR,bi,bx,rfl,b7,cd,gh⟩:=z_;subst e_;refine cu R ?_ fun nx x=>?_;rotate_left
     . have r1:R [some (.ref a),some (.ref l),some (.ref lb),some (.int (i:Int)),some (.ref D),v5,v6,v7,some xw,some (.ref r),some (.int cb),bR,bi,bx] H6:=⟨s6,xw,r,us,mm,_,_,_,rfl,b7,cd,gh⟩;refine⟨_,rfl,(i:Int),0,rfl,rfl,_,rfl,?_⟩;refine ite2 (fun y1=>?_) (fun _=>iteF (x _ _ r1))
       have ek:0 < i:=by
        have:=of_decide_eq_true y1;omega
       refine⟨_,rfl,rfl,_,rfl,?_⟩;refine ite2 (fun _=>?_) (fun _=>x _ _ r1);have g:=s6 _ _ bg;have lf:i - 1 < bs.length:=by omega
       refine hZq fun q_ e_=>?_;obtain⟨hJ,dl,bT⟩:=(hB.mono (Kd.of_same s6)).get (i:=i - 1) (t:=bdT bs[i - 1]) (by rw[zr,zo lf];rfl)
       obtain⟨q1,aT,fM,gl,rfl,b4,bB,bj,_⟩:=c6 bT;have v:=hG _ (A4 lf);generalize bs[i - 1]=b1 at bB bj v bT;obtain⟨m1,rfl,bI⟩:=bS bj;subst e_
       have eb:atI bvs ((i:Int) - 1)=some (.ref q1):=by
        rw[show(i:Int) - 1=((i - 1:Nat):Int)by omega]
        exact aB dl
       refine⟨_,rfl,_,rfl,(i:Int),1,rfl,rfl,lb,bvs,(i:Int) - 1, .ref q1,rfl,rfl,SqL.of g,eb,q1,_,0,aT,rfl,rfl,SqT.of b4,rfl,?_⟩;refine ah ?_
       try dsimp only
       refine⟨_,rfl,_,rfl,(i:Int),1,rfl,rfl,lb,bvs,(i:Int) - 1, .ref q1,rfl,rfl,SqL.of g,eb,q1,_,1, .ref m1,rfl,rfl,SqT.of b4,rfl,?_⟩;refine ah ?_;exact x _ _ ⟨s6,aT,m1,b1.ps,b1.lim,_,_,_,rfl,bB,bI,v.mono (i3 (by omega))⟩
     clear b7 cd gh s6;clear xw r us mm bR bi bx H6;intro σ' H6 z_;refine hZq fun q_ e_=>?_;obtain⟨s6,xw,r,us,mm,bR,bi,bx,rfl,b7,cd,gh⟩:=z_;subst e_;have g:=s6 _ _ bg;refine⟨_,rfl, .inl ⟨rfl,_,SqL.of g⟩,_,rfl,_,rfl,_,rfl,_,rfl,380,(i:Int),rfl,rfl,a,ns,380+(i:Int),3,rfl,SqL.same s6 bF,e,by omega,by omega,by decide,fun r7 _ _ _=>?_⟩
     refine⟨rfl,by show 3<=sizeLine;decide,fun p np=>?_⟩
     have sp:=aa (o:= .tup [xw, .ref r, .bl (decide (V.int r7=V.int 1))]) np;have c8:=sp _ _ g;refine⟨lb,bvs,_,rfl,rfl,c8,by omega,?_⟩
     have kd:=(Kd.of_same sp).trans (Kd.upd (ys:=bvs++ [.ref p]) c8);have g0:p≠lb:=fun z=>by rw[z,g]at np;cases np
     refine⟨aD dI (sH.trans (s6.trans sp)),bvs++ [.ref p],bs++ [⟨us,mm,decide (V.int r7=V.int 1)⟩],_,_,_,_,_,_,_,_,_,_,_,rfl,a8,?_,fun b mb=>?_,by rw[A6,bl];rfl⟩
     . rw[zQ];refine TrsAt.app (.cons (iu ((ae g0).trans a8) (.cons (b7.mono kd) (.cons ((aX cd).mono kd) (.cons (by unfold TrAt;rfl) .nil)))) .nil) ((hB.mono (Kd.of_same s6)).mono kd)
     . rcases A9.mp mb with mb|mb
       . exact(hG b mb).mono (i3 (by omega))
       . rw[A8.mp mb];exact gh
 . intro σ H1 z_;refine hZq fun q_ e_=>?_;obtain⟨sH,bvs,bs,x3,x4,x5,x6,x7,x8,x9,a7,a5,a6,y,rfl,bg,hB,hG,bl⟩:=z_;subst e_;exact⟨_,rfl,k lb bvs bs H1 sH dI bg hB (fun b m=>(hG b m).mono (i3 (by omega))) (by omega) (by omega)⟩
end
end K44
namespace K44
open PySem L2 Mth Tre Wd Su
theorem jB{p q:Fr}(h1:0 < p.2)(h2:0 < q.2):p.1*q.2 < q.1*p.2↔rv p < rv q:=by
 have h:=yM (p:=q) (q:=p) h2 h1;rw[<-Rat.not_le,<-h];omega
theorem rK{p q:Fr}(h1:0 < p.2)(h2:0 < q.2):p.1*q.2=q.1*p.2↔rv p=rv q:=by
 have a:=jB h1 h2;have b:=jB h2 h1;constructor
 . intro e;have n1:¬rv p < rv q:=fun z=>by have:=a.mpr z;omega
   have n2:¬rv q < rv p:=fun z=>by have:=b.mpr z;omega
   exact Rat.le_antisymm (Rat.not_lt.mp n2) (Rat.not_lt.mp n1)
 . intro e;have n1:¬p.1*q.2 < q.1*p.2:=fun z=>by have:=a.mp z;rw[e]at this;exact Rat.lt_irrefl this
   have n2:¬q.1*p.2 < p.1*q.2:=fun z=>by have:=b.mp z;rw[e]at this;exact Rat.lt_irrefl this
   omega
theorem jf{n:Nat}:∀ {ts:List Tr},(∀t∈ts,t.pure/\t.depth<=n)->Trs.pure ts/\Trs.depth ts<=n
 | [],_=>⟨by unfold Trs.pure;trivial,by unfold Trs.depth;omega⟩
 |t::ts,h=>by
  obtain⟨a,b⟩:=jf fun u m=>h u (zp _ m);obtain⟨c,d⟩:=h t zq;refine⟨?_,?_⟩
  . unfold Trs.pure;exact⟨c,a⟩
  . unfold Trs.depth;omega
theorem lvB7:lvB 7 < 2^12:=by decide
theorem Ub.gf{b:Bnd}(h:Ub b):Gf 12 b.lim:=h.lim.gf lvB7
theorem Ub.gp{b:Bnd}(h:Ub b){p:Pq}(m:p∈b.ps):Gf 12 p.2/\Sh p.2:=⟨(h.sx p m).gf lvB7,(h.sx p m).sh⟩
theorem Ub.l4{b:Bnd}(h:Ub b):b.ps.length<=4:=Su.asc_len h.asc h.mem
section
variable{P:Program}{w:World}{K:PySem.W.Frag}{mg:Str->Option Value}{base:Heap}{T0:Addr}
def jr(P:Program)(w:World)(K:PySem.W.Frag):Sp:=fun vs H Q _=>∃(lb d:Addr) (xs:List V) (bs:List Bnd) (m:Nat) (us:List Tr) (G:Tr->Fr),vs= [.ref lb, .ref d]/\H lb=some (.lst xs)/\TrsAt H xs (bs.map bdT)/\(∀b∈bs,Ub b)/\Dj.DAt P w K H d us G/\(∀t∈us,Sh (G t)/\Gf m (G t))/\m<=1000/\TmIn us bs/\Met (gw us G) bs/\∀H',Same H H'->Q (.bl true) H'
noncomputable def nMe:List Str:= ["_law_bounds_here","_law_numbers","_law_whole","_law_most","_law_strict","_law_value","_law_term","_law_share","_law_over"]
theorem scMe:FnScope nMe ["_law_bounds_here","_law_numbers"] (ag jy):= .of
theorem sM{f:Addr}{fd:FuncData}(F:Fun K "_law_meets" "_law_meets" jy f fd)(B:Blt mg)(zT:Cl P w K mg base 2 "_law_times" ["_law_one","_law_other"] cX)(zP:Cl P w K mg base 2 "_law_plus" ["_law_one","_law_other"] dW):FnOk P w K mg base CX0 3 f fd ["_law_bounds_here","_law_numbers"] (jr P w K):=by
 refine F.okb scMe fun vs H Q E h=>?_;refine hZq fun q_ e_=>?_;obtain⟨lb,d,xs,bs,m,us,G,rfl,hl,hT,hU,hD,hG,m3,cI,bj,k⟩:=h;subst e_;refine⟨rfl,fun db A outer s hr=>?_⟩;have a7:Room 2 _:=hr.mono (by decide)
 have b7:=hr.units;have bb:=zZ (AB (show 30<=64 by decide) _) b7
 have nd:=scMe.nd
 refine⟨_,ad (bK PassesOwn.never rfl (aJ (pv 0)) (aS rfl (ai (pgA 2 nd) (ai (pgA 3 nd) (ai (pgA 4 nd) aL))))
  (ad (psA 5 nd (aQ (a0 ac (a0 ac a9))))
  (ad (bK PassesOwn.never rfl (fk (pv 2)) (aS rfl (ai (pgA 6 nd) (ai (pgA 7 nd) aL)))
   (af (psA 5 nd (aj zP a7 (a0 (pv 5) (a0 (aj zT a7 (a0 (pv 7) (a0 (Dj.pe_getJ (P:=P) (w:=w) (K:=K) rfl rfl rfl bb (pv 1) (pv 6) (aQ (a0 ac (a0 ac a9))) ⟨rfl,rfl,rfl,rfl⟩) a9))) a9))))))
  (ad (psA 8 nd (am dL (am aU (ak aE (pv 5) ac fun _ _=>rfl) (ak aE (pv 3) ac fun _ _=>rfl)) (am aU (ak aE (pv 3) ac fun _ _=>rfl) (ak aE (pv 5) ac fun _ _=>rfl))))
  (af (bh (PW.pt (iN (aw dc (pv 8) ac (ay _)) (gP (PW.pt (fi (aw dy (pv 8) ac (ay _)) (dX (cO (pv 4)))))))) (af (ar cZ)) aI))))))
  (af (ar cZ)),?_⟩
 have wl:=hT.len;rw[zm]at wl;refine⟨_,rfl,lb,rfl,⟨_,SqL.of hl⟩,?_⟩
 refine cE (xs:=xs) (fun i σ H'=>Same H H'/\∃(v2 v3 v4 v5 t v v8:Option V),σ= [some (.ref lb),some (.ref d),v2,v3,v4,v5,t,v,v8])
  ⟨Same.refl _,none,none,none,none,none,none,none,rfl⟩ (fun i σ H' _ p=>SqL.of (p.1 _ _ hl)) ?_ ?_
 . intro i x σ H1 ex z_;refine hZq fun q_ e_=>?_;obtain⟨sH,v2,v3,v4,v5,t,v,v8,rfl⟩:=z_;obtain⟨u,eu,hu⟩:=hT.get' ex;rw[zr]at eu;obtain⟨b,eb,rfl⟩:=zy.mp eu;have mb:=zw eb;have ub:=hU b mb;obtain⟨r,xw,xm,c8,rfl,cb,bF,cd,a6⟩:=c6 hu;obtain⟨au,ys,rfl,bg,bw⟩:=at_t bF;obtain⟨rm,rfl,a4⟩:=bS cd;subst e_;unfold TrAt at a6;subst a6;have yl:=bw.len;rw[zm]at yl;have l4:=ub.l4;have gl:=ub.gf;refine⟨r,_,rfl,SqT.of (sH _ _ cb),rfl,_,_,rfl,_,_,rfl,_,_,rfl,rfl,?_⟩;refine⟨two,fun z0 cn=>?_⟩;have s0:=aa (o:= .tup [.int 0, .int 1]) cn;have a2:=a8 (H:=H1) (a:=z0) (o:= .tup [.int 0, .int 1]);have a1:=sH.trans s0;generalize upd H1 z0 (.tup [.int 0, .int 1])=H2 at a2 a1 ⊢;refine ah ?_
   try dsimp only
   refine⟨_,rfl,au,rfl,⟨_,SqT.of (a1 _ _ bg)⟩,?_⟩
   refine jQ (xs:=ys) (fun q σ H'=>Same H H'/\∃(rt:Addr) (tt:Fr) (t v:Option V),σ= [some (.ref lb),some (.ref d),some (.ref au),some (.ref rm),some (.bl b.st),some (.ref rt),t,v,v8]/\H' rt=some (.tup [.int tt.1, .int tt.2])/\Gf (1+q*(m+13)) tt/\rv tt=lin (gw us G) (b.ps.take q))
    ⟨a1,z0,zero,t,v,rfl,a2,Gf.one (by omega),by rw[Ar];exact rv_zero⟩ (fun i σ H' _ p=>SqT.of (p.1 _ _ bg)) ?_ ?_
   . intro q y σ H3 ey z_;refine hZq fun q_ e_=>?_;obtain⟨j,rt,tt,t,v,rfl,l,e,g⟩:=z_;obtain⟨t',bi,bR⟩:=bw.get' ey;rw[zr]at bi;obtain⟨⟨tm,fr⟩,eq,rfl⟩:=zy.mp bi;have mp:=zw eq;have ql:q < b.ps.length:=(zv.mp eq).1;obtain⟨ty,dp⟩:=cM _ (ub.mem _ mp);obtain⟨bB,bY⟩:=ub.gp mp;dsimp only at ty dp bB bY;have aC:tm∈us:=(cI.2 tm).mpr ⟨b,mb,_,mp,rfl⟩;obtain⟨T',x1,y1,rfl,b4,a5,bC⟩:=bE bR;obtain⟨rf,rfl,cm⟩:=bS bC;obtain⟨bt,rfl⟩:=Dj.tm_ref ty a5;subst e_;refine⟨T',_,rfl,SqT.of (j _ _ b4),rfl,_,_,rfl,_,_,rfl,rfl,?_⟩;refine hZq fun q_ e_=>?_;obtain⟨kvs,aT,_,cp,_⟩:=(hD.same j).val ty;obtain⟨vv,ev,hv⟩:=cp aC;subst e_;refine⟨_,rfl,_,rfl,_,rfl,d,kvs,rfl,aT,_,rfl,two,fun z nz=>?_⟩;have sz:=aa (o:= .tup [.int 0, .int 1]) nz;refine⟨bt,Dj.ktL tm,rfl,aT.kd (Kd.of_same sz) (sz _ _ aT.at_),Dj.key_tm ty dp (a5.mono (Kd.of_same (j.trans sz))),?_⟩;rw[ev];have s4:=j.trans sz;have a3:=hv.mono (Kd.of_same sz);have n:=sz _ _ l;generalize upd H3 z (.tup [.int 0, .int 1])=H4 at s4 a3 n ⊢;obtain⟨c4,bI⟩:=hG tm aC;have q1:q*(m+13)<=3*(m+13):=Ap _ (by omega)
     refine⟨.ref rf,vv,fr,G tm,12,m,rfl,aX (s4 _ _ cm),a3,bB,bI,by omega,fun z1 H5 f1 s5 bT c3 e1 g1=>?_⟩
     refine⟨.ref rt,z1,tt,f1,1+q*(m+13),12+m,rfl,aX (s5 _ _ n),bT,e,g1,by omega,fun z2 H6 f2 s6 b8 c2 e2 g2=>?_⟩
     obtain⟨r2,rfl,bx⟩:=bS b8;refine ah ?_;refine⟨s4.trans (s5.trans s6),r2,f2,_,_,rfl,bx,?_,?_⟩
     . have:1+(q+1)*(m+13)=1+q*(m+13)+(12+m)+1:=by rw[Nat.succ_mul];omega
       rw[this];exact g2
     . rw[e2,e1,g,aq eq,jM];have eg:gw us G tm=rv (G tm):=by unfold gw;rw[if_pos aC]
       simp only[lin];rw[eg];grind
   . intro σ H3 z_;refine hZq fun q_ e_=>?_;obtain⟨j,rt,tt,t,v,rfl,l,e,g⟩:=z_;subst e_;rw[yl,A3]at g;have q1:ys.length*(m+13)<=4*(m+13):=Ap _ (by omega)
     have t1:Big tt.1:=e.top.big (by omega)
     have t2:Big tt.2:=e.bot.big (by omega)
     have l1:Big b.lim.1:=gl.top.big (by omega)
     have l2:Big b.lim.2:=gl.bot.big (by omega)
     refine⟨_,rfl,rt,_,0, .int tt.1,rfl,rfl,SqT.of l,rfl,_,rfl,rm,_,1, .int b.lim.2,rfl,rfl,SqT.of (j _ _ a4),rfl,_,_,rfl,rfl,⟨t1,l2⟩,_,rfl,rm,_,0, .int b.lim.1,rfl,rfl,SqT.of (j _ _ a4),rfl,_,rfl,rt,_,1, .int tt.2,rfl,rfl,SqT.of l,rfl,_,_,rfl,rfl,⟨l1,t2⟩,_,_,rfl,rfl,?_⟩;refine ah ?_
     try dsimp only
     have hm:=bj b mb;unfold MetB at hm;rw[<-g]at hm;have e1:=jB (p:=tt) (q:=b.lim) e.pos gl.pos;have e2:=rK (p:=tt) (q:=b.lim) e.pos gl.pos
     have b6:¬0 < tt.1*b.lim.2 - b.lim.1*tt.2:=fun z=>by
      rcases hm with h|⟨h,_⟩
      . have:=e1.mpr h;omega
      . have:=e2.mpr h;omega
     refine⟨_,rfl,tt.1*b.lim.2 - b.lim.1*tt.2,0,rfl,rfl,_,rfl,?_⟩;refine ite2 (fun c=>absurd (of_decide_eq_true c) b6) (fun _=>?_);refine⟨_,rfl,rfl,_,rfl,?_⟩;refine ite2 (fun c=>?_) (fun _=>iteF ⟨j,_,_,_,_,_,_,_,rfl⟩)
     have c0:tt.1*b.lim.2 - b.lim.1*tt.2=0:=by
      have:=of_decide_eq_true c;injection this
     have st:b.st=false:=by
      rcases hm with h|⟨_,h⟩
      . have:=e1.mpr h;omega
      . exact h
     refine⟨_,rfl,b.st,rfl,?_⟩;exact ite2 (fun c=>by rw[st]at c;cases c) (fun _=>⟨j,_,_,_,_,_,_,_,rfl⟩)
 . intro σ H1 z_;refine hZq fun q_ e_=>?_;obtain⟨sH,v2,v3,v4,v5,t,v,v8,rfl⟩:=z_;subst e_;exact k _ sH
noncomputable def nmB(x:Str):Bool:=decide (0 < x.length)&&decide (x.length<=8)&&x.cps.toList.all fun c=>decide (97<=c/\c<=122)
theorem hZ{x:Str}(h:nmB x=true):Tw.Nm x:=by
 unfold nmB at h;simp only[AL,decide_eq_true_eq,List.all_eq_true]at h;exact⟨h.1.1,h.1.2,fun c m=>h.2 c m⟩
theorem zk:∀t∈TQ,Fm.Gt t/\t.depth<=39/\(Tw.tmC t).length<=1000:=by
 have hx:nmB (Str.ofString "x")=true:=by decide +kernel
 have hy:nmB (Str.ofString "y")=true:=by decide +kernel
 have hz:nmB (Str.ofString "zz")=true:=by decide +kernel
 have a:nmB (Str.ofString "f")=true:=by decide +kernel
 intro t m;have dp:=(cM t m).2;refine⟨?_,by omega,?_⟩
 . simp only[TQ,zJ,Ab,or_false]at m;rcases m with rfl|rfl|rfl|rfl
   . exact .nm _ (hZ hx)
   . refine .ap _ _ (hZ a) (by decide) (by decide) ?_
     simp only[zJ,Ab,or_false];rintro t rfl;exact .nm _ (hZ hx)
   . exact .nm _ (hZ hy)
   . exact .nm _ (hZ hz)
 . simp only[TQ,zJ,Ab,or_false]at m;rcases m with rfl|rfl|rfl|rfl<;>decide +kernel
theorem Ub.gbd{b:Bnd}(h:Ub b):Gbd TQ 12 b:=by
 refine⟨h.asc,fun p mp=>?_,h.gf,h.lim.sh⟩;have a:=h.mem p mp;obtain⟨c,d,e⟩:=zk _ a;obtain⟨gp,sp⟩:=h.gp mp;exact⟨⟨c,d,e,a⟩,⟨(cM _ a).1,(cM _ a).2,gp,sp⟩⟩
def CC:Nat:=2^220
theorem uj:∀ {x:Nat},x<=CC*(CC+1)+CC->x < 2^442:=fun{x} h=>zZ h (by decide +kernel)
theorem fac8{m:Nat}(h:m<=8):Wg.fac m*(4096*7776)^m<=CC:=by
 have:∀m:Fin 9,Wg.fac m.val*(4096*7776)^m.val<=CC:=by decide +kernel
 exact this ⟨m,by omega⟩
theorem Ub.bz{bs:List Bnd}(h:∀b∈bs,Ub b)(h8:bs.length<=8):Bz bs 4096 6 7776 4 CC:=by
 have d:lvB 7<=4096:=by decide
 refine⟨fun b mb=>⟨(h b mb).l4,fun p mp=>?_,?_,(h b mb).lim.bd.1⟩,fun b mb=>?_,by decide,by decide,A5 (show 6^(4+2) < 2^16 by decide) (Aw (by decide) (by decide)),fac8 h8,by decide +kernel,by decide +kernel,Nat.pow_lt_pow_right (by decide) (by decide)⟩
 . obtain⟨a,c⟩:=((h b mb).sx p mp).bd;exact⟨zK c d,a⟩
 . exact zK (h b mb).lim.bd.2 d
 . obtain⟨_,_,_,g⟩:=fZ (M:=6) (fs:=b.ps.map (·.2)++ [b.lim]) (s:=1) (by decide) fun f e=>by
    rcases A9.mp e with m|m
    . obtain⟨p,mp,rfl⟩:=zM.mp m;exact⟨((h b mb).sx p mp).sh.1,((h b mb).sx p mp).bd.1⟩
    . rw[A8.mp m];exact⟨(h b mb).lim.sh.1,(h b mb).lim.bd.1⟩
   have l:(b.ps.map (·.2)++ [b.lim]).length<=5:=by
    rw[A6,zm];have:=(h b mb).l4;show b.ps.length+1<=5;omega
   refine zK g ?_;have:(1:Int).natAbs=1:=rfl;rw[this,Nat.one_mul];exact zK (Aw (by decide) l) (by decide)
theorem vG{t b:Int}{m:Nat}(b0:0 < b)(h1:t.natAbs < 2^m)(h2:b.natAbs < 2^m):Sh ((fx t b,fy t b):Fr)/\Gf m ((fx t b,fy t b):Fr):=by
 have s:=dm (t:=t) (b:=b) (by omega)
 refine⟨s,s.1,?_,?_⟩
 . show(fx t b).natAbs < 2^m
   have a:0 < dv t b:=by
    have:=Ad t (show b≠0 by omega)
    unfold dv;rw[if_neg (by omega)]
    omega
   unfold fx;rw[Am _ (by omega)]
   exact zZ (cz _ _) h1
 . show(fy t b).natAbs < 2^m
   have a:0 < dv t b:=by
    have:=Ad t (show b≠0 by omega)
    unfold dv;rw[if_neg (by omega)]
    omega
   unfold fy;rw[Am _ (by omega)]
   exact zZ (cz _ _) h2
def NumK(P:Program)(w:World)(K:PySem.W.Frag)(H:Hp)(r:Addr)(bs:List Bnd):Prop:=∃(d:Addr) (us:List Tr) (G:Tr->Fr),H r=some (.tup [.str (Str.ofString "numbers"), .ref d])/\Dj.DAt P w K H d us G/\(∀t∈us,Sh (G t)/\Gf 442 (G t))/\TmIn us bs/\Met (gw us G) bs
def WtsK(H:Hp)(r:Addr)(bs:List Bnd):Prop:=∃(l:Addr) (wv:List V) (wk:List Wt),H r=some (.tup [.str (Str.ofString "weights"), .ref l])/\H l=some (.lst wv)/\TrsAt H wv (wk.map wtT)/\Wts bs wk/\oE bs wk/\∀k∈wk,Gf 442 k.2
theorem NOut.good{P:Program}{w:World}{K:PySem.W.Frag}{T0 d r:Addr}{H H':Hp}{bs:List Bnd}{us:List Tr}{Tb:Wg.Tb}{M:Int}{G:Tr->Fr}(hU:∀b∈bs,Ub b)(h8:bs.length<=8)(h:NOut P w K T0 H H' bs CC d us Tb M G)(hr:H' r=some (.tup [.str (Str.ofString "numbers"), .ref d])):NumK P w K H' r bs:=by
 have i:∀b∈bs,Gbd TQ 12 b:=fun b mb=>(hU b mb).gbd;refine⟨d,us,G,hr,h.da,fun t l=>?_,h.tm,h.met i⟩;have o:=(Ub.bz hU h8).wb (T:=TQ) (e:=12) i us;obtain⟨a,bl⟩:=o.bnd h.ok.inv h.ok.pm;obtain⟨j,m,e⟩:=Ax l;have n:us[j]?=some t:=by rw[zo m,e]
 rw[h.g j t n];have m1:=h.m1;have mc:=h.mc;have f:M.natAbs<=CC+1:=by omega
 have b0:=h.ok.inv.pos;have l1:=ml (k:=bs.length+j) (c:=us.length) h.ok.pm a bl (by omega)
 have l2:=ml (k:=bs.length+j) (c:=us.length+1) h.ok.pm a bl (by omega)
 refine vG (Int.mul_pos b0 (by omega)) (uj ?_) (uj ?_)
 . rw[<-tq];refine zK (Int.natAbs_add_le _ _) ?_;rw[Ac];exact Nat.add_le_add (AF l1 f) l2
 . rw[Ac];exact zK (AF a f) (AT _ _)
theorem WOut.good{T0 l r:Addr}{H H':Hp}{bs:List Bnd}{ws2:List V}{us2 us:List Tr}{Tb:Wg.Tb}{i:Nat}(hU:∀b∈bs,Ub b)(h8:bs.length<=8)(h:WOut T0 H H' bs l ws2 us2 us Tb i)(hr:H' r=some (.tup [.str (Str.ofString "weights"), .ref l])):WtsK H' r bs:=by
 have c:∀b∈bs,Gbd TQ 12 b:=fun b mb=>(hU b mb).gbd;obtain⟨wk,d,a,m,hb⟩:=h.wts c ((Ub.bz hU h8).wb (T:=TQ) (e:=12) c us);have f:=h.least c d;subst d;obtain⟨g,j,_,_⟩:=h.wt;have cc:∀ {x:Nat},x<=CC*CC->x < 2^442:=fun{x} q=>uj (zK q (zK (Nat.mul_le_mul_left _ (Nat.le_succ _)) (AT _ _)));exact⟨l,ws2,wk,hr,g,j,a,f,fun k mk=>⟨(a.sh k mk).1,cc (hb k mk).1,cc (hb k mk).2⟩⟩
theorem jg{te:TE}{Z:Ends}{σ:L2.St}{H:Hp}(h:te σ H Z.rt):tRet te Z σ H:=h
theorem mV{r:R2}{ta tb:TE}{t u:TS}{Z:Ends}{σ:L2.St}{H:Hp}(h:ta σ H fun x H1=>tb σ H1 fun y H2=>r x y H2 fun v H3=>∃c,v= .bl c/\if c=true then t Z σ H3 else u Z σ H3):tIfS (mW (tOp r ta tb)) t u Z σ H:=h
def plV(wk:List Wt):List V:=wk.map fun k=> .int (k.1:Int)
def rh(P:Program)(w:World)(K:PySem.W.Frag)(T0:Addr):Sp:=fun vs H Q _=>∃(lb:Addr) (xs:List V) (bs:List Bnd),vs= [.ref lb]/\H lb=some (.lst xs)/\TrsAt H xs (bs.map bdT)/\(∀b∈bs,Ub b)/\bs.length<=8/\Lm T0 H/\
 (∀H',ButT T0 H H'->Lm T0 H'->(∃g,Met g bs)->Q .non H')/\
 ∀(l:Addr) (wk:List Wt) H',ButT T0 H H'->Lm T0 H'->H' l=some (.lst (plV wk))->(∀ys,H l≠some (.lst ys))->Wts bs wk->oE bs wk->Q (.ref l) H'
theorem scLp:FnScope ["bounds","kind","told"] ["bounds"] (ag sLpl):= .of
theorem xu{f:Addr}{fd:FuncData}(F:Fun K "least_places" "least_places" sLpl f fd)(zWg:Cl P w K mg base 44 "weighed" ["bounds"] (mY P w K T0)):FnOk P w K mg base CX0 45 f fd ["bounds"] (rh P w K T0):=by
 refine F.okb scLp fun vs H Q E h=>?_;refine hZq fun q_ e_=>?_;obtain⟨lb,xs,bs,rfl,a3,hT,hU,h8,a2,kN,kW⟩:=h;subst e_;refine⟨rfl,fun bg A outer s hr=>?_⟩;have aC:(["place","weight"]:List Str).Nodup:=by decide +kernel
 refine⟨_,ad (fj (aj zWg hr (a0 (pv 0) a9)) (aS (n:=2) rfl (ai (pgA 1 scLp.nd) (ai (pgA 2 scLp.nd) aL))))
  (ad (bh (aw dy (pv 1) cC (ay _)) (af (ar jF)) aI)
  (af (ar (aO (NC:= ["place","weight"]) (mp:= [none,none]) (g:=gTup K 2 (aV (aH 0) (aV (aH 1) gNil))) rfl (aJ (pv 2)) (fun _ _ _ _ _=>aS (n:=2) rfl (ai (pgA 0 aC) (ai (pgA 1 aC) aL))) (fun _ _ _ _ _=>aR) (fun _ _ _ _ _=>pv 0))))),?_⟩
 have a5:(20000:Nat)<=sizeLine:=by decide +kernel
 have ne:¬(V.str (Str.ofString "weights")=V.str (Str.ofString "numbers")):=fun z=>absurd (V.str.inj z) (by decide +kernel)
 refine⟨_,rfl,lb,xs,bs,TQ,12,4096,6,7776,4,CC,rfl,a3,hT,fun b mb=>(hU b mb).gbd,by decide,by decide,by omega,by decide,Ub.bz hU h8,a2,fun r l H' ws2 us2 us Tb i c h=>?_,fun r d H' us Tb M G c h=>?_⟩
 . refine hZq fun q_ e_=>?_;obtain⟨l',wv,wk,v,a1,au,u,hL,_⟩:=h.good hU h8 c;subst e_;rw[c]at v;cases v;refine⟨r,_,rfl,SqT.of c,rfl,_,_,rfl,_,_,rfl,rfl,?_⟩
   try dsimp only
   refine⟨_,rfl,rfl,_,rfl,?_⟩;rw[decide_eq_false ne];refine iteF (bU ?_)
   try dsimp only
   refine jg ?_;refine dq (K:=K) (xs:=wv) (a:=l) (fun Q q=>⟨_,rfl,q⟩) (SqL.of a1) fun L nL=>?_;have wl:=au.len;rw[zm]at wl
   have w8:wk.length<=bs.length:=by
    have nd:(wk.map (·.1)).Nodup:=by
     rw[Al,AR];exact u.asc.imp fun h z=>by omega
    have:=Fm.sub_len nd (U:=List.range bs.length) fun q mq=>by
     obtain⟨k,mk,rfl⟩:=zM.mp mq;exact Af.mpr (u.lt k mk)
    rw[zm,Aj]at this;exact this
   refine⟨fun j acc H2=>Same H' H2/\H2 L=some (.lst acc)/\acc=plV (wk.take j),⟨aa nL,a8,rfl⟩,fun j acc H2 p=>SqL.of (p.1 _ _ a1),?_,?_⟩
   . rintro j z acc H2 hj ⟨s2,m,rfl⟩ ez;refine hZq fun q_ e_=>?_;obtain⟨t,et,ht⟩:=(au.mono (Kd.of_same s2)).get' ez;rw[zr]at et;obtain⟨k,ek,rfl⟩:=zy.mp et;obtain⟨q,x1,y1,rfl,hq,aT,a6⟩:=bE ht;subst e_;unfold TrAt at aT;subst aT;refine⟨q,_,rfl,SqT.of hq,rfl,_,_,rfl,_,_,rfl,rfl,ext2,cB ?_⟩;refine⟨_,rfl,?_⟩;refine CompN.mk hj (by unfold plV;rw[zm,A7];omega) m ⟨aD nL s2,a8,?_⟩
     unfold plV;rw[aq ek,zQ];rfl
   . rintro acc H2 ⟨s2,m,rfl⟩;rw[wl,A3]at m;refine kW L wk H2 (fun x o n e=>s2 _ _ (h.bt _ _ n e)) (h.lm.same s2) m (fun ys z=>?_) u hL;obtain⟨a7,a4⟩:=a2.tbl;have:=h.bt L _ (fun y=>by rw[y,a4]at z;cases z) z
     rw[nL]at this;cases this
 . have hN:=h.good hU h8 c;refine hZq fun q_ e_=>?_;obtain⟨d',bb,G',v,_,_,_,hM⟩:=hN;subst e_;refine⟨r,_,rfl,SqT.of c,rfl,_,_,rfl,_,_,rfl,rfl,?_⟩
   try dsimp only
   refine⟨_,rfl,rfl,_,rfl,?_⟩;rw[decide_eq_true rfl];exact iteT (kN _ h.bt h.lm ⟨_,hM⟩)
theorem uQ{p:Fr}(h:0 < p.2):p.1 < 0↔rv p < 0:=by
 have:=jB (p:=p) (q:=zero) h (by decide)
 rw[rv_zero]at this;rw[<-this];show p.1 < 0↔p.1*1 < 0*p.2;omega
theorem wK{p:Fr}(h:0 < p.2):p.1=0↔rv p=0:=by
 have:=rK (p:=p) (q:=zero) h (by decide)
 rw[rv_zero]at this;rw[<-this];show p.1=0↔p.1*1=0*p.2;omega
theorem ky(n:Nat):Trs.pure ((List.range n).map fun(i:Nat)=>Tr.int i)/\Trs.depth ((List.range n).map fun(i:Nat)=>Tr.int i)<=5:=jf fun t m=>by
 obtain⟨i,_,rfl⟩:=zM.mp m;exact⟨by unfold Tr.pure;trivial,by unfold Tr.depth;omega⟩
theorem eX{H:Hp}:∀ns:List Nat,TrsAt H (ns.map fun(i:Nat)=>V.int i) (ns.map fun(i:Nat)=>Tr.int i)
 | []=> .nil
 |n::r=> .cons (by unfold TrAt;rfl) (eX r)
theorem mI(us:List Tr):eqTs us us=true:=eqTs_refl us
theorem uH{r:R2}{rb:List V->Hp->VK->Prop}{te tb:TE}{g:TG}{Z:Ends}{σ:L2.St}{H:Hp}(h:te σ H fun v H1=>rb [v] H1 fun x H2=>tb σ H2 fun y H3=>r x y H3 fun v H4=>g v σ H4 Z.nx):tAsg (tOp r (tCB rb (cW te tNil)) tb) g Z σ H:=h
theorem qk{sp:Sp}{dvs:List V}{E:XK}{te:TE}{σ:L2.St}{H:Hp}{Q:VK}(h:te σ H fun v H1=>sp ([v]++dvs) H1 Q E):iG sp dvs E (cW te tNil) σ H Q:=h
theorem ze{o p q:Option V}:Ext [none,none,q] [o,p,q]
 |0,v,e=>by cases (zN (show some (none:Option V)=some (some v)from e))
 |1,v,e=>by cases (zN (show some (none:Option V)=some (some v)from e))
 |j+2,v,e=>e
theorem vO{bs:List Bnd}{wk:List Wt}{ks:List Part}{us:List Pq}(h:Wts bs wk)(e:bn ks=be (bs.map ofB) wk)(hc:Can (bn ks) us):us= []:=by
 cases us with
 |nil=>rfl
 |cons u r=>
  have a:u∈u::r:=zq;have e1:=k6 hc.asc a;rw[hc.eq,e,h.tot]at e1;exact absurd ((rJ (hc.sh u a).1).mp e1.symm) (hc.sh u a).2
noncomputable def cK(bs:List Bnd)(wk:List Wt):List Part:=wk.map fun k=>((bs.getD k.1 ⟨[],(0,1),false⟩).ps,k.2)
theorem gY{bs:List Bnd}:∀ {wk:List Wt},(∀k∈wk,k.1 < bs.length)->bn (cK bs wk)=be (bs.map ofB) wk
 | [],_=>rfl
 |k::r,h=>by
  obtain⟨e1,a⟩:=dR (h k zq);show _++bn (cK bs r)=(bdAt _ k.1).us.map _++be _ r;rw[gY fun x m=>h x (zp _ m),a];dsimp only;rw[zt,e1];rfl
def ju:Sp:=fun vs H Q _=>∃(lb lw:Addr) (xs wv:List V) (bs:List Bnd) (wk:List Wt),vs= [.ref lb, .ref lw]/\H lb=some (.lst xs)/\TrsAt H xs (bs.map bdT)/\(∀b∈bs,Ub b)/\bs.length<=8/\H lw=some (.lst wv)/\TrsAt H wv (wk.map wtT)/\Wts bs wk/\wk.map (·.1)=List.range bs.length/\(∀k∈wk,Gf 442 k.2)/\∀H',Same H H'->Q (.bl true) H'
noncomputable def nBe:List Str:= ["_law_bounds_here","_law_weights","_law_total","_law_place","_law_weight","_law_strict"]
theorem scBe:FnScope nBe ["_law_bounds_here","_law_weights"] (ag lZ):= .of
theorem sP{f:Addr}{fd:FuncData}(F:Fun K "_law_borne" "_law_borne" lZ f fd)(B:Blt mg)(zT:Cl P w K mg base 2 "_law_times" ["_law_one","_law_other"] cX)(zP:Cl P w K mg base 2 "_law_plus" ["_law_one","_law_other"] dW)(zG:Cl P w K mg base 3 "_law_together" ["_law_parts"] n9):FnOk P w K mg base CX0 4 f fd ["_law_bounds_here","_law_weights"] ju:=by
 refine F.okb scBe fun vs H Q E h=>?_;refine hZq fun q_ e_=>?_;obtain⟨lb,lw,xs,wv,bs,wk,rfl,hl,hT,hU,h8,hw,hW,d,hR,c2,k⟩:=h;subst e_;refine⟨rfl,fun d9 A outer s hr=>?_⟩;have b6:=hr.units;have bR:Room 2 _:=hr.mono (by decide)
 have db:Room 3 _:=hr.mono (by decide)
 have bT:=zZ (AB (show 50<=64 by decide) _) b6
 have bB:=zZ (AB (show 60<=64 by decide) _) b6
 have bw:(["_law_place","_law_weight"]:List Str).Nodup:=by decide +kernel
 have bI:(["_law_place","_law_weight","_law_bounds_here"]:List Str).Nodup:=by decide +kernel
 have c4:(["_law_one"]:List Str).Nodup:=by decide +kernel
 have nd:=scBe.nd
 refine⟨_,ad (bh (aw (sK bB) (aO (NC:= ["_law_place","_law_weight"]) (mp:= [none,none]) (g:=gTup K 2 (aV (aH 0) (aV (aH 1) gNil))) rfl (aJ (pv 1)) (fun _ _ _ _ _=>aS (n:=2) rfl (ai (pgA 0 bw) (ai (pgA 1 bw) aL))) (fun _ _ _ _ _=>aR) (fun _ _ _ _ _=>pv 0)) (bp (io rfl) rfl B.li PyProof.Rows.boot_list (a0 (bp fS rfl B.ra PyProof.Rows.boot_range (a0 (aA ax rfl B.le PySem.boot_len (a0 (pv 0) a9)) a9)) a9)) (ay _)) (af (ar cZ)) aI)
  (ad (psA 2 nd (aQ (a0 ac (a0 ac a9))))
  (ad (bK PassesOwn.never rfl (aJ (pv 1)) (aS rfl (ai (pgA 3 nd) (ai (pgA 4 nd) aL)))
   (ad (bh (aw iQ (ak aE (pv 4) ac fun _ _=>rfl) ac (ay _)) (af (ar cZ)) aI)
   (af (psA 2 nd (aj zP bR (a0 (pv 2) (a0 (aj zT bR (a0 (ak aE (ak ao (pv 0) (pv 3) fun _ _=>rfl) ac fun _ _=>rfl) (a0 (pv 4) a9))) a9)))))))
  (ad (psA 5 nd (dY dc (aA ax rfl B.le PySem.boot_len (a0 (aO (NC:= ["_law_one"]) (mp:= [none]) rfl (aJ (pv 0)) (fun _ _ _ _ _=>pgA 0 c4) (fun _ _ _ _ _=>cy (cO (ak (r:=rIxT K) aE (pv 0) ac fun _ _=>rfl))) (fun _ _ _ _ _=>pv 0)) a9)) ac (ay _)))
  (ad (bh (aw (wR bT) (aj zG db (a0 (aO (NC:= ["_law_place","_law_weight","_law_bounds_here"]) (mp:= [none,none,some 0]) (g:=gTup K 2 (aV (aH 0) (aV (aH 1) gNil))) rfl (aJ (pv 1)) (fun _ _ _ _ _=>aS (n:=2) rfl (ai (pgA 0 bI) (ai (pgA 1 bI) aL))) (fun _ _ _ _ _=>aR) (fun _ _ _ _ _=>aQ (a0 (ak (r:=rIxT K) aE (ak (r:=rIxL K) ao (pv 2) (pv 0) fun _ _=>rfl) ac fun _ _=>rfl) (a0 (pv 1) a9)))) a9)) (aQ a9) (ay _)) (af (ar cZ)) aI)
  (af (ar (yS (dY iQ (ak aE (pv 2) ac fun _ _=>rfl) ac (ay _)) (m6 (sI (dY dy (ak aE (pv 2) ac fun _ _=>rfl) ac (ay _)) (m6 (pv 5))))))))))),?_⟩
 have d5:(20000:Nat)<=sizeLine:=by decide +kernel
 have wl:=hW.len;rw[zm]at wl;have bl:=hT.len;rw[zm]at bl
 have wb:wk.length=bs.length:=by
  have:=congrArg List.length hR;rw[zm,Aj]at this;exact this
 refine mV ?_;refine dq (K:=K) (xs:=wv) (a:=lw) (fun Q q=>⟨_,rfl,q⟩) (SqL.of hw) fun L nL=>?_;refine⟨fun j acc H2=>Same H H2/\H2 L=some (.lst acc)/\acc=plV (wk.take j),⟨aa nL,a8,rfl⟩,fun j acc H2 p=>SqL.of (p.1 _ _ hw),?_,?_⟩
 . rintro j z acc H2 hj ⟨s2,a1,rfl⟩ ez;refine hZq fun q_ e_=>?_;obtain⟨t,et,ht⟩:=(hW.mono (Kd.of_same s2)).get' ez;rw[zr]at et;obtain⟨k,ek,rfl⟩:=zy.mp et;obtain⟨q,x1,y1,rfl,hq,e,aT⟩:=bE ht;subst e_;unfold TrAt at e;subst e;refine⟨q,_,rfl,SqT.of hq,rfl,_,_,rfl,_,_,rfl,rfl,ext2,cB ?_⟩;refine⟨_,rfl,?_⟩;refine CompN.mk hj (by unfold plV;rw[zm,A7];omega) a1 ⟨aD nL s2,a8,?_⟩
   unfold plV;rw[aq ek,zQ];rfl
 rintro acc H1 ⟨s1,bg,rfl⟩;rw[wl,A3]at bg;refine⟨_,rfl,lb,xs,rfl, .inl (SqL.of (s1 _ _ hl)),xs.length,rfl,fun r nr=>?_⟩;have t1:=aa (o:=RgV r xs.length) nr;refine⟨r,xs.length,rfl,a8,by omega,fun M nM=>?_⟩
 have t2:=aa (o:= .lst ((List.range xs.length).map fun(i:Nat)=>V.int i)) nM
 have eP:plV wk=(List.range bs.length).map fun(i:Nat)=>V.int i:=by
  unfold plV;rw[<-hR,At];rfl
 have s3:=(s1.trans t1).trans t2;refine⟨L,M,plV wk,_,(List.range bs.length).map fun(i:Nat)=>Tr.int i,(List.range bs.length).map fun(i:Nat)=>Tr.int i,rfl,rfl,(t1.trans t2) _ _ bg,a8,by rw[eP];exact eX _,by rw[bl];exact eX _, .inl (ky _).1,by have:=(ky bs.length).2;omega,?_⟩
 rw[mI];refine⟨_,rfl,?_⟩;refine iteF (bU ?_);generalize upd (upd H1 r (RgV r xs.length)) M (.lst ((List.range xs.length).map fun(i:Nat)=>V.int i))=H3 at s3 ⊢;clear t1 t2 bg s1 nL nM nr;refine⟨two,fun z0 cd=>?_⟩;have t0:=aa (o:= .tup [.int 0, .int 1]) cd;have a6:=a8 (H:=H3) (a:=z0) (o:= .tup [.int 0, .int 1]);have s4:=s3.trans t0;generalize upd H3 z0 (.tup [.int 0, .int 1])=H4 at a6 s4 ⊢;refine ah ?_
 try dsimp only
 refine⟨_,rfl,lw,rfl,⟨_,SqL.of (s4 _ _ hw)⟩,?_⟩
 refine cE (xs:=wv) (fun i σ H'=>Same H H'/\∃(rt:Addr) (tt:Fr) (v3 v4 v5:Option V),σ= [some (.ref lb),some (.ref lw),some (.ref rt),v3,v4,v5]/\H' rt=some (.tup [.int tt.1, .int tt.2])/\Gf (1+i*455) tt/\rv tt=totR (bs.map ofB) (wk.take i))
  ⟨s4,z0,zero,none,none,none,rfl,a6,Gf.one (by omega),by rw[Ar];exact rv_zero⟩ (fun i σ H' _ p=>SqL.of (p.1 _ _ hw)) ?_ ?_
 . intro i x σ H5 ex z_;refine hZq fun q_ e_=>?_;obtain⟨s5,rt,tt,v3,v4,v5,rfl,bi,a3,au⟩:=z_;obtain⟨t,et,ht⟩:=(hW.mono (Kd.of_same s5)).get' ex;rw[zr]at et;obtain⟨kk,ek,rfl⟩:=zy.mp et;have mk:=zw ek;have il:i < wk.length:=(zv.mp ek).1;have gk:=c2 kk mk;have pk:=d.pos kk mk;obtain⟨q,x1,y1,rfl,hq,e,aT⟩:=bE ht;obtain⟨rf,rfl,cb⟩:=bS aT;unfold TrAt at e;subst e;obtain⟨l,v⟩:=dR (d.lt kk mk);have ub:=hU _ (zw l);obtain⟨yb,bb,y⟩:=(hT.mono (Kd.of_same s5)).get (i:=kk.1) (t:=bdT (bs[kk.1]'(d.lt kk mk))) (by rw[zr,l];rfl)
   generalize bs[kk.1]'(d.lt kk mk)=b at l v ub y;obtain⟨rb,xw,xm,b8,rfl,aC,_,d0,_⟩:=c6 y;subst e_;have d2:=aq ek;refine⟨q,_,rfl,SqT.of hq,rfl,_,_,rfl,_,_,rfl,rfl,?_⟩;refine⟨_,rfl,rf,_,0, .int kk.2.1,rfl,rfl,SqT.of cb,rfl,_,1,rfl,rfl,_,rfl,?_⟩;refine ite2 (fun c=>absurd (of_decide_eq_true c) (by omega)) fun _=>?_
   refine bU ?_;have d4:i*455<=8*455:=Ap _ (by omega)
   refine⟨_,rfl,_,rfl,_,rfl,lb,xs,(kk.1:Int), .ref rb,rfl,rfl,SqL.of (s5 _ _ hl),aB bb,rb,_,1,xm,rfl,rfl,SqT.of aC,rfl,_,rfl,?_⟩;refine⟨xm, .ref rf,b.lim,kk.2,12,442,rfl,d0,aX cb,ub.gf,gk,by decide,fun z1 H6 f1 s6 dH d7 e1 g1=>?_⟩
   refine⟨.ref rt,z1,tt,f1,1+i*455,454,rfl,aX (s6 _ _ bi),dH,a3,g1,by omega,fun z2 H7 f2 s7 dV d6 e2 g2=>?_⟩
   obtain⟨r2,rfl,cI⟩:=bS dV;refine ah ?_;refine⟨s5.trans (s6.trans s7),r2,f2,_,_,_,rfl,cI,?_,?_⟩
   . have:1+(i+1)*455=1+i*455+454+1:=by rw[Nat.succ_mul];omega
     rw[this];exact g2
   . rw[e2,e1,au,d2,pY,pX,v];rfl
 intro σ H5 z_;refine hZq fun q_ e_=>?_;obtain⟨s5,rt,tt,v3,v4,v5,rfl,bi,a3,au⟩:=z_;subst e_;rw[wl,A3]at au;clear a6 s4 s3 cd t0
 try dsimp only
 refine uH ?_;refine bV (rest:= []) rfl ?_;refine⟨_,rfl,lb,rfl,⟨_,SqL.of (s5 _ _ hl)⟩,fun L1 bY=>?_⟩;refine cF (xs:=xs) (fun j acc H'=>Same H5 H'/\H' L1=some (.lst acc)/\acc.length<=j/\((∃b∈bs.take j,b.st=true)->0 < acc.length)) ⟨aa bY,a8,zu _,fun⟨b,m,_⟩=>by rw[Ar]at m;cases m⟩ (fun j acc H' p=>SqL.of (p.1 _ _ (s5 _ _ hl))) ?_ ?_
 . intro j x acc H' hj ex z_;refine hZq fun q_ e_=>?_;obtain⟨s6,hL,al,a4⟩:=z_;obtain⟨t,et,ht⟩:=(hT.mono (Kd.of_same (s5.trans s6))).get' ex;rw[zr]at et;obtain⟨b,l,rfl⟩:=zy.mp et;obtain⟨rb,xw,xm,b8,rfl,aC,_,_,bF⟩:=c6 ht;subst e_;unfold TrAt at bF;subst bF;refine⟨_,rfl,rb,_,2, .bl b.st,rfl,rfl,SqT.of aC,rfl,b.st,rfl,?_⟩;refine ite2 (fun _=>?_) fun dj=>CompS.mk hj ⟨s6,hL,by omega,fun⟨c,mc,hc⟩=>?_⟩
   . refine⟨_,rfl,CompN.mk hj (by omega) hL ⟨aD bY s6,a8,by rw[A6];show acc.length+1<=j+1;omega,fun _=>by rw[A6];show 0 < acc.length+1;omega⟩⟩
   . rw[aq l]at mc;rcases A9.mp mc with mc|mc
     . exact a4 ⟨c,mc,hc⟩
     . rw[A8.mp mc]at hc;exact absurd hc dj
 intro acc H6 z_;refine hZq fun q_ e_=>?_;obtain⟨s6,d3,d8,a4⟩:=z_;subst e_;rw[bl,A3]at a4;refine⟨L1,acc,rfl, .inl (SqL.of d3),(acc.length:Int),0,rfl,rfl,?_⟩;have a2:=s5.trans s6;have bx:=s6 _ _ bi;refine ah ?_
 try dsimp only
 refine mV ?_;refine qk ?_;refine dq (K:=K) (xs:=wv) (a:=lw) (fun Q q=>⟨_,rfl,q⟩) (SqL.of (a2 _ _ hw)) fun bj b7=>?_;refine⟨fun j acc H2=>Same H6 H2/\H2 bj=some (.lst acc)/\TrsAt H2 acc ((cK bs (wk.take j)).map ptT),⟨aa b7,a8, .nil⟩,fun j acc H2 p=>SqL.of (p.1 _ _ (a2 _ _ hw)),?_,?_⟩
 . rintro j z acc H2 hj ⟨s2,a1,hA⟩ ez;have a7:=a2.trans s2;refine hZq fun q_ e_=>?_;obtain⟨t,et,ht⟩:=(hW.mono (Kd.of_same a7)).get' ez;rw[zr]at et;obtain⟨kk,ek,rfl⟩:=zy.mp et;have mk:=zw ek;obtain⟨q,x1,y1,rfl,hq,e,aT⟩:=bE ht;unfold TrAt at e;subst e;obtain⟨l,v⟩:=dR (d.lt kk mk);obtain⟨yb,bb,y⟩:=(hT.mono (Kd.of_same a7)).get (i:=kk.1) (t:=bdT (bs[kk.1]'(d.lt kk mk))) (by rw[zr,l];rfl)
   generalize bs[kk.1]'(d.lt kk mk)=b at l v y;obtain⟨rb,xw,xm,b8,rfl,aC,c3,_,_⟩:=c6 y;subst e_;have al:=hA.len;unfold cK at al;rw[zm,zm,A7]at al;refine⟨q,_,rfl,SqT.of hq,rfl,_,_,rfl,_,_,rfl,rfl,ze,cB ?_⟩;refine⟨_,rfl,_,rfl,lb,xs,(kk.1:Int), .ref rb,rfl,rfl,SqL.of (a7 _ _ hl),aB bb,rb,_,0,xw,rfl,rfl,SqT.of aC,rfl,_,rfl,two,fun p np=>?_⟩;have sp:=aa (o:= .tup [xw,y1]) np;have bC:=sp _ _ a1;have c8:p≠bj:=fun z=>by rw[z,a1]at np;cases np
   have kd:=(Kd.of_same sp).trans (Kd.upd (ys:=acc++ [.ref p]) bC);refine CompN.mk hj (by omega) bC ⟨aD b7 (s2.trans sp),a8,?_⟩
   unfold cK;rw[aq ek,zQ,zQ];refine TrsAt.app (.cons ?_ .nil) (hA.mono kd);dsimp only;rw[zt,l];exact bP ((ae c8).trans a8) (c3.mono kd) (aT.mono kd)
 rintro cm H7 ⟨s7,dI,cn⟩;rw[wl,A3]at cn;have dl:=a2.trans s7;have cp:=s7 _ _ bx;refine⟨bj,cm,TQ,cK bs wk,12,442,rfl,dI,cn,fun p mp=>?_,by decide,by unfold cK;rw[zm];omega,by decide,fun pu us H8 s8 dr b4 _=>?_⟩
 . unfold cK at mp;refine hZq fun q_ e_=>?_;obtain⟨kk,mk,rfl⟩:=zM.mp mp;obtain⟨l,_⟩:=dR (d.lt kk mk);subst e_;have ub:=hU _ (zw l);rw[zt,l];exact⟨ub.asc,ub.mem,fun u m=>⟨(cM _ (ub.mem u m)).1,(cM _ (ub.mem u m)).2,(ub.gp m).1,(ub.gp m).2⟩,d.sh kk mk,c2 kk mk⟩
 obtain rfl:=vO d (gY d.lt) b4;refine⟨by show 0<=sizeLine;decide,fun e0 ne0=>?_⟩
 have t9:=aa (o:= .tup []) ne0;refine⟨[],[],dr.mono (Kd.of_same t9),iu a8 .nil, .inl (by unfold Trs.pure;trivial),by decide,?_⟩
 refine⟨_,rfl,?_⟩;refine ite2 (fun c=>absurd c (by decide)) fun _=>?_
 refine bU ?_;have a5:=(s8.trans t9) _ _ cp;have s9:=dl.trans (s8.trans t9);refine⟨_,rfl,rt,_,0, .int tt.1,rfl,rfl,SqT.of a5,rfl,tt.1,0,rfl,rfl,_,rfl,?_⟩;refine ite2 (fun _=>k _ s9) fun c=>?_;have low:=d.low.resolve_left fun z=>c (decide_eq_true ((uQ a3.pos).mpr (by rw[au];exact z)))
 have t0:tt.1=0:=(wK a3.pos).mpr (by rw[au];exact low.1)
 refine⟨_,rfl,rt,_,0, .int tt.1,rfl,rfl,SqT.of a5,rfl,rfl,_,rfl,?_⟩;rw[t0];refine ite2 (fun _=>?_) fun c=>absurd rfl c;refine⟨_,rfl,?_⟩
 have pos:(0:Int) < (acc.length:Int):=by
  refine hZq fun q_ e_=>?_;obtain⟨kk,mk,hk⟩:=low.2;obtain⟨l,v⟩:=dR (d.lt kk mk);subst e_;rw[v]at hk;have:=a4 ⟨_,zw l,hk⟩;omega
 rw[decide_eq_true pos];exact k _ s9
end
end K44
namespace L2
open PySem Tre
noncomputable def dz(f:Expr->Option Tr):List Expr->Option (List Tr)
 | []=>some []
 |e::es=>match f e,dz f es with
  |some t,some ts=>some (t::ts)
  |_,_=>none
noncomputable def litE:Nat->Expr->Option Tr
 |0,_=>none
 |n+1,e=>match e with
  | .Constant (.str x) _ _=>some (.str x)
  | .Constant (.int i) _ _=>some (.int i)
  | .UnaryOp .USub (.Constant (.int i) _ _) _=>some (.int (-i))
  | .Tuple es _ _=>if es.length<=100 then(dz (litE n) es).map .tup else none
  |_=>none
noncomputable def litL(n:Nat):Expr->Option (List Tr)
 | .List es _=>if es.length<=100 then dz (litE n) es else none
 |_=>none
def tLit(t:Tr):TE:=fun _ H Q=>∀v H',Same H H'->TrAt H' v t->Q v H'
def vZ(ts:List Tr):TA:=fun _ H Q=>∀vs H',Same H H'->TrsAt H' vs ts->Q vs H'
def yx(ts:List Tr):TE:=fun _ H Q=>∀r vs H',Same H H'->H r=none->H' r=some (.lst vs)->TrsAt H' vs ts->Q (.ref r) H'
section
variable{X:Cx}
theorem PE.imp{e:Expr}{t u:TE}(h:PE X e t)(k:∀σ H Q,u σ H Q->t σ H Q):PE X e u:=fun pins s σ H Q I q=>h pins s σ H Q I (k σ H Q q)
theorem PA.imp{es:List Expr}{t u:TA}(h:PA X es t)(k:∀σ H Q,u σ H Q->t σ H Q):PA X es u:=fun pos pins s σ H Q I q=>h pos pins s σ H Q I (k σ H Q q)
theorem nI{H:Hp}{p:Addr}{o:HO}(h:H p=none):Same H (upd H p o):=fun b u e=>by
 rw[ae (av e h)];exact e
theorem Same.none{H H':Hp}{p:Addr}(s:Same H H')(h:H' p=none):H p=none:=by
 cases e:H p with
 |none=>rfl
 |some o=>rw[s p o e]at h;cases h
theorem i5:∀ {n:Nat} {es:List Expr} {ts:List Tr},dz (litE n) es=some ts->ts.length=es.length
 |n,[],ts,h=>by
  rw[dz]at h;cases h;rfl
 |n,e::es,ts,h=>by
  rw[dz]at h;split at h
  . rename_i t us h1 h2;cases h;rw[zV,zV,i5 h2]
  . cases h
theorem vg:∀n,∀e t,litE n e=some t->PE X e (tLit t)/\∀es,starEach (e::es) X.env=(false,eval e X.env)::starEach es X.env:=by
 intro n
 induction n with
 |zero=>
  intro e t h;rw[litE]at h;cases h
 |succ n g=>
  have b:∀es ts,dz (litE n) es=some ts->PA X es (vZ ts):=by
   intro es
   induction es with
   |nil=>
    intro ts h;rw[dz]at h;cases h;exact PA.imp a9 fun σ H Q q=>q [] H (Same.refl H) .nil
   |cons e es c=>
    intro ts h;rw[dz]at h;split at h
    . rename_i t us h1 h2;cases h;obtain⟨d,f⟩:=g e t h1;refine PA.imp (a0 d (c us h2) (f es)) fun σ H Q q=>?_;intro v H1 s1 hv ws H2 a hw;exact q (v::ws) H2 (s1.trans a) (.cons (hv.mono (Kd.of_same a)) hw)
    . cases h
  intro e t h;unfold litE at h;split at h
  . cases h;exact⟨PE.imp cC fun σ H Q q=>q _ H (Same.refl H) yn,fun es=>rfl⟩
  . cases h;exact⟨PE.imp ac fun σ H Q q=>q _ H (Same.refl H) (by unfold TrAt;rfl),fun es=>rfl⟩
  . cases h;exact⟨PE.imp (c9 bu ac) fun σ H Q q=>⟨_,rfl,q _ H (Same.refl H) (by unfold TrAt;rfl)⟩,fun es=>rfl⟩
  . rename_i es k pos;split at h
    . rename_i hl;obtain⟨ts,h1,h2⟩:=zy.mp h;cases h2;refine⟨PE.imp (aQ (b es ts h1)) fun σ H Q q=>?_,fun es=>rfl⟩;intro vs H1 s1 hv;have l1:=hv.len;have l2:=i5 h1;refine⟨by have:(100:Nat)<=sizeLine:=(by decide +kernel);omega,fun p np=>?_⟩
      have a:=nI (o:= .tup vs) np;exact q (.ref p) _ (s1.trans a) (iu a8 (hv.mono (Kd.of_same a)))
    . cases h
  . cases h
theorem nR(n:Nat):∀ {es:List Expr} {ts:List Tr},dz (litE n) es=some ts->PA X es (vZ ts)
 | [],ts,h=>by
  rw[dz]at h;cases h;exact PA.imp a9 fun σ H Q q=>q [] H (Same.refl H) .nil
 |e::es,ts,h=>by
  rw[dz]at h;split at h
  . rename_i t us h1 h2;cases h;obtain⟨b,c⟩:=vg (X:=X) n e t h1;refine PA.imp (a0 b (nR n h2) (c es)) fun σ H Q q=>?_;intro v H1 s1 hv ws H2 a hw;exact q (v::ws) H2 (s1.trans a) (.cons (hv.mono (Kd.of_same a)) hw)
  . cases h
theorem vf(n:Nat){e:Expr}{ts:List Tr}(h:litL n e=some ts):PE X e (yx ts):=by
 unfold litL at h;split at h
 . rename_i es pos;split at h
   . rename_i hl;refine PE.imp (bX (nR n h)) fun σ H Q q=>?_;intro vs H1 s1 hv;have l1:=hv.len;have l2:=i5 h;refine⟨by have:(100:Nat)<=sizeLine:=(by decide +kernel);omega,fun p np=>?_⟩
     have a:=nI (o:= .lst vs) np;exact q p vs _ (s1.trans a) (s1.none np) a8 (hv.mono (Kd.of_same a))
   . cases h
 . cases h
end
open PySem Tre
noncomputable def asgV:Stmt->Expr
 | .Assign _ v _=>v
 |_=> .Constant .none 0 ⟨0,0,0,0⟩
noncomputable def asgW(s:Stmt)(L:Expr):Stmt:=match s with
 | .Assign ts _ p=> .Assign ts L p
 |s=>s
theorem oM{n:Nat}{L:Expr}{ts:List Tr}(h:litL n L=some ts){tg:Option Expr}{line:Nat}{env:Env}:swapsWith L tg line env=pure false:=by
 unfold litL at h;split at h
 . rfl
 . cases h
end L2
namespace K44
open PySem L2 Mth Tre Wd Su
theorem kLL(K:PySem.W.Frag):PySem.W.kitOne K (.type "list") (.type "list")=some true:=by kernel_rfl
theorem kII(K:PySem.W.Frag):PySem.W.kitOne K (.type "int") (.type "int")=some true:=by kernel_rfl
theorem kIB(K:PySem.W.Frag):PySem.W.kitOne K (.type "int") (.type "bool")=some false:=by kernel_rfl
theorem ue{vs:List V}{n:Nat}:cutV vs none (some (n:Int))=vs.take n:=by
 unfold cutV;rw[HT.sIx_nat,HT.sIx_none];simp[List.take_eq_take_iff]
theorem TrsAt.take{H:Hp}:∀ {vs:List V} {ts:List Tr} (n:Nat),TrsAt H vs ts->TrsAt H (vs.take n) (ts.take n)
 |vs,ts,0,_=>by rw[Ar,Ar];exact .nil
 |vs,[],n+1,h=>by
  unfold TrsAt at h;subst h;exact .nil
 |vs,t::ts,n+1,h=>by
  obtain⟨v,r,rfl,h1,h2⟩:=h.inv;exact .cons h1 (TrsAt.take n h2)
theorem vP{b:Bnd}(h:Ub b):(bdT b).pure/\(bdT b).depth<=20:=by
 have gq:∀u∈b.ps,Gq 12 u:=fun u m=>⟨(cM _ (h.mem u m)).1,(cM _ (h.mem u m)).2,(h.gp m).1,(h.gp m).2⟩
 obtain⟨c,d1⟩:Trs.pure (b.ps.map prT)/\Trs.depth (b.ps.map prT)<=8:=jf fun t m=>by
  obtain⟨u,a,rfl⟩:=zM.mp m;exact⟨fU (gq u a).pr.1,(gq u a).pr.2⟩
 refine⟨?_,?_⟩
 . simp[bdT,sumT,frT,Tr.pure,Trs.pure,c]
 . simp only[bdT,sumT,frT,Tr.depth,Trs.depth];omega
theorem uq{bs:List Bnd}(h:∀b∈bs,Ub b):Trs.pure (bs.map bdT)/\Trs.depth (bs.map bdT)<=20:=jf fun t m=>by
 obtain⟨b,mb,rfl⟩:=zM.mp m;exact vP (h b mb)
theorem g9{T0:Addr}{ps:Array Value}{H H':Hp}(hT:H T0=some (.tbl ps))(b:ButT T0 H H'):Kd H H':=
 ⟨fun a xs e=>b _ _ (fun z=>by rw[z,hT]at e;cases e) e,fun a xs e=>⟨xs,b _ _ (fun z=>by rw[z,hT]at e;cases e) e⟩⟩
structure Kp (T0:Addr) (H:Hp) (lb lp:Addr) (bvs:List V) (bs:List Bnd) (wk:List Wt):Prop where
 b:H lb=some (.lst bvs)
 t:TrsAt H bvs (bs.map bdT)
 p:H lp=some (.lst (plV wk))
 lm:Lm T0 H
theorem Kp.same{T0:Addr}{H H':Hp}{lb lp:Addr}{bvs:List V}{bs:List Bnd}{wk:List Wt}(s:Same H H')(h:Kp T0 H lb lp bvs bs wk):Kp T0 H' lb lp bvs bs wk:=⟨s _ _ h.b,h.t.mono (Kd.of_same s),s _ _ h.p,h.lm.same s⟩
theorem Kp.butT{T0:Addr}{H H':Hp}{lb lp:Addr}{bvs:List V}{bs:List Bnd}{wk:List Wt}(x:ButT T0 H H')(lm:Lm T0 H')(h:Kp T0 H lb lp bvs bs wk):Kp T0 H' lb lp bvs bs wk:=by
 obtain⟨c,a⟩:=h.lm.tbl;exact⟨x _ _ (fun z=>by have:=h.b;rw[z,a]at this;cases this) h.b,h.t.mono (g9 a x),x _ _ (fun z=>by have:=h.p;rw[z,a]at this;cases this) h.p,lm⟩
theorem pJ:∀ {ns:List Nat} {n:Nat},ns.Pairwise (· < ·)->(∀x∈ns,x < n)->(∀i,i < n->i∈ns)->ns=List.range n:=by
 intro ns n h1 h2 h3
 have nd:ns.Nodup:=by
  rw[Al];exact h1.imp fun h z=>by omega
 have pm:ns.Perm (List.range n):=(List.perm_ext_iff_of_nodup nd List.nodup_range).mpr fun x=>⟨fun m=>Af.mpr (h2 x m),fun m=>h3 x (Af.mp m)⟩;exact pm.eq_of_pairwise (le:=(· < ·)) (fun a b _ _ h h'=>by omega) h1 List.pairwise_lt_range
theorem ke{bs:List Bnd}{js:List Nat}(hU:∀b∈bs,Ub b)(hj:∀j∈js,j < bs.length):∀b∈ba bs js,Ub b:=fun b mb=>by
 unfold ba at mb;obtain⟨j,a,rfl⟩:=zM.mp mb;rw[zt,zo (hj j a)];exact hU _ (A4 _)
theorem bW{bs:List Bnd}{js:List Nat}:(ba bs js).length=js.length:=by unfold ba;rw[zm]
def plc(wk:List Wt):List Nat:=wk.map (·.1)
section
variable{P:Program}{w:World}{K:PySem.W.Frag}{mg:Str->Option Value}{base:Heap}{T0:Addr}
theorem km{T0:Addr}{H:Hp}{lb lp:Addr}{bvs:List V}{bs:List Bnd}{wk:List Wt}{Q:VK}{v0 v1 v3 v5 v6 v7 v8:Option V}(hK:Kp T0 H lb lp bvs bs wk)(hlt:∀k∈wk,k.1 < bs.length)(w8:wk.length<=8)(h:∀L acc H',Same H H'->H' L=some (.lst acc)->TrsAt H' acc ((ba bs (plc wk)).map bdT)->Q (.ref L) H'):
 bQ [none,some 2] (iY K (tVar 4)) (aH 0) cH (tOp (rIxL K) (tVar 1) (tVar 0)) [v0,v1,some (.ref lb),v3,some (.ref lp),v5,v6,v7,v8] H Q:=by
 have o:(20000:Nat)<=sizeLine:=by decide +kernel
 have pl:(plV wk).length=wk.length:=by unfold plV;rw[zm]
 refine bM rfl ?_;refine⟨_,rfl,lp,rfl,⟨_,SqL.of hK.p⟩,fun L q=>?_⟩;refine bG (xs:=plV wk) (fun j acc H'=>Same H H'/\H' L=some (.lst acc)/\TrsAt H' acc ((ba bs (plc (wk.take j))).map bdT)) ⟨aa q,a8, .nil⟩ (fun j acc H' p=>SqL.of (p.1 _ _ hK.p)) ?_ ?_
 . rintro j x acc H' r ex ⟨f,a,g⟩;have d:j < wk.length:=by omega
   have n:wk[j]?=some wk[j]:=zo d;have lk:=hlt _ (A4 d);have c:=aq n;generalize wk[j]=kk at n lk c
   have ex':x= .int (kk.1:Int):=by
    unfold plV at ex;rw[zr,n]at ex;exact(zN ex).symm
   subst ex';obtain⟨yb,m,l⟩:=(hK.t.mono (Kd.of_same f)).get (i:=kk.1) (t:=bdT bs[kk.1]) (by rw[zr,zo lk];rfl)
   have al:=g.len;rw[zm,bW]at al;unfold plc at al;rw[zm,A7]at al;refine⟨_,rfl,_,rfl,lb,bvs,(kk.1:Int),yb,rfl,rfl,SqL.of (f _ _ hK.b),aB m,?_⟩;refine CompN.mk r (by omega) a ⟨aD q f,a8,?_⟩
   have e:ba bs (plc (wk.take (j+1)))=ba bs (plc (wk.take j))++ [bs[kk.1]]:=by
    unfold ba plc;rw[c,zQ,zQ];show _++ [bs.getD kk.1 _]=_;rw[zt,zo lk];rfl
   rw[e,zQ];exact TrsAt.app (.cons (l.mono (Kd.upd a)) .nil) (g.mono (Kd.upd a))
 . rintro acc H2 ⟨f,a,g⟩;rw[pl,A3]at g;exact h L acc H2 f a g
theorem oO{T0:Addr}{H:Hp}{lb lp:Addr}{bvs:List V}{bs:List Bnd}{wk:List Wt}{Q:VK}{q:Nat}{v0 v1 v3 v5 v6 v8:Option V}(hK:Kp T0 H lb lp bvs bs wk)(hlt:∀k∈wk,k.1 < bs.length)(w8:wk.length<=8)(h:∀L acc H',Same H H'->H' L=some (.lst acc)->TrsAt H' acc ((ba bs ((plc wk).filter fun x=>decide (x≠q))).map bdT)->Q (.ref L) H'):
 bQ [none,some 2,some 7] (iY K (tVar 4)) (aH 0) (mW (tOp rNe (tVar 0) (tVar 2))) (tOp (rIxL K) (tVar 1) (tVar 0)) [v0,v1,some (.ref lb),v3,some (.ref lp),v5,v6,some (.int (q:Int)),v8] H Q:=by
 have s:(20000:Nat)<=sizeLine:=by decide +kernel
 have pl:(plV wk).length=wk.length:=by unfold plV;rw[zm]
 refine bV rfl ?_;refine⟨_,rfl,lp,rfl,⟨_,SqL.of hK.p⟩,fun L u=>?_⟩;refine cF (xs:=plV wk) (fun j acc H'=>Same H H'/\H' L=some (.lst acc)/\TrsAt H' acc ((ba bs ((plc (wk.take j)).filter fun x=>decide (x≠q))).map bdT)) ⟨aa u,a8, .nil⟩ (fun j acc H' p=>SqL.of (p.1 _ _ hK.p)) ?_ ?_
 . intro j x acc H' r ex z_;refine hZq fun q_ e_=>?_;obtain⟨d,a,f⟩:=z_;have l:j < wk.length:=by omega
   have o:wk[j]?=some wk[j]:=zo l;have lk:=hlt _ (A4 l);have g:=aq o;generalize wk[j]=kk at o lk g
   have ex':x= .int (kk.1:Int):=by
    unfold plV at ex;rw[zr,o]at ex;exact(zN ex).symm
   subst ex';obtain⟨yb,n,m⟩:=(hK.t.mono (Kd.of_same d)).get (i:=kk.1) (t:=bdT bs[kk.1]) (by rw[zr,zo lk];rfl)
   subst e_;have al:=f.len;rw[zm,bW]at al;have fl:=Aa (fun x=>decide (x≠q)) (plc (wk.take j));unfold plc at fl;rw[zm,A7]at fl
   have e:(plc (wk.take (j+1))).filter (fun x=>decide (x≠q))=(plc (wk.take j)).filter (fun x=>decide (x≠q))++if kk.1=q then[]else[kk.1]:=by
    unfold plc;rw[g,zQ,Ai];congr 1;by_cases z:kk.1=q
    . simp[z]
    . simp[z]
   refine⟨_,rfl,_,rfl,rfl,_,rfl,?_⟩;refine ite2 (fun c=>?_) fun c=>CompS.mk r ⟨d,a,?_⟩
   . have z:¬kk.1=q:=by
      intro z;rw[z]at c;simp at c
     refine⟨_,rfl,_,rfl,lb,bvs,(kk.1:Int),yb,rfl,rfl,SqL.of (d _ _ hK.b),aB n,?_⟩;refine CompN.mk r (by unfold plc at al;omega) a ⟨aD u d,a8,?_⟩
     rw[e,if_neg z]
     have v:ba bs ((plc (wk.take j)).filter (fun x=>decide (x≠q))++ [kk.1])=ba bs ((plc (wk.take j)).filter fun x=>decide (x≠q))++ [bs[kk.1]]:=by
      unfold ba;rw[zQ];show _++ [bs.getD kk.1 _]=_;rw[zt,zo lk];rfl
     rw[v,zQ];exact TrsAt.app (.cons (m.mono (Kd.upd a)) .nil) (f.mono (Kd.upd a))
   . have z:kk.1=q:=by
      refine Classical.byContradiction fun z=>c ?_;have:¬(V.int (kk.1:Int)=V.int (q:Int)):=fun y=>z (by have:=V.int.inj y;omega)
      simp[this]
     rw[e,if_pos z,AH];exact f
 . rintro acc H2 ⟨d,a,f⟩;rw[pl,A3]at f;exact h L acc H2 d a f
theorem qC{sp:Sp}{dvs:List V}{E:XK}{te tf:TE}{σ:L2.St}{H:Hp}{Q:Bool->Hp->Prop}(h:te σ H fun v H1=>tf σ H1 fun u H2=>sp ([v,u]++dvs) H2 (fun x H3=>∃b,x= .bl b/\Q (!b) H3) E):tNot (tB (iG sp dvs E (cW te (cW tf tNil)))) σ H Q:=h
theorem oK{sp:Sp}{dvs:List V}{E:XK}{te:TE}{g:TG}{Z:Ends}{σ:L2.St}{H:Hp}(h:te σ H fun v H1=>sp ([v]++dvs) H1 (fun x H2=>g x σ H2 Z.nx) E):tAsg (iG sp dvs E (cW te tNil)) g Z σ H:=h
theorem qp{te:TE}{g:TG}{U:TS}{Z:Ends}{σ:L2.St}{H:Hp}(h:te σ H fun v H1=>g v σ H1 (U Z)):tSeq (tAsg te g) U Z σ H:=h
def ni(K:PySem.W.Frag)(T0:Addr):Sp:=fun vs H Q _=>∃(a:Addr) (ns:List Int),vs= [.ref a]/\SqL K H a (ns.map V.int)/\ns.length<=63/\Lm T0 H/\∀H',Q (.bl true) H'
noncomputable def nLa:List Str:= ["_law_script","_law_some","_law_bounds_here","_law_handed","_law_places","_law_found","_law_k","_law_place","_law_rest"]
theorem scL:FnScope nLa ["_law_script"] (ag sLaw):= .of
noncomputable abbrev bdL(i:Nat):Stmt:=(aP sLaw).getD i (.Pass ⟨0,0,0,0⟩)
theorem xO:aP sLaw=asgW (bdL 0) (asgV (bdL 0))::(aP sLaw).drop 1:=rfl
theorem xP:litL 9 (asgV (bdL 0))=some TQ:=rfl
theorem xz{f:Addr}{fd:FuncData}(F:Fun K "law" "law" sLaw f fd)(B:Blt mg)(zBo:Cl P w K mg base 4 "_law_bounds" ["_law_script","_law_terms"] (gH K))(zLp:Cl P w K mg base 45 "least_places" ["bounds"] (rh P w K T0))(zWg:Cl P w K mg base 44 "weighed" ["bounds"] (mY P w K T0))(zD:Cl P w K mg base 1 "_law_draw" ["_law_script","_law_k","_law_many"] (jt K))(zMe:Cl P w K mg base 3 "_law_meets" ["_law_bounds_here","_law_numbers"] (jr P w K))(zBe:Cl P w K mg base 4 "_law_borne" ["_law_bounds_here","_law_weights"] ju):
 FnOk P w K mg base CX0 46 f fd ["_law_script"] (ni K T0):=by
 refine F.okb scL fun vs H Q E h=>?_;refine hZq fun q_ e_=>?_;obtain⟨a,ns,rfl,hS,c4,d2,k⟩:=h;subst e_;refine⟨rfl,fun er A outer s hr=>?_⟩;have eB:=xO;have e1:=xP;rw[eB];clear eB;generalize asgV (bdL 0)=L1 at e1 ⊢;have ed:=hr.units;have ee:Room 1 _:=hr.mono (by omega)
 have c3:Room 3 _:=hr.mono (by omega)
 have dl:Room 4 _:=hr.mono (by omega)
 have bw:Room 44 _:=hr.mono (by omega)
 have c2:=zZ (AB (show 60<=64 by decide) _) ed
 have cd:(["_law_place","_law_bounds_here"]:List Str).Nodup:=by decide +kernel
 have d9:(["_law_other","_law_bounds_here","_law_place"]:List Str).Nodup:=by decide +kernel
 have nd:=scL.nd
 refine⟨_,ad (psA 1 nd (vf 9 e1) rfl rfl (oM e1))
  (ad (psR 2 nd (aj zBo dl (a0 (pv 0) (a0 (kA nA (pv 1) nO (nN (am aY ac (aj zD ee (a0 (pv 0) (a0 ac (a0 ac a9))))))) a9))))
  (ad (psA 3 nd (bp f9 rfl B.li PyProof.Rows.boot_list (a0 (pv 2) a9)))
  (ad (psA 4 nd (aj zLp hr (a0 (pv 3) a9)))
  (ad (bh (aw (sK c2) (pv 3) (pv 2) (ay _)) (af (ar cZ)) aI)
  (ad (bh (rW (wP (pv 4)) (ay _))
   (ad (psA 5 nd (aj zWg bw (a0 (pv 2) a9)))
   (af (ar (sI (dY dy (ak aE (pv 5) ac fun _ _=>rfl) cC (ay _)) (m6 (aj zMe c3 (a0 (pv 2) (a0 (ak aE (pv 5) ac fun _ _=>rfl) a9)))))))) aI)
  (ad (bh (PW.pt (iN (gQ (cO (aA (r:=rIsi K) ip rfl B.isi cj (a0 (pv 4) (a0 (jG (v:= .ty "list") rfl B.li PyProof.Rows.boot_list rfl) a9))))) (gP (aw dy (aA ax rfl B.le PySem.boot_len (a0 (pv 4) a9)) ac (ay _))))) (af (ar cZ)) aI)
  (ad (bK PassesOwn.never rfl (cA rfl B.ra (a0 (aA ax rfl B.le PySem.boot_len (a0 (pv 4) a9)) a9)) (pgA 6 nd)
   (ad (bh (PW.pt (iN (gQ (cO (aA (r:=rIsi K) ip rfl B.isi cj (a0 (ak ao (pv 4) (pv 6) fun _ _=>rfl) (a0 (jG (v:= .ty "int") rfl B.it PyProof.Rows.boot_int rfl) a9))))) (iN (cO (aA (r:=rIsi K) ip rfl B.isi cj (a0 (ak ao (pv 4) (pv 6) fun _ _=>rfl) (a0 (jG (v:= .ty "bool") rfl B.bo PyProof.Rows.boot_bool rfl) a9)))) (gP (gQ (rX yT iQ ac (ak ao (pv 4) (pv 6) fun _ _=>rfl) (aA ax rfl B.le PySem.boot_len (a0 (pv 2) a9)))))))) (af (ar cZ)) aI)
   (af (bh (PW.pt (fi (aw dc (pv 6) ac (ay _)) (dX (aw yU (ak ao (pv 4) (am dL (pv 6) ac) fun _ _=>rfl) (ak ao (pv 4) (pv 6) fun _ _=>rfl) (ay _))))) (af (ar cZ)) aI))))
  (ad (psA 5 nd (aj zWg bw (a0 (aO (NC:= ["_law_place","_law_bounds_here"]) (mp:= [none,some 2]) rfl (aJ (pv 4)) (fun _ _ _ _ _=>pgA 0 cd) (fun _ _ _ _ _=>aR) (fun _ _ _ _ _=>ak (r:=rIxL K) ao (pv 1) (pv 0) fun _ _=>rfl)) a9)))
  (ad (bh (PW.pt (iN (aw iP (ak aE (pv 5) ac fun _ _=>rfl) cC (ay _)) (gP (gQ (cO (aj zBe dl (a0 (aO (NC:= ["_law_place","_law_bounds_here"]) (mp:= [none,some 2]) rfl (aJ (pv 4)) (fun _ _ _ _ _=>pgA 0 cd) (fun _ _ _ _ _=>aR) (fun _ _ _ _ _=>ak (r:=rIxL K) ao (pv 1) (pv 0) fun _ _=>rfl)) (a0 (ak aE (pv 5) ac fun _ _=>rfl) a9)))))))) (af (ar cZ)) aI)
  (ad (bK PassesOwn.never rfl (aJ (pv 4)) (fW (i:=7) nd rfl (Or.inr rfl))
   (ad (eV (i:=8) (NC:= ["_law_other","_law_bounds_here","_law_place"]) (mp:= [none,some 2,some 7]) rfl nd rfl rfl rfl (aJ (pv 4)) (fun _ _ _ _ _=>pgA 0 d9) (fun _ _ _ _ _=>cy (aw iP (pv 0) (pv 2) (ay _))) (fun _ _ _ _ _=>ak (r:=rIxL K) ao (pv 1) (pv 0) fun _ _=>rfl))
   (ad (psA 5 nd (aj zWg bw (a0 (pv 8) a9)))
   (af (bh (PW.pt (iN (aw iP (ak aE (pv 5) ac fun _ _=>rfl) cC (ay _)) (gP (gQ (cO (aj zMe c3 (a0 (pv 8) (a0 (ak aE (pv 5) ac fun _ _=>rfl) a9)))))))) (af (ar cZ)) aI)))))
  (af (ar cZ)))))))))))),?_⟩
 have em:(20000:Nat)<=sizeLine:=by decide +kernel
 intro l ws H1 s1 nl hl hT;refine ah ?_
 try dsimp only
 refine⟨_,rfl,_,rfl,_,rfl,a,ns,1,4,rfl,SqL.same s1 hS,c4,by decide,by decide,by decide,fun r r0 r4 _=>?_⟩
 obtain⟨n,rfl⟩:∃n:Nat,r=(n:Int):=⟨r.toNat,by omega⟩
 refine⟨1,(n:Int),rfl,rfl,1+(n:Int),rfl,l,ws,rfl,SqL.of hl,fun p np=>?_⟩;rw[show 1+(n:Int)=((n+1:Nat):Int)by omega,ue]
 have sp:=aa (o:= .lst (ws.take (n+1))) np;have s2:=s1.trans sp;refine⟨a,ns,p,_,n+1,rfl,SqL.same s2 hS,c4,a8,TrsAt.take _ (hT.mono (Kd.of_same sp)),by omega,by omega,fun lb bvs bs H2 s3 ek bT hB hU b1 b8=>?_⟩
 have bI:=d2.same (s2.trans s3);clear sp s1;refine ah ?_
 try dsimp only
 refine⟨_,rfl,lb,_,rfl, .inl (SqL.of bT),fun lh dH=>?_⟩;have t3:=aa (o:= .lst bvs) dH;have a4:=a8 (H:=H2) (a:=lh) (o:= .lst bvs);have aC:=t3 _ _ bT;have bx:=hB.mono (Kd.of_same t3);have a2:=bI.same t3;generalize upd H2 lh (.lst bvs)=H3 at t3 a4 aC bx a2 ⊢;refine ah ?_
 try dsimp only
 have d0:∀b∈bs,∀p∈b.ps,Sh p.2:=fun b mb p mp=>((hU b mb).gp mp).2;obtain⟨eo,bB⟩:=a2.tbl;refine cu (fun σ' H4=>ButT T0 H3 H4/\Lm T0 H4/\∃v,σ'= [some (.ref a),some (.ref l),some (.ref lb),some (.ref lh),some v,none,none,none,none]/\((v= .non/\∃g,Met g bs)\/∃lp wk,v= .ref lp/\H4 lp=some (.lst (plV wk))/\Wts bs wk/\oE bs wk)) ?_ fun nx a3=>?_;rotate_left
 . refine⟨_,rfl,lh,bvs,bs,rfl,a4,bx,hU,b8,a2,fun H' bt lm hM=>?_,fun lp wk H' bt lm u _ m hL=>?_⟩
   . exact a3 _ _ ⟨bt,lm,_,rfl, .inl ⟨rfl,hM⟩⟩
   . exact a3 _ _ ⟨bt,lm,_,rfl, .inr ⟨lp,wk,rfl,u,m,hL⟩⟩
 intro σ' H4 z_;refine hZq fun q_ e_=>?_;obtain⟨bt,a1,v,rfl,hv⟩:=z_;have t:H4 lb=some (.lst bvs):=bt _ _ (fun z=>by rw[z,bB]at aC;cases aC) aC
 have bR:H4 lh=some (.lst bvs):=bt _ _ (fun z=>by rw[z,bB]at a4;cases a4) a4
 have a6:=bx.mono (g9 bB bt);obtain⟨pb,db⟩:=uq hU;subst e_;refine⟨_,rfl,_,rfl,lh,lb,bvs,bvs,bs.map bdT,bs.map bdT,rfl,rfl,bR,t,a6,a6, .inl pb,by omega,?_⟩
 rw[eqTs_refl];refine⟨_,rfl,?_⟩;refine iteF (bU ?_);refine⟨_,rfl,_,rfl,?_⟩;have gbd:∀b∈bs,Gbd TQ 12 b:=fun b mb=>(hU b mb).gbd;rcases hv with⟨rfl,g,hM⟩|⟨lp,wk,rfl,u,m,dj⟩
 . rw[decide_eq_true rfl];refine iteT ?_;refine⟨_,rfl,lb,bvs,bs,TQ,12,4096,6,7776,4,CC,rfl,t,a6,gbd,by decide,by decide,by omega,by decide,Ub.bz hU b8,a1,fun r l H' ws2 us2 us Tb i y h=>?_,fun r d H' us Tb M G y h=>?_⟩
   . refine hZq fun q_ e_=>?_;obtain⟨_,_,_,_,_,_,m,_⟩:=h.good hU b8 y;subst e_;exact(never d0 (fun k mk=>⟨_,zo (m.lt k mk),hM _ (A4 _)⟩) m).elim
   . refine hZq fun q_ e_=>?_;obtain⟨d',bi,G',aT,hD,hG,cb,bj⟩:=h.good hU b8 y
     have d6:H' lb=some (.lst bvs):=h.bt _ _ (fun z=>by
      obtain⟨c8,a5⟩:=a1.tbl
      rw[z,a5]at t;cases t) t
     obtain⟨c8,a5⟩:=a1.tbl;subst e_;refine ah ?_
     try dsimp only
     refine⟨_,rfl,r,_,0,_,rfl,rfl,SqT.of aT,rfl,rfl,_,rfl,?_⟩;rw[decide_eq_true rfl];refine iteT ?_;exact⟨_,rfl,_,rfl,r,_,1,_,rfl,rfl,SqT.of aT,rfl,lb,d',bvs,bs,442,bi,G',rfl,d6,a6.mono (g9 a5 h.bt),hU,hD,hG,by decide,cb,bj,fun cp _=>k cp⟩
 have ne:¬(V.ref lp=V.non):=fun z=>by cases z
 rw[decide_eq_false ne];refine iteF (bU ?_);have cn:Kp T0 H4 lb lp bvs bs wk:=⟨t,a6,u,a1⟩
 have dr:(plc wk).Nodup:=by
  unfold plc;rw[Al,AR];exact m.asc.imp fun h z=>by omega
 have w8:wk.length<=8:=by
  have:=Fm.sub_len dr (U:=List.range bs.length) fun q mq=>by
   obtain⟨k,mk,rfl⟩:=zM.mp mq;exact Af.mpr (m.lt k mk)
  unfold plc at this;rw[zm,Aj]at this;omega
 have w0:0 < wk.length:=List.length_pos_iff.mpr m.ne;have pl:(plV wk).length=wk.length:=by unfold plV;rw[zm]
 have bY:∀ {i:Nat} (h:i < wk.length),(plV wk)[i]?=some (.int ((wk[i]).1:Int)):=fun{i} h=>by
  unfold plV;rw[zr,zo h];rfl
 have bl:=a6.len;rw[zm]at bl
 have pj:∀j∈plc wk,j < bs.length:=fun j mj=>by
  unfold plc at mj;obtain⟨kk,mk,rfl⟩:=zM.mp mj;exact m.lt kk mk
 have pa:(plc wk).Pairwise (· < ·):=by
  unfold plc;rw[AR];exact m.asc
 have b4:(plc wk).length=wk.length:=by unfold plc;rw[zm]
 clear t3 a4 bR aC bx a2 bt bB bT hB bI d2 dH ek;refine⟨_,rfl, .ref lp, .ty "list",_,true,rfl, .of (.lst u), .inl ⟨rfl,kLL K⟩,_,rfl,?_⟩;refine iteF ?_;refine⟨_,rfl,lp,plV wk,rfl, .inl (SqL.of u),rfl,_,rfl,?_⟩
 have nz:¬(V.int ((plV wk).length:Int)=V.int 0):=fun z=>by
  have:=V.int.inj z;omega
 rw[decide_eq_false nz];refine iteF (bU ?_);refine⟨_,rfl,lp,plV wk,rfl, .inl (SqL.of u),((plV wk).length:Int),rfl,by omega,by omega,?_⟩
 rw[AA,pl];refine e6 (n:=wk.length) (fun i σ H'=>H'=H4/\∃v6,σ= [some (.ref a),some (.ref l),some (.ref lb),some (.ref lh),some (.ref lp),none,v6,none,none]) ⟨rfl,none,rfl⟩ ?_ ?_
 . rintro i σ H' hi ⟨rfl,v6,rfl⟩;rw[AD];refine ah ?_
   try dsimp only
   have pi:=bY hi;have lk:=m.lt _ (A4 hi);refine⟨_,rfl,_,rfl,lp,plV wk,(i:Int),_,rfl,rfl,SqL.of u,aB pi, .int _, .ty "int",_,true,rfl, .of (.int _), .inl ⟨rfl,kII K⟩,_,rfl,?_⟩;refine iteF ?_;refine⟨_,rfl,_,rfl,lp,plV wk,(i:Int),_,rfl,rfl,SqL.of u,aB pi, .int _, .ty "bool",_,false,rfl, .of (.int _), .inl ⟨rfl,kIB K⟩,_,rfl,?_⟩;refine iteF ?_;refine⟨_,rfl,_,rfl,lp,plV wk,(i:Int),_,rfl,rfl,SqL.of u,aB pi,0,_,rfl,rfl,_,rfl,?_⟩;rw[decide_eq_true (by omega)]
   refine iteT ?_;refine⟨_,rfl,lb,bvs,rfl, .inl (SqL.of t),_,(bvs.length:Int),rfl,rfl,_,rfl,?_⟩;rw[decide_eq_true (by omega)]
   refine iteF (bU ?_);refine⟨_,rfl,(i:Int),0,rfl,rfl,_,rfl,?_⟩;refine ite2 (fun c=>?_) fun _=>iteF ⟨rfl,_,rfl⟩;have i0:=of_decide_eq_true c;have ej:=bY (i:=i - 1) (by omega)
   have lt:=An.mp m.asc (i - 1) i (by omega) hi (by omega)
   refine⟨_,rfl,_,rfl,(i:Int),1,rfl,rfl,lp,plV wk,(i:Int) - 1,_,rfl,rfl,SqL.of u,by rw[show(i:Int) - 1=((i - 1:Nat):Int)by omega];exact aB ej,_,rfl,_,rfl,lp,plV wk,(i:Int),_,rfl,rfl,SqL.of u,aB pi,_,_,rfl,rfl,_,rfl,?_⟩
   rw[decide_eq_false (by omega)]
   exact iteF ⟨rfl,_,rfl⟩
 rintro σ H' ⟨rfl,v6,rfl⟩;refine bU ?_
 try dsimp only
 have a7:=ke hU pj;have sl:(ba bs (plc wk)).length<=8:=by rw[bW,b4];exact w8
 refine cu (fun σ' H5=>Kp T0 H5 lb lp bvs bs wk/\∃(r lw:Addr) (wv:List V) (vk:List Wt),σ'= [some (.ref a),some (.ref l),some (.ref lb),some (.ref lh),some (.ref lp),some (.ref r),v6,none,none]/\H5 r=some (.tup [.str (Str.ofString "weights"), .ref lw])/\H5 lw=some (.lst wv)/\TrsAt H5 wv (vk.map wtT)/\Wts (ba bs (plc wk)) vk/\∀k∈vk,Gf 442 k.2) ?_ fun nx a3=>?_;rotate_left
 . refine oK ?_;refine km cn m.lt w8 fun L acc H5 s5 hL hA=>?_;have bg:=cn.same s5;refine⟨L,acc,ba bs (plc wk),TQ,12,4096,6,7776,4,CC,rfl,hL,hA,fun b mb=>(a7 b mb).gbd,by decide,by decide,by omega,by decide,Ub.bz a7 sl,bg.lm,fun r l H' ws2 us2 us Tb i y h=>?_,fun r d H' us Tb M G y h=>?_⟩
   . refine hZq fun q_ e_=>?_;obtain⟨lw,wv,vk,aT,d3,eg,cm,_,d5⟩:=h.good a7 sl y;subst e_;exact a3 _ _ ⟨bg.butT h.bt h.lm,r,lw,wv,vk,rfl,aT,d3,eg,cm,d5⟩
   . refine hZq fun q_ e_=>?_;obtain⟨_,bi,G',_,_,_,_,bj⟩:=h.good a7 sl y;subst e_;refine(never d0 (g:=gw bi G') (fun kk mk=>⟨_,zo (m.lt kk mk),bj _ ?_⟩) m).elim;unfold ba plc;rw[At];refine zM.mpr ⟨kk,mk,?_⟩;show bs.getD kk.1 _=_;rw[zt,zo (m.lt kk mk)];rfl
 intro σ' H5 z_;refine hZq fun q_ e_=>?_;obtain⟨bg,r,lw,wv,vk,rfl,dI,ec,ea,au,el⟩:=z_;subst e_
 have dV:∀k∈vk,k.1 < (plc wk).length:=fun k mk=>by
  have:=au.lt k mk
  rwa [bW]at this
 have hR:vk.map (·.1)=List.range (ba bs (plc wk)).length:=by
  have d8:=au.lift pj pa;refine pJ (by rw[AR];exact au.asc) (fun x mx=>?_) fun i hi=>?_
  . obtain⟨kk,mk,rfl⟩:=zM.mp mx;exact au.lt kk mk
  . rw[bW,b4]at hi;refine hZq fun q_ e_=>?_
    obtain⟨kk,mk,e⟩:=dj _ d8 (fun kk mk=>by
     have:=i8 dV kk mk;unfold plc at this;obtain⟨p,mp,e⟩:=zM.mp this
     exact⟨p,mp,e⟩) _ (A4 hi)
    unfold lift at mk;obtain⟨kv,mv,rfl⟩:=zM.mp mk;subst e_;refine zM.mpr ⟨kv,mv,?_⟩;have lq:=dV kv mv;dsimp only at e;rw[zt,zo lq]at e
    have e':(plc wk)[kv.1]=(plc wk)[i]'(by rw[b4];exact hi):=by
     show(plc wk)[kv.1]=(wk.map (·.1))[i]'(by rw[zm];exact hi)
     rw[List.getElem_map];exact e
    exact(List.getElem_inj dr).mp e'
 refine cu (fun σ' H6=>Kp T0 H6 lb lp bvs bs wk/\σ'= [some (.ref a),some (.ref l),some (.ref lb),some (.ref lh),some (.ref lp),some (.ref r),v6,none,none]) ?_ fun nx a3=>?_;rotate_left
 . refine⟨_,rfl,r,_,0,_,rfl,rfl,SqT.of dI,rfl,rfl,_,rfl,?_⟩;refine ite2 (fun c=>absurd c (by simp)) fun _=>?_
   refine qC ?_;refine km bg m.lt w8 fun L acc H6 s6 hL hA=>?_;refine⟨_,rfl,r,_,1,_,rfl,rfl,SqT.of (s6 _ _ dI),rfl,L,lw,acc,wv,ba bs (plc wk),vk,rfl,hL,hA,a7,sl,s6 _ _ ec,ea.mono (Kd.of_same s6),au,hR,el,fun H7 s7=>?_⟩;refine⟨_,rfl,?_⟩;exact iteF (a3 _ _ ⟨bg.same (s6.trans s7),rfl⟩)
 rintro σ' H6 ⟨cI,rfl⟩;refine⟨_,rfl,lp,rfl,⟨_,SqL.of cI.p⟩,?_⟩;refine cE (xs:=plV wk) (fun i σ H'=>Kp T0 H' lb lp bvs bs wk/\∃v5 v7 v8,σ= [some (.ref a),some (.ref l),some (.ref lb),some (.ref lh),some (.ref lp),v5,v6,v7,v8]) ⟨cI,_,_,_,rfl⟩ (fun i σ H' _ p=>SqL.of p.1.p) ?_ ?_
 . intro i x σ H7 ex z_;refine hZq fun q_ e_=>?_;obtain⟨b7,v5,v7,v8,rfl⟩:=z_;subst e_
   have hi:i < wk.length:=by
    have:=(zv.mp ex).1;omega
   rw[bY hi]at ex;obtain rfl:=zN ex;have mk:=A4 hi;generalize wk[i]=kk at mk;refine ah ?_
   try dsimp only
   refine qp ?_;refine oO (q:=kk.1) b7 m.lt w8 fun L acc H8 s8 hL hA=>?_;have b6:=b7.same s8;refine ah ?_
   try dsimp only
   have rj:∀j∈(plc wk).filter (fun x=>decide (x≠kk.1)),j < bs.length:=fun j mj=>pj j (Ag.mp mj).1;have ra:((plc wk).filter fun x=>decide (x≠kk.1)).Pairwise (· < ·):=pa.sublist List.filter_sublist;have bb:=ke hU rj
   have rl:(ba bs ((plc wk).filter fun x=>decide (x≠kk.1))).length<=8:=by
    rw[bW];have:=Aa (fun x=>decide (x≠kk.1)) (plc wk);omega
   refine⟨_,rfl,L,acc,_,TQ,12,4096,6,7776,4,CC,rfl,hL,hA,fun b mb=>(bb b mb).gbd,by decide,by decide,by omega,by decide,Ub.bz bb rl,b6.lm,fun r l H' ws2 us2 us Tb i y h=>?_,fun r d H' us Tb M G y h=>?_⟩
   . refine hZq fun q_ e_=>?_;obtain⟨_,_,d4,_,_,_,bF,_⟩:=h.good bb rl y;subst e_;exfalso
     have bC:∀k∈d4,k.1 < ((plc wk).filter fun x=>decide (x≠kk.1)).length:=fun k mk=>by
      have:=bF.lt k mk
      rwa [bW]at this
     obtain⟨kq,mq,eq⟩:=dj _ (bF.lift rj ra) (fun k mk=>by
      have:=(Ag.mp (i8 bC k mk)).1;unfold plc at this;obtain⟨p,mp,e⟩:=zM.mp this
      exact⟨p,mp,e⟩) _ mk
     have:=(Ag.mp (i8 bC kq mq)).2;simp[eq]at this
   . refine hZq fun q_ e_=>?_;obtain⟨d',bi,G',aT,hD,hG,cb,bj⟩:=h.good bb rl y;have d7:=b6.butT h.bt h.lm;obtain⟨c8,a5⟩:=b6.lm.tbl;subst e_;have eb:H' L=some (.lst acc):=h.bt _ _ (fun z=>by rw[z,a5]at hL;cases hL) hL
     have ef:=hA.mono (g9 a5 h.bt);refine ah ?_
     try dsimp only
     refine⟨_,rfl,r,_,0,_,rfl,rfl,SqT.of aT,rfl,rfl,_,rfl,?_⟩;refine ite2 (fun c=>absurd c (by simp)) fun _=>?_
     refine⟨_,rfl,_,rfl,r,_,1,_,rfl,rfl,SqT.of aT,rfl,L,d',acc,_,442,bi,G',rfl,eb,ef,bb,hD,hG,by decide,cb,bj,fun cp s''=>?_⟩
     refine⟨_,rfl,?_⟩;exact iteF ⟨d7.same s'',_,_,_,rfl⟩
 . intro σ H7 z_;refine hZq fun q_ e_=>?_;obtain⟨b7,v5,v7,v8,rfl⟩:=z_;subst e_;exact k _
end
end K44
namespace K44
open PySem L2 Mth Wd
theorem ex0{n:Nat}(us:List Value)(hl:us.length=n+1):∃a vs,us=a::vs/\vs.length=n:=by
 cases us with
 |nil=>cases hl
 |cons a vs=>exact⟨a,vs,rfl,Nat.succ.inj hl⟩
theorem ex1(us:List Value)(hl:us.length=1):∃a,us= [a]:=by
 obtain⟨a,vs,rfl,h⟩:=ex0 us hl;exact⟨a,by rw[List.eq_nil_of_length_eq_zero h]⟩
theorem ex2(us:List Value)(hl:us.length=2):∃a b,us= [a,b]:=by
 obtain⟨a,vs,rfl,h⟩:=ex0 us hl;obtain⟨b,rfl⟩:=ex1 vs h;exact⟨a,b,rfl⟩
theorem ex3(us:List Value)(hl:us.length=3):∃a b c,us= [a,b,c]:=by
 obtain⟨a,vs,rfl,h⟩:=ex0 us hl;obtain⟨b,c,rfl⟩:=ex2 vs h;exact⟨a,b,c,rfl⟩
theorem ex4(us:List Value)(hl:us.length=4):∃a b c d,us= [a,b,c,d]:=by
 obtain⟨a,vs,rfl,h⟩:=ex0 us hl;obtain⟨b,c,d,rfl⟩:=ex3 vs h;exact⟨a,b,c,d,rfl⟩
theorem all_mk{l:PySem.W.OpenLaw}{w:World}{K:PySem.W.Frag}{h:Heap}{mg:Str->Option Value}{fa:Addr}(X:K.In h)(G:h.Ns mainGlobals mg)(hfa:mg "law"=some (.ref fa)){T0 c0:Addr}{fLB:Addr}{odLB anLB:Option Addr}{slLB:Array (Option Value)}{ocLB kVLB dcLB pmLB ctLB:Value}{fCD fFR fBR fST fTO fSE fTM fSH fSC fWH fCT fIS fSL fTU fTD fRE fWA fHC fWB fLI fSP fTL fNU fWG fDR fLW fLP fLT fTG fBO fME fBE fLE fLA:Addr}{dCD dFR dBR dST dTO dSE dTM dSH dSC dWH dCT dIS dSL dTU dTD dRE dWA dHC dWB dLI dSP dTL dNU dWG dDR dLW dLP dLT dTG dBO dME dBE dLE dLA:FuncData}{C fI:Addr}{odI anI:Option Addr}{slI:Array (Option Value)}{ocI kVI dcI pmI cdI ctI:Value}(hCD:FH K "common_divisor" sCd fCD dCD)(hFR:FH K "fraction" sFr fFR dFR)(hBR:FH K "bracketed" sBr fBR dBR)(hST:FH K "shown_term" sSt fST dST)(hTO:FH K "table_of" sTof fTO dTO)(hSE:FH K "settle" sSet fSE dSE)(hTM:FH K "terms_of" sTmo fTM dTM)(hSH:FH K "shares_in" sShi fSH dSH)(hSC:FH K "scale_of" sSco fSC dSC)(hWH:FH K "whole_of" sWho fWH dWH)(hCT:FH K "counts_of" sCto fCT dCT)(hIS:FH K "is_slack" sIsl fIS dIS)(hSL:FH K "slack_lines" sSll fSL dSL)(hTU:FH K "turn" sTur fTU dTU)(hTD:FH K "turned" sTud fTD dTD)(aLB:PySem.W.nsIn K mainGlobals "least_by"=some (some (.ref fLB)))(lLB:K.lookup fLB=some ⟨ocLB,odLB, .func (PySem.W.fnOf "least_by" "least_by" (bc sLby) (aP sLby) (ag sLby) .none kVLB dcLB pmLB anLB (.ref c0) ctLB),slLB⟩)(cLB:PySem.W.codeIn K (.ref c0) "least_by"=true)(kLB:PySem.W.keepIn K (.ref fLB)=true)(hRE:FH K "refuted" sRef fRE dRE)(hWA:FH K "weights_against" sWag fWA dWA)(hHC:FH K "head_counts" sHco fHC dHC)(hWB:FH K "weights_by" sWby fWB dWB)(hLI:FH K "line_of" sLio fLI dLI)(hSP:FH K "strict_point" sStr fSP dSP)(hTL:FH K "term_lines" sTli fTL dTL)(hNU:FH K "numbers_at" sNua fNU dNU)(hWG:FH K "weighed" sWgd fWG dWG)(hDR:FH K "_law_draw" rF fDR dDR)(hLW:FH K "_law_least" lX fLW dLW)(hLP:FH K "_law_plus" lY fLP dLP)(hLT:FH K "_law_times" jx fLT dLT)(hTG:FH K "_law_together" sTog fTG dTG)(hBO:FH K "_law_bounds" jz fBO dBO)(hME:FH K "_law_meets" jy fME dME)(hBE:FH K "_law_borne" lZ fBE dBE)(hLE:FH K "least_places" sLpl fLE dLE)(hLA:FH K "law" sLaw fLA dLA)(aTB:PySem.W.nsIn K mainGlobals "Table"=some (some (.ref C)))(iI:PySem.W.findIn K (.ref C) "__init__"=some (some (.ref fI)))(fnI:PySem.W.isFn K (.ref fI)=true)(lI:K.lookup fI=some ⟨ocI,odI, .func (PySem.W.fnOf "__init__" "Table.__init__" (bc iM) (aP iM) (ag iM) .none kVI dcI pmI anI cdI ctI),slI⟩)(cI:PySem.W.codeIn K cdI "Table.__init__"=true)(kI:PySem.W.keepIn K (.ref fI)=true)(kC:PySem.W.keepIn K (.ref C)=true)(qM:PySem.W.makesIn K C=true)(qG:PySem.W.plainGet K C Str.empty=true)(qD:PySem.W.hasDictIn K C=true)(qO:PySem.W.plainOver K C=true)(qS:PySem.W.findIn K (.ref C) "__setattr__"=some (some (.builtin "object.__setattr__")))(q_terms:PySem.W.findIn K (.ref C) "terms"=some none)(q_scales:PySem.W.findIn K (.ref C) "scales"=some none)(q_lines:PySem.W.findIn K (.ref C) "lines"=some none)(q_bottom:PySem.W.findIn K (.ref C) "bottom"=some none)(q_sides:PySem.W.findIn K (.ref C) "sides"=some none)(q_heads:PySem.W.findIn K (.ref C) "heads"=some none)(z_abs:PySem.W.nsIn K mainGlobals "abs"=some none)(z_len:PySem.W.nsIn K mainGlobals "len"=some none)(z_range:PySem.W.nsIn K mainGlobals "range"=some none)(z_isinstance:PySem.W.nsIn K mainGlobals "isinstance"=some none)(z_tuple:PySem.W.nsIn K mainGlobals "tuple"=some none)(z_int:PySem.W.nsIn K mainGlobals "int"=some none)(z_bool:PySem.W.nsIn K mainGlobals "bool"=some none)(z_list:PySem.W.nsIn K mainGlobals "list"=some none)(z_str:PySem.W.nsIn K mainGlobals "str"=some none)(z_all:PySem.W.nsIn K mainGlobals "all"=some none)(z_any:PySem.W.nsIn K mainGlobals "any"=some none)(z_sum:PySem.W.nsIn K mainGlobals "sum"=some none)(z_zip:PySem.W.nsIn K mainGlobals "zip"=some none)(z_sorted:PySem.W.nsIn K mainGlobals "sorted"=some none)(z_ValueError:PySem.W.nsIn K mainGlobals "ValueError"=some none)(z_repr:PySem.W.nsIn K mainGlobals "repr"=some none)(z_enumerate:PySem.W.nsIn K mainGlobals "enumerate"=some none)(z_max:PySem.W.nsIn K mainGlobals "max"=some none)(z_min:PySem.W.nsIn K mainGlobals "min"=some none)(xT:PySem.W.codeHdIn K c0 T0=true)(xN:K.lookup T0=none):
 ∃c0:Addr,K.lookup T0=none/\PySem.W.codeHdIn K c0 T0=true/\∃fd:FuncData,(∀(s:Shared) (v:Value),BindsTo s fd ⟨[v],[]⟩ [("_law_script",v)])/\∀base:Heap,K.In base->base.Ns mainGlobals mg->base.BuiltinsAt mg T0->FnOk l.prog w K mg base CX0 46 fa fd ["_law_script"] (ni K T0):=by
 have e:=hfa.symm.trans (PySem.W.mg_of X G hLA.ns);cases e;refine hZq fun q_ e_=>?_;obtain⟨_,_,o,k,z,r,m,t,_,rfl,cm,cn⟩:=hLA.ex;subst e_;have B:Blt mg:=⟨PySem.W.mg_none_of X G z_abs,PySem.W.mg_none_of X G z_len,PySem.W.mg_none_of X G z_range,PySem.W.mg_none_of X G z_isinstance,PySem.W.mg_none_of X G z_tuple,PySem.W.mg_none_of X G z_int,PySem.W.mg_none_of X G z_bool,PySem.W.mg_none_of X G z_list,PySem.W.mg_none_of X G z_str,PySem.W.mg_none_of X G z_all,PySem.W.mg_none_of X G z_any,PySem.W.mg_none_of X G z_sum,PySem.W.mg_none_of X G z_zip,PySem.W.mg_none_of X G z_sorted,PySem.W.mg_none_of X G z_ValueError,PySem.W.mg_none_of X G z_repr,PySem.W.mg_none_of X G z_enumerate,PySem.W.mg_none_of X G z_max,PySem.W.mg_none_of X G z_min⟩;have FI:=yc (st:=iM) lI cI kI;have bI:=FI.binds (ps:= ["self","terms","scales","lines"]) fun _ _ _ _ _ _ us hl=>by obtain⟨_,_,_,_,rfl⟩:=ex4 us hl;rfl
 have bB:=PySem.W.mg_of X G aTB;have hC:Tk K C:=⟨⟨qG,qD,qO,qS⟩,q_terms,q_scales,q_lines,q_bottom,q_sides,q_heads⟩;have hM:Mk K C fI:=⟨qM,iI,fnI,kC⟩;have a1:FunC K "least_by" "least_by" sLby fLB _ c0:=⟨⟨_,_,_,_,_,_,_,_,rfl,lLB,cLB⟩⟩;have d:Binds K _ ["one","other"] []:=hCD.b2;have f:=PySem.W.mg_of X G hCD.ns;have bT:Binds K _ ["words"] []:=hBR.b1;have b7:=PySem.W.mg_of X G hBR.ns;have b8:Binds K _ ["term"] []:=hST.b1;have a5:=PySem.W.mg_of X G hST.ns;have u:FH K _ sLby _ _:= .mk' aLB lLB cLB kLB;refine⟨c0,xN,xT,PySem.W.fnOf "law" "law" (bc sLaw) (aP sLaw) (ag sLaw) .none o k z r m t,fun s v=> .of_eq rfl,fun base _ _ hB=>?_⟩;have n:Cl l.prog w K mg base 2 _ _ nj:=hFR.c X G hFR.b2 (xC hFR.fn hCD.fn d f B);have j:Cl l.prog w K mg base 41 _ _ (spSt 40):=hST.c X G hST.b1 (yV hST.fn b8 a5 hBR.fn bT b7 40);have bj:Cl l.prog w K mg base 1 _ _ qW:=hSH.c X G hSH.b1 (xk hSH.fn);have b6:Cl l.prog w K mg base 2 _ _ qY:=hSC.c X G hSC.b1 (xp hSC.fn hCD.fn d f B);have y:Cl l.prog w K mg base 1 _ _ mX:=hWH.c X G hWH.b2 (wV hWH.fn);have bg:Cl l.prog w K mg base 42 _ _ qT:=hTM.c X G hTM.b1 (xg hTM.fn B j);have bR:Cl l.prog w K mg base 42 _ _ rC:=hCT.c X G hCT.b3 (xD hCT.fn j y);have a7:Cl l.prog w K mg base 1 _ _ (rA (K:=K)):=hIS.c X G hIS.b2 (xA hIS.fn B);have g:Cl l.prog w K mg base 2 _ _ (ko (K:=K)):=hSL.c X G hSL.b1 (xj hSL.fn B a7);have a6:Cl l.prog w K mg base 1 _ _ (qQ (K:=K)):=hTD.c X G hTD.b5 (xa hTD.fn B);have x:Cl l.prog w K mg base 2 _ _ (mZ (K:=K)):=hTU.c X G hTU.b3 (wZ hTU.fn B a6);have bw:Cl l.prog w K mg base 2 _ _ (rp (K:=K) T0):=u.c X G u.b2 (xy a1 B xT hB);have gI:FnOk l.prog w K mg base CX0 1 fI _ ["self","terms","scales","lines"] (lU (K:=K) C):=vm FI B;have bi:Cl l.prog w K mg base 3 _ _ (qX (K:=K)):=hSE.c X G hSE.b1 (xo hSE.fn B g x);have bC:Cl l.prog w K mg base 1 _ _ (rB (K:=K)):=hHC.c X G hHC.b2 (xB hHC.fn B);have bF:Cl l.prog w K mg base 3 _ _ (qN (K:=K)):=hWB.c X G hWB.b3 (wX hWB.fn B n);have aT:Cl l.prog w K mg base 4 _ _ (qP (K:=K)):=hWA.c X G hWA.b2 (wY hWA.fn B bC hCD.fn d f bF);have bx:Cl l.prog w K mg base 5 _ _ (qZ (K:=K) T0):=hRE.c X G hRE.b1 (xq hRE.fn B g bw aT x);have bb:Cl l.prog w K mg base 1 _ _ (rn (K:=K)):=hLI.c X G hLI.b2 (xx hLI.fn B);have cb:Cl l.prog w K mg base 2 _ _ (qU (K:=K)):=hTL.c X G hTL.b1 (xh hTL.fn B bb);have cd:Cl l.prog w K mg base 3 _ _ (qV (K:=K)):=hSP.c X G hSP.b1 (xi hSP.fn B g cb);have a3:Cl l.prog w K mg base 3 _ _ (r8 (P:=l.prog) (w:=w) (K:=K)):=hNU.c X G hNU.b2 (xr hNU.fn B n);have bY:Cl l.prog w K mg base 43 _ _ (qR C):=hTO.c X G hTO.b2 (xc hTO.fn B hC bg b6 bj bR y hM gI bI bB bi);have au:Cl l.prog w K mg base 44 _ _ (mY l.prog w K T0):=hWG.c X G hWG.b1 (wW hWG.fn hC bY bx a3 cd);have q:Cl l.prog w K mg base 1 _ _ (jt K):=hDR.c X G hDR.b3 (vo hDR.fn B);have i:Cl l.prog w K mg base 1 _ _ kr:=hLW.c X G hLW.b2 (xv hLW.fn B);have a:Cl l.prog w K mg base 2 _ _ dW:=hLP.c X G hLP.b2 (sN hLP.fn i);have b:Cl l.prog w K mg base 2 _ _ cX:=hLT.c X G hLT.b2 (oU hLT.fn i);have p:Cl l.prog w K mg base 3 _ _ n9:=hTG.c X G hTG.b1 (xb hTG.fn B b a)
 have a2:Cl l.prog w K mg base 4 _ _ (gH K):=hBO.c X G hBO.b2 (oV hBO.fn B q i b a p);have aC:Cl l.prog w K mg base 3 _ _ (jr l.prog w K):=hME.c X G hME.b2 (sM hME.fn B b a);have a4:Cl l.prog w K mg base 4 _ _ ju:=hBE.c X G hBE.b2 (sP hBE.fn B b a p);have b4:Cl l.prog w K mg base 45 _ _ (rh l.prog w K T0):=hLE.c X G hLE.b1 (xu hLE.fn au);exact xz hLA.fn B a2 b4 au q aC a4
theorem walk{l:PySem.W.OpenLaw}{q:Program}{loose:List Str}{XP:(Str->Option Value)->Heap->Prop}{YP:World->Heap->Prop}{d:DefRec}{K:Params->PySem.W.Frag}{T0:Addr}(hn:l.most=some 63)(hdf:d.params.defaults= [])(hY:∀(w:World) (h:Heap),YP w h->(K w.params).In h)(hYT:∀(w:World) (h:Heap),YP w h->h.get? T0=some (PySem.W.tabObj #[]))(F:∀(w:World) (mg:Str->Option Value) (fa:Addr) (h:Heap),(K w.params).In h->h.Ns mainGlobals mg->mg d.name=some (.ref fa)->
  ∃c0:Addr,(K w.params).lookup T0=none/\PySem.W.codeHdIn (K w.params) c0 T0=true/\∃fd:FuncData,(∀(s:Shared) (u:Value),BindsTo s fd ⟨[u],[]⟩ [("_law_script",u)])/\∀base:Heap,(K w.params).In base->base.Ns mainGlobals mg->base.BuiltinsAt mg T0->FnOk l.prog w (K w.params) mg base CX0 46 fa fd ["_law_script"] (ni (K w.params) T0)):
 PySem.W.WalkO q loose XP YP l.row.toRowW d [] (fun f vs=>PySem.call f vs):=
 L2.walk_ofT (n:=63) (k:=46) (x:="_law_script") (CX:=fun _=>CX0) (sp:=fun w T0=>ni (K w.params) T0) hn (by decide) hdf ⟨rfl,by decide,by decide,rfl⟩ hY hYT F (fun _ _ a ns hl c b=>⟨a,ns,rfl,b,hl, .inl c,fun _=>rfl⟩) fun _ _ _ _ _ z=>z
end K44
namespace PySem.W.Fast
def tw5354915700043811480:True:=⟨⟩
def tw17792507049998892830:True:=⟨⟩
def tw748994321783834429:True:=⟨⟩
def tw15782628014192570658:True:=⟨⟩
def tw8374527562519243945:True:=⟨⟩
def tw3329014938281557111:True:=⟨⟩
def tw15718915247624253762:True:=⟨⟩
def tw7542189938897676666:True:=⟨⟩
def tw14999670967303810287:True:=⟨⟩
def tw4787632049592598653:True:=⟨⟩
def tw16057887159420830650:True:=⟨⟩
def tw4700948830343790796:True:=⟨⟩
def tw6632273481988303188:True:=⟨⟩
def tw9460195389588552280:True:=⟨⟩
def tw12328602259146139496:True:=⟨⟩
def tw2194045338446342802:True:=⟨⟩
def tw3337106689801804222:True:=⟨⟩
def tw16672999865027682201:True:=⟨⟩
def tw3910859338603169110:True:=⟨⟩
def tw3122111148189222940:True:=⟨⟩
def tw2294797404432856201:True:=⟨⟩
def tw10133013450717418701:True:=⟨⟩
def tw14810533295980854264:True:=⟨⟩
def tw5767842910245589747:True:=⟨⟩
def tw1867515236858141432:True:=⟨⟩
def tw14418903055350187478:True:=⟨⟩
def tw6920563286971699074:True:=⟨⟩
def tw1857654398049840855:True:=⟨⟩
def tw15566636845622896528:True:=⟨⟩
def tw13399436562487260192:True:=⟨⟩
def tw17724819787223057988:True:=⟨⟩
def tw12228167770751693763:True:=⟨⟩
def tw8531105495889310509:True:=⟨⟩
def tw14687367717583931645:True:=⟨⟩
def tw2952210536061592877:True:=⟨⟩
def tw6544733806780291757:True:=⟨⟩
def tw7714195454957863124:True:=⟨⟩
def tw7259473710574309887:True:=⟨⟩
def tw5673198250464039446:True:=⟨⟩
def tw10180592451632881567:True:=⟨⟩
def tw6863946748137864645:True:=⟨⟩
def tw6833405101734701296:True:=⟨⟩
def tw11673730294468655663:True:=⟨⟩
def tw2810816050501826344:True:=⟨⟩
def tw12660913906434167168:True:=⟨⟩
def tw3376092754712891212:True:=⟨⟩
def tw7245074655243909246:True:=⟨⟩
def tw6507263448055886971:True:=⟨⟩
def tw7067336232009988598:True:=⟨⟩
def tw2596637950413272769:True:=⟨⟩
def tw16790391321398587079:True:=⟨⟩
def tw10561198621573098422:True:=⟨⟩
def tw5607467246827461404:True:=⟨⟩
def tw15934433003915451693:True:=⟨⟩
def tw1901275673887838132:True:=⟨⟩
def tw16622867329632486205:True:=⟨⟩
def tw2928632196536710143:True:=⟨⟩
def tw13376396068498086612:True:=⟨⟩
def tw9732804290875160928:True:=⟨⟩
def tw12410168043231803326:True:=⟨⟩
def tw2685944664619195218:True:=⟨⟩
def tw16779603789490815713:True:=⟨⟩
def tw2108629970496773746:True:=⟨⟩
def tw15168144636942492043:True:=⟨⟩
def tw17260045601016573782:True:=⟨⟩
def tw8485127279001859981:True:=⟨⟩
def tw1903483553968784065:True:=⟨⟩
def tw16838979173875090990:True:=⟨⟩
def tw10781871483894772994:True:=⟨⟩
def tw6580074942872531176:True:=⟨⟩
def tw17615917613083842127:True:=⟨⟩
def tw4519922628835162485:True:=⟨⟩
def tw13731088646368794655:True:=⟨⟩
def tw8264071893486296454:True:=⟨⟩
def tw5501912681558950575:True:=⟨⟩
def tw7199237321440621828:True:=⟨⟩
def tw6678862507161932693:True:=⟨⟩
def tw161160044819955807:True:=⟨⟩
def tw13396282658588067016:True:=⟨⟩
def tw281964999987283846:True:=⟨⟩
def tw12012320991986417947:True:=⟨⟩
def tw11421443206184573825:True:=⟨⟩
def tw4470640379608081153:True:=⟨⟩
def tw10002239938891294042:True:=⟨⟩
def tw16867291040422151210:True:=⟨⟩
def tw15843396891855859547:True:=⟨⟩
def tw10703568662469708854:True:=⟨⟩
def tw8801987287541958410:True:=⟨⟩
def tw4777079028140901306:True:=⟨⟩
def tw7003346676997331926:True:=⟨⟩
def tw13568339821187217604:True:=⟨⟩
def tw14429460427620759974:True:=⟨⟩
def tw13903268980142829617:True:=⟨⟩
def tw18213990054749246700:True:=⟨⟩
def tw6107955111540503308:True:=⟨⟩
def tw6199579952212111304:True:=⟨⟩
def tw2085359166017688959:True:=⟨⟩
def tw3978234784825658554:True:=⟨⟩
def tw13996108138528309868:True:=⟨⟩
def tw9363939839923427438:True:=⟨⟩
def tw15738994936847608541:True:=⟨⟩
end PySem.W.Fast
open PySem PySem.W PyProof.Rows
set_option maxRecDepth 100000 in
set_option maxHeartbeats 0 in
theorem PySem.Challenge.cw_smallword_k44_least_bounds_holds : PySem.Challenge.rw_smallword_k44_least_bounds.Holds := by
  w_on; o_law; k_head; (case hw => w_witness2)
  k_fill
  refine K44.walk (l := PySem.Challenge.rw_smallword_k44_least_bounds) (T0 := _) rfl rfl (fun w h Y => PySem.W.km_in_of Y) (fun w h Y => PySem.W.km_tabs_of Y _ (by first | exact List.mem_cons_self | decide)) ?F
  case F =>
    intro w mg c h b G a;refine' K44.all_mk b G a (.mk' ?_ ?_ ?_ ?_) (.mk' ?_ ?_ ?_ ?_) (.mk' ?_ ?_ ?_ ?_) (.mk' ?_ ?_ ?_ ?_) (.mk' ?_ ?_ ?_ ?_) (.mk' ?_ ?_ ?_ ?_) (.mk' ?_ ?_ ?_ ?_) (.mk' ?_ ?_ ?_ ?_) (.mk' ?_ ?_ ?_ ?_) (.mk' ?_ ?_ ?_ ?_) (.mk' ?_ ?_ ?_ ?_) (.mk' ?_ ?_ ?_ ?_) (.mk' ?_ ?_ ?_ ?_) (.mk' ?_ ?_ ?_ ?_) (.mk' ?_ ?_ ?_ ?_) ?_ ?_ ?_ ?_ (.mk' ?_ ?_ ?_ ?_) (.mk' ?_ ?_ ?_ ?_) (.mk' ?_ ?_ ?_ ?_) (.mk' ?_ ?_ ?_ ?_) (.mk' ?_ ?_ ?_ ?_) (.mk' ?_ ?_ ?_ ?_) (.mk' ?_ ?_ ?_ ?_) (.mk' ?_ ?_ ?_ ?_) (.mk' ?_ ?_ ?_ ?_) (.mk' ?_ ?_ ?_ ?_) (.mk' ?_ ?_ ?_ ?_) (.mk' ?_ ?_ ?_ ?_) (.mk' ?_ ?_ ?_ ?_) (.mk' ?_ ?_ ?_ ?_) (.mk' ?_ ?_ ?_ ?_) (.mk' ?_ ?_ ?_ ?_) (.mk' ?_ ?_ ?_ ?_) (.mk' ?_ ?_ ?_ ?_) (.mk' ?_ ?_ ?_ ?_) ?_ ?_ ?_ ?_ ?_ ?_ ?_ ?_ ?_ ?_ ?_ ?_ ?_ ?_ ?_ ?_ ?_ ?_ ?_ ?_ ?_ ?_ ?_ ?_ ?_ ?_ ?_ ?_ ?_ ?_ ?_ ?_ ?_ ?_ ?_ ?_ ?_ ?xT ?xN
    any_goals k_is
    any_goals kernel_rfl
