import PyProof.Rows.All
import Wide.All
import OpenK.AllK
import Wide.FinOn
import Lean
import PyProof.EqAt
import PyProof.EqKinds
import PyProof.TupleCall
import KE.KSortTup
import PyProof.NeKinds
import PyProof.DictRoadsH
import PyProof.ZipIter
import KE.LcSums
import KE.KListMore
import KE.KDictList
import PyProof.Rows.SortKeyStr
import PyProof.Rows.SortWalk
import KE.KItemsList
import KE.KDictLaws
import PySem.Challenge.RW_smallword_k38_added_up
set_option Elab.async false
set_option linter.all false
set_option maxRecDepth 100000
namespace L2
open PySem PySem.Spec PyProof.Rows
abbrev Key := Sum Int Str
def keyIs : Key → Value → Bool
  | .inl k, v => Value.isInt k v
  | .inr x, v => Value.isStrOf x v
def keyH (w : World) : Key → Int
  | .inl k => hashInt k
  | .inr x => hashStr w x
theorem keyIs_shape : ∀ {k : Key} {v : Value}, keyIs k v = true → (∃ i t, k = Sum.inl i ∧ v = Value.int i t) ∨ (∃ x t, k = Sum.inr x ∧ v = Value.str x t)
  | .inl i, v, h => by
    obtain ⟨t, e⟩ := Value.isInt_shape (k := i) (v := v) h
    exact .inl ⟨i, t, rfl, e⟩
  | .inr x, v, h => by
    obtain ⟨t, e⟩ := Value.isStrOf_shape (x := x) (v := v) h
    exact .inr ⟨x, t, rfl, e⟩
theorem keyIs_int (i : Int) (t : Tok) : keyIs (.inl i) (.int i t) = true := by simp [keyIs, Value.isInt]
theorem keyIs_str (x : Str) (t : Tok) : keyIs (.inr x) (.str x t) = true := by simp [keyIs, Value.isStrOf]
theorem key_ll (a b : Int) : decide ((Sum.inl a : Key) = Sum.inl b) = (a == b) := by
  by_cases e : a = b
  · subst e; simp
  · have h : ¬ (Sum.inl a : Key) = Sum.inl b := fun q => e (Sum.inl.inj q)
    rw [decide_eq_false h]
    exact (beq_eq_false_iff_ne.mpr e).symm
theorem key_rr (a b : Str) : decide ((Sum.inr a : Key) = Sum.inr b) = decide (a = b) := by
  by_cases e : a = b
  · subst e; simp
  · have h : ¬ (Sum.inr a : Key) = Sum.inr b := fun q => e (Sum.inr.inj q)
    rw [decide_eq_false h, decide_eq_false e]
theorem key_lr (a : Int) (b : Str) : decide ((Sum.inl a : Key) = Sum.inr b) = false := decide_eq_false (fun q => nomatch q)
theorem key_rl (a : Str) (b : Int) : decide ((Sum.inr a : Key) = Sum.inl b) = false := decide_eq_false (fun q => nomatch q)

def mixKind (prog : Program) (w : World) : PySem.KeyKind prog w Key where
  is := keyIs
  hash := keyH w
  inj := fun v a b ha hb => by
    rcases keyIs_shape ha with ⟨i, t, rfl, rfl⟩ | ⟨x, t, rfl, rfl⟩
    · rcases keyIs_shape hb with ⟨j, u, rfl, e⟩ | ⟨y, u, rfl, e⟩
      · injection e with e1 _; rw [e1]
      · exact nomatch e
    · rcases keyIs_shape hb with ⟨j, u, rfl, e⟩ | ⟨y, u, rfl, e⟩
      · exact nomatch e
      · injection e with e1 _; rw [e1]
  byValue := fun k v h => by
    rcases keyIs_shape h with ⟨i, t, rfl, rfl⟩ | ⟨x, t, rfl, rfl⟩ <;> rfl
  pyHash := fun hv h => by
    rcases keyIs_shape hv with ⟨i, t, rfl, rfl⟩ | ⟨x, t, rfl, rfl⟩
    · exact wpAny_pyHash_int h
    · exact wpAny_pyHash_str h
  eqBool := fun hu hv h => by
    rcases keyIs_shape hu with ⟨i, t, rfl, rfl⟩ | ⟨x, t, rfl, rfl⟩
    · rcases keyIs_shape hv with ⟨j, u, rfl, rfl⟩ | ⟨y, u, rfl, rfl⟩
      · rw [key_ll] at h; exact wpAny_eqBool_int h
      · rw [key_lr] at h; exact SeqAt.EqAt.int_str i t y u _ _ _ _ h
    · rcases keyIs_shape hv with ⟨j, u, rfl, rfl⟩ | ⟨y, u, rfl, rfl⟩
      · rw [key_rl] at h; exact SeqAt.EqAt.str_int x t j u _ _ _ _ h
      · rw [key_rr] at h; exact wpAny_eqBool_str h
  «strs» := fun k x t v h => by
    rcases keyIs_shape h with ⟨i, u, rfl, e⟩ | ⟨y, u, rfl, e⟩
    · exact nomatch e
    · injection e with e1 _
      subst e1
      cases v <;> rfl

end L2
namespace L2
open PySem PySem.Spec PyProof.Rows
inductive V where
  | non | bl (b : Bool) | int (i : Int) | str (x : Str) | byt (b : Array UInt8) | flt (b : UInt64) | ref (a : Addr) | ty (n : String)
  deriving DecidableEq

def RelV : V → Value → Prop
  | .non, u => u = Value.none
  | .bl b, u => u = Value.bool b
  | .int i, u => ∃ t, u = Value.int i t
  | .str x, u => ∃ t, u = Value.str x t
  | .byt b, u => ∃ t, u = Value.bytes b t
  | .flt b, u => ∃ t, u = Value.float b t
  | .ref a, u => u = Value.ref a
  | .ty n, u => u = Value.type n

abbrev Vals : List V → List Value → Prop := Paired RelV
theorem Vals.length {xs : List V} {us : List Value} (r : Vals xs us) : xs.length = us.length := Paired.length r
theorem Vals.get : ∀ {xs : List V} {us : List Value} {i : Nat} {x : V}, Vals xs us → xs[i]? = some x → ∃ u, us[i]? = some u ∧ RelV x u
  | _, _, _, _, .nil, e => by simp at e
  | _, _, 0, _, .cons r _, e => by simp at e; subst e; exact ⟨_, rfl, r⟩
  | _, _, i + 1, x, .cons _ t, e => by
    obtain ⟨u, h1, h2⟩ := Vals.get (i := i) (x := x) t (by simpa using e)
    exact ⟨u, by simpa using h1, h2⟩
theorem Vals.set {x : V} {u : Value} (r : RelV x u) : ∀ {xs : List V} {us : List Value} (i : Nat), Vals xs us → Vals (xs.set i x) (us.set i u)
  | _, _, _, .nil => .nil
  | _, _, 0, .cons _ t => .cons r t
  | _, _, i + 1, .cons q t => .cons q (Vals.set r i t)
theorem Vals.append : ∀ {xs ys : List V} {us ws : List Value}, Vals xs us → Vals ys ws → Vals (xs ++ ys) (us ++ ws)
  | _, _, _, _, .nil, s => s
  | _, _, _, _, .cons r t, s => .cons r (Vals.append t s)
theorem Vals.take : ∀ {xs : List V} {us : List Value} (n : Nat), Vals xs us → Vals (xs.take n) (us.take n)
  | _, _, 0, _ => .nil
  | _, _, _ + 1, .nil => .nil
  | _, _, n + 1, .cons r t => .cons r (Vals.take n t)
theorem Vals.drop : ∀ {xs : List V} {us : List Value} (n : Nat), Vals xs us → Vals (xs.drop n) (us.drop n)
  | _, _, 0, r => r
  | _, _, _ + 1, .nil => .nil
  | _, _, n + 1, .cons _ t => Vals.drop n t
def RelO : Option V → Option Value → Prop
  | some v, some u => RelV v u
  | none, none => True
  | _, _ => False
def KV {κ : Type} : List (κ × V) → List (κ × Value) → Prop := Paired fun (p : κ × V) (q : κ × Value) => p.1 = q.1 ∧ RelV p.2 q.2

def kV : Key → V
  | .inl i => .int i
  | .inr x => .str x

inductive HO where
  /-- a list -/
  | lst (xs : List V)
  /-- a tuple (never changes) -/
  | tup (xs : List V)
  /-- a dict whose keys are ints and texts; one whose keys are tuples of ints and texts (the empty one is both) -/
  | dK (kvs : List (Key × V)) | dT (kvs : List (List Key × V))
  /-- a set of ints: its members, its size -/
  | set (S : Int → Bool) (n : Nat)
  /-- an instance of the class at C, its dict at dx, its attributes -/
  | ins (C dx : Addr) (fs : List (Str × V))
  /-- the dict of the instance at x -/
  | own (x : Addr)
  /-- the dict of an exception -/
  | xd (fs : List (Str × V))
  /-- a bound method, f of x -/
  | met (f x : Addr)
  /-- a range object lo, lo + 1, .. below hi -/
  | rng (lo hi : Int)
  /-- a thing that is known to the object (the script; a dict while a loop walks it): read, never written while it is so -/
  | frz (o : Obj) (u : HO)
  /-- a code object's table -/
  | tbl (ps : Array Value)
  /-- any other thing, by what is true of its one object (a def of one's own: SetO a S n := HO.ext fun h => ..) -/
  | ext (φ : Heap → Prop)

abbrev Hp := Addr → Option HO
def upd (H : Hp) (a : Addr) (o : HO) : Hp := fun b => if b = a then some o else H b
theorem upd_same {H : Hp} {a : Addr} {o : HO} : upd H a o a = some o := by unfold upd; rw [if_pos rfl]
theorem upd_ne {H : Hp} {a b : Addr} {o : HO} (h : b ≠ a) : upd H a o b = H b := by unfold upd; rw [if_neg h]
theorem ne_of_none {H : Hp} {a b : Addr} {o : HO} (h : H a = some o) (h' : H b = none) : a ≠ b := by
  intro e; subst e; rw [h] at h'; cases h'

section
variable (P : Program) (w : World)
def ObjOk (H : Hp) (h : Heap) (a : Addr) : HO → Prop
  | .lst xs => xs.length ≤ sizeLine ∧ ∃ (its : List Value) (n : Nat), Vals xs its ∧ h.get? a = some { cls := .type "list", data := .seq its.toArray n }
  | .tup xs => xs.length ≤ sizeLine ∧ ∃ its : List Value, Vals xs its ∧ IsTup h a its.toArray
  | .dK kvs => kvs.length ≤ sizeLine ∧ (a == sysModules) = false ∧ ∃ vs, KV kvs vs ∧ h.DictOf (mixKind P w) a vs
  | .dT kvs => kvs.length ≤ sizeLine ∧ (a == sysModules) = false ∧ ∃ xs : List (List Key × Addr × Value),
      Paired (fun (p : List Key × V) (q : List Key × Addr × Value) => p.1 = q.1 ∧ H q.2.1 = some (.tup (p.1.map kV)) ∧ RelV p.2 q.2.2) kvs xs ∧
      ∃ o es ep, h.get? a = some o ∧ o.ExactDict ∧ o.data = .dict es ep ∧ es.toList = xs.map (entryOfKey (tupleKind (mixKind P w))) ∧ (xs.map (·.1)).Nodup
  | .set S n => h.SetOf (intKind P w) a S n
  | .ins C dx fs => H dx = some (.own a) ∧ fs.length ≤ 1000 ∧ dx ≠ a ∧ h.get? a = some (PySem.W.instObj C dx) ∧
      ∃ mA, h.Ns1 dx mA ∧ (∀ f, RelO (fs.lookup f) (mA f)) ∧ PySem.Within mA (fs.map (·.1))
  | .own _ => ∃ o, h.get? a = some o
  | .xd fs => ∃ mA, h.Ns1 a mA ∧ ∀ f, RelO (fs.lookup f) (mA f)
  | .rng lo hi => ∃ t u v, h.get? a = some { cls := .type "range", data := .fields #[.int lo t, .int hi u, .int 1 v] }
  | .frz o u => h.get? a = some o ∧ ObjOk H h a u
  | .tbl ps => h.get? a = some { cls := .none, data := .fields ps }
  | .met f x => h.get? a = some (PySem.W.methodObj (.ref f) (.ref x))
  | .ext φ => φ h ∧ (∃ o, h.get? a = some o) ∧ ∀ h1 h2 : Heap, φ h1 → (∀ o, h1.get? a = some o → h2.get? a = some o) → φ h2
def HOk (H : Hp) (h : Heap) : Prop := ∀ a o, H a = some o → ObjOk P w H h a o
end
section
variable {P : Program} {w : World} {H H' : Hp} {h h' : Heap} {a : Addr} {o : HO}
theorem ObjOk.lt (x : ObjOk P w H h a o) : a < h.objs.size := by
  cases o with
  | lst xs => obtain ⟨_, _, _, _, e⟩ := x; exact Heap.lt_size e
  | tup xs => obtain ⟨_, _, _, p⟩ := x; exact p.lt
  | dK kvs => obtain ⟨_, _, _, _, o, _, _, e, _⟩ := x; exact Heap.lt_size e
  | dT kvs => obtain ⟨_, _, _, _, o, _, _, e, _⟩ := x; exact Heap.lt_size e
  | set S n => obtain ⟨o, _, _, _, e, _⟩ := x; exact Heap.lt_size e
  | ins C dx fs => obtain ⟨_, _, _, e, _⟩ := x; exact Heap.lt_size e
  | own y => obtain ⟨_, e⟩ := x; exact Heap.lt_size e
  | xd fs => obtain ⟨_, ⟨_, _, _, e, _⟩, _⟩ := x; exact Heap.lt_size e
  | rng lo hi => obtain ⟨_, _, _, e⟩ := x; exact Heap.lt_size e
  | frz ob u => obtain ⟨e, _⟩ := x; exact Heap.lt_size e
  | tbl ps => exact Heap.lt_size (show h.get? a = some _ from x)
  | met f y => exact Heap.lt_size (show h.get? a = some _ from x)
  | ext φ => obtain ⟨_, ⟨_, e⟩, _⟩ := x; exact Heap.lt_size e
theorem Paired.mapP {α β : Type} {F G : α → β → Prop} : ∀ {l₁ : List α} {l₂ : List β}, Paired F l₁ l₂ → (∀ a b, F a b → G a b) → Paired G l₁ l₂
  | _, _, .nil, _ => .nil
  | _, _, .cons r t, f => .cons (f _ _ r) (Paired.mapP t f)
theorem Paired.imp' {α β : Type} {F G : α → β → Prop} (f : ∀ a b, F a b → G a b) {l₁ : List α} {l₂ : List β} (r : Paired F l₁ l₂) : Paired G l₁ l₂ := Paired.mapP r f
theorem ObjOk.stay (x : ObjOk P w H h a o) (k : ∀ b u, (b = a ∨ H b = some (.own a)) → h.get? b = some u → h'.get? b = some u)
    (ho : ∀ b, H b = some (.own a) → H' b = some (.own a)) (ht : ∀ b xs, H b = some (.tup xs) → H' b = some (.tup xs)) : ObjOk P w H' h' a o := by
  induction o with
  | lst xs => obtain ⟨z, its, n, r, e⟩ := x; exact ⟨z, its, n, r, k _ _ (.inl rfl) e⟩
  | tup xs => obtain ⟨z, its, r, ob, e, c⟩ := x; exact ⟨z, its, r, ob, k _ _ (.inl rfl) e, c⟩
  | dK kvs => obtain ⟨z, y, vs, r, ob, es, ep, e, c⟩ := x; exact ⟨z, y, vs, r, ob, es, ep, k _ _ (.inl rfl) e, c⟩
  | dT kvs =>
    obtain ⟨z, y, xs, r, ob, es, ep, e, c⟩ := x
    exact ⟨z, y, xs, Paired.mapP r fun p q z => ⟨z.1, ht _ _ z.2.1, z.2.2⟩, ob, es, ep, k _ _ (.inl rfl) e, c⟩
  | set S n => obtain ⟨ob, es, ep, t, e, c⟩ := x; exact ⟨ob, es, ep, t, k _ _ (.inl rfl) e, c⟩
  | ins C dx fs =>
    obtain ⟨d, z, ne, e, mA, ⟨od, es, ep, e2, c⟩, r⟩ := x
    exact ⟨ho _ d, z, ne, k _ _ (.inl rfl) e, mA, ⟨od, es, ep, k _ _ (.inr d) e2, c⟩, r⟩
  | own y => obtain ⟨ob, e⟩ := x; exact ⟨ob, k _ _ (.inl rfl) e⟩
  | xd fs => obtain ⟨mA, ⟨od, es, ep, e, c⟩, r⟩ := x; exact ⟨mA, ⟨od, es, ep, k _ _ (.inl rfl) e, c⟩, r⟩
  | rng lo hi => obtain ⟨t, u, v, e⟩ := x; exact ⟨t, u, v, k _ _ (.inl rfl) e⟩
  | frz ob u ih => obtain ⟨e, q⟩ := x; exact ⟨k _ _ (.inl rfl) e, ih q⟩
  | tbl ps =>
    have e : h.get? a = some { cls := .none, data := .fields ps } := x
    show h'.get? a = some { cls := .none, data := .fields ps }
    exact k a _ (.inl rfl) e
  | met f y =>
    have e : h.get? a = some (PySem.W.methodObj (.ref f) (.ref y)) := x
    show h'.get? a = some (PySem.W.methodObj (.ref f) (.ref y))
    exact k a _ (.inl rfl) e
  | ext φ => obtain ⟨p, ⟨o, e⟩, st⟩ := x; exact ⟨st _ _ p fun o q => k _ _ (.inl rfl) q, ⟨o, k _ _ (.inl rfl) e⟩, st⟩
theorem HOk.lt (x : HOk P w H h) (e : H a = some o) : a < h.objs.size := (x a o e).lt
theorem HOk.fresh (x : HOk P w H h) (e : h.objs.size ≤ a) : H a = none := by
  cases q : H a with
  | none => rfl
  | some u => exact absurd (Nat.lt_of_lt_of_le (x.lt q) e) (Nat.lt_irrefl _)
theorem HOk.kept (x : HOk P w H h) (k : ∀ b u, h.get? b = some u → h'.get? b = some u) : HOk P w H h' := fun a o e =>
  (x a o e).stay (fun b u _ q => k b u q) (fun _ q => q) fun _ _ q => q
theorem HOk.laid (x : HOk P w H h) (k : ∀ b u, h.get? b = some u → h'.get? b = some u) (hp : h.objs.size ≤ a) (new : ObjOk P w (upd H a o) h' a o) : HOk P w (upd H a o) h' := fun b u e => by
  have hn := x.fresh hp
  by_cases hb : b = a
  · subst hb; rw [upd_same] at e; cases e; exact new
  · rw [upd_ne hb] at e
    exact (x b u e).stay (fun c v _ q => k c v q) (fun c q => by rw [upd_ne (ne_of_none q hn)]; exact q) fun c xs q => by rw [upd_ne (ne_of_none q hn)]; exact q
end
def Rd (H : Hp) (a : Addr) (u : HO) : Prop := H a = some u ∨ ∃ o, H a = some (.frz o u)
theorem Rd.of {H : Hp} {a : Addr} {u : HO} (h : H a = some u) : Rd H a u := .inl h
theorem Rd.ok {P : Program} {w : World} {H : Hp} {h : Heap} {a : Addr} {u : HO} (r : Rd H a u) (x : HOk P w H h) : ObjOk P w H h a u := by
  rcases r with r | ⟨o, r⟩
  · exact x a u r
  · obtain ⟨_, q⟩ := x a _ r
    exact q
def Mut : Option HO → Prop
  | some (.lst _) => True
  | some (.dK _) => True
  | some (.dT _) => True
  | some (.set _ _) => True
  | some (.ins _ _ _) => True
  | some (.ext _) => True
  | _ => False
section
variable {P : Program} {w : World} {H : Hp} {h h' : Heap} {x e : Addr} {o' : HO}
theorem HOk.write (ok : HOk P w H h) (mu : Mut (H x)) (he : e = x ∨ H e = some (.own x)) (k : ∀ b u, b ≠ e → h.get? b = some u → h'.get? b = some u) (heo : ∃ u, h'.get? e = some u)
    (new : ObjOk P w (upd H x o') h' x o') : HOk P w (upd H x o') h' := fun b u q => by
  have nown : ∀ c y, H c = some (.own y) → c ≠ x := fun c y r z => by subst z; rw [r] at mu; exact mu
  have ntup : ∀ c xs, H c = some (.tup xs) → c ≠ x := fun c xs r z => by subst z; rw [r] at mu; exact mu
  by_cases hb : b = x
  · subst hb; rw [upd_same] at q; cases q; exact new
  · rw [upd_ne hb] at q
    by_cases hbe : b = e
    · have q' : H b = some (.own x) := by
        rcases he with z | z
        · exact absurd (hbe.trans z) hb
        · rw [hbe]; exact z
      rw [q] at q'; cases q'
      obtain ⟨v, hv⟩ := heo
      exact ⟨v, by rw [hbe]; exact hv⟩
    · refine (ok b u q).stay (fun c v hc r => k c v ?_ r) (fun c r => by rw [upd_ne (nown c b r)]; exact r) fun c xs r => by rw [upd_ne (ntup c xs r)]; exact r
      rcases hc with rfl | hc
      · exact hbe
      · rintro rfl
        rcases he with z | z
        · exact nown c b hc z
        · rw [hc] at z; cases z; exact hb rfl
end
structure Un (fs ex : List Addr) (H H' : Hp) (h h' : Heap) : Prop where
  keep : ∀ b o, h.get? b = some o → H b = none → b ∉ fs → b ∉ ex → h'.get? b = some o
  slot : ∀ b o, h.get? b = some o → H b = none → b ∈ fs → b ∉ ex → ∃ sl, h'.get? b = some { o with slots := sl }
  free : ∀ b o, h.get? b = some o → H b = none → b ∉ ex → H' b = none
  there : ∀ b o, h.get? b = some o → b ∉ ex → ∃ o', h'.get? b = some o'
  tups : ∀ b xs, H b = some (.tup xs) → H' b = some (.tup xs)
  frzs : ∀ b o u, H b = some (.frz o u) → H' b = some (.frz o u)
  tbls : ∀ b ps, H b = some (.tbl ps) → ∃ more, H' b = some (.tbl (ps ++ more))
section
variable {fs fs' ex ex' : List Addr} {H H1 H2 : Hp} {h h1 h2 h' : Heap} {a x e : Addr} {o : HO}
theorem Un.any (u : Un fs ex H H1 h h1) {b : Addr} {ob : Obj} (q : h.get? b = some ob) (n : H b = none) (hx : b ∉ ex) : ∃ sl, h1.get? b = some { ob with slots := sl } := by
  by_cases hb : b ∈ fs
  · exact u.slot b ob q n hb hx
  · exact ⟨ob.slots, u.keep b ob q n hb hx⟩
theorem Un.trans (a : Un fs ex H H1 h h1) (b : Un fs ex H1 H2 h1 h2) : Un fs ex H H2 h h2 where
  keep := fun c ob q n hc hx => b.keep c ob (a.keep c ob q n hc hx) (a.free c ob q n hx) hc hx
  slot := fun c ob q n hc hx => by
    obtain ⟨sl, e1⟩ := a.slot c ob q n hc hx
    obtain ⟨sl', e2⟩ := b.slot c _ e1 (a.free c ob q n hx) hc hx
    exact ⟨sl', e2⟩
  free := fun c ob q n hx => by
    obtain ⟨o', e1⟩ := a.there c ob q hx
    exact b.free c o' e1 (a.free c ob q n hx) hx
  there := fun c ob q hx => by
    obtain ⟨o', e1⟩ := a.there c ob q hx
    exact b.there c o' e1 hx
  tups := fun c xs q => b.tups c xs (a.tups c xs q)
  frzs := fun c ob xs q => b.frzs c ob xs (a.frzs c ob xs q)
  tbls := fun c ps q => by
    obtain ⟨m1, e1⟩ := a.tbls c ps q
    obtain ⟨m2, e2⟩ := b.tbls c _ e1
    exact ⟨m1 ++ m2, by rw [e2, Array.append_assoc]⟩
theorem Un.kept (k : ∀ b u, h.get? b = some u → h'.get? b = some u) : Un fs ex H H h h' :=
  ⟨fun b ob q _ _ _ => k b ob q, fun b ob q _ _ _ => ⟨ob.slots, k b ob q⟩, fun _ _ _ n _ => n, fun b ob q _ => ⟨ob, k b ob q⟩, fun _ _ q => q, fun _ _ _ q => q, fun _ ps q => ⟨#[], by rw [q]; simp⟩⟩
theorem Un.refl : Un fs ex H H h h := Un.kept fun _ _ q => q
theorem Un.laid (k : ∀ b u, h.get? b = some u → h'.get? b = some u) (hp : h.objs.size ≤ a) (hn : H a = none) : Un fs ex H (upd H a o) h h' where
  keep := fun b u q _ _ _ => k b u q
  slot := fun b u q _ _ _ => ⟨u.slots, k b u q⟩
  free := fun b u q n _ => by rw [upd_ne (Nat.ne_of_lt (Nat.lt_of_lt_of_le (Heap.lt_size q) hp))]; exact n
  there := fun b u q _ => ⟨u, k b u q⟩
  tups := fun b xs q => by rw [upd_ne (ne_of_none q hn)]; exact q
  frzs := fun b u xs q => by rw [upd_ne (ne_of_none q hn)]; exact q
  tbls := fun b ps q => ⟨#[], by rw [upd_ne (ne_of_none q hn), q]; simp⟩
theorem Un.write (mu : Mut (H x)) (he : e = x ∨ H e = some (.own x)) (k : ∀ b u, b ≠ e → h.get? b = some u → h'.get? b = some u) (heo : ∃ u, h'.get? e = some u) : Un fs ex H (upd H x o) h h' := by
  have hx : ∀ b, H b = none → b ≠ x := fun b n z => by subst z; rw [n] at mu; exact mu
  have hb : ∀ b, H b = none → b ≠ e := fun b n z => by
    subst z
    rcases he with r | r
    · exact hx b n r
    · rw [n] at r; cases r
  have hm : ∀ b u, H b = some u → ¬ Mut (some u) → b ≠ x := fun b u q nm z => by subst z; rw [q] at mu; exact nm mu
  refine ⟨fun b u q n _ _ => k b u (hb b n) q, fun b u q n _ _ => ⟨u.slots, k b u (hb b n) q⟩, fun b u q n _ => by rw [upd_ne (hx b n)]; exact n, fun b u q _ => ?_,
    fun b xs q => by rw [upd_ne (hm b _ q fun z => z)]; exact q, fun b u xs q => by rw [upd_ne (hm b _ q fun z => z)]; exact q, fun b ps q => ⟨#[], by rw [upd_ne (hm b _ q fun z => z), q]; simp⟩⟩
  by_cases hbe : b = e
  · subst hbe; exact heo
  · exact ⟨u, k b u hbe q⟩
theorem Un.mono (u : Un fs ex H H1 h h1) (hs : ∀ b ∈ fs, b ∈ fs') (hx : ∀ b ∈ ex, b ∈ ex') : Un fs' ex' H H1 h h1 :=
  ⟨fun b ob q n hb he => u.keep b ob q n (fun z => hb (hs b z)) fun z => he (hx b z), fun _ _ q n _ he => u.any q n fun z => he (hx _ z), fun b ob q n he => u.free b ob q n fun z => he (hx b z), fun b ob q he => u.there b ob q fun z => he (hx b z), u.tups, u.frzs, u.tbls⟩
end
def trk (h : Heap) (H : Hp) : List Addr := (List.range h.objs.size).filter fun a => (H a).isSome
def hidT (h : Heap) (H : Hp) : Heap := PySem.W.hideAll h (trk h H)
theorem hidT_size (h : Heap) (H : Hp) : (hidT h H).objs.size = h.objs.size := PySem.W.hideAll_size _ _
theorem hidT_get {h : Heap} {H : Hp} {b : Addr} {o : Obj} (e : h.get? b = some o) (n : H b = none) : (hidT h H).get? b = some o :=
  PySem.W.hideAll_get _ e fun hm => by
    have q : (H b).isSome = true := (List.mem_filter.mp hm).2
    rw [n] at q; simp at q
theorem of_hidT {h : Heap} {H : Hp} {b : Addr} {o : Obj} (e : (hidT h H).get? b = some o) : h.get? b = some o ∧ H b = none := by
  have e' : h.get? b = some o := PySem.W.of_hideAll (trk h H) e
  refine ⟨e', ?_⟩
  cases q : H b with
  | none => rfl
  | some x =>
    have hm : b ∈ trk h H := List.mem_filter.mpr ⟨List.mem_range.mpr (Heap.lt_size e'), by simp [q]⟩
    have z : (hidT h H).get? b = none := PySem.W.hideAll_none (trk h H) hm
    rw [z] at e; cases e

def allNews (g h : Heap) (L : Addr) : List (Addr × Obj) := (List.range h.objs.size).filterMap fun a => if a = L ∨ (g.get? a).isSome = true then none else (h.get? a).map fun o => (a, o)
def rest (g h : Heap) (L d : Addr) : List (Addr × Obj) := (allNews g h L).filter fun p => decide (p.1 ≠ d)
end L2
namespace L2
open PySem PySem.Spec PyProof.Rows
structure Mod (K : PySem.W.Frag) (mg : Str → Option Value) (base : Heap) : Prop where
  kin : K.In base
  glob : base.Ns mainGlobals mg
  blt : ∃ mb, base.Ns builtinsNs mb ∧ ∀ x : Str, x ≠ "__name__" → mb x = bootBuiltins x
  nolimit : base.NoLimit

structure Cx where
  prog : Program
  w : World
  K : PySem.W.Frag
  mg : Str → Option Value
  base : Heap
  A : Around
  N : List Str
  s₀ : Shared
  H₀ : Hp
  env : Env
  outer : List Env
  stack : List Env
  ex : List Addr
  fn : Str → Bool
  calm : Bool
  pn : List (Addr × Obj)
  xe : Value → Shared → Prop
def frs (l : List Env) : List Addr := l.filterMap (·.frame)
abbrev Cx.fs (X : Cx) : List Addr := frs X.outer

def Vis (sc : Scope) (x : Str) : Prop := sc.names.lookup x = some .local ∨ sc.names.lookup x = some .cell ∨ sc.names.lookup x = some .free
def Loc (sc : Scope) (x : Str) : Prop := sc.names.lookup x = some .local ∨ sc.names.lookup x = some .cell
def Look (env : Env) (h : Heap) (m : Str → Option Value) (x : Str) (u : Value) : Prop :=
  (env.kindOf x = some .local ∧ m x = some u) ∨ ((env.kindOf x = some .cell ∨ env.kindOf x = some .free) ∧ ∃ c, env.cells.lookup x = some c ∧ h.IsCell c (some u))

structure Cx.Ok (X : Cx) : Prop where
  mod : Mod X.K X.mg X.base
  kind : X.env.scope.kind = .function
  glob : X.env.globals = mainGlobals
  blt : X.env.builtins = builtinsNs
  above : X.s₀.heap.objs.size ≤ X.env.locals
  inj : ∀ x y c, X.env.cells.lookup x = some c → X.env.cells.lookup y = some c → x = y
  has : ∀ x, (X.env.kindOf x = some .cell ∨ X.env.kindOf x = some .free) → ∃ c, X.env.cells.lookup x = some c
  cab : ∀ x c, X.fn x = true → X.env.cells.lookup x = some c → X.s₀.heap.objs.size ≤ c
  hd : X.calm = true → X.A.handled = none
  frames : X.A.frames = some X.stack
  stk : X.stack = X.outer ∨ (X.stack = X.env :: X.outer ∧ X.env.frame = some X.env.locals)
  exf : ∀ b ∈ X.ex, b ≠ X.env.locals ∧ ∀ x c, X.env.cells.lookup x = some c → c ≠ b
  bs : ∀ b o, X.base.get? b = some o → X.s₀.heap.get? b = some o ∧ X.H₀ b = none
  bsz : X.base.objs.size ≤ X.s₀.heap.objs.size
  noex : ∀ b o, X.base.get? b = some o → b ∉ X.ex
  exfs : ∀ b ∈ X.ex, b ∉ X.fs
  funs : X.s₀.heap.FunFrames X.base X.outer
  frf : ∀ b ∈ X.fs, X.H₀ b = none

structure Inv (X : Cx) (pins : List (Addr × Obj)) (σ : List (Option V)) (H : Hp) (s : Shared) : Prop where
  ok : X.Ok
  os : s.os = X.s₀.os
  bare : AllBare s.gens
  base : Un X.fs X.ex X.H₀ H X.s₀.heap s.heap
  loc : ∃ m, s.heap.Ns X.env.locals m ∧ ∀ (i : Nat) (x : Str) (v : V), X.N[i]? = some x → σ[i]? = some (some v) → Vis X.env.scope x → ∃ u, RelV v u ∧ Look X.env s.heap m x u
  cell : ∀ x c, X.env.cells.lookup x = some c → ∃ v, s.heap.IsCell c v
  free : H X.env.locals = none
  freeC : ∀ x c, X.env.cells.lookup x = some c → H c = none
  pin : ∀ p ∈ X.pn ++ pins, s.heap.get? p.1 = some p.2 ∧ H p.1 = none ∧ p.1 ≠ X.env.locals ∧ p.1 ∉ X.fs ∧ ∀ v, p.2.data ≠ .cell v
  hok : HOk X.prog X.w H s.heap
  len : σ.length = X.N.length

section
variable {X : Cx} {pins : List (Addr × Obj)} {σ : List (Option V)} {H H' : Hp} {s : Shared} {h' : Heap}
theorem Cx.Ok.nofr (ok : X.Ok) {b : Addr} {o : Obj} (e : X.base.get? b = some o) : b ∉ X.fs := fun hb => by
  have := (ok.funs.mem hb).1
  rw [e] at this; cases this
theorem Inv.bs (I : Inv X pins σ H s) : ∀ b o, X.base.get? b = some o → s.heap.get? b = some o ∧ H b = none := fun b o e =>
  ⟨I.base.keep b o (I.ok.bs b o e).1 (I.ok.bs b o e).2 (I.ok.nofr e) (I.ok.noex b o e), I.base.free b o (I.ok.bs b o e).1 (I.ok.bs b o e).2 (I.ok.noex b o e)⟩
theorem Inv.bk (I : Inv X pins σ H s) : ∀ b o, X.base.get? b = some o → s.heap.get? b = some o := fun b o e => (I.bs b o e).1
theorem Inv.mod (I : Inv X pins σ H s) : Mod X.K X.mg X.base := I.ok.mod
theorem Inv.kIn (I : Inv X pins σ H s) : X.K.In s.heap := I.ok.mod.kin.keeps I.bk
theorem Inv.nolimit (I : Inv X pins σ H s) : s.heap.NoLimit := I.ok.mod.nolimit.keeps I.bk
theorem Inv.fr (I : Inv X pins σ H s) : ∃ m, Fr X.base X.env.locals s.heap m :=
  let ⟨m, hn, _⟩ := I.loc
  ⟨m, hn, I.bk, Nat.le_trans I.ok.bsz I.ok.above⟩
theorem Inv.lt (I : Inv X pins σ H s) : X.env.locals < s.heap.objs.size := let ⟨_, hn, _⟩ := I.loc; hn.lt
theorem Inv.sz (I : Inv X pins σ H s) : X.s₀.heap.objs.size ≤ s.heap.objs.size := Nat.le_trans I.ok.above (Nat.le_of_lt I.lt)
theorem Inv.nofs (I : Inv X pins σ H s) {a : Addr} (h : s.heap.objs.size ≤ a) : a ∉ X.fs := fun hb => by
  obtain ⟨_, o, ho, _⟩ := I.ok.funs.mem hb
  exact absurd (Nat.lt_of_lt_of_le (Heap.lt_size ho) (Nat.le_trans I.sz h)) (Nat.lt_irrefl _)
theorem Inv.cne (I : Inv X pins σ H s) : ∀ x c, X.env.cells.lookup x = some c → c ≠ X.env.locals := fun x c e z => by
  obtain ⟨v, o, ho, hd⟩ := I.cell x c e
  obtain ⟨m, ⟨o', es, ep, ho', hd', _⟩, _⟩ := I.loc
  rw [z, ho'] at ho; cases ho; rw [hd'] at hd; cases hd
theorem Inv.funs (I : Inv X pins σ H s) : s.heap.FunFrames X.base X.outer := by
  have all : ∀ (l : List Env), (∀ b ∈ frs l, b ∈ X.fs) → X.s₀.heap.FunFrames X.base l → s.heap.FunFrames X.base l := by
    intro l
    induction l with
    | nil => intro _ _; trivial
    | cons env r ih =>
      intro hs hl
      obtain ⟨hk, ⟨L, o, hf, hn, ho, hd⟩, hr⟩ := hl
      have hL : L ∈ X.fs := hs L (by unfold frs; rw [List.filterMap_cons, hf]; exact List.mem_cons_self)
      obtain ⟨sl, e⟩ := I.base.slot L o ho (I.ok.frf L hL) hL fun z => I.ok.exfs L z hL
      exact ⟨hk, ⟨L, _, hf, hn, e, hd⟩, ih (fun b hb => hs b (by unfold frs; rw [List.filterMap_cons, hf]; exact List.mem_cons_of_mem _ hb)) hr⟩
  exact all X.outer (fun _ hb => hb) I.ok.funs

theorem Inv.stack (I : Inv X pins σ H s) : s.heap.FunFrames X.base X.stack := by
  rcases I.ok.stk with e | ⟨e, hf⟩
  · rw [e]; exact I.funs
  · rw [e]
    obtain ⟨m, hn, _⟩ := I.loc
    refine .cons (by rw [I.ok.kind]; decide) hf hn ?_ I.funs
    exact Heap.get?_none_of_le (Nat.le_trans I.ok.bsz I.ok.above)
theorem Inv.stkSub (I : Inv X pins σ H s) : ∀ b ∈ frs X.stack, b ∈ X.env.locals :: X.fs := fun b hb => by
  rcases I.ok.stk with e | ⟨e, hf⟩
  · rw [e] at hb; exact List.mem_cons_of_mem _ hb
  · rw [e] at hb
    unfold frs at hb
    rw [List.filterMap_cons, hf] at hb
    exact hb
theorem Inv.stkFree (I : Inv X pins σ H s) : ∀ b ∈ frs X.stack, H b = none := fun b hb => by
  rcases List.mem_cons.mp (I.stkSub b hb) with e | hb
  · rw [e]; exact I.free
  · obtain ⟨_, o, ho, _⟩ := I.ok.funs.mem hb
    exact I.base.free b o ho (I.ok.frf b hb) fun z => I.ok.exfs b z hb

theorem Inv.step {g' : Array GenState} {t' : Nat} {d' : Drawn} {ch : List Addr} (I : Inv X pins σ H s)
    (hch : ∀ b ∈ ch, (b ∈ X.ex ∨ X.s₀.heap.objs.size ≤ b) ∧ b ≠ X.env.locals ∧ (∀ x c, X.env.cells.lookup x = some c → c ≠ b) ∧ ∀ p ∈ X.pn ++ pins, p.1 ≠ b)
    (keep : ∀ b o, b ≠ X.env.locals → b ∉ X.fs → b ∉ ch → s.heap.get? b = some o → H b = none → h'.get? b = some o)
    (slot : ∀ b o, b ≠ X.env.locals → b ∈ X.fs → b ∉ ch → s.heap.get? b = some o → H b = none → ∃ sl, h'.get? b = some { o with slots := sl }) (free : ∀ b o, b ∉ ch → s.heap.get? b = some o → H b = none → H' b = none)
    (there : ∀ b o, b ∉ ch → s.heap.get? b = some o → ∃ o', h'.get? b = some o')
    (tups : ∀ b xs, H b = some (.tup xs) → H' b = some (.tup xs)) (frzs : ∀ b o u, H b = some (.frz o u) → H' b = some (.frz o u)) (tbls : ∀ b ps, H b = some (.tbl ps) → ∃ more, H' b = some (.tbl (ps ++ more)))
    (ns : ∀ m, s.heap.Ns X.env.locals m → h'.Ns X.env.locals m) (hok : HOk X.prog X.w H' h') (hg : AllBare g') :
    Inv X pins σ H' { s with heap := h', gens := g', drawn := d', toks := t' } := by
  have neL : ∀ b o, X.s₀.heap.get? b = some o → b ≠ X.env.locals := fun b o e => Nat.ne_of_lt (Nat.lt_of_lt_of_le (Heap.lt_size e) I.ok.above)
  have neC : ∀ b o, X.s₀.heap.get? b = some o → b ∉ X.ex → b ∉ ch := fun b o e hx hb => by
    rcases (hch b hb).1 with z | z
    · exact hx z
    · exact absurd (Nat.lt_of_lt_of_le (Heap.lt_size e) z) (Nat.lt_irrefl _)
  have cellK : ∀ x c, X.env.cells.lookup x = some c → ∀ v, s.heap.IsCell c v → h'.IsCell c v := fun x c e v ⟨o, ho, hd⟩ => by
    have nch : c ∉ ch := fun z => (hch c z).2.2.1 x c e rfl
    by_cases hc : c ∈ X.fs
    · obtain ⟨sl, q⟩ := slot c o (I.cne x c e) hc nch ho (I.freeC x c e)
      exact ⟨_, q, hd⟩
    · exact ⟨o, keep c o (I.cne x c e) hc nch ho (I.freeC x c e), hd⟩
  refine ⟨I.ok, I.os, hg, ⟨fun b o e n hb hx => ?_, fun b o e n hb hx => ?_, fun b o e n hx => ?_, fun b o e hx => ?_, fun b xs e => tups b xs (I.base.tups b xs e), fun b o xs e => frzs b o xs (I.base.frzs b o xs e), fun b ps e => ?_⟩, ?_, fun x c e => ?_, ?_, fun x c e => ?_, fun p hp => ?_, hok, I.len⟩
  · exact keep b o (neL b o e) hb (neC b o e hx) (I.base.keep b o e n hb hx) (I.base.free b o e n hx)
  · obtain ⟨sl, e1⟩ := I.base.slot b o e n hb hx
    obtain ⟨sl', e2⟩ := slot b _ (neL b o e) hb (neC b o e hx) e1 (I.base.free b o e n hx)
    exact ⟨sl', e2⟩
  · obtain ⟨o', e1⟩ := I.base.there b o e hx
    exact free b o' (neC b o e hx) e1 (I.base.free b o e n hx)
  · obtain ⟨o', e1⟩ := I.base.there b o e hx
    exact there b o' (neC b o e hx) e1
  · obtain ⟨m1, e1⟩ := I.base.tbls b ps e
    obtain ⟨m2, e2⟩ := tbls b _ e1
    exact ⟨m1 ++ m2, by rw [e2, Array.append_assoc]⟩
  · obtain ⟨m, hn, hl⟩ := I.loc
    refine ⟨m, ns m hn, fun i x v e1 e2 e3 => ?_⟩
    obtain ⟨u, r, l⟩ := hl i x v e1 e2 e3
    refine ⟨u, r, ?_⟩
    rcases l with l | ⟨k, c, e, z⟩
    · exact .inl l
    · exact .inr ⟨k, c, e, cellK x c e _ z⟩
  · obtain ⟨v, z⟩ := I.cell x c e
    exact ⟨v, cellK x c e v z⟩
  · obtain ⟨m, ⟨o, _, _, ho, _⟩, _⟩ := I.loc
    exact free _ o (fun z => (hch _ z).2.1 rfl) ho I.free
  · obtain ⟨v, o, ho, hd⟩ := I.cell x c e
    exact free c o (fun z => (hch c z).2.2.1 x c e rfl) ho (I.freeC x c e)
  · obtain ⟨e, n, ne, nf, d⟩ := I.pin p hp
    have nch : p.1 ∉ ch := fun z => (hch p.1 z).2.2.2 p hp rfl
    exact ⟨keep p.1 p.2 ne nf nch e n, free p.1 p.2 nch e n, ne, nf, d⟩
theorem Inv.un {t' : Nat} (I : Inv X pins σ H s) (u : Un X.fs [] H H' s.heap h') (hok : HOk X.prog X.w H' h') : Inv X pins σ H' { s with heap := h', toks := t' } := by
  obtain ⟨m, ⟨o, es, ep, ho, r⟩, _⟩ := id I.loc
  obtain ⟨sl, hL⟩ := u.any ho I.free (by simp)
  exact I.step (g' := s.gens) (d' := s.drawn) (ch := []) (fun _ z => nomatch z) (fun b o _ hb _ e n => u.keep b o e n hb (by simp)) (fun b o _ hb _ e n => u.slot b o e n hb (by simp)) (fun b o _ e n => u.free b o e n (by simp)) (fun b o _ e => u.there b o e (by simp)) u.tups u.frzs u.tbls (fun m' hm => by
    obtain ⟨o', es', ep', ho', r'⟩ := hm
    rw [ho] at ho'; cases ho'
    exact ⟨_, es', ep', hL, r'⟩) hok I.bare
theorem Inv.call {g' : Array GenState} {t' : Nat} {d' : Drawn} {ch : List Addr} (I : Inv X pins σ H s) (u : Un (frs X.stack) ch H H' s.heap h') (hok : HOk X.prog X.w H' h') (hg : AllBare g')
    (hch : ∀ b ∈ ch, (b ∈ X.ex ∨ X.s₀.heap.objs.size ≤ b) ∧ b ≠ X.env.locals ∧ (∀ x c, X.env.cells.lookup x = some c → c ≠ b) ∧ ∀ p ∈ X.pn ++ pins, p.1 ≠ b) :
    Inv X pins σ H' { s with heap := h', gens := g', drawn := d', toks := t' } := by
  obtain ⟨m, ⟨o, es, ep, ho, r⟩, _⟩ := id I.loc
  obtain ⟨sl, hL⟩ := u.any ho I.free fun z => (hch _ z).2.1 rfl
  exact I.step (ch := ch) hch (fun b o hL hb hc e n => u.keep b o e n (fun z => (List.mem_cons.mp (I.stkSub b z)).elim hL hb) hc) (fun b o _ _ hc e n => u.any e n hc) (fun b o hc e n => u.free b o e n hc) (fun b o hc e => u.there b o e hc) u.tups u.frzs u.tbls (fun m' hm => by
    obtain ⟨o', es', ep', ho', r'⟩ := hm
    rw [ho] at ho'; cases ho'
    exact ⟨_, es', ep', hL, r'⟩) hok hg
theorem Inv.turned {t' : Nat} {it : Addr} (I : Inv X pins σ H s) (k : ∀ b o, b ≠ it → s.heap.get? b = some o → h'.get? b = some o) (hn : H it = none) (hL : it ≠ X.env.locals)
    (h1 : it ∈ X.ex ∨ X.s₀.heap.objs.size ≤ it) (h2 : ∀ x c, X.env.cells.lookup x = some c → c ≠ it) (h3 : ∀ p ∈ X.pn ++ pins, p.1 ≠ it) : Inv X pins σ H { s with heap := h', toks := t' } := by
  have nit : ∀ b u, H b = some u → b ≠ it := fun b u e z => by rw [z, hn] at e; cases e
  refine I.step (g' := s.gens) (d' := s.drawn) (ch := [it]) (fun b hb => ?_) (fun b o _ _ hc e _ => k b o (fun z => hc (by simp [z])) e) (fun b o _ _ hc e _ => ⟨o.slots, k b o (fun z => hc (by simp [z])) e⟩) (fun _ _ _ _ n => n)
    (fun b o hc e => ⟨o, k b o (fun z => hc (by simp [z])) e⟩) (fun _ _ e => e) (fun _ _ _ e => e) (fun b ps e => ⟨#[], by rw [e]; simp⟩) (fun m hm => ?_) (fun b u e => ?_) I.bare
  · have e : b = it := by simpa using hb
    subst e
    exact ⟨h1, hL, h2, h3⟩
  · obtain ⟨o, es, ep, ho, r⟩ := hm
    exact ⟨o, es, ep, k _ o (Ne.symm hL) ho, r⟩
  · refine (I.hok b u e).stay (fun c v hc q => k c v ?_ q) (fun _ q => q) fun _ _ q => q
    rcases hc with z | z
    · rw [z]; exact nit b u e
    · exact nit c _ z
theorem Inv.tok (I : Inv X pins σ H s) (t : Nat) : Inv X pins σ H { s with toks := t } := I.un (h' := s.heap) (t' := t) Un.refl I.hok
theorem Inv.kept {t' : Nat} (I : Inv X pins σ H s) (k : ∀ b u, s.heap.get? b = some u → h'.get? b = some u) : Inv X pins σ H { s with heap := h', toks := t' } := I.un (Un.kept k) (I.hok.kept k)
theorem Inv.laid {a : Addr} {o : HO} {t' : Nat} (I : Inv X pins σ H s) (k : ∀ b u, s.heap.get? b = some u → h'.get? b = some u) (hp : s.heap.objs.size ≤ a) (new : ObjOk X.prog X.w (upd H a o) h' a o) :
    Inv X pins σ (upd H a o) { s with heap := h', toks := t' } := I.un (Un.laid k hp (I.hok.fresh hp)) (I.hok.laid k hp new)
theorem Inv.write {x e : Addr} {o : HO} {t' : Nat} (I : Inv X pins σ H s) (mu : Mut (H x)) (he : e = x ∨ H e = some (.own x)) (k : ∀ b u, b ≠ e → s.heap.get? b = some u → h'.get? b = some u) (heo : ∃ u, h'.get? e = some u)
    (new : ObjOk X.prog X.w (upd H x o) h' x o) : Inv X pins σ (upd H x o) { s with heap := h', toks := t' } := I.un (Un.write mu he k heo) (I.hok.write mu he k heo new)
theorem Inv.weak {σ' : List (Option V)} (I : Inv X pins σ H s) (hl : σ'.length = σ.length) (w : ∀ (i : Nat) v, σ'[i]? = some (some v) → σ[i]? = some (some v)) : Inv X pins σ' H s :=
  ⟨I.ok, I.os, I.bare, I.base, let ⟨m, hn, hl'⟩ := I.loc; ⟨m, hn, fun i x v e1 e2 e3 => hl' i x v e1 (w i v e2) e3⟩, I.cell, I.free, I.freeC, I.pin, I.hok, hl.trans I.len⟩
theorem Inv.pins_of {pins' : List (Addr × Obj)} (I : Inv X pins σ H s) (h : ∀ p ∈ pins', s.heap.get? p.1 = some p.2 ∧ H p.1 = none ∧ p.1 ≠ X.env.locals ∧ p.1 ∉ X.fs ∧ ∀ v, p.2.data ≠ .cell v) : Inv X pins' σ H s :=
  ⟨I.ok, I.os, I.bare, I.base, I.loc, I.cell, I.free, I.freeC, fun p hp => (List.mem_append.mp hp).elim (fun z => I.pin p (List.mem_append_left _ z)) (h p), I.hok, I.len⟩

theorem nodup_ix {N : List Str} (hN : N.Nodup) {i j : Nat} {x : Str} (a : N[i]? = some x) (b : N[j]? = some x) : i = j := by
  obtain ⟨h1, e1⟩ := List.getElem?_eq_some_iff.mp a
  obtain ⟨h2, e2⟩ := List.getElem?_eq_some_iff.mp b
  exact (List.getElem_inj hN).mp (e1.trans e2.symm)

theorem store_ok2 {M : Model} {A : Around} {E : Value → Shared → Prop} {i : Nat} {x : Str} {v : V} {u : Value} {Q : Unit → Shared → Prop} (I : Inv X pins σ H s) (hN : X.N.Nodup) (hi : X.N[i]? = some x) (hx : Loc X.env.scope x) (r : RelV v u)
    (h : ∀ s', Inv X pins (σ.set i (some v)) H s' → (∃ a, Heap.SameBut a s.heap s'.heap ∧ (a = X.env.locals ∨ X.env.cells.lookup x = some a)) → Q () s') (hf : X.fn x = true ∨ X.env.scope.names.lookup x = some .local := by first | exact .inl rfl | exact .inr rfl | assumption) : wpAny M A (storeName X.env x u) Q E s := by
  obtain ⟨m, hn, hl⟩ := id I.loc
  have hcls : (X.env.scope.kind == .class || (X.env.scope.kind == .module && X.env.locals != X.env.globals)) = false := by rw [I.ok.kind]; rfl
  have hiσ : i < σ.length := by rw [I.len]; exact (List.getElem?_eq_some_iff.mp hi).1
  have cne := I.cne
  have tracked : ∀ {a : Addr} {h' : Heap}, (∃ o, s.heap.get? a = some o ∧ H a = none) → Heap.SameBut a s.heap h' → HOk X.prog X.w H h' := fun {a h'} ha hs b ob e => by
    obtain ⟨_, _, hfree⟩ := ha
    refine (I.hok b ob e).stay (fun c w' hc q => (hs.2 c ?_).trans q) (fun _ q => q) fun _ _ q => q
    rintro rfl
    rcases hc with rfl | hc
    · rw [hfree] at e; cases e
    · rw [hfree] at hc; cases hc
  rcases hx with hk | hk
  · refine wpAny_storeName_local hk hn (fun h' hn' hs => ?_) hcls
    obtain ⟨oL, _, _, hoL, _⟩ := id hn
    refine h _ ⟨I.ok, I.os, I.bare, ⟨fun b o e n hb hx => ?_, fun b o e n hb hx => ?_, I.base.free, fun b o e hx => ?_, I.base.tups, I.base.frzs, I.base.tbls⟩, ⟨_, hn', fun j y v' e1 e2 e3 => ?_⟩, fun y c e => ?_, I.free, I.freeC, fun p hp => ?_, tracked ⟨oL, hoL, I.free⟩ hs, by simpa using I.len⟩ ⟨_, hs, .inl rfl⟩
    · exact (hs.2 b (Nat.ne_of_lt (Nat.lt_of_lt_of_le (Heap.lt_size e) I.ok.above))).trans (I.base.keep b o e n hb hx)
    · obtain ⟨sl, e1⟩ := I.base.slot b o e n hb hx
      exact ⟨sl, (hs.2 b (Nat.ne_of_lt (Nat.lt_of_lt_of_le (Heap.lt_size e) I.ok.above))).trans e1⟩
    · obtain ⟨o', e1⟩ := I.base.there b o e hx
      exact ⟨o', (hs.2 b (Nat.ne_of_lt (Nat.lt_of_lt_of_le (Heap.lt_size e) I.ok.above))).trans e1⟩
    · by_cases hj : j = i
      · subst hj
        rw [hi] at e1; cases e1
        rw [List.getElem?_set_self hiσ] at e2
        cases e2
        exact ⟨u, r, .inl ⟨hk, by simp⟩⟩
      · rw [List.getElem?_set_ne (Ne.symm hj)] at e2
        obtain ⟨u', r', q⟩ := hl j y v' e1 e2 e3
        refine ⟨u', r', ?_⟩
        rcases q with ⟨k, e⟩ | ⟨k, c, e, z⟩
        · refine .inl ⟨k, ?_⟩
          have : y ≠ x := fun e => hj (nodup_ix hN e1 (e ▸ hi))
          simp [this, e]
        · exact .inr ⟨k, c, e, z.sameBut hs (cne y c e)⟩
    · obtain ⟨w', z⟩ := I.cell y c e
      exact ⟨w', z.sameBut hs (cne y c e)⟩
    · obtain ⟨e, n, ne, nf, d⟩ := I.pin p hp
      exact ⟨(hs.2 p.1 ne).trans e, n, ne, nf, d⟩
  · have hfn : X.fn x = true := by
      rcases hf with z | z
      · exact z
      · rw [z] at hk; cases hk
    obtain ⟨c, hc⟩ := I.ok.has x (.inl hk)
    obtain ⟨w', z⟩ := I.cell x c hc
    refine wpAny_storeName_cell I.ok.kind hk hc z (fun h' hc' hs => ?_)
    obtain ⟨oc, hoc, hocd⟩ := id z
    refine h { s with heap := h' } ⟨I.ok, I.os, I.bare, ⟨fun b o e n hb hx => ?_, fun b o e n hb hx => ?_, I.base.free, fun b o e hx => ?_, I.base.tups, I.base.frzs, I.base.tbls⟩, ⟨m, hn.sameBut hs (Ne.symm (cne x c hc)), fun j y v' e1 e2 e3 => ?_⟩, fun y c' e => ?_, I.free, I.freeC, fun p hp => ?_, tracked ⟨oc, hoc, I.freeC x c hc⟩ hs, by simpa using I.len⟩ ⟨c, hs, .inr hc⟩
    · exact (hs.2 b (Nat.ne_of_lt (Nat.lt_of_lt_of_le (Heap.lt_size e) (I.ok.cab x c hfn hc)))).trans (I.base.keep b o e n hb hx)
    · obtain ⟨sl, e1⟩ := I.base.slot b o e n hb hx
      exact ⟨sl, (hs.2 b (Nat.ne_of_lt (Nat.lt_of_lt_of_le (Heap.lt_size e) (I.ok.cab x c hfn hc)))).trans e1⟩
    · obtain ⟨o', e1⟩ := I.base.there b o e hx
      exact ⟨o', (hs.2 b (Nat.ne_of_lt (Nat.lt_of_lt_of_le (Heap.lt_size e) (I.ok.cab x c hfn hc)))).trans e1⟩
    · by_cases hj : j = i
      · subst hj
        rw [hi] at e1; cases e1
        rw [List.getElem?_set_self hiσ] at e2
        cases e2
        exact ⟨u, r, .inr ⟨.inl hk, c, hc, hc'⟩⟩
      · rw [List.getElem?_set_ne (Ne.symm hj)] at e2
        obtain ⟨u', r', q⟩ := hl j y v' e1 e2 e3
        refine ⟨u', r', ?_⟩
        rcases q with q | ⟨k, c', e, z'⟩
        · exact .inl q
        · refine .inr ⟨k, c', e, z'.sameBut hs ?_⟩
          rintro rfl
          exact hj (nodup_ix hN e1 (I.ok.inj _ _ _ e hc ▸ hi))
    · by_cases hcc : c' = c
      · subst hcc; exact ⟨_, hc'⟩
      · obtain ⟨w2, z2⟩ := I.cell y c' e
        exact ⟨w2, z2.sameBut hs hcc⟩
    · obtain ⟨e, n, ne, nf, d⟩ := I.pin p hp
      refine ⟨(hs.2 p.1 ?_).trans e, n, ne, nf, d⟩
      intro q
      rw [q, hoc] at e
      have q' : oc = p.2 := Option.some.inj e
      exact d w' (by rw [← q']; exact hocd)
theorem store_ok {M : Model} {A : Around} {E : Value → Shared → Prop} {i : Nat} {x : Str} {v : V} {u : Value} {Q : Unit → Shared → Prop} (I : Inv X pins σ H s) (hN : X.N.Nodup) (hi : X.N[i]? = some x) (hx : Loc X.env.scope x) (r : RelV v u)
    (h : ∀ s', Inv X pins (σ.set i (some v)) H s' → Q () s') (hf : X.fn x = true ∨ X.env.scope.names.lookup x = some .local := by first | exact .inl rfl | exact .inr rfl | assumption) : wpAny M A (storeName X.env x u) Q E s :=
  store_ok2 I hN hi hx r (fun s' I' _ => h s' I') hf
theorem Inv.call' {s' : Shared} {ch : List Addr} (I : Inv X pins σ H s) (ho : s'.os = s.os) (u : Un (frs X.stack) ch H H' s.heap s'.heap) (hok : HOk X.prog X.w H' s'.heap) (hg : AllBare s'.gens)
    (hch : ∀ b ∈ ch, (b ∈ X.ex ∨ X.s₀.heap.objs.size ≤ b) ∧ b ≠ X.env.locals ∧ (∀ x c, X.env.cells.lookup x = some c → c ≠ b) ∧ ∀ p ∈ X.pn ++ pins, p.1 ≠ b) : Inv X pins σ H' s' := by
  obtain ⟨h', g', d', t', o'⟩ := s'
  have e : o' = s.os := ho
  subst e
  exact I.call (g' := g') (t' := t') (d' := d') u hok hg hch
end
abbrev XK := Value → Option Addr → Hp → Prop
abbrev St := List (Option V)
abbrev VK := V → Hp → Prop
abbrev TE := St → Hp → VK → Prop
abbrev TT := St → Hp → (Bool → Hp → Prop) → Prop
abbrev TA := St → Hp → (List V → Hp → Prop) → Prop
structure Ends where
  nx : St → Hp → Prop
  rt : VK
  bk : St → Hp → Prop := fun _ _ => False
  ct : St → Hp → Prop := fun _ _ => False
abbrev TS := Ends → St → Hp → Prop

def EP (X : Cx) (pins : List (Addr × Obj)) (σ : St) (Q : VK) (u : Value) (s' : Shared) : Prop := ∃ v H', Inv X pins σ H' s' ∧ RelV v u ∧ Q v H'
def TP (X : Cx) (pins : List (Addr × Obj)) (σ : St) (Q : Bool → Hp → Prop) (b : Bool) (s' : Shared) : Prop := ∃ H', Inv X pins σ H' s' ∧ Q b H'
def AP (X : Cx) (pins : List (Addr × Obj)) (σ : St) (Q : List V → Hp → Prop) (us : List Value) (s' : Shared) : Prop := ∃ vs H', Inv X pins σ H' s' ∧ Vals vs us ∧ Q vs H'
def SP (X : Cx) (pins : List (Addr × Obj)) (D : Ends) (f : Flow) (s' : Shared) : Prop :=
  match f with
  | .next => ∃ σ' H', Inv X pins σ' H' s' ∧ D.nx σ' H'
  | .brk => ∃ σ' H', Inv X pins σ' H' s' ∧ D.bk σ' H'
  | .cont => ∃ σ' H', Inv X pins σ' H' s' ∧ D.ct σ' H'
  | .ret u => ∃ v σ' H', Inv X pins σ' H' s' ∧ RelV v u ∧ D.rt v H'

def PE (X : Cx) (e : Expr) (t : TE) : Prop :=
  ∀ (pins : List (Addr × Obj)) (s : Shared) (σ : St) (H : Hp) (Q : VK), Inv X pins σ H s → t σ H Q → wpAny (model X.prog X.w) X.A (eval e X.env) (EP X pins σ Q) X.xe s
def PT (X : Cx) (e : Expr) (t : TT) : Prop :=
  ∀ (pins : List (Addr × Obj)) (s : Shared) (σ : St) (H : Hp) (Q : Bool → Hp → Prop), Inv X pins σ H s → t σ H Q → wpAny (model X.prog X.w) X.A (isTrue e X.env (eval e X.env)) (TP X pins σ Q) X.xe s
def PW (X : Cx) (e : Expr) (t : TT) : Prop :=
  ∀ (whole : Sem Value) (pins : List (Addr × Obj)) (s : Shared) (σ : St) (H : Hp) (Q : Bool → Hp → Prop), Inv X pins σ H s → t σ H Q → wpAny (model X.prog X.w) X.A (isTrue e X.env whole) (TP X pins σ Q) X.xe s
theorem PW.pt {X : Cx} {e : Expr} {t : TT} (h : PW X e t) : PT X e t := h _
def PA (X : Cx) (es : List Expr) (t : TA) : Prop :=
  ∀ (pos : Pos) (pins : List (Addr × Obj)) (s : Shared) (σ : St) (H : Hp) (Q : List V → Hp → Prop), Inv X pins σ H s → t σ H Q → wpAny (model X.prog X.w) X.A (spliced (backTo pos (starEach es X.env))) (AP X pins σ Q) X.xe s
def PS (X : Cx) (st : Stmt) (t : TS) : Prop :=
  ∀ (pins : List (Addr × Obj)) (s : Shared) (σ : St) (H : Hp) (D : Ends), Inv X pins σ H s → t D σ H → wpAny (model X.prog X.w) X.A (exec st X.env) (SP X pins D) X.xe s
def PSs (X : Cx) (st : List Stmt) (t : TS) : Prop :=
  ∀ (pins : List (Addr × Obj)) (s : Shared) (σ : St) (H : Hp) (D : Ends), Inv X pins σ H s → t D σ H → wpAny (model X.prog X.w) X.A (execs st X.env) (SP X pins D) X.xe s
theorem thn {α : Type} {t : Sem α} {Q Q' : α → Shared → Prop} {M : Model} {A : Around} {E : Value → Shared → Prop} {s : Shared} (h : wpAny M A t Q E s) (hQ : ∀ a s, Q a s → Q' a s) : wpAny M A t Q' E s := wpAny_mono h hQ fun _ _ x => x
end L2
namespace L2
open PySem PySem.Spec PyProof.Rows
section
variable {X : Cx}
def tVar (i : Nat) : TE := fun σ H Q => ∃ v, σ[i]? = some (some v) ∧ Q v H
def tC (v : V) : TE := fun _ H Q => Q v H
theorem pe_var {i : Nat} {x : Str} {pos : Pos} (hN : X.N[i]? = some x) (hv : Vis X.env.scope x) (hd : (x == ("__debug__" : Str)) = false := by decide) (hcd : (x == ("__classdict__" : Str)) = false := by decide) : PE X (.Name x pos) (tVar i) := by
  intro pins s σ H Q I h
  obtain ⟨v, e, h⟩ := h
  obtain ⟨m, hn, hl⟩ := I.loc
  obtain ⟨u, r, l⟩ := hl i x v hN e hv
  have fin : EP X pins σ Q u s := ⟨v, H, I, r, h⟩
  rcases l with ⟨hk, hm⟩ | ⟨hk, c, hc, hcell⟩
  · exact wpAny_Name (wpAny_loadName_local I.ok.kind hk hn hm fin) hd
  · rcases hk with hk | hk
    · exact wpAny_Name (wpAny_loadName_cell I.ok.kind hk hc hcell fin) hd
    · exact wpAny_Name (wpAny_loadName_free I.ok.kind hk hc hcell fin hcd) hd
theorem pe_int {i j pos} : PE X (.Constant (.int i) j pos) (tC (.int i)) := fun _ _ _ H _ I h => wpAny_Constant_int ⟨.int i, H, I.tok _, ⟨_, rfl⟩, h⟩
theorem pe_bl {b j pos} : PE X (.Constant (.bool b) j pos) (tC (.bl b)) := fun _ _ _ H _ I h => Constant_bool ⟨.bl b, H, I, rfl, h⟩
theorem pe_str {x j pos} : PE X (.Constant (.str x) j pos) (tC (.str x)) := fun _ _ _ H _ I h => Calls.Constant_str ⟨.str x, H, I.tok _, ⟨_, rfl⟩, h⟩

def Gl (X : Cx) (x : Str) : Prop := X.env.kindOf x = some .globalImplicit
theorem ld_glob {E : Value → Shared → Prop} {pins : List (Addr × Obj)} {s : Shared} {σ : St} {H : Hp} {x : Str} {u : Value} {pos : Pos} {Q : Value → Shared → Prop} (I : Inv X pins σ H s) (hg : Gl X x) (hm : X.mg x = some u) (h : Q u s)
    (hd : (x == ("__debug__" : Str)) = false := by decide) : wpAny (model X.prog X.w) X.A (eval (.Name x pos) X.env) Q E s :=
  Calls.Name_function_global I.ok.kind hg (Calls.loadGlobal_global (by rw [I.ok.glob]; exact I.mod.glob.keeps I.bk) hm h) hd
theorem ld_blt {E : Value → Shared → Prop} {pins : List (Addr × Obj)} {s : Shared} {σ : St} {H : Hp} {x : Str} {u : Value} {pos : Pos} {Q : Value → Shared → Prop} (I : Inv X pins σ H s) (hg : Gl X x) (hm : X.mg x = none) (hv : bootBuiltins x = some u) (h : Q u s)
    (hn : x ≠ "__name__" := by decide) (hd : (x == ("__debug__" : Str)) = false := by decide) : wpAny (model X.prog X.w) X.A (eval (.Name x pos) X.env) Q E s := by
  obtain ⟨mb, h1, h2⟩ := I.mod.blt
  exact Calls.Name_function_global I.ok.kind hg (Calls.loadGlobal_builtin (by rw [I.ok.glob]; exact I.mod.glob.keeps I.bk) hm (by rw [I.ok.blt]; exact h1.keeps I.bk) ((h2 x hn).trans hv) h) hd
theorem pe_glob {x : Str} {v : V} {u : Value} {pos : Pos} (hg : Gl X x) (hm : X.mg x = some u) (r : RelV v u) (hd : (x == ("__debug__" : Str)) = false := by decide) : PE X (.Name x pos) (tC v) :=
  fun _ _ _ H _ I h => ld_glob I hg hm ⟨v, H, I, r, h⟩ hd
theorem pe_bltn {x : Str} {v : V} {u : Value} {pos : Pos} (hg : Gl X x) (hm : X.mg x = none) (hv : bootBuiltins x = some u) (r : RelV v u) (hn : x ≠ "__name__" := by decide) (hd : (x == ("__debug__" : Str)) = false := by decide) : PE X (.Name x pos) (tC v) :=
  fun _ _ _ H _ I h => ld_blt I hg hm hv ⟨v, H, I, r, h⟩ hn hd

variable {a b : Expr} {ta tb : TE} {pos : Pos}
def tB (t : TE) : TT := fun σ H Q => t σ H fun x H1 => ∃ c, x = .bl c ∧ Q c H1
theorem pt_val {e : Expr} {t : TE} (h : PE X e t) (he : ∀ whole, isTrue e X.env whole = (do let v ← whole; standAt e.pos; holding [v] (truthy v)) := by intro _; rfl) : PT X e (tB t) := by
  intro pins s σ H Q I hw
  refine isTrue_plain (thn (h pins s σ H _ I hw) fun v s1 ⟨x, H1, I1, r1, q1⟩ => ?_) (he _)
  obtain ⟨d, rfl, q⟩ := q1
  cases r1
  exact wpAny_truthy_bool ⟨H1, I1, q⟩

variable {tA tB' : TT} {rest : List Expr}
def tAnd (t u : TT) : TT := fun σ H Q => t σ H fun c H1 => if c = true then u σ H1 Q else Q false H1
def tOr (t u : TT) : TT := fun σ H Q => t σ H fun c H1 => if c = true then Q true H1 else u σ H1 Q
def tNot (t : TT) : TT := fun σ H Q => t σ H fun c H1 => Q (!c) H1
theorem pw_and1 (ha : PT X a tA) : PW X (.BoolOp .And [a] pos) tA := by
  intro wh pins s σ H Q I h
  refine isTrue_and (thn (ha pins s σ H Q I h) fun c s1 e => ?_)
  cases c with
  | true => exact isTrue_and_nil e
  | false => exact e
theorem pw_or1 (ha : PT X a tA) : PW X (.BoolOp .Or [a] pos) tA := by
  intro wh pins s σ H Q I h
  refine isTrue_or (thn (ha pins s σ H Q I h) fun c s1 e => ?_)
  cases c with
  | false => exact isTrue_or_nil e
  | true => exact e
theorem pw_and (ha : PT X a tA) (hb : PW X (.BoolOp .And (b :: rest) pos) tB') : PW X (.BoolOp .And (a :: b :: rest) pos) (tAnd tA tB') := by
  intro wh pins s σ H Q I h
  refine isTrue_and (thn (ha pins s σ H _ I h) fun c s1 ⟨H1, I1, q1⟩ => ?_)
  cases c with
  | true => exact hb wh pins s1 σ H1 Q I1 q1
  | false => exact ⟨H1, I1, q1⟩
theorem pw_or (ha : PT X a tA) (hb : PW X (.BoolOp .Or (b :: rest) pos) tB') : PW X (.BoolOp .Or (a :: b :: rest) pos) (tOr tA tB') := by
  intro wh pins s σ H Q I h
  refine isTrue_or (thn (ha pins s σ H _ I h) fun c s1 ⟨H1, I1, q1⟩ => ?_)
  cases c with
  | true => exact ⟨H1, I1, q1⟩
  | false => exact hb wh pins s1 σ H1 Q I1 q1
theorem pt_not (ha : PT X a tA) : PT X (.UnaryOp .Not a pos) (tNot tA) := by
  intro pins s σ H Q I h
  exact isTrue_not (ha pins s σ H (fun c H1 => Q (!c) H1) I h)
def tAndV (ta tb : TE) : TE := fun σ H Q => ta σ H fun x H1 => ∃ c, x = .bl c ∧ if c = true then tb σ H1 Q else Q (.bl false) H1
def tOrV (ta tb : TE) : TE := fun σ H Q => ta σ H fun x H1 => ∃ c, x = .bl c ∧ if c = true then Q (.bl true) H1 else tb σ H1 Q
theorem pe_one {op} {t : TE} (h : PE X a t) : PE X (.BoolOp op [a] pos) t := fun pins s σ H Q I hw => BoolOp_one (h pins s σ H Q I hw)
theorem pe_and (ha : PE X a ta) (hb : PE X (.BoolOp .And (b :: rest) pos) tb) : PE X (.BoolOp .And (a :: b :: rest) pos) (tAndV ta tb) := by
  intro pins s σ H Q I h
  refine BoolOp_and (thn (ha pins s σ H _ I h) fun v s1 ⟨x, H1, I1, r1, q1⟩ => ?_)
  obtain ⟨c, rfl, q1⟩ := q1
  cases r1
  refine wpAny_truthy_bool ?_
  cases c with
  | true => exact hb pins s1 σ H1 Q I1 q1
  | false => exact ⟨.bl false, H1, I1, rfl, q1⟩
theorem pe_or (ha : PE X a ta) (hb : PE X (.BoolOp .Or (b :: rest) pos) tb) : PE X (.BoolOp .Or (a :: b :: rest) pos) (tOrV ta tb) := by
  intro pins s σ H Q I h
  refine BoolOp_or (thn (ha pins s σ H _ I h) fun v s1 ⟨x, H1, I1, r1, q1⟩ => ?_)
  obtain ⟨c, rfl, q1⟩ := q1
  cases r1
  refine wpAny_truthy_bool ?_
  cases c with
  | false => exact hb pins s1 σ H1 Q I1 q1
  | true => exact ⟨.bl true, H1, I1, rfl, q1⟩
def tIf (t : TT) (ta tb : TE) : TE := fun σ H Q => t σ H fun c H1 => if c = true then ta σ H1 Q else tb σ H1 Q
theorem pe_ifExp {c : Expr} (hc : PT X c tA) (ha : PE X a ta) (hb : PE X b tb) : PE X (.IfExp c a b pos) (tIf tA ta tb) := by
  intro pins s σ H Q I h
  refine wpAny_IfExp (thn (hc pins s σ H _ I h) fun d s1 ⟨H1, I1, q1⟩ => ?_)
  cases d with
  | true => exact ha pins s1 σ H1 Q I1 q1
  | false => exact hb pins s1 σ H1 Q I1 q1
end
end L2
namespace L2
open PySem PySem.Spec PyProof.Rows
def SqL (K : PySem.W.Frag) (H : Hp) (a : Addr) (xs : List V) : Prop :=
  Rd H a (.lst xs) ∨
    ∃ (o : Obj) (its : Array Value) (n : Nat), K.lookup a = some o ∧ o.cls = .type "list" ∧ o.dict = none ∧ o.data = .seq its n ∧ its.size ≤ sizeLine ∧ Vals xs its.toList
def SqT (K : PySem.W.Frag) (H : Hp) (a : Addr) (xs : List V) : Prop :=
  Rd H a (.tup xs) ∨
    ∃ (o : Obj) (its : Array Value) (n : Nat), K.lookup a = some o ∧ o.cls = .type "tuple" ∧ o.data = .seq its n ∧ its.size ≤ sizeLine ∧ Vals xs its.toList
def absV : Value → Option V
  | .none => some .non
  | .bool b => some (.bl b)
  | .int i _ => some (.int i)
  | .str x _ => some (.str x)
  | .bytes b _ => some (.byt b)
  | .float b _ => some (.flt b)
  | .ref a => some (.ref a)
  | .type n => some (.ty n)
  | _ => none
theorem RelV.abs {x : V} {u : Value} (r : RelV x u) : absV u = some x := by
  cases x with
  | non => cases r; rfl
  | bl _ => cases r; rfl
  | int _ => obtain ⟨t, rfl⟩ := r; rfl
  | str _ => obtain ⟨t, rfl⟩ := r; rfl
  | byt _ => obtain ⟨t, rfl⟩ := r; rfl
  | flt _ => obtain ⟨t, rfl⟩ := r; rfl
  | ref _ => cases r; rfl
  | ty _ => cases r; rfl
theorem RelV.inj {x y : V} {u : Value} (r : RelV x u) (q : RelV y u) : x = y := Option.some.inj (r.abs.symm.trans q.abs)
theorem Vals.inj : ∀ {xs ys : List V} {us : List Value}, Vals xs us → Vals ys us → xs = ys
  | _, _, _, .nil, .nil => rfl
  | _, _, _, .cons r t, .cons r' t' => by rw [r.inj r', Vals.inj t t']
section
variable {X : Cx} {pins : List (Addr × Obj)} {σ : St} {H : Hp} {s : Shared} {a : Addr} {xs ys : List V}
theorem SqL.of {K : PySem.W.Frag} (h : H a = some (.lst xs)) : SqL K H a xs := .inl (.inl h)
theorem SqT.of {K : PySem.W.Frag} (h : H a = some (.tup xs)) : SqT K H a xs := .inl (.inl h)
theorem Inv.list (I : Inv X pins σ H s) (h : SqL X.K H a xs) : ∃ its : List Value, Vals xs its ∧ PlainL s.heap a its.toArray ∧ xs.length ≤ sizeLine := by
  rcases h with h | ⟨o, its, n, hk, hc, hd, hs, hz, r⟩
  · obtain ⟨z, its, n, r, e⟩ := h.ok I.hok
    exact ⟨its, r, ⟨_, n, e, rfl, rfl, rfl⟩, z⟩
  · refine ⟨its.toList, r, ⟨o, n, I.kIn a o hk, hc, hd, by simpa using hs⟩, ?_⟩
    have e := r.length
    simp only [Array.length_toList] at e
    omega
theorem Inv.tuple (I : Inv X pins σ H s) (h : SqT X.K H a xs) : ∃ its : List Value, Vals xs its ∧ IsTup s.heap a its.toArray ∧ xs.length ≤ sizeLine := by
  rcases h with h | ⟨o, its, n, hk, hc, hs, hz, r⟩
  · obtain ⟨z, its, r, p⟩ := h.ok I.hok
    exact ⟨its, r, p, z⟩
  · refine ⟨its.toList, r, ⟨o, I.kIn a o hk, hc, n, by simpa using hs⟩, ?_⟩
    have e := r.length
    simp only [Array.length_toList] at e
    omega
theorem Inv.list_inj (I : Inv X pins σ H s) (h : SqL X.K H a xs) (h' : SqL X.K H a ys) : xs = ys := by
  obtain ⟨its, r, ⟨o, n, e, _, _, d⟩, _⟩ := I.list h
  obtain ⟨its', r', ⟨o', n', e', _, _, d'⟩, _⟩ := I.list h'
  rw [e] at e'; cases e'
  rw [d] at d'
  injection d' with d1 _
  have : its = its' := by simpa using congrArg Array.toList d1
  subst this
  exact r.inj r'
theorem Inv.tuple_inj (I : Inv X pins σ H s) (h : SqT X.K H a xs) (h' : SqT X.K H a ys) : xs = ys := by
  obtain ⟨its, r, ⟨o, e, _, n, d⟩, _⟩ := I.tuple h
  obtain ⟨its', r', ⟨o', e', _, n', d'⟩, _⟩ := I.tuple h'
  rw [e] at e'; cases e'
  rw [d] at d'
  injection d' with d1 _
  have : its = its' := by simpa using congrArg Array.toList d1
  subst this
  exact r.inj r'
end
abbrev Cx.wish (X : Cx) (E : Value → Shared → Prop) : Cx := { X with xe := E }
abbrev Cx.nox (X : Cx) : Cx := X.wish fun _ _ => False
theorem Cx.Ok.wish {X : Cx} (ok : X.Ok) (E : Value → Shared → Prop) : (X.wish E).Ok :=
  ⟨ok.mod, ok.kind, ok.glob, ok.blt, ok.above, ok.inj, ok.has, ok.cab, ok.hd, ok.frames, ok.stk, ok.exf, ok.bs, ok.bsz, ok.noex, ok.exfs, ok.funs, ok.frf⟩
theorem Cx.Ok.unwish {X : Cx} {E : Value → Shared → Prop} (ok : (X.wish E).Ok) : X.Ok :=
  ⟨ok.mod, ok.kind, ok.glob, ok.blt, ok.above, ok.inj, ok.has, ok.cab, ok.hd, ok.frames, ok.stk, ok.exf, ok.bs, ok.bsz, ok.noex, ok.exfs, ok.funs, ok.frf⟩
section
variable {X : Cx} {pins : List (Addr × Obj)} {σ : St} {H : Hp} {s : Shared} {E : Value → Shared → Prop}
theorem Inv.wish (I : Inv X pins σ H s) (E : Value → Shared → Prop) : Inv (X.wish E) pins σ H s := ⟨I.ok.wish E, I.os, I.bare, I.base, I.loc, I.cell, I.free, I.freeC, I.pin, I.hok, I.len⟩
theorem Inv.unwish (I : Inv (X.wish E) pins σ H s) : Inv X pins σ H s := ⟨I.ok.unwish, I.os, I.bare, I.base, I.loc, I.cell, I.free, I.freeC, I.pin, I.hok, I.len⟩
theorem SP.unwish {D : Ends} {f : Flow} {s' : Shared} (h : SP (X.wish E) pins D f s') : SP X pins D f s' := by
  cases f with
  | next => obtain ⟨σ', H', I, q⟩ := h; exact ⟨σ', H', I.unwish, q⟩
  | brk => obtain ⟨σ', H', I, q⟩ := h; exact ⟨σ', H', I.unwish, q⟩
  | cont => obtain ⟨σ', H', I, q⟩ := h; exact ⟨σ', H', I.unwish, q⟩
  | ret u => obtain ⟨v, σ', H', I, r, q⟩ := h; exact ⟨v, σ', H', I.unwish, r, q⟩
theorem PE.nox {e : Expr} {t : TE} (h : PE X.nox e t) : PE X e t := fun pins s σ H Q I hw =>
  wpAny_mono (h pins s σ H Q (I.wish _) hw) (fun _ _ ⟨v, H', I', r, q⟩ => ⟨v, H', I'.unwish, r, q⟩) fun _ _ z => False.elim z
theorem PT.nox {e : Expr} {t : TT} (h : PT X.nox e t) : PT X e t := fun pins s σ H Q I hw =>
  wpAny_mono (h pins s σ H Q (I.wish _) hw) (fun _ _ ⟨H', I', q⟩ => ⟨H', I'.unwish, q⟩) fun _ _ z => False.elim z
theorem PSs.nox {st : List Stmt} {t : TS} (h : PSs X.nox st t) : PSs X st t := fun pins s σ H D I hw =>
  wpAny_mono (h pins s σ H D (I.wish _) hw) (fun _ _ q => q.unwish) fun _ _ z => False.elim z
end
section
variable {X : Cx} {st : Stmt} {rest : List Stmt} {t u : TS} {e : Expr} {te : TE} {pos : Pos}
def tNext : TS := fun D σ H => D.nx σ H
def tSeq (t u : TS) : TS := fun D σ H => t { D with nx := u D } σ H
theorem pss_nil : PSs X [] tNext := fun _ _ σ H _ I h => wpAny_execs_nil ⟨σ, H, I, h⟩
theorem pss_cons (h1 : PS X st t) (h2 : PSs X rest u) : PSs X (st :: rest) (tSeq t u) := by
  intro pins s σ H D I h
  refine wpAny_execs_cons (thn (h1 pins s σ H { D with nx := u D } I h) fun f s1 q => ?_)
  cases f with
  | next =>
    obtain ⟨σ', H', I', q⟩ := q
    exact h2 pins s1 σ' H' D I' q
  | ret v => exact q
  | brk => exact q
  | cont => exact q
theorem pss_one (h1 : PS X st t) : PSs X [st] t := by
  intro pins s σ H D I h
  refine wpAny_execs_cons (thn (h1 pins s σ H D I h) fun f s1 q => ?_)
  cases f with
  | next => exact wpAny_execs_nil q
  | ret v => exact q
  | brk => exact q
  | cont => exact q
theorem Inv.quiet {pins : List (Addr × Obj)} {σ : St} {H : Hp} {s : Shared} (I : Inv X pins σ H s) : interactive X.env = false := by simp [interactive, I.ok.kind]
def tDrop (te : TE) : TS := fun D σ H => te σ H fun _ H1 => D.nx σ H1
theorem ps_expr (he : PE X e te) (hs : swapsWith e none pos.line X.env = pure false := by rfl) : PS X (.Expr e pos) (tDrop te) := by
  intro pins s σ H D I h
  exact wpAny_Expr_any (thn (he pins s σ H _ I h) fun v s1 ⟨x, H1, I1, r1, q1⟩ => ⟨σ, H1, I1, q1⟩) I.quiet hs
def tRet (te : TE) : TS := fun D σ H => te σ H D.rt
theorem ps_ret (he : PE X e te) : PS X (.Return (some e) pos) (tRet te) := by
  intro pins s σ H D I h
  exact wpAny_Return_some (thn (he pins s σ H _ I h) fun v s1 ⟨x, H1, I1, r1, q1⟩ => ⟨x, σ, H1, I1, r1, q1⟩)
def tIfS (c : TT) (t u : TS) : TS := fun D σ H => c σ H fun b H1 => if b = true then t D σ H1 else u D σ H1
theorem ps_if {c : Expr} {a b : List Stmt} {tc : TT} (hc : PT X c tc) (ha : PSs X a t) (hb : PSs X b u) : PS X (.If c a b pos) (tIfS tc t u) := by
  intro pins s σ H D I h
  refine wpAny_If (thn (hc pins s σ H _ I h) fun d s1 ⟨H1, I1, q1⟩ => ?_)
  cases d with
  | true => exact ha pins s1 σ H1 D I1 q1
  | false => exact hb pins s1 σ H1 D I1 q1
end
abbrev TG := V → St → Hp → (St → Hp → Prop) → Prop
abbrev TGs := List V → St → Hp → (St → Hp → Prop) → Prop
def PG (X : Cx) (target : Expr) (t : TG) : Prop :=
  ∀ (pins : List (Addr × Obj)) (s : Shared) (σ : St) (H : Hp) (v : V) (u : Value) (Q : St → Hp → Prop), Inv X pins σ H s → RelV v u → t v σ H Q →
    wpAny (model X.prog X.w) X.A (assign target X.env u) (fun _ s' => ∃ σ' H', Inv X pins σ' H' s' ∧ Q σ' H') X.xe s
def PGs (X : Cx) (ts : List Expr) (t : TGs) : Prop :=
  ∀ (pins : List (Addr × Obj)) (s : Shared) (σ : St) (H : Hp) (vs : List V) (us : List Value) (Q : St → Hp → Prop), Inv X pins σ H s → Vals vs us → t vs σ H Q →
    wpAny (model X.prog X.w) X.A (assignInOrder ((assignEach ts X.env).map (·.2)) us) (fun _ s' => ∃ σ' H', Inv X pins σ' H' s' ∧ Q σ' H') X.xe s
abbrev TSet := V → V → V → Hp → (Hp → Prop) → Prop
def PSet (X : Cx) (t : TSet) : Prop :=
  ∀ (pins : List (Addr × Obj)) (s : Shared) (σ : St) (H : Hp) (o i v : V) (ov iv u : Value) (Q : Hp → Prop), Inv X pins σ H s → RelV o ov → RelV i iv → RelV v u → t o i v H Q →
    wpAny (model X.prog X.w) X.A (setItem ov iv u) (fun _ s' => ∃ H', Inv X pins σ H' s' ∧ Q H') X.xe s
section
variable {X : Cx} {pos : Pos}
def gName (i : Nat) : TG := fun v σ H Q => Q (σ.set i (some v)) H
theorem pg_name {i : Nat} {x : Str} (hN : X.N.Nodup) (hi : X.N[i]? = some x) (hx : Loc X.env.scope x) (hf : X.fn x = true ∨ X.env.scope.names.lookup x = some .local := by first | exact .inl rfl | exact .inr rfl | assumption) : PG X (.Name x pos) (gName i) := by
  intro pins s σ H v u Q I r h
  exact wpAny_assign_Name (store_ok I hN hi hx r (fun s' I' => ⟨_, H, I', h⟩) hf)
def gNil : TGs := fun vs σ H Q => vs = [] ∧ Q σ H
def gCons (t : TG) (u : TGs) : TGs := fun vs σ H Q => ∃ v r, vs = v :: r ∧ t v σ H fun σ' H' => u r σ' H' Q
theorem pgs_nil : PGs X [] gNil := by
  intro pins s σ H vs us Q I r h
  obtain ⟨e, h⟩ := h
  subst e
  cases r
  exact assignInOrder_nil ⟨σ, H, I, h⟩
theorem pgs_cons {e : Expr} {es : List Expr} {t : TG} {u : TGs} (h1 : PG X e t) (h2 : PGs X es u)
    (hs : (assignEach (e :: es) X.env).map (·.2) = assign e X.env :: (assignEach es X.env).map (·.2) := by rfl) : PGs X (e :: es) (gCons t u) := by
  intro pins s σ H vs us Q I r h
  obtain ⟨v, vr, e1, h⟩ := h
  subst e1
  cases r with
  | cons r rr =>
    rw [hs]
    refine assignInOrder_cons (thn (h1 pins s σ H _ _ _ I r h) fun _ s1 ⟨σ1, H1, I1, q1⟩ => ?_)
    exact h2 pins s1 σ1 H1 _ _ Q I1 rr q1
def gTup (K : PySem.W.Frag) (n : Nat) (t : TGs) : TG := fun v σ H Q => ∃ a xs, v = .ref a ∧ SqT K H a xs ∧ xs.length = n ∧ t xs σ H Q
theorem pg_tup {es : List Expr} {k : Nat} {t : TGs} {n : Nat} (hc : X.calm = true) (h : PGs X es t)
    (hn : (assignEach es X.env).length = n := by rfl) (hst : (assignEach es X.env).findIdx? (·.1) = none := by rfl) : PG X (.Tuple es k pos) (gTup X.K n t) := by
  intro pins s σ H v u Q I r hw
  obtain ⟨a, xs, e1, hq, hl, hw⟩ := hw
  subst e1
  cases r
  obtain ⟨its, rv, ht, hz⟩ := I.tuple hq
  refine assign_Tuple_tuple (I.ok.hd hc) ht (by simp [hn, ← hl, rv.length]) hst fun h' hx => ?_
  have I1 : Inv X pins σ H { s with heap := h' } := I.kept (t' := s.toks) fun b o e => hx b o (Nat.ne_of_lt (Heap.lt_size e)) e
  exact h pins _ σ H xs _ Q I1 (by simpa using rv) hw
def gSub (to ti : TE) (t : TSet) : TG := fun v σ H Q => to σ H fun o H1 => ti σ H1 fun i H2 => t o i v H2 fun H3 => Q σ H3
theorem pg_sub {o i : Expr} {to ti : TE} {t : TSet} (ho : PE X o to) (hi : PE X i ti) (hs : PSet X t)
    (ha : ∀ v, assign (.Subscript o i pos) X.env v = (do
      let ov ← holding [v] (eval o X.env)
      let iv ← holding [v, ov] (eval i X.env)
      standAt pos
      holding [v, ov, iv] (setItem ov iv v)
      release [v, ov, iv] []) := by intro _; rfl) : PG X (.Subscript o i pos) (gSub to ti t) := by
  intro pins s σ H v u Q I r h
  rw [ha]
  refine wpAny_bind (wpAny_holding (thn (ho pins s σ H _ I h) fun ov s1 ⟨x, H1, I1, r1, q1⟩ => ?_))
  refine wpAny_bind (wpAny_holding (thn (hi pins s1 σ H1 _ I1 q1) fun iv s2 ⟨y, H2, I2, r2, q2⟩ => ?_))
  refine wpAny_bind (wpAny_standAt (wpAny_bind (wpAny_holding (thn (hs pins s2 σ H2 x y v ov iv u _ I2 r1 r2 r q2) fun _ s3 ⟨H3, I3, q3⟩ => ?_))))
  exact wpAny_release ⟨σ, H3, I3, q3⟩
def tAsg (te : TE) (g : TG) : TS := fun D σ H => te σ H fun x H1 => g x σ H1 D.nx
theorem ps_asg {tg e : Expr} {te : TE} {g : TG} (he : PE X e te) (hg : PG X tg g) (hs : swapsWithSole [tg] e pos.line X.env = pure false := by rfl) (hw : swappedStores [tg] e X.env = pure none := by rfl)
    (h1 : (assignEach [tg] X.env).map (·.2) = [assign tg X.env] := by rfl) : PS X (.Assign [tg] e pos) (tAsg te g) := by
  intro pins s σ H D I h
  refine wpAny_Assign_stores (thn (he pins s σ H _ I h) fun v s1 ⟨x, H1, I1, r1, q1⟩ => ?_) hs hw
  rw [h1]
  exact thn (hg pins s1 σ H1 x v _ I1 r1 q1) fun _ s2 q => q
theorem ps_set {i : Nat} {x : Str} {e : Expr} {te : TE} {pos' : Pos} (hN : X.N.Nodup) (hi : X.N[i]? = some x) (hx : Loc X.env.scope x) (he : PE X e te) (hs : swapsWith e (some (.Name x pos')) pos.line X.env = pure false := by rfl) (hf : X.fn x = true ∨ X.env.scope.names.lookup x = some .local := by first | exact .inl rfl | exact .inr rfl | assumption) :
    PS X (.Assign [.Name x pos'] e pos) (tAsg te (gName i)) := by
  intro pins s σ H D I h
  refine wpAny_Assign_Name (thn (he pins s σ H _ I h) fun v s1 ⟨y, H1, I1, r1, q1⟩ => ?_) hs
  exact store_ok I1 hN hi hx r1 (fun s2 I2 => ⟨_, H1, I2, q1⟩) hf
def tPar (i j : Nat) (ta : TA) : TS := fun D σ H => ta σ H fun vs H1 => ∃ v w, vs = [v, w] ∧ D.nx ((σ.set i (some v)).set j (some w)) H1
theorem ps_par {i j : Nat} {x y : Str} {a b : Expr} {ta : TA} {px py pt : Pos} {kt k2 pt2} (hc : X.calm = true) (hN : X.N.Nodup) (hi : X.N[i]? = some x) (hj : X.N[j]? = some y) (hij : i ≠ j)
    (hx : X.env.scope.names.lookup x = some .local) (hy : X.env.scope.names.lookup y = some .local) (ha : PA X [a, b] ta)
    (hw : swappedStores [.Tuple [.Name x px, .Name y py] kt pt] (.Tuple [a, b] k2 pt2) X.env = pure (some [x, y]))
    (hs : swapsWithSole [.Tuple [.Name x px, .Name y py] kt pt] (.Tuple [a, b] k2 pt2) pos.line X.env = pure false := by rfl) :
    PS X (.Assign [.Tuple [.Name x px, .Name y py] kt pt] (.Tuple [a, b] k2 pt2) pos) (tPar i j ta) := by
  intro pins s σ H D I h
  rw [exec_Assign_arm]
  refine wpAny_bind (wpAny_standAt ?_)
  rw [hs]
  refine wpAny_bind (wpAny_pure ?_)
  rw [if_neg (by decide)]
  refine wpAny_bind (Tuple_ (thn (ha _ pins s σ H _ I h) fun us s1 ⟨vs, H1, I1, r1, q1⟩ => ?_))
  obtain ⟨v, w, e1, q1⟩ := q1
  subst e1
  obtain ⟨u1, u2, rfl, rv, rw'⟩ : ∃ u1 u2, us = [u1, u2] ∧ RelV v u1 ∧ RelV w u2 := by
    cases r1 with
    | cons p q =>
      cases q with
      | cons p' q' =>
        cases q'
        exact ⟨_, _, rfl, p, p'⟩
  refine wpAny_newObj_type ?_ (by show 2 ≤ sizeLine; decide)
  have I2 : Inv X pins σ H1 { s1 with heap := s1.heap.push { cls := .type "tuple", data := .seq [u1, u2].toArray } } := I1.kept (t' := s1.toks) fun b o e => Heap.get?_push_of_some _ e
  rw [hw]
  refine wpAny_bind (wpAny_pure ?_)
  show wpAny (model X.prog X.w) X.A (do rule "assign.swapped-stores"; let items ← unpackItems (.ref s1.heap.objs.size) 2 none; assignInOrder [fun v => bindName X.env y v, fun v => bindName X.env x v] items.reverse; pure Flow.next) _ _ _
  refine wpAny_bind (wpAny_rule (wpAny_bind (unpackItems_tuple (items := #[u1, u2]) (I.ok.hd hc) (IsTup.new s1.heap _) fun h' hx' => ?_)))
  have I3 := I2.kept (h' := h') (t' := s1.toks) fun b o e => hx' b o (Nat.ne_of_lt (Heap.lt_size e)) e
  show wpAny _ _ (assignInOrder [fun v => bindName X.env y v, fun v => bindName X.env x v] [u2, u1] >>= fun _ => pure Flow.next) _ _ _
  refine wpAny_bind (assignInOrder_cons (wpAny_bindName (store_ok I3 hN hj (.inl hy) rw' (fun s2 I4 => ?_) (.inr hy))))
  refine assignInOrder_cons (wpAny_bindName (store_ok I4 hN hi (.inl hx) rv (fun s3 I5 => assignInOrder_nil (wpAny_pure ?_)) (.inr hx)))
  rw [List.set_comm _ _ (Ne.symm hij)] at I5
  exact ⟨_, H1, I5, q1⟩
end
section
variable {X : Cx} {pos : Pos}
def tWhile (c : TT) (tb : TS) : TS := fun D σ H => ∃ W : Nat → St → Hp → Prop, (∃ m, W m σ H) ∧ ∀ m σ H, W m σ H →
  c σ H fun b H1 => if b = true then ∃ N : St → Hp → Prop, (∀ σ' H', N σ' H' → ∃ m', m' < m ∧ W m' σ' H') ∧ tb { D with nx := N, ct := N, bk := D.nx } σ H1 else D.nx σ H1
theorem ps_while {c : Expr} {body : List Stmt} {tc : TT} {tb : TS} (hp : PassesOwn (model X.prog X.w) X.A X.env X.xe) (hc : PT X c tc) (hb : PSs X body tb) : PS X (.While c body [] pos) (tWhile tc tb) := by
  intro pins s σ H D I h
  obtain ⟨W, ⟨m0, w0⟩, turn⟩ := h
  refine wpAny_While (codeAny_whileLoop (fun n s' => ∃ σ' H', Inv X pins σ' H' s' ∧ W n σ' H') ?_ m0 ⟨σ, H, I, w0⟩)
  rintro n s1 ⟨σ1, H1, I1, w1⟩
  refine wpAny_passesOwn hp (thn (hc pins s1 σ1 H1 _ I1 (turn n σ1 H1 w1)) fun b s2 ⟨H2, I2, q2⟩ => ?_)
  cases b with
  | true =>
    obtain ⟨N, hN, q2⟩ := q2
    rw [if_pos rfl]
    refine wpAny_passesOwn hp (thn (hb pins s2 σ1 H2 _ I2 q2) fun f s3 q3 => ?_)
    cases f with
    | next =>
      obtain ⟨σ3, H3, I3, n3⟩ := q3
      obtain ⟨m', hm, w3⟩ := hN σ3 H3 n3
      exact ⟨m', hm, σ3, H3, I3, w3⟩
    | cont =>
      obtain ⟨σ3, H3, I3, n3⟩ := q3
      obtain ⟨m', hm, w3⟩ := hN σ3 H3 n3
      exact ⟨m', hm, σ3, H3, I3, w3⟩
    | brk => exact q3
    | ret v => exact q3
  | false =>
    rw [if_neg Bool.false_ne_true]
    exact wpAny_execs_nil ⟨σ1, H2, I2, q2⟩
end
structure It where
  go : Nat → Hp → Prop
  yld : Nat → Hp → V → Hp → Prop
  stop : Nat → Hp → Prop
def FpOk (X : Cx) (pins : List (Addr × Obj)) (H : Hp) (b : Addr) : Prop :=
  H b = none ∧ b ≠ X.env.locals ∧ b ∉ X.fs ∧ (b ∈ X.ex ∨ X.s₀.heap.objs.size ≤ b) ∧ (∀ x c, X.env.cells.lookup x = some c → c ≠ b) ∧ ∀ p ∈ X.pn ++ pins, p.1 ≠ b
theorem Inv.fpOk {X : Cx} {pins : List (Addr × Obj)} {σ : St} {H H' : Hp} {s : Shared} {b : Addr} (I : Inv X pins σ H s) (hb : s.heap.objs.size ≤ b) (hn : H' b = none) : FpOk X pins H' b := by
  refine ⟨hn, Nat.ne_of_gt (Nat.lt_of_lt_of_le I.lt hb), I.nofs hb, .inr (Nat.le_trans I.sz hb), fun x c e z => ?_, fun p hp z => ?_⟩
  · obtain ⟨v, q⟩ := I.cell x c e
    exact absurd (Nat.lt_of_lt_of_le q.lt (by rw [z]; exact hb)) (Nat.lt_irrefl _)
  · exact absurd (Nat.lt_of_lt_of_le (Heap.lt_size (I.pin p hp).1) (by rw [z]; exact hb)) (Nat.lt_irrefl _)
structure Turn (P : Program) (w : World) (K : PySem.W.Frag) (tg : Expr) (J : It) (fp : List Addr) (it : Addr) (tn : Nat → Heap → Prop) : Prop where
  mem : it ∈ fp
  obj : ∀ i h, tn i h → ∀ b ∈ fp, ∃ o, h.get? b = some o ∧ ∀ v, o.data ≠ .cell v
  keep : ∀ i h h', tn i h → (∀ b ∈ fp, ∀ o, h.get? b = some o → h'.get? b = some o) → tn i h'
  item : ∀ (X : Cx), X.prog = P → X.w = w → X.K = K → X.calm = true → ∀ (i : Nat) (pins : List (Addr × Obj)) (s : Shared) (σ : St) (H : Hp) (E : Value → Shared → Prop), Inv X pins σ H s → (∀ b ∈ fp, FpOk X pins H b) → tn i s.heap → J.go i H →
    wpAny (model P w) X.A (pyNext (.ref it)) (fun r s1 => ∃ u, r = some u ∧
      wpAny (model P w) X.A (letOwnedTupleGo tg (.ref it) u) (fun _ s2 => ∃ x H', Inv X pins σ H' s2 ∧ RelV x u ∧ J.yld i H x H' ∧ tn (i + 1) s2.heap ∧ ∀ b ∈ fp, H' b = none) E s1) E s
  done : ∀ (X : Cx), X.prog = P → X.w = w → X.K = K → X.calm = true → ∀ (i : Nat) (pins : List (Addr × Obj)) (s : Shared) (σ : St) (H : Hp) (E : Value → Shared → Prop), Inv X pins σ H s → (∀ b ∈ fp, FpOk X pins H b) → tn i s.heap → J.stop i H →
    wpAny (model P w) X.A (pyNext (.ref it)) (fun r s1 => r = none ∧ Inv X pins σ H s1) E s
  self : ∀ (A : Around) (i : Nat) (s : Shared) (Q : Value → Shared → Prop) (E : Value → Shared → Prop), tn i s.heap → Q (.ref it) s → wpAny (model P w) A (pyIter (.ref it)) Q E s
abbrev TI := St → Hp → (It → Hp → Prop) → Prop
def PIE (X : Cx) (pins : List (Addr × Obj)) (σ : St) (tg : Expr) (R : It → Hp → Prop) (itv : Value) (s2 : Shared) : Prop :=
  ∃ (it : Addr) (fp : List Addr) (tn : Nat → Heap → Prop) (J : It) (H' : Hp), itv = .ref it ∧ Inv X pins σ H' s2 ∧ Turn X.prog X.w X.K tg J fp it tn ∧ tn 0 s2.heap ∧ (∀ b ∈ fp, FpOk X pins H' b) ∧ R J H'
def PI (X : Cx) (tg iter : Expr) (wi : TI) : Prop :=
  ∀ (pins : List (Addr × Obj)) (s : Shared) (σ : St) (H : Hp) (R : It → Hp → Prop), Inv X pins σ H s → wi σ H R →
    wpAny (model X.prog X.w) X.A (eval iter X.env) (fun v s1 => wpAny (model X.prog X.w) X.A (pyIter v) (PIE X pins σ tg R) X.xe s1) X.xe s

theorem go_of {M : Model} {A : Around} {E : Value → Shared → Prop} {s : Shared} {tg : Expr} {it : Addr} {u : Value} {o : Obj} {n : String} {vs : Array Value} {Q : Unit → Shared → Prop} (ho : s.heap.get? it = some o) (hc : o.cls = .type n) (hd : o.data = .fields vs)
    (hn : ["enumerate", "zip", "dict_itemiterator", "dict_reverseitemiterator", "odict_iterator", "itertools.zip_longest", "itertools.pairwise"].contains n = false) (hQ : Q () s) : wpAny M A (letOwnedTupleGo tg (.ref it) u) Q E s := by
  unfold letOwnedTupleGo
  cases tg <;> first
    | exact wpAny_pure hQ
    | (cases u <;> first
        | exact wpAny_pure hQ
        | (refine wpAny_bind (wpAny_load ho ?_)
           rw [hc, hd]
           show wpAny M A (if (["enumerate", "zip", "dict_itemiterator", "dict_reverseitemiterator", "odict_iterator", "itertools.zip_longest", "itertools.pairwise"].contains n && vs[0]? == some (rawInt _)) = true then _ else _) Q E s
           rw [if_neg (by intro h; rw [hn, Bool.false_and] at h; cases h)]
           exact wpAny_pure hQ))

def Itl (K : PySem.W.Frag) (a : Addr) : It :=
  ⟨fun i H => ∃ xs x, SqL K H a xs ∧ xs[i]? = some x, fun i H x H' => H' = H ∧ ∀ xs, SqL K H a xs → xs[i]? = some x, fun i H => ∃ xs, SqL K H a xs ∧ xs.length ≤ i⟩
def Itt (K : PySem.W.Frag) (a : Addr) : It :=
  ⟨fun i H => ∃ xs x, SqT K H a xs ∧ xs[i]? = some x, fun i H x H' => H' = H ∧ ∀ xs, SqT K H a xs → xs[i]? = some x, fun i H => ∃ xs, SqT K H a xs ∧ xs.length ≤ i⟩
def Itr (lo : Int) (n : Nat) : It := ⟨fun i _ => i < n, fun i H x H' => H' = H ∧ x = .int (lo + i), fun i _ => n ≤ i⟩
theorem turn_list {P : Program} {w : World} {K : PySem.W.Frag} {tg : Expr} (a it : Addr) : Turn P w K tg (Itl K a) [it] it (fun i h => h.IsListIter it a i) where
  mem := by simp
  obj := fun i h st b hb => by
    have e : b = it := by simpa using hb
    subst e
    obtain ⟨o, e, c, d⟩ := st
    exact ⟨o, e, fun v z => by rw [d] at z; cases z⟩
  keep := fun i h h' st k => st.at fun o e => k it (by simp) o e
  item := by
    intro X hP hw hK hc i pins s σ H E I hf st hg
    subst hP hw hK
    obtain ⟨xs, x, hq, hx⟩ := hg
    obtain ⟨its, rv, p, hz⟩ := I.list hq
    obtain ⟨u, hu, ru⟩ := rv.get hx
    obtain ⟨f0, f1, f2, f3, f4, f5⟩ := hf it (by simp)
    refine wpAny_pyNext_list_item st p.isList (x := u) (by simpa using hu) fun h' st' sb => ?_
    have I1 : Inv X pins σ H { s with heap := h' } := I.turned (t' := s.toks) (fun b o hb e => (sb.2 b hb).trans e) f0 f1 f3 f4 f5
    obtain ⟨o, e, c, d⟩ := id st'
    exact ⟨u, rfl, go_of (s := { s with heap := h' }) e c d (by decide) ⟨x, H, I1, ru, ⟨rfl, fun ys hy => by rw [I.list_inj hy hq]; exact hx⟩, st', fun b hb => (hf b hb).1⟩⟩
  done := by
    intro X hP hw hK hc i pins s σ H E I hf st hg
    subst hP hw hK
    obtain ⟨xs, hq, hx⟩ := hg
    obtain ⟨its, rv, p, hz⟩ := I.list hq
    obtain ⟨f0, f1, f2, f3, f4, f5⟩ := hf it (by simp)
    have hl := rv.length
    exact wpAny_pyNext_list_end (I.ok.hd hc) st p.isList (by simp; omega) fun h' eb => ⟨rfl, I.turned (t' := s.toks) (fun b o hb e => eb b o hb e) f0 f1 f3 f4 f5⟩
  self := fun _ _ _ _ _ st h => wpAny_pyIter_listiter st h
theorem turn_tuple {P : Program} {w : World} {K : PySem.W.Frag} {tg : Expr} (a it : Addr) : Turn P w K tg (Itt K a) [it] it (fun i h => h.IsTupleIter it a i) where
  mem := by simp
  obj := fun i h st b hb => by
    have e : b = it := by simpa using hb
    subst e
    obtain ⟨o, e, c, d⟩ := st
    exact ⟨o, e, fun v z => by rw [d] at z; cases z⟩
  keep := fun i h h' st k => st.at fun o e => k it (by simp) o e
  item := by
    intro X hP hw hK hc i pins s σ H E I hf st hg
    subst hP hw hK
    obtain ⟨xs, x, hq, hx⟩ := hg
    obtain ⟨its, rv, p, hz⟩ := I.tuple hq
    obtain ⟨u, hu, ru⟩ := rv.get hx
    obtain ⟨f0, f1, f2, f3, f4, f5⟩ := hf it (by simp)
    refine wpAny_pyNext_tuple_item st (show s.heap.IsTuple a its.toArray from p) (x := u) (by simpa using hu) fun h' st' sb => ?_
    have I1 : Inv X pins σ H { s with heap := h' } := I.turned (t' := s.toks) (fun b o hb e => (sb.2 b hb).trans e) f0 f1 f3 f4 f5
    obtain ⟨o, e, c, d⟩ := id st'
    exact ⟨u, rfl, go_of (s := { s with heap := h' }) e c d (by decide) ⟨x, H, I1, ru, ⟨rfl, fun ys hy => by rw [I.tuple_inj hy hq]; exact hx⟩, st', fun b hb => (hf b hb).1⟩⟩
  done := by
    intro X hP hw hK hc i pins s σ H E I hf st hg
    subst hP hw hK
    obtain ⟨xs, hq, hx⟩ := hg
    obtain ⟨its, rv, p, hz⟩ := I.tuple hq
    obtain ⟨f0, f1, f2, f3, f4, f5⟩ := hf it (by simp)
    have hl := rv.length
    exact wpAny_pyNext_tuple_end (I.ok.hd hc) st (show s.heap.IsTuple a its.toArray from p) (by simp; omega) fun h' eb => ⟨rfl, I.turned (t' := s.toks) (fun b o hb e => eb b o hb e) f0 f1 f3 f4 f5⟩
  self := fun _ _ _ _ _ st h => wpAny_pyIter_tupleiter st h
theorem turn_range {P : Program} {w : World} {K : PySem.W.Frag} {tg : Expr} (it : Addr) (lo : Int) (n : Nat) : Turn P w K tg (Itr lo n) [it] it (fun i h => IsRangeIter h it (lo + (i : Nat) * 1) ((n : Int) - (i : Nat)) 1) where
  mem := by simp
  obj := fun i h st b hb => by
    have e : b = it := by simpa using hb
    subst e
    exact ⟨_, st, fun v z => by
      have z' : Data.fields _ = Data.cell v := z
      cases z'⟩
  keep := fun i h h' st k => k it (by simp) _ st
  item := by
    intro X hP hw hK hc i pins s σ H E I hf st hg
    subst hP hw hK
    obtain ⟨f0, f1, f2, f3, f4, f5⟩ := hf it (by simp)
    have W := Walks.range (prog := X.prog) (w := X.w) (I.ok.hd hc) it lo 1 n
    refine W.item i s _ _ hg st fun v h' tk hv st' kk => ?_
    obtain ⟨t, rfl⟩ := hv
    have I1 : Inv X pins σ H { s with heap := h', toks := tk } := I.turned (fun b o hb e => kk b o (by simpa using hb) e) f0 f1 f3 f4 f5
    refine ⟨_, rfl, go_of (s := { s with heap := h', toks := tk }) (n := "range_iterator") st' rfl rfl (by decide) ⟨.int (lo + i), H, I1, ⟨t, ?_⟩, ⟨rfl, rfl⟩, st', fun b hb => (hf b hb).1⟩⟩
    rw [Int.mul_one]
  done := by
    intro X hP hw hK hc i pins s σ H E I hf st hg
    subst hP hw hK
    obtain ⟨f0, f1, f2, f3, f4, f5⟩ := hf it (by simp)
    exact wpAny_pyNext_range_end (I.ok.hd hc) st (by have : n ≤ i := hg; omega) fun h' eb => ⟨rfl, I.turned (t' := s.toks) (fun b o hb e => eb b o hb e) f0 f1 f3 f4 f5⟩
  self := fun _ _ _ _ _ st h => wpAny_pyIter_rangeiter st h
end L2
namespace L2
open PySem PySem.Spec PyProof.Rows
section
variable {X : Cx} {tg : Expr}
def iList (K : PySem.W.Frag) (tl : TE) : TI := fun σ H R => tl σ H fun x H1 => ∃ a, x = .ref a ∧ (∃ xs, SqL K H1 a xs) ∧ R (Itl K a) H1
def iTup (K : PySem.W.Frag) (tl : TE) : TI := fun σ H R => tl σ H fun x H1 => ∃ a, x = .ref a ∧ (∃ xs, SqT K H1 a xs) ∧ R (Itt K a) H1
theorem pi_list {l : Expr} {tl : TE} (hl : PE X l tl) : PI X tg l (iList X.K tl) := by
  intro pins s σ H R I h
  refine thn (hl pins s σ H _ I h) fun v s1 ⟨x, H1, I1, r1, q1⟩ => ?_
  obtain ⟨a, e, ⟨xs, hq⟩, q⟩ := q1
  subst e
  cases r1
  obtain ⟨its, rv, p, hz⟩ := I1.list hq
  refine wpAny_pyIter_list p.isList ?_
  refine ⟨s1.heap.objs.size, [s1.heap.objs.size], _, _, H1, rfl, I1.kept (t' := s1.toks) fun b o e => Heap.get?_push_of_some _ e, turn_list a _, ⟨_, Heap.get?_push_size _ rfl, rfl, rfl⟩, fun b hb => ?_, q⟩
  have e : b = s1.heap.objs.size := by simpa using hb
  subst e
  exact I1.fpOk (Nat.le_refl _) (I1.hok.fresh (Nat.le_refl _))
theorem pi_tup {l : Expr} {tl : TE} (hl : PE X l tl) : PI X tg l (iTup X.K tl) := by
  intro pins s σ H R I h
  refine thn (hl pins s σ H _ I h) fun v s1 ⟨x, H1, I1, r1, q1⟩ => ?_
  obtain ⟨a, e, ⟨xs, hq⟩, q⟩ := q1
  subst e
  cases r1
  obtain ⟨its, rv, p, hz⟩ := I1.tuple hq
  refine wpAny_pyIter_tuple (show s1.heap.IsTuple a its.toArray from p) ?_
  refine ⟨s1.heap.objs.size, [s1.heap.objs.size], _, _, H1, rfl, I1.kept (t' := s1.toks) fun b o e => Heap.get?_push_of_some _ e, turn_tuple a _, ⟨_, Heap.get?_push_size _ rfl, rfl, rfl⟩, fun b hb => ?_, q⟩
  have e : b = s1.heap.objs.size := by simpa using hb
  subst e
  exact I1.fpOk (Nat.le_refl _) (I1.hok.fresh (Nat.le_refl _))
theorem range_it {pins : List (Addr × Obj)} {σ : St} {H : Hp} {s : Shared} {R : It → Hp → Prop} {E : Value → Shared → Prop} {lo hi : Int} {t u v : Tok} {tk : Nat} (I : Inv X pins σ H s) (h1 : -(2 ^ 62) ≤ lo) (h2 : lo < 2 ^ 62) (h3 : -(2 ^ 62) ≤ hi) (h4 : hi < 2 ^ 62)
    (q : R (Itr lo (hi - lo).toNat) H) : wpAny (model X.prog X.w) X.A (pyIter (.ref s.heap.objs.size)) (PIE X pins σ tg R) E { s with heap := s.heap.push { cls := .type "range", data := .fields #[.int lo t, .int hi u, .int 1 v] }, toks := tk } := by
  refine wpAny_pyIter_range (IsRange.new ..) (small_one h1 h2 h3 h4) ?_
  have I1 : Inv X pins σ H { s with heap := s.heap.push { cls := .type "range", data := .fields #[.int lo t, .int hi u, .int 1 v] }, toks := tk } := I.kept fun b o e => Heap.get?_push_of_some _ e
  refine ⟨(s.heap.push { cls := .type "range", data := .fields #[.int lo t, .int hi u, .int 1 v] }).objs.size, [(s.heap.push { cls := .type "range", data := .fields #[.int lo t, .int hi u, .int 1 v] }).objs.size], _, _, H, rfl,
    I1.kept (t' := tk) fun b o e => Heap.get?_push_of_some _ e, turn_range _ lo (hi - lo).toNat, ?_, fun b hb => ?_, q⟩
  · have e1 : lo + ((0 : Nat) : Int) * 1 = lo := by simp
    have e2 : (((hi - lo).toNat : Nat) : Int) - ((0 : Nat) : Int) = Builtin.Range.rangeSize lo hi 1 := by rw [rangeSize_one]; split <;> omega
    show IsRangeIter _ _ (lo + ((0 : Nat) : Int) * 1) ((((hi - lo).toNat : Nat) : Int) - ((0 : Nat) : Int)) 1
    rw [e1, e2]
    exact Heap.get?_push_size _ rfl
  · have e : b = (s.heap.push { cls := .type "range", data := .fields #[.int lo t, .int hi u, .int 1 v] }).objs.size := by simpa using hb
    subst e
    exact I1.fpOk (Nat.le_refl _) (I1.hok.fresh (Nat.le_refl _))
def iRng1 (ta : TA) : TI := fun σ H R => ta σ H fun vs H1 => ∃ j : Int, vs = [.int j] ∧ -(2 ^ 62) ≤ j ∧ j < 2 ^ 62 ∧ R (Itr 0 j.toNat) H1
theorem pi_range1 {a : Expr} {ta : TA} {p pos : Pos} (hg : Gl X "range") (hm : X.mg "range" = none) (ha : PA X [a] ta) (hs : starEach [a] X.env = [(false, eval a X.env)] := by rfl) : PI X tg (.Call (.Name "range" p) [a] [] pos) (iRng1 ta) := by
  intro pins s σ H R I h
  refine Call_ (ld_blt I hg hm boot_range (PyProof.Rows.callWith_type1 (thn (ha pos pins s σ H _ I h) fun us s1 ⟨vs, H1, I1, r1, q1⟩ => ?_) hs rfl))
  obtain ⟨j, e, q1, q2, q⟩ := q1
  subst e
  cases r1 with
  | cons r rr =>
    cases rr
    obtain ⟨t, rfl⟩ := r
    exact call_range_1 (range_it I1 (by omega) (by omega) q1 q2 (by simpa using q))
def tFor (wi : TI) (g : TG) (tb : TS) : TS := fun D σ H => wi σ H fun J H1 => ∃ W : Nat → Nat → St → Hp → Prop, (∃ m, W 0 m σ H1) ∧ ∀ i m σ H, W i m σ H →
  (J.stop i H ∧ D.nx σ H) ∨ (J.go i H ∧ ∃ N : St → Hp → Prop, (∀ σ' H', N σ' H' → ∃ m', m' < m ∧ W (i + 1) m' σ' H') ∧ ∀ x H', J.yld i H x H' → g x σ H' fun σ2 H2 => tb { D with nx := N, ct := N, bk := D.nx } σ2 H2)
def pinsAt (fp : List Addr) (h : Heap) : List (Addr × Obj) := fp.filterMap fun b => (h.get? b).map fun o => (b, o)
theorem mem_pinsAt {fp : List Addr} {h : Heap} {b : Addr} {o : Obj} (hb : b ∈ fp) (e : h.get? b = some o) : (b, o) ∈ pinsAt fp h := List.mem_filterMap.mpr ⟨b, hb, by rw [e]; rfl⟩
theorem of_pinsAt {fp : List Addr} {h : Heap} {p : Addr × Obj} (hp : p ∈ pinsAt fp h) : p.1 ∈ fp ∧ h.get? p.1 = some p.2 := by
  obtain ⟨b, hb, e⟩ := List.mem_filterMap.mp hp
  cases q : h.get? b with
  | none => rw [q] at e; cases e
  | some o =>
    rw [q] at e
    have e' : (b, o) = p := Option.some.inj e
    subst e'
    exact ⟨hb, q⟩
theorem Inv.pinned {pins : List (Addr × Obj)} {σ : St} {H : Hp} {s : Shared} {fp : List Addr} (I : Inv X pins σ H s) (hf : ∀ b ∈ fp, FpOk X pins H b) (ho : ∀ b ∈ fp, ∃ o, s.heap.get? b = some o ∧ ∀ v, o.data ≠ .cell v) : Inv X (pins ++ pinsAt fp s.heap) σ H s :=
  I.pins_of fun p hp => (List.mem_append.mp hp).elim (fun z => I.pin p (List.mem_append_right _ z)) fun z => by
    obtain ⟨hb, e⟩ := of_pinsAt z
    obtain ⟨f0, f1, f2, _⟩ := hf p.1 hb
    obtain ⟨o, e', d⟩ := ho p.1 hb
    rw [e] at e'; cases e'
    exact ⟨e, f0, f1, f2, d⟩
theorem Inv.unpinned {pins pl : List (Addr × Obj)} {σ : St} {H : Hp} {s : Shared} (I : Inv X (pins ++ pl) σ H s) : Inv X pins σ H s := I.pins_of fun p hp => I.pin p (List.mem_append_right _ (List.mem_append_left _ hp))
theorem ps_for {iter : Expr} {body : List Stmt} {wi : TI} {g : TG} {tb : TS} {pos : Pos} (hp : PassesOwn (model X.prog X.w) X.A X.env X.xe) (hc : X.calm = true) (hi : PI X tg iter wi) (hg : PG X tg g) (hb : PSs X body tb)
    (hs : ∀ x, foldedSetIterable iter X.env x = pure x := by intro _; rfl) : PS X (.For tg iter body [] pos) (tFor wi g tb) := by
  intro pins s σ H D I h
  refine wpAny_For (thn (hi pins s σ H _ I h) fun v s1 h1 => thn h1 fun itv s2 h2 => ?_) hs
  obtain ⟨it, fp, tn, J, H2, e, I2, T, st2, f2, W, ⟨m0, w0⟩, turn⟩ := h2
  subst e
  have stat : ∀ {H' : Hp}, (∀ b ∈ fp, H' b = none) → ∀ b ∈ fp, FpOk X pins H' b := fun hn b hb => ⟨hn b hb, (f2 b hb).2⟩
  refine codeAny_forLoop_any (fun n s' => ∃ i σ' H', Inv X pins σ' H' s' ∧ tn i s'.heap ∧ (∀ b ∈ fp, H' b = none) ∧ W i n σ' H') ?_ m0 ⟨0, σ, H2, I2, st2, fun b hb => (f2 b hb).1, w0⟩
  rintro n s3 ⟨i, σ3, H3, I3, st3, fr3, w3⟩
  rcases turn i n σ3 H3 w3 with ⟨stop, qn⟩ | ⟨go, N, hN, step⟩
  · refine wpAny_passesOwn hp (thn (T.done X rfl rfl rfl hc i pins s3 σ3 H3 X.xe I3 (stat fr3) st3 stop) fun r s4 ⟨hr, I4⟩ => ?_)
    subst hr
    exact wpAny_execs_nil ⟨σ3, H3, I4, qn⟩
  · refine wpAny_passesOwn hp (thn (T.item X rfl rfl rfl hc i pins s3 σ3 H3 X.xe I3 (stat fr3) st3 go) fun r s4 ⟨u, hr, h4⟩ => ?_)
    subst hr
    refine wpAny_passesOwn hp (thn h4 fun _ s5 ⟨x, H5, I5, r5, y5, st5, fr5⟩ => ?_)
    have I5' := I5.pinned (stat fr5) (T.obj _ _ st5)
    refine wpAny_passesOwn hp (thn (hg _ s5 σ3 H5 x u _ I5' r5 (step x H5 y5)) fun _ s6 ⟨σ6, H6, I6, q6⟩ => ?_)
    refine wpAny_passesOwn hp (thn (hb _ s6 σ6 H6 _ I6 q6) fun f s7 q7 => ?_)
    have again : ∀ {σ7 : St} {H7 : Hp}, Inv X (pins ++ pinsAt fp s5.heap) σ7 H7 s7 → N σ7 H7 → ∃ m, m < n ∧ ∃ i σ' H', Inv X pins σ' H' s7 ∧ tn i s7.heap ∧ (∀ b ∈ fp, H' b = none) ∧ W i m σ' H' := fun {σ7 H7} I7 n7 => by
      obtain ⟨m', hm, w7⟩ := hN σ7 H7 n7
      refine ⟨m', hm, i + 1, σ7, H7, I7.unpinned, T.keep _ _ _ st5 fun b hb o e => (I7.pin (b, o) (List.mem_append_right _ (List.mem_append_right _ (mem_pinsAt hb e)))).1, fun b hb => ?_, w7⟩
      obtain ⟨o, e, d⟩ := T.obj _ _ st5 b hb
      exact (I7.pin (b, o) (List.mem_append_right _ (List.mem_append_right _ (mem_pinsAt hb e)))).2.1
    cases f with
    | next => obtain ⟨σ7, H7, I7, n7⟩ := q7; exact again I7 n7
    | cont => obtain ⟨σ7, H7, I7, n7⟩ := q7; exact again I7 n7
    | brk => obtain ⟨σ7, H7, I7, q7⟩ := q7; exact ⟨σ7, H7, I7.unpinned, q7⟩
    | ret v => obtain ⟨x7, σ7, H7, I7, r7, q7⟩ := q7; exact ⟨x7, σ7, H7, I7.unpinned, r7, q7⟩
end
theorem for_list {K : PySem.W.Frag} {a : Addr} {xs : List V} {g : TG} {tb : TS} {D : Ends} {σ : St} {H : Hp} (Pv : Nat → St → Hp → Prop) (h0 : Pv 0 σ H) (hl : ∀ i σ H, i ≤ xs.length → Pv i σ H → SqL K H a xs)
    (hs : ∀ i x σ H, xs[i]? = some x → Pv i σ H → g x σ H fun σ2 H2 => tb { D with nx := Pv (i + 1), ct := Pv (i + 1), bk := D.nx } σ2 H2) (hd : ∀ σ H, Pv xs.length σ H → D.nx σ H) :
    ∃ W : Nat → Nat → St → Hp → Prop, (∃ m, W 0 m σ H) ∧ ∀ i m σ H, W i m σ H →
      ((Itl K a).stop i H ∧ D.nx σ H) ∨ ((Itl K a).go i H ∧ ∃ N : St → Hp → Prop, (∀ σ' H', N σ' H' → ∃ m', m' < m ∧ W (i + 1) m' σ' H') ∧ ∀ x H', (Itl K a).yld i H x H' → g x σ H' fun σ2 H2 => tb { D with nx := N, ct := N, bk := D.nx } σ2 H2) := by
  refine ⟨fun i m σ H => m = xs.length - i ∧ i ≤ xs.length ∧ Pv i σ H, ⟨xs.length, by simp, Nat.zero_le _, h0⟩, ?_⟩
  rintro i m σ H ⟨rfl, hi, p⟩
  have q := hl i σ H hi p
  by_cases hlt : i < xs.length
  · refine .inr ⟨⟨xs, xs[i], q, by simp [hlt]⟩, Pv (i + 1), fun σ' H' p' => ⟨xs.length - (i + 1), by omega, rfl, hlt, p'⟩, fun x H' y => ?_⟩
    obtain ⟨e, y⟩ := y
    subst e
    exact hs i x σ _ (y xs q) p
  · have e : i = xs.length := by omega
    subst e
    exact .inl ⟨⟨xs, q, Nat.le_refl _⟩, hd σ H p⟩
theorem for_tup {K : PySem.W.Frag} {a : Addr} {xs : List V} {g : TG} {tb : TS} {D : Ends} {σ : St} {H : Hp} (Pv : Nat → St → Hp → Prop) (h0 : Pv 0 σ H) (hl : ∀ i σ H, i ≤ xs.length → Pv i σ H → SqT K H a xs)
    (hs : ∀ i x σ H, xs[i]? = some x → Pv i σ H → g x σ H fun σ2 H2 => tb { D with nx := Pv (i + 1), ct := Pv (i + 1), bk := D.nx } σ2 H2) (hd : ∀ σ H, Pv xs.length σ H → D.nx σ H) :
    ∃ W : Nat → Nat → St → Hp → Prop, (∃ m, W 0 m σ H) ∧ ∀ i m σ H, W i m σ H →
      ((Itt K a).stop i H ∧ D.nx σ H) ∨ ((Itt K a).go i H ∧ ∃ N : St → Hp → Prop, (∀ σ' H', N σ' H' → ∃ m', m' < m ∧ W (i + 1) m' σ' H') ∧ ∀ x H', (Itt K a).yld i H x H' → g x σ H' fun σ2 H2 => tb { D with nx := N, ct := N, bk := D.nx } σ2 H2) := by
  refine ⟨fun i m σ H => m = xs.length - i ∧ i ≤ xs.length ∧ Pv i σ H, ⟨xs.length, by simp, Nat.zero_le _, h0⟩, ?_⟩
  rintro i m σ H ⟨rfl, hi, p⟩
  have q := hl i σ H hi p
  by_cases hlt : i < xs.length
  · refine .inr ⟨⟨xs, xs[i], q, by simp [hlt]⟩, Pv (i + 1), fun σ' H' p' => ⟨xs.length - (i + 1), by omega, rfl, hlt, p'⟩, fun x H' y => ?_⟩
    obtain ⟨e, y⟩ := y
    subst e
    exact hs i x σ _ (y xs q) p
  · have e : i = xs.length := by omega
    subst e
    exact .inl ⟨⟨xs, q, Nat.le_refl _⟩, hd σ H p⟩
theorem for_range {lo : Int} {n : Nat} {g : TG} {tb : TS} {D : Ends} {σ : St} {H : Hp} (Pv : Nat → St → Hp → Prop) (h0 : Pv 0 σ H)
    (hs : ∀ i σ H, i < n → Pv i σ H → g (.int (lo + i)) σ H fun σ2 H2 => tb { D with nx := Pv (i + 1), ct := Pv (i + 1), bk := D.nx } σ2 H2) (hd : ∀ σ H, Pv n σ H → D.nx σ H) :
    ∃ W : Nat → Nat → St → Hp → Prop, (∃ m, W 0 m σ H) ∧ ∀ i m σ H, W i m σ H →
      ((Itr lo n).stop i H ∧ D.nx σ H) ∨ ((Itr lo n).go i H ∧ ∃ N : St → Hp → Prop, (∀ σ' H', N σ' H' → ∃ m', m' < m ∧ W (i + 1) m' σ' H') ∧ ∀ x H', (Itr lo n).yld i H x H' → g x σ H' fun σ2 H2 => tb { D with nx := N, ct := N, bk := D.nx } σ2 H2) := by
  refine ⟨fun i m σ H => m = n - i ∧ i ≤ n ∧ Pv i σ H, ⟨n, by simp, Nat.zero_le _, h0⟩, ?_⟩
  rintro i m σ H ⟨rfl, hi, p⟩
  by_cases hlt : i < n
  · refine .inr ⟨hlt, Pv (i + 1), fun σ' H' p' => ⟨n - (i + 1), by omega, rfl, hlt, p'⟩, fun x H' y => ?_⟩
    obtain ⟨e, y⟩ := y
    subst e y
    exact hs i σ _ hlt p
  · have e : i = n := by omega
    subst e
    exact .inl ⟨Nat.le_refl _, hd σ H p⟩
theorem while_by {c : TT} {tb : TS} {D : Ends} {σ : St} {H : Hp} (Pv : St → Hp → Prop) (μ : St → Hp → Nat) (h0 : Pv σ H)
    (hs : ∀ σ H, Pv σ H → c σ H fun b H1 => if b = true then tb { D with nx := fun σ' H' => Pv σ' H' ∧ μ σ' H' < μ σ H, ct := fun σ' H' => Pv σ' H' ∧ μ σ' H' < μ σ H, bk := D.nx } σ H1 else D.nx σ H1)
    (mono : ∀ σ H Q Q', (∀ b H1, Q b H1 → Q' b H1) → c σ H Q → c σ H Q') : tWhile c tb D σ H := by
  refine ⟨fun m σ H => m = μ σ H ∧ Pv σ H, ⟨_, rfl, h0⟩, ?_⟩
  rintro m σ H ⟨rfl, p⟩
  refine mono σ H _ _ (fun b H1 q => ?_) (hs σ H p)
  cases b with
  | true => exact ⟨_, fun σ' H' ⟨p', l⟩ => ⟨_, l, rfl, p'⟩, q⟩
  | false => exact q
end L2
namespace L2
open PySem PySem.Spec PyProof.Rows
abbrev R2 := V → V → Hp → VK → Prop
def OpR (X : Cx) (f : Value → Value → Sem Value) (r : R2) : Prop :=
  ∀ (pins : List (Addr × Obj)) (s : Shared) (σ : St) (H : Hp) (x y : V) (v u : Value) (Q : VK), Inv X pins σ H s → RelV x v → RelV y u → r x y H Q →
    wpAny (model X.prog X.w) X.A (f v u) (EP X pins σ Q) X.xe s
def UnR (X : Cx) (f : Value → Sem Value) (r : V → Hp → VK → Prop) : Prop :=
  ∀ (pins : List (Addr × Obj)) (s : Shared) (σ : St) (H : Hp) (x : V) (v : Value) (Q : VK), Inv X pins σ H s → RelV x v → r x H Q →
    wpAny (model X.prog X.w) X.A (f v) (EP X pins σ Q) X.xe s
def CallR (X : Cx) (f : Value) (r : List V → Hp → VK → Prop) : Prop :=
  ∀ (pins : List (Addr × Obj)) (s : Shared) (σ : St) (H : Hp) (xs : List V) (us : List Value) (Q : VK), Inv X pins σ H s → Vals xs us → r xs H Q →
    wpAny (model X.prog X.w) X.A (call f us) (EP X pins σ Q) X.xe s
def TruR (X : Cx) (r : V → Hp → (Bool → Hp → Prop) → Prop) : Prop :=
  ∀ (pins : List (Addr × Obj)) (s : Shared) (σ : St) (H : Hp) (x : V) (v : Value) (Q : Bool → Hp → Prop), Inv X pins σ H s → RelV x v → r x H Q →
    wpAny (model X.prog X.w) X.A (truthy v) (TP X pins σ Q) X.xe s

def tOp (r : R2) (ta tb : TE) : TE := fun σ H Q => ta σ H fun x H1 => tb σ H1 fun y H2 => r x y H2 Q
def tUn (r : V → Hp → VK → Prop) (ta : TE) : TE := fun σ H Q => ta σ H fun x H1 => r x H1 Q
def rI (C : Int → Int → Prop) (g : Int → Int → V) : R2 := fun x y H Q => ∃ i j, x = .int i ∧ y = .int j ∧ C i j ∧ Q (g i j) H
def rI0 (g : Int → Int → V) : R2 := fun x y H Q => ∃ i j, x = .int i ∧ y = .int j ∧ Q (g i j) H
def rU (g : Int → V) : V → Hp → VK → Prop := fun x H Q => ∃ i, x = .int i ∧ Q (g i) H

section
variable {X : Cx} {a b c : Expr} {ta tb tc : TE} {pos : Pos}
theorem binT (ha : PE X a ta) (hb : PE X b tb) {pins : List (Addr × Obj)} {s : Shared} {σ : St} {H : Hp} {R : V → V → Hp → Prop} (I : Inv X pins σ H s)
    (h : ta σ H fun x H1 => tb σ H1 fun y H2 => R x y H2) {Q : Value → Shared → Prop} {f : Value → Value → Sem Value}
    (hf : ∀ v u s2 x y H2, Inv X pins σ H2 s2 → RelV x v → RelV y u → R x y H2 → wpAny (model X.prog X.w) X.A (f v u) Q X.xe s2) :
    wpAny (model X.prog X.w) X.A (eval a X.env) (fun v s₁ => wpAny (model X.prog X.w) X.A (eval b X.env) (fun u s₂ => wpAny (model X.prog X.w) X.A (f v u) Q X.xe s₂) X.xe s₁) X.xe s := by
  refine thn (ha pins s σ H _ I h) fun v s1 ⟨x, H1, I1, r1, q1⟩ => ?_
  refine thn (hb pins s1 σ H1 _ I1 q1) fun u s2 ⟨y, H2, I2, r2, q2⟩ => ?_
  exact hf v u s2 x y H2 I2 r1 r2 q2

theorem pe_op {op : Operator} {r : R2} (ho : OpR X (binaryOp op) r) (ha : PE X a ta) (hb : PE X b tb) : PE X (.BinOp a op b pos) (tOp r ta tb) := by
  intro pins s σ H Q I h
  exact wpAny_BinOp (binT ha hb I h fun v u s2 x y H2 I2 rx ry q => ho pins s2 σ H2 x y v u Q I2 rx ry q)
theorem pe_un {op : UnaryOp} {r : V → Hp → VK → Prop} (ho : UnR X (unaryOp op) r) (ha : PE X a ta) : PE X (.UnaryOp op a pos) (tUn r ta) := by
  intro pins s σ H Q I h
  exact UnaryOp_ (thn (ha pins s σ H _ I h) fun v s1 ⟨x, H1, I1, r1, q1⟩ => ho pins s1 σ H1 x v Q I1 r1 q1)
theorem opI {f : Value → Value → Sem Value} {C : Int → Int → Prop} {g : Int → Int → Int}
    (rule : ∀ (i j : Int) (t u : Tok) (s : Shared) (Q : Value → Shared → Prop) (E : Value → Shared → Prop), C i j → Q (.int (g i j) s.toks) { s with toks := s.toks + 1 } → wpAny (model X.prog X.w) X.A (f (.int i t) (.int j u)) Q E s) :
    OpR X f (rI C fun i j => .int (g i j)) := by
  intro pins s σ H x y v u Q I rx ry h
  obtain ⟨i, j, rfl, rfl, hc, q⟩ := h
  obtain ⟨t, rfl⟩ := rx
  obtain ⟨t', rfl⟩ := ry
  exact rule i j t t' s _ _ hc ⟨.int (g i j), H, I.tok _, ⟨_, rfl⟩, q⟩
theorem opI0 {f : Value → Value → Sem Value} {g : Int → Int → Int}
    (rule : ∀ (i j : Int) (t u : Tok) (s : Shared) (Q : Value → Shared → Prop) (E : Value → Shared → Prop), Q (.int (g i j) s.toks) { s with toks := s.toks + 1 } → wpAny (model X.prog X.w) X.A (f (.int i t) (.int j u)) Q E s) :
    OpR X f (rI0 fun i j => .int (g i j)) := by
  intro pins s σ H x y v u Q I rx ry h
  obtain ⟨i, j, rfl, rfl, q⟩ := h
  obtain ⟨t, rfl⟩ := rx
  obtain ⟨t', rfl⟩ := ry
  exact rule i j t t' s _ _ ⟨.int (g i j), H, I.tok _, ⟨_, rfl⟩, q⟩
theorem opB0 {f : Value → Value → Sem Value} {g : Int → Int → Bool}
    (rule : ∀ (i j : Int) (t u : Tok) (s : Shared) (Q : Value → Shared → Prop) (E : Value → Shared → Prop), Q (.bool (g i j)) s → wpAny (model X.prog X.w) X.A (f (.int i t) (.int j u)) Q E s) :
    OpR X f (rI0 fun i j => .bl (g i j)) := by
  intro pins s σ H x y v u Q I rx ry h
  obtain ⟨i, j, rfl, rfl, q⟩ := h
  obtain ⟨t, rfl⟩ := rx
  obtain ⟨t', rfl⟩ := ry
  exact rule i j t t' s _ _ ⟨.bl (g i j), H, I, rfl, q⟩

def CDiv (i j : Int) : Prop := 0 < j ∧ j < 1073741824
def CPow (i j : Int) : Prop := 0 ≤ j ∧ j ≤ 1000000 ∧ i.natAbs < 2 ^ 64
def CMul (i j : Int) : Prop := (-(2 ^ 64) < i ∧ i < 2 ^ 64) ∨ (-(2 ^ 64) < j ∧ j < 2 ^ 64)
theorem CMul.ok {i j : Int} (h : CMul i j) : IntMulOk i j := by
  rcases h with ⟨h1, h2⟩ | ⟨h1, h2⟩
  · exact .of_left (intBits_le_64 h1 h2)
  · exact .of_right (intBits_le_64 h1 h2)
theorem two_pow_nn (k : Nat) : (0 : Int) ≤ 2 ^ k := by
  rw [two_pow_cast]
  exact Int.natCast_nonneg _

theorem op_add : OpR X (binaryOp .Add) (rI0 fun i j => .int (i + j)) := opI0 fun _ _ _ _ _ _ _ q => add_int q
theorem op_sub : OpR X (binaryOp .Sub) (rI0 fun i j => .int (i - j)) := opI0 fun _ _ _ _ _ _ _ q => sub_int q
theorem op_mul : OpR X (binaryOp .Mult) (rI CMul fun i j => .int (i * j)) := opI fun _ _ _ _ _ _ _ hc q => mul_int q hc.ok
theorem op_fdiv : OpR X (binaryOp .FloorDiv) (rI CDiv fun i j => .int (i / j)) := opI fun i j _ _ _ _ _ hc q => by
  have h1 : (0 : Int) < j := hc.1
  have h2 : j < 1073741824 := hc.2
  exact floordiv_int (by omega) (by rw [Int.fdiv_eq_ediv_of_nonneg i (by omega)]; exact q) (.inl (PyProof.noPylong_small (by omega)))
theorem op_mod : OpR X (binaryOp .Mod) (rI (fun _ j => 0 < j) fun i j => .int (i % j)) := opI fun i j _ _ _ _ _ hc q => by
  have h1 : (0 : Int) < j := hc
  exact mod_int' (by omega) (by rw [Int.fmod_eq_emod_of_nonneg i (by omega)]; exact q)
theorem op_modN : OpR X (binaryOp .Mod) (rI (fun _ j => j ≠ 0) fun i j => .int (i.fmod j)) := opI fun _ _ _ _ _ _ _ hc q => mod_int' hc q
theorem op_pow : OpR X (binaryOp .Pow) (rI CPow fun i j => .int (i ^ j.toNat)) := opI fun _ _ _ _ _ _ _ hc q => pow_int_small hc.1 hc.2.1 hc.2.2 q
theorem op_shr : OpR X (binaryOp .RShift) (rI (fun _ j => 0 ≤ j) fun i j => .int (i / 2 ^ j.toNat)) := opI fun i j _ _ _ _ _ hc q =>
  rshift_int hc (by rw [Int.fdiv_eq_ediv_of_nonneg i (two_pow_nn _)]; exact q)
theorem unI {f : Value → Sem Value} {g : Int → Int}
    (rule : ∀ (i : Int) (t : Tok) (s : Shared) (Q : Value → Shared → Prop) (E : Value → Shared → Prop), Q (.int (g i) s.toks) { s with toks := s.toks + 1 } → wpAny (model X.prog X.w) X.A (f (.int i t)) Q E s) :
    UnR X f (rU fun i => .int (g i)) := by
  intro pins s σ H x v Q I rx h
  obtain ⟨i, rfl, q⟩ := h
  obtain ⟨t, rfl⟩ := rx
  exact rule i t s _ _ ⟨.int (g i), H, I.tok _, ⟨_, rfl⟩, q⟩
theorem un_neg : UnR X (unaryOp .USub) (rU fun i => .int (-i)) := unI fun _ _ _ _ _ q => neg_int q
end
def scal : V → V → Bool
  | .non, .non => true | .non, .int _ => true | .int _, .non => true | .non, .bl _ => true | .bl _, .non => true | .non, .str _ => true | .str _, .non => true
  | .int _, .int _ => true | .bl _, .bl _ => true | .str _, .str _ => true | .byt _, .byt _ => true
  | .int _, .str _ => true | .str _, .int _ => true | .bl _, .str _ => true | .str _, .bl _ => true
  | _, _ => false
def rEq : R2 := fun x y H Q => scal x y = true ∧ Q (.bl (decide (x = y))) H
def rNe : R2 := fun x y H Q => scal x y = true ∧ Q (.bl (!decide (x = y))) H

theorem dec_int {i j : Int} : decide (V.int i = V.int j) = (i == j) := by
  rw [Bool.eq_iff_iff]
  simp
theorem dec_bl {i j : Bool} : decide (V.bl i = V.bl j) = (i == j) := by
  rw [Bool.eq_iff_iff]
  simp
theorem dec_str {i j : Str} : decide (V.str i = V.str j) = (i == j) := by
  rw [Bool.eq_iff_iff]
  simp
theorem dec_byt {i j : Array UInt8} : decide (V.byt i = V.byt j) = (i.toList == j.toList) := by
  rw [Bool.eq_iff_iff]
  cases i
  cases j
  simp

section
variable {X : Cx} {a b c : Expr} {ta tb tc : TE} {pos : Pos}
theorem fin_bl {pins : List (Addr × Obj)} {σ : St} {H : Hp} {s : Shared} {Q : VK} {k k' : Bool} (I : Inv X pins σ H s) (q : Q (.bl k) H) (e : k = k') : EP X pins σ Q (.bool k') s := by
  subst e
  exact ⟨.bl k, H, I, rfl, q⟩
theorem op_eq : OpR X (compareOp .Eq) rEq := by
  intro pins s σ H x y v u Q I rx ry h
  obtain ⟨hs, q⟩ := h
  cases x with
  | non =>
    cases rx
    cases y with
    | non => cases ry; exact PySem.EqNone.eq_none_none (fin_bl I q (by simp))
    | bl j => cases ry; exact PySem.EqNone.eq_none_bool (fin_bl I q (by simp))
    | int j => obtain ⟨t', rfl⟩ := ry; exact PySem.EqNone.eq_none_int (fin_bl I q (by simp))
    | str j => obtain ⟨t', rfl⟩ := ry; exact PySem.EqNone.eq_none_str (fin_bl I q (by simp))
    | _ => exact absurd (show false = true from hs) Bool.false_ne_true
  | bl i =>
    cases rx
    cases y with
    | non => cases ry; exact PySem.EqNone.eq_bool_none (fin_bl I q (by simp))
    | bl j => cases ry; exact eq_bool (fin_bl I q dec_bl)
    | str j => obtain ⟨t', rfl⟩ := ry; exact PySem.EqMixed.eq_bool_str (fin_bl I q (by simp))
    | _ => exact absurd (show false = true from hs) Bool.false_ne_true
  | int i =>
    obtain ⟨t, rfl⟩ := rx
    cases y with
    | non => cases ry; exact PySem.EqNone.eq_int_none (fin_bl I q (by simp))
    | int j => obtain ⟨t', rfl⟩ := ry; exact eq_int (fin_bl I q dec_int)
    | str j => obtain ⟨t', rfl⟩ := ry; exact PySem.EqMixed.eq_int_str (fin_bl I q (by simp))
    | _ => exact absurd (show false = true from hs) Bool.false_ne_true
  | str i =>
    obtain ⟨t, rfl⟩ := rx
    cases y with
    | non => cases ry; exact PySem.EqNone.eq_str_none (fin_bl I q (by simp))
    | bl j => cases ry; exact PySem.EqMixed.eq_str_bool (fin_bl I q (by simp))
    | int j => obtain ⟨t', rfl⟩ := ry; exact PySem.EqMixed.eq_str_int (fin_bl I q (by simp))
    | str j => obtain ⟨t', rfl⟩ := ry; exact eq_str (fin_bl I q dec_str)
    | _ => exact absurd (show false = true from hs) Bool.false_ne_true
  | byt i =>
    obtain ⟨t, rfl⟩ := rx
    cases y with
    | byt j => obtain ⟨t', rfl⟩ := ry; exact PySem.W.eq_bytes (fin_bl I q dec_byt)
    | _ => exact absurd (show false = true from hs) Bool.false_ne_true
  | _ => cases y <;> exact absurd (show false = true from hs) Bool.false_ne_true
theorem op_ne : OpR X (compareOp .NotEq) rNe := by
  intro pins s σ H x y v u Q I rx ry h
  obtain ⟨hs, q⟩ := h
  cases x with
  | non =>
    cases rx
    cases y with
    | non => cases ry; exact PySem.EqNone.ne_none_none (fin_bl I q (by simp))
    | bl j => cases ry; exact PySem.EqNone.ne_none_bool (fin_bl I q (by simp))
    | int j => obtain ⟨t', rfl⟩ := ry; exact PySem.EqNone.ne_none_int (fin_bl I q (by simp))
    | str j => obtain ⟨t', rfl⟩ := ry; exact PySem.EqNone.ne_none_str (fin_bl I q (by simp))
    | _ => exact absurd (show false = true from hs) Bool.false_ne_true
  | bl i =>
    cases rx
    cases y with
    | non => cases ry; exact PySem.EqNone.ne_bool_none (fin_bl I q (by simp))
    | bl j => cases ry; exact ne_bool (fin_bl I q (congrArg not dec_bl))
    | str j => obtain ⟨t', rfl⟩ := ry; exact PySem.EqMixed.ne_bool_str (fin_bl I q (by simp))
    | _ => exact absurd (show false = true from hs) Bool.false_ne_true
  | int i =>
    obtain ⟨t, rfl⟩ := rx
    cases y with
    | non => cases ry; exact PySem.EqNone.ne_int_none (fin_bl I q (by simp))
    | int j => obtain ⟨t', rfl⟩ := ry; exact ne_int (fin_bl I q (congrArg not dec_int))
    | str j => obtain ⟨t', rfl⟩ := ry; exact PySem.EqMixed.ne_int_str (fin_bl I q (by simp))
    | _ => exact absurd (show false = true from hs) Bool.false_ne_true
  | str i =>
    obtain ⟨t, rfl⟩ := rx
    cases y with
    | non => cases ry; exact PySem.EqNone.ne_str_none (fin_bl I q (by simp))
    | bl j => cases ry; exact PySem.EqMixed.ne_str_bool (fin_bl I q (by simp))
    | int j => obtain ⟨t', rfl⟩ := ry; exact PySem.EqMixed.ne_str_int (fin_bl I q (by simp))
    | str j => obtain ⟨t', rfl⟩ := ry; exact ne_str (fin_bl I q (congrArg not dec_str))
    | _ => exact absurd (show false = true from hs) Bool.false_ne_true
  | byt i =>
    obtain ⟨t, rfl⟩ := rx
    cases y with
    | byt j => obtain ⟨t', rfl⟩ := ry; exact PySem.W.ne_bytes (fin_bl I q (congrArg not dec_byt))
    | _ => exact absurd (show false = true from hs) Bool.false_ne_true
  | _ => cases y <;> exact absurd (show false = true from hs) Bool.false_ne_true

theorem op_lt : OpR X (compareOp .Lt) (rI0 fun i j => .bl (decide (i < j))) := opB0 fun _ _ _ _ _ _ _ q => lt_int q
theorem op_le : OpR X (compareOp .LtE) (rI0 fun i j => .bl (decide (i ≤ j))) := opB0 fun _ _ _ _ _ _ _ q => le_int q
theorem op_gt : OpR X (compareOp .Gt) (rI0 fun i j => .bl (decide (j < i))) := opB0 fun _ _ _ _ _ _ _ q => gt_int q
theorem op_ge : OpR X (compareOp .GtE) (rI0 fun i j => .bl (decide (j ≤ i))) := opB0 fun _ _ _ _ _ _ _ q => ge_int q
theorem OpR.or {f : Value → Value → Sem Value} {r r' : R2} (h : OpR X f r) (h' : OpR X f r') : OpR X f (fun x y H Q => r x y H Q ∨ r' x y H Q) := by
  intro pins s σ H x y v u Q I rx ry q
  rcases q with q | q
  · exact h pins s σ H x y v u Q I rx ry q
  · exact h' pins s σ H x y v u Q I rx ry q

theorem nomark (b : Expr) {op : CmpOp} (h : op ≠ .In := by decide) (h2 : op ≠ .NotIn := by decide) : behindInMarks op b = false := by
  have e1 : (op == CmpOp.In) = false := by cases op <;> first | rfl | exact absurd rfl h
  have e2 : (op == CmpOp.NotIn) = false := by cases op <;> first | rfl | exact absurd rfl h2
  cases b <;> simp [behindInMarks, e1, e2]
theorem pe_cmpR {op : CmpOp} {r : R2} (ho : OpR X (compareOp op) r) (ha : PE X a ta) (hb : PE X b tb) (hm : behindInMarks op b = false) : PE X (.Compare a [op] [b] pos) (tOp r ta tb) := by
  intro pins s σ H Q I h
  exact wpAny_Compare1 (binT ha hb I h fun v u s2 x y H2 I2 rx ry q => ho pins s2 σ H2 x y v u Q I2 rx ry q) hm
def tTest (t : TE) : TT := fun σ H Q => t σ H fun x H' => ∃ k, x = .bl k ∧ Q k H'
theorem pt_cmpR {op : CmpOp} {r : R2} (ho : OpR X (compareOp op) r) (ha : PE X a ta) (hb : PE X b tb) (hm : behindInMarks op b = false) : PT X (.Compare a [op] [b] pos) (tTest (tOp r ta tb)) := by
  intro pins s σ H Q I h
  refine wpAny_isTrue_Compare1 (thn (ha pins s σ H _ I h) fun v s1 ⟨x, H1, I1, r1, q1⟩ => thn (hb pins s1 σ H1 _ I1 q1) fun u s2 ⟨y, H2, I2, r2, q2⟩ =>
    thn (ho pins s2 σ H2 x y v u _ I2 r1 r2 q2) fun c s3 ⟨z, H3, I3, r3, k, e, q3⟩ => ?_) hm
  subst e
  cases r3
  exact wpAny_truthy_bool ⟨H3, I3, q3⟩
def TruV (K : PySem.W.Frag) (x : V) (H : Hp) (k : Bool) : Prop :=
  match x with
  | .non => k = false
  | .bl b => k = b
  | .int i => k = (i != 0)
  | .str y => y.length ≤ sizeLine ∧ k = ((y.length : Int) != 0)
  | .byt y => y.size ≤ sizeLine ∧ k = ((y.size : Int) != 0)
  | .ref p => (∃ xs, SqL K H p xs ∧ k = !xs.isEmpty) ∨ (∃ xs, SqT K H p xs ∧ k = !xs.isEmpty) ∨ ∃ kvs, H p = some (.dK kvs) ∧ k = !kvs.isEmpty
  | _ => False
theorem isEmpty_kv {κ : Type} {kvs : List (κ × V)} {vs : List (κ × Value)} (r : KV kvs vs) : (!vs.isEmpty) = !kvs.isEmpty := by
  cases r <;> rfl
theorem isEmpty_of {xs : List V} {its : List Value} (r : Vals xs its) : (!its.toArray.isEmpty) = !xs.isEmpty := by
  cases r <;> simp
theorem line63 : (sizeLine : Nat) < 2 ^ 63 := by rw [sizeLine_eq]; decide
theorem tru_ok : TruR X (fun x H Q => ∃ k, TruV X.K x H k ∧ Q k H) := by
  intro pins s σ H x v Q I rx h
  obtain ⟨k, e, q⟩ := h
  have hl := line63
  have hs : sizeLine = 16777216 := sizeLine_eq
  cases x with
  | non =>
    cases rx
    have e' : k = false := e
    subst e'
    exact truthy_none ⟨H, I, q⟩
  | bl b =>
    cases rx
    have e' : k = b := e
    subst e'
    exact wpAny_truthy_bool ⟨H, I, q⟩
  | int i =>
    obtain ⟨t, rfl⟩ := rx
    have e' : k = (i != 0) := e
    subst e'
    exact PySem.P.truthy_int ⟨H, I, q⟩
  | str y =>
    obtain ⟨t, rfl⟩ := rx
    obtain ⟨hy, e'⟩ : y.length ≤ sizeLine ∧ k = ((y.length : Int) != 0) := e
    subst e'
    exact PySem.P.truthy_str (by omega) ⟨H, I.tok _, q⟩
  | byt y =>
    obtain ⟨t, rfl⟩ := rx
    obtain ⟨hy, e'⟩ : y.size ≤ sizeLine ∧ k = ((y.size : Int) != 0) := e
    subst e'
    exact PySem.W.truthy_bytes (by omega) ⟨H, I.tok _, q⟩
  | ref p =>
    cases rx
    have e' : (∃ xs, SqL X.K H p xs ∧ k = !xs.isEmpty) ∨ (∃ xs, SqT X.K H p xs ∧ k = !xs.isEmpty) ∨ ∃ kvs, H p = some (.dK kvs) ∧ k = !kvs.isEmpty := e
    rcases e' with ⟨xs, hx, e'⟩ | ⟨xs, hx, e'⟩ | ⟨kvs, hx, e'⟩
    · subst e'
      obtain ⟨its, r, pl, hz⟩ := I.list hx
      have hlen := r.length
      exact wpAny_truthy_list pl.isList (by simp only [List.size_toArray]; omega) ⟨H, I.tok _, by rw [isEmpty_of r]; exact q⟩
    · subst e'
      obtain ⟨its, r, pl, hz⟩ := I.tuple hx
      have hlen := r.length
      exact truthy_tuple pl (by simp only [List.size_toArray]; omega) ⟨H, I.tok _, by rw [isEmpty_of r]; exact q⟩
    · subst e'
      obtain ⟨hz, hS, vs, r, m⟩ : kvs.length ≤ sizeLine ∧ (p == sysModules) = false ∧ ∃ vs, KV kvs vs ∧ s.heap.DictOf (mixKind X.prog X.w) p vs := I.hok p _ hx
      have hlen : kvs.length = vs.length := Paired.length r
      exact wpAny_truthy_dict hS m (by omega) ⟨H, I.tok _, by rw [isEmpty_kv r]; exact q⟩
  | _ => exact (show False from e).elim
theorem pt_truth (ha : PE X a ta) (he : ∀ whole, isTrue a X.env whole = (do let v ← whole; standAt a.pos; holding [v] (truthy v))) :
    PT X a (fun σ H Q => ta σ H fun x H' => ∃ k, TruV X.K x H' k ∧ Q k H') := by
  intro pins s σ H Q I h
  exact isTrue_plain (thn (ha pins s σ H _ I h) fun v s1 ⟨x, H1, I1, r1, q1⟩ => tru_ok pins s1 σ H1 x v Q I1 r1 q1) (he _)

theorem vals1 {x : V} {us : List Value} (r : Vals [x] us) : ∃ u, us = [u] ∧ RelV x u := by
  cases r with
  | cons r1 r2 => cases r2; exact ⟨_, rfl, r1⟩
theorem call_abs : CallR X (.builtin "abs") (fun xs H Q => ∃ i, xs = [.int i] ∧ Q (.int (if i < 0 then -i else i)) H) := by
  intro pins s σ H xs us Q I r h
  obtain ⟨i, rfl, q⟩ := h
  obtain ⟨u, rfl, t, rfl⟩ := vals1 r
  exact call_abs_int fun u tk => ⟨.int (if i < 0 then -i else i), H, I.tok _, ⟨_, rfl⟩, q⟩
end
end L2
namespace L2
open PySem PySem.Spec PyProof.Rows
structure ObjM (h : Heap) (x dx C : Addr) (mA : Str → Option Value) : Prop where
  obj : h.get? x = some (PySem.W.instObj C dx)
  ns : h.Ns1 dx mA
  ne : dx ≠ x

theorem lookIn_ns {h : Heap} {dx : Addr} {mA : Str → Option Value} (n : h.Ns1 dx mA) : ∃ od, h.get? dx = some od ∧ ∀ name, PySem.W.lookIn name od = some (mA name) := by
  obtain ⟨o, es, ep, ho, hd, hk, _, hm⟩ := n
  refine ⟨o, ho, fun name => ?_⟩
  have e := hm name
  unfold nsFind findBy at e
  rw [← Array.find?_toList] at e
  unfold PySem.W.lookIn
  rw [hd]
  dsimp only
  split
  · rename_i y q
    rw [q] at e
    exact congrArg some e
  · rename_i q
    rw [q] at e
    have a : es.toList.any (·.refKey) = false := by
      rw [List.any_eq_false]
      intro y hy
      obtain ⟨z, t, hkey⟩ := hk y (Array.mem_toList_iff.mp hy)
      simp [DictEntry.refKey, hkey]
    have a' : ¬ es.toList.any (·.refKey) = true := by rw [a]; exact Bool.false_ne_true
    rw [if_neg a']
    exact congrArg some e

theorem ObjM.look {h : Heap} {x dx C : Addr} {mA : Str → Option Value} (I : ObjM h x dx C mA) : ∃ od, PySem.W.InstAt h x (PySem.W.instObj C dx) C (some od) ∧ ∀ name, PySem.W.lookIn name od = some (mA name) :=
  let ⟨od, ho, hl⟩ := lookIn_ns I.ns
  ⟨od, ⟨I.obj, rfl, rfl, ho⟩, hl⟩

section
variable {prog : Program} {w : World} {A : Around} {E : Value → Shared → Prop} {s : Shared} {K : PySem.W.Frag} {x dx C f : Addr} {mA : Str → Option Value} {name : Str} {v : Value}
end
section
variable {P : Program} {w : World} {H H' : Hp} {h h' : Heap} {a C dx : Addr} {fs fs' : List (Str × V)}
theorem ins_get (hok : HOk P w H h) (e : H a = some (.ins C dx fs)) : ∃ mA, ObjM h a dx C mA ∧ (∀ f, RelO (fs.lookup f) (mA f)) ∧ PySem.Within mA (fs.map (·.1)) ∧ fs.length ≤ 1000 ∧ H dx = some (.own a) := by
  obtain ⟨d, z, ne, ob, mA, n, r, q⟩ := (show ObjOk P w H h a (.ins C dx fs) from hok a _ e)
  exact ⟨mA, ⟨ob, n, ne⟩, r, q, z, d⟩
end
structure Cls (K : PySem.W.Frag) (C : Addr) : Prop where
  pg : PySem.W.plainGet K C Str.empty = true
  hd : PySem.W.hasDictIn K C = true
  po : PySem.W.plainOver K C = true
  sa : PySem.W.findIn K (.ref C) "__setattr__" = some (some (.builtin "object.__setattr__"))
theorem Cls.get {K : PySem.W.Frag} {C : Addr} (c : Cls K C) (f : Str) : PySem.W.plainGet K C f = true := c.pg
section
variable {X : Cx} {pins : List (Addr × Obj)} {σ : St} {H : Hp} {s : Shared} {a C dx : Addr} {fs : List (Str × V)} {f : Str} {v : V} {A : Around} {E : Value → Shared → Prop}
theorem Inv.made (I : Inv X pins σ H s) : Inv X pins σ (upd (upd H s.heap.objs.size (.own (s.heap.objs.size + 1))) (s.heap.objs.size + 1) (.ins C s.heap.objs.size []))
    { s with heap := (s.heap.push PySem.W.emptyDict).push (PySem.W.instObj C s.heap.objs.size) } := by
  have e1 : (s.heap.push PySem.W.emptyDict).get? s.heap.objs.size = some PySem.W.emptyDict := Heap.get?_push_size s.heap rfl
  have e2 : ((s.heap.push PySem.W.emptyDict).push (PySem.W.instObj C s.heap.objs.size)).get? (s.heap.objs.size + 1) = some (PySem.W.instObj C s.heap.objs.size) := by
    have := Heap.get?_push_size (s.heap.push PySem.W.emptyDict) (o := PySem.W.instObj C s.heap.objs.size) rfl
    rwa [Heap.size_push] at this
  have e3 : (s.heap.push PySem.W.emptyDict).Ns s.heap.objs.size (fun _ => none) := ⟨PySem.W.emptyDict, #[], _, e1, rfl, (fun e he => absurd he (by simp)), fun _ => rfl⟩
  have I1 := I.laid (a := s.heap.objs.size) (o := .own (s.heap.objs.size + 1)) (h' := s.heap.push PySem.W.emptyDict) (t' := s.toks) (fun b u q => Heap.get?_push_of_some _ q) (Nat.le_refl _) ⟨_, e1⟩
  refine I1.laid (a := s.heap.objs.size + 1) (o := .ins C s.heap.objs.size []) (t' := s.toks) (fun b u q => Heap.get?_push_of_some _ q) (Nat.le_of_eq (Heap.size_push _ _)) ?_
  have ne : s.heap.objs.size ≠ s.heap.objs.size + 1 := Nat.ne_of_lt (Nat.lt_succ_self _)
  refine ⟨by rw [upd_ne ne, upd_same], Nat.zero_le _, ne, e2, fun _ => none, (Heap.Ns1.of_empty e3).at fun o q => Heap.get?_push_of_some _ q, fun _ => True.intro, fun y hy => absurd rfl hy⟩

end
section
variable {X : Cx} {o e value : Expr} {f : Str} {pos pos' tpos : Pos} {ta tv : TE}
end
section
variable {X : Cx} {pins : List (Addr × Obj)} {σ : St} {H : Hp} {s : Shared} {A : Around} {E : Value → Shared → Prop} {Q : Value → Shared → Prop} {c : Value} {b : Bool}
inductive TyOf (K : PySem.W.Frag) (H : Hp) : V → Value → Prop where
  | non : TyOf K H .non (.type "NoneType")
  | bl (x : Bool) : TyOf K H (.bl x) (.type "bool")
  | int (i : Int) : TyOf K H (.int i) (.type "int")
  | str (x : Str) : TyOf K H (.str x) (.type "str")
  | flt (x : UInt64) : TyOf K H (.flt x) (.type "float")
  | lst {a : Addr} {xs : List V} (e : H a = some (.lst xs)) : TyOf K H (.ref a) (.type "list")
  | frz {a : Addr} {o : Obj} {xs : List V} (e : H a = some (.frz o (.lst xs))) : TyOf K H (.ref a) (.type "list")
  | tup {a : Addr} {xs : List V} (e : H a = some (.tup xs)) : TyOf K H (.ref a) (.type "tuple")
  | dK {a : Addr} {kvs : List (Key × V)} (e : H a = some (.dK kvs)) : TyOf K H (.ref a) (.type "dict")
  | dT {a : Addr} {kvs : List (List Key × V)} (e : H a = some (.dT kvs)) : TyOf K H (.ref a) (.type "dict")
  | ins {a C dx : Addr} {fs : List (Str × V)} (e : H a = some (.ins C dx fs)) (cl : Cls K C) (ha : PySem.W.findIn K (.ref C) "__class__" = some (some (.builtin "object.__class__")))
      (hn : PySem.W.specialIn K (.builtin "object.__class__") "__get__" = some (some (.builtin "getset_descriptor.__get__"))) (htk : PySem.W.takesIn K (.builtin "object.__class__") = some true)
      (hm : PySem.W.mroIn K C (.type "object") = some true) : TyOf K H (.ref a) (.ref C)
end
end L2
namespace L2
open PySem PySem.Spec PyProof.Rows
structure Room (k : Nat) (A : Around) : Prop where
  hd : A.handled = none
  dp : A.depth + 3 * k + 5 < recursionLimit
  un : A.units + 16 * k + 200 < cLine
theorem Room.mono {j k : Nat} {A : Around} (r : Room k A) (h : j ≤ k) : Room j A := ⟨r.hd, by have := r.dp; omega, by have := r.un; omega⟩
theorem Room.deeper {k : Nat} {A : Around} (r : Room (k + 1) A) (env : Env) : Room k (A.deeper env) :=
  ⟨r.hd, by have := r.dp; show A.depth + 1 + 3 * k + 5 < _; omega, by have := r.un; show A.units + 3 + 16 * k + 200 < _; omega⟩
theorem Room.in1 {k : Nat} {A : Around} (r : Room (k + 1) A) : Room k A.in1 :=
  ⟨r.hd, by have := r.dp; show A.depth + 3 * k + 5 < _; omega, by have := r.un; show A.units + 1 + 16 * k + 200 < _; omega⟩
theorem Room.depth {k : Nat} {A : Around} (r : Room k A) : A.depth < recursionLimit := by have := r.dp; omega
theorem Room.units {k : Nat} {A : Around} (r : Room k A) : A.units + 64 < cLine := by have := r.un; omega
def tNil : TA := fun _ H Q => Q [] H
def tCons (ta : TE) (tr : TA) : TA := fun σ H Q => ta σ H fun x H1 => tr σ H1 fun xs H2 => Q (x :: xs) H2
section
variable {X : Cx} {e : Expr} {es : List Expr} {te : TE} {t : TA} {pos : Pos}
theorem pa_nil : PA X [] tNil := fun _ _ _ _ H Q I h => Calls.spliced_nil ⟨[], H, I, .nil, h⟩
theorem pa_cons (ha : PE X e te) (hr : PA X es t) (hs : starEach (e :: es) X.env = (false, eval e X.env) :: starEach es X.env := by rfl) : PA X (e :: es) (tCons te t) := by
  intro pos pins s σ H Q I h
  rw [hs]
  show wpAny _ _ (spliced ((false, eval e X.env) :: backTo pos (starEach es X.env))) _ _ s
  refine Calls.spliced_cons (thn (ha pins s σ H _ I h) fun u s1 ⟨x, H1, I1, r1, q1⟩ => ?_)
  exact thn (hr pos pins s1 σ H1 _ I1 q1) fun us s2 ⟨xs, H2, I2, r2, q2⟩ => ⟨x :: xs, H2, I2, .cons r1 r2, q2⟩

def tTup (t : TA) : TE := fun σ H Q => t σ H fun xs H1 => xs.length ≤ sizeLine ∧ ∀ p, H1 p = none → Q (.ref p) (upd H1 p (.tup xs))
def tLst (t : TA) : TE := fun σ H Q => t σ H fun xs H1 => xs.length ≤ sizeLine ∧ ∀ p, H1 p = none → Q (.ref p) (upd H1 p (.lst xs))
theorem pe_tup {x1} (h : PA X es t) : PE X (.Tuple es x1 pos) (tTup t) := by
  intro pins s σ H Q I hq
  refine wpAny_Tuple_spliced (thn (h pos pins s σ H _ I hq) fun us s1 ⟨xs, H1, I1, r, z, q⟩ => ⟨by rw [← r.length]; exact z, ?_⟩)
  have hf : H1 s1.heap.objs.size = none := I1.hok.fresh (Nat.le_refl _)
  refine ⟨.ref s1.heap.objs.size, upd H1 s1.heap.objs.size (.tup xs), I1.laid (t' := s1.toks) (fun b u e => Heap.get?_push_of_some _ e) (Nat.le_refl _) ?_, rfl, q _ hf⟩
  exact ⟨z, us, r, ⟨_, Heap.get?_push_size _ rfl, rfl, _, rfl⟩⟩
theorem pe_lst (h : PA X es t) : PE X (.List es pos) (tLst t) := by
  intro pins s σ H Q I hq
  refine wpAny_List_spliced (thn (h pos pins s σ H _ I hq) fun us s1 ⟨xs, H1, I1, r, z, q⟩ => ⟨by rw [← r.length]; exact z, ?_⟩)
  have hf : H1 s1.heap.objs.size = none := I1.hok.fresh (Nat.le_refl _)
  refine ⟨.ref s1.heap.objs.size, upd H1 s1.heap.objs.size (.lst xs), I1.laid (t' := s1.toks) (fun b u e => Heap.get?_push_of_some _ e) (Nat.le_refl _) ?_, rfl, q _ hf⟩
  exact ⟨z, us, 0, r, Heap.get?_push_size _ rfl⟩
end
abbrev Sp := List V → Hp → VK → XK → Prop
abbrev CXT := List Env → Hp → Shared → XK → Value → Shared → Prop

structure Env0 (P : Program) (w : World) (K : PySem.W.Frag) (mg : Str → Option Value) (base : Heap) (A : Around) (outer : List Env) (s : Shared) (H : Hp) : Prop where
  frames : A.frames = some outer
  mod : Mod K mg base
  bs : ∀ b o, base.get? b = some o → s.heap.get? b = some o ∧ H b = none
  bsz : base.objs.size ≤ s.heap.objs.size
  funs : s.heap.FunFrames base outer
  frf : ∀ b ∈ frs outer, H b = none
  hok : HOk P w H s.heap
  bare : AllBare s.gens
def CE (outer : List Env) (P : Program) (w : World) (H : Hp) (s : Shared) (Q : VK) (u : Value) (s' : Shared) : Prop :=
  ∃ v H', s'.os = s.os ∧ AllBare s'.gens ∧ Un (frs outer) [] H H' s.heap s'.heap ∧ HOk P w H' s'.heap ∧ RelV v u ∧ Q v H'
def CR (CX : CXT) (outer : List Env) (P : Program) (w : World) (H : Hp) (s : Shared) (Q : VK) (E : XK) (r : Result) (s' : Shared) : Prop :=
  match r with
  | .ok (.ret u) => CE outer P w H s Q u s'
  | .ok _ => False
  | .error e => CX outer H s E e s'
structure FnOk (P : Program) (w : World) (K : PySem.W.Frag) (mg : Str → Option Value) (base : Heap) (CX : CXT) (k : Nat) (f : Addr) (fd : FuncData) (ps : List Str) (sp : Sp) : Prop where
  len : ∀ vs H Q E, sp vs H Q E → vs.length = ps.length
  run : ∀ (A : Around) (outer : List Env) (s : Shared) (H : Hp) (args : Args) (us : List Value) (vs : List V) (Q : VK) (E : XK), Room k A → Env0 P w K mg base A outer s H → BindsTo s fd args (ps.zip us) → Vals vs us → sp vs H Q E →
    codeAny (model P w) A (.call (.ref f) args) (CR CX outer P w H s Q E) s
theorem FnOk.mono {P : Program} {w : World} {K : PySem.W.Frag} {mg : Str → Option Value} {base : Heap} {CX : CXT} {j k : Nat} {f : Addr} {fd : FuncData} {ps : List Str} {sp : Sp} (F : FnOk P w K mg base CX j f fd ps sp) (h : j ≤ k) :
    FnOk P w K mg base CX k f fd ps sp := ⟨F.len, fun A outer s H args us vs Q E hr => F.run A outer s H args us vs Q E (hr.mono h)⟩
theorem FnOk.imp {P : Program} {w : World} {K : PySem.W.Frag} {mg : Str → Option Value} {base : Heap} {CX : CXT} {k : Nat} {f : Addr} {fd : FuncData} {ps : List Str} {sp sp' : Sp} (F : FnOk P w K mg base CX k f fd ps sp)
    (h : ∀ vs H Q E, sp' vs H Q E → sp vs H Q E) : FnOk P w K mg base CX k f fd ps sp' :=
  ⟨fun vs H Q E q => F.len vs H Q E (h _ _ _ _ q), fun A outer s H args us vs Q E hr he hb hv hs => F.run A outer s H args us vs Q E hr he hb hv (h _ _ _ _ hs)⟩

theorem Env0.in1 {P : Program} {w : World} {K : PySem.W.Frag} {mg : Str → Option Value} {base : Heap} {A : Around} {outer : List Env} {s : Shared} {H : Hp} (e : Env0 P w K mg base A outer s H) :
    Env0 P w K mg base A.in1 outer s H := ⟨e.frames, e.mod, e.bs, e.bsz, e.funs, e.frf, e.hok, e.bare⟩

section
variable {X : Cx} {pins : List (Addr × Obj)} {σ : St} {H : Hp} {s s' : Shared}
theorem Inv.env0 (I : Inv X pins σ H s) : Env0 X.prog X.w X.K X.mg X.base X.A X.stack s H :=
  ⟨I.ok.frames, I.ok.mod, I.bs, Nat.le_trans I.ok.bsz I.sz, I.stack, I.stkFree, I.hok, I.bare⟩
theorem Inv.after {Q : VK} {u : Value} (I : Inv X pins σ H s) (h : CE X.stack X.prog X.w H s Q u s') : EP X pins σ Q u s' := by
  obtain ⟨v, H', os, bare, un, hok, r, q⟩ := h
  obtain ⟨hh, g, d, t, os'⟩ := s'
  obtain rfl : os' = s.os := os
  exact ⟨v, H', I.call (h' := hh) (g' := g) (d' := d) (t' := t) (ch := []) un hok bare (fun b z => absurd z (by simp)), r, q⟩
end
def tCall (sp : Sp) (dvs : List V) (E : XK) (t : TA) : TE := fun σ H Q => t σ H fun vs H1 => sp (vs ++ dvs) H1 Q E
def Binds (K : PySem.W.Frag) (fd : FuncData) (ps : List Str) (ds : List Value) : Prop :=
  ∀ (s : Shared) (us : List Value), K.In s.heap → (us ++ ds).length = ps.length → BindsTo s fd ⟨us, []⟩ (ps.zip (us ++ ds))
theorem Binds.all {K : PySem.W.Frag} {fd : FuncData} {ps : List Str} (h : ∀ us : List Value, us.length = ps.length → bindArgs fd ⟨us, []⟩ = pure (ps.zip us)) : Binds K fd ps [] := fun s us _ hl => by
  rw [List.append_nil] at hl ⊢
  exact .of_eq (h us hl)

def Passes (CX : CXT) (X : Cx) (E : XK) : Prop := ∀ (pins : List (Addr × Obj)) (σ : St) (H : Hp) (s : Shared) (e : Value) (s' : Shared), Inv X pins σ H s → CX X.stack H s E e s' → X.xe e s'

section
variable {X : Cx} {CX : CXT} {k : Nat} {f C : Addr} {fd : FuncData} {ps : List Str} {sp : Sp} {dvs : List V} {ds : List Value} {E : XK} {x m : Str} {p pos apos : Pos} {e o : Expr} {es : List Expr} {ta : TE} {t : TA}
theorem run_fn {pins : List (Addr × Obj)} {σ : St} {H : Hp} {s : Shared} {Q : VK} {us : List Value} {vs : List V} (F : FnOk X.prog X.w X.K X.mg X.base CX k f fd ps sp) (hr : Room k X.A) (hb : Binds X.K fd ps ds) (hd : Vals dvs ds) (hx : Passes CX X E)
    (I : Inv X pins σ H s) (r : Vals vs us) (h : sp (vs ++ dvs) H Q E) : wpAny (model X.prog X.w) X.A (call (.ref f) us) (EP X pins σ Q) X.xe s := by
  have r2 : Vals (vs ++ dvs) (us ++ ds) := r.append hd
  have hl : (us ++ ds).length = ps.length := by rw [← r2.length]; exact F.len _ _ _ _ h
  refine wpAny_call (codeAny_mono (F.run X.A X.stack s H ⟨us, []⟩ (us ++ ds) (vs ++ dvs) Q E hr I.env0 (hb s us I.kIn hl) r2 h) fun r s' hq => ?_)
  cases r with
  | error e => exact hx pins σ H s e s' I hq
  | ok fl =>
    cases fl with
    | ret u => exact I.after hq
    | next => exact False.elim hq
    | brk => exact False.elim hq
    | cont => exact False.elim hq

theorem pe_call (F : FnOk X.prog X.w X.K X.mg X.base CX k f fd ps sp) (hr : Room k X.A) (hg : Gl X x) (hm : X.mg x = some (.ref f)) (hk : PySem.W.keepIn X.K (.ref f) = true) (hb : Binds X.K fd ps ds) (hd : Vals dvs ds) (hx : Passes CX X E)
    (ha : PA X (e :: es) t) (hdb : (x == ("__debug__" : Str)) = false := by decide) (he : starEach (e :: es) X.env = (false, eval e X.env) :: starEach es X.env := by rfl) (hpl : (backTo pos (starEach es X.env)).any (·.1) = false := by rfl) :
    PE X (.Call (.Name x p) (e :: es) [] pos) (tCall sp dvs E t) := by
  intro pins s σ H Q I h
  refine wpAny_Call_Name_kw (ld_glob I hg hm ?_ hdb)
  refine PySem.W.callWith_K (h₀ := X.base) I.ok.mod.kin hk (thn (ha pos pins s σ H _ I h) fun us s1 ⟨vs, H1, I1, r, q⟩ => ⟨I1.kIn, ?_⟩) he hpl
  exact run_fn F hr hb hd hx I1 r q
end
section
variable {X : Cx} {CX : CXT} {k : Nat} {f C : Addr} {fd : FuncData} {ps ks : List Str} {sp : Sp} {E : XK} {x m : Str} {p pos apos kpos : Pos} {e o : Expr} {es : List Expr} {kws : List Keyword} {te ta : TE} {t tk : TA} {nm : Option Str}
variable {g : List Value → List Value → List Value} {gV : List V → List V → List V}
end
structure FnScope (N P : List Str) (sc : Scope) : Prop where
  kind : sc.kind = .function
  co : sc.isCoroutine = false
  gen : sc.isGenerator = false
  nd : N.Nodup
  pre : N.take P.length = P
  par : ∀ x ∈ P, sc.names.lookup x = some .local ∨ sc.names.lookup x = some .cell
  nofree : ∀ y ∈ sc.names, y.2 ≠ .free

theorem bindL_out {kindOf : Str → Option NameKind} {x : Str} : ∀ {binds : List (Str × Value)} {m : Str → Option Value}, (∀ v, (x, v) ∉ binds) → bindL kindOf binds m x = m x
  | [], _, _ => rfl
  | (n, v) :: r, m, h => by
    unfold bindL
    rw [bindL_out fun w hw => h w (List.mem_cons_of_mem _ hw)]
    split
    · have : x ≠ n := by rintro rfl; exact h v List.mem_cons_self
      simp [this]
    · rfl
theorem bindC_out {kindOf : Str → Option NameKind} {x : Str} : ∀ {binds : List (Str × Value)} {m : Str → Option Value}, (∀ v, (x, v) ∉ binds) → bindC kindOf binds m x = m x
  | [], _, _ => rfl
  | (n, v) :: r, m, h => by
    unfold bindC
    rw [bindC_out fun w hw => h w (List.mem_cons_of_mem _ hw)]
    split
    · rfl
    · have : x ≠ n := by rintro rfl; exact h v List.mem_cons_self
      simp [this]
theorem bindL_get {kindOf : Str → Option NameKind} {x : Str} {v : Value} : ∀ {P : List Str} {vs : List Value} {i : Nat} {m : Str → Option Value}, P.Nodup → P[i]? = some x → vs[i]? = some v → kindOf x = some .local →
    bindL kindOf (P.zip vs) m x = some v
  | [], _, _, _, _, h, _, _ => by simp at h
  | _ :: _, [], _, _, _, _, h, _ => by simp at h
  | p :: P, w :: vs, 0, m, nd, h1, h2, hk => by
    simp at h1 h2; subst h1; subst h2
    show bindL kindOf ((p, w) :: P.zip vs) m p = _
    unfold bindL
    rw [bindL_out fun v hv => (List.nodup_cons.mp nd).1 (List.of_mem_zip hv).1, if_pos hk]
    simp
  | p :: P, w :: vs, i + 1, m, nd, h1, h2, hk => by
    show bindL kindOf ((p, w) :: P.zip vs) m x = _
    unfold bindL
    exact bindL_get (i := i) (List.nodup_cons.mp nd).2 (by simpa using h1) (by simpa using h2) hk
theorem bindC_get {kindOf : Str → Option NameKind} {x : Str} {v : Value} : ∀ {P : List Str} {vs : List Value} {i : Nat} {m : Str → Option Value}, P.Nodup → P[i]? = some x → vs[i]? = some v → kindOf x ≠ some .local →
    bindC kindOf (P.zip vs) m x = some v
  | [], _, _, _, _, h, _, _ => by simp at h
  | _ :: _, [], _, _, _, _, h, _ => by simp at h
  | p :: P, w :: vs, 0, m, nd, h1, h2, hk => by
    simp at h1 h2; subst h1; subst h2
    show bindC kindOf ((p, w) :: P.zip vs) m p = _
    unfold bindC
    rw [bindC_out fun v hv => (List.nodup_cons.mp nd).1 (List.of_mem_zip hv).1, if_neg hk]
    simp
  | p :: P, w :: vs, i + 1, m, nd, h1, h2, hk => by
    show bindC kindOf ((p, w) :: P.zip vs) m x = _
    unfold bindC
    exact bindC_get (i := i) (List.nodup_cons.mp nd).2 (by simpa using h1) (by simpa using h2) hk

def start (N : List Str) (vs : List V) : St := vs.map some ++ List.replicate (N.length - vs.length) none

def cxOf (CX : CXT) (P : Program) (w : World) (K : PySem.W.Frag) (mg : Str → Option Value) (base : Heap) (N : List Str) (qual : Str) (scope : Scope) (f : Addr) (cd : Value) (A : Around) (outer : List Env) (s : Shared) (H : Hp) (E : XK) : Cx where
  prog := P
  w := w
  K := K
  mg := mg
  base := base
  A := A.deeper (envOfC qual scope s.heap.objs.size f cd)
  N := N
  s₀ := s
  H₀ := H
  env := envOfC qual scope s.heap.objs.size f cd
  outer := outer
  stack := envOfC qual scope s.heap.objs.size f cd :: outer
  ex := []
  calm := true
  fn := fun _ => true
  pn := []
  xe := fun e s' => wpAny (model P w) (A.deeper (envOfC qual scope s.heap.objs.size f cd)) (leaving (envOfC qual scope s.heap.objs.size f cd) e) (fun _ s'' => CX outer H s E e s'') (fun e' s'' => CX outer H s E e' s'') s'

theorem cell_has {sc : Scope} {n : Nat} {x : Str} (h : sc.names.lookup x = some .cell) : ∃ c, (cellsFrom n sc.names []).lookup x = some c := by
  have q := PySem.W.cellsFrom_some sc.names n [] (.inl h)
  exact Option.isSome_iff_exists.mp q

theorem inv_start {CX : CXT} {P : Program} {w : World} {K : PySem.W.Frag} {mg : Str → Option Value} {base : Heap} {N ps : List Str} {qual : Str} {scope : Scope} {f : Addr} {cd : Value} {A : Around} {outer : List Env} {s s1 : Shared} {H : Hp} {E : XK} {us : List Value} {vs : List V}
    (S : FnScope N ps scope) (hd : A.handled = none) (e0 : Env0 P w K mg base A outer s H) (hl : vs.length = ps.length) (r : Vals vs us)
    (x : InCallC s s.heap.objs.size (bindL (envOfC qual scope s.heap.objs.size f cd).kindOf (ps.zip us) fun _ => none) (cellsFrom (s.heap.objs.size + 1) scope.names []) (bindC (envOfC qual scope s.heap.objs.size f cd).kindOf (ps.zip us) fun _ => none) s1) :
    Inv (cxOf CX P w K mg base N qual scope f cd A outer s H E) [] (start N vs) H s1 := by
  have hpl : ps.length ≤ N.length := by have := congrArg List.length S.pre; rw [List.length_take] at this; omega
  obtain ⟨h1, tk, rfl, hk⟩ := x.done
  have noA : ∀ b : Addr, b ∉ (cxOf CX P w K mg base N qual scope f cd A outer s H E).ex := fun b z => absurd (show b ∈ ([] : List Addr) from z) (by simp)
  refine ⟨⟨e0.mod, S.kind, rfl, rfl, Nat.le_refl _, fun y z c h1 h2 => ?_, fun y hy => ?_, fun y c _ h => ?_, fun _ => hd, Around.frames_deeper e0.frames, .inr ⟨rfl, rfl⟩, fun b z => absurd z (noA b), e0.bs, e0.bsz, fun b _ _ => noA b, fun b z => absurd z (noA b), e0.funs, e0.frf⟩,
    rfl, e0.bare, Un.kept hk, ⟨_, x.toInCall.ns, fun i y v h1 h2 h3 => ?_⟩, fun y c h => ⟨_, x.cell y c h⟩, e0.hok.fresh (Nat.le_refl _), fun y c h => ?_, fun p hp => absurd (show p ∈ ([] : List (Addr × Obj)) from hp) (by simp), e0.hok.kept hk, ?_⟩
  · exact name_of_addr x.apart (PySem.mem_of_lookup h1) (PySem.mem_of_lookup h2)
  · have hy : scope.names.lookup y = some .cell ∨ scope.names.lookup y = some .free := hy
    rcases hy with hy | hy
    · exact cell_has hy
    · exact absurd rfl (S.nofree _ (PySem.mem_of_lookup hy))
  · exact Nat.le_of_lt (x.above y c (PySem.mem_of_lookup h))
  · have hi : i < vs.length := by
      unfold start at h2
      by_cases hi : i < vs.length
      · exact hi
      · rw [List.getElem?_append_right (by simpa using hi)] at h2
        rw [List.getElem?_replicate] at h2
        split at h2 <;> cases h2
    have ha : vs[i]? = some v := by
      unfold start at h2
      rw [List.getElem?_append_left (by simpa using hi), List.getElem?_map] at h2
      cases e : vs[i]? with
      | none => rw [e] at h2; cases h2
      | some a => rw [e] at h2; cases h2; rfl
    obtain ⟨u, hu, rv⟩ := r.get ha
    have hp : ps[i]? = some y := by
      rw [← S.pre, List.getElem?_take_of_lt (by omega)]; exact h1
    have ndP : ps.Nodup := by rw [← S.pre]; exact S.nd.sublist (List.take_sublist _ _)
    refine ⟨u, rv, ?_⟩
    rcases S.par y (List.mem_of_getElem? hp) with k | k
    · exact .inl ⟨k, bindL_get ndP hp hu k⟩
    · obtain ⟨c, e⟩ := cell_has (n := s.heap.objs.size + 1) k
      refine .inr ⟨.inl k, c, e, ?_⟩
      have q := x.cell y c e
      rw [bindC_get ndP hp hu (by show scope.names.lookup y ≠ _; rw [k]; decide)] at q
      exact q
  · exact e0.hok.fresh (Nat.le_of_lt (x.above y c (PySem.mem_of_lookup h)))
  · unfold start
    show _ = N.length
    rw [List.length_append, List.length_map, List.length_replicate]
    omega

theorem fn_of {CX : CXT} {P : Program} {w : World} {K : PySem.W.Frag} {mg : Str → Option Value} {base : Heap} {k : Nat} {f : Addr} {name qual : Str} {params : Arguments} {body : List Stmt} {scope : Scope} {dV kV doc pm cdv ct oc : Value} {an od : Option Addr}
    {osl : Array (Option Value)} {N ps : List Str} {sp : Sp} (lk : K.lookup f = some ⟨oc, od, .func (PySem.W.fnOf name qual params body scope dV kV doc pm an cdv ct), osl⟩) (hcd : PySem.W.codeIn K cdv qual = true) (S : FnScope N ps scope)
    (len : ∀ vs H Q E, sp vs H Q E → vs.length = ps.length)
    (hbody : ∀ (A : Around) (outer : List Env) (s : Shared) (H : Hp) (vs : List V) (Q : VK) (E : XK), Room k (A.deeper (envOfC qual scope s.heap.objs.size f cdv)) → sp vs H Q E →
      ∃ t, PSs (cxOf CX P w K mg base N qual scope f cdv A outer s H E) body t ∧ t { nx := fun _ H' => Q .non H', rt := Q } (start N vs) H) :
    FnOk P w K mg base CX (k + 1) f (PySem.W.fnOf name qual params body scope dV kV doc pm an cdv ct) ps sp := by
  refine ⟨len, fun A outer s H args us vs Q E hr e0 hb r hsp => ?_⟩
  have hl := len _ _ _ _ hsp
  have KX : K.In s.heap := e0.mod.kin.keeps fun b o e => (e0.bs b o e).1
  have lim : s.heap.NoLimit := e0.mod.nolimit.keeps fun b o e => (e0.bs b o e).1
  have hkind : ∀ y ∈ ps.zip us, scope.names.lookup y.1 = some .local ∨ (scope.names.lookup y.1 = some .cell ∧ ((cellsFrom (s.heap.objs.size + 1) scope.names []).lookup y.1).isSome = true) := fun ⟨n, v⟩ hy => by
    rcases S.par n (List.of_mem_zip hy).1 with q | q
    · exact .inl q
    · exact .inr ⟨q, PySem.W.cellsFrom_some _ _ _ (.inl q)⟩
  refine codeAny_call_function hr.depth (KX _ _ lk) rfl S.co S.gen rfl (PySem.W.codeRec_of KX hcd) (hb _ _ _ _ ?_)
  refine wpAny_newFunctionEnv_cells S.kind hkind fun env he s1 x => ?_
  subst he
  refine ⟨lim.keeps x.toInCall.keep, codeAny_func ?_⟩
  obtain ⟨t, ht, hq⟩ := hbody A outer s H vs Q E (hr.deeper _) hsp
  have I : Inv (cxOf CX P w K mg base N qual scope f cdv A outer s H E) [] (start N vs) H s1 := inv_start S hr.hd e0 hl r x
  refine wpAny_mono (ht [] s1 (start N vs) H _ I hq) (fun fl s' hs => ?_) fun e s' hs => hs
  have fin : ∀ {σ' : St} {H' : Hp} {v : V} {u : Value}, Inv (cxOf CX P w K mg base N qual scope f cdv A outer s H E) [] σ' H' s' → RelV v u → Q v H' → CE outer P w H s Q u s' :=
    fun {σ' H' v u} J rv q => ⟨v, H', J.os, J.bare, J.base, J.hok, rv, q⟩
  cases fl with
  | ret u =>
    obtain ⟨v, σ', H', J, rv, q⟩ := hs
    exact fin J rv q
  | next =>
    obtain ⟨σ', H', J, q⟩ := hs
    exact fin (v := V.non) (u := Value.none) J rfl q
  | brk =>
    obtain ⟨_, _, _, q⟩ := hs
    exact False.elim q
  | cont =>
    obtain ⟨_, _, _, q⟩ := hs
    exact False.elim q
end L2
namespace L2
open PySem PySem.Spec PyProof.Rows
section
variable {X : Cx} {x : Str} {p pos : Pos} {e : Expr} {es : List Expr} {t : TA} {id T : String} {r : List V → Hp → VK → Prop}
def tCB (r : List V → Hp → VK → Prop) (t : TA) : TE := fun σ H Q => t σ H fun vs H1 => r vs H1 Q
theorem pe_callB (hc : CallR X (.builtin id) r) (hg : Gl X x) (hm : X.mg x = none) (hv : bootBuiltins x = some (.builtin id)) (ha : PA X (e :: es) t) (hn : x ≠ "__name__" := by decide) (hdb : (x == ("__debug__" : Str)) = false := by decide)
    (he : starEach (e :: es) X.env = (false, eval e X.env) :: starEach es X.env := by rfl) (hpl : (backTo pos (starEach es X.env)).any (·.1) = false := by rfl) : PE X (.Call (.Name x p) (e :: es) [] pos) (tCB r t) := by
  intro pins s σ H Q I h
  refine wpAny_Call_Name_kw (ld_blt I hg hm hv ?_ hn hdb)
  exact PyProof.Rows.callWith_builtin1 (thn (ha pos pins s σ H _ I h) fun us s1 ⟨vs, H1, I1, r1, q1⟩ => hc pins s1 σ H1 vs us Q I1 r1 q1) he hpl
theorem pe_callTy (hc : CallR X (.type T) r) (hg : Gl X x) (hm : X.mg x = none) (hv : bootBuiltins x = some (.type T)) (ha : PA X (e :: es) t) (hn : x ≠ "__name__" := by decide) (hdb : (x == ("__debug__" : Str)) = false := by decide)
    (he : starEach (e :: es) X.env = (false, eval e X.env) :: starEach es X.env := by rfl) (hpl : (backTo pos (starEach es X.env)).any (·.1) = false := by rfl) : PE X (.Call (.Name x p) (e :: es) [] pos) (tCB r t) := by
  intro pins s σ H Q I h
  refine wpAny_Call_Name_kw (ld_blt I hg hm hv ?_ hn hdb)
  exact PyProof.Rows.callWith_type1 (thn (ha pos pins s σ H _ I h) fun us s1 ⟨vs, H1, I1, r1, q1⟩ => hc pins s1 σ H1 vs us Q I1 r1 q1) he hpl
end
end L2
namespace HT
open PySem PyProof.Rows
section
open PySem.SeqAt
open PySem.AutoSeq1 (wpAny_loadPart')
open PySem.MeetsSeq PySem.MeetsSeq2 PySem.MeetsSeq3
end
section
variable {prog : Program} {w : World} {A : Around} {E : Value → Shared → Prop} {s : Shared}
def sIx (n d : Nat) : Option Int → Nat
  | none => d
  | some v => if v < 0 then (v + (n : Int)).toNat else min v.toNat n
theorem sIx_none (n d : Nat) : sIx n d none = d := rfl
theorem sIx_nat (n d k : Nat) : sIx n d (some (k : Int)) = min k n := by
  show (if (k : Int) < 0 then ((k : Int) + (n : Int)).toNat else min (k : Int).toNat n) = min k n
  rw [if_neg (by omega), Int.toNat_natCast]
end
end HT
namespace L2
open PySem PySem.Spec PyProof.Rows
abbrev TO := St → Hp → (Option Int → Hp → Prop) → Prop
def PO (X : Cx) (e : Option Expr) (t : TO) : Prop :=
  ∀ (pins : List (Addr × Obj)) (s : Shared) (σ : St) (H : Hp) (Q : Option Int → Hp → Prop), Inv X pins σ H s → t σ H Q →
    wpAny (model X.prog X.w) X.A (evalPart e X.env) (fun u s' => ∃ o H', Inv X pins σ H' s' ∧ IsPart u o ∧ Q o H') X.xe s
def tNoPart : TO := fun _ H Q => Q none H
def tPart (t : TE) : TO := fun σ H Q => t σ H fun x H1 => ∃ i, x = .int i ∧ Q (some i) H1

section
variable {X : Cx} {e : Expr} {te : TE} {lo hi : Option Expr} {tl th : TO} {pos p2 : Pos}
theorem po_none : PO X none tNoPart := by
  intro pins s σ H Q I h
  rw [evalPart_none]
  exact wpAny_pure ⟨none, H, I, .none, h⟩
theorem po_some (h : PE X e te) : PO X (some e) (tPart te) := by
  intro pins s σ H Q I hw
  rw [evalPart_some]
  refine thn (h pins s σ H _ I hw) fun u s1 ⟨x, H1, I1, r1, q1⟩ => ?_
  obtain ⟨i, rfl, q⟩ := q1
  obtain ⟨t, rfl⟩ := r1
  exact ⟨some i, H1, I1, .int i t, q⟩

def SlR (X : Cx) (r : V → Option Int → Option Int → Hp → VK → Prop) : Prop :=
  ∀ (pins : List (Addr × Obj)) (s : Shared) (σ : St) (H : Hp) (x : V) (v vl vu : Value) (lo hi : Option Int) (sl : Addr) (Q : VK), Inv X pins σ H s → RelV x v → s.heap.IsSliceOf sl vl vu .none → IsPart vl lo → IsPart vu hi → r x lo hi H Q →
    ∃ T id, typeLookup (.type T) "__getitem__" = pure (some (.builtin id)) ∧ s.TypeIs v T ∧ wpAny (model X.prog X.w) X.A (getItem v (.ref sl)) (EP X pins σ Q) X.xe s
theorem SlR.or {r r' : V → Option Int → Option Int → Hp → VK → Prop} (h : SlR X r) (h' : SlR X r') : SlR X (fun x lo hi H Q => r x lo hi H Q ∨ r' x lo hi H Q) := by
  intro pins s σ H x v vl vu lo hi sl Q I rx hs pl pu q
  rcases q with q | q
  · exact h pins s σ H x v vl vu lo hi sl Q I rx hs pl pu q
  · exact h' pins s σ H x v vl vu lo hi sl Q I rx hs pl pu q
def tSl (r : V → Option Int → Option Int → Hp → VK → Prop) (te : TE) (tl th : TO) : TE := fun σ H Q => te σ H fun x H1 => tl σ H1 fun l H2 => th σ H2 fun u H3 => r x l u H3 Q
theorem pe_slice {r : V → Option Int → Option Int → Hp → VK → Prop} (hr : SlR X r) (he : PE X e te) (hl : PO X lo tl) (hu : PO X hi th) : PE X (.Subscript e (.Slice lo hi none p2) pos) (tSl r te tl th) := by
  intro pins s σ H Q I h
  refine Subscript_ (thn (he pins s σ H _ I h) fun v s1 ⟨x, H1, I1, r1, q1⟩ => ?_)
  refine wpAny_Slice (thn (hl pins s1 σ H1 _ I1 q1) fun vl s2 ⟨l, H2, I2, pl, q2⟩ => thn (hu pins s2 σ H2 _ I2 q2) fun vu s3 ⟨u, H3, I3, pu, q3⟩ => ?_)
  rw [evalPart_none]
  refine wpAny_pure ?_
  have I4 : Inv X pins σ H3 { s3 with heap := s3.heap.push { cls := .type "slice", data := .fields #[vl, vu, .none] } } := I3.kept (t' := s3.toks) fun b ob q => Heap.get?_push_of_some _ q
  obtain ⟨T, id, hT, ht, hg⟩ := hr pins { s3 with heap := s3.heap.push { cls := .type "slice", data := .fields #[vl, vu, .none] } } σ H3 x v vl vu l u s3.heap.objs.size Q I4 r1 (Heap.IsSliceOf.new ..) pl pu q3
  show wpAny (model X.prog X.w) X.A (subscriptTail e (.Slice lo hi none p2) v (.ref s3.heap.objs.size)) (EP X pins σ Q) X.xe { s3 with heap := s3.heap.push { cls := .type "slice", data := .fields #[vl, vu, .none] } }
  exact tail_any (ops := [.ref s3.heap.objs.size, v]) ht hT hg (by with_unfolding_all rfl)

def cutV (xs : List V) (lo hi : Option Int) : List V := (xs.drop (HT.sIx xs.length 0 lo)).take (HT.sIx xs.length xs.length hi - HT.sIx xs.length 0 lo)
theorem cutV_length (xs : List V) (lo hi : Option Int) : (cutV xs lo hi).length ≤ xs.length := by
  unfold cutV
  rw [List.length_take, List.length_drop]
  omega
end
end L2
namespace L2
open PySem PySem.Spec PyProof.Rows
def ixN (n : Nat) (i : Int) : Option Nat := if 0 ≤ i then (if i < n then some i.toNat else none) else if -(n : Int) ≤ i then some (i + n).toNat else none
def atI {α : Type} (xs : List α) (i : Int) : Option α := (ixN xs.length i).bind fun j => xs[j]?
theorem ixN_seq {n : Nat} {i : Int} {j : Nat} (h : ixN n i = some j) : seqIndex? i n = some j ∧ j < n ∧ -(n : Int) ≤ i ∧ i < n := by
  unfold ixN at h
  by_cases h0 : 0 ≤ i
  · rw [if_pos h0] at h
    by_cases h1 : i < n
    · rw [if_pos h1] at h
      have e : i.toNat = j := Option.some.inj h
      exact ⟨by rw [seqIndex_of h0 h1, e], by omega, by omega, h1⟩
    · rw [if_neg h1] at h; cases h
  · rw [if_neg h0] at h
    by_cases h1 : -(n : Int) ≤ i
    · rw [if_pos h1] at h
      have e : (i + n).toNat = j := Option.some.inj h
      exact ⟨by rw [seqIndex_neg (by omega) h1, e], by omega, h1, by omega⟩
    · rw [if_neg h1] at h; cases h
theorem atI_get {α : Type} {xs : List α} {i : Int} {v : α} (h : atI xs i = some v) : ∃ j, seqIndex? i xs.length = some j ∧ xs[j]? = some v ∧ j < xs.length ∧ -(xs.length : Int) ≤ i ∧ i < xs.length := by
  unfold atI at h
  cases e : ixN xs.length i with
  | none => rw [e] at h; cases h
  | some j =>
    rw [e] at h
    obtain ⟨h1, h2, h3, h4⟩ := ixN_seq e
    exact ⟨j, h1, h, h2, h3, h4⟩
theorem atI_nat {α : Type} {xs : List α} {j : Nat} {v : α} (h : xs[j]? = some v) : atI xs (j : Int) = some v := by
  have hj : j < xs.length := (List.getElem?_eq_some_iff.mp h).1
  have e : ixN xs.length (j : Int) = some j := by
    unfold ixN
    rw [if_pos (by omega), if_pos (by omega)]; simp
  unfold atI; rw [e]; exact h
def PlainIx (b : Expr) : Prop := ∀ o i, subscripted b false o i = operate [o, i] (getItem o i)
def IxR (X : Cx) (r : R2) : Prop :=
  ∀ (value slice : Expr) (pins : List (Addr × Obj)) (s : Shared) (σ : St) (H : Hp) (x y : V) (v u : Value) (Q : VK), Inv X pins σ H s → RelV x v → RelV y u → r x y H Q →
    subscripted slice false v u = operate [v, u] (getItem v u) → wpAny (model X.prog X.w) X.A (subscriptTail value slice v u) (EP X pins σ Q) X.xe s
def MtR (X : Cx) (id : String) (r : V → List V → Hp → VK → Prop) : Prop :=
  ∀ (pins : List (Addr × Obj)) (s : Shared) (σ : St) (H : Hp) (x : V) (xs : List V) (v : Value) (us : List Value) (Q : VK), Inv X pins σ H s → RelV x v → Vals xs us → r x xs H Q →
    wpAny (model X.prog X.w) X.A (call (.builtin id) (v :: us)) (EP X pins σ Q) X.xe s
section
variable {X : Cx} {a b : Expr} {ta tb : TE} {pos : Pos}
theorem IxR.or {r r' : R2} (h : IxR X r) (h' : IxR X r') : IxR X (fun x y H Q => r x y H Q ∨ r' x y H Q) := by
  intro value slice pins s σ H x y v u Q I rx ry q hs
  rcases q with q | q
  · exact h value slice pins s σ H x y v u Q I rx ry q hs
  · exact h' value slice pins s σ H x y v u Q I rx ry q hs
theorem MtR.or {id : String} {r r' : V → List V → Hp → VK → Prop} (h : MtR X id r) (h' : MtR X id r') : MtR X id (fun x xs H Q => r x xs H Q ∨ r' x xs H Q) := by
  intro pins s σ H x xs v us Q I rx rs q
  rcases q with q | q
  · exact h pins s σ H x xs v us Q I rx rs q
  · exact h' pins s σ H x xs v us Q I rx rs q
theorem pe_ix {r : R2} (hr : IxR X r) (ha : PE X a ta) (hb : PE X b tb) (hs : PlainIx b) : PE X (.Subscript a b pos) (tOp r ta tb) := by
  intro pins s σ H Q I h
  exact Subscript_ (binT ha hb I h fun v u s2 x y H2 I2 rx ry q => hr a b pins s2 σ H2 x y v u Q I2 rx ry q (hs _ _))

def rIxL (K : PySem.W.Frag) : R2 := fun x y H Q => ∃ p xs i v, x = .ref p ∧ y = .int i ∧ SqL K H p xs ∧ atI xs i = some v ∧ Q v H
def rIxT (K : PySem.W.Frag) : R2 := fun x y H Q => ∃ p xs i v, x = .ref p ∧ y = .int i ∧ SqT K H p xs ∧ atI xs i = some v ∧ Q v H
theorem ix_list : IxR X (rIxL X.K) := by
  intro value slice pins s σ H x y v u Q I rx ry h hs
  obtain ⟨p, xs, i, z, rfl, rfl, hq, he, q⟩ := h
  cases rx
  obtain ⟨t, rfl⟩ := ry
  obtain ⟨its, r, pl, hz⟩ := I.list hq
  obtain ⟨j, h1, h2, h3, h4, h5⟩ := atI_get he
  obtain ⟨w, ew, rw'⟩ := r.get h2
  have hl := r.length
  have hn := line63
  have fin : EP X pins σ Q w s := ⟨z, H, I, rw', q⟩
  by_cases h0 : 0 ≤ i
  · have hj : i.toNat = j := by
      rw [seqIndex_of h0 h5] at h1
      exact Option.some.inj h1
    exact item_listR pl.isList h0 (by omega) (by rw [hj]; simpa using ew) fin hs
  · have hj : (i + (its.toArray.size : Int)).toNat = j := by
      rw [seqIndex_neg (by omega) h4] at h1
      rw [List.size_toArray, ← hl]
      exact Option.some.inj h1
    exact subscriptTail_builtinR (x := w) pl.isList.typeIs slot_list_getitem.lookup
      (wpAny_getItem_list_neg (Q := fun r s' => r = w ∧ EP X pins σ Q r s') pl.isList (by omega) (by rw [List.size_toArray] <;> omega) (by omega) (by rw [hj]; simpa using ew) ⟨rfl, fin⟩) hs
theorem ix_tup : IxR X (rIxT X.K) := by
  intro value slice pins s σ H x y v u Q I rx ry h hs
  obtain ⟨p, xs, i, z, rfl, rfl, hq, he, q⟩ := h
  cases rx
  obtain ⟨t, rfl⟩ := ry
  obtain ⟨its, r, pl, hz⟩ := I.tuple hq
  obtain ⟨j, h1, h2, h3, h4, h5⟩ := atI_get he
  obtain ⟨w, ew, rw'⟩ := r.get h2
  have hl := r.length
  have hn := line63
  have fin : EP X pins σ Q w s := ⟨z, H, I, rw', q⟩
  exact subscriptTail_builtinR (x := w) pl.typeIs slot_tuple_getitem.lookup
    (getItem_tuple (j := j) (Q := fun r s' => r = w ∧ EP X pins σ Q r s') pl (by omega) (by omega) (by rw [List.size_toArray, ← hl]; exact h1) (by simpa using ew) ⟨rfl, fin⟩) hs
theorem mapSeq_set (its : List Value) (n j : Nat) (u : Value) : Obj.mapSeq (·.setIfInBounds j u) { cls := .type "list", data := .seq its.toArray n } = { cls := .type "list", data := .seq (its.set j u).toArray n } := by
  simp [Obj.mapSeq]
theorem Inv.lst {pins : List (Addr × Obj)} {σ : St} {H : Hp} {s : Shared} {p : Addr} {xs : List V} (I : Inv X pins σ H s) (h : H p = some (.lst xs)) :
    ∃ (its : List Value) (n : Nat), Vals xs its ∧ s.heap.get? p = some { cls := .type "list", data := .seq its.toArray n } ∧ xs.length ≤ sizeLine := by
  obtain ⟨z, its, n, r, e⟩ := I.hok p _ h
  exact ⟨its, n, r, e, z⟩
theorem Inv.lstUpd {pins : List (Addr × Obj)} {σ : St} {H : Hp} {s : Shared} {p : Addr} {xs ys : List V} {its its' : List Value} {n n' : Nat} {f : Obj → Obj} (I : Inv X pins σ H s) (h : H p = some (.lst xs))
    (ho : s.heap.get? p = some { cls := .type "list", data := .seq its.toArray n }) (hf : f { cls := .type "list", data := .seq its.toArray n } = { cls := .type "list", data := .seq its'.toArray n' }) (r : Vals ys its') (hz : ys.length ≤ sizeLine) (t : Nat) :
    Inv X pins σ (upd H p (.lst ys)) { s with heap := s.heap.update p f, toks := t } := by
  have e : (s.heap.update p f).get? p = some { cls := .type "list", data := .seq its'.toArray n' } := by
    rw [Heap.get?_update_self f ho (by rw [hf] <;> rfl), hf]
  refine I.write (x := p) (e := p) (by rw [h]; trivial) (.inl rfl) (fun b u hb q => (Heap.get?_update_other _ _ (Ne.symm hb)).trans q) ⟨_, e⟩ ?_
  exact ⟨hz, its', n', r, e⟩
def rSetL : V → V → V → Hp → (Hp → Prop) → Prop := fun o i v H Q => ∃ p xs k j, o = .ref p ∧ i = .int k ∧ H p = some (.lst xs) ∧ ixN xs.length k = some j ∧ Q (upd H p (.lst (xs.set j v)))
theorem set_list : PSet X rSetL := by
  intro pins s σ H o i v ov iv u Q I ro ri rv h
  obtain ⟨p, xs, k, j, rfl, rfl, hp, hj, q⟩ := h
  cases ro
  obtain ⟨t, rfl⟩ := ri
  obtain ⟨its, n, r, ho, hz⟩ := I.lst hp
  obtain ⟨h1, h2, h3, h4⟩ := ixN_seq hj
  have hl := r.length
  have hn := line63
  have I' : Inv X pins σ (upd H p (.lst (xs.set j v))) { s with heap := s.heap.update p (Obj.mapSeq (·.setIfInBounds j u)) } :=
    I.lstUpd hp ho (mapSeq_set its n j u) (r.set rv j) (by rw [List.length_set]; exact hz) s.toks
  by_cases h0 : 0 ≤ k
  · have hk : k.toNat = j := by
      rw [seqIndex_of h0 h4] at h1
      exact Option.some.inj h1
    exact PySem.W.ki_setAt ho h0 (by omega) (by rw [List.size_toArray, ← hl]; exact h4) (by rw [hk]; exact ⟨_, I', q⟩)
  · have hk : (k + (its.toArray.size : Int)).toNat = j := by
      rw [seqIndex_neg (by omega) h3] at h1
      rw [List.size_toArray, ← hl]
      exact Option.some.inj h1
    exact PySem.W.ki_setBack ho (by omega) (by rw [List.size_toArray, ← hl]; exact h3) (by omega) (by rw [hk]; exact ⟨_, I', q⟩)

theorem slice_bounds (lo hi : Option Int) (n : Nat) : (sliceBounds lo hi none n).1 = ((HT.sIx n 0 lo : Nat) : Int) ∧ (sliceBounds lo hi none n).2.1 = ((HT.sIx n n hi : Nat) : Int) ∧ (sliceBounds lo hi none n).2.2 = 1 := by
  refine ⟨?_, ?_, rfl⟩
  · cases lo with
    | none => simp [sliceBounds, HT.sIx]
    | some i =>
      simp only [sliceBounds, HT.sIx, Option.getD_none, show (1 : Int) > 0 by decide, if_true]
      by_cases h : i < 0
      · simp only [h, if_true] <;> omega
      · simp only [h, if_false] <;> omega
  · cases hi with
    | none => simp [sliceBounds, HT.sIx]
    | some i =>
      simp only [sliceBounds, HT.sIx, Option.getD_none, show (1 : Int) > 0 by decide, if_true]
      by_cases h : i < 0
      · simp only [h, if_true] <;> omega
      · simp only [h, if_false] <;> omega
theorem slicePick_cut (its : List Value) (lo hi : Option Int) : slicePick its.toArray lo hi none = ((its.drop (HT.sIx its.length 0 lo)).take (HT.sIx its.length its.length hi - HT.sIx its.length 0 lo)).toArray := by
  obtain ⟨h1, h2, h3⟩ := slice_bounds lo hi its.toArray.size
  unfold slicePick
  rw [h1, h2, h3]
  simp only [sliceRange_one, pick_run, List.size_toArray] <;> rfl
def rSlL (K : PySem.W.Frag) : V → Option Int → Option Int → Hp → VK → Prop := fun x lo hi H Q => ∃ a xs, x = .ref a ∧ SqL K H a xs ∧ ∀ p, H p = none → Q (.ref p) (upd H p (.lst (cutV xs lo hi)))
theorem sl_list : SlR X (rSlL X.K) := by
  intro pins s σ H x v vl vu lo hi sl Q I rx hs pl pu h
  obtain ⟨a, xs, rfl, hx, q⟩ := h
  cases rx
  obtain ⟨its, r, ht, hz⟩ := I.list hx
  have hlen := r.length
  refine ⟨"list", _, slot_list_getitem.lookup, ht.isList.typeIs, ?_⟩
  refine wpAny_getItem_list_slice ht.isList hs pl pu .none (by simp) ?_ (by rw [List.size_toArray] <;> omega)
  rw [slicePick_cut, ← hlen]
  refine ⟨.ref s.heap.objs.size, _, I.laid (t' := s.toks) (o := .lst (cutV xs lo hi)) (fun b ob q => Heap.get?_push_of_some _ q) (Nat.le_refl _) ?_, rfl, q _ (I.hok.fresh (Nat.le_refl _))⟩
  exact ⟨Nat.le_trans (cutV_length xs lo hi) hz, _, 0, (r.drop (HT.sIx xs.length 0 lo)).take (HT.sIx xs.length xs.length hi - HT.sIx xs.length 0 lo), Heap.get?_push_size _ rfl⟩

theorem call_len_seq : CallR X (.builtin "len") (fun xs H Q => ∃ p ys, xs = [.ref p] ∧ (SqL X.K H p ys ∨ SqT X.K H p ys) ∧ Q (.int ys.length) H) := by
  intro pins s σ H xs us Q I r h
  obtain ⟨p, ys, rfl, hq, q⟩ := h
  obtain ⟨u, rfl, rx⟩ := vals1 r
  cases rx
  have hn := line63
  rcases hq with hq | hq
  · obtain ⟨its, r', pl, hz⟩ := I.list hq
    have hlen := r'.length
    exact Calls.call_len_list pl.isList (by simp only [List.size_toArray] <;> omega) ⟨.int ys.length, H, I.tok _, ⟨s.toks + 1, by rw [List.size_toArray, hlen]⟩, q⟩
  · obtain ⟨its, r', pl, hz⟩ := I.tuple hq
    have hlen := r'.length
    exact len_tuple pl (by simp only [List.size_toArray] <;> omega) ⟨.int ys.length, H, I.tok _, ⟨s.toks + 1, by rw [List.size_toArray, hlen]⟩, q⟩
theorem CallR.or {f : Value} {r r' : List V → Hp → VK → Prop} (h : CallR X f r) (h' : CallR X f r') : CallR X f (fun xs H Q => r xs H Q ∨ r' xs H Q) := by
  intro pins s σ H xs us Q I rs q
  rcases q with q | q
  · exact h pins s σ H xs us Q I rs q
  · exact h' pins s σ H xs us Q I rs q
theorem call_list_of : CallR X (.type "list") (fun xs H Q => ∃ p ys, xs = [.ref p] ∧ (SqL X.K H p ys ∨ SqT X.K H p ys) ∧ ∀ l, H l = none → Q (.ref l) (upd H l (.lst ys))) := by
  intro pins s σ H xs us Q I r h
  obtain ⟨p, ys, rfl, hq, q⟩ := h
  obtain ⟨u, rfl, rx⟩ := vals1 r
  cases rx
  have fin : ∀ (its : List Value), Vals ys its → ys.length ≤ sizeLine → ∀ (h' : Heap) (c' : Nat), (∀ b o', s.heap.get? b = some o' → h'.get? b = some o') →
      h'.get? s.heap.objs.size = some { cls := .type "list", dict := none, data := .seq its.toArray c', slots := #[] } → EP X pins σ Q (.ref s.heap.objs.size) { s with heap := h' } := fun its r' hz h' c' kp e =>
    ⟨.ref s.heap.objs.size, _, I.laid (t' := s.toks) kp (Nat.le_refl _) (show ObjOk X.prog X.w _ h' _ (.lst ys) from ⟨hz, its, c', r', e⟩), rfl, q _ (I.hok.fresh (Nat.le_refl _))⟩
  rcases hq with hq | hq
  · obtain ⟨its, r', pl, hz⟩ := I.list hq
    have hlen := r'.length
    obtain ⟨o, ho, hc, n, hd⟩ := pl.isList
    exact call_list_seq p (.inl rfl) ho hc hd (fun h' c' kp e => fin its r' hz h' c' kp e) (by simp only [List.size_toArray] <;> omega)
  · obtain ⟨its, r', pl, hz⟩ := I.tuple hq
    have hlen := r'.length
    obtain ⟨o, ho, hc, n, hd⟩ := pl
    exact call_list_seq p (.inr rfl) ho hc hd (fun h' c' kp e => fin its r' hz h' c' kp e) (by simp only [List.size_toArray] <;> omega)
theorem call_tuple_of : CallR X (.type "tuple") (fun xs H Q => ∃ p ys, xs = [.ref p] ∧ ((SqL X.K H p ys ∧ ∀ l, H l = none → Q (.ref l) (upd H l (.tup ys))) ∨ (SqT X.K H p ys ∧ Q (.ref p) H))) := by
  intro pins s σ H xs us Q I r h
  obtain ⟨p, ys, rfl, h⟩ := h
  obtain ⟨u, rfl, rx⟩ := vals1 r
  cases rx
  rcases h with ⟨hq, q⟩ | ⟨hq, q⟩
  · obtain ⟨its, r', pl, hz⟩ := I.list hq
    have hlen := r'.length
    refine call_tuple_list pl.isList (fun h' kp => ?_) (by simp only [List.size_toArray] <;> omega)
    have I1 : Inv X pins σ H { s with heap := h' } := I.kept (t' := s.toks) kp
    have I2 : Inv X pins σ (upd H h'.objs.size (.tup ys)) { s with heap := h'.push { cls := .type "tuple", data := .seq its.toArray } } :=
      I1.laid (t' := s.toks) (fun b o e => Heap.get?_push_of_some _ e) (Nat.le_refl _) (show ObjOk X.prog X.w _ _ _ (.tup ys) from ⟨hz, its, r', IsTup.new _ _⟩)
    exact ⟨.ref h'.objs.size, _, I2, rfl, q _ (I1.hok.fresh (Nat.le_refl _))⟩
  · obtain ⟨its, r', pl, hz⟩ := I.tuple hq
    exact call_tuple_same pl ⟨.ref p, H, I, rfl, q⟩

def tyV (K : PySem.W.Frag) (T : String) (x : V) (H : Hp) : Prop := match x with
  | .str _ => T = "str"
  | .int _ => T = "int"
  | .ref p => (T = "list" ∧ ∃ xs, SqL K H p xs) ∨ (T = "tuple" ∧ ∃ o, K.lookup p = some o ∧ o.cls = .type "tuple" ∧ o.dict = none) ∨
      (T = "dict" ∧ ((∃ kvs, H p = some (.dK kvs)) ∨ ∃ kvs, H p = some (.dT kvs))) ∨ (T = "set" ∧ ∃ S n, H p = some (.set S n))
  | _ => False
theorem tyV_is {pins : List (Addr × Obj)} {σ : St} {H : Hp} {s : Shared} {T : String} {x : V} {v : Value} (I : Inv X pins σ H s) (r : RelV x v) (ty : tyV X.K T x H) :
    s.TypeIs v T ∧ ∀ a, v = .ref a → ∃ ob, s.heap.get? a = some ob ∧ ob.dict = none := by
  cases x with
  | str z =>
    obtain ⟨t, rfl⟩ := r
    cases (show T = "str" from ty)
    exact ⟨typeIs_str s z t, fun _ e => nomatch e⟩
  | int i =>
    obtain ⟨t, rfl⟩ := r
    cases (show T = "int" from ty)
    exact ⟨typeIs_int s i t, fun _ e => nomatch e⟩
  | ref p =>
    cases r
    rcases ty with ⟨rfl, xs, hq⟩ | ⟨rfl, o, hk, hc, hd⟩ | ⟨rfl, hk⟩ | ⟨rfl, S, n, hk⟩
    · obtain ⟨its, _, pl, _⟩ := I.list hq
      refine ⟨pl.isList.typeIs, fun a e => ?_⟩
      cases e
      obtain ⟨o, n, e, c, hd, _⟩ := pl
      exact ⟨o, e, hd⟩
    · refine ⟨⟨o, I.kIn p o hk, hc⟩, fun a e => ?_⟩
      cases e
      exact ⟨o, I.kIn _ o hk, hd⟩
    · have z : ∃ o, s.heap.get? p = some o ∧ o.ExactDict := by
        rcases hk with ⟨kvs, hk⟩ | ⟨kvs, hk⟩
        · obtain ⟨_, _, _, _, o, _, _, e, ex, _⟩ := I.hok p _ hk
          exact ⟨o, e, ex⟩
        · obtain ⟨_, _, _, _, o, _, _, e, ex, _⟩ := I.hok p _ hk
          exact ⟨o, e, ex⟩
      obtain ⟨o, e, ex⟩ := z
      refine ⟨⟨o, e, ex.1⟩, fun a e2 => ?_⟩
      cases e2
      exact ⟨o, e, ex.2.1⟩
    · obtain ⟨o, _, _, _, e, ex, _⟩ := I.hok p _ hk
      refine ⟨⟨o, e, ex.1⟩, fun a e2 => ?_⟩
      cases e2
      exact ⟨o, e, ex.2.1⟩
  | _ => exact False.elim ty
def tBM0 (K : PySem.W.Frag) (T : String) (r : V → List V → Hp → VK → Prop) (to : TE) : TE := fun σ H Q => to σ H fun x H1 => tyV K T x H1 ∧ r x [] H1 Q
def tBM (K : PySem.W.Frag) (T : String) (r : V → List V → Hp → VK → Prop) (to : TE) (t : TA) : TE := fun σ H Q => to σ H fun x H1 => tyV K T x H1 ∧ t σ H1 fun xs H2 => r x xs H2 Q
variable {o e : Expr} {es : List Expr} {to : TE} {t : TA} {name : Str} {apos cpos : Pos} {T id : String} {r : V → List V → Hp → VK → Prop}
theorem pe_bm0 (pa : PlainAttrs T) (slot : Slot T name id) (hty : typeOf (.builtin id) = pure (.type "method_descriptor")) (hm : MtR X id r) (ho : PE X o to)
    (hbase : attributeBase o name X.env (eval o X.env) = eval o X.env := by rfl) (hline : (apos.endLine == cpos.line) = true := by rfl) : PE X (.Call (.Attribute o name apos) [] [] cpos) (tBM0 X.K T r to) := by
  intro pins s σ H Q I h
  refine wpAny_Call_method0_late hbase hline (thn (ho pins s σ H _ I h) fun v s1 ⟨x, H1, I1, r1, ty, q1⟩ => ?_)
  obtain ⟨h1, h2⟩ := tyV_is I1 r1 ty
  exact ⟨T, id, pa, slot, hty, h1, h2, Calls.callWith_builtin rfl (PySem.evalArgs_none (hm pins s1 σ H1 x [] v [] Q I1 r1 .nil q1))⟩
theorem pe_bm (pa : PlainAttrs T) (slot : Slot T name id) (hty : typeOf (.builtin id) = pure (.type "method_descriptor")) (hm : MtR X id r) (ho : PE X o to) (ha : PA X (e :: es) t)
    (hbase : attributeBase o name X.env (eval o X.env) = eval o X.env := by rfl)
    (hfew : ((backTo cpos (starEach (e :: es) X.env)).all (fun x => !x.1) && (backToKw cpos (keywordEach [] X.env)).all (fun x => x.1.isSome)
      && decide ((e :: es).length + ([] : List Keyword).length + (if ([] : List Keyword).isEmpty then 0 else 1) < 30)) = true := by rfl)
    (hline : (apos.endLine == cpos.line) = true := by rfl) (hs : starEach (e :: es) X.env = (false, eval e X.env) :: starEach es X.env := by rfl) (hplain : (backTo cpos (starEach es X.env)).any (·.1) = false := by rfl) :
    PE X (.Call (.Attribute o name apos) (e :: es) [] cpos) (tBM X.K T r to t) := by
  intro pins s σ H Q I h
  refine wpAny_Call_method_late hbase hfew hline rfl (thn (ho pins s σ H _ I h) fun v s1 ⟨x, H1, I1, r1, ty, q1⟩ => ?_)
  obtain ⟨h1, h2⟩ := tyV_is I1 r1 ty
  refine ⟨T, id, pa, slot, hty, h1, h2, ?_⟩
  have hA := ha cpos pins s1 σ H1 _ I1 q1
  rw [hs] at hA ⊢
  refine Calls.callWith_builtin (by show (false || (backTo cpos (starEach es X.env)).any (·.1)) = false; rw [hplain] <;> rfl) (Calls.evalArgs_plain ?_)
  exact thn hA fun us s2 ⟨vs, H2, I2, r2, q2⟩ => hm pins s2 σ H2 x vs v us Q I2 r1 r2 q2
end
end L2
namespace L2
open PySem PySem.Spec PyProof.Rows
def MtM (X : Cx) (id : String) (r : V → List V → Hp → VK → Prop) : Prop :=
  ∀ (pins : List (Addr × Obj)) (s : Shared) (σ : St) (H : Hp) (x : V) (xs : List V) (v : Value) (us : List Value) (Q : VK), Inv X pins σ H s → RelV x v → Vals xs us → r x xs H Q →
    wpAny (model X.prog X.w) X.A (call (.builtin id) (v :: us)) (EP X pins σ Q) X.xe s

theorem Vals.one : ∀ {x : V} {us : List Value}, Vals [x] us → ∃ u, us = [u] ∧ RelV x u
  | _, _, .cons r .nil => ⟨_, rfl, r⟩
theorem Vals.two : ∀ {x y : V} {us : List Value}, Vals [x, y] us → ∃ u v, us = [u, v] ∧ RelV x u ∧ RelV y v
  | _, _, _, .cons r (.cons q .nil) => ⟨_, _, rfl, r, q⟩
theorem Vals.zero : ∀ {us : List Value}, Vals [] us → us = []
  | _, .nil => rfl
theorem Vals.dropLast {xs : List V} {us : List Value} (h : Vals xs us) : Vals xs.dropLast us.dropLast := by
  induction h with
  | nil => exact .nil
  | cons r t ih =>
    cases t with
    | nil => exact .nil
    | cons q t' => exact .cons r ih
theorem Vals.reverse {xs : List V} {us : List Value} (h : Vals xs us) : Vals xs.reverse us.reverse := by
  induction h with
  | nil => exact .nil
  | cons r t ih => rw [List.reverse_cons, List.reverse_cons]; exact Vals.append ih (.cons r .nil)
section
variable {X : Cx} {pins : List (Addr × Obj)} {σ : St} {H : Hp} {s : Shared} {l b : Addr} {xs ys zs : List V}
theorem Inv.lset {its its' : List Value} {n : Nat} {f : Array Value → Array Value} {t' : Nat} (I : Inv X pins σ H s) (hH : H l = some (.lst xs))
    (e : s.heap.get? l = some { cls := .type "list", data := .seq its.toArray n }) (hf : f its.toArray = its'.toArray) (hv : Vals ys its') (hz : ys.length ≤ sizeLine) :
    Inv X pins σ (upd H l (.lst ys)) { s with heap := s.heap.update l (Obj.mapSeq f), toks := t' } := by
  have q := PySem.IsL.update e f
  rw [hf] at q
  refine I.write (x := l) (e := l) (by rw [hH]; exact trivial) (.inl rfl) (fun b' u hb hu => (Heap.get?_update_other s.heap (Obj.mapSeq f) (Ne.symm hb)).trans hu) ⟨_, q⟩ ?_
  exact ⟨hz, its', _, hv, q⟩
theorem Inv.fresh (I : Inv X pins σ H s) : H s.heap.objs.size = none := I.hok.fresh (Nat.le_refl _)
theorem Inv.lstM (I : Inv X pins σ H s) (hH : H l = some (.lst xs)) : xs.length ≤ sizeLine ∧ ∃ (its : List Value) (n : Nat), Vals xs its ∧ xs.length = its.length ∧ s.heap.get? l = some { cls := .type "list", data := .seq its.toArray n } := by
  obtain ⟨z, its, n, r, e⟩ := I.hok l _ hH
  exact ⟨z, its, n, r, r.length, e⟩

theorem notLongL {n : Nat} (h : n ≤ sizeLine) : Builtin.List.listTooLong n = false := by
  unfold Builtin.List.listTooLong
  exact decide_eq_false (by omega)
end
section
variable {X : Cx}
def rAppend : V → List V → Hp → VK → Prop := fun x vs H Q => ∃ l xs y, x = .ref l ∧ vs = [y] ∧ H l = some (.lst xs) ∧ xs.length < sizeLine ∧ Q .non (upd H l (.lst (xs ++ [y])))
theorem mt_append : MtM X "list.append" rAppend := by
  intro pins s σ H x vs v us Q I rx rv h
  obtain ⟨l, xs, y, rfl, rfl, hH, hz, q⟩ := h
  cases rx
  obtain ⟨u, rfl, ru⟩ := rv.one
  obtain ⟨z, its, n, r, hl, e⟩ := I.lstM hH
  refine call_meets F.slot_list_append ⟨_, e, rfl⟩ F.entry_list_append (F.args_list_append_2 _ _) (PySem.list_append l its.toArray n u (by rw [List.size_toArray]; omega)) ⟨e, ?_⟩
  refine ⟨.non, _, I.lset (its' := its ++ [u]) hH e (by simp) (r.append (.cons ru .nil)) ?_, rfl, q⟩
  rw [List.length_append, List.length_singleton]
  omega

def rExtend : V → List V → Hp → VK → Prop := fun x vs H Q => ∃ l b xs zs, x = .ref l ∧ vs = [.ref b] ∧ H l = some (.lst xs) ∧ H b = some (.lst zs) ∧ xs.length + zs.length ≤ sizeLine ∧ Q .non (upd H l (.lst (xs ++ zs)))
theorem mt_extend : MtM X "list.extend" rExtend := by
  intro pins s σ H x vs v us Q I rx rv h
  obtain ⟨l, b, xs, zs, rfl, rfl, hH, hB, hz, q⟩ := h
  cases rx
  obtain ⟨u, rfl, ru⟩ := rv.one
  cases ru
  obtain ⟨z, its, n, r, hl, e⟩ := I.lstM hH
  obtain ⟨z2, its2, n2, r2, hl2, e2⟩ := I.lstM hB
  have hsz : its.toArray.size + its2.toArray.size ≤ sizeLine := by rw [List.size_toArray, List.size_toArray]; omega
  have hlong : ¬ (!its.toArray.isEmpty && Builtin.List.listTooLong (its.toArray.size + its2.toArray.size)) = true := by
    rw [notLongL hsz, Bool.and_false]
    exact Bool.false_ne_true
  refine call_meets F.slot_list_extend ⟨_, e, rfl⟩ F.entry_list_extend (F.args_list_extend_2 _ _)
    (AutoSeq1.list_extend_list_list_0 l its.toArray n b its2.toArray n2 hlong (by rw [List.size_toArray]; omega) (by omega)) ⟨e, e2, ?_⟩
  refine ⟨.non, _, I.lset (its' := its ++ its2) hH e (by simp) (r.append r2) ?_, rfl, q⟩
  rw [List.length_append]
  omega

def rReverse : V → List V → Hp → VK → Prop := fun x vs H Q => ∃ l xs, x = .ref l ∧ vs = [] ∧ H l = some (.lst xs) ∧ Q .non (upd H l (.lst xs.reverse))
theorem mt_reverse : MtM X "list.reverse" rReverse := by
  intro pins s σ H x vs v us Q I rx rv h
  obtain ⟨l, xs, rfl, rfl, hH, q⟩ := h
  cases rx
  have hus := rv.zero
  subst hus
  obtain ⟨z, its, n, r, hl, e⟩ := I.lstM hH
  refine call_meets F.slot_list_reverse ⟨_, e, rfl⟩ F.entry_list_reverse (F.args_list_reverse_1 _) (AutoSeq1.list_reverse_list_0 l its.toArray n (by rw [List.size_toArray]; omega)) ⟨e, ?_⟩
  refine ⟨.non, _, I.lset (its' := its.reverse) hH e (by simp) r.reverse ?_, rfl, q⟩
  rw [List.length_reverse]
  omega

end
section
variable {prog : Program} {w : World} {A : Around} {E : Value → Shared → Prop} {s : Shared}
end
section
variable {X : Cx}
end
end L2
namespace Att
open PySem PySem.W PySem.Calls PyProof.Rows
theorem ints_of_wellAll {P : Params} {h : Heap} : ∀ (ns : List Int) (vs : List Value), WellAll P h vs (ns.map WData.int) → IntsAre vs ns := by
  intro ns
  induction ns with
  | nil =>
    intro vs w
    rw [List.map_nil] at w
    cases w
    exact .nil
  | cons n ns ih =>
    intro vs w
    rw [List.map_cons] at w
    cases w with
    | cons a b =>
      cases a
      exact .cons _ _ (ih _ b)

theorem script_of {l : OpenLaw} {n : Nat} (hn : l.most = some n) {P : Params} {h : Heap} {args : List WData} {vals : List Value}
    (hpre : l.row.toRowW.claim.pre args = true) (hwl : WellAll P h vals args) :
    ∃ a vs ns, vals = [Value.ref a] ∧ args = [WData.list (ns.map WData.int)] ∧ h.get? a = some { cls := .type "list", data := .seq vs.toArray } ∧ IntsAre vs ns ∧ ns.length ≤ n := by
  have hsh : WShape.hasAll [] args [.list .int] = true := (pre_splitW hpre).1
  have hc : l.pre.holds [] { args := args } = true := (pre_splitW hpre).2
  obtain ⟨d, r, rfl, h1, h2⟩ := hasAllW_cons hsh
  obtain rfl := hasAllW_nil h2
  obtain ⟨xs, rfl, h3⟩ := hasW_list h1
  obtain ⟨ns, rfl⟩ := items_int h3
  have hlen : ns.length ≤ n := by
    unfold OpenLaw.pre at hc
    have h4 : (WTm.not (.lt (.lit (.int (n : Int))) (.len (.arg 0)))).holds [] { args := [.list (ns.map .int)] } = true := by
      have h4 := (holds_andW hc).1
      rw [hn] at h4
      exact h4
    have h5 := condW_of h4 (w_not (w_lt w_lit (w_len_list (w_arg rfl))))
    rw [List.length_map] at h5
    refine Nat.le_of_not_lt fun q => ?_
    have q' : (n : Int) < ((ns.length : Nat) : Int) := by omega
    first
      | (rw [decide_eq_true q'] at h5; exact absurd h5 (by decide))
      | (simp at h5; omega)
  cases hwl with
  | cons w1 w2 =>
    cases w2
    cases w1 with
    | list ho hall => exact ⟨_, _, ns, rfl, rfl, ho, ints_of_wellAll ns _ hall, hlen⟩

theorem post_true (l : OpenLaw) (args : List WData) : l.row.toRowW.claim.post args (.bool true) args = true :=
  postW_of (r := l.row.toRowW) (X := (true == true))
    (show WShape.has [] (.bool true) .bool = true by first | rfl | decide | simp [WShape.has, WShape.arms, WShape.armsAll])
    (show (WTm.eq .res (.lit (.bool true))).value [] { args := args, res := some (.bool true), after := args } = some (.bool (true == true)) from w_eq_bool (w_res rfl) w_lit) rfl

theorem attach_call {l : OpenLaw} {n : Nat} {q : Program} {loose : List Str} {XP : (Str → Option Value) → Heap → Prop} {YP : World → Heap → Prop} {d : DefRec}
    (hn : l.most = some n) (hdf : d.params.defaults = [])
    (call : ∀ (w : World) (s₀ s₁ : Shared) (mg mb : Str → Option Value) (fa : Addr) (o : Obj) (pm cd doc : Value) (a : Addr) (vs : List Value) (ns : List Int),
      Ground q loose [] XP w s₀ mg mb s₁.heap → YP w s₁.heap →
      s₁.heap.get? fa = some o → o.data = .func (docDef d.name d.params d.body d.scope pm cd doc) → s₁.heap.CodeRec cd d.name → mg d.name = some (.ref fa) →
      s₁.heap.get? a = some { cls := .type "list", data := .seq vs.toArray } → IntsAre vs ns → ns.length ≤ n → s₁.gens = #[] →
      codeAny (model l.prog w) callerA (.call (.ref fa) ⟨[.ref a], []⟩) (fun r s' => r = .ok (.ret (.bool true)) ∧ OldK s₁.heap s'.heap ∧ s'.os = s₁.os ∧ AllBare s'.gens) s₁) :
    WalkO q loose XP YP l.row.toRowW d [] (fun f vs => PySem.call f vs) := by
  intro w s₀ s₁ mg mb G Y fa o pm cd doc dV kV ho hd hcd hD hmg hg args vals as hpre hlay hrd hwl hlo
  obtain rfl : dV = .none := Dflts.none hD hdf
  obtain rfl : kV = .none := Dflts.noKw hD
  obtain ⟨a, vs, ns, rfl, rfl, hobj, hints, hlen⟩ := script_of hn hpre hwl
  refine enter_call (codeAny_mono (call w s₀ s₁ mg mb fa o pm cd doc a vs ns G Y ho (fd_plain hd) hcd hmg hobj hints hlen hg) fun r s' hq => ?_)
  obtain ⟨rfl, h2, h3, h4⟩ := hq
  exact ⟨.inl ⟨.bool true, .bool true, [], rfl, fun _ => rfl, .bool true, post_true l _, fun _ => ⟨List.Pairwise.nil, fun _ hm => (nomatch hm)⟩⟩, h2, h3, h4⟩

section
variable {prog : Program} {w : World} {A : Around} {E : Value → Shared → Prop} {s : Shared} {K : Frag}
end
end Att
namespace L2
open PySem PySem.Spec PyProof.Rows
theorem vals_ints : ∀ {vs : List Value} {ns : List Int}, IntsAre vs ns → Vals (ns.map V.int) vs
  | _, _, .nil => .nil
  | _, _, .cons n t h => .cons ⟨t, rfl⟩ (vals_ints h)

def Only (H : Hp) : Prop := ∀ b, H b = none ∨ ∃ o xs, H b = some (.frz o (.lst xs))

theorem law_call {P : Program} {w : World} {K : PySem.W.Frag} {mg mb : Str → Option Value} {CX : CXT} {k : Nat} {fa a : Addr} {fd : FuncData} {x : Str} {sp : Sp} {s₁ : Shared} {vs : List Value} {ns : List Int}
    (KX : K.In s₁.heap) (hns : s₁.heap.Ns mainGlobals mg) (hb : s₁.heap.Ns builtinsNs mb) (hbb : ∀ x : Str, x ≠ "__name__" → mb x = bootBuiltins x) (hlim : s₁.heap.NoLimit) (hg : s₁.gens = #[])
    (ha : s₁.heap.get? a = some { cls := .type "list", data := .seq vs.toArray }) (hi : IntsAre vs ns) (hl : ns.length ≤ sizeLine) (hr : Room k callerA)
    (F : ∀ base : Heap, K.In base → base.Ns mainGlobals mg → FnOk P w K mg base CX k fa fd [x] sp) (hbind : ∀ (s : Shared) (u : Value), BindsTo s fd ⟨[u], []⟩ [(x, u)])
    (hsp : ∀ H : Hp, Only H → SqL K H a (ns.map V.int) → sp [.ref a] H (fun v _ => v = .bl true) fun _ _ _ => False)
    (hCX : ∀ H e s', CX [] H s₁ (fun _ _ _ => False) e s' → False) :
    codeAny (model P w) callerA (.call (.ref fa) ⟨[.ref a], []⟩) (fun r s' => r = .ok (.ret (.bool true)) ∧ OldK s₁.heap s'.heap ∧ s'.os = s₁.os ∧ AllBare s'.gens) s₁ := by
  have rv := vals_ints hi
  have lenV := hi.length
  have core : ∀ H : Hp, Only H → SqL K H a (ns.map V.int) → HOk P w H s₁.heap → (∀ b, H b ≠ none → b = a) → (H a ≠ none → K.lookup a = none) →
      codeAny (model P w) callerA (.call (.ref fa) ⟨[.ref a], []⟩) (fun r s' => r = .ok (.ret (.bool true)) ∧ OldK s₁.heap s'.heap ∧ s'.os = s₁.os ∧ AllBare s'.gens) s₁ := by
    intro H hO hS hok hA hK
    have base_of : ∀ {b : Addr} {o : Obj}, s₁.heap.get? b = some o → H b = none → (hidT s₁.heap H).get? b = some o := fun e n => hidT_get e n
    have noA : ∀ {b : Addr} {o : Obj} {es : Array DictEntry} {ep : Nat}, s₁.heap.get? b = some o → o.data = .dict es ep → H b = none := fun {b o es ep} e d => by
      cases q : H b with
      | none => rfl
      | some u =>
        have e' : b = a := hA b (by rw [q]; simp)
        subst e'
        rw [ha] at e; cases e
        have d' : Data.seq vs.toArray _ = Data.dict es ep := d
        cases d'
    have nsK : ∀ {b : Addr} {m : Str → Option Value}, s₁.heap.Ns b m → (hidT s₁.heap H).Ns b m := fun {b m} ⟨o, es, ep, e, d, r⟩ => ⟨o, es, ep, base_of e (noA e d), d, r⟩
    have hKb : K.In (hidT s₁.heap H) := fun b o e => base_of (KX b o e) (by
      cases q : H b with
      | none => rfl
      | some u =>
        have e' : b = a := hA b (by rw [q]; simp)
        subst e'
        rw [hK (by rw [q]; simp)] at e; cases e)
    have hM : Mod K mg (hidT s₁.heap H) := ⟨hKb, nsK hns, ⟨mb, nsK hb, hbb⟩, let ⟨mc, h1, h2⟩ := hlim; ⟨mc, nsK h1, h2⟩⟩
    have e0 : Env0 P w K mg (hidT s₁.heap H) callerA [] s₁ H := ⟨rfl, hM, fun b o e => of_hidT e, Nat.le_of_eq (hidT_size _ _), trivial, fun b hb => absurd (show b ∈ ([] : List Addr) from hb) (by simp), hok, .of_eq hg⟩
    refine codeAny_mono ((F _ hKb (nsK hns)).run callerA [] s₁ H ⟨[.ref a], []⟩ [.ref a] [.ref a] _ _ hr e0 (hbind s₁ (.ref a)) (.cons rfl .nil) (hsp H hO hS)) fun r s' h => ?_
    cases r with
    | error e => exact (hCX H e s' h).elim
    | ok fl =>
      cases fl with
      | next => exact False.elim h
      | brk => exact False.elim h
      | cont => exact False.elim h
      | ret u =>
        obtain ⟨v, H', os, bare, un, hok', r', q⟩ := h
        have q' : v = .bl true := q
        subst q'
        obtain rfl : u = Value.bool true := r'
        refine ⟨rfl, OldK.of_keep fun b o e => ?_, os, bare⟩
        cases q : H b with
        | none => exact un.keep b o e q (by intro z; exact absurd (show b ∈ ([] : List Addr) from z) (by simp)) (by simp)
        | some u =>
          rcases hO b with z | ⟨ob, xs, z⟩
          · rw [q] at z; cases z
          · have z2 := un.frzs b ob _ z
            obtain ⟨e1, _⟩ := hok b _ z
            obtain ⟨e2, _⟩ := hok' b _ z2
            rw [e] at e1; cases e1
            exact e2
  cases hk : K.lookup a with
  | some o =>
    have e := KX a o hk
    rw [ha] at e
    cases e
    refine core (fun _ => none) (fun _ => .inl rfl) (.inr ⟨_, vs.toArray, _, hk, rfl, rfl, rfl, by rw [List.size_toArray, lenV]; exact hl, by simpa using rv⟩) (fun b u z => by have z' : (none : Option HO) = some u := z; cases z') (fun b z => absurd rfl z) fun z => absurd rfl z
  | none =>
    refine core (fun b => if b = a then some (.frz { cls := .type "list", data := .seq vs.toArray } (.lst (ns.map V.int))) else none) (fun b => ?_) (.inl (.inr ⟨{ cls := .type "list", data := .seq vs.toArray }, if_pos rfl⟩)) (fun b u z => ?_) (fun b z => ?_) fun _ => hk
    · by_cases hb : b = a
      · exact .inr ⟨_, _, if_pos hb⟩
      · exact .inl (if_neg hb)
    · by_cases hb : b = a
      · have z' := (if_pos hb).symm.trans z
        cases z'
        subst hb
        exact ⟨ha, by rw [List.length_map]; exact hl, vs, _, rv, ha⟩
      · have z' := (if_neg hb).symm.trans z
        cases z'
    · by_cases hb : b = a
      · exact hb
      · exact absurd (if_neg hb) z
end L2
namespace L2
open PySem PySem.Spec PyProof.Rows
theorem walk_of {l : PySem.W.OpenLaw} {n k : Nat} {q : Program} {loose : List Str} {XP : (Str → Option Value) → Heap → Prop} {YP : World → Heap → Prop} {d : DefRec} {K : Params → PySem.W.Frag} {CX : World → CXT} {sp : World → Sp} {x : Str}
    (hn : l.most = some n) (hn2 : n ≤ sizeLine) (hdf : d.params.defaults = []) (hr : Room k callerA)
    (hY : ∀ (w : World) (h : Heap), YP w h → (K w.params).In h)
    (F : ∀ (w : World) (mg : Str → Option Value) (fa : Addr) (h : Heap), (K w.params).In h → h.Ns mainGlobals mg → mg d.name = some (.ref fa) →
      ∃ fd : FuncData, (∀ (s : Shared) (u : Value), BindsTo s fd ⟨[u], []⟩ [(x, u)]) ∧
        ∀ base : Heap, (K w.params).In base → base.Ns mainGlobals mg → FnOk l.prog w (K w.params) mg base (CX w) k fa fd [x] (sp w))
    (hsp : ∀ (w : World) (H : Hp) (a : Addr) (ns : List Int), ns.length ≤ n → Only H → SqL (K w.params) H a (ns.map V.int) → sp w [.ref a] H (fun v _ => v = .bl true) fun _ _ _ => False)
    (hCX : ∀ (w : World) (H : Hp) (s : Shared) (e : Value) (s' : Shared), CX w [] H s (fun _ _ _ => False) e s' → False) :
    PySem.W.WalkO q loose XP YP l.row.toRowW d [] (fun f vs => PySem.call f vs) := by
  refine Att.attach_call hn hdf fun w s₀ s₁ mg mb fa o pm cd doc a vs ns G Y ho hd hcd hmg hobj hints hlen hg => ?_
  have KX := hY w _ Y
  obtain ⟨fd, hb, hF⟩ := F w mg fa _ KX G.T.g hmg
  exact law_call KX G.T.g G.T.b G.T.builtins G.T.nolimit hg hobj hints (Nat.le_trans hlen hn2) hr hF hb (fun H hO hS => hsp w H a ns hlen hO hS) fun H e s' => hCX w H s₁ e s'
end L2
namespace L2
open PySem PySem.Spec PyProof.Rows
def defArgs (s : Stmt) : Arguments := match s with
  | .FunctionDef _ a _ _ _ _ _ _ _ _ => a
  | _ => { posonlyargs := [], args := [], vararg := none, kwonlyargs := [], kw_defaults := [], kwarg := none, defaults := [] }
def defBody (s : Stmt) : List Stmt := match s with
  | .FunctionDef _ _ b _ _ _ _ _ _ _ => b
  | _ => []
def defScope (s : Stmt) : Scope := match s with
  | .FunctionDef _ _ _ _ _ _ sc _ _ _ => sc
  | _ => { kind := .function, names := [], isGenerator := false, isCoroutine := false }

abbrev CX0 : CXT := fun _ _ _ _ _ _ => False
abbrev E0 : XK := fun _ _ _ => False
theorem pass0 {X : Cx} : Passes CX0 X E0 := fun _ _ _ _ _ _ _ h => h.elim

structure Fun (K : PySem.W.Frag) (x qual : Str) (st : Stmt) (f : Addr) (fd : FuncData) : Prop where
  ex : ∃ (oc : Value) (od : Option Addr) (kV doc pm : Value) (an : Option Addr) (cdv ct : Value) (osl : Array (Option Value)),
    fd = PySem.W.fnOf x qual (defArgs st) (defBody st) (defScope st) .none kV doc pm an cdv ct ∧ K.lookup f = some ⟨oc, od, .func fd, osl⟩ ∧ PySem.W.codeIn K cdv qual = true
  kp : PySem.W.keepIn K (.ref f) = true
section
variable {P : Program} {w : World} {K : PySem.W.Frag} {mg : Str → Option Value} {base : Heap}
theorem Fun.ok {x qual : Str} {st : Stmt} {f : Addr} {fd : FuncData} {N ps : List Str} {k : Nat} {sp : Sp} (F : Fun K x qual st f fd) (S : FnScope N ps (defScope st)) (len : ∀ vs H Q E, sp vs H Q E → vs.length = ps.length)
    (hbody : ∀ (cdv : Value) (A : Around) (outer : List Env) (s : Shared) (H : Hp) (vs : List V) (Q : VK) (E : XK), Room k (A.deeper (envOfC qual (defScope st) s.heap.objs.size f cdv)) → sp vs H Q E →
      ∃ t, PSs (cxOf CX0 P w K mg base N qual (defScope st) f cdv A outer s H E).nox (defBody st) t ∧ t { nx := fun _ H' => Q .non H', rt := Q } (start N vs) H) : FnOk P w K mg base CX0 (k + 1) f fd ps sp := by
  obtain ⟨oc, od, kV, doc, pm, an, cdv, ct, osl, rfl, lk, hcd⟩ := F.ex
  refine fn_of lk hcd S len fun A outer s H vs Q E hr hsp => ?_
  obtain ⟨t, h, q⟩ := hbody cdv A outer s H vs Q E hr hsp
  exact ⟨t, h.nox, q⟩
theorem Fun.binds {x qual : Str} {st : Stmt} {f : Addr} {fd : FuncData} {ps : List Str} (F : Fun K x qual st f fd)
    (h : ∀ (kV doc pm : Value) (an : Option Addr) (cdv ct : Value) (us : List Value), us.length = ps.length → bindArgs (PySem.W.fnOf x qual (defArgs st) (defBody st) (defScope st) .none kV doc pm an cdv ct) ⟨us, []⟩ = pure (ps.zip us)) : Binds K fd ps [] := by
  obtain ⟨oc, od, kV, doc, pm, an, cdv, ct, osl, rfl, lk, hcd⟩ := F.ex
  exact .all (h kV doc pm an cdv ct)
theorem fun_mk {x qual : Str} {st : Stmt} {f : Addr} {oc : Value} {od an : Option Addr} {osl : Array (Option Value)} {kV doc pm cdv ct : Value} (l : K.lookup f = some ⟨oc, od, .func (PySem.W.fnOf x qual (defArgs st) (defBody st) (defScope st) .none kV doc pm an cdv ct), osl⟩)
    (c : PySem.W.codeIn K cdv qual = true) (k : PySem.W.keepIn K (.ref f) = true) : Fun K x qual st f (PySem.W.fnOf x qual (defArgs st) (defBody st) (defScope st) .none kV doc pm an cdv ct) := ⟨⟨oc, od, kV, doc, pm, an, cdv, ct, osl, rfl, l, c⟩, k⟩
end
theorem hu_of {A : Around} {k : Nat} (hr : Room k A) : A.units + 1 < cLine := Nat.lt_of_le_of_lt (Nat.add_le_add_left (by decide : 1 ≤ 64) _) hr.units
section
variable {X : Cx}
theorem pv (i : Nat) {x : Str} {pos : Pos} (hN : X.N[i]? = some x := by rfl) (hv : Vis X.env.scope x := by first | exact Or.inl rfl | exact Or.inr (Or.inl rfl) | exact Or.inr (Or.inr rfl)) (hd : (x == ("__debug__" : Str)) = false := by decide)
    (hcd : (x == ("__classdict__" : Str)) = false := by decide) : PE X (.Name x pos) (tVar i) := pe_var hN hv hd hcd
end
theorem iteF {A B : Prop} (h : B) : if false = true then A else B := by
  rw [if_neg Bool.false_ne_true]
  exact h
theorem iteT {A B : Prop} (h : A) : if true = true then A else B := by
  rw [if_pos rfl]
  exact h
theorem ite2 {c A B : Prop} [Decidable c] (h1 : c → A) (h2 : ¬ c → B) : if c then A else B := by
  by_cases h : c
  · rw [if_pos h]
    exact h1 h
  · rw [if_neg h]
    exact h2 h
def Same (H H' : Hp) : Prop := ∀ b o, H b = some o → H' b = some o
theorem Same.refl (H : Hp) : Same H H := fun _ _ h => h
theorem Same.trans {H H1 H2 : Hp} (a : Same H H1) (b : Same H1 H2) : Same H H2 := fun c o h => b c o (a c o h)
theorem Same.free {H H' : Hp} (e : Same H H') {l : Addr} (h : H' l = Option.none) : H l = Option.none := by
  cases q : H l with
  | none => rfl
  | some o =>
    rw [e l o q] at h
    cases h
theorem Same.seq {K : PySem.W.Frag} {H H' : Hp} {a : Addr} {xs : List V} (e : Same H H') (h : SqL K H a xs) : SqL K H' a xs := by
  rcases h with (h | ⟨o, h⟩) | h
  · exact .inl (.inl (e _ _ h))
  · exact .inl (.inr ⟨o, e _ _ h⟩)
  · exact .inr h

end L2
set_option Elab.async false
set_option linter.all false
set_option maxRecDepth 100000
set_option maxHeartbeats 1000000
namespace Srt
open PySem PySem.W PyProof.Rows
structure Ord (lt : Nat → Nat → Bool) : Prop where
  asym : ∀ a b, lt a b = true → lt b a = false
  tr : ∀ a b c, lt b a = false → lt c b = false → lt c a = false
theorem Ord.refl {lt : Nat → Nat → Bool} (O : Ord lt) (a : Nat) : lt a a = false := by
  cases e : lt a a with
  | false => rfl
  | true => exact (O.asym a a e).symm.trans e |>.symm
theorem Ord.up {lt : Nat → Nat → Bool} (O : Ord lt) {a b c : Nat} (h : lt a b = true) (h2 : lt c b = false) : lt a c = true := by
  cases e : lt a c with
  | true => rfl
  | false =>
    have := O.tr b c a h2 e
    rw [h] at this
    cases this
def Tri {α : Type} (lt : Nat → Nat → Bool) (N : Nat) (Post : α → Prop) : KasT α → Prop
  | .ret a => Post a
  | .ask i j k => i < N ∧ j < N ∧ Tri lt N Post (k (lt i j))
variable {lt : Nat → Nat → Bool} {N : Nat}
theorem tri_bind {α β : Type} {Post : β → Prop} {f : α → KasT β} : ∀ {t : KasT α}, Tri lt N (fun a => Tri lt N Post (f a)) t → Tri lt N Post (t.bind f)
  | .ret a, h => h
  | .ask i j k, h => ⟨h.1, h.2.1, tri_bind h.2.2⟩
theorem tri_mono {α : Type} {P Q : α → Prop} (hPQ : ∀ a, P a → Q a) : ∀ {t : KasT α}, Tri lt N P t → Tri lt N Q t
  | .ret a, h => hPQ a h
  | .ask i j k, h => ⟨h.1, h.2.1, tri_mono hPQ h.2.2⟩
theorem tri_wp {α : Type} {cmp : Nat → Nat → (Bool → Shared → Prop) → Shared → Prop} {G : Shared → Prop} {Post : α → Prop} {Q : α → Shared → Prop}
    (hc : ∀ i j (R : Bool → Shared → Prop) s, i < N → j < N → G s → (∀ s', G s' → R (lt i j) s') → cmp i j R s) (hQ : ∀ a s, Post a → G s → Q a s) : ∀ {t : KasT α} {s : Shared}, Tri lt N Post t → G s → t.kasWp cmp Q s
  | .ret a, s, h, g => hQ a s h g
  | .ask i j k, s, h, g => hc i j _ s h.1 h.2.1 g fun s' g' => tri_wp hc hQ h.2.2 g'
def g (p : Array Nat) (k : Nat) : Nat := p.getD k 0
def Pm (N : Nat) (p : Array Nat) : Prop := p.toList.Perm (List.range N)
theorem Pm.size {p : Array Nat} (h : Pm N p) : p.size = N := by
  have := h.length_eq
  rw [Array.length_toList, List.length_range] at this
  exact this
theorem g_some {p : Array Nat} (k : Nat) : g p k = (p[k]?).getD 0 := by
  unfold g
  rw [Array.getD_eq_getD_getElem?]
theorem Pm.bd {p : Array Nat} (h : Pm N p) {k : Nat} (hk : k < N) : g p k < N := by
  have hs := h.size
  have : p[k]? = some (p[k]'(by omega)) := Array.getElem?_eq_getElem _
  rw [g_some, this]
  have m : p[k]'(by omega) ∈ p.toList := Array.mem_toList_iff.mpr (Array.getElem_mem _)
  exact List.mem_range.mp (h.mem_iff.mp m)
theorem Pm.of {p q : Array Nat} (h : Pm N p) (e : q.Perm p) : Pm N q := (Array.perm_iff_toList_perm.mp e).trans h
theorem Pm.rev {p : Array Nat} (h : Pm N p) (i j : Nat) : Pm N (kas_rev p i j) := h.of (mirror_perm _ _ _ _)
theorem g_rev {p : Array Nat} {i j : Nat} (hj : j ≤ p.size) (k : Nat) : g (kas_rev p i j) k = if i ≤ k ∧ k < j then g p (i + j - 1 - k) else g p k := by
  rw [g_some]
  unfold kas_rev
  rw [getElem?_mirror_all hj]
  split <;> rw [g_some]
theorem g_bub {p : Array Nat} {src d : Nat} (hs : src < p.size) (hd : d ≤ src) (k : Nat) : g (bubble p src d) k = if k = src - d then g p src else if src - d < k ∧ k ≤ src then g p (k - 1) else g p k := by
  rw [g_some, getElem?_bubble hs d hd]
  split
  · rw [g_some]
  · split <;> rw [g_some]
def Up (lt : Nat → Nat → Bool) (p : Array Nat) (n : Nat) : Prop := ∀ i j, i ≤ j → j < n → lt (g p j) (g p i) = false
def Dn (lt : Nat → Nat → Bool) (p : Array Nat) (n : Nat) : Prop := ∀ i j, i ≤ j → j < n → lt (g p i) (g p j) = false
theorem up_succ (O : Ord lt) {p : Array Nat} {n : Nat} (h0 : 1 ≤ n) (h : Up lt p n) (e : lt (g p n) (g p (n - 1)) = false) : Up lt p (n + 1) := by
  intro i j hij hj
  by_cases q : j < n
  · exact h i j hij q
  · have ej : j = n := by omega
    subst ej
    by_cases qi : i = j
    · subst qi
      exact O.refl _
    · exact O.tr _ _ _ (h i (j - 1) (by omega) (by omega)) e
theorem dn_succ (O : Ord lt) {p : Array Nat} {n : Nat} (h0 : 1 ≤ n) (h : Dn lt p n) (e : lt (g p (n - 1)) (g p n) = false) : Dn lt p (n + 1) := by
  intro i j hij hj
  by_cases q : j < n
  · exact h i j hij q
  · have ej : j = n := by omega
    subst ej
    by_cases qi : i = j
    · subst qi
      exact O.refl _
    · exact O.tr _ _ _ e (h i (j - 1) (by omega) (by omega))
theorem up_rev {p : Array Nat} {n : Nat} (hn : n ≤ p.size) (h : Dn lt p n) : Up lt (kas_rev p 0 n) n := by
  intro i j hij hj
  rw [g_rev hn, g_rev hn, if_pos ⟨Nat.zero_le _, hj⟩, if_pos ⟨Nat.zero_le _, by omega⟩]
  exact h _ _ (by omega) (by omega)
theorem t_asc (O : Ord lt) {p : Array Nat} (hp : Pm N p) : ∀ (f n : Nat), 1 ≤ n → n + f ≤ N → Up lt p n → Tri lt N (fun m => n ≤ m ∧ m ≤ n + f ∧ Up lt p m ∧ (m < n + f → lt (g p m) (g p (m - 1)) = true)) (kas_asc p f n)
  | 0, n, h1, h2, h => ⟨Nat.le_refl _, Nat.le_refl _, h, fun q => absurd q (by omega)⟩
  | f + 1, n, h1, h2, h => by
    refine ⟨Pm.bd hp (by omega), Pm.bd hp (by omega), ?_⟩
    show Tri lt N _ (if lt (g p n) (g p (n - 1)) = true then .ret n else kas_asc p f (n + 1))
    by_cases e : lt (g p n) (g p (n - 1)) = true
    · rw [if_pos e]
      exact ⟨Nat.le_refl _, by omega, h, fun _ => e⟩
    · rw [if_neg e]
      refine tri_mono (fun m hm => ?_) (t_asc O hp f (n + 1) (by omega) (by omega) (up_succ O h1 h (by simpa using e)))
      exact ⟨by omega, by omega, hm.2.2.1, fun q => hm.2.2.2 (by omega)⟩
def Eqv (lt : Nat → Nat → Bool) (p : Array Nat) (n q : Nat) : Prop := ∀ k, n - 1 - q ≤ k → k < n → lt (g p k) (g p (n - 1)) = false ∧ lt (g p (n - 1)) (g p k) = false
theorem dn_block (O : Ord lt) {p : Array Nat} {n q : Nat} (hn : n ≤ p.size) (hq : q + 1 ≤ n) (h : Dn lt p n) (he : Eqv lt p n q) : Dn lt (kas_rev p (n - (q + 1)) n) n := by
  intro i j hij hj
  rw [g_rev hn, g_rev hn]
  by_cases bi : n - (q + 1) ≤ i
  · rw [if_pos ⟨bi, by omega⟩, if_pos ⟨by omega, hj⟩]
    obtain ⟨a1, a2⟩ := he (n - (q + 1) + n - 1 - i) (by omega) (by omega)
    obtain ⟨b1, b2⟩ := he (n - (q + 1) + n - 1 - j) (by omega) (by omega)
    exact O.tr _ _ _ b2 a1
  · rw [if_neg (by omega)]
    by_cases bj : n - (q + 1) ≤ j
    · rw [if_pos ⟨bj, hj⟩]
      exact h _ _ (by omega) (by omega)
    · rw [if_neg (by omega)]
      exact h _ _ hij hj
theorem t_desc (O : Ord lt) : ∀ (f : Nat) (p : Array Nat) (n q : Nat), Pm N p → 1 ≤ n → n + f ≤ N → q + 1 ≤ n → Dn lt p n → Eqv lt p n q →
    Tri lt N (fun r => Pm N r.1 ∧ n ≤ r.2.1 ∧ r.2.1 ≤ n + f ∧ r.2.2 + 1 ≤ r.2.1 ∧ Dn lt r.1 r.2.1 ∧ Eqv lt r.1 r.2.1 r.2.2) (kas_desc f p n q)
  | 0, p, n, q, hp, h1, h2, hq, h, he => ⟨hp, Nat.le_refl _, Nat.le_refl _, hq, h, he⟩
  | f + 1, p, n, q, hp, h1, h2, hq, h, he => by
    have hs := hp.size
    refine ⟨Pm.bd hp (by omega), Pm.bd hp (by omega), ?_⟩
    show Tri lt N _ (if lt (g p n) (g p (n - 1)) = true then (if q > 0 then kas_desc f (kas_rev p (n - (q + 1)) n) (n + 1) 0 else kas_desc f p (n + 1) 0) else .ask (g p (n - 1)) (g p n) fun d => if d = true then .ret (p, n, q) else kas_desc f p (n + 1) (q + 1))
    have one : ∀ p' : Array Nat, Eqv lt p' (n + 1) 0 := fun p' k k1 k2 => by
      have : k = n := by omega
      subst this
      exact ⟨O.refl _, O.refl _⟩
    by_cases e : lt (g p n) (g p (n - 1)) = true
    · rw [if_pos e]
      have e' := O.asym _ _ e
      by_cases q0 : q > 0
      · rw [if_pos q0]
        have d1 := dn_block O (by omega) hq h he
        have d2 : Dn lt (kas_rev p (n - (q + 1)) n) (n + 1) := by
          refine dn_succ O h1 d1 ?_
          rw [g_rev (by omega), g_rev (by omega), if_pos ⟨by omega, by omega⟩, if_neg (by omega)]
          obtain ⟨a1, a2⟩ := he (n - (q + 1) + n - 1 - (n - 1)) (by omega) (by omega)
          exact O.tr _ _ _ e' a1
        refine tri_mono (fun r hr => ?_) (t_desc O f _ (n + 1) 0 (hp.rev _ _) (by omega) (by omega) (by omega) d2 (one _))
        exact ⟨hr.1, by omega, by omega, hr.2.2.2⟩
      · rw [if_neg q0]
        refine tri_mono (fun r hr => ?_) (t_desc O f p (n + 1) 0 hp (by omega) (by omega) (by omega) (dn_succ O h1 h e') (one _))
        exact ⟨hr.1, by omega, by omega, hr.2.2.2⟩
    · rw [if_neg e]
      have e1 : lt (g p n) (g p (n - 1)) = false := by simpa using e
      refine ⟨Pm.bd hp (by omega), Pm.bd hp (by omega), ?_⟩
      show Tri lt N _ (if lt (g p (n - 1)) (g p n) = true then .ret (p, n, q) else kas_desc f p (n + 1) (q + 1))
      by_cases e2 : lt (g p (n - 1)) (g p n) = true
      · rw [if_pos e2]
        exact ⟨hp, Nat.le_refl _, (by show n ≤ n + (f + 1); omega), hq, h, he⟩
      · rw [if_neg e2]
        have e3 : lt (g p (n - 1)) (g p n) = false := by simpa using e2
        refine tri_mono (fun r hr => ?_) (t_desc O f p (n + 1) (q + 1) hp (by omega) (by omega) (by omega) (dn_succ O h1 h e3) fun k k1 k2 => ?_)
        · exact ⟨hr.1, by omega, by omega, hr.2.2.2⟩
        · show lt (g p k) (g p n) = false ∧ lt (g p n) (g p k) = false
          by_cases kn : k = n
          · subst kn
            exact ⟨O.refl _, O.refl _⟩
          · obtain ⟨a1, a2⟩ := he k (by omega) (by omega)
            exact ⟨O.tr _ _ _ e3 a1, O.tr _ _ _ a2 e1⟩
theorem t_tail (O : Ord lt) {p : Array Nat} {n : Nat} (hp : Pm N p) (h1 : 1 ≤ n) (hn : n ≤ N) (h : Dn lt p n) : Tri lt N (fun r => Pm N r.2 ∧ 1 ≤ r.1 ∧ r.1 ≤ N ∧ Up lt r.2 r.1) (kas_tail3 n N p) := by
  unfold kas_tail3
  refine tri_bind (tri_mono (fun m hm => ?_) (t_asc O (hp.rev 0 n) (N - n) n h1 (by omega) (up_rev (by rw [hp.size]; exact hn) h)))
  exact ⟨hp.rev 0 n, by omega, by omega, hm.2.2.1⟩
theorem t_descPart (O : Ord lt) {p : Array Nat} {n : Nat} (hp : Pm N p) (hn : n + 1 ≤ N) (h : Dn lt p (n + 1)) : Tri lt N (fun r => Pm N r.2 ∧ 1 ≤ r.1 ∧ r.1 ≤ N ∧ Up lt r.2 r.1) (kas_descPart n N p) := by
  unfold kas_descPart
  refine tri_bind (tri_mono (fun r hr => ?_) (t_desc O (N - (n + 1)) p (n + 1) 0 hp (by omega) (by omega) (by omega) h fun k k1 k2 => ?_))
  · obtain ⟨a1, a2, a3, a4, a5, a6⟩ := hr
    split
    · exact t_tail O (a1.rev _ _) (by omega) (by omega) (dn_block O (by rw [a1.size]; omega) a4 a5 a6)
    · exact t_tail O a1 (by omega) (by omega) a5
  · have : k = n := by omega
    subst this
    exact ⟨O.refl _, O.refl _⟩
theorem t_count (O : Ord lt) {p : Array Nat} (hp : Pm N p) (hN : 1 ≤ N) : Tri lt N (fun r => Pm N r.2 ∧ 1 ≤ r.1 ∧ r.1 ≤ N ∧ Up lt r.2 r.1) (kas_count N p) := by
  unfold kas_count
  have u1 : Up lt p 1 := fun i j hij hj => by
    have : i = 0 := by omega
    have : j = 0 := by omega
    subst_vars
    exact O.refl _
  refine tri_bind (tri_mono (fun n hn => ?_) (t_asc O hp (N - 1) 1 (Nat.le_refl _) (by omega) u1))
  obtain ⟨b1, b2, b3, b4⟩ := hn
  by_cases e : (n == N) = true
  · rw [if_pos e]
    exact ⟨hp, b1, by omega, b3⟩
  · rw [if_neg e]
    have e' : n ≠ N := by simpa using e
    have l1 := b4 (by omega)
    by_cases n1 : n > 1
    · rw [if_pos n1]
      refine ⟨Pm.bd hp (by omega), Pm.bd hp (by omega), ?_⟩
      show Tri lt N _ (if lt (g p 0) (g p (n - 1)) = true then .ret (n, p) else kas_descPart n N (kas_rev p 0 n))
      by_cases e2 : lt (g p 0) (g p (n - 1)) = true
      · rw [if_pos e2]
        exact ⟨hp, b1, by omega, b3⟩
      · rw [if_neg e2]
        have e3 : lt (g p 0) (g p (n - 1)) = false := by simpa using e2
        have alike : ∀ i j, i < n → j < n → lt (g p i) (g p j) = false := fun i j hi hj =>
          O.tr (g p j) (g p 0) (g p i) (O.tr _ _ _ (b3 j (n - 1) (by omega) (by omega)) e3) (b3 0 i (Nat.zero_le _) hi)
        have hs := hp.size
        refine t_descPart O (hp.rev 0 n) (by omega) (dn_succ O (by omega) (fun i j hij hj => ?_) ?_)
        · rw [g_rev (by omega), g_rev (by omega), if_pos ⟨Nat.zero_le _, by omega⟩, if_pos ⟨Nat.zero_le _, hj⟩]
          exact alike _ _ (by omega) (by omega)
        · rw [g_rev (by omega), g_rev (by omega), if_pos ⟨Nat.zero_le _, by omega⟩, if_neg (by omega)]
          exact O.tr _ _ _ (O.asym _ _ l1) (alike _ _ (by omega) (by omega))
    · rw [if_neg n1]
      have en : n = 1 := by omega
      subst en
      refine t_descPart O hp (by omega) (dn_succ O (Nat.le_refl _) (fun i j hij hj => ?_) (O.asym _ _ l1))
      have : i = 0 := by omega
      have : j = 0 := by omega
      subst_vars
      exact O.refl _
theorem t_place (O : Ord lt) {p : Array Nat} {k : Nat} (hp : Pm N p) (hk : k < N) (h : Up lt p k) : ∀ (f l r : Nat), l ≤ r → r ≤ k → r - l ≤ f → (∀ i, i < l → lt (g p k) (g p i) = false) → (∀ i, r ≤ i → i < k → lt (g p k) (g p i) = true) →
    Tri lt N (fun m => m ≤ k ∧ (∀ i, i < m → lt (g p k) (g p i) = false) ∧ ∀ i, m ≤ i → i < k → lt (g p k) (g p i) = true) (kas_place p k f l r)
  | 0, l, r, h1, h2, h3, a, b => by
    have : l = r := by omega
    subst this
    exact ⟨h2, a, b⟩
  | f + 1, l, r, h1, h2, h3, a, b => by
    show Tri lt N _ (if l ≥ r then .ret l else .ask (p.getD k 0) (p.getD ((l + r) / 2) 0) fun c => if c = true then kas_place p k f l ((l + r) / 2) else kas_place p k f ((l + r) / 2 + 1) r)
    by_cases e : l ≥ r
    · rw [if_pos e]
      have : l = r := by omega
      subst this
      exact ⟨h2, a, b⟩
    · rw [if_neg e]
      refine ⟨Pm.bd hp hk, Pm.bd hp (by omega), ?_⟩
      show Tri lt N _ (if lt (g p k) (g p ((l + r) / 2)) = true then kas_place p k f l ((l + r) / 2) else kas_place p k f ((l + r) / 2 + 1) r)
      by_cases c : lt (g p k) (g p ((l + r) / 2)) = true
      · rw [if_pos c]
        refine t_place O hp hk h f l ((l + r) / 2) (by omega) (by omega) (by omega) a fun i i1 i2 => ?_
        by_cases q : r ≤ i
        · exact b i q i2
        · exact O.up c (h _ _ i1 i2)
      · rw [if_neg c]
        have c' : lt (g p k) (g p ((l + r) / 2)) = false := by simpa using c
        refine t_place O hp hk h f ((l + r) / 2 + 1) r (by omega) h2 (by omega) (fun i i1 => ?_) b
        exact O.tr _ _ _ (h i ((l + r) / 2) (by omega) (by omega)) c'
theorem t_bin (O : Ord lt) : ∀ (f : Nat) (p : Array Nat) (k : Nat), Pm N p → k + f ≤ N → Up lt p k → Tri lt N (fun q => Pm N q ∧ Up lt q (k + f)) (kas_bin f p k)
  | 0, p, k, hp, _, h => ⟨hp, h⟩
  | f + 1, p, k, hp, hk, h => by
    have hs := hp.size
    show Tri lt N _ ((kas_place p k k 0 k).bind fun l => kas_bin f (bubble p k (k - l)) (k + 1))
    refine tri_bind (tri_mono (fun l hl => ?_) (t_place O hp (by omega) h k 0 k (Nat.zero_le _) (Nat.le_refl _) (by omega) (fun i hi => absurd hi (by omega)) fun i h1 h2 => absurd h1 (by omega)))
    obtain ⟨l1, l2, l3⟩ := hl
    have el : k - (k - l) = l := by omega
    have hb : ∀ i, g (bubble p k (k - l)) i = if i = l then g p k else if l < i ∧ i ≤ k then g p (i - 1) else g p i := fun i => by
      rw [g_bub (by omega) (by omega), el]
    have u : Up lt (bubble p k (k - l)) (k + 1) := by
      intro i j hij hj
      rw [hb, hb]
      by_cases jl : j = l
      · rw [if_pos jl]
        by_cases il : i = l
        · rw [if_pos il]
          exact O.refl _
        · rw [if_neg il, if_neg (by omega)]
          exact l2 i (by omega)
      · rw [if_neg jl]
        by_cases j2 : l < j ∧ j ≤ k
        · rw [if_pos j2]
          by_cases il : i = l
          · rw [if_pos il]
            exact O.asym _ _ (l3 (j - 1) (by omega) (by omega))
          · rw [if_neg il]
            by_cases i2 : l < i ∧ i ≤ k
            · rw [if_pos i2]
              exact h _ _ (by omega) (by omega)
            · rw [if_neg i2]
              exact h _ _ (by omega) (by omega)
        · rw [if_neg j2, if_neg (by omega), if_neg (by omega)]
          exact h _ _ hij (by omega)
    refine tri_mono (fun q hq => ?_) (t_bin O f _ (k + 1) (hp.of (bubble_perm _ _ _)) (by omega) u)
    rw [show k + (f + 1) = k + 1 + f by omega]
    exact hq
theorem t_sort (O : Ord lt) (hN : 1 ≤ N) : Tri lt N (fun p => Pm N p ∧ Up lt p N) (kas_sort N) := by
  unfold kas_sort
  have h0 : Pm N (List.toArray (List.range N)) := by
    unfold Pm
    simp
  refine tri_bind (tri_mono (fun r hr => ?_) (t_count O h0 hN))
  obtain ⟨a1, a2, a3, a4⟩ := hr
  by_cases e : r.1 < N
  · rw [if_pos e]
    have em : max r.1 1 = r.1 := by omega
    rw [em]
    have := t_bin O (N - r.1) r.2 r.1 a1 (by omega) a4
    rw [show r.1 + (N - r.1) = N by omega] at this
    exact this
  · rw [if_neg e]
    have : r.1 = N := by omega
    rw [this] at a4
    exact ⟨a1, a4⟩
end Srt
set_option Elab.async false
set_option linter.all false
set_option maxRecDepth 100000
namespace L2
open PySem
section
variable {M : Model} {prog : Program} {w : World} {A : Around} {E : Value → Shared → Prop} {h : Heap} {g : Array GenState} {d : Drawn} {t : Nat} {os : OsState}
variable {nm q : Str} {C N : Addr} {bs bm bmB : List Value} {hdct : Bool} {sn : List Str} {sub : List Value} {ab : Bool} {col : Option Bool} {dd : Option Addr} {k0 k1 k2 k3 k5 : Option Value} {B newId initId : String}
structure Line (B : String) (bm : List Value) : Prop where
  own : bm.contains (.type B) = true
  top : bm.contains (.type "BaseException") = true
  attr : bm.contains (.type "AttributeError") = false
  name : bm.contains (.type "NameError") = false
theorem Line.cons {C : Addr} (l : Line B bm) : Line B (.ref C :: bm) :=
  ⟨by rw [List.contains_cons, l.own, Bool.or_true], by rw [List.contains_cons, l.top, Bool.or_true], by rw [List.contains_cons, l.attr]; rfl, by rw [List.contains_cons, l.name]; rfl⟩

end
end L2
set_option Elab.async false
set_option linter.all false
set_option maxRecDepth 100000
set_option maxHeartbeats 1000000
namespace L2
section
open PySem
variable {prog : Program} {w : World} {A : Around} {E : Value → Shared → Prop} {h : Heap} {g : Array GenState} {d : Drawn} {t : Nat} {os : OsState}
variable {nm q : Str} {C N : Addr} {bs bm bmB : List Value} {hdct : Bool} {sn : List Str} {sub : List Value} {ab : Bool} {col : Option Bool} {dd : Option Addr} {k0 k1 k2 k3 k5 : Option Value} {B newId nid initId : String}
end
open PySem PySem.Spec PyProof.Rows
section
variable {X : Cx} {CX : CXT} {k : Nat} {f C : Addr} {fd : FuncData} {ps : List Str} {sp : Sp} {E : XK} {x : Str} {p pos apos : Pos} {e : Expr} {es : List Expr} {t : TA}
end
end L2
set_option Elab.async false
set_option linter.all false
set_option maxRecDepth 100000
set_option maxHeartbeats 1000000
namespace L2
open PySem PySem.Spec PyProof.Rows
section
variable {X : Cx} {C fI : Addr} {E : XK} {pos : Pos} {ce : Expr} {te : TE}
end
end L2
set_option Elab.async false
set_option linter.all false
set_option maxRecDepth 100000
set_option maxHeartbeats 1000000
namespace L2
section
open PySem PySem.W Builtin Builtin.ObjectAttr Builtin.Getset_descriptor
variable {prog : Program} {w : World} {A : Around} {E : Value → Shared → Prop} {h : Heap} {g : Array GenState} {d : Drawn} {t : Nat} {os : OsState} {a C : Addr} {o : Obj} {K : Frag}
structure XIs (K : Frag) (C : Addr) : Prop where
  cls : (clsIn K C).isSome = true
  ga : findIn K (.ref C) "__getattribute__" = some (some (.builtin "BaseException.__getattribute__"))
  hook : findIn K (.ref C) "__getattr__" = some none
  cl : findIn K (.ref C) "__class__" = some (some (.builtin "object.__class__"))
  mo : mroIn K C (.type "object") = some true
  mb : mroIn K C (.type "BaseException") = some true
theorem look_name {M : Model} {n : Str} {r : Option Value} {Q : Option Value → Shared → Prop} (X : K.In h) (e : findIn K (.ref C) n = some r) (z : Q r ⟨h, g, d, t, os⟩) : wpAny M A (typeLookup (.ref C) n) Q E ⟨h, g, d, t, os⟩ :=
  (looks_findIn (M := M) X e).at z
theorem look_mro {M : Model} {b : Value} {r : Bool} {Q : Bool → Shared → Prop} (X : K.In h) (e : mroIn K C b = some r) (z : Q r ⟨h, g, d, t, os⟩) : wpAny M A (isSubtype (.ref C) b) Q E ⟨h, g, d, t, os⟩ :=
  (looks_mroIn (M := M) X e).at z
theorem exc_class_get {R : Result → Shared → Prop} {tp : Value} (Z : XIs K C) (X : K.In h) (hx : h.get? a = some o) (hc : o.cls = .ref C) (z : R (.ok (.ret (.ref C))) ⟨h, g, d, t, os⟩) :
    codeAny (model prog w) A (.call (.builtin "getset_descriptor.__get__") ⟨[.builtin "object.__class__", .ref a, tp], []⟩) R ⟨h, g, d, t, os⟩ := by
  have L0 : Looks (model prog w) h (typeOf (.ref a)) (.ref C) := by
    have := ((Looks.ld (M := model prog w) (part := some headPart) hx).andThen (f := fun o => pure o.cls) .now)
    rw [hc] at this
    exact this
  have L1 := looks_mroIn (M := model prog w) X Z.mo
  refine codeAny_call_builtin KF.slot_gs.plain KF.entry_gs (KF.slot_gs.check _ _ _ _ _ _ _ _ KF.type_class (KF.args_gs _ _ _) ?_)
  unfold Builtin.«getset_descriptor.__get__» descrGet
  rw [dga_obj]
  refine wpAny_bind (wpAny_pure ?_)
  unfold descrGetter descrCheckInstance descrNameAndClass isInstance
  simp only [KF.owner_class]
  repeat lk
  refine ⟨Code.quiet_builtin _ (by decide +kernel), codeAny_builtin KF.entry_class ?_⟩
  unfold Builtin.«object.__class__» shownTypeOf
  repeat lk
  exact z
theorem may_ga {M : Model} {nv : Value} {Q : Unit → Shared → Prop} (Z : XIs K C) (X : K.In h) (hx : h.get? a = some o) (hc : o.cls = .ref C) (z : Q () ⟨h, g, d, t, os⟩) :
    wpAny M A (checkBuiltinCall "BaseException.__getattribute__" ⟨[.ref a, nv], []⟩) Q E ⟨h, g, d, t, os⟩ := by
  have hk : builtinKind "BaseException.__getattribute__" = some .slot := by decide +kernel
  have hs : splitId "BaseException.__getattribute__" = some ("BaseException", "__getattribute__") := by decide +kernel
  have ha := PySem.F.args_bexc_ga (.ref a) nv
  simp only [checkBuiltinCall, hk, hs]
  refine wpAny_bind ?_
  unfold isInstance
  repeat
    first
    | (with_reducible refine wpAny_loadPart_at hx ?_; rw [hc])
    | with_reducible refine look_mro X Z.mb ?_
    | wp_step
  exact z
theorem exc_class {Q : Option Value → Shared → Prop} (Z : XIs K C) (X : K.In h) (hx : h.get? a = some o) (hc : o.cls = .ref C) (z : Q (some (.ref C)) ⟨h, g, d, t + 1, os⟩) :
    wpAny (model prog w) A (getAttr? (.ref a) "__class__") Q E ⟨h, g, d, t, os⟩ := by
  have f3 := PySem.F.excAttr_ValueError.ga.bind (.ref a)
  have b2 : (Value.builtin "BaseException.__getattribute__" == Value.builtin "object.__getattribute__") = false := by decide +kernel
  have b1 : (onTheHeap (Value.ref C) && Value.builtin "BaseException.__getattribute__" == Value.builtin "object.__getattribute__") = false := by rw [b2]; rfl
  have f5 := PySem.F.typeOf_object_class
  have f6 := PySem.F.slot_gs_get.lookup
  have f7 := PySem.F.slot_gs_set.lookup
  have hT5 : (⟨h, g, d, t + 1, os⟩ : Shared).TypeIs (.builtin "object.__class__") "getset_descriptor" := PySem.F.typeOf_object_class
  unfold getAttr? getAttrBy?
  refine wpAny_bind (wpAny_mkText (wpAny_bind (wpAny_attempt ?_)))
  unfold getAttrBy
  repeat
    any_goals
      first
      | assumption
      | (with_reducible refine wpAny_loadPart_at hx ?_; rw [hc])
      | with_reducible refine look_name X Z.ga ?_
      | with_reducible refine look_name X Z.hook ?_
      | wp_step
  refine codeAny_call_builtin PySem.F.excAttr_ValueError.ga.plain PySem.F.entry_bexc_ga (may_ga Z X hx hc ?_)
  repeat
    any_goals
      first
      | assumption
      | (with_reducible refine wpAny_loadPart_at hx ?_; rw [hc])
      | with_reducible refine look_name X Z.cl ?_
      | wp_step
  refine exc_class_get Z X hx hc ?_
  repeat
    any_goals
      first
      | assumption
      | wp_step
end
end L2
set_option Elab.async false
set_option linter.all false
set_option maxRecDepth 100000
set_option maxHeartbeats 1000000
namespace L2
open PySem PySem.Spec PyProof.Rows
def Cau (C a : Addr) : HO := .ext fun h => ∃ o, h.get? a = some o ∧ o.cls = .ref C
theorem kitx_exc {K : PySem.W.Frag} {C a : Addr} (Z : XIs K C) : PySem.W.KitX K (.ref a) (.ref C) (fun h => ∃ o, h.get? a = some o ∧ o.cls = .ref C) where
  ty := fun M h _ ⟨o, e, c⟩ => by
    have := ((PySem.W.Looks.ld (M := M) (part := some headPart) e).andThen (f := fun o => pure o.cls) .now)
    rw [c] at this
    exact this
  it := fun M h X _ => by
    have hc := Z.cls
    unfold PySem.W.clsIn at hc
    split at hc
    · rename_i ho
      intro A' Q' E' s' k q
      unfold isType loadHead
      exact wpAny_bind (wpAny_loadPart (k _ _ (X _ _ ho)) (wpAny_pure q))
    · cases hc
  ne := fun h tp dd its n sl X htp => by
    have hc := Z.cls
    refine Bool.eq_false_iff.mpr fun q => ?_
    have e : C = tp := Value.ref.inj (beq_iff_eq.mp q)
    subst e
    unfold PySem.W.clsIn at hc
    split at hc
    · rename_i ho
      cases (X _ _ ho).symm.trans htp
    · cases hc
  ca := fun {prog w A E Q s} X ⟨o, e, c⟩ k => by
    obtain ⟨h, g, d, t, os⟩ := s
    exact exc_class Z X e c k
def clsV : V → Value
  | .ty n => .type n
  | .ref a => .ref a
  | _ => .none
def isCls : V → Bool
  | .ty _ => true
  | .ref _ => true
  | _ => false
theorem clsV_of {x : V} {u : Value} (r : RelV x u) (h : isCls x = true) : u = clsV x := by
  cases x with
  | ty n => exact r
  | ref a => exact r
  | _ => cases h
theorem clsV_all : ∀ {xs : List V} {us : List Value}, Vals xs us → xs.all isCls = true → us = xs.map clsV
  | _, _, .nil, _ => rfl
  | _, _, .cons r t, h => by
    rw [List.all_cons, Bool.and_eq_true] at h
    rw [clsV_of r h.1, clsV_all t h.2, List.map_cons]
inductive TyX (K : PySem.W.Frag) (H : Hp) : V → Value → Prop where
  | of {x : V} {t : Value} (h : TyOf K H x t) : TyX K H x t
  | exc {a C : Addr} (e : H a = some (Cau C a)) (Z : XIs K C) : TyX K H (.ref a) (.ref C)
section
variable {X : Cx}
theorem TyX.kit {pins : List (Addr × Obj)} {σ : St} {H : Hp} {s : Shared} {x : V} {u t : Value} (I : Inv X pins σ H s) (rx : RelV x u) (ty : TyX X.K H x t) : ∃ Hh, PySem.W.KitX X.K u t Hh ∧ Hh s.heap ∧ u ≠ .builtin "__main__.__loader__#opaque" := by
  cases ty with
  | of ty =>
    cases ty with
    | non => cases (show u = Value.none from rx); exact ⟨_, PySem.W.kitx_none, True.intro, fun z => nomatch z⟩
    | bl y => cases (show u = Value.bool y from rx); exact ⟨_, PySem.W.kitx_bool, True.intro, fun z => nomatch z⟩
    | int i => obtain ⟨t, q⟩ := (show ∃ t, u = Value.int i t from rx); cases q; exact ⟨_, PySem.W.kitx_int, True.intro, fun z => nomatch z⟩
    | str y => obtain ⟨t, q⟩ := (show ∃ t, u = Value.str y t from rx); cases q; exact ⟨_, PySem.W.kitx_str, True.intro, fun z => nomatch z⟩
    | flt y => obtain ⟨t, q⟩ := (show ∃ t, u = Value.float y t from rx); cases q; exact ⟨_, PySem.W.kitx_float, True.intro, fun z => nomatch z⟩
    | @lst a xs ea =>
      cases (show u = Value.ref a from rx)
      obtain ⟨_, _, n, _, h1⟩ := (show ObjOk X.prog X.w H s.heap a (.lst xs) from I.hok a _ ea)
      exact ⟨_, PySem.W.kitx_list, ⟨_, h1, rfl⟩, fun z => nomatch z⟩
    | @frz a ob xs ea =>
      cases (show u = Value.ref a from rx)
      obtain ⟨_, _, _, n, _, h1⟩ := (show ObjOk X.prog X.w H s.heap a (.frz ob (.lst xs)) from I.hok a _ ea)
      exact ⟨_, PySem.W.kitx_list, ⟨_, h1, rfl⟩, fun z => nomatch z⟩
    | @tup a xs ea =>
      cases (show u = Value.ref a from rx)
      obtain ⟨_, _, _, o, h1, h2, _⟩ := (show ObjOk X.prog X.w H s.heap a (.tup xs) from I.hok a _ ea)
      exact ⟨_, PySem.W.kitx_tuple, ⟨o, h1, h2⟩, fun z => nomatch z⟩
    | @dK a kvs ea =>
      cases (show u = Value.ref a from rx)
      obtain ⟨_, _, vs, _, o, es, ep, h1, h2, _⟩ := (show ObjOk X.prog X.w H s.heap a (.dK kvs) from I.hok a _ ea)
      exact ⟨_, PySem.W.kitx_dict, ⟨o, h1, h2.1⟩, fun z => nomatch z⟩
    | @dT a kvs ea =>
      cases (show u = Value.ref a from rx)
      obtain ⟨_, _, xs, _, o, es, ep, h1, h2, _⟩ := (show ObjOk X.prog X.w H s.heap a (.dT kvs) from I.hok a _ ea)
      exact ⟨_, PySem.W.kitx_dict, ⟨o, h1, h2.1⟩, fun z => nomatch z⟩
    | @ins a C dx fs ea cl ha hn htk hm =>
      cases (show u = Value.ref a from rx)
      obtain ⟨mA, O, _⟩ := ins_get I.hok ea
      obtain ⟨od, J, _⟩ := O.look
      exact ⟨_, PySem.W.kitx_own (cl.get _) cl.hd ha hn htk hm, J, fun z => nomatch z⟩
  | @exc a C e Z =>
    cases (show u = Value.ref a from rx)
    obtain ⟨h1, _⟩ := (show ObjOk X.prog X.w H s.heap a (Cau C a) from I.hok a _ e)
    exact ⟨_, kitx_exc Z, h1, fun z => nomatch z⟩
def rIsi (K : PySem.W.Frag) : List V → Hp → VK → Prop := fun xs H Q => ∃ x c t b, xs = [x, c] ∧ TyX K H x t ∧
  ((isCls c = true ∧ PySem.W.kitOne K t (clsV c) = some b) ∨ (∃ p ys, c = .ref p ∧ H p = some (.tup ys) ∧ ys.all isCls = true ∧ PySem.W.kitAny K t (ys.map clsV) = some b)) ∧ Q (.bl b) H
theorem call_isi : CallR X (.builtin "isinstance") (rIsi X.K) := by
  intro pins s σ H xs us Q I r h
  obtain ⟨x, c, t, b, e, ty, h, q⟩ := h
  subst e
  cases r with
  | @cons _ u _ _ rx r =>
    cases r with
    | @cons _ v _ _ rc r =>
      cases r
      obtain ⟨Hh, Z, hp, hne⟩ := ty.kit I rx
      rcases h with ⟨hc, hk⟩ | ⟨p, ys, e, hH, hall, hk⟩
      · cases clsV_of rc hc
        exact PySem.W.kia_one Z I.kIn hp hk hne fun tk => ⟨.bl b, H, I.tok tk, rfl, q⟩
      · subst e
        cases (show v = Value.ref p from rc)
        obtain ⟨_, its, rv, ⟨oc, od, oda, osl⟩, h1, h2, n, h3⟩ := (show ObjOk X.prog X.w H s.heap p (.tup ys) from I.hok p _ hH)
        dsimp only at h2 h3
        subst h2 h3
        cases clsV_all rv hall
        exact PySem.W.kia_tup Z I.kIn hp h1 hk hne fun tk => ⟨.bl b, H, I.tok tk, rfl, q⟩
end
end L2
set_option Elab.async false
set_option linter.all false
set_option maxRecDepth 100000
set_option maxHeartbeats 1000000
namespace L2
open PySem PySem.Spec PyProof.Rows
abbrev TSX := Ends → XK → St → Hp → Prop
section
variable {X : Cx} {CX : CXT} {k : Nat} {f : Addr} {fd : FuncData} {ps : List Str} {sp : Sp} {x : Str} {p pos epos : Pos} {e : Expr} {es : List Expr} {t : TA}
end
section
variable {X : Cx} {pins : List (Addr × Obj)} {σ : St} {H : Hp} {s : Shared} {a : Addr}
end
section
variable {X : Cx} {body suite : List Stmt} {b0 : Stmt} {tb : TSX} {ts : TS} {i : Nat} {n cx : Str} {np hpos pos : Pos} {W : Addr}
end
end L2
set_option Elab.async false
set_option linter.all false
set_option maxRecDepth 100000
set_option maxHeartbeats 1000000
namespace L2
open PySem PySem.Spec PyProof.Rows
section
variable {X : Cx}
def Big (i : Int) : Prop := i.natAbs < 2 ^ 8000
theorem op_mulB : OpR X (binaryOp .Mult) (rI (fun i j => Big i ∧ Big j) fun i j => .int (i * j)) := opI fun _ _ _ _ _ _ _ hc q =>
  PyProof.Rows.mul_int q (IntMulOk.of_le (m := 8000) (n := 8000) (intBits_le_iff.mpr hc.1) (intBits_le_iff.mpr hc.2) (by decide))
theorem big_py {i j : Int} (h : Big j) : Builtin.divisionGoesByPylong i j = false := by
  refine PyProof.noPylong_of_log2 ?_
  by_cases z : j.natAbs = 0
  · rw [z]; decide
  · exact Nat.lt_trans ((Nat.log2_lt z).mpr h) (by decide)
theorem op_fdivB : OpR X (binaryOp .FloorDiv) (rI (fun _ j => 0 < j ∧ Big j) fun i j => .int (i / j)) := opI fun i j _ _ _ _ _ hc q => by
  have h1 : (0 : Int) < j := hc.1
  exact floordiv_int (by omega) (by rw [Int.fdiv_eq_ediv_of_nonneg i (by omega)]; exact q) (.inl (big_py hc.2))
end
theorem boot_isinstance : bootBuiltins "isinstance" = some (.builtin "isinstance") := by decide +kernel
theorem boot_abs : bootBuiltins "abs" = some (.builtin "abs") := by decide +kernel
end L2
set_option Elab.async false
set_option linter.all false
set_option maxRecDepth 100000
set_option maxHeartbeats 1000000
namespace L2
open PySem PySem.Spec PyProof.Rows
section
variable {X : Cx}
end
section
variable {X : Cx} {CX : CXT} {k : Nat} {f : Addr} {fd : FuncData} {ps : List Str} {sp : Sp} {x : Str} {p pos rpos : Pos} {e : Expr} {es : List Expr} {t : TA}
end
section
variable {X : Cx} {body suite : List Stmt} {b0 : Stmt} {tb : TSX} {ts : TS} {cx : Str} {np hpos pos : Pos} {W : Addr}
end
theorem kit_bool_bool (K : PySem.W.Frag) : PySem.W.kitOne K (.type "bool") (.type "bool") = some true := by kernel_rfl
end L2
set_option Elab.async false
set_option linter.all false
set_option maxRecDepth 100000
set_option maxHeartbeats 1000000
namespace Tre
open PySem PySem.Spec PyProof.Rows L2
inductive Tr where
  | non
  | bl (b : Bool)
  | int (i : Int)
  | str (x : Str)
  | tup (ts : List Tr)
  | ls
mutual
def Tr.depth : Tr → Nat
  | .tup ts => Trs.depth ts + 1
  | _ => 0
def Trs.depth : List Tr → Nat
  | [] => 0
  | t :: ts => max (Tr.depth t) (Trs.depth ts)
end
mutual
def Tr.pure : Tr → Prop
  | .tup ts => Trs.pure ts
  | .ls => False
  | _ => True
def Trs.pure : List Tr → Prop
  | [] => True
  | t :: ts => Tr.pure t ∧ Trs.pure ts
end
mutual
def TrAt (H : Hp) : V → Tr → Prop
  | v, .non => v = .non
  | v, .bl b => v = .bl b
  | v, .int i => v = .int i
  | v, .str x => v = .str x
  | v, .tup ts => ∃ r vs, v = .ref r ∧ H r = some (.tup vs) ∧ TrsAt H vs ts
  | v, .ls => ∃ r xs, v = .ref r ∧ H r = some (.lst xs)
def TrsAt (H : Hp) : List V → List Tr → Prop
  | vs, [] => vs = []
  | vs, t :: ts => ∃ v r, vs = v :: r ∧ TrAt H v t ∧ TrsAt H r ts
end
structure Kd (H H' : Hp) : Prop where
  tup : ∀ a xs, H a = some (.tup xs) → H' a = some (.tup xs)
  lst : ∀ a xs, H a = some (.lst xs) → ∃ ys, H' a = some (.lst ys)
theorem Kd.refl (H : Hp) : Kd H H := ⟨fun _ _ e => e, fun _ xs e => ⟨xs, e⟩⟩
theorem Kd.trans {H H1 H2 : Hp} (a : Kd H H1) (b : Kd H1 H2) : Kd H H2 := ⟨fun x o e => b.tup x o (a.tup x o e), fun x o e => by
  obtain ⟨ys, e1⟩ := a.lst x o e
  exact b.lst x ys e1⟩
theorem Kd.of_same {H H' : Hp} (s : Same H H') : Kd H H' := ⟨fun a xs e => s a _ e, fun a xs e => ⟨xs, s a _ e⟩⟩
theorem Kd.upd {H : Hp} {p : Addr} {xs ys : List V} (h : H p = some (.lst xs)) : Kd H (upd H p (.lst ys)) := by
  refine ⟨fun a zs e => ?_, fun a zs e => ?_⟩
  · rw [upd_ne]
    · exact e
    · intro z
      rw [z, h] at e
      cases e
  · by_cases z : a = p
    · subst z
      exact ⟨ys, upd_same⟩
    · exact ⟨zs, (upd_ne z).trans e⟩
mutual
theorem TrAt.mono {H H' : Hp} (k : Kd H H') : ∀ {v : V} {t : Tr}, TrAt H v t → TrAt H' v t
  | v, .non, h => by unfold TrAt at h ⊢; exact h
  | v, .bl b, h => by unfold TrAt at h ⊢; exact h
  | v, .int i, h => by unfold TrAt at h ⊢; exact h
  | v, .str x, h => by unfold TrAt at h ⊢; exact h
  | v, .ls, h => by
    unfold TrAt at h ⊢
    obtain ⟨r, xs, e, h⟩ := h
    obtain ⟨ys, h'⟩ := k.lst r xs h
    exact ⟨r, ys, e, h'⟩
  | v, .tup ts, h => by
    unfold TrAt at h ⊢
    obtain ⟨r, vs, e, h1, h2⟩ := h
    exact ⟨r, vs, e, k.tup _ _ h1, TrsAt.mono k h2⟩
theorem TrsAt.mono {H H' : Hp} (k : Kd H H') : ∀ {vs : List V} {ts : List Tr}, TrsAt H vs ts → TrsAt H' vs ts
  | vs, [], h => by unfold TrsAt at h ⊢; exact h
  | vs, t :: ts, h => by
    unfold TrsAt at h ⊢
    obtain ⟨v, r, e, h1, h2⟩ := h
    exact ⟨v, r, e, TrAt.mono k h1, TrsAt.mono k h2⟩
end
theorem TrsAt.nil {H : Hp} : TrsAt H [] [] := by unfold TrsAt; rfl
theorem TrsAt.cons {H : Hp} {v : V} {t : Tr} {vs : List V} {ts : List Tr} (h : TrAt H v t) (r : TrsAt H vs ts) : TrsAt H (v :: vs) (t :: ts) := by
  unfold TrsAt
  exact ⟨v, vs, rfl, h, r⟩
theorem TrsAt.inv {H : Hp} {t : Tr} {vs : List V} {ts : List Tr} (h : TrsAt H vs (t :: ts)) : ∃ v r, vs = v :: r ∧ TrAt H v t ∧ TrsAt H r ts := by
  unfold TrsAt at h
  exact h
theorem TrsAt.len {H : Hp} : ∀ {vs : List V} {ts : List Tr}, TrsAt H vs ts → vs.length = ts.length
  | vs, [], h => by
    unfold TrsAt at h
    rw [h]
    rfl
  | vs, t :: ts, h => by
    obtain ⟨v, r, e, _, h2⟩ := h.inv
    rw [e, List.length_cons, List.length_cons, h2.len]
theorem TrsAt.app {H : Hp} {ws : List V} {us : List Tr} (b : TrsAt H ws us) : ∀ {vs : List V} {ts : List Tr}, TrsAt H vs ts → TrsAt H (vs ++ ws) (ts ++ us)
  | vs, [], h => by
    unfold TrsAt at h
    subst h
    exact b
  | vs, t :: ts, h => by
    obtain ⟨v, r, e, h1, h2⟩ := h.inv
    subst e
    exact .cons h1 (TrsAt.app b h2)
theorem TrsAt.get {H : Hp} : ∀ {vs : List V} {ts : List Tr} {i : Nat} {t : Tr}, TrsAt H vs ts → ts[i]? = some t → ∃ v, vs[i]? = some v ∧ TrAt H v t
  | vs, [], i, t, _, e => by simp at e
  | vs, a :: ts, 0, t, h, e => by
    obtain ⟨v, r, rfl, h1, h2⟩ := h.inv
    simp at e
    subst e
    exact ⟨v, rfl, h1⟩
  | vs, a :: ts, i + 1, t, h, e => by
    obtain ⟨v, r, rfl, h1, h2⟩ := h.inv
    obtain ⟨u, e1, e2⟩ := h2.get (i := i) (by simpa using e)
    exact ⟨u, by simpa using e1, e2⟩
theorem TrsAt.get' {H : Hp} {vs : List V} {ts : List Tr} {i : Nat} {v : V} (h : TrsAt H vs ts) (e : vs[i]? = some v) : ∃ t, ts[i]? = some t ∧ TrAt H v t := by
  have hl := h.len
  have hi : i < vs.length := (List.getElem?_eq_some_iff.mp e).1
  obtain ⟨u, e1, e2⟩ := h.get (i := i) (t := ts[i]'(by omega)) (List.getElem?_eq_getElem _)
  rw [e] at e1
  cases e1
  exact ⟨_, List.getElem?_eq_getElem _, e2⟩
mutual
theorem TrAt.det {H : Hp} : ∀ {v : V} {t u : Tr}, TrAt H v t → TrAt H v u → t = u
  | v, .non, u, h1, h2 => by
    unfold TrAt at h1
    subst h1
    cases u <;> unfold TrAt at h2 <;> first | rfl | (cases h2; done) | (obtain ⟨_, _, e, _⟩ := h2; cases e)
  | v, .bl b, u, h1, h2 => by
    unfold TrAt at h1
    subst h1
    cases u <;> unfold TrAt at h2 <;> first | (cases h2; rfl) | (cases h2; done) | (obtain ⟨_, _, e, _⟩ := h2; cases e)
  | v, .int b, u, h1, h2 => by
    unfold TrAt at h1
    subst h1
    cases u <;> unfold TrAt at h2 <;> first | (cases h2; rfl) | (cases h2; done) | (obtain ⟨_, _, e, _⟩ := h2; cases e)
  | v, .str b, u, h1, h2 => by
    unfold TrAt at h1
    subst h1
    cases u <;> unfold TrAt at h2 <;> first | (cases h2; rfl) | (cases h2; done) | (obtain ⟨_, _, e, _⟩ := h2; cases e)
  | v, .ls, u, h1, h2 => by
    unfold TrAt at h1
    obtain ⟨r, xs, rfl, h1⟩ := h1
    cases u <;> unfold TrAt at h2 <;> first | rfl | (cases h2; done) | (obtain ⟨_, _, e, h2, _⟩ := h2; cases e; rw [h1] at h2; cases h2)
  | v, .tup ts, .tup us, h1, h2 => by
    unfold TrAt at h1 h2
    obtain ⟨r, vs, rfl, h1, h3⟩ := h1
    obtain ⟨r', vs', e, h2, h4⟩ := h2
    cases e
    rw [h1] at h2
    cases h2
    rw [TrsAt.det h3 h4]
  | v, .tup ts, .non, h1, h2 => by unfold TrAt at h1 h2; obtain ⟨_, _, e, _⟩ := h1; rw [h2] at e; cases e
  | v, .tup ts, .bl _, h1, h2 => by unfold TrAt at h1 h2; obtain ⟨_, _, e, _⟩ := h1; rw [h2] at e; cases e
  | v, .tup ts, .int _, h1, h2 => by unfold TrAt at h1 h2; obtain ⟨_, _, e, _⟩ := h1; rw [h2] at e; cases e
  | v, .tup ts, .str _, h1, h2 => by unfold TrAt at h1 h2; obtain ⟨_, _, e, _⟩ := h1; rw [h2] at e; cases e
  | v, .tup ts, .ls, h1, h2 => by
    unfold TrAt at h1 h2
    obtain ⟨r, vs, rfl, h1, _⟩ := h1
    obtain ⟨r', xs, e, h2⟩ := h2
    cases e
    rw [h1] at h2
    cases h2
theorem TrsAt.det {H : Hp} : ∀ {vs : List V} {ts us : List Tr}, TrsAt H vs ts → TrsAt H vs us → ts = us
  | vs, [], [], _, _ => rfl
  | vs, [], u :: us, h1, h2 => by
    have a := h1.len
    have b := h2.len
    rw [a] at b
    simp at b
  | vs, t :: ts, [], h1, h2 => by
    have a := h1.len
    have b := h2.len
    rw [a] at b
    simp at b
  | vs, t :: ts, u :: us, h1, h2 => by
    obtain ⟨v, r, rfl, h3, h4⟩ := h1.inv
    obtain ⟨v', r', e, h5, h6⟩ := h2.inv
    cases e
    rw [TrAt.det h3 h5, TrsAt.det h4 h6]
end
mutual
def eqT : Tr → Tr → Bool
  | .non, .non => true
  | .bl a, .bl b => a == b
  | .bl a, .int i => (if a then 1 else 0) == i
  | .int i, .bl b => i == (if b then 1 else 0)
  | .int i, .int j => i == j
  | .str x, .str y => x == y
  | .tup ts, .tup us => eqTs ts us
  | .ls, .ls => true
  | _, _ => false
def eqTs : List Tr → List Tr → Bool
  | [], [] => true
  | t :: ts, u :: us => eqT t u && eqTs ts us
  | _, _ => false
end
mutual
theorem eqT_refl : ∀ t : Tr, eqT t t = true
  | .non => by simp [eqT]
  | .bl _ => by simp [eqT]
  | .int _ => by simp [eqT]
  | .str _ => by simp [eqT]
  | .ls => by simp [eqT]
  | .tup ts => by simp only [eqT]; exact eqTs_refl ts
theorem eqTs_refl : ∀ ts : List Tr, eqTs ts ts = true
  | [] => by simp [eqTs]
  | t :: ts => by simp [eqTs, eqT_refl t, eqTs_refl ts]
end
def eqJ (ts us : List Tr) (j : Nat) : Bool := match ts[j]?, us[j]? with
  | some t, some u => eqT t u
  | _, _ => true
theorem eqJ_at {ts us : List Tr} {j : Nat} {t u : Tr} (h1 : ts[j]? = some t) (h2 : us[j]? = some u) : eqJ ts us j = eqT t u := by
  unfold eqJ
  rw [h1, h2]
theorem eqTs_all : ∀ (ts us : List Tr), eqTs ts us = ((List.range (min ts.length us.length)).all (eqJ ts us) && ts.length == us.length)
  | [], [] => by simp [eqTs]
  | [], u :: us => by simp [eqTs]
  | t :: ts, [] => by simp [eqTs]
  | t :: ts, u :: us => by
    simp only [eqTs, List.length_cons]
    rw [eqTs_all ts us, show min (ts.length + 1) (us.length + 1) = min ts.length us.length + 1 by omega, List.range_succ_eq_map, List.all_cons, List.all_map]
    have e : (eqJ (t :: ts) (u :: us)) ∘ Nat.succ = eqJ ts us := by
      funext j
      simp [eqJ]
    rw [e]
    simp [eqJ, Bool.and_assoc]
end Tre
set_option Elab.async false
set_option linter.all false
set_option maxRecDepth 100000
set_option maxHeartbeats 1000000
namespace Tre
open PySem PySem.Spec PyProof.Rows L2
section
variable {X : Cx} {pins : List (Addr × Obj)} {σ : L2.St} {H : Hp} {s : Shared} {A : Around}
theorem tups_eqAt {a b : Addr} {xs ys : List V} (I : Inv X pins σ H s) (ha : H a = some (.tup xs)) (hb : H b = some (.tup ys)) (hu : A.units < cLine) (e : Nat → Bool) (hne : a ≠ b)
    (he : ∀ j x y u v, xs[j]? = some x → ys[j]? = some y → RelV x u → RelV y v → SeqAt.EqAt A.in1 s u v (e j)) :
    SeqAt.EqAt A s (.ref a) (.ref b) ((List.range (min xs.length ys.length)).all e && xs.length == ys.length) := by
  obtain ⟨us, r1, p1, _⟩ := I.tuple (SqT.of ha)
  obtain ⟨ws, r2, p2, _⟩ := I.tuple (SqT.of hb)
  have l1 := r1.length
  have l2 := r2.length
  have := SeqAt.RcAt.tuples (A := A) (e := e) (show s.heap.IsTuple a us.toArray from p1) (show s.heap.IsTuple b ws.toArray from p2) hu fun j h1 h2 => by
    have h1' : j < us.length := by simpa using h1
    have h2' : j < ws.length := by simpa using h2
    obtain ⟨u, e1, q1⟩ := r1.get (i := j) (x := xs[j]'(by omega)) (List.getElem?_eq_getElem _)
    obtain ⟨v, e2, q2⟩ := r2.get (i := j) (x := ys[j]'(by omega)) (List.getElem?_eq_getElem _)
    have z1 : us.toArray[j] = u := by rw [List.getElem_toArray]; rw [List.getElem?_eq_getElem h1'] at e1; exact Option.some.inj e1
    have z2 : ws.toArray[j] = v := by rw [List.getElem_toArray]; rw [List.getElem?_eq_getElem h2'] at e2; exact Option.some.inj e2
    rw [z1, z2]
    exact he j _ _ u v (List.getElem?_eq_getElem _) (List.getElem?_eq_getElem _) q1 q2
  rw [List.size_toArray, List.size_toArray, ← l1, ← l2] at this
  exact SeqAt.EqAt.of_refs hne this
theorem depth_memT : ∀ {ts : List Tr} {t : Tr}, t ∈ ts → t.depth ≤ Trs.depth ts
  | a :: ts, t, h => by
    unfold Trs.depth
    rcases List.mem_cons.mp h with rfl | h
    · omega
    · have := depth_memT h
      omega
theorem pure_mem : ∀ {ts : List Tr} {t : Tr}, Trs.pure ts → t ∈ ts → t.pure
  | a :: ts, t, p, h => by
    unfold Trs.pure at p
    rcases List.mem_cons.mp h with rfl | h
    · exact p.1
    · exact pure_mem p.2 h
theorem tr_tupAt {r : Addr} {vs : List V} (I : Inv X pins σ H s) (h : H r = some (.tup vs)) : ∃ its : Array Value, s.heap.IsTuple r its := by
  obtain ⟨us, _, p, _⟩ := I.tuple (SqT.of h)
  exact ⟨_, p⟩
theorem tr_lstAt {r : Addr} {vs : List V} (I : Inv X pins σ H s) (h : H r = some (.lst vs)) : ∃ its : Array Value, s.heap.IsList r its := by
  obtain ⟨us, _, p, _⟩ := I.list (SqL.of h)
  exact ⟨_, p.isList⟩
theorem sc_eqAt (I : Inv X pins σ H s) {A : Around} {t u : Tr} {v w : V} {a b : Value} (hd : ∀ ts, t ≠ .tup ts) (hp : t.pure ∨ u.pure) (h1 : TrAt H v t) (h2 : TrAt H w u) (r1 : RelV v a) (r2 : RelV w b) (hu0 : A.units < cLine) : SeqAt.EqAt A s a b (eqT t u) := by
  cases t with
  | tup ts => exact (hd ts rfl).elim
  | non =>
    unfold TrAt at h1
    subst h1
    cases (show a = Value.none from r1)
    cases u with
    | non => unfold TrAt at h2; subst h2; cases (show b = Value.none from r2); simp only [eqT]; exact SeqAt.EqAt.same _
    | bl c => unfold TrAt at h2; subst h2; cases (show b = Value.bool c from r2); simp only [eqT]; exact SeqAt.EqAt.none_bool c
    | int c => unfold TrAt at h2; subst h2; obtain ⟨t', rfl⟩ := r2; simp only [eqT]; exact SeqAt.EqAt.none_int c t'
    | str c => unfold TrAt at h2; subst h2; obtain ⟨t', rfl⟩ := r2; simp only [eqT]; exact SeqAt.EqAt.none_str c t'
    | tup us => unfold TrAt at h2; obtain ⟨r, vs, rfl, g1, _⟩ := h2; cases r2; obtain ⟨its, p⟩ := tr_tupAt I g1; simp only [eqT]; exact SeqAt.EqAt.none_tuple p hu0
    | ls => unfold TrAt at h2; obtain ⟨r, vs, rfl, g1⟩ := h2; cases r2; obtain ⟨its, p⟩ := tr_lstAt I g1; simp only [eqT]; exact SeqAt.EqAt.none_list p hu0
  | bl d =>
    unfold TrAt at h1
    subst h1
    cases (show a = Value.bool d from r1)
    cases u with
    | non => unfold TrAt at h2; subst h2; cases (show b = Value.none from r2); simp only [eqT]; exact SeqAt.EqAt.bool_none d
    | bl c => unfold TrAt at h2; subst h2; cases (show b = Value.bool c from r2); simp only [eqT]; exact SeqAt.EqAt.bool_bool d c
    | int c => unfold TrAt at h2; subst h2; obtain ⟨t', rfl⟩ := r2; simp only [eqT]; exact SeqAt.EqAt.bool_int d c t'
    | str c => unfold TrAt at h2; subst h2; obtain ⟨t', rfl⟩ := r2; simp only [eqT]; exact SeqAt.EqAt.bool_str d c t'
    | tup us => unfold TrAt at h2; obtain ⟨r, vs, rfl, g1, _⟩ := h2; cases r2; obtain ⟨its, p⟩ := tr_tupAt I g1; simp only [eqT]; exact SeqAt.EqAt.bool_tuple d p hu0
    | ls => unfold TrAt at h2; obtain ⟨r, vs, rfl, g1⟩ := h2; cases r2; obtain ⟨its, p⟩ := tr_lstAt I g1; simp only [eqT]; exact SeqAt.EqAt.bool_list d p hu0
  | int d =>
    unfold TrAt at h1
    subst h1
    obtain ⟨t0, rfl⟩ := r1
    cases u with
    | non => unfold TrAt at h2; subst h2; cases (show b = Value.none from r2); simp only [eqT]; exact SeqAt.EqAt.int_none d t0
    | bl c => unfold TrAt at h2; subst h2; cases (show b = Value.bool c from r2); simp only [eqT]; exact SeqAt.EqAt.int_bool d t0 c
    | int c => unfold TrAt at h2; subst h2; obtain ⟨t', rfl⟩ := r2; simp only [eqT]; exact SeqAt.EqAt.int_int d t0 c t'
    | str c => unfold TrAt at h2; subst h2; obtain ⟨t', rfl⟩ := r2; simp only [eqT]; exact SeqAt.EqAt.int_str d t0 c t'
    | tup us => unfold TrAt at h2; obtain ⟨r, vs, rfl, g1, _⟩ := h2; cases r2; obtain ⟨its, p⟩ := tr_tupAt I g1; simp only [eqT]; exact SeqAt.EqAt.int_tuple d t0 p hu0
    | ls => unfold TrAt at h2; obtain ⟨r, vs, rfl, g1⟩ := h2; cases r2; obtain ⟨its, p⟩ := tr_lstAt I g1; simp only [eqT]; exact SeqAt.EqAt.int_list d t0 p hu0
  | str d =>
    unfold TrAt at h1
    subst h1
    obtain ⟨t0, rfl⟩ := r1
    cases u with
    | non => unfold TrAt at h2; subst h2; cases (show b = Value.none from r2); simp only [eqT]; exact SeqAt.EqAt.str_none d t0
    | bl c => unfold TrAt at h2; subst h2; cases (show b = Value.bool c from r2); simp only [eqT]; exact SeqAt.EqAt.str_bool d t0 c
    | int c => unfold TrAt at h2; subst h2; obtain ⟨t', rfl⟩ := r2; simp only [eqT]; exact SeqAt.EqAt.str_int d t0 c t'
    | str c => unfold TrAt at h2; subst h2; obtain ⟨t', rfl⟩ := r2; simp only [eqT]; exact SeqAt.EqAt.str_str d t0 c t'
    | tup us => unfold TrAt at h2; obtain ⟨r, vs, rfl, g1, _⟩ := h2; cases r2; obtain ⟨its, p⟩ := tr_tupAt I g1; simp only [eqT]; exact SeqAt.EqAt.str_tuple d t0 p hu0
    | ls => unfold TrAt at h2; obtain ⟨r, vs, rfl, g1⟩ := h2; cases r2; obtain ⟨its, p⟩ := tr_lstAt I g1; simp only [eqT]; exact SeqAt.EqAt.str_list d t0 p hu0
  | ls =>
    unfold TrAt at h1
    obtain ⟨r0, vs0, rfl, g0⟩ := h1
    cases r1
    obtain ⟨its0, p0⟩ := tr_lstAt I g0
    cases u with
    | non => unfold TrAt at h2; subst h2; cases (show b = Value.none from r2); simp only [eqT]; exact SeqAt.EqAt.list_none p0 hu0
    | bl c => unfold TrAt at h2; subst h2; cases (show b = Value.bool c from r2); simp only [eqT]; exact SeqAt.EqAt.list_bool c p0 hu0
    | int c => unfold TrAt at h2; subst h2; obtain ⟨t', rfl⟩ := r2; simp only [eqT]; exact SeqAt.EqAt.list_int c t' p0 hu0
    | str c => unfold TrAt at h2; subst h2; obtain ⟨t', rfl⟩ := r2; simp only [eqT]; exact SeqAt.EqAt.list_str c t' p0 hu0
    | tup us => unfold TrAt at h2; obtain ⟨r, vs, rfl, g1, _⟩ := h2; cases r2; obtain ⟨its, p⟩ := tr_tupAt I g1; simp only [eqT]; exact SeqAt.EqAt.list_tuple p0 p hu0
    | ls => rcases hp with hp | hp <;> simp [Tr.pure] at hp
theorem tr_eqAt (I : Inv X pins σ H s) : ∀ (n : Nat) {A : Around} {t u : Tr} {v w : V} {a b : Value}, t.depth ≤ n → (t.pure ∨ u.pure) → TrAt H v t → TrAt H w u → RelV v a → RelV w b → A.units + n + 1 < cLine → SeqAt.EqAt A s a b (eqT t u) := by
  intro n
  induction n with
  | zero =>
    intro A t u v w a b hd hp h1 h2 r1 r2 hu
    refine sc_eqAt I (fun ts e => ?_) hp h1 h2 r1 r2 (by omega)
    subst e
    simp [Tr.depth] at hd
  | succ n ih =>
    intro A t u v w a b hd hp h1 h2 r1 r2 hu
    have hu0 : A.units < cLine := by omega
    cases t with
    | tup ts =>
      have h1' := h1
      have h2' := h2
      unfold TrAt at h1
      obtain ⟨r0, vs0, rfl, g0, k0⟩ := h1
      cases r1
      obtain ⟨its0, p0⟩ := tr_tupAt I g0
      unfold Tr.depth at hd
      cases u with
      | non => unfold TrAt at h2; subst h2; cases (show b = Value.none from r2); simp only [eqT]; exact SeqAt.EqAt.tuple_none p0 hu0
      | bl c => unfold TrAt at h2; subst h2; cases (show b = Value.bool c from r2); simp only [eqT]; exact SeqAt.EqAt.tuple_bool c p0 hu0
      | int c => unfold TrAt at h2; subst h2; obtain ⟨t', rfl⟩ := r2; simp only [eqT]; exact SeqAt.EqAt.tuple_int c t' p0 hu0
      | str c => unfold TrAt at h2; subst h2; obtain ⟨t', rfl⟩ := r2; simp only [eqT]; exact SeqAt.EqAt.tuple_str c t' p0 hu0
      | ls => unfold TrAt at h2; obtain ⟨r, vs, rfl, g1⟩ := h2; cases r2; obtain ⟨its, p⟩ := tr_lstAt I g1; simp only [eqT]; exact SeqAt.EqAt.tuple_list p0 p hu0
      | tup us =>
        unfold TrAt at h2
        obtain ⟨r, vs, rfl, g1, k1⟩ := h2
        cases r2
        by_cases z : r0 = r
        · subst z
          rw [← TrAt.det h1' h2', eqT_refl]
          exact SeqAt.EqAt.same _
        · have := tups_eqAt I g0 g1 hu0 (eqJ ts us) z fun j x y u' v' m1 m2 q1 q2 => by
            obtain ⟨t1, n1, a1⟩ := k0.get' m1
            obtain ⟨t2, n2, a2⟩ := k1.get' m2
            rw [eqJ_at n1 n2]
            refine ih (A := A.in1) (by have := depth_memT (List.mem_of_getElem? n1); omega) ?_ a1 a2 q1 q2 (by show A.units + 1 + n + 1 < cLine; omega)
            rcases hp with hp | hp
            · unfold Tr.pure at hp
              exact .inl (pure_mem hp (List.mem_of_getElem? n1))
            · unfold Tr.pure at hp
              exact .inr (pure_mem hp (List.mem_of_getElem? n2))
          rw [k0.len, k1.len, ← eqTs_all] at this
          simp only [eqT]
          exact this
    | _ => exact sc_eqAt I (fun ts e => by cases e) hp h1 h2 r1 r2 hu0
end
end Tre
set_option Elab.async false
set_option linter.all false
set_option maxRecDepth 100000
set_option maxHeartbeats 1000000
namespace Tre
open PySem PySem.Spec PyProof.Rows L2
open PySem.AutoSeq1 (wpAny_loadPart')
def LtAt (A : Around) (s : Shared) (y x : Value) (b : Bool) : Prop :=
  ∀ (prog : Program) (w : World) (E : Value → Shared → Prop) (Q : Value → Shared → Prop), Q (.bool b) s → wpAny (model prog w) A (richCompare .Lt y x) Q E s
def LexAt (A : Around) (s : Shared) : List Value → List Value → List (Bool × Bool) → Prop
  | v :: vs, w :: ws, (e, l) :: q => SeqAt.EqAt A s v w e ∧ (e = false → LtAt A s v w l) ∧ (e = true → LexAt A s vs ws q)
  | [], _, q => q = []
  | _, [], q => q = []
  | _, _, _ => False
def lexV (fin : Bool) : List (Bool × Bool) → Bool
  | [] => fin
  | (e, l) :: q => if e = true then lexV fin q else l
theorem tuple_lt_any (l b : Addr) (items items2 : Array Value) (n n2 : Nat) (dd dd2 : Option Addr) (sl sl2 : Array (Option Value)) (q : List (Bool × Bool)) :
    Meets (Builtin.«tuple.__lt__» ⟨[.ref l, .ref b], []⟩)
      (fun A R s => s.heap.get? l = some { cls := .type "tuple", dict := dd, data := .seq items n, slots := sl } ∧ s.heap.get? b = some { cls := .type "tuple", dict := dd2, data := .seq items2 n2, slots := sl2 } ∧
        LexAt A.in1 s items.toList items2.toList q ∧ R (.ok (.ret (.bool (lexV (decide (items.size < items2.size)) q)))) s) :=
  .of_wp fun prog w A R s h => by
    obtain ⟨hp, g, d, tk, os⟩ := s; obtain ⟨hl, hb, hx, h⟩ := h
    have f2 := AutoSeq1.sub_tuple_tuple
    wp_walk using wpAny_loadPart' hl, wpAny_loadPart' hb, wpAny_forIn_list _ (fun rest b s' => b.1 = none ∧ s' = ⟨hp, g, d, tk, os⟩ ∧ ∃ (vs ws : List Value) (q' : List (Bool × Bool)), rest = vs.zip ws ∧
      LexAt A.in1 ⟨hp, g, d, tk, os⟩ vs ws q' ∧ R (.ok (.ret (.bool (lexV (decide (items.size < items2.size)) q')))) ⟨hp, g, d, tk, os⟩) _
    case turn =>
      rintro ⟨y, x⟩ rest b s' ⟨hb', rfl, vs, ws, q', hz, hlx, hR⟩
      match vs, ws, q', hz, hlx, hR with
      | [], _, _, hz, _, _ => rw [List.zip_nil_left] at hz; cases hz
      | _ :: _, [], _, hz, _, _ => rw [List.zip_nil_right] at hz; cases hz
      | v :: vs, w' :: ws, [], _, hlx, _ => exact hlx.elim
      | v :: vs, w' :: ws, (e, lo) :: q', hz, hlx, hR =>
        rw [List.zip_cons_cons] at hz
        injection hz with hyx hrest
        injection hyx with hy hx'
        subst hy hx'
        obtain ⟨he, hlt, hlx⟩ := hlx
        refine wpAny_bind (he prog w _ _ ?_)
        cases e with
        | true =>
          wp_walk
          exact ⟨rfl, rfl, _, _, _, hrest, hlx rfl, hR⟩
        | false =>
          have hri := hlt rfl prog w
          wp_walk using hri
          exact ⟨_, rfl, hR⟩
    case fin =>
      rintro ⟨b1, b2⟩ s' ⟨hb', rfl, vs, ws, q', hz, hlx, hR⟩
      simp only at hb'
      subst hb'
      have hq : q' = [] := by
        match vs, ws, q', hz, hlx with
        | [], _, _, _, hlx => unfold LexAt at hlx; exact hlx
        | _ :: _, [], _, _, hlx => unfold LexAt at hlx; exact hlx
        | _ :: _, _ :: _, _, hz, _ => rw [List.zip_cons_cons] at hz; cases hz
      subst hq
      wp_walk
      exact ⟨_, rfl, by simpa [Builtin.Tuple.tupleCompareSizes, lexV] using hR⟩
    case h =>
      exact ⟨rfl, rfl, items.toList, items2.toList, q, rfl, hx, h⟩
theorem tuple_ltAt {A : Around} {s : Shared} {l b : Addr} {items items2 : Array Value} {q : List (Bool × Bool)} (hl : s.heap.IsTuple l items) (hb : s.heap.IsTuple b items2) (hu : A.units < cLine)
    (hx : LexAt A.in1 s items.toList items2.toList q) : LtAt A s (.ref l) (.ref b) (lexV (decide (items.size < items2.size)) q) := by
  intro prog w E Q h
  obtain ⟨⟨cls, dd, data, sl⟩, ho, hc, n, hd⟩ := id hl
  obtain ⟨⟨cls2, dd2, data2, sl2⟩, ho2, hc2, n2, hd2⟩ := id hb
  simp only at hc hd hc2 hd2
  subst hc hd hc2 hd2
  exact richCompare_meets_room (op := .Lt) ⟨_, ho, rfl⟩ ⟨_, ho2, rfl⟩ PySem.F.slot_tuple_lt PySem.F.entry_tuple_lt (PySem.F.args_tuple_lt_2 _ _) (tuple_lt_any l b items items2 n n2 dd dd2 sl sl2 q)
    ⟨ho, ho2, hx, show Value.bool (lexV (decide (items.size < items2.size)) q) ≠ Value.notImplemented ∧ Q (.bool (lexV (decide (items.size < items2.size)) q)) s from ⟨(fun x => nomatch x), h⟩⟩ hu
end Tre
set_option Elab.async false
set_option linter.all false
set_option maxRecDepth 100000
set_option maxHeartbeats 1000000
namespace Tre
open PySem L2
inductive Co where
  | non
  | num (i : Int)
  | str (l : List Nat)
  | tup (cs : List Co)
  | ls
def Co.kind : Co → Nat
  | .non => 0
  | .num _ => 1
  | .str _ => 2
  | .tup _ => 3
  | .ls => 4
mutual
def code : Tr → Co
  | .non => .non
  | .bl b => .num (if b then 1 else 0)
  | .int i => .num i
  | .str x => .str x.cps.toList
  | .tup ts => .tup (codes ts)
  | .ls => .ls
def codes : List Tr → List Co
  | [] => []
  | t :: ts => code t :: codes ts
end
theorem str_beq (x y : Str) : ((x == y) = true) ↔ x.cps.toList = y.cps.toList := by
  rw [beq_iff_eq]
  constructor
  · rintro rfl
    rfl
  · intro h
    cases x
    cases y
    simp only [Str.mk.injEq]
    exact Array.toList_inj.mp h
mutual
theorem eqT_code : ∀ (t u : Tr), (eqT t u = true) ↔ code t = code u
  | .non, u => by cases u <;> simp [eqT, code]
  | .bl a, u => by cases u <;> simp [eqT, code]; cases a <;> rename_i b <;> cases b <;> simp
  | .int i, u => by cases u <;> simp [eqT, code]
  | .str x, .str y => by simp only [eqT, code, Co.str.injEq]; exact str_beq x y
  | .str x, .non => by simp [eqT, code]
  | .str x, .bl _ => by simp [eqT, code]
  | .str x, .int _ => by simp [eqT, code]
  | .str x, .tup _ => by simp [eqT, code]
  | .str x, .ls => by simp [eqT, code]
  | .ls, u => by cases u <;> simp [eqT, code]
  | .tup ts, .tup us => by simp only [eqT, code, Co.tup.injEq]; exact eqTs_code ts us
  | .tup ts, .non => by simp [eqT, code]
  | .tup ts, .bl _ => by simp [eqT, code]
  | .tup ts, .int _ => by simp [eqT, code]
  | .tup ts, .str _ => by simp [eqT, code]
  | .tup ts, .ls => by simp [eqT, code]
theorem eqTs_code : ∀ (ts us : List Tr), (eqTs ts us = true) ↔ codes ts = codes us
  | [], [] => by simp [eqTs, codes]
  | [], u :: us => by simp [eqTs, codes]
  | t :: ts, [] => by simp [eqTs, codes]
  | t :: ts, u :: us => by
    simp only [eqTs, codes, Bool.and_eq_true, List.cons.injEq]
    rw [eqT_code t u, eqTs_code ts us]
end
mutual
def LtC : Co → Co → Prop
  | .num i, .num j => i < j
  | .str l, .str m => l < m
  | .tup cs, .tup ds => LtCs cs ds
  | c, d => c.kind < d.kind
def LtCs : List Co → List Co → Prop
  | [], [] => False
  | [], _ :: _ => True
  | _ :: _, [] => False
  | c :: cs, d :: ds => LtC c d ∨ (c = d ∧ LtCs cs ds)
end
theorem ltC_kind {c d : Co} (h : LtC c d) : c.kind ≤ d.kind := by
  cases c <;> cases d <;> simp [LtC, Co.kind] at h ⊢
theorem ltC_of_kind {c d : Co} (h : c.kind < d.kind) : LtC c d := by
  cases c <;> cases d <;> simp [LtC, Co.kind] at h ⊢
mutual
theorem ltC_irr : ∀ c : Co, ¬ LtC c c
  | .non => by simp [LtC, Co.kind]
  | .num _ => by simp [LtC]
  | .str l => by simp only [LtC]; exact List.lt_irrefl l
  | .tup cs => by simp only [LtC]; exact ltCs_irr cs
  | .ls => by simp [LtC, Co.kind]
theorem ltCs_irr : ∀ cs : List Co, ¬ LtCs cs cs
  | [] => by simp [LtCs]
  | c :: cs => by
    simp only [LtCs, not_or]
    exact ⟨ltC_irr c, fun h => ltCs_irr cs h.2⟩
end
mutual
theorem ltC_tri : ∀ c d : Co, LtC c d ∨ c = d ∨ LtC d c
  | .num i, .num j => by simp only [LtC, Co.num.injEq]; omega
  | .str l, .str m => by
    simp only [LtC, Co.str.injEq]
    by_cases h1 : l < m
    · exact .inl h1
    · by_cases h2 : m < l
      · exact .inr (.inr h2)
      · exact .inr (.inl (List.le_antisymm (List.not_lt.mp h2) (List.not_lt.mp h1)))
  | .tup cs, .tup ds => by simp only [LtC, Co.tup.injEq]; exact ltCs_tri cs ds
  | .non, d => by cases d <;> simp [LtC, Co.kind]
  | .ls, d => by cases d <;> simp [LtC, Co.kind]
  | .num i, .non => by simp [LtC, Co.kind]
  | .num i, .str _ => by simp [LtC, Co.kind]
  | .num i, .tup _ => by simp [LtC, Co.kind]
  | .num i, .ls => by simp [LtC, Co.kind]
  | .str i, .non => by simp [LtC, Co.kind]
  | .str i, .num _ => by simp [LtC, Co.kind]
  | .str i, .tup _ => by simp [LtC, Co.kind]
  | .str i, .ls => by simp [LtC, Co.kind]
  | .tup i, .non => by simp [LtC, Co.kind]
  | .tup i, .num _ => by simp [LtC, Co.kind]
  | .tup i, .str _ => by simp [LtC, Co.kind]
  | .tup i, .ls => by simp [LtC, Co.kind]
theorem ltCs_tri : ∀ cs ds : List Co, LtCs cs ds ∨ cs = ds ∨ LtCs ds cs
  | [], [] => by simp
  | [], d :: ds => by simp [LtCs]
  | c :: cs, [] => by simp [LtCs]
  | c :: cs, d :: ds => by
    simp only [LtCs, List.cons.injEq]
    rcases ltC_tri c d with h | h | h
    · exact .inl (.inl h)
    · rcases ltCs_tri cs ds with g | g | g
      · exact .inl (.inr ⟨h, g⟩)
      · exact .inr (.inl ⟨h, g⟩)
      · exact .inr (.inr (.inr ⟨h.symm, g⟩))
    · exact .inr (.inr (.inl h))
end
theorem ltC_mixed {a b c : Co} (h1 : LtC a b) (h2 : LtC b c) (hk : a.kind < b.kind ∨ b.kind < c.kind) : LtC a c := by
  have k1 := ltC_kind h1
  have k2 := ltC_kind h2
  exact ltC_of_kind (by omega)
mutual
theorem ltC_trans : ∀ {a b c : Co}, LtC a b → LtC b c → LtC a c
  | .num i, .num j, .num k, h1, h2 => by simp only [LtC] at *; omega
  | .str i, .str j, .str k, h1, h2 => by simp only [LtC] at *; exact List.lt_trans h1 h2
  | .tup i, .tup j, .tup k, h1, h2 => by simp only [LtC] at *; exact ltCs_trans h1 h2
  | .num _, .num _, .str _, h1, h2 => ltC_mixed h1 h2 (by simp [LtC, Co.kind] at h1 h2 ⊢)
  | .num _, .num _, .tup _, h1, h2 => ltC_mixed h1 h2 (by simp [LtC, Co.kind] at h1 h2 ⊢)
  | .num _, .num _, .non, h1, h2 => ltC_mixed h1 h2 (by simp [LtC, Co.kind] at h1 h2 ⊢)
  | .num _, .num _, .ls, h1, h2 => ltC_mixed h1 h2 (by simp [LtC, Co.kind] at h1 h2 ⊢)
  | .num _, .str _, _, h1, h2 => ltC_mixed h1 h2 (by simp [LtC, Co.kind] at h1 h2 ⊢)
  | .num _, .tup _, _, h1, h2 => ltC_mixed h1 h2 (by simp [LtC, Co.kind] at h1 h2 ⊢)
  | .num _, .non, _, h1, h2 => ltC_mixed h1 h2 (by simp [LtC, Co.kind] at h1 h2 ⊢)
  | .num _, .ls, _, h1, h2 => ltC_mixed h1 h2 (by simp [LtC, Co.kind] at h1 h2 ⊢)
  | .str _, .str _, .num _, h1, h2 => ltC_mixed h1 h2 (by simp [LtC, Co.kind] at h1 h2 ⊢)
  | .str _, .str _, .tup _, h1, h2 => ltC_mixed h1 h2 (by simp [LtC, Co.kind] at h1 h2 ⊢)
  | .str _, .str _, .non, h1, h2 => ltC_mixed h1 h2 (by simp [LtC, Co.kind] at h1 h2 ⊢)
  | .str _, .str _, .ls, h1, h2 => ltC_mixed h1 h2 (by simp [LtC, Co.kind] at h1 h2 ⊢)
  | .str _, .num _, _, h1, h2 => ltC_mixed h1 h2 (by simp [LtC, Co.kind] at h1 h2 ⊢)
  | .str _, .tup _, _, h1, h2 => ltC_mixed h1 h2 (by simp [LtC, Co.kind] at h1 h2 ⊢)
  | .str _, .non, _, h1, h2 => ltC_mixed h1 h2 (by simp [LtC, Co.kind] at h1 h2 ⊢)
  | .str _, .ls, _, h1, h2 => ltC_mixed h1 h2 (by simp [LtC, Co.kind] at h1 h2 ⊢)
  | .tup _, .tup _, .num _, h1, h2 => ltC_mixed h1 h2 (by simp [LtC, Co.kind] at h1 h2 ⊢)
  | .tup _, .tup _, .str _, h1, h2 => ltC_mixed h1 h2 (by simp [LtC, Co.kind] at h1 h2 ⊢)
  | .tup _, .tup _, .non, h1, h2 => ltC_mixed h1 h2 (by simp [LtC, Co.kind] at h1 h2 ⊢)
  | .tup _, .tup _, .ls, h1, h2 => ltC_mixed h1 h2 (by simp [LtC, Co.kind] at h1 h2 ⊢)
  | .tup _, .num _, _, h1, h2 => ltC_mixed h1 h2 (by simp [LtC, Co.kind] at h1 h2 ⊢)
  | .tup _, .str _, _, h1, h2 => ltC_mixed h1 h2 (by simp [LtC, Co.kind] at h1 h2 ⊢)
  | .tup _, .non, _, h1, h2 => ltC_mixed h1 h2 (by simp [LtC, Co.kind] at h1 h2 ⊢)
  | .tup _, .ls, _, h1, h2 => ltC_mixed h1 h2 (by simp [LtC, Co.kind] at h1 h2 ⊢)
  | .non, b, _, h1, h2 => ltC_mixed h1 h2 (by cases b <;> simp [LtC, Co.kind] at h1 h2 ⊢)
  | .ls, b, _, h1, h2 => ltC_mixed h1 h2 (by cases b <;> simp [LtC, Co.kind] at h1 h2 ⊢)
theorem ltCs_trans : ∀ {a b c : List Co}, LtCs a b → LtCs b c → LtCs a c
  | [], [], _, h1, _ => by simp [LtCs] at h1
  | [], _ :: _, [], _, h2 => by simp [LtCs] at h2
  | [], _ :: _, _ :: _, _, _ => by simp [LtCs]
  | _ :: _, [], _, h1, _ => by simp [LtCs] at h1
  | _ :: _, _ :: _, [], _, h2 => by simp [LtCs] at h2
  | x :: a, y :: b, z :: c, h1, h2 => by
    simp only [LtCs] at *
    rcases h1 with h1 | ⟨e1, h1⟩
    · rcases h2 with h2 | ⟨e2, h2⟩
      · exact .inl (ltC_trans h1 h2)
      · exact .inl (e2 ▸ h1)
    · rcases h2 with h2 | ⟨e2, h2⟩
      · exact .inl (e1 ▸ h2)
      · exact .inr ⟨e1.trans e2, ltCs_trans h1 h2⟩
end
open Classical in
noncomputable def ltT (t u : Tr) : Bool := decide (LtC (code t) (code u))
open Classical in
theorem ltT_iff {t u : Tr} : (ltT t u = true) ↔ LtC (code t) (code u) := by
  unfold ltT
  exact decide_eq_true_iff
theorem ltT_asym {t u : Tr} (h : ltT t u = true) : ltT u t = false := by
  cases e : ltT u t with
  | false => rfl
  | true => exact absurd (ltC_trans (ltT_iff.mp h) (ltT_iff.mp e)) (ltC_irr _)
theorem ltT_le {a b c : Tr} (h1 : ltT b a = false) (h2 : ltT c b = false) : ltT c a = false := by
  cases e : ltT c a with
  | false => rfl
  | true =>
    have n1 : ¬ LtC (code b) (code a) := fun z => by rw [ltT_iff.mpr z] at h1; cases h1
    have n2 : ¬ LtC (code c) (code b) := fun z => by rw [ltT_iff.mpr z] at h2; cases h2
    have l := ltT_iff.mp e
    rcases ltC_tri (code a) (code b) with q | q | q
    · exact absurd (ltC_trans l q) n2
    · rw [q] at l
      exact absurd l n2
    · exact absurd q n1
theorem ltT_eq {a b : Tr} (h1 : ltT a b = false) (h2 : ltT b a = false) : eqT a b = true := by
  rw [eqT_code]
  rcases ltC_tri (code a) (code b) with q | q | q
  · rw [ltT_iff.mpr q] at h1
    cases h1
  · exact q
  · rw [ltT_iff.mpr q] at h2
    cases h2
end Tre
set_option Elab.async false
set_option linter.all false
set_option maxRecDepth 100000
set_option maxHeartbeats 1000000
namespace Tre
open PySem PySem.Spec PyProof.Rows L2
mutual
def Cm : Tr → Tr → Prop
  | .bl _, .bl _ => True
  | .int _, .int _ => True
  | .str _, .str _ => True
  | .tup ts, .tup us => Cms ts us
  | _, _ => False
def Cms : List Tr → List Tr → Prop
  | t :: ts, u :: us => (eqT t u = true ∧ Cms ts us) ∨ (eqT t u = false ∧ Cm t u)
  | [], _ => True
  | _ :: _, [] => True
end
noncomputable def qs : List Tr → List Tr → List (Bool × Bool)
  | t :: ts, u :: us => (eqT t u, ltT t u) :: qs ts us
  | [], _ => []
  | _ :: _, [] => []
theorem lexV_qs : ∀ (ts us : List Tr), (lexV (decide (ts.length < us.length)) (qs ts us) = true) ↔ LtCs (codes ts) (codes us)
  | [], [] => by simp [qs, lexV, codes, LtCs]
  | [], u :: us => by simp [qs, lexV, codes, LtCs]
  | t :: ts, [] => by simp [qs, lexV, codes, LtCs]
  | t :: ts, u :: us => by
    have ih := lexV_qs ts us
    have e : decide ((t :: ts).length < (u :: us).length) = decide (ts.length < us.length) := by simp
    rw [e]
    simp only [qs, lexV, codes, LtCs]
    by_cases h : eqT t u = true
    · rw [if_pos h, ih]
      have hc := (eqT_code t u).mp h
      rw [hc]
      constructor
      · intro z
        exact .inr ⟨rfl, z⟩
      · rintro (z | ⟨_, z⟩)
        · exact absurd z (ltC_irr _)
        · exact z
    · rw [if_neg h]
      have hc : ¬ code t = code u := fun z => h ((eqT_code t u).mpr z)
      constructor
      · intro z
        exact .inl (ltT_iff.mp z)
      · rintro (z | ⟨z, _⟩)
        · exact ltT_iff.mpr z
        · exact absurd z hc
theorem bool_of_iff {a b : Bool} (h : (a = true) ↔ (b = true)) : a = b := Bool.eq_iff_iff.mpr h
section
variable {X : Cx} {pins : List (Addr × Obj)} {σ : L2.St} {H : Hp} {s : Shared}
theorem lex_of (I : Inv X pins σ H s) {n : Nat} {A : Around} (hu : A.units + n + 1 < cLine)
    (ih : ∀ {t u : Tr} {v w : V} {a b : Value}, t.depth ≤ n → (t.pure ∨ u.pure) → Cm t u → TrAt H v t → TrAt H w u → RelV v a → RelV w b → LtAt A s a b (ltT t u)) :
    ∀ {ts us : List Tr} {vs ws : List V} {as bs : List Value}, Trs.depth ts ≤ n → (Trs.pure ts ∨ Trs.pure us) → Cms ts us → TrsAt H vs ts → TrsAt H ws us → Vals vs as → Vals ws bs → LexAt A s as bs (qs ts us)
  | [], us, vs, ws, as, bs, hd, hp, hc, h1, h2, r1, r2 => by
    unfold TrsAt at h1
    subst h1
    cases r1
    cases us <;> simp [LexAt, qs]
  | t :: ts, [], vs, ws, as, bs, hd, hp, hc, h1, h2, r1, r2 => by
    unfold TrsAt at h2
    subst h2
    cases r2
    obtain ⟨v, r, rfl, _, _⟩ := h1.inv
    cases r1
    simp [LexAt, qs]
  | t :: ts, u :: us, vs, ws, as, bs, hd, hp, hc, h1, h2, r1, r2 => by
    obtain ⟨v, r, rfl, g1, g2⟩ := h1.inv
    obtain ⟨v', r', rfl, g3, g4⟩ := h2.inv
    unfold Trs.depth at hd
    have hp1 : t.pure ∨ u.pure := by
      rcases hp with hp | hp <;> unfold Trs.pure at hp
      · exact .inl hp.1
      · exact .inr hp.1
    have hp2 : Trs.pure ts ∨ Trs.pure us := by
      rcases hp with hp | hp <;> unfold Trs.pure at hp
      · exact .inl hp.2
      · exact .inr hp.2
    cases r1 with
    | cons q1 q2 =>
      cases r2 with
      | cons q3 q4 =>
        simp only [LexAt, qs]
        refine ⟨tr_eqAt I n (by omega) hp1 g1 g3 q1 q3 hu, fun e => ?_, fun e => ?_⟩
        · unfold Cms at hc
          rcases hc with ⟨e', _⟩ | ⟨_, hc⟩
          · rw [e] at e'
            cases e'
          · exact ih (by omega) hp1 hc g1 g3 q1 q3
        · unfold Cms at hc
          rcases hc with ⟨_, hc⟩ | ⟨e', _⟩
          · exact lex_of I hu ih (by omega) hp2 hc g2 g4 q2 q4
          · rw [e] at e'
            cases e'
theorem sc_ltAt {A : Around} {t u : Tr} {v w : V} {a b : Value} (hd : ∀ ts, t ≠ .tup ts) (hc : Cm t u) (h1 : TrAt H v t) (h2 : TrAt H w u) (r1 : RelV v a) (r2 : RelV w b) : LtAt A s a b (ltT t u) := by
  cases t <;> cases u <;> unfold Cm at hc <;> first | exact hc.elim | skip
  · rename_i x y
    unfold TrAt at h1 h2
    subst h1 h2
    cases (show a = Value.bool x from r1)
    cases (show b = Value.bool y from r2)
    intro prog w' E Q h
    refine lt_bool ?_
    have e : decide (b2i x < b2i y) = ltT (.bl x) (.bl y) := by
      refine bool_of_iff ?_
      rw [ltT_iff, decide_eq_true_iff]
      cases x <;> cases y <;> simp [code, LtC, b2i]
    rw [e]
    exact h
  · rename_i x y
    unfold TrAt at h1 h2
    subst h1 h2
    obtain ⟨t1, rfl⟩ := r1
    obtain ⟨t2, rfl⟩ := r2
    intro prog w' E Q h
    refine lt_int ?_
    have e : decide (x < y) = ltT (.int x) (.int y) := by
      refine bool_of_iff ?_
      rw [ltT_iff, decide_eq_true_iff]
      simp [code, LtC]
    rw [e]
    exact h
  · rename_i x y
    unfold TrAt at h1 h2
    subst h1 h2
    obtain ⟨t1, rfl⟩ := r1
    obtain ⟨t2, rfl⟩ := r2
    intro prog w' E Q h
    refine lt_str ?_
    have e : decide (x.cps.toList < y.cps.toList) = ltT (.str x) (.str y) := by
      refine bool_of_iff ?_
      rw [ltT_iff, decide_eq_true_iff]
      simp [code, LtC]
    rw [e]
    exact h
  · exact (hd _ rfl).elim
theorem tr_ltAt (I : Inv X pins σ H s) : ∀ (n : Nat) {A : Around} {t u : Tr} {v w : V} {a b : Value}, t.depth ≤ n → (t.pure ∨ u.pure) → Cm t u → TrAt H v t → TrAt H w u → RelV v a → RelV w b → A.units + n + 1 < cLine → LtAt A s a b (ltT t u) := by
  intro n
  induction n with
  | zero =>
    intro A t u v w a b hd hp hc h1 h2 r1 r2 hu
    refine sc_ltAt (fun ts e => ?_) hc h1 h2 r1 r2
    subst e
    simp [Tr.depth] at hd
  | succ n ih =>
    intro A t u v w a b hd hp hc h1 h2 r1 r2 hu
    cases t with
    | tup ts =>
      cases u <;> first | (unfold Cm at hc; exact hc.elim) | skip
      rename_i us
      unfold Cm at hc
      unfold TrAt at h1 h2
      obtain ⟨r0, vs0, rfl, g0, k0⟩ := h1
      obtain ⟨r, vs, rfl, g1, k1⟩ := h2
      cases r1
      cases r2
      obtain ⟨as, q0, p0, _⟩ := I.tuple (SqT.of g0)
      obtain ⟨bs, q1, p1, _⟩ := I.tuple (SqT.of g1)
      unfold Tr.depth at hd
      have hp' : Trs.pure ts ∨ Trs.pure us := by
        rcases hp with hp | hp <;> unfold Tr.pure at hp
        · exact .inl hp
        · exact .inr hp
      have hu1 : A.in1.units + n + 1 < cLine := by show A.units + 1 + n + 1 < cLine; omega
      have hx := lex_of (A := A.in1) I hu1 (fun d pp cc a1 a2 b1 b2 => ih d pp cc a1 a2 b1 b2 hu1) (by omega) hp' hc k0 k1 q0 q1
      have := tuple_ltAt (A := A) (show s.heap.IsTuple r0 as.toArray from p0) (show s.heap.IsTuple r bs.toArray from p1) (by omega) (by simpa using hx)
      have e : lexV (decide (as.toArray.size < bs.toArray.size)) (qs ts us) = ltT (.tup ts) (.tup us) := by
        have l0 := k0.len
        have l1 := k1.len
        have l2 := q0.length
        have l3 := q1.length
        have e2 : decide (as.toArray.size < bs.toArray.size) = decide (ts.length < us.length) := by
          rw [List.size_toArray, List.size_toArray, ← l2, ← l3, l0, l1]
        rw [e2]
        refine bool_of_iff ?_
        rw [lexV_qs, ltT_iff]
        simp [code, LtC]
      rw [← e]
      exact this
    | _ => exact sc_ltAt (fun ts e => by cases e) hc h1 h2 r1 r2
end
end Tre
set_option Elab.async false
set_option linter.all false
set_option maxRecDepth 100000
set_option maxHeartbeats 2000000
namespace Srt
open PySem PySem.W PySem.Calls PyProof.Rows
theorem range_get {α : Type} (d : α) : ∀ (vs : List α), (List.range vs.length).map (fun i => vs.getD i d) = vs
  | [] => rfl
  | v :: vs => by
    rw [List.length_cons, List.range_succ_eq_map, List.map_cons, List.map_map]
    have := range_get d vs
    simp only [Function.comp_def]
    show v :: List.map (fun i => vs.getD i d) (List.range vs.length) = v :: vs
    rw [this]
theorem zip_snd {α : Type} : ∀ (vs : List α), List.map (fun x => x.snd) (vs.zip vs) = vs
  | [] => rfl
  | v :: vs => by
    rw [List.zip_cons_cons, List.map_cons, zip_snd vs]
section
variable {prog : Program} {w : World} {A : Around} {E : Value → Shared → Prop} {s : Shared} {lt : Nat → Nat → Bool} {κ : SortKind}
def Stay (s : Shared) (a : Addr) (h' : Heap) : Prop := ∀ b o, b ≠ a → s.heap.get? b = some o → h'.get? b = some o
theorem list_sort_any {a : Addr} {vs : List Value} {n : Nat} {P : PySem.Fin → Shared → Prop} (O : Ord lt) (ho : s.heap.get? a = some (seqObj "list" vs.toArray n)) (h64 : vs.length < 64)
    (hkind : 2 ≤ vs.length → ∀ h', Stay s a h' → ∀ R : SortKind → Shared → Prop, R κ { s with heap := h' } → wpAny (model prog w) A (keyKind' vs.toArray) R E { s with heap := h' })
    (hask : ∀ h', Stay s a h' → ∀ i j (R : Bool → Shared → Prop), i < vs.length → j < vs.length → R (lt i j) { s with heap := h' } → kas_ask prog w A κ vs i j R { s with heap := h' })
    (h : ∀ p : Array Nat, Pm vs.length p → Up lt p vs.length → P (.done (.ret .none)) { s with heap := sortedHeap s.heap a vs (List.toArray (p.toList.map fun i => vs.getD i Value.none)) }) :
    wpAny (model prog w) A (Builtin.«list.sort» ⟨[.ref a], []⟩) P E s := by
  have ha : a < s.heap.objs.size := Heap.lt_size ho
  rw [list_sort_plain]
  refine wpAny_bind (listItems_at ho rfl ?_)
  refine wpAny_bind (listUpdate_at ho rfl ?_ (by rw [List.size_toArray, sizeLine_eq]; omega) (Nat.zero_le _))
  obtain ⟨e1, ho1⟩ : ∃ e1, (s.heap.update a (Obj.mapSeq fun _ => (#[] : Array Value))).get? a = some (seqObj "list" #[] e1) := ⟨_, get?_update_seq ho fun _ => #[]⟩
  refine wpAny_bind (seqEpoch_at ho1 rfl ?_)
  refine wpAny_bind (wpAny_newTuple ?_ (by show vs.length ≤ _; rw [sizeLine_eq]; omega))
  refine wpAny_bind (wpAny_newList ?_ (Nat.zero_le _))
  refine wpAny_holding ?_
  have s1 := Heap.SameBut.update s.heap a (Obj.mapSeq fun _ => (#[] : Array Value))
  have st : Stay s a (((s.heap.update a (Obj.mapSeq fun _ => (#[] : Array Value))).push (seqObj "tuple" vs.toArray 0)).push (seqObj "list" #[] 0)) := fun b o hb e =>
    Heap.get?_push_of_some _ (Heap.get?_push_of_some _ ((s1.2 b hb).trans e))
  have ho6 : (((s.heap.update a (Obj.mapSeq fun _ => (#[] : Array Value))).push (seqObj "tuple" vs.toArray 0)).push (seqObj "list" #[] 0)).get? a = some (seqObj "list" #[] e1) := Heap.get?_push_of_some _ (Heap.get?_push_of_some _ ho1)
  show wpAny (model prog w) A _ P E { s with heap := ((s.heap.update a (Obj.mapSeq fun _ => (#[] : Array Value))).push (seqObj "tuple" vs.toArray 0)).push (seqObj "list" #[] 0) }
  dsimp only
  have out : ∀ p : Array Nat, Pm vs.length p → (List.toArray (p.toList.map fun i => vs.getD i Value.none)).size ≤ sizeLine := fun p hp => by
    rw [List.size_toArray, List.length_map, Array.length_toList, hp.size, sizeLine_eq]
    omega
  by_cases h2 : vs.toArray.size < 2
  · rw [if_pos h2, if_pos h2]
    refine wpAny_bind (wpAny_pure ?_)
    rw [StateT.run_pure]
    refine wpAny_bind (wpAny_pure ?_)
    dsimp only
    refine wpAny_bind (seqEpoch_at ho6 rfl ?_)
    have h0 : Pm vs.length (List.toArray (List.range vs.length)) := by
      unfold Pm
      simp
    have eo : (arrOf (SortSt.mk' general' (vs.toArray.zip vs.toArray) #[] 7 none)).map (·.2) = List.toArray ((List.toArray (List.range vs.length)).toList.map fun i => vs.getD i Value.none) := by
      rw [List.toList_toArray, range_get]
      show (vs.toArray.zip vs.toArray).map (·.2) = vs.toArray
      apply Array.toList_inj.mp
      simp
      exact zip_snd vs
    rw [eo]
    refine wpAny_bind (listUpdate_at ho6 rfl ?_ (Nat.zero_le _) (Nat.le_succ_of_le (out _ h0)))
    simp only [bne_self_eq_false, Bool.false_eq_true, if_false]
    refine wpAny_pure (h _ h0 fun i j hij hj => ?_)
    have hv : vs.length < 2 := by simpa using h2
    have : i = j := by omega
    subst this
    exact O.refl _
  · rw [if_neg h2, if_neg h2]
    have h2' : 2 ≤ vs.length := by
      rw [List.size_toArray] at h2
      omega
    refine wpAny_bind (hkind h2' _ st _ ?_)
    have run : (kas_sort vs.length).kasWp (kas_ask prog w A κ vs) (fun p s' => (Pm vs.length p ∧ Up lt p vs.length) ∧ s' = { s with heap := ((s.heap.update a (Obj.mapSeq fun _ => (#[] : Array Value))).push (seqObj "tuple" vs.toArray 0)).push (seqObj "list" #[] 0) })
        { s with heap := ((s.heap.update a (Obj.mapSeq fun _ => (#[] : Array Value))).push (seqObj "tuple" vs.toArray 0)).push (seqObj "list" #[] 0) } :=
      tri_wp (lt := lt) (N := vs.length) (G := fun s' => s' = { s with heap := ((s.heap.update a (Obj.mapSeq fun _ => (#[] : Array Value))).push (seqObj "tuple" vs.toArray 0)).push (seqObj "list" #[] 0) })
        (fun i j R s' hi hj hg hR => by subst hg; exact hask _ st i j R hi hj (hR _ rfl)) (fun p s' hp hg => ⟨hp, hg⟩) (t_sort O (by omega)) rfl
    refine wpAny_bind (wpAny_mono (kat_run (ks := vs) (Q := fun st' s' => ∃ p : Array Nat, (Pm vs.length p ∧ Up lt p vs.length) ∧ arrOf st' = p.map (kas_item (vs.toArray.zip vs.toArray)) ∧ failedOf st' = none ∧ s' = { s with heap := ((s.heap.update a (Obj.mapSeq fun _ => (#[] : Array Value))).push (seqObj "tuple" vs.toArray 0)).push (seqObj "list" #[] 0) })
      rfl h2' h64 (fun p st' s' a1 a2 a3 a4 => ⟨p, a4.1, a2, a3, a4.2⟩) run) ?_ fun _ _ e => e)
    rintro ⟨⟨⟩, st'⟩ s' ⟨p, hp, har, hf, rfl⟩
    dsimp only
    refine wpAny_bind (seqEpoch_at ho6 rfl ?_)
    rw [kat_snds rfl har]
    refine wpAny_bind (listUpdate_at ho6 rfl ?_ (Nat.zero_le _) (Nat.le_succ_of_le (out p hp.1)))
    rw [hf]
    simp only [bne_self_eq_false, Bool.false_eq_true, if_false]
    exact wpAny_pure (h p hp.1 hp.2)
theorem sorted_any {l : Addr} {vs : List Value} {Q : Value → Shared → Prop} (O : Ord lt) (hl : s.heap.IsList l vs.toArray) (h64 : vs.length < 64)
    (hkind : 2 ≤ vs.length → ∀ h', (∀ b o, s.heap.get? b = some o → h'.get? b = some o) → ∀ (E' : Value → Shared → Prop) (R : SortKind → Shared → Prop), R κ { s with heap := h' } → wpAny (model prog w) A.in1.in1 (keyKind' vs.toArray) R E' { s with heap := h' })
    (hask : ∀ h', (∀ b o, s.heap.get? b = some o → h'.get? b = some o) → ∀ i j (R : Bool → Shared → Prop), i < vs.length → j < vs.length → R (lt i j) { s with heap := h' } → kas_ask prog w A.in1.in1 κ vs i j R { s with heap := h' })
    (h : ∀ p : Array Nat, Pm vs.length p → Up lt p vs.length → Q (.ref (s.heap.objs.size + 1)) { s with heap := sortedAll s.heap vs (List.toArray (p.toList.map fun i => vs.getD i Value.none)) }) :
    wpAny (model prog w) A (call (.builtin "sorted") [.ref l]) Q E s := by
  refine Calls.call_function_entry kind_sorted plain_sorted entry_sorted (args_sorted1 _) ?_
  unfold Builtin.«sorted»
  refine wpAny_bind (m := checkCount "sorted" 1 1 _) (wpAny_pure ?_)
  refine wpAny_bind (collect_list hl ?_ (by rw [sizeLine_eq]; omega))
  refine wpAny_bind (wpAny_newList ?_ (by rw [sizeLine_eq]; omega))
  have hsz : ((s.heap.push (seqObj "list" #[] 0)).update s.heap.objs.size (Obj.mapSeq (· ++ vs.toArray))).objs.size = s.heap.objs.size + 1 := by
    rw [Heap.size_update, size_push']
  have hoL : (((s.heap.push (seqObj "list" #[] 0)).update s.heap.objs.size (Obj.mapSeq (· ++ vs.toArray))).push (seqObj "list" vs.toArray 0)).get? (s.heap.objs.size + 1) = some (seqObj "list" vs.toArray 0) := by
    rw [← hsz]; exact Heap.get?_push_size _ rfl
  have keep : ∀ b o, s.heap.get? b = some o → (((s.heap.push (seqObj "list" #[] 0)).update s.heap.objs.size (Obj.mapSeq (· ++ vs.toArray))).push (seqObj "list" vs.toArray 0)).get? b = some o ∧ b ≠ s.heap.objs.size + 1 := fun b o q => by
    have hlt : b < s.heap.objs.size := Heap.lt_size q
    refine ⟨?_, Nat.ne_of_lt (Nat.lt_succ_of_lt hlt)⟩
    rw [Heap.get?_push_ne _ _ _ (by rw [hsz]; exact Nat.ne_of_lt (Nat.lt_succ_of_lt hlt)), Heap.get?_update_ne _ _ _ _ (Nat.ne_of_lt hlt), Heap.get?_push_ne _ _ _ (Nat.ne_of_lt hlt)]
    exact q
  show wpAny _ _ _ _ _ { s with heap := ((s.heap.push (seqObj "list" #[] 0)).update s.heap.objs.size (Obj.mapSeq (· ++ vs.toArray))).push (seqObj "list" vs.toArray 0) }
  rw [hsz]
  refine wpAny_bind (wpAny_holding (wpAny_call_entry slot_list_sort ⟨_, hoL, rfl⟩ entry_list_sort (list_sort_any (lt := lt) (κ := κ) O hoL h64 (fun h2 h' st R hR => hkind h2 h' (fun b o e => st b o (keep b o e).2 (keep b o e).1) _ R hR)
    (fun h' st i j R hi hj hR => hask h' (fun b o e => st b o (keep b o e).2 (keep b o e).1) i j R hi hj hR) fun p a1 a2 => ⟨_, rfl, ?_⟩) (args_list_sort _)))
  exact wpAny_pure ⟨_, rfl, h p a1 a2⟩
end
end Srt
set_option Elab.async false
set_option linter.all false
set_option maxRecDepth 100000
set_option maxHeartbeats 1000000
namespace Tre
open PySem PySem.Spec PyProof.Rows L2 Srt
theorem katlex_of {prog : Program} {w : World} {A : Around} {s : Shared} {fin : Bool} {Q : Bool → Shared → Prop} : ∀ {as bs : List Value} {q : List (Bool × Bool)} {i : Nat}, LexAt A s as bs q → Q (lexV fin q) s → PySem.W.KatLex prog w A false fin Q (as.zip bs) i s
  | [], _, q, i, h, hq => by
    unfold LexAt at h
    subst h
    rw [List.zip_nil_left]
    exact PySem.W.kat_nil hq
  | _ :: _, [], q, i, h, hq => by
    unfold LexAt at h
    subst h
    rw [List.zip_nil_right]
    exact PySem.W.kat_nil hq
  | a :: as, b :: bs, [], i, h, hq => h.elim
  | a :: as, b :: bs, (e, l) :: q, i, h, hq => by
    obtain ⟨h1, h2, h3⟩ := h
    rw [List.zip_cons_cons]
    refine PySem.W.kat_cons (h1 prog w _ _ ?_)
    cases e with
    | true => exact PySem.W.kat_yes (katlex_of (h3 rfl) hq)
    | false =>
      refine PySem.W.kat_no ?_
      show wpAny _ _ (oneLt' false a b) _ _ _
      exact PySem.W.kat_one a b (h2 rfl prog w _ _ hq)
def Hd (t : Tr) : Prop := ∃ fs r, t = .tup (.tup fs :: r)
theorem TrsAt.map {H : Hp} {vs : List V} {ts : List Tr} (h : TrsAt H vs ts) : ∀ {is : List Nat}, (∀ i ∈ is, i < ts.length) → TrsAt H (is.map fun i => vs.getD i .non) (is.map fun i => ts.getD i .non)
  | [], _ => .nil
  | i :: is, hi => by
    have h0 : i < ts.length := hi i List.mem_cons_self
    have hl := h.len
    obtain ⟨v, e1, e2⟩ := h.get (i := i) (t := ts[i]) (List.getElem?_eq_getElem h0)
    have ev : vs.getD i .non = v := by rw [List.getD_eq_getElem?_getD, e1]; rfl
    have et : ts.getD i .non = ts[i] := by rw [List.getD_eq_getElem?_getD, List.getElem?_eq_getElem h0]; rfl
    rw [List.map_cons, List.map_cons, ev, et]
    exact .cons e2 (TrsAt.map h fun j m => hi j (List.mem_cons_of_mem _ m))
theorem Vals.map {vs : List V} {as : List Value} (h : Vals vs as) : ∀ {is : List Nat}, (∀ i ∈ is, i < vs.length) → Vals (is.map fun i => vs.getD i .non) (is.map fun i => as.getD i Value.none)
  | [], _ => .nil
  | i :: is, hi => by
    have h0 : i < vs.length := hi i List.mem_cons_self
    obtain ⟨u, e1, e2⟩ := h.get (i := i) (x := vs[i]) (List.getElem?_eq_getElem h0)
    have ev : vs.getD i .non = vs[i] := by rw [List.getD_eq_getElem?_getD, List.getElem?_eq_getElem h0]; rfl
    have et : as.getD i Value.none = u := by rw [List.getD_eq_getElem?_getD, e1]; rfl
    rw [List.map_cons, List.map_cons, ev, et]
    exact .cons e2 (Vals.map h fun j m => hi j (List.mem_cons_of_mem _ m))
section
variable {X : Cx} {pins : List (Addr × Obj)} {σ : L2.St} {H : Hp} {s : Shared}
theorem tup_obj (I : Inv X pins σ H s) {r : Addr} {vs : List V} (h : H r = some (.tup vs)) : ∃ (as : List Value) (o : Obj) (n : Nat), Vals vs as ∧ s.heap.get? r = some o ∧ o.cls = .type "tuple" ∧ o.data = .seq as.toArray n := by
  obtain ⟨as, q, p, _⟩ := I.tuple (SqT.of h)
  obtain ⟨o, ho, hc, n, hd⟩ := (show s.heap.IsTuple r as.toArray from p)
  exact ⟨as, o, n, q, ho, hc, hd⟩
theorem katTups_of (I : Inv X pins σ H s) : ∀ {vs : List V} {ts : List Tr} {as : List Value}, TrsAt H vs ts → Vals vs as → (∀ t ∈ ts, Hd t) → ∃ fs, PySem.W.KatTups s.heap as fs ∧ fs.length = as.length ∧ ∀ v ∈ fs, ∃ (r : Addr) (o : Obj), v = .ref r ∧ s.heap.get? r = some o ∧ o.cls = .type "tuple"
  | vs, [], as, h, r, _ => by
    unfold TrsAt at h
    subst h
    cases r
    exact ⟨[], PySem.W.KatTups.nil, rfl, fun v m => by cases m⟩
  | vs, t :: ts, as, h, r, hh => by
    obtain ⟨v, vr, rfl, h1, h2⟩ := h.inv
    cases r with
    | cons q1 q2 =>
      obtain ⟨fs, k1, k2, k3⟩ := katTups_of I h2 q2 fun t m => hh t (List.mem_cons_of_mem _ m)
      obtain ⟨gs, gr, rfl⟩ := hh t List.mem_cons_self
      unfold TrAt at h1
      obtain ⟨r0, vs0, rfl, g0, g1⟩ := h1
      cases q1
      obtain ⟨f, fr, rfl, h3, h4⟩ := g1.inv
      obtain ⟨as0, o, n, q3, ho, hc, hd⟩ := tup_obj I g0
      cases q3 with
      | cons q5 q6 =>
        unfold TrAt at h3
        obtain ⟨r1, vs1, rfl, g2, _⟩ := h3
        cases q5
        obtain ⟨_, o1, _, _, ho1, hc1, _⟩ := tup_obj I g2
        refine ⟨.ref r1 :: fs, PySem.W.KatTups.cons ho hc hd (by simp) k1, by simp [k2], fun v m => ?_⟩
        rcases List.mem_cons.mp m with rfl | m
        · exact ⟨r1, o1, rfl, ho1, hc1⟩
        · exact k3 v m
def rSorted : List V → Hp → VK → Prop := fun xs H Q => ∃ (l : Addr) (vs : List V) (ts : List Tr), xs = [.ref l] ∧ H l = some (.lst vs) ∧ TrsAt H vs ts ∧ ts.length < 64 ∧ (∀ t ∈ ts, Hd t ∧ t.pure ∧ t.depth ≤ 40) ∧ (∀ t ∈ ts, ∀ u ∈ ts, Cm t u) ∧
  ∀ (D : Addr) (ws : List V) (us : List Tr), H D = none → us.Perm ts → TrsAt H ws us → (∀ (i j : Nat) (t u : Tr), i ≤ j → us[i]? = some t → us[j]? = some u → ltT u t = false) → Q (.ref D) (upd H D (.lst ws))
theorem call_sorted (hu : X.A.units + 60 < cLine) : CallR X (.builtin "sorted") rSorted := by
  intro pins s σ H xs us Q I r h
  obtain ⟨l, vs, ts, rfl, hl, hT, hlen, hts, hcm, q⟩ := h
  obtain ⟨u, rfl, ru⟩ := vals1 r
  cases ru
  obtain ⟨as, rv, pl, _⟩ := I.list (SqL.of hl)
  have l1 := hT.len
  have l2 := rv.length
  have O : Srt.Ord fun i j => ltT (ts.getD i .non) (ts.getD j .non) := ⟨fun a b h => ltT_asym h, fun a b c h1 h2 => ltT_le h1 h2⟩
  have at_ : ∀ i, i < as.length → ∃ t v a, ts.getD i .non = t ∧ t ∈ ts ∧ TrAt H v t ∧ RelV v a ∧ as.getD i Value.none = a := fun i hi => by
    have hi' : i < ts.length := by omega
    obtain ⟨v, e1, e2⟩ := hT.get (i := i) (t := ts[i]) (List.getElem?_eq_getElem hi')
    obtain ⟨a, e3, e4⟩ := rv.get e1
    exact ⟨ts[i], v, a, by rw [List.getD_eq_getElem?_getD, List.getElem?_eq_getElem hi']; rfl, List.getElem_mem hi', e2, e4, by rw [List.getD_eq_getElem?_getD, e3]; rfl⟩
  refine sorted_any (κ := tuples' false) O pl.isList (by omega) (fun h2 h' kp E' R hR => ?_) (fun h' kp i j R hi hj hR => ?_) fun p hp hup => ?_
  · have I' : Inv X pins σ H { s with heap := h' } := I.kept (t' := s.toks) kp
    obtain ⟨fs, k1, k2, k3⟩ := katTups_of I' hT rv fun t m => (hts t m).1
    refine PySem.W.kat_kind (T := Value.type "tuple") k1 (by omega) (fun v m => ?_) (by decide +kernel) ?_
    · obtain ⟨r, o, rfl, ho, hc⟩ := k3 v m
      have : PySem.W.Looks (model X.prog X.w) h' (typeOf (.ref r)) o.cls := (PySem.W.Looks.ld ho).andThen .now
      rw [hc] at this
      exact this
    · rw [show (Value.type "tuple" != Value.type "tuple") = false by decide +kernel]
      exact hR
  · have I' : Inv X pins σ H { s with heap := h' } := I.kept (t' := s.toks) kp
    obtain ⟨t, v, a, et, mt, ht, ra, ea⟩ := at_ i hi
    obtain ⟨u, v', b, eu, mu, hu', rb, eb⟩ := at_ j hj
    have hc := hcm t mt u mu
    obtain ⟨⟨f1, r1, rfl⟩, p1, d1⟩ := hts t mt
    obtain ⟨⟨f2, r2, rfl⟩, p2, d2⟩ := hts u mu
    unfold TrAt at ht hu'
    obtain ⟨x0, vs0, rfl, g0, g1⟩ := ht
    obtain ⟨y0, ws0, rfl, g2, g3⟩ := hu'
    cases ra
    cases rb
    obtain ⟨as0, o, n, q3, ho, hcl, hd⟩ := tup_obj I' g0
    obtain ⟨bs0, o', n', q4, ho', hcl', hd'⟩ := tup_obj I' g2
    unfold Tr.depth at d1
    unfold Tr.pure at p1
    unfold Cm at hc
    have hu1 : X.A.in1.in1.units + 40 + 1 < cLine := by show X.A.units + 1 + 1 + 40 + 1 < cLine; omega
    have hx := lex_of (A := X.A.in1.in1) I' hu1 (fun d pp cc a1 a2 b1 b2 => tr_ltAt I' 40 d pp cc a1 a2 b1 b2 hu1) (by omega) (.inl p1) hc g1 g3 q3 q4
    unfold PySem.W.kas_ask
    rw [ea, eb]
    refine PySem.W.kat_lt (b := false) ho hd ho' hd' ?_
    rw [List.toList_toArray, List.toList_toArray]
    refine katlex_of hx ?_
    have e : lexV (decide (as0.toArray.size < bs0.toArray.size)) (qs (.tup f1 :: r1) (.tup f2 :: r2)) = ltT (ts.getD i .non) (ts.getD j .non) := by
      have z0 := g1.len
      have z1 := g3.len
      have z2 := q3.length
      have z3 := q4.length
      have e2 : decide (as0.toArray.size < bs0.toArray.size) = decide ((Tr.tup f1 :: r1).length < (Tr.tup f2 :: r2).length) := by
        rw [List.size_toArray, List.size_toArray, ← z2, ← z3, z0, z1]
      rw [e2, et, eu]
      refine bool_of_iff ?_
      rw [lexV_qs, ltT_iff]
      simp [code, LtC]
    rw [e]
    exact hR
  · have hin : ∀ i ∈ p.toList, i < ts.length := fun i m => by
      have := List.mem_range.mp (List.Perm.mem_iff hp |>.mp m)
      omega
    refine ⟨.ref (s.heap.objs.size + 1), upd H (s.heap.objs.size + 1) (.lst (p.toList.map fun i => vs.getD i .non)), I.laid (t' := s.toks) (fun b o e => sortedAll_old e) (Nat.le_succ _) ?_, rfl, ?_⟩
    · obtain ⟨e, he⟩ := sortedAll_at s.heap as (List.toArray (p.toList.map fun i => as.getD i Value.none))
      refine ⟨?_, p.toList.map fun i => as.getD i Value.none, e, Vals.map rv fun i m => by have := hin i m; omega, he⟩
      rw [List.length_map, Array.length_toList, hp.size]
      have : (64 : Nat) ≤ sizeLine := by decide +kernel
      omega
    · refine q _ _ (p.toList.map fun i => ts.getD i .non) (I.hok.fresh (Nat.le_succ _)) ?_ (TrsAt.map hT hin) fun i j t u hij e1 e2 => ?_
      · have := List.Perm.map (fun i => ts.getD i Tr.non) hp
        rw [show as.length = ts.length by omega, range_get] at this
        exact this
      · rw [List.getElem?_map] at e1 e2
        obtain ⟨a, ea, rfl⟩ := Option.map_eq_some_iff.mp e1
        obtain ⟨b, eb, rfl⟩ := Option.map_eq_some_iff.mp e2
        have hj : j < as.length := by
          have := (List.getElem?_eq_some_iff.mp eb).1
          rw [Array.length_toList, hp.size] at this
          exact this
        have := hup i j hij hj
        rw [g_some, g_some, ← Array.getElem?_toList, ← Array.getElem?_toList, ea, eb] at this
        exact this
end
end Tre
set_option Elab.async false
set_option linter.all false
set_option maxRecDepth 100000
set_option maxHeartbeats 1000000
namespace Tre
open PySem L2
inductive So where
  | tm | fr | pr | ws | lt
abbrev s_ (x : String) : Tr := .str (Str.ofString x)
inductive Ty : So → Tr → Prop
  | nm (x : Str) : Ty .tm (.tup [s_ "name", .str x])
  | ap (x : Str) (ts : List Tr) : ts.length ≤ 3 → (∀ t ∈ ts, Ty .tm t) → Ty .tm (.tup [s_ "call", .str x, .tup ts])
  | fr (a b : Int) : Ty .fr (.tup [.int a, .int b])
  | pr (t f : Tr) : Ty .tm t → Ty .fr f → Ty .pr (.tup [t, f])
  | fl (x : Str) : Ty .ws (.tup [s_ "flag", .str x])
  | mo (ps : List Tr) (f : Tr) : (∀ p ∈ ps, Ty .pr p) → Ty .fr f → Ty .ws (.tup [s_ "most", .tup ps, f])
  | li (t u : Tr) : Ty .tm t → Ty .tm u → Ty .ws (.tup [s_ "like", t, u])
  | no (w : Tr) : Ty .ws w → Ty .ws (.tup [s_ "not", w])
  | bo (l : List Tr) : (∀ w ∈ l, Ty .ws w) → Ty .ws (.tup [s_ "both", .tup l])
  | ei (l : List Tr) : (∀ w ∈ l, Ty .ws w) → Ty .ws (.tup [s_ "either", .tup l])
  | lt (w : Tr) (b : Bool) : Ty .ws w → Ty .lt (.tup [w, .bl b])
theorem cms_step {t u : Tr} {ts us : List Tr} (h1 : eqT t u = false → Cm t u) (h2 : Cms ts us) : Cms (t :: ts) (u :: us) := by
  unfold Cms
  cases e : eqT t u with
  | true => exact .inl ⟨rfl, h2⟩
  | false => exact .inr ⟨rfl, h1 e⟩
theorem cms_ne {t u : Tr} {ts us : List Tr} (h0 : eqT t u = false) (h1 : Cm t u) : Cms (t :: ts) (u :: us) := by
  unfold Cms
  exact .inr ⟨h0, h1⟩
theorem cms_nil {us : List Tr} : Cms [] us := by
  cases us <;> simp [Cms]
theorem cm_str (x y : Str) : Cm (.str x) (.str y) := by simp [Cm]
theorem cm_int (x y : Int) : Cm (.int x) (.int y) := by simp [Cm]
theorem cm_bl (x y : Bool) : Cm (.bl x) (.bl y) := by simp [Cm]
theorem cm_tup {ts us : List Tr} (h : Cms ts us) : Cm (.tup ts) (.tup us) := by
  unfold Cm
  exact h
theorem cms_all {ts us : List Tr} (h : ∀ t ∈ ts, ∀ u ∈ us, Cm t u) : Cms ts us := by
  induction ts generalizing us with
  | nil => exact cms_nil
  | cons t ts ih =>
    cases us with
    | nil => simp [Cms]
    | cons u us => exact cms_step (fun _ => h t List.mem_cons_self u List.mem_cons_self) (ih fun a ma b mb => h a (List.mem_cons_of_mem _ ma) b (List.mem_cons_of_mem _ mb))
theorem ty_cm : ∀ (n : Nat) {k : So} {t u : Tr}, t.depth ≤ n → Ty k t → Ty k u → Cm t u := by
  intro n
  induction n with
  | zero =>
    intro k t u hd h1 h2
    cases h1 <;> simp [Tr.depth] at hd
  | succ n ih =>
    intro k t u hd h1 h2
    have sub : ∀ {ts : List Tr} {t : Tr}, (Tr.tup ts).depth ≤ n + 1 → t ∈ ts → t.depth ≤ n := fun h m => by
      unfold Tr.depth at h
      have := depth_memT m
      omega
    have sub2 : ∀ {ts l : List Tr} {t : Tr}, (Tr.tup ts).depth ≤ n + 1 → Tr.tup l ∈ ts → t ∈ l → t.depth ≤ n := fun h m m2 => by
      have h3 := sub h m
      unfold Tr.depth at h3
      have := depth_memT m2
      omega
    cases h1 <;> cases h2 <;> refine cm_tup ?_
    all_goals first
      | exact cms_ne (by decide +kernel) (cm_str _ _)
      | skip
    · exact cms_step (fun _ => cm_str _ _) (cms_step (fun _ => cm_str _ _) cms_nil)
    · rename_i x ts _ h1 y us _ h2
      exact cms_step (fun _ => cm_str _ _) (cms_step (fun _ => cm_str _ _) (cms_step (fun _ => cm_tup (cms_all fun a ma b mb => ih (sub2 hd (by simp) ma) (h1 a ma) (h2 b mb))) cms_nil))
    · exact cms_step (fun _ => cm_int _ _) (cms_step (fun _ => cm_int _ _) cms_nil)
    · rename_i t1 f1 a1 b1 t2 f2 a2 b2
      exact cms_step (fun _ => ih (sub hd (by simp)) a1 a2) (cms_step (fun _ => ih (sub hd (by simp)) b1 b2) cms_nil)
    · exact cms_step (fun _ => cm_str _ _) (cms_step (fun _ => cm_str _ _) cms_nil)
    · rename_i p1 f1 a1 b1 p2 f2 a2 b2
      exact cms_step (fun _ => cm_str _ _) (cms_step (fun _ => cm_tup (cms_all fun a ma b mb => ih (sub2 hd (by simp) ma) (a1 a ma) (a2 b mb))) (cms_step (fun _ => ih (sub hd (by simp)) b1 b2) cms_nil))
    · rename_i t1 u1 a1 b1 t2 u2 a2 b2
      exact cms_step (fun _ => cm_str _ _) (cms_step (fun _ => ih (sub hd (by simp)) a1 a2) (cms_step (fun _ => ih (sub hd (by simp)) b1 b2) cms_nil))
    · rename_i w1 a1 w2 a2
      exact cms_step (fun _ => cm_str _ _) (cms_step (fun _ => ih (sub hd (by simp)) a1 a2) cms_nil)
    · rename_i l1 a1 l2 a2
      exact cms_step (fun _ => cm_str _ _) (cms_step (fun _ => cm_tup (cms_all fun a ma b mb => ih (sub2 hd (by simp) ma) (a1 a ma) (a2 b mb))) cms_nil)
    · rename_i l1 a1 l2 a2
      exact cms_step (fun _ => cm_str _ _) (cms_step (fun _ => cm_tup (cms_all fun a ma b mb => ih (sub2 hd (by simp) ma) (a1 a ma) (a2 b mb))) cms_nil)
    · rename_i w1 b1 a1 w2 b2 a2
      exact cms_step (fun _ => ih (sub hd (by simp)) a1 a2) (cms_step (fun _ => cm_bl _ _) cms_nil)
theorem pure_all {ts : List Tr} (h : ∀ t ∈ ts, t.pure) : Trs.pure ts := by
  induction ts with
  | nil => unfold Trs.pure; trivial
  | cons t ts ih =>
    unfold Trs.pure
    exact ⟨h t List.mem_cons_self, ih fun u m => h u (List.mem_cons_of_mem _ m)⟩
theorem ty_pure {k : So} {t : Tr} (h : Ty k t) : t.pure := by
  induction h with
  | nm x => simp [Tr.pure, Trs.pure]
  | ap x ts _ _ ih => simp only [Tr.pure, Trs.pure]; exact ⟨trivial, trivial, pure_all ih, trivial⟩
  | fr a b => simp [Tr.pure, Trs.pure]
  | pr t f _ _ h1 h2 => simp only [Tr.pure, Trs.pure]; exact ⟨h1, h2, trivial⟩
  | fl x => simp [Tr.pure, Trs.pure]
  | mo ps f _ _ h1 h2 => simp only [Tr.pure, Trs.pure]; exact ⟨trivial, pure_all h1, h2, trivial⟩
  | li t u _ _ h1 h2 => simp only [Tr.pure, Trs.pure]; exact ⟨trivial, h1, h2, trivial⟩
  | no w _ h1 => simp only [Tr.pure, Trs.pure]; exact ⟨trivial, h1, trivial⟩
  | bo l _ h1 => simp only [Tr.pure, Trs.pure]; exact ⟨trivial, pure_all h1, trivial⟩
  | ei l _ h1 => simp only [Tr.pure, Trs.pure]; exact ⟨trivial, pure_all h1, trivial⟩
  | lt w b _ h1 => simp only [Tr.pure, Trs.pure]; exact ⟨h1, trivial, trivial⟩
theorem ty_hd {t : Tr} (h : Ty .lt t ∨ Ty .pr t) : Hd t := by
  rcases h with h | h
  · cases h with
    | lt w b hw => cases hw <;> exact ⟨_, _, rfl⟩
  · cases h with
    | pr t f ht hf => cases ht <;> exact ⟨_, _, rfl⟩
end Tre
set_option linter.all false
namespace Mth
theorem gcd_fmod (a b : Int) : Int.gcd b (a.fmod b) = Int.gcd a b := by
  have e : a.fmod b = a - b * a.fdiv b := Int.fmod_def a b
  rw [e, Int.gcd_comm a b]
  have : a - b * a.fdiv b = a + b * (-(a.fdiv b)) := by rw [Int.mul_neg, Int.sub_eq_add_neg]
  rw [this]
  exact Int.gcd_add_mul_left_right ..
theorem fmod_lt {a b : Int} (h : b ≠ 0) : (a.fmod b).natAbs < b.natAbs := by
  by_cases hb : 0 < b
  · have h1 := Int.fmod_nonneg_of_pos a hb
    have h2 := Int.fmod_lt_of_pos a hb
    omega
  · have h3 : 0 < -b := by omega
    have e : a.fmod b = -((-a).fmod (-b)) := by
      rw [Int.neg_fmod_neg, Int.neg_neg]
    have h1 := Int.fmod_nonneg_of_pos (-a) h3
    have h2 := Int.fmod_lt_of_pos (-a) h3
    omega
def dv (t b : Int) : Int := if b < 0 then -(Int.gcd t b : Int) else (Int.gcd t b : Int)
def fx (t b : Int) : Int := t.fdiv (dv t b)
def fy (t b : Int) : Int := b.fdiv (dv t b)
theorem dv_ne {t b : Int} (h : b ≠ 0) : dv t b ≠ 0 := by
  have : 0 < Int.gcd t b := Int.gcd_pos_of_ne_zero_right t h
  unfold dv
  split <;> omega
theorem dv_abs {t b : Int} : (dv t b).natAbs = Int.gcd t b := by
  unfold dv
  split <;> omega
theorem dv_dvd {t b : Int} : dv t b ∣ t ∧ dv t b ∣ b := by
  have h1 : ((Int.gcd t b : Nat) : Int) ∣ t := Int.gcd_dvd_left ..
  have h2 : ((Int.gcd t b : Nat) : Int) ∣ b := Int.gcd_dvd_right ..
  unfold dv
  split
  · exact ⟨Int.neg_dvd.mpr h1, Int.neg_dvd.mpr h2⟩
  · exact ⟨h1, h2⟩
theorem parts {t b : Int} (h : b ≠ 0) : t = dv t b * fx t b ∧ b = dv t b * fy t b := by
  obtain ⟨⟨x, hx⟩, ⟨y, hy⟩⟩ := dv_dvd (t := t) (b := b)
  have n := dv_ne (t := t) h
  have e1 : fx t b = x := by
    unfold fx
    generalize dv t b = d at *
    rw [hx]
    exact Int.mul_fdiv_cancel_left _ n
  have e2 : fy t b = y := by
    unfold fy
    generalize dv t b = d at *
    rw [hy]
    exact Int.mul_fdiv_cancel_left _ n
  rw [e1, e2]
  exact ⟨hx, hy⟩
theorem lowest {t b : Int} (h : b ≠ 0) : Int.gcd (fx t b) (fy t b) = 1 := by
  obtain ⟨e1, e2⟩ := parts (t := t) h
  have g : 0 < Int.gcd t b := Int.gcd_pos_of_ne_zero_right t h
  have e : Int.gcd t b = (dv t b).natAbs * Int.gcd (fx t b) (fy t b) := by
    have : Int.gcd t b = Int.gcd (dv t b * fx t b) (dv t b * fy t b) := by rw [← e1, ← e2]
    rw [this, Int.gcd_mul_left]
  rw [dv_abs] at e
  have := Nat.eq_of_mul_eq_mul_left g (show Int.gcd t b * 1 = Int.gcd t b * Int.gcd (fx t b) (fy t b) by rw [← e, Nat.mul_one])
  exact this.symm
end Mth
set_option linter.all false
namespace Mth
def Share (x y : Int) : Prop := 0 < y ∧ Int.gcd x y = 1
theorem cop_mul {x y z : Int} (h1 : Int.gcd x y = 1) (h2 : Int.gcd x z = 1) : Int.gcd x (y * z) = 1 := by
  show Nat.gcd x.natAbs (y * z).natAbs = 1
  rw [Int.natAbs_mul]
  exact Nat.Coprime.mul_right h1 h2
theorem cop_mul' {x y z : Int} (h1 : Int.gcd y x = 1) (h2 : Int.gcd z x = 1) : Int.gcd (y * z) x = 1 := by
  rw [Int.gcd_comm]
  exact cop_mul (by rw [Int.gcd_comm]; exact h1) (by rw [Int.gcd_comm]; exact h2)
theorem cop_left {x x' y : Int} (h : Int.gcd (x' * x) y = 1) : Int.gcd x' y = 1 := by
  have e : Nat.gcd (x' * x).natAbs y.natAbs = 1 := h
  rw [Int.natAbs_mul] at e
  exact Nat.Coprime.coprime_mul_right e
theorem cop_left' {x x' y : Int} (h : Int.gcd (x * x') y = 1) : Int.gcd x' y = 1 := by
  rw [Int.mul_comm] at h
  exact cop_left h
theorem cop_right {x y y' : Int} (h : Int.gcd x (y * y') = 1) : Int.gcd x y' = 1 := by
  rw [Int.gcd_comm] at h ⊢
  exact cop_left' h
theorem two_parts {x y : Int} (h : y ≠ 0) : ∃ x' y' : Int, x = (Int.gcd x y : Int) * x' ∧ y = (Int.gcd x y : Int) * y' ∧ Int.gcd x' y' = 1 ∧ x / (Int.gcd x y : Int) = x' ∧ y / (Int.gcd x y : Int) = y' := by
  have g : 0 < Int.gcd x y := Int.gcd_pos_of_ne_zero_right x h
  obtain ⟨x', hx⟩ : ((Int.gcd x y : Nat) : Int) ∣ x := Int.gcd_dvd_left ..
  obtain ⟨y', hy⟩ : ((Int.gcd x y : Nat) : Int) ∣ y := Int.gcd_dvd_right ..
  have n : ((Int.gcd x y : Nat) : Int) ≠ 0 := by omega
  refine ⟨x', y', hx, hy, ?_, ?_, ?_⟩
  · have e : Int.gcd x y = Int.gcd x y * Int.gcd x' y' := by
      have : Int.gcd x y = Int.gcd ((Int.gcd x y : Int) * x') ((Int.gcd x y : Int) * y') := by rw [← hx, ← hy]
      rw [Int.gcd_mul_left, Int.natAbs_natCast] at this
      exact this
    have := Nat.eq_of_mul_eq_mul_left g (show Int.gcd x y * 1 = Int.gcd x y * Int.gcd x' y' by rw [← e, Nat.mul_one])
    exact this.symm
  · generalize ((Int.gcd x y : Nat) : Int) = k at *
    rw [hx]
    exact Int.mul_ediv_cancel_left _ n
  · generalize ((Int.gcd x y : Nat) : Int) = k at *
    rw [hy]
    exact Int.mul_ediv_cancel_left _ n
theorem pos_of_mul {k x : Int} (hk : 0 ≤ k) (h : 0 < k * x) : 0 < x := by
  by_cases q : 0 < x
  · exact q
  · have := Int.mul_nonpos_of_nonneg_of_nonpos hk (show x ≤ 0 by omega)
    omega
def pT (a b c d : Int) : Int := a * (d / (Int.gcd b d : Int)) + c * (b / (Int.gcd b d : Int))
def pE (a b c d : Int) : Int := (Int.gcd (pT a b c d) (Int.gcd b d : Int) : Int)
def pX (a b c d : Int) : Int := pT a b c d / pE a b c d
def pY (a b c d : Int) : Int := b / (Int.gcd b d : Int) * (d / pE a b c d)
theorem plus_ok {a b c d : Int} (h1 : Share a b) (h2 : Share c d) : Share (pX a b c d) (pY a b c d) ∧ pX a b c d * (b * d) = (a * d + c * b) * pY a b c d := by
  obtain ⟨b0, g1⟩ := h1
  obtain ⟨d0, g2⟩ := h2
  obtain ⟨b', d', eb, ed, g3, qb, qd⟩ := two_parts (x := b) (y := d) (by omega)
  have s0 : (0 : Int) < (Int.gcd b d : Int) := by
    have : 0 < Int.gcd b d := Int.gcd_pos_of_ne_zero_right b (by omega)
    omega
  have eT : pT a b c d = a * d' + c * b' := by unfold pT; rw [qb, qd]
  unfold pX pY
  have eE : pE a b c d = (Int.gcd (a * d' + c * b') (Int.gcd b d : Int) : Int) := by unfold pE; rw [eT]
  rw [eE, eT, qb]
  generalize ((Int.gcd b d : Nat) : Int) = s at *
  obtain ⟨t', s', et, es, g4, qt, qs⟩ := two_parts (x := a * d' + c * b') (y := s) (by omega)
  have e0 : (0 : Int) < (Int.gcd (a * d' + c * b') s : Int) := by
    have : 0 < Int.gcd (a * d' + c * b') s := Int.gcd_pos_of_ne_zero_right _ (by omega)
    omega
  have b0' : 0 < b' := pos_of_mul (k := s) (by omega) (by omega)
  have d0' : 0 < d' := pos_of_mul (k := s) (by omega) (by omega)
  have cT1 : Int.gcd (a * d' + c * b') b' = 1 := by
    have : Int.gcd (a * d' + c * b') b' = Int.gcd (a * d') b' := by
      rw [Int.gcd_comm, Int.gcd_comm (a * d')]
      have e : a * d' + c * b' = a * d' + b' * c := by rw [Int.mul_comm c b']
      rw [e]
      exact Int.gcd_add_mul_left_right ..
    rw [this]
    refine cop_mul' ?_ (by rw [Int.gcd_comm]; exact g3)
    rw [eb] at g1
    exact cop_right g1
  have cT2 : Int.gcd (a * d' + c * b') d' = 1 := by
    have : Int.gcd (a * d' + c * b') d' = Int.gcd (c * b') d' := by
      rw [Int.gcd_comm, Int.gcd_comm (c * b')]
      have e : a * d' + c * b' = c * b' + d' * a := by rw [Int.mul_comm a d', Int.add_comm]
      rw [e]
      exact Int.gcd_add_mul_left_right ..
    rw [this]
    refine cop_mul' ?_ g3
    rw [ed] at g2
    exact cop_right g2
  rw [qt]
  generalize ((Int.gcd (a * d' + c * b') s : Nat) : Int) = e at *
  have s0' : 0 < s' := pos_of_mul (k := e) (by omega) (by omega)
  have qd2 : d / e = d' * s' := by
    rw [ed, es, Int.mul_assoc, Int.mul_ediv_cancel_left _ (by omega), Int.mul_comm]
  rw [qd2]
  generalize ht : a * d' + c * b' = t at *
  refine ⟨⟨Int.mul_pos b0' (Int.mul_pos d0' s0'), ?_⟩, ?_⟩
  · rw [et] at cT1 cT2
    exact cop_mul (cop_left' cT1) (cop_mul (cop_left' cT2) g4)
  · have e1 : a * d + c * b = s * t := by
      rw [ed, eb, ← ht, Int.mul_add]
      simp only [Int.mul_left_comm]
    rw [e1, et, eb, ed]
    have e2 : s * (e * t') * (b' * (d' * s')) = s * t' * b' * d' * (e * s') := by
      simp only [Int.mul_assoc, Int.mul_left_comm, Int.mul_comm]
    rw [e2, ← es]
    simp only [Int.mul_assoc, Int.mul_left_comm, Int.mul_comm]
def tX (a b c d : Int) : Int := a / (Int.gcd a d : Int) * (c / (Int.gcd c b : Int))
def tY (a b c d : Int) : Int := b / (Int.gcd c b : Int) * (d / (Int.gcd a d : Int))
theorem times_ok {a b c d : Int} (h1 : Share a b) (h2 : Share c d) : Share (tX a b c d) (tY a b c d) ∧ tX a b c d * (b * d) = a * c * tY a b c d := by
  obtain ⟨b0, g1⟩ := h1
  obtain ⟨d0, g2⟩ := h2
  obtain ⟨a', d', ea, ed, g3, qa, qd⟩ := two_parts (x := a) (y := d) (by omega)
  obtain ⟨c', b', ec, eb, g4, qc, qb⟩ := two_parts (x := c) (y := b) (by omega)
  have f0 : (0 : Int) ≤ (Int.gcd a d : Int) := by omega
  have k0 : (0 : Int) ≤ (Int.gcd c b : Int) := by omega
  unfold tX tY
  rw [qa, qd, qc, qb]
  generalize ((Int.gcd a d : Nat) : Int) = f at *
  generalize ((Int.gcd c b : Nat) : Int) = k at *
  have b0' : 0 < b' := pos_of_mul k0 (by omega)
  have d0' : 0 < d' := pos_of_mul f0 (by omega)
  subst ea ed ec eb
  have h1 : Int.gcd a' b' = 1 := cop_left' (cop_right g1)
  have h2 : Int.gcd c' d' = 1 := cop_left' (cop_right g2)
  refine ⟨⟨Int.mul_pos b0' d0', cop_mul' (cop_mul h1 g3) (cop_mul g4 h2)⟩, ?_⟩
  simp only [Int.mul_assoc, Int.mul_left_comm, Int.mul_comm]
theorem contrary_share {c d : Int} (h : Share c d) : Share (-c) d := ⟨h.1, by rw [Int.gcd_comm, Int.gcd_neg, Int.gcd_comm]; exact h.2⟩
theorem div_abs (a b : Int) : (a / b).natAbs ≤ a.natAbs := Int.natAbs_ediv_le_natAbs a b
end Mth
set_option Elab.async false
set_option linter.all false
set_option maxRecDepth 100000
set_option maxHeartbeats 1000000
namespace L2
section
open PySem
variable {prog : Program} {w : World} {A : Around} {R : Result → Shared → Prop} {s : Shared}
theorem comp_turns {elt target iter : Expr} {ifs : List Expr} {scope : Scope} {pos : Pos} {it acc : Value} {env : Env} (I : Nat → Shared → Prop)
    (turn : ∀ n s, I n s → wpAny (model prog w) A (pyNext it) (fun r s₁ => match r with
      | none => R (.ok .next) s₁
      | some v => wpAny (model prog w) A (letOwnedTupleGo target it v) (fun _ s₁' => wpAny (model prog w) A (assign target env v) (fun _ s₂ =>
          wpAny (model prog w) A (forIn ifs true fun c r => if r = true then do let ok ← isTrue c env (eval c env); pure (ForInStep.yield ok) else pure (ForInStep.yield r)) (fun ok s₃ =>
            if ok = true then wpAny (model prog w) A (eval elt env) (fun x s₄ =>
              wpAny (model prog w) A (call (.builtin "list.append") [acc, x]) (fun _ s₅ => ∃ m, m < n ∧ I m s₅) (fun _ _ => False) s₄) (fun _ _ => False) s₃
            else ∃ m, m < n ∧ I m s₃) (fun _ _ => False) s₂) (fun _ _ => False) s₁') (fun _ _ => False) s₁) (fun _ _ => False) s)
    (n : Nat) (h : I n s) : codeAny (model prog w) A (.compLoop (.ListComp elt [⟨target, iter, ifs, 0⟩] scope pos) 0 it acc env) R s := by
  refine codeAny_loop rfl I (fun n s hI => ?_) n h
  show wpAny _ A ((compTurn (.ListComp elt [⟨target, iter, ifs, 0⟩] scope pos) 0 it acc env).onRaise (fun x => do noteFrame x env; theTreesLotGoes x)) _ _ s
  refine wpAny_noted ?_
  rw [compTurn_list]
  refine wpAny_bind (wpAny_standAt (wpAny_bind (wpAny_mono (turn n s hI) (fun r s₁ h₁ => ?_) fun _ _ z => z.elim)))
  cases r with
  | none => exact wpAny_pure h₁
  | some v =>
    refine wpAny_bind (wpAny_mono h₁ (fun _ s₁' h₁' => ?_) fun _ _ z => z.elim)
    refine wpAny_bind (wpAny_mono h₁' (fun _ s₂ h₂ => wpAny_bind (wpAny_mono h₂ (fun ok s₃ h₃ => ?_) fun _ _ z => z.elim)) fun _ _ z => z.elim)
    cases ok with
    | false => exact wpAny_pure ⟨rfl, h₃⟩
    | true =>
      exact wpAny_bind (wpAny_bind (wpAny_mono h₃ (fun x s₄ h₄ => wpAny_bind (wpAny_mono h₄ (fun _ s₅ h₅ => wpAny_pure (wpAny_pure ⟨rfl, h₅⟩)) fun _ _ z => z.elim)) fun _ _ z => z.elim))
def closOf (names : List (Str × NameKind)) (cells : List (Str × Addr)) : List (Str × Addr) → List (Str × Addr) := match names with
  | [] => fun cs => cs
  | (n, k) :: r => fun cs => closOf r cells (if (k == .free) = true then (n, (cells.lookup n).getD 0) :: cs else cs)
def hasCells (names : List (Str × NameKind)) (cells : List (Str × Addr)) : Bool := names.all fun y => !(y.2 == .free) || (cells.lookup y.1).isSome
theorem clos_go (env : Env) : ∀ (names : List (Str × NameKind)) (cs : List (Str × Addr)), hasCells names env.cells = true →
    (forIn names cs fun (x : Str × NameKind) (r : List (Str × Addr)) => match x with
      | (name, kind) => if (kind == NameKind.free) = true then do let __do_lift ← cellOf env name; pure (ForInStep.yield ((name, __do_lift) :: r)) else pure (ForInStep.yield r) : Sem (List (Str × Addr))) = pure (closOf names env.cells cs)
  | [], cs, _ => rfl
  | (n, k) :: r, cs, h => by
    unfold hasCells at h
    rw [List.all_cons, Bool.and_eq_true] at h
    rw [List.forIn_cons]
    unfold closOf
    by_cases hk : (k == NameKind.free) = true
    · rw [if_pos hk]
      dsimp only
      rw [if_pos hk]
      have h1 : (env.cells.lookup n).isSome = true := by
        have := h.1
        rw [hk] at this
        simpa using this
      obtain ⟨c, hc⟩ := Option.isSome_iff_exists.mp h1
      have e : cellOf env n = pure c := by unfold cellOf; rw [hc]
      rw [e, hc]
      exact clos_go env r _ h.2
    · rw [if_neg hk]
      dsimp only
      rw [if_neg hk]
      exact clos_go env r _ h.2
theorem clos_eq {scope : Scope} {env : Env} (h : hasCells scope.names env.cells = true) : closureFor scope env = pure (closOf scope.names env.cells []) := by
  unfold closureFor
  have := clos_go env scope.names [] h
  simp only [bind_pure]
  exact this
theorem clos_sub {cells : List (Str × Addr)} : ∀ (names : List (Str × NameKind)) (cs : List (Str × Addr)), hasCells names cells = true → (∀ y c, cs.lookup y = some c → cells.lookup y = some c) → ∀ y c, (closOf names cells cs).lookup y = some c → cells.lookup y = some c
  | [], cs, _, hc, y, c, e => hc y c e
  | (n, k) :: r, cs, h, hc, y, c, e => by
    unfold hasCells at h
    rw [List.all_cons, Bool.and_eq_true] at h
    refine clos_sub r _ h.2 (fun z d q => ?_) y c e
    by_cases hk : (k == NameKind.free) = true
    · rw [if_pos hk, List.lookup_cons] at q
      cases zn : (z == n) with
      | true =>
        rw [zn] at q
        have h1 : (cells.lookup n).isSome = true := by
          have := h.1
          rw [hk] at this
          simpa using this
        obtain ⟨c', hc'⟩ := Option.isSome_iff_exists.mp h1
        have zn' : z = n := by simpa using zn
        rw [zn', hc']
        have q' : some ((cells.lookup n).getD 0) = some d := q
        rw [hc'] at q'
        exact q'
      | false =>
        rw [zn] at q
        exact hc z d q
    · rw [if_neg hk] at q
      exact hc z d q
theorem clos_keep {cells : List (Str × Addr)} : ∀ (names : List (Str × NameKind)) (cs : List (Str × Addr)) (y : Str), (∃ c, cs.lookup y = some c) → ∃ c, (closOf names cells cs).lookup y = some c
  | [], cs, y, h => h
  | (n, k) :: r, cs, y, h => by
    refine clos_keep r _ y ?_
    by_cases hk : (k == NameKind.free) = true
    · rw [if_pos hk, List.lookup_cons]
      cases zn : (y == n) with
      | true => exact ⟨_, rfl⟩
      | false => exact h
    · rw [if_neg hk]
      exact h
theorem clos_has {cells : List (Str × Addr)} : ∀ (names : List (Str × NameKind)) (cs : List (Str × Addr)) (y : Str), (y, NameKind.free) ∈ names → ∃ c, (closOf names cells cs).lookup y = some c
  | [], _, y, h => by cases h
  | (n, k) :: r, cs, y, h => by
    rcases List.mem_cons.mp h with e | h
    · obtain ⟨e1, e2⟩ := Prod.mk.inj e
      subst e1
      subst e2
      unfold closOf
      refine clos_keep r _ y ?_
      rw [if_pos (show (NameKind.free == NameKind.free) = true from rfl), List.lookup_cons]
      have : (y == y) = true := by simp
      rw [this]
      exact ⟨_, rfl⟩
    · exact clos_has r _ y h
end
open PySem PySem.Spec PyProof.Rows
abbrev XC (X : Cx) (scope : Scope) (NC : List Str) (C : Addr) (s : Shared) (H : Hp) (fp : List Addr) (pn : List (Addr × Obj)) : Cx :=
  { X with N := NC, s₀ := s, H₀ := H, env := compEnvC scope (closOf scope.names X.env.cells []) C X.env, outer := X.stack, stack := X.stack, ex := fp, fn := fun _ => false, pn := pn, xe := fun _ _ => False }
def subS (mp : List (Option Nat)) (σ : St) : St := mp.map fun o => match o with
  | some i => (σ[i]?).getD none
  | none => none
def okMap (N NC : List Str) (mp : List (Option Nat)) (names outer : List (Str × NameKind)) : Bool := (List.range mp.length).all fun j => match mp[j]? with
  | some (some i) => (match NC[j]?, N[i]? with
    | some y, some z => y == z && names.lookup y == some NameKind.free && (outer.lookup y == some NameKind.cell || outer.lookup y == some NameKind.free)
    | _, _ => false)
  | _ => true
theorem okMap_at {N NC : List Str} {mp : List (Option Nat)} {names outer : List (Str × NameKind)} (h : okMap N NC mp names outer = true) {j i : Nat} (e : mp[j]? = some (some i)) : ∃ y, NC[j]? = some y ∧ N[i]? = some y ∧ names.lookup y = some .free ∧ (outer.lookup y = some .cell ∨ outer.lookup y = some .free) := by
  unfold okMap at h
  rw [List.all_eq_true] at h
  have hj : j < mp.length := (List.getElem?_eq_some_iff.mp e).1
  have := h j (List.mem_range.mpr hj)
  rw [e] at this
  dsimp only at this
  split at this
  · rename_i y z e1 e2
    simp only [Bool.and_eq_true, Bool.or_eq_true, beq_iff_eq] at this
    obtain ⟨⟨rfl, h2⟩, h3⟩ := this
    exact ⟨y, e1, e2, h2, h3⟩
  · cases this
def PTs (X : Cx) (ifs : List Expr) (t : TT) : Prop :=
  ∀ (pins : List (Addr × Obj)) (s : Shared) (σ : St) (H : Hp) (Q : Bool → Hp → Prop), Inv X pins σ H s → t σ H Q →
    wpAny (model X.prog X.w) X.A (forIn ifs true fun c r => if r = true then do let ok ← isTrue c X.env (eval c X.env); pure (ForInStep.yield ok) else pure (ForInStep.yield r)) (TP X pins σ Q) X.xe s
def tNoTest : TT := fun _ H Q => Q true H
theorem pts_nil {X : Cx} : PTs X [] tNoTest := fun _ _ σ H Q I h => wpAny_tests_nil ⟨H, I, h⟩
theorem pts_one {X : Cx} {c : Expr} {t : TT} (hc : PT X c t) : PTs X [c] t := fun pins s σ H Q I h => wpAny_tests_one (hc pins s σ H Q I h)
def Ext (σ σ' : St) : Prop := ∀ (j : Nat) (v : V), σ[j]? = some (some v) → σ'[j]? = some (some v)
theorem Ext.refl (σ : St) : Ext σ σ := fun _ _ e => e
theorem ext1 {o : Option V} {r : St} : Ext (none :: r) (o :: r)
  | 0, v, e => by cases (Option.some.inj (show some (none : Option V) = some (some v) from e))
  | j + 1, v, e => e
theorem ext2 {o p : Option V} {r : St} : Ext (none :: none :: r) (o :: p :: r)
  | 0, v, e => by cases (Option.some.inj (show some (none : Option V) = some (some v) from e))
  | 1, v, e => by cases (Option.some.inj (show some (none : Option V) = some (some v) from e))
  | j + 2, v, e => e
def tComp (mp : List (Option Nat)) (wi : TI) (g : TG) (tc : TT) (te : TE) : TE := fun σ H Q => wi σ H fun J H1 => ∀ D, H1 D = none →
  ∃ W : Nat → Nat → List V → Hp → Prop, (∃ m, W 0 m [] (upd H1 D (.lst []))) ∧ ∀ i m acc H2, W i m acc H2 →
    (J.stop i H2 ∧ Q (.ref D) H2) ∨
    (J.go i H2 ∧ ∀ x H3, J.yld i H2 x H3 → g x (subS mp σ) H3 fun σ4 H4 => Ext (subS mp σ) σ4 ∧ tc σ4 H4 fun b H5 => if b = true then te σ4 H5 fun v H6 => H6 D = some (.lst acc) ∧ acc.length < sizeLine ∧ ∃ m', m' < m ∧ W (i + 1) m' (acc ++ [v]) (upd H6 D (.lst (acc ++ [v])))
      else ∃ m', m' < m ∧ W (i + 1) m' acc H5)
end L2
set_option Elab.async false
set_option linter.all false
set_option maxRecDepth 100000
set_option maxHeartbeats 1000000
namespace L2
open PySem PySem.Spec PyProof.Rows
theorem lookup_relabel_free {env : Env} : ∀ {names : List (Str × NameKind)} {x : Str}, names.lookup x = some .free →
    (names.map fun (n, k) => if (k == NameKind.free && env.scope.kind == .function && env.kindOf n == some .cell) then (n, NameKind.cell) else (n, k)).lookup x = some .cell ∨
    (names.map fun (n, k) => if (k == NameKind.free && env.scope.kind == .function && env.kindOf n == some .cell) then (n, NameKind.cell) else (n, k)).lookup x = some .free
  | [], _, h => by simp at h
  | (n, k) :: r, x, h => by
    have ih := @lookup_relabel_free env r x
    show List.lookup x ((if (k == NameKind.free && env.scope.kind == .function && env.kindOf n == some .cell) = true then (n, NameKind.cell) else (n, k)) :: _) = _ ∨ List.lookup x ((if (k == NameKind.free && env.scope.kind == .function && env.kindOf n == some .cell) = true then (n, NameKind.cell) else (n, k)) :: _) = _
    cases hx : x == n with
    | true =>
      simp only [List.lookup_cons, hx] at h
      cases h
      by_cases hc : (NameKind.free == NameKind.free && env.scope.kind == .function && env.kindOf n == some .cell) = true
      · rw [if_pos hc]
        left
        simp only [List.lookup_cons, hx]
      · rw [if_neg hc]
        right
        simp only [List.lookup_cons, hx]
    | false =>
      simp only [List.lookup_cons, hx] at h
      by_cases hc : (k == NameKind.free && env.scope.kind == .function && env.kindOf n == some .cell) = true
      · rw [if_pos hc]
        simp only [List.lookup_cons, hx]
        exact ih h
      · rw [if_neg hc]
        simp only [List.lookup_cons, hx]
        exact ih h
theorem relabel_mem {env : Env} : ∀ {names : List (Str × NameKind)} {x : Str}, (∀ y ∈ names, y.2 ≠ .cell) →
    ((names.map fun (n, k) => if (k == NameKind.free && env.scope.kind == .function && env.kindOf n == some .cell) then (n, NameKind.cell) else (n, k)).lookup x = some .cell ∨
    (names.map fun (n, k) => if (k == NameKind.free && env.scope.kind == .function && env.kindOf n == some .cell) then (n, NameKind.cell) else (n, k)).lookup x = some .free) → (x, NameKind.free) ∈ names
  | [], _, _, h => by simp at h
  | (n, k) :: r, x, hn, h => by
    have ih := @relabel_mem env r x (fun y hy => hn y (List.mem_cons_of_mem _ hy))
    have nk : k ≠ .cell := hn (n, k) List.mem_cons_self
    rw [List.map_cons] at h
    dsimp only at h
    cases hx : x == n with
    | true =>
      have xn : x = n := by simpa using hx
      subst xn
      by_cases hc : (k == NameKind.free && env.scope.kind == .function && env.kindOf x == some .cell) = true
      · have : k = .free := by
          have := hc
          rw [Bool.and_eq_true, Bool.and_eq_true] at this
          simpa using this.1.1
        rw [this]
        exact List.mem_cons_self
      · rw [if_neg hc, List.lookup_cons, hx] at h
        rcases h with h | h
        · exact absurd (Option.some.inj h) nk
        · cases (Option.some.inj h)
          exact List.mem_cons_self
    | false =>
      refine List.mem_cons_of_mem _ (ih ?_)
      by_cases hc : (k == NameKind.free && env.scope.kind == .function && env.kindOf n == some .cell) = true
      · rw [if_pos hc, List.lookup_cons, hx] at h
        exact h
      · rw [if_neg hc, List.lookup_cons, hx] at h
        exact h
section
variable {X : Cx} {pins : List (Addr × Obj)} {σ : St} {H : Hp} {s : Shared}
theorem Inv.block {scope : Scope} {NC : List Str} {mp : List (Option Nat)} {fp : List Addr} {h1 : Heap} {tk : Nat} {m : Str → Option Value} (I : Inv X pins σ H s) (hf : ∀ b ∈ fp, FpOk X pins H b) (hlt : ∀ b ∈ fp, b < s.heap.objs.size) (hk : scope.kind = .function) (hnc : ∀ y ∈ scope.names, y.2 ≠ .cell)
    (hc : hasCells scope.names X.env.cells = true) (hl : mp.length = NC.length) (hm : okMap X.N NC mp scope.names X.env.scope.names = true) (kp : ∀ b o, s.heap.get? b = some o → h1.get? b = some o) (hn : h1.Ns s.heap.objs.size m) :
    Inv (XC X scope NC s.heap.objs.size s H fp (X.pn ++ pins)) [] (subS mp σ) H { s with heap := h1, toks := tk } := by
  have sub := clos_sub (cells := X.env.cells) scope.names [] hc (fun y c e => by cases e)
  have lt : ∀ b o, s.heap.get? b = some o → b ≠ s.heap.objs.size := fun b o e => Nat.ne_of_lt (Heap.lt_size e)
  have nst : ∀ b, b ≠ X.env.locals → b ∉ X.fs → b ∉ frs X.stack := fun b h1 h2 z => by
    rcases List.mem_cons.mp (I.stkSub b z) with e | e
    · exact h1 e
    · exact h2 e
  refine ⟨⟨I.ok.mod, hk, I.ok.glob, I.ok.blt, Nat.le_refl _, fun x y c e1 e2 => I.ok.inj x y c (sub x c e1) (sub y c e2), fun x hx => ?_, (fun _ _ z => by cases z), I.ok.hd, I.ok.frames, .inl rfl, fun b hb => ?_, fun b o e => ?_, Nat.le_trans I.ok.bsz I.sz, fun b o e hb => ?_, fun b hb => ?_, I.stack, I.stkFree⟩,
    rfl, I.bare, Un.kept kp, ⟨m, hn, fun j y v e1 e2 e3 => ?_⟩, fun y c e => ?_, I.hok.fresh (Nat.le_refl _), fun y c e => I.freeC y c (sub y c e), fun p hp => ?_, I.hok.kept kp, ?_⟩
  · exact clos_has scope.names [] x (relabel_mem hnc hx)
  · obtain ⟨f0, f1, f2, f3, f4, f5⟩ := hf b hb
    exact ⟨Nat.ne_of_lt (hlt b hb), fun x c e => f4 x c (sub x c e)⟩
  · obtain ⟨h1, h2⟩ := I.bs b o e
    exact ⟨h1, h2⟩
  · obtain ⟨f0, f1, f2, f3, f4, f5⟩ := hf b hb
    rcases f3 with z | z
    · exact I.ok.noex b o e z
    · exact absurd (Nat.lt_of_lt_of_le (Heap.lt_size e) (Nat.le_trans I.ok.bsz z)) (Nat.lt_irrefl _)
  · obtain ⟨f0, f1, f2, f3, f4, f5⟩ := hf b hb
    exact nst b f1 f2
  · -- a captured name
    unfold subS at e2
    rw [List.getElem?_map] at e2
    cases q : mp[j]? with
    | none => rw [q] at e2; cases e2
    | some o =>
      rw [q] at e2
      cases o with
      | none => cases e2
      | some i =>
        have e2' : some ((σ[i]?).getD none) = some (some v) := e2
        obtain ⟨z, y1, y2, y3, y4⟩ := okMap_at hm q
        have yz : y = z := Option.some.inj ((show NC[j]? = some y from e1).symm.trans y1)
        subst yz
        have e4 : σ[i]? = some (some v) := by
          cases w : σ[i]? with
          | none => rw [w] at e2'; cases e2'
          | some t => rw [w] at e2'; exact e2'
        obtain ⟨m0, hn0, hl0⟩ := I.loc
        obtain ⟨c, hcl⟩ := clos_has (cells := X.env.cells) scope.names [] y (PySem.mem_of_lookup y3)
        have hcx := sub y c hcl
        have vis : Vis X.env.scope y := .inr y4
        obtain ⟨u, ru, lk⟩ := hl0 i y v y2 e4 vis
        refine ⟨u, ru, .inr ⟨lookup_relabel_free y3, c, hcl, ?_⟩⟩
        rcases lk with ⟨k1, _⟩ | ⟨_, c', k2, k3⟩
        · have k1' : X.env.scope.names.lookup y = some .local := k1
          rcases y4 with y4 | y4 <;> (rw [y4] at k1'; cases k1')
        · rw [hcx] at k2
          cases k2
          obtain ⟨oc, q1, q2⟩ := k3
          exact ⟨oc, kp _ _ q1, q2⟩
  · obtain ⟨v, oc, q1, q2⟩ := I.cell y c (sub y c e)
    exact ⟨v, oc, kp _ _ q1, q2⟩
  · have hp' : p ∈ X.pn ++ pins := by simpa using hp
    obtain ⟨q1, q2, q3, q4, q5⟩ := I.pin p hp'
    exact ⟨kp _ _ q1, q2, lt _ _ q1, nst _ q3 q4, q5⟩
  · show (subS mp σ).length = NC.length
    unfold subS
    rw [List.length_map, hl]

variable {elt target iter : Expr} {ifs : List Expr} {scope : Scope} {NC : List Str} {mp : List (Option Nat)} {pos : Pos} {wi : TI} {g : TG} {tc : TT} {te : TE}
theorem pe_comp (hcalm : X.calm = true) (hi : PI X target iter wi) (hg : ∀ C s H fp pn, PG (XC X scope NC C s H fp pn) target g) (ht : ∀ C s H fp pn, PTs (XC X scope NC C s H fp pn) ifs tc) (he : ∀ C s H fp pn, PE (XC X scope NC C s H fp pn) elt te)
    (hl : mp.length = NC.length := by rfl) (hm : okMap X.N NC mp scope.names X.env.scope.names = true := by rfl) (hc : hasCells scope.names X.env.cells = true := by rfl) (hk : scope.kind = .function := by rfl)
    (hnc : ∀ y ∈ scope.names, y.2 ≠ .cell := by decide +kernel) (hnm : ∀ y ∈ scope.names, y.2 = .local → scope.names.lookup y.1 = some .local := by decide +kernel) (hs : ∀ x, foldedSetIterable iter X.env x = pure x := by intro _; rfl) :
    PE X (.ListComp elt [⟨target, iter, ifs, 0⟩] scope pos) (tComp mp wi g tc te) := by
  intro pins s σ H Q I h
  rw [eval_ListComp]
  refine wpAny_comprehension_free (use := none) rfl hs (clos_eq hc) hk hnm (thn (hi pins s σ H _ I h) fun v s1 h1 => thn h1 fun itv s2 h2 => ?_)
  obtain ⟨it, fp, tn, J, H2, e, I2, T, st2, f2, W⟩ := h2
  subst e
  refine wpAny_newObj_type ?_ (by show 0 ≤ sizeLine; decide)
  have nD : H2 s2.heap.objs.size = none := I2.hok.fresh (Nat.le_refl _)
  have I3 : Inv X pins σ (upd H2 s2.heap.objs.size (.lst [])) { s2 with heap := s2.heap.push { cls := .type "list", data := .seq ([] : List Value).toArray } } :=
    I2.laid (t' := s2.toks) (fun b u e => Heap.get?_push_of_some _ e) (Nat.le_refl _) ⟨by show 0 ≤ sizeLine; decide, [], 0, .nil, Heap.get?_push_size _ rfl⟩
  obtain ⟨W, ⟨m0, w0⟩, turn⟩ := W _ nD
  have lt2 : ∀ b ∈ fp, b < s2.heap.objs.size := fun b hb => by
    obtain ⟨o, e, _⟩ := T.obj 0 _ st2 b hb
    exact Heap.lt_size e
  have nDf : ∀ b ∈ fp, b ≠ s2.heap.objs.size := fun b hb => Nat.ne_of_lt (lt2 b hb)
  have f3 : ∀ b ∈ fp, FpOk X pins (upd H2 s2.heap.objs.size (.lst [])) b := fun b hb => by
    obtain ⟨g0, g1⟩ := f2 b hb
    exact ⟨by rw [upd_ne (nDf b hb)]; exact g0, g1⟩
  have st3 : tn 0 (s2.heap.push { cls := .type "list", data := .seq ([] : List Value).toArray }) := T.keep 0 _ _ st2 fun b _ o e => Heap.get?_push_of_some _ e
  have lt3 : ∀ b ∈ fp, b < (s2.heap.push { cls := .type "list", data := .seq ([] : List Value).toArray }).objs.size := fun b hb => by
    rw [Heap.size_push]
    exact Nat.lt_succ_of_lt (lt2 b hb)
  generalize hD : s2.heap.objs.size = D at *
  generalize hs3 : ({ s2 with heap := s2.heap.push { cls := .type "list", data := .seq ([] : List Value).toArray } } : Shared) = s3 at *
  have hh3 : s3.heap = s2.heap.push { cls := .type "list", data := .seq ([] : List Value).toArray } := by rw [← hs3]
  rw [← hh3] at st3 lt3
  generalize hH3 : upd H2 D (.lst []) = H3 at *
  refine wpAny_newFunctionEnv (around := some X.env) hnc (by intro y hy; cases hy) (fun h4 hn4 hsb4 => ?_) hk
  have kp4 : ∀ b o, s3.heap.get? b = some o → h4.get? b = some o := fun b o e => hsb4.extBut b o (Nat.ne_of_lt (Heap.lt_size e)) (Heap.get?_push_of_some _ e)
  have I4 := I3.block (tk := s3.toks + ([] : List (Str × Value)).length) f3 lt3 hk hnc hc hl hm kp4 hn4
  have st4 : tn 0 h4 := T.keep 0 _ _ st3 fun b _ o e => kp4 b o e
  have fin : ∀ (s5 : Shared) (σ5 : St) (H5 : Hp), Inv (XC X scope NC s3.heap.objs.size s3 H3 fp (X.pn ++ pins)) [] σ5 H5 s5 → Q (.ref D) H5 → compPost (model X.prog X.w) X.A X.xe none (EP X pins σ Q) (.ref D) s3.heap.objs.size (.ok .next) s5 := by
    intro s5 σ5 H5 I5 q5
    obtain ⟨m5, hn5, _⟩ := id I5.loc
    refine ⟨m5, hn5, fun h6 sb6 => ⟨.ref D, H5, ?_, rfl, q5⟩⟩
    have kp6 : ∀ b o, b ≠ s3.heap.objs.size → s5.heap.get? b = some o → h6.get? b = some o := fun b o hb e => sb6.extBut b o hb e
    have nC : ∀ b o, s3.heap.get? b = some o → b ≠ s3.heap.objs.size := fun b o e => Nat.ne_of_lt (Heap.lt_size e)
    have un : Un (frs X.stack) fp H3 H5 s3.heap s5.heap := I5.base
    have hfree : H5 s3.heap.objs.size = none := I5.free
    refine I3.call' (s' := { s5 with heap := h6 }) (ch := fp) I5.os ⟨fun b o e n hb hx => kp6 b o (nC b o e) (un.keep b o e n hb hx), fun b o e n hb hx => ?_, un.free, fun b o e hx => ?_, un.tups, un.frzs, un.tbls⟩ ?_ I5.bare (fun b hb => ?_)
    · obtain ⟨sl, e1⟩ := un.slot b o e n hb hx
      exact ⟨sl, kp6 b _ (nC b o e) e1⟩
    · obtain ⟨o', e1⟩ := un.there b o e hx
      exact ⟨o', kp6 b o' (nC b o e) e1⟩
    · intro b o e
      have nb : b ≠ s3.heap.objs.size := fun z => by rw [z, hfree] at e; cases e
      refine (I5.hok b o e).stay (fun c v hc' r => kp6 c v ?_ r) (fun _ r => r) fun _ _ r => r
      rcases hc' with z | z
      · rw [z]; exact nb
      · intro y
        rw [y, hfree] at z
        cases z
    · obtain ⟨g0, g1, g2, g3, g4, g5⟩ := f3 b hb
      exact ⟨g3, g1, g4, g5⟩
  have loop : codeAny (model X.prog X.w) X.A (.compLoop (.ListComp elt [⟨target, iter, ifs, 0⟩] scope pos) 0 (.ref it) (.ref D) (compEnvC scope (closOf scope.names X.env.cells []) s3.heap.objs.size X.env)) (compPost (model X.prog X.w) X.A X.xe none (EP X pins σ Q) (.ref D) s3.heap.objs.size)
      { s3 with heap := h4, toks := s3.toks + ([] : List (Str × Value)).length } := by
    refine comp_turns (fun n s' => ∃ i acc σ' H', Inv (XC X scope NC s3.heap.objs.size s3 H3 fp (X.pn ++ pins)) [] σ' H' s' ∧ Ext (subS mp σ) σ' ∧ tn i s'.heap ∧ (∀ b ∈ fp, H' b = none) ∧ W i n acc H') ?_ m0
      ⟨0, [], subS mp σ, H3, I4, fun _ _ e => e, st4, fun b hb => (f3 b hb).1, w0⟩
    rintro n s5 ⟨i, acc, σ5, H5, I5, hσ, st5, fr5, w5⟩
    have I5' : Inv (XC X scope NC s3.heap.objs.size s3 H3 fp (X.pn ++ pins)) [] (subS mp σ) H5 s5 := I5.weak (by rw [I5.len]; unfold subS; rw [List.length_map]; exact hl) hσ
    have fpk : ∀ {H' : Hp}, (∀ b ∈ fp, H' b = none) → ∀ b ∈ fp, FpOk (XC X scope NC s3.heap.objs.size s3 H3 fp (X.pn ++ pins)) [] H' b := fun hn b hb => by
      obtain ⟨g0, g1, g2, g3, g4, g5⟩ := f3 b hb
      refine ⟨hn b hb, Nat.ne_of_lt (lt3 b hb), ?_, .inl hb, (I4.ok.exf b hb).2, fun p hp => g5 p (by simpa using hp)⟩
      exact I4.ok.exfs b hb
    rcases turn i n acc H5 w5 with ⟨stop, q⟩ | ⟨go, step⟩
    · refine thn (T.done (XC X scope NC s3.heap.objs.size s3 H3 fp (X.pn ++ pins)) rfl rfl rfl hcalm i [] s5 _ H5 (fun _ _ => False) I5' (fpk fr5) st5 stop) fun r s6 ⟨hr, I6⟩ => ?_
      subst hr
      exact fin s6 _ H5 I6 q
    · refine thn (T.item (XC X scope NC s3.heap.objs.size s3 H3 fp (X.pn ++ pins)) rfl rfl rfl hcalm i [] s5 _ H5 (fun _ _ => False) I5' (fpk fr5) st5 go) fun r s6 ⟨u, hr, h6⟩ => ?_
      subst hr
      refine thn h6 fun _ s7 ⟨x, H7, I7, r7, y7, st7, fr7⟩ => ?_
      have I7' := I7.pinned (fpk fr7) (T.obj _ _ st7)
      refine thn (hg _ _ _ _ _ _ s7 _ H7 x u _ I7' r7 (step x H7 y7)) fun _ s8 ⟨σ8, H8, I8, ext8, q8⟩ => ?_
      refine thn (ht _ _ _ _ _ _ s8 σ8 H8 _ I8 q8) fun ok s9 ⟨H9, I9, q9⟩ => ?_
      have again : ∀ {σ' : St} {H' : Hp} {s' : Shared} {acc' : List V} {m' : Nat}, Inv (XC X scope NC s3.heap.objs.size s3 H3 fp (X.pn ++ pins)) ([] ++ pinsAt fp s7.heap) σ' H' s' → Ext (subS mp σ) σ' → m' < n → W (i + 1) m' acc' H' →
          ∃ m, m < n ∧ ∃ i acc σ' H', Inv (XC X scope NC s3.heap.objs.size s3 H3 fp (X.pn ++ pins)) [] σ' H' s' ∧ Ext (subS mp σ) σ' ∧ tn i s'.heap ∧ (∀ b ∈ fp, H' b = none) ∧ W i m acc H' := by
        intro σ' H' s' acc' m' I' hσ' hm' w'
        refine ⟨m', hm', i + 1, acc', σ', H', I'.unpinned, hσ', T.keep _ _ _ st7 fun b hb o e => (I'.pin (b, o) (List.mem_append_right _ (List.mem_append_right _ (mem_pinsAt hb e)))).1, fun b hb => ?_, w'⟩
        obtain ⟨o, e, d⟩ := T.obj _ _ st7 b hb
        exact (I'.pin (b, o) (List.mem_append_right _ (List.mem_append_right _ (mem_pinsAt hb e)))).2.1
      cases ok with
      | false =>
        rw [if_neg Bool.false_ne_true] at q9
        rw [if_neg Bool.false_ne_true]
        obtain ⟨m', hm', w'⟩ := q9
        exact again I9 ext8 hm' w'
      | true =>
        rw [if_pos rfl] at q9
        rw [if_pos rfl]
        refine thn (he _ _ _ _ _ _ s9 σ8 H9 _ I9 q9) fun v s10 ⟨y, H10, I10, r10, hD10, hz, m', hm', w'⟩ => ?_
        refine thn (mt_append (X := XC X scope NC s3.heap.objs.size s3 H3 fp (X.pn ++ pins)) _ s10 σ8 H10 (.ref D) [y] (.ref D) [v] (fun _ H' => H' = upd H10 D (.lst (acc ++ [y]))) I10 rfl (.cons r10 .nil) ⟨D, acc, y, rfl, rfl, hD10, hz, rfl⟩) fun _ s11 ⟨_, H11, I11, _, e11⟩ => ?_
        subst e11
        exact again I11 ext8 hm' w'
  exact codeAny_compStart_list loop (T.self _ 0 _ _ _ st4 loop)
end
end L2
set_option Elab.async false
set_option linter.all false
set_option maxRecDepth 100000
set_option maxHeartbeats 1000000
namespace L2
open PySem PySem.Spec PyProof.Rows
section
variable {X : Cx} {pins : List (Addr × Obj)} {σ : St} {H : Hp} {s : Shared}
theorem Ns_same {h h' : Heap} {a b : Addr} {m : Str → Option Value} (hn : h.Ns a m) (sb : Heap.SameBut b h h') (ne : a ≠ b) : h'.Ns a m := by
  obtain ⟨o, es, ep, ho, r⟩ := hn
  exact ⟨o, es, ep, (sb.2 a ne).trans ho, r⟩
variable {elt target iter : Expr} {ifs : List Expr} {scope : Scope} {NC : List Str} {mp : List (Option Nat)} {pos spos : Pos} {wi : TI} {g : TG} {tc : TT} {te : TE} {i : Nat} {x : Str} {px : Pos}
theorem ps_setC (hcalm : X.calm = true) (hN : X.N.Nodup) (hix : X.N[i]? = some x) (hx : X.env.scope.names.lookup x = some .local) (hsw : swapsWith (.ListComp elt [⟨target, iter, ifs, 0⟩] scope pos) (some (.Name x px)) spos.line X.env = pure true)
    (hi : PI X target iter wi) (hg : ∀ C s H fp pn, PG (XC X scope NC C s H fp pn) target g) (ht : ∀ C s H fp pn, PTs (XC X scope NC C s H fp pn) ifs tc) (he : ∀ C s H fp pn, PE (XC X scope NC C s H fp pn) elt te)
    (hl : mp.length = NC.length := by rfl) (hm : okMap X.N NC mp scope.names X.env.scope.names = true := by rfl) (hc : hasCells scope.names X.env.cells = true := by rfl) (hk : scope.kind = .function := by rfl)
    (hnc : ∀ y ∈ scope.names, y.2 ≠ .cell := by decide +kernel) (hnm : ∀ y ∈ scope.names, y.2 = .local → scope.names.lookup y.1 = some .local := by decide +kernel) (hs : ∀ x, foldedSetIterable iter X.env x = pure x := by intro _; rfl) :
    PS X (.Assign [.Name x px] (.ListComp elt [⟨target, iter, ifs, 0⟩] scope pos) spos) (tAsg (tComp mp wi g tc te) (gName i)) := by
  intro pins s σ H Z I h
  rw [exec_Assign_Name_used _ _ _ _ hsw]
  refine wpAny_bind (wpAny_standAt (wpAny_bind ?_))
  show wpAny _ _ (do let _ ← comprehension (.ListComp elt [⟨target, iter, ifs, 0⟩] scope pos) scope X.env _ (newList []) false (eval iter X.env) (some (assign (.Name x px) X.env))) _ _ s
  refine wpAny_bind (wpAny_mono (wpAny_comprehension_free (use := some (assign (.Name x px) X.env)) (Q := fun _ s' => SP X pins Z .next s') (E := X.xe) rfl hs (clos_eq hc) hk hnm
    (thn (hi pins s σ H _ I h) fun v s1 h1 => thn h1 fun itv s2 h2 => ?_)) (fun _ s' q => wpAny_pure (wpAny_pure q)) fun _ _ e => e)
  obtain ⟨it, fp, tn, J, H2, e, I2, T, st2, f2, W⟩ := h2
  subst e
  refine wpAny_newObj_type ?_ (by show 0 ≤ sizeLine; decide)
  have nD : H2 s2.heap.objs.size = none := I2.hok.fresh (Nat.le_refl _)
  have I3 : Inv X pins σ (upd H2 s2.heap.objs.size (.lst [])) { s2 with heap := s2.heap.push { cls := .type "list", data := .seq ([] : List Value).toArray } } :=
    I2.laid (t' := s2.toks) (fun b u e => Heap.get?_push_of_some _ e) (Nat.le_refl _) ⟨by show 0 ≤ sizeLine; decide, [], 0, .nil, Heap.get?_push_size _ rfl⟩
  obtain ⟨W, ⟨m0, w0⟩, turn⟩ := W _ nD
  have lt2 : ∀ b ∈ fp, b < s2.heap.objs.size := fun b hb => by
    obtain ⟨o, e, _⟩ := T.obj 0 _ st2 b hb
    exact Heap.lt_size e
  have nDf : ∀ b ∈ fp, b ≠ s2.heap.objs.size := fun b hb => Nat.ne_of_lt (lt2 b hb)
  have f3 : ∀ b ∈ fp, FpOk X pins (upd H2 s2.heap.objs.size (.lst [])) b := fun b hb => by
    obtain ⟨g0, g1⟩ := f2 b hb
    exact ⟨by rw [upd_ne (nDf b hb)]; exact g0, g1⟩
  have st3 : tn 0 (s2.heap.push { cls := .type "list", data := .seq ([] : List Value).toArray }) := T.keep 0 _ _ st2 fun b _ o e => Heap.get?_push_of_some _ e
  have lt3 : ∀ b ∈ fp, b < (s2.heap.push { cls := .type "list", data := .seq ([] : List Value).toArray }).objs.size := fun b hb => by
    rw [Heap.size_push]
    exact Nat.lt_succ_of_lt (lt2 b hb)
  generalize hD : s2.heap.objs.size = D at *
  generalize hs3 : ({ s2 with heap := s2.heap.push { cls := .type "list", data := .seq ([] : List Value).toArray } } : Shared) = s3 at *
  have hh3 : s3.heap = s2.heap.push { cls := .type "list", data := .seq ([] : List Value).toArray } := by rw [← hs3]
  rw [← hh3] at st3 lt3
  generalize hH3 : upd H2 D (.lst []) = H3 at *
  refine wpAny_newFunctionEnv (around := some X.env) hnc (by intro y hy; cases hy) (fun h4 hn4 hsb4 => ?_) hk
  have kp4 : ∀ b o, s3.heap.get? b = some o → h4.get? b = some o := fun b o e => hsb4.extBut b o (Nat.ne_of_lt (Heap.lt_size e)) (Heap.get?_push_of_some _ e)
  have I4 := I3.block (tk := s3.toks + ([] : List (Str × Value)).length) f3 lt3 hk hnc hc hl hm kp4 hn4
  have st4 : tn 0 h4 := T.keep 0 _ _ st3 fun b _ o e => kp4 b o e
  have nC : ∀ b o, s3.heap.get? b = some o → b ≠ s3.heap.objs.size := fun b o e => Nat.ne_of_lt (Heap.lt_size e)
  have out : ∀ (s5 : Shared) (σ5 : St) (H5 : Hp) (h6 : Heap), Inv (XC X scope NC s3.heap.objs.size s3 H3 fp (X.pn ++ pins)) [] σ5 H5 s5 → Heap.SameBut s3.heap.objs.size s5.heap h6 → Inv X pins σ H5 { s5 with heap := h6 } := by
    intro s5 σ5 H5 h6 I5 sb6
    have kp6 : ∀ b o, b ≠ s3.heap.objs.size → s5.heap.get? b = some o → h6.get? b = some o := fun b o hb e => sb6.extBut b o hb e
    have un : Un (frs X.stack) fp H3 H5 s3.heap s5.heap := I5.base
    have hfree : H5 s3.heap.objs.size = none := I5.free
    refine I3.call' (s' := { s5 with heap := h6 }) (ch := fp) I5.os ⟨fun b o e n hb hx => kp6 b o (nC b o e) (un.keep b o e n hb hx), fun b o e n hb hx => ?_, un.free, fun b o e hx => ?_, un.tups, un.frzs, un.tbls⟩ ?_ I5.bare (fun b hb => ?_)
    · obtain ⟨sl, e1⟩ := un.slot b o e n hb hx
      exact ⟨sl, kp6 b _ (nC b o e) e1⟩
    · obtain ⟨o', e1⟩ := un.there b o e hx
      exact ⟨o', kp6 b o' (nC b o e) e1⟩
    · intro b o e
      have nb : b ≠ s3.heap.objs.size := fun z => by rw [z, hfree] at e; cases e
      refine (I5.hok b o e).stay (fun c v hc' r => kp6 c v ?_ r) (fun _ r => r) fun _ _ r => r
      rcases hc' with z | z
      · rw [z]; exact nb
      · intro y
        rw [y, hfree] at z
        cases z
    · obtain ⟨g0, g1, g2, g3, g4, g5⟩ := f3 b hb
      exact ⟨g3, g1, g4, g5⟩
  have fin : ∀ (s5 : Shared) (σ5 : St) (H5 : Hp), Inv (XC X scope NC s3.heap.objs.size s3 H3 fp (X.pn ++ pins)) [] σ5 H5 s5 → Z.nx (σ.set i (some (.ref D))) H5 → compPost (model X.prog X.w) X.A X.xe (some (assign (.Name x px) X.env)) (fun _ s' => SP X pins Z .next s') (.ref D) s3.heap.objs.size (.ok .next) s5 := by
    intro s5 σ5 H5 I5 q5
    obtain ⟨m5, hn5, _⟩ := id I5.loc
    have I6 := out s5 σ5 H5 s5.heap I5 (.refl ..)
    have lC : X.env.locals ≠ s3.heap.objs.size := Nat.ne_of_lt I3.lt
    show wpAny _ _ (assign (.Name x px) X.env (.ref D)) _ _ _
    refine wpAny_assign_Name (store_ok2 (X := X) (v := .ref D) I6 hN hix (.inl hx) rfl (fun s7 I7 hch => ?_) (.inr hx))
    obtain ⟨a, sb7, ha⟩ := hch
    have aC : s3.heap.objs.size ≠ a := by
      rcases ha with z | z
      · rw [z]; exact Ne.symm lC
      · obtain ⟨v, oc, q1, _⟩ := I3.cell x a z
        exact Ne.symm (nC a oc q1)
    refine ⟨m5, Ns_same hn5 sb7 aC, fun h8 sb8 => ⟨σ.set i (some (.ref D)), H5, ?_, q5⟩⟩
    have hfree : H5 s3.heap.objs.size = none := I5.free
    have kp8 : ∀ b o, b ≠ s3.heap.objs.size → s7.heap.get? b = some o → h8.get? b = some o := fun b o hb e => sb8.extBut b o hb e
    have s0lt : ∀ b o, X.s₀.heap.get? b = some o → b ≠ s3.heap.objs.size := fun b o e => Nat.ne_of_lt (Nat.lt_of_lt_of_le (Heap.lt_size e) I3.sz)
    refine ⟨I7.ok, I7.os, I7.bare, ⟨fun b o e n hb hx => kp8 b o (s0lt b o e) (I7.base.keep b o e n hb hx), fun b o e n hb hx => ?_, I7.base.free, fun b o e hx => ?_, I7.base.tups, I7.base.frzs, I7.base.tbls⟩, ?_, fun y c e => ?_, I7.free, I7.freeC, fun p hp => ?_, ?_, I7.len⟩
    · obtain ⟨sl, e1⟩ := I7.base.slot b o e n hb hx
      exact ⟨sl, kp8 b _ (s0lt b o e) e1⟩
    · obtain ⟨o', e1⟩ := I7.base.there b o e hx
      exact ⟨o', kp8 b o' (s0lt b o e) e1⟩
    · obtain ⟨m7, hn7, hl7⟩ := I7.loc
      have cellN : ∀ y c, X.env.cells.lookup y = some c → c ≠ s3.heap.objs.size := fun y c e => by
        obtain ⟨v, oc, q1, _⟩ := I3.cell y c e
        exact nC c oc q1
      refine ⟨m7, Ns_same hn7 sb8 lC, fun j y v e1 e2 e3 => ?_⟩
      obtain ⟨u, ru, lk⟩ := hl7 j y v e1 e2 e3
      refine ⟨u, ru, ?_⟩
      rcases lk with lk | ⟨k1, c, k2, k3⟩
      · exact .inl lk
      · exact .inr ⟨k1, c, k2, k3.sameBut sb8 (cellN y c k2)⟩
    · obtain ⟨w', z⟩ := I7.cell y c e
      obtain ⟨v, oc, q1, _⟩ := I3.cell y c e
      exact ⟨w', z.sameBut sb8 (nC c oc q1)⟩
    · obtain ⟨e, n1, n2, n3, n4⟩ := I7.pin p hp
      obtain ⟨e3, _⟩ := I3.pin p hp
      exact ⟨kp8 _ _ (nC _ _ e3) e, n1, n2, n3, n4⟩
    · intro b o e
      have nb : b ≠ s3.heap.objs.size := fun z => by rw [z, hfree] at e; cases e
      refine (I7.hok b o e).stay (fun c v hc' r => kp8 c v ?_ r) (fun _ r => r) fun _ _ r => r
      rcases hc' with z | z
      · rw [z]; exact nb
      · intro y
        rw [y, hfree] at z
        cases z
  have loop : codeAny (model X.prog X.w) X.A (.compLoop (.ListComp elt [⟨target, iter, ifs, 0⟩] scope pos) 0 (.ref it) (.ref D) (compEnvC scope (closOf scope.names X.env.cells []) s3.heap.objs.size X.env)) (compPost (model X.prog X.w) X.A X.xe (some (assign (.Name x px) X.env)) (fun _ s' => SP X pins Z .next s') (.ref D) s3.heap.objs.size)
      { s3 with heap := h4, toks := s3.toks + ([] : List (Str × Value)).length } := by
    refine comp_turns (fun n s' => ∃ i acc σ' H', Inv (XC X scope NC s3.heap.objs.size s3 H3 fp (X.pn ++ pins)) [] σ' H' s' ∧ Ext (subS mp σ) σ' ∧ tn i s'.heap ∧ (∀ b ∈ fp, H' b = none) ∧ W i n acc H') ?_ m0
      ⟨0, [], subS mp σ, H3, I4, fun _ _ e => e, st4, fun b hb => (f3 b hb).1, w0⟩
    rintro n s5 ⟨i, acc, σ5, H5, I5, hσ, st5, fr5, w5⟩
    have I5' : Inv (XC X scope NC s3.heap.objs.size s3 H3 fp (X.pn ++ pins)) [] (subS mp σ) H5 s5 := I5.weak (by rw [I5.len]; unfold subS; rw [List.length_map]; exact hl) hσ
    have fpk : ∀ {H' : Hp}, (∀ b ∈ fp, H' b = none) → ∀ b ∈ fp, FpOk (XC X scope NC s3.heap.objs.size s3 H3 fp (X.pn ++ pins)) [] H' b := fun hn b hb => by
      obtain ⟨g0, g1, g2, g3, g4, g5⟩ := f3 b hb
      refine ⟨hn b hb, Nat.ne_of_lt (lt3 b hb), ?_, .inl hb, (I4.ok.exf b hb).2, fun p hp => g5 p (by simpa using hp)⟩
      exact I4.ok.exfs b hb
    rcases turn i n acc H5 w5 with ⟨stop, q⟩ | ⟨go, step⟩
    · refine thn (T.done (XC X scope NC s3.heap.objs.size s3 H3 fp (X.pn ++ pins)) rfl rfl rfl hcalm i [] s5 _ H5 (fun _ _ => False) I5' (fpk fr5) st5 stop) fun r s6 ⟨hr, I6⟩ => ?_
      subst hr
      exact fin s6 _ H5 I6 q
    · refine thn (T.item (XC X scope NC s3.heap.objs.size s3 H3 fp (X.pn ++ pins)) rfl rfl rfl hcalm i [] s5 _ H5 (fun _ _ => False) I5' (fpk fr5) st5 go) fun r s6 ⟨u, hr, h6⟩ => ?_
      subst hr
      refine thn h6 fun _ s7 ⟨x, H7, I7, r7, y7, st7, fr7⟩ => ?_
      have I7' := I7.pinned (fpk fr7) (T.obj _ _ st7)
      refine thn (hg _ _ _ _ _ _ s7 _ H7 x u _ I7' r7 (step x H7 y7)) fun _ s8 ⟨σ8, H8, I8, ext8, q8⟩ => ?_
      refine thn (ht _ _ _ _ _ _ s8 σ8 H8 _ I8 q8) fun ok s9 ⟨H9, I9, q9⟩ => ?_
      have again : ∀ {σ' : St} {H' : Hp} {s' : Shared} {acc' : List V} {m' : Nat}, Inv (XC X scope NC s3.heap.objs.size s3 H3 fp (X.pn ++ pins)) ([] ++ pinsAt fp s7.heap) σ' H' s' → Ext (subS mp σ) σ' → m' < n → W (i + 1) m' acc' H' →
          ∃ m, m < n ∧ ∃ i acc σ' H', Inv (XC X scope NC s3.heap.objs.size s3 H3 fp (X.pn ++ pins)) [] σ' H' s' ∧ Ext (subS mp σ) σ' ∧ tn i s'.heap ∧ (∀ b ∈ fp, H' b = none) ∧ W i m acc H' := by
        intro σ' H' s' acc' m' I' hσ' hm' w'
        refine ⟨m', hm', i + 1, acc', σ', H', I'.unpinned, hσ', T.keep _ _ _ st7 fun b hb o e => (I'.pin (b, o) (List.mem_append_right _ (List.mem_append_right _ (mem_pinsAt hb e)))).1, fun b hb => ?_, w'⟩
        obtain ⟨o, e, d⟩ := T.obj _ _ st7 b hb
        exact (I'.pin (b, o) (List.mem_append_right _ (List.mem_append_right _ (mem_pinsAt hb e)))).2.1
      cases ok with
      | false =>
        rw [if_neg Bool.false_ne_true] at q9
        rw [if_neg Bool.false_ne_true]
        obtain ⟨m', hm', w'⟩ := q9
        exact again I9 ext8 hm' w'
      | true =>
        rw [if_pos rfl] at q9
        rw [if_pos rfl]
        refine thn (he _ _ _ _ _ _ s9 σ8 H9 _ I9 q9) fun v s10 ⟨y, H10, I10, r10, hD10, hz, m', hm', w'⟩ => ?_
        refine thn (mt_append (X := XC X scope NC s3.heap.objs.size s3 H3 fp (X.pn ++ pins)) _ s10 σ8 H10 (.ref D) [y] (.ref D) [v] (fun _ H' => H' = upd H10 D (.lst (acc ++ [y]))) I10 rfl (.cons r10 .nil) ⟨D, acc, y, rfl, rfl, hD10, hz, rfl⟩) fun _ s11 ⟨_, H11, I11, _, e11⟩ => ?_
        subst e11
        exact again I11 ext8 hm' w'
  exact codeAny_compStart_list loop (T.self _ 0 _ _ _ st4 loop)
end
end L2
set_option Elab.async false
set_option linter.all false
set_option maxRecDepth 100000
set_option maxHeartbeats 4000000
namespace L2
open PySem PySem.Spec PyProof.Rows
section
variable {κ : Type} [DecidableEq κ]
def valV (kvs : List (κ × V)) (k : κ) : Option V := (kvs.find? fun kv => decide (kv.1 = k)).map (·.2)
def putK (kvs : List (κ × V)) (k : κ) (v : V) : List (κ × V) :=
  if (kvs.any fun kv => decide (kv.1 = k)) = true then kvs.map (fun kv => if kv.1 = k then (kv.1, v) else kv) else kvs ++ [(k, v)]
def dropK (kvs : List (κ × V)) (k : κ) : List (κ × V) := kvs.filter fun kv => decide (kv.1 ≠ k)

theorem valV_pos {p : κ × V} {r : List (κ × V)} {k : κ} (e : p.1 = k) : valV (p :: r) k = some p.2 := by simp [valV, List.find?_cons, e]
theorem valV_neg {p : κ × V} {r : List (κ × V)} {k : κ} (e : ¬ p.1 = k) : valV (p :: r) k = valV r k := by simp [valV, List.find?_cons, e]
theorem valV_any (k : κ) : ∀ kvs : List (κ × V), (kvs.any fun kv => decide (kv.1 = k)) = (valV kvs k).isSome
  | [] => rfl
  | p :: r => by
    rw [List.any_cons]
    by_cases e : p.1 = k
    · simp only [valV_pos e, decide_eq_true e, Bool.true_or, Option.isSome_some]
    · rw [valV_neg e, decide_eq_false e, Bool.false_or]; exact valV_any k r
theorem RelO.isSome_eq {o : Option V} {u : Option Value} (r : RelO o u) : o.isSome = u.isSome := by
  cases o with
  | none => cases u with
    | none => rfl
    | some _ => exact (show False from r).elim
  | some _ => cases u with
    | none => exact (show False from r).elim
    | some _ => rfl
theorem RelO.getD {o : Option V} {u : Option Value} {d : V} {d' : Value} (r : RelO o u) (rd : RelV d d') : RelV (o.getD d) (u.getD d') := by
  cases o with
  | none => cases u with
    | none => exact rd
    | some _ => exact (show False from r).elim
  | some _ => cases u with
    | none => exact (show False from r).elim
    | some _ => exact r

theorem KV.val {kvs : List (κ × V)} {vs : List (κ × Value)} (r : KV kvs vs) (k : κ) : RelO (valV kvs k) (valueAt vs k) := by
  unfold KV at r
  induction r with
  | nil => exact True.intro
  | @cons p q ps qs h t ih =>
    obtain ⟨h1, h2⟩ := h
    by_cases e : p.1 = k
    · have e' : q.1 = k := h1.symm.trans e
      have b : valueAt (q :: qs) k = some q.2 := by simp [valueAt, List.find?_cons, e']
      rw [valV_pos e, b]; exact h2
    · have e' : ¬ q.1 = k := fun z => e (h1.trans z)
      have b : valueAt (q :: qs) k = valueAt qs k := by simp [valueAt, List.find?_cons, e']
      rw [valV_neg e, b]; exact ih
theorem KV.any {kvs : List (κ × V)} {vs : List (κ × Value)} (r : KV kvs vs) (k : κ) : (kvs.any fun kv => decide (kv.1 = k)) = vs.any fun kv => decide (kv.1 = k) := by
  unfold KV at r
  induction r with
  | nil => rfl
  | cons h t ih => rw [List.any_cons, List.any_cons, ih, h.1]
theorem KV.repl {kvs : List (κ × V)} {vs : List (κ × Value)} (r : KV kvs vs) (k : κ) {y : V} {u : Value} (ry : RelV y u) :
    KV (kvs.map fun kv => if kv.1 = k then (kv.1, y) else kv) (vs.map fun kv => if kv.1 = k then (kv.1, u) else kv) := by
  unfold KV at r ⊢
  induction r with
  | nil => exact .nil
  | @cons p q ps qs h t ih =>
    rw [List.map_cons, List.map_cons]
    refine .cons ?_ ih
    obtain ⟨h1, h2⟩ := h
    by_cases e : p.1 = k
    · rw [if_pos e, if_pos (h1.symm.trans e)]; exact ⟨h1, ry⟩
    · rw [if_neg e, if_neg (fun z => e (h1.trans z))]; exact ⟨h1, h2⟩
theorem KV.put {kvs : List (κ × V)} {vs : List (κ × Value)} (r : KV kvs vs) (k : κ) {y : V} {u : Value} (ry : RelV y u) : KV (putK kvs k y) (stored vs k u) := by
  unfold putK stored
  rw [r.any k]
  by_cases e : (vs.any fun kv => decide (kv.1 = k)) = true
  · rw [if_pos e, if_pos e]; exact r.repl k ry
  · rw [if_neg e, if_neg e]; exact Paired.snoc r ⟨rfl, ry⟩
theorem KV.drop {kvs : List (κ × V)} {vs : List (κ × Value)} (r : KV kvs vs) (k : κ) : KV (dropK kvs k) (without vs k) := by
  unfold KV at r ⊢
  unfold dropK without
  induction r with
  | nil => exact .nil
  | @cons p q ps qs h t ih =>
    obtain ⟨h1, h2⟩ := h
    rw [List.filter_cons, List.filter_cons]
    by_cases e : p.1 = k
    · have a : ¬ decide (p.1 ≠ k) = true := by simp [e]
      have b : ¬ decide (q.1 ≠ k) = true := by simp [h1.symm.trans e]
      rw [if_neg a, if_neg b]; exact ih
    · have e' : ¬ q.1 = k := fun z => e (h1.trans z)
      have a : decide (p.1 ≠ k) = true := by simp [e]
      have b : decide (q.1 ≠ k) = true := by simp [e']
      rw [if_pos a, if_pos b]; exact .cons ⟨h1, h2⟩ ih
theorem KV.keys {kvs : List (κ × V)} {vs : List (κ × Value)} (r : KV kvs vs) : kvs.map (·.1) = vs.map (·.1) := by
  unfold KV at r
  induction r with
  | nil => rfl
  | cons h t ih => rw [List.map_cons, List.map_cons, ih, h.1]
theorem KV.length {kvs : List (κ × V)} {vs : List (κ × Value)} (r : KV kvs vs) : kvs.length = vs.length := Paired.length r
end
abbrev KT (H : Hp) : List (List Key × V) → List (List Key × Addr × Value) → Prop := Paired fun p q => p.1 = q.1 ∧ H q.2.1 = some (.tup (p.1.map kV)) ∧ RelV p.2 q.2.2
theorem KT.val {H : Hp} {kvs : List (List Key × V)} {xs : List (List Key × Addr × Value)} (r : KT H kvs xs) (k : List Key) : RelO (valV kvs k) ((atKey xs k).map (·.2)) := by
  induction r with
  | nil => exact True.intro
  | @cons p q ps qs h t ih =>
    obtain ⟨h1, _, h2⟩ := h
    by_cases e : p.1 = k
    · have e' : q.1 = k := h1.symm.trans e
      have b : atKey (q :: qs) k = some q.2 := by simp [atKey, List.find?_cons, e']
      rw [valV_pos e, b]; exact h2
    · have e' : ¬ q.1 = k := fun z => e (h1.trans z)
      have b : atKey (q :: qs) k = atKey qs k := by simp [atKey, List.find?_cons, e']
      rw [valV_neg e, b]; exact ih
theorem KT.repl {H : Hp} {kvs : List (List Key × V)} {xs : List (List Key × Addr × Value)} (r : KT H kvs xs) (k : List Key) {y : V} {u : Value} (ry : RelV y u) :
    KT H (kvs.map fun kv => if kv.1 = k then (kv.1, y) else kv) (xs.map (putAt k u)) := by
  induction r with
  | nil => exact .nil
  | @cons p q ps qs h t ih =>
    rw [List.map_cons, List.map_cons]
    refine .cons ?_ ih
    obtain ⟨h1, h2, h3⟩ := h
    unfold putAt
    by_cases e : p.1 = k
    · rw [if_pos e, if_pos (h1.symm.trans e)]; exact ⟨h1, h2, ry⟩
    · rw [if_neg e, if_neg (fun z => e (h1.trans z))]; exact ⟨h1, h2, h3⟩
theorem KT.put {H : Hp} {kvs : List (List Key × V)} {xs : List (List Key × Addr × Value)} (r : KT H kvs xs) (k : List Key) {b : Addr} {y : V} {u : Value} (hb : H b = some (.tup (k.map kV))) (ry : RelV y u) :
    KT H (putK kvs k y) (storedH xs k b u) := by
  have e : (kvs.any fun kv => decide (kv.1 = k)) = (atKey xs k).isSome := by
    rw [valV_any, (r.val k).isSome_eq, Option.isSome_map]
  unfold putK storedH
  rw [e]
  by_cases q : (atKey xs k).isSome = true
  · rw [if_pos q, if_pos q]; exact r.repl k ry
  · rw [if_neg q, if_neg q]; exact Paired.snoc r ⟨rfl, hb, ry⟩
theorem KT.keeps {H H' : Hp} {kvs : List (List Key × V)} {xs : List (List Key × Addr × Value)} (r : KT H kvs xs) (ht : ∀ b ys, H b = some (.tup ys) → H' b = some (.tup ys)) : KT H' kvs xs :=
  Paired.mapP r fun _ _ z => ⟨z.1, ht _ _ z.2.1, z.2.2⟩

section
variable {P : Program} {w : World} {H : Hp} {h : Heap} {a : Addr}
end
def DGet (H : Hp) (a : Addr) (y : V) (r : Option V) : Prop :=
  (∃ kvs k, Rd H a (.dK kvs) ∧ y = kV k ∧ r = valV kvs k) ∨ ∃ kvs k b, Rd H a (.dT kvs) ∧ y = .ref b ∧ H b = some (.tup (k.map kV)) ∧ r = valV kvs k
def DPut (H : Hp) (a : Addr) (y v : V) (H' : Hp) : Prop :=
  (∃ kvs k, H a = some (.dK kvs) ∧ y = kV k ∧ kvs.length < sizeLine ∧ H' = upd H a (.dK (putK kvs k v))) ∨
  ∃ kvs k b, H a = some (.dT kvs) ∧ y = .ref b ∧ H b = some (.tup (k.map kV)) ∧ kvs.length < sizeLine ∧ H' = upd H a (.dT (putK kvs k v))
theorem DGet.k {H : Hp} {a : Addr} {kvs : List (Key × V)} {k : Key} (e : H a = some (.dK kvs)) : DGet H a (kV k) (valV kvs k) := .inl ⟨kvs, k, .inl e, rfl, rfl⟩
theorem DGet.t {H : Hp} {a b : Addr} {kvs : List (List Key × V)} {k : List Key} (e : H a = some (.dT kvs)) (eb : H b = some (.tup (k.map kV))) : DGet H a (.ref b) (valV kvs k) := .inr ⟨kvs, k, b, .inl e, rfl, eb, rfl⟩
theorem DPut.k {H : Hp} {a : Addr} {kvs : List (Key × V)} {k : Key} {v : V} (e : H a = some (.dK kvs)) (hl : kvs.length < sizeLine) : DPut H a (kV k) v (upd H a (.dK (putK kvs k v))) := .inl ⟨kvs, k, e, rfl, hl, rfl⟩
theorem DPut.t {H : Hp} {a b : Addr} {kvs : List (List Key × V)} {k : List Key} {v : V} (e : H a = some (.dT kvs)) (eb : H b = some (.tup (k.map kV))) (hl : kvs.length < sizeLine) :
    DPut H a (.ref b) v (upd H a (.dT (putK kvs k v))) := .inr ⟨kvs, k, b, e, rfl, eb, hl, rfl⟩


section
variable {X : Cx} {pins : List (Addr × Obj)} {σ : St} {H : Hp} {s : Shared} {a : Addr} {y v : V} {u r : Value} {o : Option V} {A : Around} {E : Value → Shared → Prop}
theorem Inv.big (I : Inv X pins σ H s) : sysModules < s.heap.objs.size := by
  have h : mainGlobals < s.heap.objs.size := (I.mod.glob.keeps I.bk).lt
  exact Nat.lt_trans (by decide) h

theorem d_write {h' : Heap} {t' : Nat} {ob : HO} (I : Inv X pins σ H s) (mu : Mut (H a)) (hs : Heap.SameBut a s.heap h') (he : ∃ q, h'.get? a = some q) (new : ObjOk X.prog X.w (upd H a ob) h' a ob) :
    Inv X pins σ (upd H a ob) { s with heap := h', toks := t' } :=
  I.write (x := a) (e := a) mu (.inl rfl) (fun b q hb z => (hs.2 b hb).trans z) he new
end
section
variable {X : Cx} {pins : List (Addr × Obj)} {σ : St} {H : Hp} {s : Shared} {a : Addr} {kvs : List (Key × V)} {k : Key} {u : Value} {A : Around} {E : Value → Shared → Prop}
end
section
variable {X : Cx} {o i e value : Expr} {pos pos' tpos : Pos} {td ty tv : TE}
end
section
variable {X : Cx} {pos : Pos}
end
structure M2 (X : Cx) (o : Expr) (m : Str) (apos : Pos) (e f : Expr) (cpos : Pos) : Prop where
  base : attributeBase o m X.env (eval o X.env) = eval o X.env
  few : ((backTo cpos (starEach [e, f] X.env)).all (fun x => !x.1) && (backToKw cpos (keywordEach [] X.env)).all (fun x => x.1.isSome)
    && decide (([e, f] : List Expr).length + ([] : List Keyword).length + (if ([] : List Keyword).isEmpty then 0 else 1) < 30)) = true
  line : (apos.endLine == cpos.line) = true
  trees : backTo cpos (starEach [e, f] X.env) = [(false, eval e X.env), (false, eval f X.env)]

section
variable {X : Cx} {pins : List (Addr × Obj)} {σ : St} {H : Hp} {s : Shared} {a : Addr} {y d : V} {u r : Value} {o : Option V} {A : Around} {E : Value → Shared → Prop}
end
section
variable {X : Cx} {o e f : Expr} {apos cpos : Pos} {td ty tx : TE}
end
section
variable {X : Cx} {pins : List (Addr × Obj)} {σ : St} {H : Hp} {s : Shared} {a : Addr} {kvs : List (Key × V)} {A : Around} {E : Value → Shared → Prop}
end
section
variable {X : Cx} {pins : List (Addr × Obj)} {σ : St} {H : Hp} {s : Shared} {a : Addr} {y : V} {u : Value} {A : Around} {E : Value → Shared → Prop}
end
end L2
set_option Elab.async false
set_option linter.all false
set_option maxRecDepth 100000
set_option maxHeartbeats 1000000
namespace L2
open PySem PySem.Spec PyProof.Rows
def CompW (J : It) (D : Addr) (te : TE) (rest : L2.St) (Q : VK) (H1 : Hp) : Prop :=
  ∃ W : Nat → Nat → List V → Hp → Prop, (∃ m, W 0 m [] (upd H1 D (.lst []))) ∧ ∀ i m acc H2, W i m acc H2 →
    (J.stop i H2 ∧ Q (.ref D) H2) ∨
    (J.go i H2 ∧ ∀ x H3, J.yld i H2 x H3 → gName 0 x (none :: rest) H3 fun σ4 H4 => Ext (none :: rest) σ4 ∧ tNoTest σ4 H4 fun b H5 => if b = true then te σ4 H5 fun v H6 => H6 D = some (.lst acc) ∧ acc.length < sizeLine ∧ ∃ m', m' < m ∧ W (i + 1) m' (acc ++ [v]) (upd H6 D (.lst (acc ++ [v])))
      else ∃ m', m' < m ∧ W (i + 1) m' acc H5)
theorem tcomp_of {mp : List (Option Nat)} {wi : TI} {te : TE} {σ rest : L2.St} {H : Hp} {Q : VK} (e : subS mp σ = none :: rest) (h : wi σ H fun J H1 => ∀ D, H1 D = none → CompW J D te rest Q H1) : tComp mp wi (gName 0) tNoTest te σ H Q := by
  unfold tComp
  rw [e]
  exact h
def CompN (n i : Nat) (D : Addr) (acc : List V) (Pv : Nat → List V → Hp → Prop) : VK := fun v H6 => H6 D = some (.lst acc) ∧ acc.length < sizeLine ∧ ∃ m', m' < n - i ∧ (m' = n - (i + 1) ∧ i + 1 ≤ n ∧ Pv (i + 1) (acc ++ [v]) (upd H6 D (.lst (acc ++ [v]))))
theorem CompN.mk {n i : Nat} {D : Addr} {acc : List V} {Pv : Nat → List V → Hp → Prop} {v : V} {H6 : Hp} (hi : i < n) (hl : acc.length < sizeLine) (h1 : H6 D = some (.lst acc)) (h2 : Pv (i + 1) (acc ++ [v]) (upd H6 D (.lst (acc ++ [v])))) : CompN n i D acc Pv v H6 :=
  ⟨h1, hl, n - (i + 1), by omega, rfl, hi, h2⟩
theorem comp_go {J : It} {D : Addr} {te : TE} {rest : L2.St} {Q : VK} {H1 : Hp} (n : Nat) (Pv : Nat → List V → Hp → Prop) (h0 : Pv 0 [] (upd H1 D (.lst [])))
    (hgo : ∀ i acc H, i < n → Pv i acc H → J.go i H)
    (hs : ∀ i x acc H H', i < n → Pv i acc H → J.yld i H x H' → te (some x :: rest) H' (CompN n i D acc Pv))
    (hd : ∀ acc H, Pv n acc H → J.stop n H ∧ Q (.ref D) H) : CompW J D te rest Q H1 := by
  refine ⟨fun i m acc H => m = n - i ∧ i ≤ n ∧ Pv i acc H, ⟨n, by simp, Nat.zero_le _, h0⟩, ?_⟩
  rintro i m acc H ⟨rfl, hi, p⟩
  by_cases hlt : i < n
  · refine .inr ⟨hgo i acc H hlt p, fun x H' y => ?_⟩
    refine ⟨ext1, ?_⟩
    show (if true = true then te (some x :: rest) H' (CompN n i D acc Pv) else ∃ m', m' < n - i ∧ (m' = n - (i + 1) ∧ i + 1 ≤ n ∧ Pv (i + 1) acc H'))
    exact iteT (hs i x acc H H' hlt p y)
  · have e : i = n := by omega
    subst e
    exact .inl (hd acc H p)
theorem comp_list {K : PySem.W.Frag} {a D : Addr} {xs : List V} {te : TE} {rest : L2.St} {Q : VK} {H1 : Hp} (Pv : Nat → List V → Hp → Prop) (h0 : Pv 0 [] (upd H1 D (.lst [])))
    (hl : ∀ i acc H, Pv i acc H → SqL K H a xs)
    (hs : ∀ i x acc H, i < xs.length → xs[i]? = some x → Pv i acc H → te (some x :: rest) H (CompN xs.length i D acc Pv))
    (hd : ∀ acc H, Pv xs.length acc H → Q (.ref D) H) : CompW (Itl K a) D te rest Q H1 := by
  refine comp_go xs.length Pv h0 (fun i acc H hi p => ⟨xs, xs[i], hl i acc H p, by simp [hi]⟩) (fun i x acc H H' hi p y => ?_) fun acc H p => ⟨⟨xs, hl _ acc H p, Nat.le_refl _⟩, hd acc H p⟩
  obtain ⟨e, y⟩ := y
  subst e
  exact hs i x acc _ hi (y xs (hl i acc _ p)) p
end L2
set_option Elab.async false
set_option linter.all false
set_option maxRecDepth 100000
set_option maxHeartbeats 1000000
namespace Tk
open PySem PySem.Spec PyProof.Rows L2
inductive KT where
  | lf (k : Key)
  | tp (ts : List KT)
noncomputable instance : DecidableEq KT := Classical.typeDecidableEq KT
mutual
def KT.depth : KT → Nat
  | .lf _ => 0
  | .tp ts => KTs.depth ts + 1
def KTs.depth : List KT → Nat
  | [] => 0
  | t :: ts => max (KT.depth t) (KTs.depth ts)
end
theorem depth_memK : ∀ {ts : List KT} {t : KT}, t ∈ ts → t.depth ≤ KTs.depth ts
  | a :: ts, t, h => by
    unfold KTs.depth
    rcases List.mem_cons.mp h with rfl | h
    · omega
    · have := depth_memK h
      omega
mutual
def KAt (h : Heap) : Value → KT → Prop
  | v, .lf k => keyIs k v = true
  | v, .tp ts => ∃ a o items n, v = .ref a ∧ h.get? a = some o ∧ o.cls = .type "tuple" ∧ o.data = .seq items n ∧ KsAt h items.toList ts
def KsAt (h : Heap) : List Value → List KT → Prop
  | vs, [] => vs = []
  | vs, t :: ts => ∃ v r, vs = v :: r ∧ KAt h v t ∧ KsAt h r ts
end
mutual
theorem KAt.keep {h h' : Heap} (k : ∀ a o items n, h.get? a = some o → o.data = .seq items n → h'.get? a = some o) : ∀ {v : Value} {t : KT}, KAt h v t → KAt h' v t
  | v, .lf k, x => by unfold KAt at x ⊢; exact x
  | v, .tp ts, x => by
    unfold KAt at x ⊢
    obtain ⟨a, o, items, n, e, g, c, d, r⟩ := x
    exact ⟨a, o, items, n, e, k a o items n g d, c, d, KsAt.keep k r⟩
theorem KsAt.keep {h h' : Heap} (k : ∀ a o items n, h.get? a = some o → o.data = .seq items n → h'.get? a = some o) : ∀ {vs : List Value} {ts : List KT}, KsAt h vs ts → KsAt h' vs ts
  | vs, [], x => by unfold KsAt at x ⊢; exact x
  | vs, t :: ts, x => by
    unfold KsAt at x ⊢
    obtain ⟨v, r, e, x1, x2⟩ := x
    exact ⟨v, r, e, KAt.keep k x1, KsAt.keep k x2⟩
end
mutual
theorem KAt.det {h : Heap} : ∀ {v : Value} {t u : KT}, KAt h v t → KAt h v u → t = u
  | v, .lf k, .lf j, x, y => by
    unfold KAt at x y
    rcases keyIs_shape x with ⟨i, t, rfl, rfl⟩ | ⟨x', t, rfl, rfl⟩
    · rcases keyIs_shape y with ⟨i', t', rfl, e⟩ | ⟨y', t', rfl, e⟩
      · injection e with e1 _
        rw [e1]
      · cases e
    · rcases keyIs_shape y with ⟨i', t', rfl, e⟩ | ⟨y', t', rfl, e⟩
      · cases e
      · injection e with e1 _
        rw [e1]
  | v, .lf k, .tp us, x, y => by
    unfold KAt at x y
    obtain ⟨a, o, items, n, rfl, _⟩ := y
    rcases keyIs_shape x with ⟨i, t, rfl, e⟩ | ⟨x', t, rfl, e⟩ <;> cases e
  | v, .tp ts, .lf k, x, y => by
    unfold KAt at x y
    obtain ⟨a, o, items, n, rfl, _⟩ := x
    rcases keyIs_shape y with ⟨i, t, rfl, e⟩ | ⟨x', t, rfl, e⟩ <;> cases e
  | v, .tp ts, .tp us, x, y => by
    unfold KAt at x y
    obtain ⟨a, o, items, n, rfl, g, c, d, r⟩ := x
    obtain ⟨a', o', items', n', e, g', c', d', r'⟩ := y
    injection e with e
    subst e
    rw [g] at g'
    cases g'
    rw [d] at d'
    injection d' with d1 _
    subst d1
    rw [KsAt.det r r']
theorem KsAt.det {h : Heap} : ∀ {vs : List Value} {ts us : List KT}, KsAt h vs ts → KsAt h vs us → ts = us
  | vs, [], [], _, _ => rfl
  | vs, [], u :: us, x, y => by
    unfold KsAt at x y
    obtain ⟨v, r, e, _⟩ := y
    rw [x] at e
    cases e
  | vs, t :: ts, [], x, y => by
    unfold KsAt at x y
    obtain ⟨v, r, e, _⟩ := x
    rw [y] at e
    cases e
  | vs, t :: ts, u :: us, x, y => by
    unfold KsAt at x y
    obtain ⟨v, r, rfl, x1, x2⟩ := x
    obtain ⟨v', r', e, y1, y2⟩ := y
    cases e
    rw [KAt.det x1 y1, KsAt.det x2 y2]
end
theorem KsAt.len {h : Heap} : ∀ {vs : List Value} {ts : List KT}, KsAt h vs ts → vs.length = ts.length
  | vs, [], x => by unfold KsAt at x; rw [x]; rfl
  | vs, t :: ts, x => by
    unfold KsAt at x
    obtain ⟨v, r, rfl, _, x2⟩ := x
    rw [List.length_cons, List.length_cons, KsAt.len x2]
theorem KsAt.get {h : Heap} : ∀ {vs : List Value} {ts : List KT} {j : Nat} {v : Value}, KsAt h vs ts → vs[j]? = some v → ∃ t, ts[j]? = some t ∧ KAt h v t
  | vs, [], j, v, x, e => by
    unfold KsAt at x
    rw [x] at e
    cases e
  | vs, t :: ts, 0, v, x, e => by
    unfold KsAt at x
    obtain ⟨v', r, rfl, x1, _⟩ := x
    cases e
    exact ⟨t, rfl, x1⟩
  | vs, t :: ts, j + 1, v, x, e => by
    unfold KsAt at x
    obtain ⟨v', r, rfl, _, x2⟩ := x
    exact KsAt.get (j := j) x2 e
section
variable (prog : Program) (w : World)
mutual
def KT.hash : KT → Int
  | .lf k => (mixKind prog w).hash k
  | .tp ts => reduceHash (Builtin.Tuple.tupleHashOf (KTs.hash ts))
def KTs.hash : List KT → List Int
  | [] => []
  | t :: ts => KT.hash t :: KTs.hash ts
end
end
mutual
def KT.draws : KT → Nat
  | .lf _ => 1
  | .tp ts => KTs.draws ts + 1
def KTs.draws : List KT → Nat
  | [] => 0
  | t :: ts => KT.draws t + KTs.draws ts
end
theorem hash_app (prog : Program) (w : World) : ∀ (a b : List KT), KTs.hash prog w (a ++ b) = KTs.hash prog w a ++ KTs.hash prog w b
  | [], b => by simp [KTs.hash]
  | t :: a, b => by simp [KTs.hash, hash_app prog w a b]
theorem draws_app : ∀ (a b : List KT), KTs.draws (a ++ b) = KTs.draws a + KTs.draws b
  | [], b => by simp [KTs.draws]
  | t :: a, b => by simp [KTs.draws, draws_app a b, Nat.add_assoc]
section
variable {prog : Program} {w : World}
theorem hash_at : ∀ (n : Nat) {A : Around} {E : Value → Shared → Prop} {s : Shared} {t : KT} {v : Value} {Q : Int → Shared → Prop}, t.depth ≤ n → A.units + n < cLine → KAt s.heap v t → Q (t.hash prog w) { s with toks := s.toks + t.draws } → wpAny (model prog w) A (pyHash v) Q E s := by
  intro n
  induction n with
  | zero =>
    intro A E s t v Q hd hu hk h
    cases t with
    | tp ts => simp [KT.depth] at hd
    | lf k =>
      unfold KAt at hk
      simp only [KT.hash, KT.draws] at h
      exact (mixKind prog w).pyHash hk h
  | succ n ih =>
    intro A E s t v Q hd hu hk h
    cases t with
    | lf k =>
      unfold KAt at hk
      simp only [KT.hash, KT.draws] at h
      exact (mixKind prog w).pyHash hk h
    | tp ts =>
      unfold KAt at hk
      obtain ⟨a, o, items, m, rfl, g, c, d, r⟩ := hk
      have ty : s.TypeIs (.ref a) "tuple" := ⟨o, g, c⟩
      have hd' : KTs.depth ts ≤ n := by
        unfold KT.depth at hd
        omega
      simp only [KT.hash, KT.draws] at h
      unfold pyHash
      unfold pyHashByItsType
      refine wpAny_bind (wpAny_cRoomFor_or (.inr (by omega)) (wpAny_bind (wpAny_specialOf ty F.slot_tuple_hash.lookup ?_)))
      show wpAny _ _ (if (some (Value.builtin "tuple.__hash__") == some Value.none) = true then _ else _) _ _ _
      rw [if_neg (fun z => by rw [beq_builtin_none] at z; cases z)]
      refine wpAny_bind (wpAny_specialOf ty F.slot_tuple_hash.lookup ?_)
      show wpAny _ _ (do let y ← callSpecialIfBoundUnlessNone? (.ref a) "__hash__" _; _) _ _ _
      refine wpAny_bind (wpAny_callSpecialIfBoundUnlessNone?_slot ty F.slot_tuple_hash (wpAny_call_entry F.slot_tuple_hash ty F.entry_tuple_hash ?_ (F.args_tuple_hash_1 _)))
      show wpAny _ _ (do let y ← Builtin.Tuple.tupleItemsOf (.ref a); _) _ _ _
      refine wpAny_bind (wpAny_tupleItemsOf g d (wpAny_bind ?_))
      rw [← Array.forIn_toList]
      refine wpAny_forIn_list _ (fun rest (b : Array Int) s' => ∃ done left, ts = done ++ left ∧ KsAt s.heap rest left ∧ b.toList = KTs.hash prog w done ∧ s' = { s with toks := s.toks + KTs.draws done }) _ ?_ ?_ _ _ ⟨[], ts, rfl, r, rfl, by simp [KTs.draws]⟩
      · rintro x rest b s' ⟨done, left, rfl, hl, hb, rfl⟩
        cases left with
        | nil =>
          unfold KsAt at hl
          cases hl
        | cons t left =>
          unfold KsAt at hl
          obtain ⟨v, rr, e, h1, h2⟩ := hl
          cases e
          have dt : t.depth ≤ n := by
            have := depth_memK (show t ∈ done ++ t :: left by simp)
            omega
          refine wpAny_bind (ih (s := { s with toks := s.toks + KTs.draws done }) dt (by first | (show A.units + 1 + n < cLine; omega) | (show A.units + n < cLine; omega)) h1 ?_)
          have fin : ∃ done' left', done ++ t :: left = done' ++ left' ∧ KsAt s.heap rest left' ∧ (b.push (KT.hash prog w t)).toList = KTs.hash prog w done' ∧ ({ s with toks := s.toks + KTs.draws done + t.draws } : Shared) = { s with toks := s.toks + KTs.draws done' } := by
            refine ⟨done ++ [t], left, by simp, h2, by rw [hash_app, Array.toList_push, hb]; simp [KTs.hash], ?_⟩
            rw [draws_app]
            simp [KTs.draws, Nat.add_assoc]
          first
            | exact wpAny_pure fin
            | exact wpAny_bind (wpAny_pure (wpAny_pure fin))
      · rintro b s' ⟨done, left, rfl, hl, hb, rfl⟩
        cases left with
        | cons t left =>
          unfold KsAt at hl
          obtain ⟨v, rr, e, _⟩ := hl
          cases e
        | nil =>
          rw [List.append_nil] at h
          show wpAny _ _ (retInt (Builtin.Tuple.tupleHashOf b.toList)) _ _ _
          rw [hb]
          refine wpAny_ret_mkInt ?_
          show wpAny _ _ (if (decide (-(2 : Int) ^ 63 ≤ Builtin.Tuple.tupleHashOf (KTs.hash prog w done)) && decide (Builtin.Tuple.tupleHashOf (KTs.hash prog w done) < 2 ^ 63)) = true then _ else _) _ _ _
          unfold reduceHash at h
          by_cases hr : (decide (-(2 : Int) ^ 63 ≤ Builtin.Tuple.tupleHashOf (KTs.hash prog w done)) && decide (Builtin.Tuple.tupleHashOf (KTs.hash prog w done) < 2 ^ 63)) = true
          · rw [if_pos hr] at h ⊢
            exact wpAny_pure (by simpa [Nat.add_assoc] using h)
          · rw [if_neg hr] at h ⊢
            exact wpAny_bind (wpAny_rule (wpAny_pure (by simpa [Nat.add_assoc] using h)))
end
end Tk
set_option Elab.async false
set_option linter.all false
set_option maxRecDepth 100000
set_option maxHeartbeats 1000000
namespace Tk
open PySem PySem.Spec PyProof.Rows L2
theorem all_get {ts us : List KT} : ((List.range (min ts.length us.length)).all (fun j => decide (ts[j]? = us[j]?)) && ts.length == us.length) = decide (ts = us) := by
  by_cases h : ts = us
  · subst h
    simp
  · rw [decide_eq_false h]
    by_cases hl : ts.length = us.length
    · have : ∃ j, j < ts.length ∧ ts[j]? ≠ us[j]? := by
        refine Classical.byContradiction fun n => h (List.ext_getElem? fun j => ?_)
        by_cases hj : j < ts.length
        · exact Classical.byContradiction fun z => n ⟨j, hj, z⟩
        · rw [List.getElem?_eq_none (by omega), List.getElem?_eq_none (by omega)]
      obtain ⟨j, hj, ne⟩ := this
      rw [Bool.and_eq_false_iff]
      left
      refine List.all_eq_false.mpr ⟨j, List.mem_range.mpr (by omega), ?_⟩
      simp [ne]
    · rw [Bool.and_eq_false_iff]
      right
      simp [hl]
theorem eq_at : ∀ (n : Nat) {A : Around} {s : Shared} {t u : KT} {a b : Value}, t.depth ≤ n → A.units + n + 1 < cLine → KAt s.heap a t → KAt s.heap b u → SeqAt.EqAt A s a b (decide (t = u)) := by
  intro n
  induction n with
  | zero =>
    intro A s t u a b hd hu h1 h2
    cases t with
    | tp ts => simp [KT.depth] at hd
    | lf k =>
      unfold KAt at h1
      cases u with
      | lf j =>
        unfold KAt at h2
        intro prog w E Q q
        refine (mixKind prog w).eqBool h1 h2 ?_
        have e : decide (k = j) = decide (KT.lf k = KT.lf j) := by simp
        rw [e]
        exact q
      | tp us =>
        unfold KAt at h2
        obtain ⟨r, o, items, m, rfl, g, c, d, _⟩ := h2
        rw [decide_eq_false (by intro z; cases z)]
        rcases keyIs_shape h1 with ⟨i, t, rfl, rfl⟩ | ⟨x, t, rfl, rfl⟩
        · exact SeqAt.EqAt.int_tuple i t (items := items) ⟨o, g, c, m, d⟩ (by omega)
        · exact SeqAt.EqAt.str_tuple x t (items := items) ⟨o, g, c, m, d⟩ (by omega)
  | succ n ih =>
    intro A s t u a b hd hu h1 h2
    cases t with
    | lf k =>
      unfold KAt at h1
      cases u with
      | lf j =>
        unfold KAt at h2
        intro prog w E Q q
        refine (mixKind prog w).eqBool h1 h2 ?_
        have e : decide (k = j) = decide (KT.lf k = KT.lf j) := by simp
        rw [e]
        exact q
      | tp us =>
        unfold KAt at h2
        obtain ⟨r, o, items, m, rfl, g, c, d, _⟩ := h2
        rw [decide_eq_false (by intro z; cases z)]
        rcases keyIs_shape h1 with ⟨i, t, rfl, rfl⟩ | ⟨x, t, rfl, rfl⟩
        · exact SeqAt.EqAt.int_tuple i t (items := items) ⟨o, g, c, m, d⟩ (by omega)
        · exact SeqAt.EqAt.str_tuple x t (items := items) ⟨o, g, c, m, d⟩ (by omega)
    | tp ts =>
      have h1' := h1
      have h2' := h2
      unfold KAt at h1
      obtain ⟨r, o, items, m, rfl, g, c, d, k1⟩ := h1
      cases u with
      | lf j =>
        unfold KAt at h2
        rw [decide_eq_false (by intro z; cases z)]
        rcases keyIs_shape h2 with ⟨i, t, rfl, rfl⟩ | ⟨x, t, rfl, rfl⟩
        · exact SeqAt.EqAt.tuple_int i t (items := items) ⟨o, g, c, m, d⟩ (by omega)
        · exact SeqAt.EqAt.tuple_str x t (items := items) ⟨o, g, c, m, d⟩ (by omega)
      | tp us =>
        unfold KAt at h2
        obtain ⟨r', o', items', m', rfl, g', c', d', k2⟩ := h2
        by_cases z : r = r'
        · subst z
          rw [decide_eq_true (KAt.det h1' h2')]
          exact SeqAt.EqAt.same _
        · have hd' : KTs.depth ts ≤ n := by
            unfold KT.depth at hd
            omega
          have l1 := k1.len
          have l2 := k2.len
          have := SeqAt.RcAt.tuples (A := A) (e := fun j => decide (ts[j]? = us[j]?)) (show s.heap.IsTuple r items from ⟨o, g, c, m, d⟩) (show s.heap.IsTuple r' items' from ⟨o', g', c', m', d'⟩) (by omega) fun j g1 g2 => by
            obtain ⟨t1, e1, a1⟩ := k1.get (j := j) (v := items[j]) (by rw [Array.getElem?_toList]; simp [g1])
            obtain ⟨t2, e2, a2⟩ := k2.get (j := j) (v := items'[j]) (by rw [Array.getElem?_toList]; simp [g2])
            have e : decide (ts[j]? = us[j]?) = decide (t1 = t2) := by rw [e1, e2]; simp
            rw [e]
            refine ih (A := A.in1) ?_ (by show A.units + 1 + n + 1 < cLine; omega) a1 a2
            have := depth_memK (List.mem_of_getElem? e1)
            omega
          have hs1 : items.size = ts.length := by rw [← l1, Array.length_toList]
          have hs2 : items'.size = us.length := by rw [← l2, Array.length_toList]
          rw [hs1, hs2, all_get] at this
          have e : decide (KT.tp ts = KT.tp us) = decide (ts = us) := by simp
          rw [e]
          exact SeqAt.EqAt.of_refs z this
theorem quiet_at : ∀ (n : Nat) {prog : Program} {w : World} {A : Around} {E : Value → Shared → Prop} {s : Shared} {t : KT} {v : Value} {Q : Bool → Shared → Prop}, KAt s.heap v t → t.depth ≤ n → Q true s → wpAny (model prog w) A (eqIsQuiet n v) Q E s := by
  have leaf : ∀ (n : Nat) {prog : Program} {w : World} {A : Around} {E : Value → Shared → Prop} {s : Shared} {k : Key} {v : Value} {Q : Bool → Shared → Prop}, keyIs k v = true → Q true s → wpAny (model prog w) A (eqIsQuiet n v) Q E s := by
    intro n prog w A E s k v Q h q
    rw [eqIsQuiet_byValue _ ((mixKind prog w).byValue k v h)]
    exact wpAny_pure q
  intro n
  induction n with
  | zero =>
    intro prog w A E s t v Q h hd q
    cases t with
    | tp ts => simp [KT.depth] at hd
    | lf k =>
      unfold KAt at h
      exact leaf 0 h q
  | succ n ih =>
    intro prog w A E s t v Q h hd q
    cases t with
    | lf k =>
      unfold KAt at h
      exact leaf _ h q
    | tp ts =>
      unfold KAt at h
      obtain ⟨a, o, items, m, rfl, g, c, d, r⟩ := h
      have ty : s.TypeIs (.ref a) "tuple" := ⟨o, g, c⟩
      have hd' : KTs.depth ts ≤ n := by
        unfold KT.depth at hd
        omega
      unfold eqIsQuiet
      refine wpAny_bind (wpAny_specialOf ty F.slot_tuple_eq.lookup ?_)
      show wpAny _ _ (do let y ← isInstance (.ref a) (.type "tuple"); _) _ _ _
      refine wpAny_bind (wpAny_isInstance ty isSubtype_tuple_tuple ?_)
      simp only [Bool.not_true, if_false, Bool.false_eq_true]
      refine wpAny_bind (wpAny_seqItems g d (wpAny_bind ?_))
      show wpAny _ _ (forIn items _ _) _ _ _
      rw [← Array.forIn_toList]
      refine wpAny_forIn_list _ (fun rest b s' => b.1 = none ∧ s' = s ∧ ∃ left, KsAt s.heap rest left ∧ KTs.depth left ≤ n) _ ?_ ?_ _ _ ⟨rfl, rfl, ts, r, hd'⟩
      · rintro x rest b s' ⟨hb, rfl, left, hl, hd2⟩
        cases left with
        | nil =>
          unfold KsAt at hl
          cases hl
        | cons t left =>
          unfold KsAt at hl
          obtain ⟨v, rr, e, h1, h2⟩ := hl
          cases e
          unfold KTs.depth at hd2
          refine wpAny_bind (ih h1 (by omega) ?_)
          simp only [Bool.not_true, if_false, Bool.false_eq_true]
          exact wpAny_pure ⟨rfl, rfl, left, h2, by omega⟩
      · rintro ⟨b1, b2⟩ s' ⟨hb, rfl, _⟩
        simp only at hb
        subst hb
        exact wpAny_pure q
noncomputable def treeKind (prog : Program) (w : World) : HeapKind prog w (List KT) where
  is := fun h ts a => KAt h (.ref a) (.tp ts) ∧ (KT.tp ts).depth ≤ 8
  hash := fun ts => (KT.tp ts).hash prog w
  draws := fun ts => (KT.tp ts).draws
  room := fun A => A.units + 20 < cLine
  inj := fun x y => by
    have := KAt.det x.1 y.1
    injection this
  keeps := fun {h h' k a d o es ep} x g hd sb => ⟨x.1.keep fun b ob items n e dt => by
    have ne : b ≠ d := fun z => by
      subst z
      rw [g] at e
      cases e
      rw [hd] at dt
      cases dt
    exact (sb.2 b ne).trans e, x.2⟩
  pyHash := fun hu x q => hash_at 8 x.2 (by omega) x.1 q
  eqBool := fun {A E s x y a b Q} hu hx hy q => by
    refine eq_at 8 (t := .tp x) (u := .tp y) hx.2 (by omega) hx.1 hy.1 prog w E Q ?_
    have e : decide (KT.tp x = KT.tp y) = decide (x = y) := by simp
    rw [e]
    exact q
  quiet := fun x q => quiet_at 8 x.1 x.2 q
end Tk
set_option Elab.async false
set_option linter.all false
set_option maxRecDepth 100000
set_option maxHeartbeats 1000000
namespace Dj
open PySem PySem.Spec PyProof.Rows L2 Tre
def SqX (K : PySem.W.Frag) (H : Hp) (a : Addr) (xs : List V) : Prop :=
  H a = some (.tup xs) ∨ ∃ (o : Obj) (its : Array Value) (n : Nat), K.lookup a = some o ∧ o.cls = .type "tuple" ∧ o.data = .seq its n ∧ its.size ≤ sizeLine ∧ Vals xs its.toList
theorem SqX.sq {K : PySem.W.Frag} {H : Hp} {a : Addr} {xs : List V} (h : SqX K H a xs) : SqT K H a xs := h.elim (fun e => .inl (.inl e)) .inr
theorem SqX.mono {K : PySem.W.Frag} {H H' : Hp} {a : Addr} {xs : List V} (d : Kd H H') (h : SqX K H a xs) : SqX K H' a xs := h.elim (fun e => .inl (d.tup _ _ e)) .inr
mutual
def KVt (K : PySem.W.Frag) (H : Hp) : V → Tk.KT → Prop
  | v, .lf (.inl i) => v = .int i
  | v, .lf (.inr x) => v = .str x
  | v, .tp ts => ∃ r vs, v = .ref r ∧ SqX K H r vs ∧ KVts K H vs ts
def KVts (K : PySem.W.Frag) (H : Hp) : List V → List Tk.KT → Prop
  | vs, [] => vs = []
  | vs, t :: ts => ∃ v r, vs = v :: r ∧ KVt K H v t ∧ KVts K H r ts
end
section
variable {P : Program} {w : World} {K : PySem.W.Frag} {H H' : Hp} {h : Heap}
mutual
theorem KVt.mono (d : Kd H H') : ∀ {v : V} {t : Tk.KT}, KVt K H v t → KVt K H' v t
  | v, .lf (.inl i), a => by unfold KVt at a ⊢; exact a
  | v, .lf (.inr x), a => by unfold KVt at a ⊢; exact a
  | v, .tp ts, a => by
    unfold KVt at a ⊢
    obtain ⟨r, vs, e, s, q⟩ := a
    exact ⟨r, vs, e, s.mono d, KVts.mono d q⟩
theorem KVts.mono (d : Kd H H') : ∀ {vs : List V} {ts : List Tk.KT}, KVts K H vs ts → KVts K H' vs ts
  | vs, [], a => by unfold KVts at a ⊢; exact a
  | vs, t :: ts, a => by
    unfold KVts at a ⊢
    obtain ⟨v, r, e, a1, a2⟩ := a
    exact ⟨v, r, e, KVt.mono d a1, KVts.mono d a2⟩
end
theorem sqx_at (ok : HOk P w H h) (kin : K.In h) {q : Addr} {vs : List V} (e : SqX K H q vs) : ∃ its : List Value, Vals vs its ∧ ∃ o n, h.get? q = some o ∧ o.cls = .type "tuple" ∧ o.data = .seq its.toArray n := by
  rcases e with e | ⟨o, its, n, hk, hc, hs, hz, r⟩
  · obtain ⟨_, its, rv, o, h1, h2, n, h3⟩ := (show ObjOk P w H h q (.tup vs) from ok q _ e)
    exact ⟨its, rv, o, n, h1, h2, h3⟩
  · exact ⟨its.toList, r, o, n, kin q o hk, hc, by simpa using hs⟩
mutual
theorem kat_of (ok : HOk P w H h) (kin : K.In h) : ∀ {v : V} {t : Tk.KT} {u : Value}, KVt K H v t → RelV v u → Tk.KAt h u t
  | v, .lf (.inl i), u, a, r => by
    unfold KVt at a
    subst a
    obtain ⟨t, rfl⟩ := r
    simp only [Tk.KAt]
    exact keyIs_int i t
  | v, .lf (.inr x), u, a, r => by
    unfold KVt at a
    subst a
    obtain ⟨t, rfl⟩ := r
    simp only [Tk.KAt]
    exact keyIs_str x t
  | v, .tp ts, u, a, r => by
    unfold KVt at a
    obtain ⟨q, vs, rfl, e, as⟩ := a
    obtain rfl : u = Value.ref q := r
    obtain ⟨its, rv, o, n, h1, h2, h3⟩ := sqx_at ok kin e
    simp only [Tk.KAt]
    exact ⟨q, o, its.toArray, n, rfl, h1, h2, h3, by simpa using kats_of ok kin as rv⟩
theorem kats_of (ok : HOk P w H h) (kin : K.In h) : ∀ {vs : List V} {ts : List Tk.KT} {us : List Value}, KVts K H vs ts → Vals vs us → Tk.KsAt h us ts
  | vs, [], us, a, r => by
    unfold KVts at a
    subst a
    cases r
    simp [Tk.KsAt]
  | vs, t :: ts, us, a, r => by
    unfold KVts at a
    obtain ⟨v, q, rfl, a1, a2⟩ := a
    cases r with
    | cons r1 r2 =>
      simp only [Tk.KsAt]
      exact ⟨_, _, rfl, kat_of ok kin a1 r1, kats_of ok kin a2 r2⟩
end
end
def KeyAt (K : PySem.W.Frag) (H : Hp) (k : List Tk.KT) (b : Addr) : Prop := ∃ vs, SqX K H b vs ∧ KVts K H vs k ∧ (Tk.KT.tp k).depth ≤ 8
theorem KeyAt.mono {K : PySem.W.Frag} {H H' : Hp} {k : List Tk.KT} {b : Addr} (d : Kd H H') (h : KeyAt K H k b) : KeyAt K H' k b := by
  obtain ⟨ts, h1, h2, h3⟩ := h
  exact ⟨ts, h1.mono d, h2.mono d, h3⟩
theorem KeyAt.is {P : Program} {w : World} {K : PySem.W.Frag} {H : Hp} {h : Heap} {k : List Tk.KT} {b : Addr} (ok : HOk P w H h) (kin : K.In h) (x : KeyAt K H k b) : (Tk.treeKind P w).is h k b := by
  obtain ⟨vs, h1, h2, h4⟩ := x
  have := kat_of ok kin (v := .ref b) (t := .tp k) (u := .ref b) (by unfold KVt; exact ⟨b, vs, rfl, h1, h2⟩) rfl
  exact ⟨this, h4⟩
abbrev Ent := List Tk.KT × Addr × V
abbrev RE : List Ent → List (List Tk.KT × Addr × Value) → Prop := Paired fun p q => p.1 = q.1 ∧ p.2.1 = q.2.1 ∧ RelV p.2.2 q.2.2
noncomputable def dJ (P : Program) (w : World) (a : Addr) (kvs : List Ent) : HO := .ext fun h => kvs.length ≤ sizeLine ∧ (a == sysModules) = false ∧
  ∃ xs : List (List Tk.KT × Addr × Value), RE kvs xs ∧ ∃ o es ep, h.get? a = some o ∧ o.ExactDict ∧ o.data = .dict es ep ∧ es.toList = xs.map (entryOfKey (Tk.treeKind P w)) ∧ (xs.map (·.1)).Nodup
structure DJ (P : Program) (w : World) (K : PySem.W.Frag) (H : Hp) (a : Addr) (kvs : List Ent) : Prop where
  at_ : H a = some (dJ P w a kvs)
  keys : ∀ p ∈ kvs, KeyAt K H p.1 p.2.1
noncomputable def valJ (kvs : List Ent) (k : List Tk.KT) : Option V := (kvs.find? fun p => decide (p.1 = k)).map (·.2.2)
noncomputable def putJ (kvs : List Ent) (k : List Tk.KT) (b : Addr) (v : V) : List Ent :=
  if (valJ kvs k).isSome then kvs.map (fun p => if p.1 = k then (p.1, p.2.1, v) else p) else kvs ++ [(k, b, v)]
theorem valJ_pos {p : Ent} {r : List Ent} {k : List Tk.KT} (e : p.1 = k) : valJ (p :: r) k = some p.2.2 := by simp [valJ, List.find?_cons, e]
theorem valJ_neg {p : Ent} {r : List Ent} {k : List Tk.KT} (e : ¬ p.1 = k) : valJ (p :: r) k = valJ r k := by simp [valJ, List.find?_cons, e]
theorem length_putJ (kvs : List Ent) (k : List Tk.KT) (b : Addr) (v : V) : (putJ kvs k b v).length ≤ kvs.length + 1 := by
  unfold putJ
  split
  · rw [List.length_map]; omega
  · rw [List.length_append, List.length_cons, List.length_nil]; omega
theorem RE.val {kvs : List Ent} {xs : List (List Tk.KT × Addr × Value)} (r : RE kvs xs) (k : List Tk.KT) : RelO (valJ kvs k) ((atKey xs k).map (·.2)) := by
  induction r with
  | nil => exact True.intro
  | @cons p q ps qs h t ih =>
    obtain ⟨h1, _, h2⟩ := h
    by_cases e : p.1 = k
    · have e' : q.1 = k := h1.symm.trans e
      have b : atKey (q :: qs) k = some q.2 := by simp [atKey, List.find?_cons, e']
      rw [valJ_pos e, b]; exact h2
    · have e' : ¬ q.1 = k := fun z => e (h1.trans z)
      have b : atKey (q :: qs) k = atKey qs k := by simp [atKey, List.find?_cons, e']
      rw [valJ_neg e, b]; exact ih
theorem RE.repl {kvs : List Ent} {xs : List (List Tk.KT × Addr × Value)} (r : RE kvs xs) (k : List Tk.KT) {y : V} {u : Value} (ry : RelV y u) :
    RE (kvs.map fun p => if p.1 = k then (p.1, p.2.1, y) else p) (xs.map (putAt k u)) := by
  induction r with
  | nil => exact .nil
  | @cons p q ps qs h t ih =>
    rw [List.map_cons, List.map_cons]
    refine .cons ?_ ih
    obtain ⟨h1, h2, h3⟩ := h
    unfold putAt
    by_cases e : p.1 = k
    · rw [if_pos e, if_pos (h1.symm.trans e)]; exact ⟨h1, h2, ry⟩
    · rw [if_neg e, if_neg (fun z => e (h1.trans z))]; exact ⟨h1, h2, h3⟩
theorem RE.put {kvs : List Ent} {xs : List (List Tk.KT × Addr × Value)} (r : RE kvs xs) (k : List Tk.KT) {b : Addr} {y : V} {u : Value} (ry : RelV y u) : RE (putJ kvs k b y) (storedH xs k b u) := by
  have e : (valJ kvs k).isSome = (atKey xs k).isSome := by
    rw [(r.val k).isSome_eq, Option.isSome_map]
  unfold putJ storedH
  rw [e]
  by_cases q : (atKey xs k).isSome = true
  · rw [if_pos q, if_pos q]; exact r.repl k ry
  · rw [if_neg q, if_neg q]; exact Paired.snoc r ⟨rfl, rfl, ry⟩
theorem putJ_mem {kvs : List Ent} {k : List Tk.KT} {b : Addr} {v : V} {p : Ent} (h : p ∈ putJ kvs k b v) : (∃ q ∈ kvs, p.1 = q.1 ∧ p.2.1 = q.2.1) ∨ (p.1 = k ∧ p.2.1 = b) := by
  unfold putJ at h
  split at h
  · obtain ⟨q, m, e⟩ := List.mem_map.mp h
    split at e
    · subst e; exact .inl ⟨q, m, rfl, rfl⟩
    · subst e; exact .inl ⟨q, m, rfl, rfl⟩
  · rcases List.mem_append.mp h with m | m
    · exact .inl ⟨p, m, rfl, rfl⟩
    · rw [List.mem_singleton.mp m]; exact .inr ⟨rfl, rfl⟩
theorem Kd.updJ {P : Program} {w : World} {H : Hp} {a : Addr} {kvs : List Ent} {o : HO} (h : H a = some (dJ P w a kvs)) : Kd H (upd H a o) := by
  refine ⟨fun b zs e => ?_, fun b zs e => ⟨zs, ?_⟩⟩
  · rw [upd_ne (fun z => by rw [z, h] at e; cases e)]; exact e
  · rw [upd_ne (fun z => by rw [z, h] at e; cases e)]; exact e
theorem DJ.put {P : Program} {w : World} {K : PySem.W.Frag} {H : Hp} {a b : Addr} {kvs : List Ent} {k : List Tk.KT} {v : V} (d : DJ P w K H a kvs) (hk : KeyAt K H k b) : DJ P w K (upd H a (dJ P w a (putJ kvs k b v))) a (putJ kvs k b v) := by
  refine ⟨upd_same, fun p m => ?_⟩
  refine KeyAt.mono (Kd.updJ d.at_) ?_
  rcases putJ_mem m with ⟨q, mq, e1, e2⟩ | ⟨e1, e2⟩
  · rw [e1, e2]; exact d.keys q mq
  · rw [e1, e2]; exact hk
theorem DJ.kd {P : Program} {w : World} {K : PySem.W.Frag} {H H' : Hp} {a : Addr} {kvs : List Ent} (d : DJ P w K H a kvs) (k : Kd H H') (e : H' a = some (dJ P w a kvs)) : DJ P w K H' a kvs := ⟨e, fun p m => (d.keys p m).mono k⟩
section
variable {P : Program} {w : World} {H : Hp} {h : Heap} {a : Addr}
theorem dj_of {K : PySem.W.Frag} {kvs : List Ent} (ok : HOk P w H h) (kin : K.In h) (d : DJ P w K H a kvs) : kvs.length ≤ sizeLine ∧ (a == sysModules) = false ∧ ∃ xs, RE kvs xs ∧ h.DictOfH (Tk.treeKind P w) a xs := by
  obtain ⟨⟨z, y, xs, r, o, es, ep, h1, h2, h3, h4, h5⟩, _⟩ := (show ObjOk P w H h a (dJ P w a kvs) from ok a _ d.at_)
  refine ⟨z, y, xs, r, o, es, ep, h1, h2, h3, h4, ?_, h5⟩
  have all : ∀ {l : List Ent} {m : List (List Tk.KT × Addr × Value)}, RE l m → (∀ p ∈ l, KeyAt K H p.1 p.2.1) → ∀ x ∈ m, (Tk.treeKind P w).is h x.1 x.2.1 := by
    intro l m q
    induction q with
    | nil => intro _ x hx; exact nomatch hx
    | @cons p q ps qs hq t ih =>
      intro kp x hx
      rcases List.mem_cons.mp hx with e | hx
      · subst e
        rw [← hq.1, ← hq.2.1]
        exact (kp p List.mem_cons_self).is ok kin
      · exact ih (fun p m => kp p (List.mem_cons_of_mem _ m)) x hx
  exact all r d.keys
theorem dj_new {kvs : List Ent} {xs : List (List Tk.KT × Addr × Value)} {H' : Hp} {h' : Heap} (z : kvs.length ≤ sizeLine) (y : (a == sysModules) = false) (r : RE kvs xs)
    (d : ∃ o es ep, h'.get? a = some o ∧ o.ExactDict ∧ o.data = .dict es ep ∧ es.toList = xs.map (entryOfKey (Tk.treeKind P w)) ∧ (xs.map (·.1)).Nodup) : ObjOk P w H' h' a (dJ P w a kvs) := by
  obtain ⟨o, es, ep, h1, h2⟩ := d
  refine ⟨⟨z, y, xs, r, o, es, ep, h1, h2⟩, ⟨o, h1⟩, ?_⟩
  rintro g1 g2 ⟨z, y, xs, r, o, es, ep, h1, h2⟩ st
  exact ⟨z, y, xs, r, o, es, ep, st _ h1, h2⟩
end
noncomputable def tDNewJ (P : Program) (w : World) : TE := fun _ H Q => ∀ p, H p = none → Q (.ref p) (upd H p (dJ P w p []))
noncomputable def sDPutJ (P : Program) (w : World) (K : PySem.W.Frag) (td ty tv : TE) : TS := fun D σ H => tv σ H fun v H1 => td σ H1 fun x H2 => ty σ H2 fun y H3 => ∃ a b k kvs, x = .ref a ∧ y = .ref b ∧ DJ P w K H3 a kvs ∧ KeyAt K H3 k b ∧ kvs.length < sizeLine ∧ D.nx σ (upd H3 a (dJ P w a (putJ kvs k b v)))
noncomputable def tDGetJ (P : Program) (w : World) (K : PySem.W.Frag) (td ty tx : TE) : TE := fun σ H Q => td σ H fun x H1 => ∃ a kvs, x = .ref a ∧ DJ P w K H1 a kvs ∧ ty σ H1 fun y H2 => tx σ H2 fun z H3 => ∃ b k, y = .ref b ∧ DJ P w K H3 a kvs ∧ KeyAt K H3 k b ∧ Q ((valJ kvs k).getD z) H3
section
variable {X : Cx} {pos pos' apos cpos : Pos} {o i e f value : Expr} {td ty tv tx : TE}
theorem dj_empty {P : Program} {w : World} {H : Hp} (h : Heap) (hb : sysModules < h.objs.size) : ObjOk P w H (h.push { cls := .type "dict", data := .dict #[] }) h.objs.size (dJ P w h.objs.size []) :=
  dj_new (Nat.zero_le _) (beq_eq_false_iff_ne.mpr (Ne.symm (Nat.ne_of_lt hb))) .nil ⟨_, #[], 0, Heap.get?_push_size _ rfl, ⟨rfl, rfl, rfl⟩, rfl, rfl, List.nodup_nil⟩
theorem pe_dnewJ : PE X (.Dict [] [] pos) (tDNewJ X.prog X.w) := fun pins s σ H Q I h =>
  wpAny_Dict_empty ⟨.ref s.heap.objs.size, _, I.laid (a := s.heap.objs.size) (o := dJ X.prog X.w s.heap.objs.size []) (t' := s.toks) (fun _ _ q => Heap.get?_push_of_some _ q) (Nat.le_refl _) (dj_empty s.heap I.big), rfl, h _ (I.hok.fresh (Nat.le_refl _))⟩
theorem ps_dputJ (hu : X.A.units + 30 < cLine) (ho : PE X o td) (hi : PE X i ty) (hv : PE X value tv) (hs : swapsWith value (some (.Subscript o i pos')) pos.line X.env = pure false) :
    PS X (.Assign [.Subscript o i pos'] value pos) (sDPutJ X.prog X.w X.K td ty tv) := by
  intro pins s σ H D I h
  refine wpAny_Assign_Subscript (thn (hv pins s σ H _ I h) fun r s1 ⟨v, H1, I1, rv, q1⟩ => thn (ho pins s1 σ H1 _ I1 q1) fun u s2 ⟨x, H2, I2, rx, q2⟩ => thn (hi pins s2 σ H2 _ I2 q2) fun iv s3 ⟨y, H3, I3, ry, a, b, k, kvs, ex, ey, d, kb, hl, q3⟩ => ?_) hs
  subst ex ey
  obtain rfl : u = Value.ref a := rx
  obtain rfl : iv = Value.ref b := ry
  obtain ⟨z, hd, xs, rel, dd⟩ := dj_of I3.hok I3.kIn d
  have hz : xs.length ≤ sizeLine := by rw [← Paired.length rel]; exact z
  have hl2 : (putJ kvs k b v).length ≤ sizeLine := by have := length_putJ kvs k b v; omega
  refine wpAny_setItem_heap (hsz := hz) (by show X.A.units + 1 + 20 < cLine; omega) (kb.is I3.hok I3.kIn) dd fun h' dd' hs => ⟨σ, _, ?_, q3⟩
  obtain ⟨q, es, ep, hq, h2, h3, h4, _, h5⟩ := dd'
  exact d_write I3 (by rw [d.at_]; exact True.intro) hs ⟨q, hq⟩ (dj_new hl2 hd (rel.put k rv) ⟨q, es, ep, hq, h2, h3, h4, h5⟩)
theorem pe_dgetJ (hu : X.A.units + 30 < cLine) (ho : PE X o td) (he : PE X e ty) (hf : PE X f tx) (m : M2 X o "get" apos e f cpos) : PE X (.Call (.Attribute o "get" apos) [e, f] [] cpos) (tDGetJ X.prog X.w X.K td ty tx) := by
  intro pins s σ H Q I h
  refine wpAny_Call_method m.base m.few m.line PySem.F.plainAttrs_dict PySem.F.slot_dict_get PySem.F.type_dict_get (thn (ho pins s σ H _ I h) fun u s1 ⟨x, H1, I1, rx, a, kvs, ex, d, q1⟩ => ?_)
  subst ex
  obtain rfl : u = Value.ref a := rx
  have ty0 : s1.TypeIs (.ref a) "dict" ∧ ∀ b, Value.ref a = .ref b → ∃ ob, s1.heap.get? b = some ob ∧ ob.dict = none := by
    obtain ⟨_, _, xs, _, dd⟩ := dj_of I1.hok I1.kIn d
    refine ⟨dd.typeIs, fun b q => ?_⟩
    cases q
    obtain ⟨ob, _, _, h1, h2, _⟩ := dd
    exact ⟨ob, h1, h2.2.1⟩
  refine ⟨ty0.1, ty0.2, ?_⟩
  rw [m.trees]
  refine Calls.callWith_builtin rfl (Calls.evalArgs_plain (Calls.spliced_cons (thn (he pins s1 σ H1 _ I1 q1) fun iv s2 ⟨y, H2, I2, ry, q2⟩ =>
    Calls.spliced_cons (thn (hf pins s2 σ H2 _ I2 q2) fun fv s3 ⟨z, H3, I3, rz, b, k, ey, d3, kb, q3⟩ => Calls.spliced_nil ?_))))
  subst ey
  obtain rfl : iv = Value.ref b := ry
  obtain ⟨_, hd, xs, rel, dd⟩ := dj_of I3.hok I3.kIn d3
  exact call_meetsIn PySem.F.slot_dict_get dd.typeIs PySem.F.entry_dict_get (PySem.F.args_dict_get_3 _ _ _) (meetsH_dict_get_default (Tk.treeKind X.prog X.w) a b hd fv) ⟨by show X.A.units + 1 + 20 < cLine; omega, k, xs, kb.is I3.hok I3.kIn, dd, ⟨_, H3, I3.tok _, (rel.val k).getD rz, q3⟩⟩
variable {P : Program} {w : World} {K : PySem.W.Frag}
theorem pe_newJ (hP : X.prog = P) (hw : X.w = w) : PE X (.Dict [] [] pos) (tDNewJ P w) := by
  subst hP hw
  exact pe_dnewJ
theorem ps_putJ (hP : X.prog = P) (hw : X.w = w) (hK : X.K = K) (hu : X.A.units + 30 < cLine) (ho : PE X o td) (hi : PE X i ty) (hv : PE X value tv) (hs : swapsWith value (some (.Subscript o i pos')) pos.line X.env = pure false) :
    PS X (.Assign [.Subscript o i pos'] value pos) (sDPutJ P w K td ty tv) := by
  subst hP hw hK
  exact ps_dputJ hu ho hi hv hs
theorem pe_getJ (hP : X.prog = P) (hw : X.w = w) (hK : X.K = K) (hu : X.A.units + 30 < cLine) (ho : PE X o td) (he : PE X e ty) (hf : PE X f tx) (m : M2 X o "get" apos e f cpos) : PE X (.Call (.Attribute o "get" apos) [e, f] [] cpos) (tDGetJ P w K td ty tx) := by
  subst hP hw hK
  exact pe_dgetJ hu ho he hf m
end
end Dj
set_option Elab.async false
set_option linter.all false
set_option maxRecDepth 100000
set_option maxHeartbeats 1000000
namespace Tre
open PySem L2
theorem str_code {x y : Str} (h : x.cps.toList = y.cps.toList) : x = y := by
  cases x
  cases y
  simp only [Str.mk.injEq]
  exact Array.toList_inj.mp h
theorem codes_eq {ts us : List Tr} (h : ∀ t ∈ ts, ∀ u ∈ us, code t = code u → t = u) (e : codes ts = codes us) : ts = us := by
  induction ts generalizing us with
  | nil => cases us with
    | nil => rfl
    | cons u us => simp [codes] at e
  | cons t ts ih =>
    cases us with
    | nil => simp [codes] at e
    | cons u us =>
      simp only [codes, List.cons.injEq] at e
      rw [h t List.mem_cons_self u List.mem_cons_self e.1, ih (fun a ma b mb => h a (List.mem_cons_of_mem _ ma) b (List.mem_cons_of_mem _ mb)) e.2]
theorem nl {x y : String} (h : (Str.ofString x).cps.toList ≠ (Str.ofString y).cps.toList) {r s : List Co} : Co.tup (.str (Str.ofString x).cps.toList :: r) = Co.tup (.str (Str.ofString y).cps.toList :: s) → False := fun e => by
  simp only [Co.tup.injEq, List.cons.injEq, Co.str.injEq] at e
  exact h e.1
theorem ty_eq : ∀ (n : Nat) {k : So} {t u : Tr}, t.depth ≤ n → Ty k t → Ty k u → code t = code u → t = u := by
  intro n
  induction n with
  | zero =>
    intro k t u hd h1 h2
    cases h1 <;> simp [Tr.depth] at hd
  | succ n ih =>
    intro k t u hd h1 h2 e
    have sub : ∀ {ts : List Tr} {t : Tr}, (Tr.tup ts).depth ≤ n + 1 → t ∈ ts → t.depth ≤ n := fun h m => by
      unfold Tr.depth at h
      have := depth_memT m
      omega
    have sub2 : ∀ {ts l : List Tr} {t : Tr}, (Tr.tup ts).depth ≤ n + 1 → Tr.tup l ∈ ts → t ∈ l → t.depth ≤ n := fun h m m2 => by
      have h3 := sub h m
      unfold Tr.depth at h3
      have := depth_memT m2
      omega
    cases h1 <;> cases h2 <;> simp only [code, codes] at e
    all_goals first
      | exact (nl (by decide +kernel) e).elim
      | skip
    all_goals simp only [Co.tup.injEq, List.cons.injEq, Co.str.injEq, Co.num.injEq, and_true, true_and] at e
    · rw [str_code e]
    · rename_i x ts _ h1 y us _ h2
      rw [str_code e.1, codes_eq (fun a ma b mb => ih (sub2 hd (by simp) ma) (h1 a ma) (h2 b mb)) e.2]
    · rw [e.1, e.2]
    · rename_i t1 f1 a1 b1 t2 f2 a2 b2
      rw [ih (sub hd (by simp)) a1 a2 e.1, ih (sub hd (by simp)) b1 b2 e.2]
    · rw [str_code e]
    · rename_i p1 f1 a1 b1 p2 f2 a2 b2
      rw [codes_eq (fun a ma b mb => ih (sub2 hd (by simp) ma) (a1 a ma) (a2 b mb)) e.1, ih (sub hd (by simp)) b1 b2 e.2]
    · rename_i t1 u1 a1 b1 t2 u2 a2 b2
      rw [ih (sub hd (by simp)) a1 a2 e.1, ih (sub hd (by simp)) b1 b2 e.2]
    · rename_i w1 a1 w2 a2
      rw [ih (sub hd (by simp)) a1 a2 e]
    · rename_i l1 a1 l2 a2
      rw [codes_eq (fun a ma b mb => ih (sub2 hd (by simp) ma) (a1 a ma) (a2 b mb)) e]
    · rename_i l1 a1 l2 a2
      rw [codes_eq (fun a ma b mb => ih (sub2 hd (by simp) ma) (a1 a ma) (a2 b mb)) e]
    · rename_i w1 b1 a1 w2 b2 a2
      have e2 : b1 = b2 := by
        have := e.2
        cases b1 <;> cases b2 <;> simp at this ⊢
      rw [ih (sub hd (by simp)) a1 a2 e.1, e2]
end Tre
set_option Elab.async false
set_option linter.all false
set_option maxRecDepth 100000
set_option maxHeartbeats 1000000
namespace Wd
open PySem L2 Tre Mth Dj
def Lt2 (e : Nat) (x : Int) : Prop := x.natAbs < 2 ^ e
theorem Lt2.mono {m n : Nat} {x : Int} (h : Lt2 m x) (hn : m ≤ n) : Lt2 n x := Nat.lt_of_lt_of_le h (Nat.pow_le_pow_right (by decide) hn)
theorem Lt2.big {n : Nat} {x : Int} (h : Lt2 n x) (hn : n ≤ 8000) : Big x := h.mono hn
theorem Lt2.div {e : Nat} {x y : Int} (h : Lt2 e x) : Lt2 e (x / y) := Nat.lt_of_le_of_lt (div_abs x y) h
theorem Lt2.mul {m n : Nat} {x y : Int} (h1 : Lt2 m x) (h2 : Lt2 n y) : Lt2 (m + n) (x * y) := by
  unfold Lt2 at *
  rw [Int.natAbs_mul, Nat.pow_add]
  exact Nat.mul_lt_mul'' h1 h2
theorem Lt2.add {m : Nat} {x y : Int} (h1 : Lt2 m x) (h2 : Lt2 m y) : Lt2 (m + 1) (x + y) := by
  unfold Lt2 at *
  have := Int.natAbs_add_le x y
  rw [Nat.pow_succ]
  omega
theorem plus_lt {m n : Nat} {a b c d : Int} (ha : Lt2 m a) (hb : Lt2 m b) (hc : Lt2 n c) (hd : Lt2 n d) : Lt2 (m + n + 1) (pX a b c d) ∧ Lt2 (m + n + 1) (pY a b c d) := by
  refine ⟨?_, ?_⟩
  · unfold pX
    refine Lt2.div ?_
    unfold pT
    refine Lt2.add (ha.mul hd.div) ?_
    rw [Nat.add_comm]
    exact hc.mul hb.div
  · unfold pY
    exact (hb.div.mul hd.div).mono (by omega)
theorem times_lt {m n : Nat} {a b c d : Int} (ha : Lt2 m a) (hb : Lt2 m b) (hc : Lt2 n c) (hd : Lt2 n d) : Lt2 (m + n) (tX a b c d) ∧ Lt2 (m + n) (tY a b c d) := ⟨ha.div.mul hc.div, hb.div.mul hd.div⟩
theorem plus_pos {a b c d : Int} (hb : 0 < b) (hd : 0 < d) : 0 < pY a b c d := by
  have g0 : (0 : Int) < (Int.gcd b d : Int) := by
    have := Int.gcd_pos_of_ne_zero_right b (show d ≠ 0 by omega)
    omega
  have e0 : (0 : Int) < pE a b c d := by
    have := Int.gcd_pos_of_ne_zero_right (pT a b c d) (show (Int.gcd b d : Int) ≠ 0 by omega)
    unfold pE
    omega
  unfold pY
  have h1 : 0 < b / (Int.gcd b d : Int) := Int.ediv_pos_of_pos_of_dvd hb (by omega) (Int.gcd_dvd_left b d)
  have h2 : 0 < d / pE a b c d := by
    refine Int.ediv_pos_of_pos_of_dvd hd (by omega) ?_
    unfold pE
    exact Int.dvd_trans (Int.gcd_dvd_right (pT a b c d) (Int.gcd b d : Int)) (Int.gcd_dvd_right b d)
  exact Int.mul_pos h1 h2
theorem times_pos {a b c d : Int} (hb : 0 < b) (hd : 0 < d) : 0 < tY a b c d := by
  have g1 : (0 : Int) < (Int.gcd c b : Int) := by
    have := Int.gcd_pos_of_ne_zero_right c (show b ≠ 0 by omega)
    omega
  have g2 : (0 : Int) < (Int.gcd a d : Int) := by
    have := Int.gcd_pos_of_ne_zero_right a (show d ≠ 0 by omega)
    omega
  unfold tY
  exact Int.mul_pos (Int.ediv_pos_of_pos_of_dvd hb (by omega) (Int.gcd_dvd_right c b)) (Int.ediv_pos_of_pos_of_dvd hd (by omega) (Int.gcd_dvd_right a d))
abbrev Fr := Int × Int
def frT (p : Fr) : Tr := .tup [.int p.1, .int p.2]
def frK (p : Fr) : Tk.KT := .tp [.lf (.inl p.1), .lf (.inl p.2)]
structure Gf (e : Nat) (p : Fr) : Prop where
  pos : 0 < p.2
  top : Lt2 e p.1
  bot : Lt2 e p.2
theorem Gf.mono {m n : Nat} {p : Fr} (h : Gf m p) (hn : m ≤ n) : Gf n p := ⟨h.pos, h.top.mono hn, h.bot.mono hn⟩
def zero : Fr := (0, 1)
def Gv (p : Fr) : Prop := Gf 200 p ∧ Share p.1 p.2
theorem gf_zero : Gf 200 zero := ⟨by decide, by show (0 : Nat) < 2 ^ 200; exact Nat.pow_pos (by decide), by show (1 : Nat) < 2 ^ 200; decide +kernel⟩
theorem gv_zero : Gv zero := ⟨gf_zero, by decide, by decide⟩
def plusF (p q : Fr) : Fr := (pX p.1 p.2 q.1 q.2, pY p.1 p.2 q.1 q.2)
def timesF (p q : Fr) : Fr := (tX p.1 p.2 q.1 q.2, tY p.1 p.2 q.1 q.2)
theorem Gf.plus {m n : Nat} {p q : Fr} (h1 : Gf m p) (h2 : Gf n q) : Gf (m + n + 1) (plusF p q) := ⟨plus_pos h1.pos h2.pos, (plus_lt h1.top h1.bot h2.top h2.bot).1, (plus_lt h1.top h1.bot h2.top h2.bot).2⟩
theorem Gf.times {m n : Nat} {p q : Fr} (h1 : Gf m p) (h2 : Gf n q) : Gf (m + n) (timesF p q) := ⟨times_pos h1.pos h2.pos, (times_lt h1.top h1.bot h2.top h2.bot).1, (times_lt h1.top h1.bot h2.top h2.bot).2⟩
structure Wld where
  fl : Str → Bool
  va : Str → Fr
  ca : List Tk.KT → Fr
structure Wld.Ok (W : Wld) : Prop where
  va : ∀ x, Gv (W.va x)
  ca : ∀ k, Gv (W.ca k)
mutual
def valT (W : Wld) : Tr → Fr
  | .tup (_ :: .str x :: r) => match r with
    | [] => W.va x
    | t :: _ => W.ca [.lf (.inr x), .tp (keyT W t)]
  | _ => zero
def keyT (W : Wld) : Tr → List Tk.KT
  | .tup ts => valsT W ts
  | _ => []
def valsT (W : Wld) : List Tr → List Tk.KT
  | [] => []
  | t :: ts => frK (valT W t) :: valsT W ts
end
def Gp (p : Tr) : Prop := ∃ tm f, p = .tup [tm, frT f] ∧ Ty .tm tm ∧ tm.depth ≤ 5 ∧ Gf 603 f
inductive Gw : Tr → Prop
  | fl (x : Str) : Gw (.tup [s_ "flag", .str x])
  | mo (ps : List Tr) (f : Fr) : ps.length ≤ 3 → (∀ p ∈ ps, Gp p) → Gf 900 f → Gw (.tup [s_ "most", .tup ps, frT f])
  | li (t u : Tr) : Ty .tm t → Ty .tm u → t.depth ≤ 7 → u.depth ≤ 7 → Gw (.tup [s_ "like", t, u])
  | no (w : Tr) : Gw w → Gw (.tup [s_ "not", w])
  | bo (l : List Tr) : l.length ≤ 3 → (∀ w ∈ l, Gw w) → Gw (.tup [s_ "both", .tup l])
  | ei (l : List Tr) : l.length ≤ 3 → (∀ w ∈ l, Gw w) → Gw (.tup [s_ "either", .tup l])
theorem Gw.ty {t : Tr} (h : Gw t) : Ty .ws t := by
  induction h with
  | fl x => exact .fl x
  | mo ps f _ hp _ =>
    refine .mo ps _ (fun p m => ?_) (.fr _ _)
    obtain ⟨tm, f, rfl, h1, _⟩ := hp p m
    exact .pr _ _ h1 (.fr _ _)
  | li t u h1 h2 _ _ => exact .li t u h1 h2
  | no w _ ih => exact .no w ih
  | bo l _ _ ih => exact .bo l ih
  | ei l _ _ ih => exact .ei l ih
inductive Gl : Tr → Prop
  | mk (t : Tr) (b : Bool) : Gw t → Gl (.tup [t, .bl b])
theorem Gl.ty {t : Tr} (h : Gl t) : Ty .lt t := by
  cases h with
  | mk t b h => exact .lt t b h.ty
end Wd
set_option Elab.async false
set_option linter.all false
set_option maxRecDepth 100000
set_option maxHeartbeats 1000000
namespace K38
open PySem L2 Mth
def top (i : Nat) : Stmt := PySem.Challenge.pw_smallword_k38_added_up.main.body.getD i (.Pass ⟨0, 0, 0, 0⟩)
abbrev sCd : Stmt := top 2
abbrev sPlus : Stmt := top 3
abbrev sTimes : Stmt := top 4
abbrev sSign : Stmt := top 5
abbrev sSum : Stmt := top 7
abbrev sAdded : Stmt := top 9
abbrev sBears : Stmt := top 10
abbrev sDraw : Stmt := top 12
abbrev sLeast : Stmt := top 13
abbrev sLPlus : Stmt := top 14
abbrev sLTimes : Stmt := top 15
abbrev sTerms : Stmt := top 16
abbrev sShare : Stmt := top 17
abbrev sLAdded : Stmt := top 18
abbrev sBounds : Stmt := top 19
abbrev sWeights : Stmt := top 20
abbrev sDue : Stmt := top 21
abbrev sLaw : Stmt := top 22
section
variable {P : Program} {w : World} {K : PySem.W.Frag} {mg : Str → Option Value} {base : Heap}
structure Blt (mg : Str → Option Value) : Prop where
  ab : mg "abs" = none
  le : mg "len" = none
  ra : mg "range" = none
  isi : mg "isinstance" = none
  tu : mg "tuple" = none
  it : mg "int" = none
  bo : mg "bool" = none
  li : mg "list" = none
  st : mg "str" = none
  al : mg "all" = none
  an : mg "any" = none
  su : mg "sum" = none
  zi : mg "zip" = none
  so : mg "sorted" = none
  ve : mg "ValueError" = none
  re : mg "repr" = none

def spCd : Sp := fun vs H Q _ => ∃ (a b : Int), vs = [.int a, .int b] ∧ Q (.int (Int.gcd a b : Int)) H
theorem scC : FnScope ["one", "other"] ["one", "other"] (defScope sCd) := ⟨rfl, rfl, rfl, by decide +kernel, rfl, by decide +kernel, by decide +kernel⟩
theorem abs_gcd (a : Int) : (if a < 0 then -a else a) = (Int.gcd a 0 : Int) := by
  rw [Int.gcd_zero_right]
  split <;> omega
theorem ok_cd {f : Addr} {fd : FuncData} (F : Fun K "common_divisor" "common_divisor" sCd f fd) (B : Blt mg) : FnOk P w K mg base CX0 1 f fd ["one", "other"] spCd := by
  refine F.ok scC (fun vs H Q E h => ?_) (fun cdv A outer s H vs Q E hr h => ?_)
  · obtain ⟨a, b, rfl, _⟩ := h
    rfl
  · obtain ⟨a, b, rfl, k⟩ := h
    refine ⟨_, pss_cons (ps_while PassesOwn.never (pt_cmpR op_ne (pv 1) pe_int (nomark _)) (pss_one (ps_par (i := 0) (j := 1) rfl scC.nd rfl rfl (by decide) rfl rfl (pa_cons (pv 1) (pa_cons (pe_op op_modN (pv 0) (pv 1)) pa_nil)) rfl)))
      (pss_one (ps_ret (pe_callB call_abs rfl B.ab boot_abs (pa_cons (pv 0) pa_nil)))), ?_⟩
    refine while_by (fun σ H' => H' = H ∧ ∃ x y : Int, σ = [some (.int x), some (.int y)] ∧ Int.gcd x y = Int.gcd a b) (fun σ _ => match σ with | [_, some (.int y)] => y.natAbs | _ => 0) ⟨rfl, a, b, rfl, rfl⟩ ?_ ?_
    · rintro σ H' ⟨rfl, x, y, rfl, e⟩
      refine ⟨_, rfl, rfl, _, rfl, ?_⟩
      by_cases z : y = 0
      · subst z
        rw [decide_eq_true rfl]
        refine iteF ?_
        refine ⟨_, rfl, x, rfl, ?_⟩
        rw [abs_gcd, e]
        exact k
      · have z' : ¬ (V.int y = V.int 0) := fun q => z (V.int.inj q)
        rw [decide_eq_false z']
        refine iteT ?_
        refine ⟨_, rfl, _, rfl, _, rfl, x, y, rfl, rfl, z, _, _, rfl, ?_⟩
        refine ⟨⟨rfl, y, x.fmod y, rfl, ?_⟩, ?_⟩
        · rw [gcd_fmod, e]
        · exact fmod_lt z
    · intro σ H' R R' hR h
      obtain ⟨v, e1, e2, q, e3, h⟩ := h
      exact ⟨v, e1, e2, q, e3, hR _ _ h⟩

theorem big_gcd {t b : Int} (h : Big b) (z : b ≠ 0) : Big (Int.gcd t b : Int) := by
  have : Int.gcd t b ≤ b.natAbs := Int.gcd_le_natAbs_right t (by omega)
  unfold Big at *
  omega
end
end K38
set_option Elab.async false
set_option linter.all false
set_option maxRecDepth 100000
set_option maxHeartbeats 1000000
namespace K38
open PySem L2 Mth Tre
theorem same_upd {H : Hp} {p : Addr} {o : HO} (h : H p = none) : Same H (upd H p o) := fun b u e => by
  rw [upd_ne (ne_of_none e h)]
  exact e
theorem same_wr {H H' : Hp} {D : Addr} {o : HO} (h : H D = none) (s : Same H H') : Same H (upd H' D o) := fun b u e => by
  rw [upd_ne (ne_of_none e h)]
  exact s b u e
theorem Bg.div {x y : Int} (h : Big x) : Big (x / y) := Nat.lt_of_le_of_lt (div_abs x y) h
section
variable {P : Program} {w : World} {K : PySem.W.Frag} {mg : Str → Option Value} {base : Heap}
def spPlus (K : PySem.W.Frag) : Sp := fun vs H Q _ => ∃ (p q : Addr) (a b c d : Int), vs = [.ref p, .ref q] ∧ SqT K H p [.int a, .int b] ∧ SqT K H q [.int c, .int d] ∧
  (0 < b ∧ 0 < d ∧ Big a ∧ Big b ∧ Big c ∧ Big d) ∧ ∀ (r : Addr) (H' : Hp), H r = none → Same H H' → H' r = some (.tup [.int (pX a b c d), .int (pY a b c d)]) → Q (.ref r) H'
theorem spPlus_len {vs : List V} {H : Hp} {Q : VK} {E : XK} (h : spPlus K vs H Q E) : vs.length = 2 := by
  obtain ⟨p, q, a, b, c, d, rfl, _⟩ := h
  rfl
theorem scP : FnScope ["one", "other", "shared", "top", "divisor"] ["one", "other"] (defScope sPlus) := ⟨rfl, rfl, rfl, by decide +kernel, rfl, by decide +kernel, by decide +kernel⟩
theorem ok_plus {f fC : Addr} {fd fdC : FuncData} (F : Fun K "plus" "plus" sPlus f fd) (FC : Fun K "common_divisor" "common_divisor" sCd fC fdC) (bC : Binds K fdC ["one", "other"] []) (mC : mg "common_divisor" = some (.ref fC)) (B : Blt mg) :
    FnOk P w K mg base CX0 2 f fd ["one", "other"] (spPlus K) := by
  have GC : FnOk P w K mg base CX0 1 fC fdC ["one", "other"] spCd := ok_cd FC B
  refine F.ok scP (fun vs H Q E h => spPlus_len h) (fun cdv A outer s H vs Q E hr h => ?_)
  obtain ⟨p, q, a, b, c, d, rfl, hp, hq, ⟨b0, d0, sa, sb, sc, sd⟩, k⟩ := h
  refine ⟨_, pss_cons (ps_set (i := 2) scP.nd rfl (Or.inl rfl) (pe_call GC hr rfl mC FC.kp bC .nil pass0 (pa_cons (pe_ix ix_tup (pv 0) pe_int fun _ _ => rfl) (pa_cons (pe_ix ix_tup (pv 1) pe_int fun _ _ => rfl) pa_nil))))
    (pss_cons (ps_set (i := 3) scP.nd rfl (Or.inl rfl) (pe_op op_add (pe_op op_mulB (pe_ix ix_tup (pv 0) pe_int fun _ _ => rfl) (pe_op op_fdivB (pe_ix ix_tup (pv 1) pe_int fun _ _ => rfl) (pv 2)))
      (pe_op op_mulB (pe_ix ix_tup (pv 1) pe_int fun _ _ => rfl) (pe_op op_fdivB (pe_ix ix_tup (pv 0) pe_int fun _ _ => rfl) (pv 2)))))
    (pss_cons (ps_set (i := 4) scP.nd rfl (Or.inl rfl) (pe_call GC hr rfl mC FC.kp bC .nil pass0 (pa_cons (pv 3) (pa_cons (pv 2) pa_nil))))
    (pss_one (ps_ret (pe_tup (pa_cons (pe_op op_fdivB (pv 3) (pv 4)) (pa_cons (pe_op op_mulB (pe_op op_fdivB (pe_ix ix_tup (pv 0) pe_int fun _ _ => rfl) (pv 2)) (pe_op op_fdivB (pe_ix ix_tup (pv 1) pe_int fun _ _ => rfl) (pv 4))) pa_nil))))))), ?_⟩
  have g0 : (0 : Int) < (Int.gcd b d : Int) := by
    have := Int.gcd_pos_of_ne_zero_right b (show d ≠ 0 by omega)
    omega
  have gS : Big (Int.gcd b d : Int) := big_gcd sd (by omega)
  have e0 : (0 : Int) < pE a b c d := by
    have := Int.gcd_pos_of_ne_zero_right (pT a b c d) (show (Int.gcd b d : Int) ≠ 0 by omega)
    unfold pE
    omega
  have eS : Big (pE a b c d) := big_gcd gS (by omega)
  refine ⟨_, rfl, p, _, 1, .int b, rfl, rfl, hp, rfl, _, rfl, q, _, 1, .int d, rfl, rfl, hq, rfl, b, d, rfl, ?_⟩
  refine ⟨_, rfl, p, _, 0, .int a, rfl, rfl, hp, rfl, _, rfl, q, _, 1, .int d, rfl, rfl, hq, rfl, _, rfl, d, _, rfl, rfl, ⟨g0, gS⟩, a, _, rfl, rfl, ⟨sa, (Bg.div sd)⟩, _, rfl, q, _, 0, .int c, rfl, rfl, hq, rfl, _, rfl, p, _, 1, .int b, rfl, rfl, hp, rfl, _, rfl, b, _, rfl, rfl, ⟨g0, gS⟩, c, _, rfl, rfl, ⟨sc, (Bg.div sb)⟩, _, _, rfl, rfl, ?_⟩
  refine ⟨_, rfl, _, rfl, pT a b c d, (Int.gcd b d : Int), rfl, ?_⟩
  refine ⟨_, rfl, _, rfl, pT a b c d, pE a b c d, rfl, rfl, ⟨e0, eS⟩, _, rfl, p, _, 1, .int b, rfl, rfl, hp, rfl, _, rfl, b, _, rfl, rfl, ⟨g0, gS⟩, _, rfl, q, _, 1, .int d, rfl, rfl, hq, rfl, _, rfl, d, pE a b c d, rfl, rfl, ⟨e0, eS⟩, _, _, rfl, rfl, ⟨(Bg.div sb), (Bg.div sd)⟩, by show 2 ≤ sizeLine; decide, fun r hr' => ?_⟩
  exact k r _ hr' (same_upd hr') upd_same

def spTimes (K : PySem.W.Frag) : Sp := fun vs H Q _ => ∃ (p q : Addr) (a b c d : Int), vs = [.ref p, .ref q] ∧ SqT K H p [.int a, .int b] ∧ SqT K H q [.int c, .int d] ∧
  (0 < b ∧ 0 < d ∧ Big a ∧ Big b ∧ Big c ∧ Big d) ∧ ∀ (r : Addr) (H' : Hp), H r = none → Same H H' → H' r = some (.tup [.int (tX a b c d), .int (tY a b c d)]) → Q (.ref r) H'
theorem scTi : FnScope ["one", "other", "first", "second"] ["one", "other"] (defScope sTimes) := ⟨rfl, rfl, rfl, by decide +kernel, rfl, by decide +kernel, by decide +kernel⟩
theorem ok_times {f fC : Addr} {fd fdC : FuncData} (F : Fun K "times" "times" sTimes f fd) (FC : Fun K "common_divisor" "common_divisor" sCd fC fdC) (bC : Binds K fdC ["one", "other"] []) (mC : mg "common_divisor" = some (.ref fC)) (B : Blt mg) :
    FnOk P w K mg base CX0 2 f fd ["one", "other"] (spTimes K) := by
  have GC : FnOk P w K mg base CX0 1 fC fdC ["one", "other"] spCd := ok_cd FC B
  refine F.ok scTi (fun vs H Q E h => ?_) (fun cdv A outer s H vs Q E hr h => ?_)
  · obtain ⟨p, q, a, b, c, d, rfl, _⟩ := h
    rfl
  obtain ⟨p, q, a, b, c, d, rfl, hp, hq, ⟨b0, d0, sa, sb, sc, sd⟩, k⟩ := h
  refine ⟨_, pss_cons (ps_set (i := 2) scTi.nd rfl (Or.inl rfl) (pe_call GC hr rfl mC FC.kp bC .nil pass0 (pa_cons (pe_ix ix_tup (pv 0) pe_int fun _ _ => rfl) (pa_cons (pe_ix ix_tup (pv 1) pe_int fun _ _ => rfl) pa_nil))))
    (pss_cons (ps_set (i := 3) scTi.nd rfl (Or.inl rfl) (pe_call GC hr rfl mC FC.kp bC .nil pass0 (pa_cons (pe_ix ix_tup (pv 1) pe_int fun _ _ => rfl) (pa_cons (pe_ix ix_tup (pv 0) pe_int fun _ _ => rfl) pa_nil))))
    (pss_one (ps_ret (pe_tup (pa_cons (pe_op op_mulB (pe_op op_fdivB (pe_ix ix_tup (pv 0) pe_int fun _ _ => rfl) (pv 2)) (pe_op op_fdivB (pe_ix ix_tup (pv 1) pe_int fun _ _ => rfl) (pv 3)))
      (pa_cons (pe_op op_mulB (pe_op op_fdivB (pe_ix ix_tup (pv 0) pe_int fun _ _ => rfl) (pv 3)) (pe_op op_fdivB (pe_ix ix_tup (pv 1) pe_int fun _ _ => rfl) (pv 2))) pa_nil)))))), ?_⟩
  have g1 : (0 : Int) < (Int.gcd a d : Int) := by
    have := Int.gcd_pos_of_ne_zero_right a (show d ≠ 0 by omega)
    omega
  have s1 : Big (Int.gcd a d : Int) := big_gcd sd (by omega)
  have g2 : (0 : Int) < (Int.gcd c b : Int) := by
    have := Int.gcd_pos_of_ne_zero_right c (show b ≠ 0 by omega)
    omega
  have s2 : Big (Int.gcd c b : Int) := big_gcd sb (by omega)
  refine ⟨_, rfl, p, _, 0, .int a, rfl, rfl, hp, rfl, _, rfl, q, _, 1, .int d, rfl, rfl, hq, rfl, a, d, rfl, ?_⟩
  refine ⟨_, rfl, q, _, 0, .int c, rfl, rfl, hq, rfl, _, rfl, p, _, 1, .int b, rfl, rfl, hp, rfl, c, b, rfl, ?_⟩
  refine ⟨_, rfl, p, _, 0, .int a, rfl, rfl, hp, rfl, _, rfl, a, _, rfl, rfl, ⟨g1, s1⟩, _, rfl, q, _, 0, .int c, rfl, rfl, hq, rfl, _, rfl, c, _, rfl, rfl, ⟨g2, s2⟩, _, _, rfl, rfl, ⟨Bg.div sa, Bg.div sc⟩,
    _, rfl, p, _, 1, .int b, rfl, rfl, hp, rfl, _, rfl, b, _, rfl, rfl, ⟨g2, s2⟩, _, rfl, q, _, 1, .int d, rfl, rfl, hq, rfl, _, rfl, d, _, rfl, rfl, ⟨g1, s1⟩, _, _, rfl, rfl, ⟨Bg.div sb, Bg.div sd⟩, by show 2 ≤ sizeLine; decide, fun r hr' => ?_⟩
  exact k r _ hr' (same_upd hr') upd_same
end
end K38
set_option Elab.async false
set_option linter.all false
set_option maxRecDepth 100000
set_option maxHeartbeats 1000000
namespace L2
open PySem PySem.Spec PyProof.Rows
def CompWT (J : It) (D : Addr) (tc : TT) (te : TE) (rest : L2.St) (Q : VK) (H1 : Hp) : Prop :=
  ∃ W : Nat → Nat → List V → Hp → Prop, (∃ m, W 0 m [] (upd H1 D (.lst []))) ∧ ∀ i m acc H2, W i m acc H2 →
    (J.stop i H2 ∧ Q (.ref D) H2) ∨
    (J.go i H2 ∧ ∀ x H3, J.yld i H2 x H3 → gName 0 x (none :: rest) H3 fun σ4 H4 => Ext (none :: rest) σ4 ∧ tc σ4 H4 fun b H5 => if b = true then te σ4 H5 fun v H6 => H6 D = some (.lst acc) ∧ acc.length < sizeLine ∧ ∃ m', m' < m ∧ W (i + 1) m' (acc ++ [v]) (upd H6 D (.lst (acc ++ [v])))
      else ∃ m', m' < m ∧ W (i + 1) m' acc H5)
theorem tcompT_of {mp : List (Option Nat)} {wi : TI} {tc : TT} {te : TE} {σ rest : L2.St} {H : Hp} {Q : VK} (e : subS mp σ = none :: rest) (h : wi σ H fun J H1 => ∀ D, H1 D = none → CompWT J D tc te rest Q H1) : tComp mp wi (gName 0) tc te σ H Q := by
  unfold tComp
  rw [e]
  exact h
def CompS (n i : Nat) (acc : List V) (Pv : Nat → List V → Hp → Prop) : Hp → Prop := fun H5 => ∃ m', m' < n - i ∧ (m' = n - (i + 1) ∧ i + 1 ≤ n ∧ Pv (i + 1) acc H5)
theorem CompS.mk {n i : Nat} {acc : List V} {Pv : Nat → List V → Hp → Prop} {H5 : Hp} (hi : i < n) (h : Pv (i + 1) acc H5) : CompS n i acc Pv H5 := ⟨n - (i + 1), by omega, rfl, hi, h⟩
theorem comp_listT {K : PySem.W.Frag} {a D : Addr} {xs : List V} {tc : TT} {te : TE} {rest : L2.St} {Q : VK} {H1 : Hp} (Pv : Nat → List V → Hp → Prop) (h0 : Pv 0 [] (upd H1 D (.lst [])))
    (hl : ∀ i acc H, Pv i acc H → SqL K H a xs)
    (hs : ∀ i x acc H, i < xs.length → xs[i]? = some x → Pv i acc H → tc (some x :: rest) H fun b H5 => if b = true then te (some x :: rest) H5 (CompN xs.length i D acc Pv) else CompS xs.length i acc Pv H5)
    (hd : ∀ acc H, Pv xs.length acc H → Q (.ref D) H) : CompWT (Itl K a) D tc te rest Q H1 := by
  refine ⟨fun i m acc H => m = xs.length - i ∧ i ≤ xs.length ∧ Pv i acc H, ⟨xs.length, by simp, Nat.zero_le _, h0⟩, ?_⟩
  rintro i m acc H ⟨rfl, hi, p⟩
  by_cases hlt : i < xs.length
  · refine .inr ⟨⟨xs, xs[i], hl i acc H p, by simp [hlt]⟩, fun x H' y => ⟨ext1, ?_⟩⟩
    obtain ⟨e, y⟩ := y
    subst e
    exact hs i x acc _ hlt (y xs (hl i acc _ p)) p
  · have e : i = xs.length := by omega
    subst e
    exact .inl ⟨⟨xs, hl _ acc H p, Nat.le_refl _⟩, hd acc H p⟩
end L2
set_option Elab.async false
set_option linter.all false
set_option maxRecDepth 100000
set_option maxHeartbeats 1000000
namespace Zp
open PySem
inductive Src where
  | lst | tup
def Src.It (k : Src) (h : Heap) (it l : Addr) (i : Nat) : Prop := match k with
  | .lst => h.IsListIter it l i
  | .tup => h.IsTupleIter it l i
def Src.Sq (k : Src) (h : Heap) (l : Addr) (xs : Array Value) : Prop := match k with
  | .lst => h.IsList l xs
  | .tup => h.IsTuple l xs
theorem it_at {k : Src} {h h' : Heap} {a l : Addr} {i : Nat} (x : k.It h a l i) (e : ∀ o, h.get? a = some o → h'.get? a = some o) : k.It h' a l i := by
  cases k
  · exact Heap.IsListIter.at x e
  · exact Heap.IsTupleIter.at x e
theorem sq_at {k : Src} {h h' : Heap} {l : Addr} {xs : Array Value} (x : k.Sq h l xs) (e : ∀ o, h.get? l = some o → h'.get? l = some o) : k.Sq h' l xs := by
  cases k
  · exact Heap.IsList.at x e
  · exact Heap.IsTuple.at x e
theorem it_obj {k : Src} {h : Heap} {a l : Addr} {i : Nat} (x : k.It h a l i) : ∃ o, h.get? a = some o ∧ ∀ v, o.data ≠ .cell v := by
  cases k
  all_goals
    obtain ⟨o, e, _, d⟩ := x
    exact ⟨o, e, fun v z => by rw [d] at z; cases z⟩
section
variable {prog : Program} {w : World} {A : Around} {E : Value → Shared → Prop} {s : Shared} {k : Src} {it l : Addr} {i : Nat} {xs : Array Value} {x : Value} {Q : Value → Shared → Prop}
theorem nx_item (st : k.It s.heap it l i) (sq : k.Sq s.heap l xs) (hx : xs[i]? = some x) (q : ∀ h', k.It h' it l (i + 1) → Heap.SameBut it s.heap h' → Q x { s with heap := h' }) :
    wpAny (model prog w) A (Builtin.SmallTypes.nextOf (.ref it)) Q E s := by
  cases k
  · exact wpAny_nextOf_list_item st sq hx q
  · obtain ⟨o, e1, e2, e3⟩ := id st
    obtain ⟨p, f1, _, n, f3⟩ := sq
    have ty := Heap.IsTupleIter.typeIs st
    rw [Builtin.SmallTypes.nextOf]
    refine wpAny_bind (wpAny_callSpecial?_slot (name := Str.ofString "__next__") ty F.slot_tuple_iterator_next (wpAny_call_entry F.slot_tuple_iterator_next ty F.entry_tuple_iterator_next ?_ (F.args_tuple_iterator_next_1 _)))
    show wpAny _ _ (do let y ← field (.ref it) 0; _) _ _ s
    refine wpAny_bind (wpAny_field e1 e3 (x := .ref l) rfl ?_)
    show wpAny _ _ (if (Value.ref l == Value.none) = true then _ else _) _ _ _
    refine (if_neg (show ¬ ((Value.ref l == Value.none) = true) from Bool.false_ne_true)) ▸ ?_
    show wpAny _ _ (do let y ← field (.ref it) 1; _) _ _ s
    refine wpAny_bind (wpAny_field e1 e3 (x := .int i 0) rfl ?_)
    show wpAny _ _ (do let y ← seqItems? (.ref l); _) _ _ s
    refine wpAny_bind (wpAny_seqItems f1 f3 ?_)
    simp only [hx, Int.toNat_natCast]
    refine wpAny_bind (wpAny_setField e1 e3 (by simp) (wpAny_pure ⟨x, rfl, wpAny_pure (q _ ?_ (Heap.SameBut.update ..))⟩))
    refine ⟨_, Heap.get?_update_self _ e1 (Obj.isFreed_of_fields (Obj.data_mapFields e3 _)), (Obj.cls_mapFields ..).trans e2, ?_⟩
    rw [Obj.data_mapFields e3]
    simp [rawInt]
theorem nx_end (hh : A.handled = none) (st : k.It s.heap it l i) (sq : k.Sq s.heap l xs) (hx : xs[i]? = none) (q : ∀ h' e, Heap.ExtBut it s.heap h' → (∃ o, h'.get? e = some o ∧ o.cls = .type "StopIteration") → E (.ref e) { s with heap := h' }) :
    wpAny (model prog w) A (Builtin.SmallTypes.nextOf (.ref it)) Q E s := by
  cases k
  · exact wpAny_nextOf_list_end hh st sq hx q
  · obtain ⟨o, e1, e2, e3⟩ := id st
    obtain ⟨p, f1, _, n, f3⟩ := sq
    have ty := Heap.IsTupleIter.typeIs st
    rw [Builtin.SmallTypes.nextOf]
    refine wpAny_bind (wpAny_callSpecial?_slot (name := Str.ofString "__next__") ty F.slot_tuple_iterator_next (wpAny_call_entry F.slot_tuple_iterator_next ty F.entry_tuple_iterator_next ?_ (F.args_tuple_iterator_next_1 _)))
    show wpAny _ _ (do let y ← field (.ref it) 0; _) _ _ s
    refine wpAny_bind (wpAny_field e1 e3 (x := .ref l) rfl ?_)
    show wpAny _ _ (if (Value.ref l == Value.none) = true then _ else _) _ _ _
    refine (if_neg (show ¬ ((Value.ref l == Value.none) = true) from Bool.false_ne_true)) ▸ ?_
    show wpAny _ _ (do let y ← field (.ref it) 1; _) _ _ s
    refine wpAny_bind (wpAny_field e1 e3 (x := .int i 0) rfl ?_)
    show wpAny _ _ (do let y ← seqItems? (.ref l); _) _ _ s
    refine wpAny_bind (wpAny_seqItems f1 f3 ?_)
    simp only [hx, Int.toNat_natCast]
    refine wpAny_bind (wpAny_rule (wpAny_bind (wpAny_setField e1 e3 (by simp) ?_)))
    show wpAny _ _ (do let y ← newExc (.type "StopIteration") []; _) _ _ _
    refine wpAny_bind ?_
    simp only [newTuple, newExc]
    refine wpAny_bind (wpAny_newObj_type (wpAny_bind (m := firstArgMember _ _) (wpAny_of_eq (a := Value.none) (by first | rfl | (simp only [firstArgMember]; rfl)) (wpAny_newObj_type ?_ (by size_fits)))) (by size_fits))
    simp only [raiseNew]
    refine wpAny_bind (wpAny_handled ?_)
    first | rw [show A.in1.handled = none from hh] | rw [hh]
    exact wpAny_bind (wpAny_pure (wpAny_throw (q _ _ (((Heap.SameBut.update ..).extBut.push _).push _) ⟨_, Heap.get?_push_size _ rfl, rfl⟩)))
end
end Zp
set_option Elab.async false
set_option linter.all false
set_option maxRecDepth 100000
set_option maxHeartbeats 1000000
namespace Zp
open PySem
section
variable {prog : Program} {w : World} {A : Around} {E : Value → Shared → Prop} {s : Shared} {k : Src} {z TI TO i1 i2 l1 l2 : Addr} {j : Nat} {xs ys : Array Value} {x y a b : Value}
theorem zp_item {Q : Value → Shared → Prop} (D : ZipApart z TI TO i1 i2 l1 l2) (hz : IsZip s.heap z TI TO .none) (hI : IsPair s.heap TI (.ref i1) (.ref i2)) (hO : IsPair s.heap TO a b)
    (t1 : k.It s.heap i1 l1 j) (t2 : k.It s.heap i2 l2 j) (q1 : k.Sq s.heap l1 xs) (q2 : k.Sq s.heap l2 ys) (ex : xs[j]? = some x) (ey : ys[j]? = some y)
    (q : ∀ h', IsZip h' z TI TO (rawInt s.heap.objs.size) → IsPair h' TO x y → k.It h' i1 l1 (j + 1) → k.It h' i2 l2 (j + 1) → IsPair h' s.heap.objs.size x y → h'.objs.size = s.heap.objs.size + 1 →
      (∀ c o, c ≠ z → c ≠ TO → c ≠ i1 → c ≠ i2 → s.heap.get? c = some o → h'.get? c = some o) → Q (.ref s.heap.objs.size) { s with heap := h' }) :
    wpAny (model prog w) A (Builtin.«zip.__next__» ⟨[.ref z], []⟩) (fun r s' => ∃ v, r = .done (.ret v) ∧ Q v s') E s := by
  show wpAny _ _ (do let u ← field (.ref z) 2; _) _ _ _
  refine wpAny_bind (wpAny_field hz rfl (x := .bool false) rfl ?_)
  show wpAny _ _ (do let u ← field (.ref z) 3; _) _ _ _
  refine wpAny_bind (wpAny_field hz rfl (x := .ref TI) rfl (wpAny_bind (wpAny_seqItems hI rfl ?_)))
  show wpAny _ _ (do let u ← Builtin.SmallTypes.ownedTupleIsFree (.ref z); _) _ _ _
  refine wpAny_bind ?_
  rw [Builtin.SmallTypes.ownedTupleIsFree]
  refine wpAny_bind (wpAny_field hz rfl (x := .none) rfl (wpAny_pure ?_))
  simp only [if_true]
  refine wpAny_bind (wpAny_rule (wpAny_bind (wpAny_field hz rfl (x := .ref TO) rfl (wpAny_bind (wpAny_setField_rec hz (by simp) fun g1 y1 s1 => ?_)))))
  have y1 : IsZip g1 z TI TO .ellipsis := y1
  refine wpAny_bind ?_
  simp only [List.forIn_cons, List.forIn_nil, List.zipIdx_nil, List.zipIdx_cons]
  refine wpAny_bind (wpAny_bind (wpAny_onRaise ?_))
  show wpAny _ _ (do let u ← Builtin.SmallTypes.nextOf (.ref i1); _) _ _ _
  refine wpAny_bind (nx_item (s := { s with heap := g1 }) (it_at t1 fun o e => s1.extBut _ o D.i1z e) (sq_at q1 fun o e => s1.extBut _ o D.l1z e) ex fun g2 u1 s2 => wpAny_pure ?_)
  have o2 : IsPair g2 TO a b := s2.extBut _ _ D.TOi1 (s1.extBut _ _ D.TOz hO)
  refine wpAny_bind (wpAny_seqItems o2 rfl (wpAny_bind (wpAny_updateSeq_pair (s := { s with heap := g2 }) o2 fun g3 o3 s3 => ?_)))
  have o3 : IsPair g3 TO x b := o3
  refine wpAny_bind (wpAny_letGo (wpAny_pure (wpAny_bind (wpAny_bind (wpAny_onRaise ?_)))))
  show wpAny _ _ (do let u ← Builtin.SmallTypes.nextOf (.ref i2); _) _ _ _
  refine wpAny_bind (nx_item (s := { s with heap := g3 }) (it_at t2 fun o e => s3.extBut _ o D.TOi2.symm (s2.extBut _ o D.i12.symm (s1.extBut _ o D.i2z e))) (sq_at q2 fun o e => s3.extBut _ o D.l2TO (s2.extBut _ o D.l2i1 (s1.extBut _ o D.l2z e))) ey fun g4 u2 s4 => wpAny_pure ?_)
  have o4 : IsPair g4 TO x b := s4.extBut _ _ D.TOi2 o3
  refine wpAny_bind (wpAny_seqItems o4 rfl (wpAny_bind (wpAny_updateSeq_pair (s := { s with heap := g4 }) o4 fun g5 o5 s5 => ?_)))
  have o5 : IsPair g5 TO x y := o5
  refine wpAny_bind (wpAny_letGo (wpAny_pure (wpAny_pure (wpAny_bind (wpAny_seqItems o5 rfl (wpAny_bind (wpAny_newTuple ?_)))))))
  have sz : g5.objs.size = s.heap.objs.size := by rw [s5.1, s4.1, s3.1, s2.1, s1.1]
  have all : ∀ c o, c ≠ z → c ≠ TO → c ≠ i1 → c ≠ i2 → s.heap.get? c = some o → g5.get? c = some o := fun c o c1 c2 c3 c4 e => s5.extBut _ _ c2 (s4.extBut _ _ c4 (s3.extBut _ _ c2 (s2.extBut _ _ c3 (s1.extBut _ _ c1 e))))
  have y5 : IsZip g5 z TI TO .ellipsis := s5.extBut _ _ D.TOz.symm (s4.extBut _ _ D.i2z.symm (s3.extBut _ _ D.TOz.symm (s2.extBut _ _ D.i1z.symm y1)))
  have v1 : k.It g5 i1 l1 (j + 1) := it_at u1 fun o e => s5.extBut _ o D.TOi1.symm (s4.extBut _ o D.i12 (s3.extBut _ o D.TOi1.symm e))
  have v2 : k.It g5 i2 l2 (j + 1) := it_at u2 fun o e => s5.extBut _ o D.TOi2.symm e
  have lz : z < g5.objs.size := Heap.lt_size y5
  show wpAny _ _ (do let u ← Builtin.SmallTypes.ownedTupleHandOut (.ref z) (.ref g5.objs.size); _) _ _ _
  refine wpAny_bind ?_
  rw [Builtin.SmallTypes.ownedTupleHandOut]
  have y6 : IsZip (g5.push { cls := .type "tuple", data := .seq #[x, y] }) z TI TO .ellipsis := Heap.get?_push_of_some _ y5
  refine wpAny_bind (wpAny_setField_rec y6 (by simp) fun g7 y7 s7 => ?_)
  have y7 : IsZip g7 z TI TO (rawInt g5.objs.size) := y7
  refine wpAny_setField_rec y7 (by simp) fun g8 y8 s8 => ?_
  have y8 : IsZip g8 z TI TO (rawInt g5.objs.size) := y8
  have up : ∀ c o, c ≠ z → g5.get? c = some o → g8.get? c = some o := fun c o n e => s8.extBut _ _ n (s7.extBut _ _ n (Heap.get?_push_of_some _ e))
  have p8 : IsPair g8 g5.objs.size x y := s8.extBut _ _ (Nat.ne_of_gt lz) (s7.extBut _ _ (Nat.ne_of_gt lz) (Heap.get?_push_size _ rfl))
  have z8 : g8.objs.size = g5.objs.size + 1 := by rw [s8.1, s7.1, Heap.size_push]
  rw [sz] at y8 p8 z8
  refine wpAny_pure ⟨_, rfl, ?_⟩
  show Q (.ref g5.objs.size) _
  rw [sz]
  exact q g8 y8 (up _ _ D.TOz o5) (it_at v1 fun o e => up _ o D.i1z e) (it_at v2 fun o e => up _ o D.i2z e) p8 z8 fun c o c1 c2 c3 c4 e => up c o c1 (all c o c1 c2 c3 c4 e)
theorem zp_end {Q : Fin → Shared → Prop} (hh : A.handled = none) (D : ZipApart z TI TO i1 i2 l1 l2) (hz : IsZip s.heap z TI TO .none) (hI : IsPair s.heap TI (.ref i1) (.ref i2)) (hO : IsPair s.heap TO a b)
    (t1 : k.It s.heap i1 l1 j) (t2 : k.It s.heap i2 l2 j) (q1 : k.Sq s.heap l1 xs) (q2 : k.Sq s.heap l2 ys) (ends : xs[j]? = none)
    (q : ∀ h' e, (∀ c o, c ≠ z → c ≠ TO → c ≠ i1 → c ≠ i2 → s.heap.get? c = some o → h'.get? c = some o) → (∃ o, h'.get? e = some o ∧ o.cls = .type "StopIteration") → E (.ref e) { s with heap := h' }) :
    wpAny (model prog w) A (Builtin.«zip.__next__» ⟨[.ref z], []⟩) Q E s := by
  show wpAny _ _ (do let u ← field (.ref z) 2; _) _ _ _
  refine wpAny_bind (wpAny_field hz rfl (x := .bool false) rfl ?_)
  show wpAny _ _ (do let u ← field (.ref z) 3; _) _ _ _
  refine wpAny_bind (wpAny_field hz rfl (x := .ref TI) rfl (wpAny_bind (wpAny_seqItems hI rfl ?_)))
  show wpAny _ _ (do let u ← Builtin.SmallTypes.ownedTupleIsFree (.ref z); _) _ _ _
  refine wpAny_bind ?_
  rw [Builtin.SmallTypes.ownedTupleIsFree]
  refine wpAny_bind (wpAny_field hz rfl (x := .none) rfl (wpAny_pure ?_))
  simp only [if_true]
  refine wpAny_bind (wpAny_rule (wpAny_bind (wpAny_field hz rfl (x := .ref TO) rfl (wpAny_bind (wpAny_setField_rec hz (by simp) fun g1 y1 s1 => ?_)))))
  have y1 : IsZip g1 z TI TO .ellipsis := y1
  refine wpAny_bind ?_
  simp only [List.forIn_cons, List.forIn_nil, List.zipIdx_nil, List.zipIdx_cons]
  refine wpAny_bind (wpAny_bind (wpAny_onRaise ?_))
  show wpAny _ _ (do let u ← Builtin.SmallTypes.nextOf (.ref i1); _) _ _ _
  refine wpAny_bind (nx_end (s := { s with heap := g1 }) hh (it_at t1 fun o e => s1.extBut _ o D.i1z e) (sq_at q1 fun o e => s1.extBut _ o D.l1z e) ends fun g2 e s2 he => ?_)
  obtain ⟨oe, e1, e2⟩ := he
  have y2 : IsZip g2 z TI TO .ellipsis := s2 _ _ D.i1z.symm y1
  have ne : e ≠ z := fun n => by subst n; rw [y2] at e1; cases e1; simp at e2
  exact wpAny_setField_rec y2 (by simp) fun g3 _ s3 => q g3 e (fun c o c1 _ c3 _ n => s3.extBut _ _ c1 (s2 _ _ c3 (s1.extBut _ _ c1 n))) ⟨oe, s3.extBut _ _ ne e1, e2⟩
theorem zn_item {Q : Option Value → Shared → Prop} (D : ZipApart z TI TO i1 i2 l1 l2) (hz : IsZip s.heap z TI TO .none) (hI : IsPair s.heap TI (.ref i1) (.ref i2)) (hO : IsPair s.heap TO a b)
    (t1 : k.It s.heap i1 l1 j) (t2 : k.It s.heap i2 l2 j) (q1 : k.Sq s.heap l1 xs) (q2 : k.Sq s.heap l2 ys) (ex : xs[j]? = some x) (ey : ys[j]? = some y)
    (q : ∀ h', IsZip h' z TI TO (rawInt s.heap.objs.size) → IsPair h' TO x y → k.It h' i1 l1 (j + 1) → k.It h' i2 l2 (j + 1) → IsPair h' s.heap.objs.size x y → h'.objs.size = s.heap.objs.size + 1 →
      (∀ c o, c ≠ z → c ≠ TO → c ≠ i1 → c ≠ i2 → s.heap.get? c = some o → h'.get? c = some o) → Q (some (.ref s.heap.objs.size)) { s with heap := h' }) :
    wpAny (model prog w) A (pyNext (.ref z)) Q E s := by
  have ty : s.TypeIs (.ref z) "zip" := ⟨_, hz, rfl⟩
  rw [pyNext]
  exact wpAny_bind (wpAny_attempt (wpAny_callSpecial?_slot (name := Str.ofString "__next__") ty F.slot_zip_next (wpAny_call_entry F.slot_zip_next ty F.entry_zip_next
    (zp_item D hz hI hO t1 t2 q1 q2 ex ey fun h' a1 a2 a3 a4 a5 a6 a7 => wpAny_pure (q h' a1 a2 a3 a4 a5 a6 a7)) (F.args_zip_next_1 _))))
theorem zn_end {Q : Option Value → Shared → Prop} (hh : A.handled = none) (D : ZipApart z TI TO i1 i2 l1 l2) (hz : IsZip s.heap z TI TO .none) (hI : IsPair s.heap TI (.ref i1) (.ref i2)) (hO : IsPair s.heap TO a b)
    (t1 : k.It s.heap i1 l1 j) (t2 : k.It s.heap i2 l2 j) (q1 : k.Sq s.heap l1 xs) (q2 : k.Sq s.heap l2 ys) (ends : xs[j]? = none)
    (q : ∀ h', (∀ c o, c ≠ z → c ≠ TO → c ≠ i1 → c ≠ i2 → s.heap.get? c = some o → h'.get? c = some o) → Q none { s with heap := h' }) : wpAny (model prog w) A (pyNext (.ref z)) Q E s := by
  have ty : s.TypeIs (.ref z) "zip" := ⟨_, hz, rfl⟩
  rw [pyNext]
  refine wpAny_bind (wpAny_attempt (wpAny_callSpecial?_slot (name := Str.ofString "__next__") ty F.slot_zip_next (wpAny_call_entry F.slot_zip_next ty F.entry_zip_next (zp_end hh D hz hI hO t1 t2 q1 q2 ends fun h' e up he => ?_) (F.args_zip_next_1 _))))
  obtain ⟨o, e1, e2⟩ := he
  exact wpAny_bind (wpAny_isInstance (T := "StopIteration") (b := true) ⟨o, e1, e2⟩ isSubtype_stop (wpAny_pure (q _ up)))
end
end Zp
set_option Elab.async false
set_option linter.all false
set_option maxRecDepth 100000
set_option maxHeartbeats 1000000
namespace Zp
open PySem
abbrev zA (h : Heap) (l : Addr) : Heap := h.push { cls := .type "tuple_iterator", data := .fields #[.ref l, .int 0 0] }
abbrev zB (h : Heap) (l m : Addr) : Heap := zA (zA h l) m
abbrev zC (h : Heap) (l m : Addr) : Heap := (zB h l m).push { cls := .type "tuple", data := .seq #[.ref h.objs.size, .ref (zA h l).objs.size] }
abbrev zD (h : Heap) (l m : Addr) : Heap := (zC h l m).push { cls := .type "tuple", data := .seq #[.none, .none] }
abbrev zE (h : Heap) (l m : Addr) : Heap := (zD h l m).push { cls := .type "zip", data := .fields #[.none, .bool false, .bool false, .ref (zB h l m).objs.size, .ref (zC h l m).objs.size] }
theorem new_zip (l m : Addr) (xs ys : Array Value) : Meets (Builtin.«zip.__new__» ⟨[.type "zip", .ref l, .ref m], []⟩) (fun _ R s => s.heap.IsTuple l xs ∧ s.heap.IsTuple m ys ∧
      R (.ok (.ret (.ref (zD s.heap l m).objs.size))) { s with heap := zE s.heap l m }) :=
  .of_wp fun prog w A R s h => by
    obtain ⟨hp, g, d, tk, os⟩ := s
    obtain ⟨p1, p2, h⟩ := h
    have hsub := sub_zip
    have p1 : Heap.IsTuple (Shared.heap ⟨hp, g, d, tk, os⟩) l xs := p1
    have p2 : Heap.IsTuple (Shared.heap ⟨zA hp l, g, d, tk, os⟩) m ys := Heap.IsTuple.at p2 fun o e => Heap.get?_push_of_some _ e
    wp_walk using wpAny_pyIter_tuple p1, wpAny_pyIter_tuple p2
    exact ⟨_, rfl, h⟩
section
variable {prog : Program} {w : World} {A : Around} {E : Value → Shared → Prop} {s : Shared}
theorem call_zip {k : Src} {l m : Addr} {xs ys : Array Value} {Q : Value → Shared → Prop} (p1 : k.Sq s.heap l xs) (p2 : k.Sq s.heap m ys)
    (q : ∀ h', IsZip h' (s.heap.objs.size + 4) (s.heap.objs.size + 2) (s.heap.objs.size + 3) .none → IsPair h' (s.heap.objs.size + 2) (.ref s.heap.objs.size) (.ref (s.heap.objs.size + 1)) →
      IsPair h' (s.heap.objs.size + 3) .none .none → k.It h' s.heap.objs.size l 0 → k.It h' (s.heap.objs.size + 1) m 0 → h'.objs.size = s.heap.objs.size + 5 →
      (∀ c o, s.heap.get? c = some o → h'.get? c = some o) → Q (.ref (s.heap.objs.size + 4)) { s with heap := h' }) :
    wpAny (model prog w) A (call (.type "zip") [.ref l, .ref m]) Q E s := by
  cases k
  · exact call_zip_2 p1 p2 q
  · refine callType_new F.called_zip (by decide) (F.typeCall_zip_2 _ _) (F.newCall_zip_2 _ _) (fun obj => F.args_object_init_3 obj _ _) F.entry_zip_new (new_zip l m xs ys) ⟨p1, p2, ?_⟩
    have a1 : (zA s.heap l).objs.size = s.heap.objs.size + 1 := Heap.size_push ..
    have a2 : (zB s.heap l m).objs.size = s.heap.objs.size + 2 := by rw [Heap.size_push, a1]
    have a3 : (zC s.heap l m).objs.size = s.heap.objs.size + 3 := by rw [Heap.size_push, a2]
    have a4 : (zD s.heap l m).objs.size = s.heap.objs.size + 4 := by rw [Heap.size_push, a3]
    have a5 : (zE s.heap l m).objs.size = s.heap.objs.size + 5 := by rw [Heap.size_push, a4]
    have b5 : (zE s.heap l m).get? (zD s.heap l m).objs.size = some _ := Heap.get?_push_size _ rfl
    have b4 : (zE s.heap l m).get? (zC s.heap l m).objs.size = some _ := Heap.get?_push_of_some _ (Heap.get?_push_size _ rfl)
    have b3 : (zE s.heap l m).get? (zB s.heap l m).objs.size = some _ := Heap.get?_push_of_some _ (Heap.get?_push_of_some _ (Heap.get?_push_size _ rfl))
    have b2 : (zE s.heap l m).get? (zA s.heap l).objs.size = some _ := Heap.get?_push_of_some _ (Heap.get?_push_of_some _ (Heap.get?_push_of_some _ (Heap.get?_push_size _ rfl)))
    have b1 : (zE s.heap l m).get? s.heap.objs.size = some _ := Heap.get?_push_of_some _ (Heap.get?_push_of_some _ (Heap.get?_push_of_some _ (Heap.get?_push_of_some _ (Heap.get?_push_size _ rfl))))
    show _ ∧ _
    rw [a2, a3, a4] at b5
    rw [a1, a2] at b3
    rw [a3] at b4
    rw [a1] at b2
    rw [a4]
    exact ⟨⟨_, b5, rfl⟩, q _ b5 b3 b4 ⟨_, b1, rfl, rfl⟩ ⟨_, b2, rfl, rfl⟩ a5 fun c o e => Heap.get?_push_of_some _ (Heap.get?_push_of_some _ (Heap.get?_push_of_some _ (Heap.get?_push_of_some _ (Heap.get?_push_of_some _ e))))⟩
end
end Zp
namespace L2
open PySem PySem.Spec PyProof.Rows Zp
def Sqk (k : Src) (K : PySem.W.Frag) (H : Hp) (a : Addr) (xs : List V) : Prop := match k with
  | .lst => SqL K H a xs
  | .tup => SqT K H a xs
theorem Inv.sqk {X : Cx} {pins : List (Addr × Obj)} {σ : St} {H : Hp} {s : Shared} {k : Src} {a : Addr} {xs : List V} (I : Inv X pins σ H s) (h : Sqk k X.K H a xs) : ∃ its : List Value, Vals xs its ∧ k.Sq s.heap a its.toArray ∧ xs.length ≤ sizeLine := by
  cases k
  · obtain ⟨its, r, p, z⟩ := I.list h
    exact ⟨its, r, p.isList, z⟩
  · obtain ⟨its, r, p, z⟩ := I.tuple h
    exact ⟨its, r, p, z⟩
theorem Inv.sqk_inj {X : Cx} {pins : List (Addr × Obj)} {σ : St} {H : Hp} {s : Shared} {k : Src} {a : Addr} {xs ys : List V} (I : Inv X pins σ H s) (h : Sqk k X.K H a xs) (h' : Sqk k X.K H a ys) : xs = ys := by
  cases k
  · exact I.list_inj h h'
  · exact I.tuple_inj h h'
def Itz (k : Src) (K : PySem.W.Frag) (a b : Addr) : It :=
  ⟨fun i H => ∃ xs ys x y, Sqk k K H a xs ∧ Sqk k K H b ys ∧ xs[i]? = some x ∧ ys[i]? = some y,
   fun i H v H' => ∃ T x y, v = .ref T ∧ H T = none ∧ H' = upd H T (.tup [x, y]) ∧ (∀ xs, Sqk k K H a xs → xs[i]? = some x) ∧ (∀ ys, Sqk k K H b ys → ys[i]? = some y) ∧ i < sizeLine,
   fun i H => ∃ xs ys, Sqk k K H a xs ∧ Sqk k K H b ys ∧ xs.length ≤ i⟩
section
variable {X : Cx} {pins : List (Addr × Obj)} {σ : St} {H : Hp} {s : Shared}
theorem Inv.turneds {h' : Heap} {t' : Nat} {fp : List Addr} (I : Inv X pins σ H s) (k : ∀ b o, b ∉ fp → s.heap.get? b = some o → h'.get? b = some o) (hf : ∀ b ∈ fp, FpOk X pins H b) : Inv X pins σ H { s with heap := h', toks := t' } := by
  refine I.call' (s' := { s with heap := h', toks := t' }) (ch := fp) rfl ⟨fun b o e _ _ hx => k b o hx e, fun b o e _ _ hx => ⟨o.slots, k b o hx e⟩, fun _ _ _ n _ => n, fun b o e hx => ⟨o, k b o hx e⟩, fun _ _ e => e, fun _ _ _ e => e, fun b ps e => ⟨#[], by rw [e]; simp⟩⟩ ?_ I.bare fun b hb => ?_
  · intro b o e
    have nb : ∀ c u, H c = some u → c ∉ fp := fun c u e z => by rw [(hf c z).1] at e; cases e
    refine (I.hok b o e).stay (fun c v hc q => k c v ?_ q) (fun _ q => q) fun _ _ q => q
    rcases hc with z | z
    · rw [z]; exact nb b o e
    · exact nb c _ z
  · obtain ⟨g0, g1, g2, g3, g4, g5⟩ := hf b hb
    exact ⟨g3, g1, g4, g5⟩
end
theorem turn_zip {P : Program} {w : World} {K : PySem.W.Frag} {es : List Expr} {kk : Nat} {pos : Pos} {k : Src} (a b z TI TO i1 i2 : Addr) (hd : [z, TI, TO, i1, i2].Nodup) :
    Turn P w K (.Tuple es kk pos) (Itz k K a b) [z, TI, TO, i1, i2] z (fun i h => IsZip h z TI TO .none ∧ IsPair h TI (.ref i1) (.ref i2) ∧ (∃ u v, IsPair h TO u v) ∧ k.It h i1 a i ∧ k.It h i2 b i ∧ a ∉ [z, TI, TO, i1, i2] ∧ b ∉ [z, TI, TO, i1, i2]) where
  mem := by simp
  obj := fun i h ⟨h1, h2, ⟨u, v, h3⟩, h4, h5, _⟩ c hc => by
    simp only [List.mem_cons, List.not_mem_nil, or_false] at hc
    rcases hc with rfl | rfl | rfl | rfl | rfl
    · exact ⟨_, h1, fun v e => by cases (show Data.fields _ = Data.cell v from e)⟩
    · exact ⟨_, h2, fun v e => by cases (show Data.seq _ _ = Data.cell v from e)⟩
    · exact ⟨_, h3, fun v e => by cases (show Data.seq _ _ = Data.cell v from e)⟩
    · exact it_obj h4
    · exact it_obj h5
  keep := fun i h h' ⟨h1, h2, ⟨u, v, h3⟩, h4, h5, h6⟩ kp => ⟨kp z (by simp) _ h1, kp TI (by simp) _ h2, ⟨u, v, kp TO (by simp) _ h3⟩, it_at h4 fun o e => kp i1 (by simp) o e, it_at h5 fun o e => kp i2 (by simp) o e, h6⟩
  item := by
    intro X hP hw hK hc i pins s σ H E I hf ⟨h1, h2, ⟨u0, v0, h3⟩, h4, h5, h6, h7⟩ hg
    subst hP hw hK
    obtain ⟨xs, ys, x, y, g1, g2, g3, g4⟩ := hg
    obtain ⟨as, r1, p1, z1⟩ := I.sqk g1
    obtain ⟨bs, r2, p2, z2⟩ := I.sqk g2
    obtain ⟨u, e1, q1⟩ := r1.get g3
    obtain ⟨v, e2, q2⟩ := r2.get g4
    simp only [List.nodup_cons, List.mem_cons, List.not_mem_nil, or_false, not_or, List.nodup_nil, and_true, not_false_eq_true] at hd h6 h7
    obtain ⟨⟨d1, d2, d3, d4⟩, ⟨d5, d6, d7⟩, ⟨d8, d9⟩, d10⟩ := hd
    have D : ZipApart z TI TO i1 i2 a b := ⟨Ne.symm d1, Ne.symm d2, Ne.symm d3, Ne.symm d4, d5, d6, d7, d8, d9, d10, h6.1, h6.2.2.1, h6.2.2.2.1, h6.2.2.2.2, h7.1, h7.2.2.1, h7.2.2.2.1, h7.2.2.2.2⟩
    refine zn_item D h1 h2 h3 h4 h5 p1 p2 (x := u) (y := v) (by simpa using e1) (by simpa using e2) fun h' a1 a2 a3 a4 a5 a6 up => ⟨_, rfl, ?_⟩
    refine wpAny_letOwnedTupleGo_zip (s := { s with heap := h' }) a1 fun h'' b1 sb => ?_
    have T := s.heap.objs.size
    have fr : H s.heap.objs.size = none := I.hok.fresh (Nat.le_refl _)
    have lt : ∀ {c : Addr} {o : Obj}, s.heap.get? c = some o → c ≠ s.heap.objs.size := fun e => Nat.ne_of_lt (Heap.lt_size e)
    have all : ∀ c o, c ∉ [z, TI, TO, i1, i2] → s.heap.get? c = some o → h''.get? c = some o := fun c o n e => by
      simp only [List.mem_cons, List.not_mem_nil, or_false, not_or] at n
      exact sb.extBut c o n.1 (up c o n.1 n.2.2.1 n.2.2.2.1 n.2.2.2.2 e)
    have nz : s.heap.objs.size ≠ z := (lt h1).symm
    have pT : IsPair h'' s.heap.objs.size u v := sb.extBut _ _ nz a5
    have fp : ∀ b ∈ [z, TI, TO, i1, i2], upd H s.heap.objs.size (.tup [x, y]) b = none := fun c hc => by
      have nc : c ≠ s.heap.objs.size := by
        simp only [List.mem_cons, List.not_mem_nil, or_false] at hc
        rcases hc with rfl | rfl | rfl | rfl | rfl
        · exact lt h1
        · exact lt h2
        · exact lt h3
        · obtain ⟨o, e, _⟩ := it_obj h4
          exact lt e
        · obtain ⟨o, e, _⟩ := it_obj h5
          exact lt e
      rw [upd_ne nc]
      exact (hf c hc).1
    refine ⟨.ref s.heap.objs.size, upd H s.heap.objs.size (.tup [x, y]), ?_, rfl, ⟨_, x, y, rfl, fr, rfl, fun zs hz => ?_, fun zs hz => ?_, Nat.lt_of_lt_of_le (List.getElem?_eq_some_iff.mp g3).1 z1⟩, ⟨b1, ?_, ⟨u, v, ?_⟩, ?_, ?_, ?_, ?_⟩, fp⟩
    · -- the state
      refine I.call' (s' := { s with heap := h'' }) (ch := [z, TI, TO, i1, i2]) rfl ⟨fun b o e _ _ hx => all b o hx e, fun b o e _ _ hx => ⟨o.slots, all b o hx e⟩, fun c o e n _ => by rw [upd_ne (lt e)]; exact n, fun b o e hx => ⟨o, all b o hx e⟩, fun c zs e => by rw [upd_ne (ne_of_none e fr)]; exact e, fun c o zs e => by rw [upd_ne (ne_of_none e fr)]; exact e, fun c ps e => ⟨#[], by rw [upd_ne (ne_of_none e fr), e]; simp⟩⟩ ?_ I.bare fun b hb => ?_
      · intro c o e
        by_cases hcT : c = s.heap.objs.size
        · subst hcT
          rw [upd_same] at e
          cases e
          exact ⟨by show 2 ≤ sizeLine; decide, [u, v], .cons q1 (.cons q2 .nil), ⟨_, pT, rfl, _, rfl⟩⟩
        · rw [upd_ne hcT] at e
          have nb : ∀ c u, H c = some u → c ∉ [z, TI, TO, i1, i2] := fun c u e hz => by rw [(hf c hz).1] at e; cases e
          refine (I.hok c o e).stay (fun d v hc q => all d v ?_ q) (fun d q => ?_) fun d m q => ?_
          · rcases hc with hz | hz
            · rw [hz]; exact nb c o e
            · exact nb d _ hz
          · rw [upd_ne (ne_of_none q fr)]; exact q
          · rw [upd_ne (ne_of_none q fr)]; exact q
      · obtain ⟨g0, g1, g2, g3, g4, g5⟩ := hf b hb
        exact ⟨g3, g1, g4, g5⟩
    · rw [I.sqk_inj hz g1]; exact g3
    · rw [I.sqk_inj hz g2]; exact g4
    · exact sb.extBut _ _ D.TIz (up _ _ D.TIz D.TITO D.TIi1 D.TIi2 h2)
    · exact sb.extBut _ _ D.TOz a2
    · exact it_at a3 fun o e => sb.extBut _ o D.i1z e
    · exact it_at a4 fun o e => sb.extBut _ o D.i2z e
    · simpa using h6
    · simpa using h7
  done := by
    intro X hP hw hK hc i pins s σ H E I hf ⟨h1, h2, ⟨u0, v0, h3⟩, h4, h5, h6, h7⟩ hg
    subst hP hw hK
    obtain ⟨xs, ys, g1, g2, g3⟩ := hg
    obtain ⟨as, r1, p1, z1⟩ := I.sqk g1
    obtain ⟨bs, r2, p2, z2⟩ := I.sqk g2
    have hl := r1.length
    simp only [List.nodup_cons, List.mem_cons, List.not_mem_nil, or_false, not_or, List.nodup_nil, and_true, not_false_eq_true] at hd h6 h7
    obtain ⟨⟨d1, d2, d3, d4⟩, ⟨d5, d6, d7⟩, ⟨d8, d9⟩, d10⟩ := hd
    have D : ZipApart z TI TO i1 i2 a b := ⟨Ne.symm d1, Ne.symm d2, Ne.symm d3, Ne.symm d4, d5, d6, d7, d8, d9, d10, h6.1, h6.2.2.1, h6.2.2.2.1, h6.2.2.2.2, h7.1, h7.2.2.1, h7.2.2.2.1, h7.2.2.2.2⟩
    refine zn_end (I.ok.hd hc) D h1 h2 h3 h4 h5 p1 p2 (by simp; omega) fun h' up => ⟨rfl, I.turneds (t' := s.toks) (fun c o n e => ?_) hf⟩
    simp only [List.mem_cons, List.not_mem_nil, or_false, not_or] at n
    exact up c o n.1 n.2.2.1 n.2.2.2.1 n.2.2.2.2 e
  self := fun _ _ _ _ _ st h => wpAny_pyIter_zip st.1 h
section
variable {X : Cx}
end
end L2
set_option Elab.async false
set_option linter.all false
set_option maxRecDepth 100000
set_option maxHeartbeats 1000000
namespace L2
open PySem PySem.Spec PyProof.Rows Zp
section
variable {X : Cx}
end
section
variable {X : Cx}
theorem bools_are : ∀ {bs : List Bool} {us : List Value}, Vals (bs.map V.bl) us → us = bs.map Value.bool
  | [], _, r => by cases r; rfl
  | b :: bs, _, r => by
    rw [List.map_cons] at r
    cases r with
    | cons r1 r2 => rw [bools_are r2, (show _ = Value.bool b from r1)]; rfl
theorem call_allT (hc : X.calm = true) : CallR X (.builtin "all") (fun xs H Q => ∃ (p : Addr) (bs : List Bool), xs = [.ref p] ∧ SqL X.K H p (bs.map V.bl) ∧ Q (.bl (bs.all id)) H) := by
  intro pins s σ H xs us Q I r h
  obtain ⟨p, bs, rfl, hp, q⟩ := h
  obtain ⟨u, rfl, ru⟩ := vals1 r
  cases ru
  obtain ⟨its, rv, pl, _⟩ := I.list hp
  have e := bools_are rv
  subst e
  have hlt : p < s.heap.objs.size := by obtain ⟨_, e, _⟩ := pl.isList; exact Heap.lt_size e
  refine call_all_walk (wpAny_pyIter_list pl.isList ⟨s.heap.objs.size, [s.heap.objs.size, p], [s.heap.objs.size], (bs.map Value.bool).toArray.size, _, _, fun i => (bs[i]?).getD true, rfl, Walks.list (A := X.A.in1) (I.ok.hd hc) _ p (Nat.ne_of_lt hlt) _,
    ⟨⟨_, Heap.get?_push_size _ rfl, rfl, rfl⟩, pl.isList.push _⟩, fun i v s' Q' E' hP hQ => ?_, fun h' tk hk => ?_⟩)
  · have hP' : (bs.map Value.bool)[i]? = some v := by simpa using hP
    rw [List.getElem?_map] at hP'
    obtain ⟨b, e, rfl⟩ := Option.map_eq_some_iff.mp hP'
    dsimp only at hQ
    rw [e] at hQ
    exact wpAny_truthy_bool hQ
  · have e : ((List.range (bs.map Value.bool).toArray.size).all fun i => (bs[i]?).getD true) = bs.all id := by
      rw [List.size_toArray, List.length_map]
      exact PyProof.Rows.LSm.range_all bs
    rw [e]
    refine ⟨.bl _, H, I.kept (t' := tk) fun b x ex => hk b x (fun hm => ?_) (Heap.get?_push_of_some _ ex), rfl, q⟩
    rw [List.mem_singleton.mp hm] at ex
    exact Nat.lt_irrefl _ (Heap.lt_size ex)
end
end L2
set_option Elab.async false
set_option linter.all false
set_option maxRecDepth 100000
set_option maxHeartbeats 1000000
namespace Tre
open PySem L2 Zp
def Sm (H : Hp) : Nat → V → V → Prop
  | 0, _, _ => False
  | n + 1, v, w => (∃ x, v = .str x ∧ w = .str x) ∨ (∃ i, v = .int i ∧ w = .int i) ∨ (∃ b, v = .bl b ∧ w = .bl b) ∨ (v = .non ∧ w = .non) ∨
      ∃ a b xs ys, v = .ref a ∧ w = .ref b ∧ ((H a = some (.lst xs) ∧ H b = some (.lst ys)) ∨ (H a = some (.tup xs) ∧ H b = some (.tup ys))) ∧ ys.length = xs.length ∧ ∀ (j : Nat) x y, xs[j]? = some x → ys[j]? = some y → Sm H n x y
theorem Sm.mono {H H' : Hp} (s : Same H H') : ∀ {n : Nat} {v w : V}, Sm H n v w → Sm H' n v w
  | 0, _, _, h => h.elim
  | n + 1, v, w, h => by
    rcases h with h | h | h | h | ⟨a, b, xs, ys, e1, e2, h1, h2, h4⟩
    · exact .inl h
    · exact .inr (.inl h)
    · exact .inr (.inr (.inl h))
    · exact .inr (.inr (.inr (.inl h)))
    · refine .inr (.inr (.inr (.inr ⟨a, b, xs, ys, e1, e2, ?_, h2, fun j x y q1 q2 => Sm.mono s (h4 j x y q1 q2)⟩)))
      rcases h1 with ⟨q1, q2⟩ | ⟨q1, q2⟩
      · exact .inl ⟨s _ _ q1, s _ _ q2⟩
      · exact .inr ⟨s _ _ q1, s _ _ q2⟩
end Tre
set_option Elab.async false
set_option linter.all false
set_option maxRecDepth 100000
set_option maxHeartbeats 1000000
namespace Tre
open PySem PySem.Spec PyProof.Rows L2
section
variable {X : Cx}
end
end Tre
set_option Elab.async false
set_option linter.all false
set_option maxRecDepth 100000
set_option maxHeartbeats 1000000
namespace Tre
open PySem PySem.Spec PyProof.Rows L2
section
variable {X : Cx}
theorem beq_f (b : Bool) : (b == false) = !b := by cases b <;> rfl
end
end Tre
namespace L2
open PySem PySem.Spec PyProof.Rows
section
variable {X : Cx}
theorem call_anyT (hc : X.calm = true) : CallR X (.builtin "any") (fun xs H Q => ∃ (p : Addr) (bs : List Bool), xs = [.ref p] ∧ SqL X.K H p (bs.map V.bl) ∧ Q (.bl (bs.any id)) H) := by
  intro pins s σ H xs us Q I r h
  obtain ⟨p, bs, rfl, hp, q⟩ := h
  obtain ⟨u, rfl, ru⟩ := vals1 r
  cases ru
  obtain ⟨its, rv, pl, _⟩ := I.list hp
  have e := bools_are rv
  subst e
  have hlt : p < s.heap.objs.size := by obtain ⟨_, e, _⟩ := pl.isList; exact Heap.lt_size e
  refine call_any_walk (wpAny_pyIter_list pl.isList ⟨s.heap.objs.size, [s.heap.objs.size, p], [s.heap.objs.size], (bs.map Value.bool).toArray.size, _, _, fun i => (bs[i]?).getD false, rfl, Walks.list (A := X.A.in1) (I.ok.hd hc) _ p (Nat.ne_of_lt hlt) _,
    ⟨⟨_, Heap.get?_push_size _ rfl, rfl, rfl⟩, pl.isList.push _⟩, fun i v s' Q' E' hP hQ => ?_, fun h' tk hk => ?_⟩)
  · have hP' : (bs.map Value.bool)[i]? = some v := by simpa using hP
    rw [List.getElem?_map] at hP'
    obtain ⟨b, e, rfl⟩ := Option.map_eq_some_iff.mp hP'
    dsimp only at hQ
    rw [e] at hQ
    exact wpAny_truthy_bool hQ
  · have e : ((List.range (bs.map Value.bool).toArray.size).any fun i => (bs[i]?).getD false) = bs.any id := by
      rw [List.size_toArray, List.length_map]
      exact PyProof.Rows.LSm.range_any bs
    rw [e]
    refine ⟨.bl _, H, I.kept (t' := tk) fun b x ex => hk b x (fun hm => ?_) (Heap.get?_push_of_some _ ex), rfl, q⟩
    rw [List.mem_singleton.mp hm] at ex
    exact Nat.lt_irrefl _ (Heap.lt_size ex)
end
theorem comp_prs {K K' : PySem.W.Frag} {a : Addr} {mp : List (Option Nat)} {tl : TE} {te : TE} {Q : VK} {σ rest : L2.St} {H H1 : Hp} {xs : List V} (e : subS mp σ = none :: none :: rest)
    (ha : ∀ Q : VK, Q (.ref a) H1 → tl σ H Q) (h1 : SqT K H1 a xs)
    (h : ∀ D, H1 D = none → ∃ Pv : Nat → List V → Hp → Prop, Pv 0 [] (upd H1 D (.lst [])) ∧ (∀ i acc H, Pv i acc H → SqT K H a xs) ∧
      (∀ i z acc H, i < xs.length → Pv i acc H → xs[i]? = some z → ∃ T x y, z = .ref T ∧ SqT K' H T [x, y] ∧ te (some x :: some y :: rest) H (CompN xs.length i D acc Pv)) ∧ ∀ acc H, Pv xs.length acc H → Q (.ref D) H) :
    tComp mp (iTup K tl) (gTup K' 2 (gCons (gName 0) (gCons (gName 1) gNil))) tNoTest te σ H Q := by
  unfold tComp
  rw [e]
  refine ha _ ⟨a, rfl, ⟨xs, h1⟩, fun D nD => ?_⟩
  obtain ⟨Pv, p0, pq, ps, pd⟩ := h D nD
  refine ⟨fun i m acc H => m = xs.length - i ∧ i ≤ xs.length ∧ Pv i acc H, ⟨xs.length, by simp, Nat.zero_le _, p0⟩, ?_⟩
  rintro i m acc H ⟨rfl, hi, p⟩
  have q1 := pq i acc H p
  by_cases hlt : i < xs.length
  · refine .inr ⟨⟨xs, xs[i], q1, by simp [hlt]⟩, ?_⟩
    rintro v H' ⟨rfl, y⟩
    have ev := y xs q1
    obtain ⟨T, x, z, rfl, hT, hte⟩ := ps i v acc _ hlt p ev
    exact ⟨T, [x, z], rfl, hT, rfl, x, [z], rfl, z, [], rfl, rfl, ext2, hte⟩
  · have ei : i = xs.length := by omega
    subst ei
    exact .inl ⟨⟨xs, q1, Nat.le_refl _⟩, pd acc H p⟩
end L2
set_option Elab.async false
set_option linter.all false
set_option maxRecDepth 100000
set_option maxHeartbeats 1000000
namespace Wd
open PySem L2 Tre Mth Dj
def FlG (kF : List (Key × V)) : Prop := ∀ x v, valV kF (.inr x) = some v → ∃ b, v = V.bl b
def VaG (H : Hp) (kV : List (Key × V)) : Prop := ∀ x v, valV kV (.inr x) = some v → ∃ p, TrAt H v (frT p) ∧ Gv p
def CaG (H : Hp) (kC : List Ent) : Prop := ∀ k v, valJ kC k = some v → ∃ p, TrAt H v (frT p) ∧ Gv p
structure WS (P : Program) (w : World) (K : PySem.W.Frag) (H : Hp) (F D C : Addr) (n : Nat) : Prop where
  ne : F ≠ D
  fl : ∃ kF, H F = some (.dK kF) ∧ FlG kF ∧ kF.length ≤ n
  va : ∃ kV, H D = some (.dK kV) ∧ VaG H kV ∧ kV.length ≤ n
  ca : ∃ kC, DJ P w K H C kC ∧ CaG H kC ∧ kC.length ≤ n
theorem VaG.mono {H H' : Hp} {kV : List (Key × V)} (k : Kd H H') (h : VaG H kV) : VaG H' kV := fun x v e => by
  obtain ⟨p, h1, h2⟩ := h x v e
  exact ⟨p, h1.mono k, h2⟩
theorem CaG.mono {H H' : Hp} {kC : List Ent} (k : Kd H H') (h : CaG H kC) : CaG H' kC := fun x v e => by
  obtain ⟨p, h1, h2⟩ := h x v e
  exact ⟨p, h1.mono k, h2⟩
section
variable {P : Program} {w : World} {K : PySem.W.Frag} {H H' : Hp} {F D C : Addr} {n : Nat}
theorem WS.kd (h : WS P w K H F D C n) (k : Kd H H') (hs : ∀ a o, a = F ∨ a = D ∨ a = C → H a = some o → H' a = some o) : WS P w K H' F D C n := by
  obtain ⟨kF, f1, f2, f3⟩ := h.fl
  obtain ⟨kV, v1, v2, v3⟩ := h.va
  obtain ⟨kC, c1, c2, c3⟩ := h.ca
  exact ⟨h.ne, ⟨kF, hs _ _ (.inl rfl) f1, f2, f3⟩, ⟨kV, hs _ _ (.inr (.inl rfl)) v1, v2.mono k, v3⟩, ⟨kC, c1.kd k (hs _ _ (.inr (.inr rfl)) c1.at_), c2.mono k, c3⟩⟩
theorem WS.same (h : WS P w K H F D C n) (s : Same H H') : WS P w K H' F D C n := h.kd (Kd.of_same s) fun a o _ e => s a o e
theorem WS.mono {m : Nat} (h : WS P w K H F D C n) (hn : n ≤ m) : WS P w K H F D C m := by
  obtain ⟨kF, f1, f2, f3⟩ := h.fl
  obtain ⟨kV, v1, v2, v3⟩ := h.va
  obtain ⟨kC, c1, c2, c3⟩ := h.ca
  exact ⟨h.ne, ⟨kF, f1, f2, by omega⟩, ⟨kV, v1, v2, by omega⟩, ⟨kC, c1, c2, by omega⟩⟩
end
def WAt (P : Program) (w : World) (K : PySem.W.Frag) (H : Hp) (v : V) (W : Wld) : Prop := ∃ r F D C kF kV kC, v = .ref r ∧ H r = some (.tup [.ref F, .ref D, .ref C]) ∧
  (H F = some (.dK kF) ∧ ∀ x, (valV kF (.inr x)).getD (.bl false) = .bl (W.fl x)) ∧
  (H D = some (.dK kV) ∧ ∀ x, (∃ u, valV kV (.inr x) = some u ∧ TrAt H u (frT (W.va x))) ∨ (valV kV (.inr x) = none ∧ W.va x = zero)) ∧
  (DJ P w K H C kC ∧ ∀ k, (∃ u, valJ kC k = some u ∧ TrAt H u (frT (W.ca k))) ∨ (valJ kC k = none ∧ W.ca k = zero))
section
variable {P : Program} {w : World} {K : PySem.W.Frag} {H H' : Hp} {F D C r : Addr} {n : Nat} {v : V} {W : Wld}
theorem WS.at_ (h : WS P w K H F D C n) (e : H r = some (.tup [.ref F, .ref D, .ref C])) : ∃ W : Wld, W.Ok ∧ WAt P w K H (.ref r) W := by
  obtain ⟨kF, f1, f2, f3⟩ := h.fl
  obtain ⟨kV, v1, v2, v3⟩ := h.va
  obtain ⟨kC, c1, c2, c3⟩ := h.ca
  have hF : ∀ x : Str, ∃ b, (valV kF (.inr x)).getD (.bl false) = .bl b := fun x => by
    cases q : valV kF (.inr x) with
    | none => exact ⟨false, rfl⟩
    | some v =>
      obtain ⟨b, rfl⟩ := f2 x v q
      exact ⟨b, rfl⟩
  have hV : ∀ x : Str, ∃ p, Gv p ∧ ((∃ u, valV kV (.inr x) = some u ∧ TrAt H u (frT p)) ∨ (valV kV (.inr x) = none ∧ p = zero)) := fun x => by
    cases q : valV kV (.inr x) with
    | none => exact ⟨zero, gv_zero, .inr ⟨rfl, rfl⟩⟩
    | some v =>
      obtain ⟨p, h1, h2⟩ := v2 x v q
      exact ⟨p, h2, .inl ⟨v, rfl, h1⟩⟩
  have hC : ∀ k : List Tk.KT, ∃ p, Gv p ∧ ((∃ u, valJ kC k = some u ∧ TrAt H u (frT p)) ∨ (valJ kC k = none ∧ p = zero)) := fun k => by
    cases q : valJ kC k with
    | none => exact ⟨zero, gv_zero, .inr ⟨rfl, rfl⟩⟩
    | some v =>
      obtain ⟨p, h1, h2⟩ := c2 k v q
      exact ⟨p, h2, .inl ⟨v, rfl, h1⟩⟩
  exact ⟨⟨fun x => Classical.choose (hF x), fun x => Classical.choose (hV x), fun k => Classical.choose (hC k)⟩, ⟨fun x => (Classical.choose_spec (hV x)).1, fun k => (Classical.choose_spec (hC k)).1⟩,
    r, F, D, C, kF, kV, kC, rfl, e, ⟨f1, fun x => Classical.choose_spec (hF x)⟩, ⟨v1, fun x => (Classical.choose_spec (hV x)).2⟩, ⟨c1, fun k => (Classical.choose_spec (hC k)).2⟩⟩
theorem WAt.kd (h : WAt P w K H v W) (k : Kd H H') (hs : ∀ a o, (∀ xs, o ≠ .lst xs) → H a = some o → H' a = some o) : WAt P w K H' v W := by
  obtain ⟨r, F, D, C, kF, kV, kC, e, h1, ⟨h2, h3⟩, ⟨h4, h5⟩, h6, h7⟩ := h
  refine ⟨r, F, D, C, kF, kV, kC, e, k.tup _ _ h1, ⟨hs _ _ (fun _ z => by cases z) h2, h3⟩, ⟨hs _ _ (fun _ z => by cases z) h4, fun x => ?_⟩, h6.kd k (hs _ _ (fun _ z => by cases z) h6.at_), fun j => ?_⟩
  · rcases h5 x with ⟨u, e1, e2⟩ | q
    · exact .inl ⟨u, e1, e2.mono k⟩
    · exact .inr q
  · rcases h7 j with ⟨u, e1, e2⟩ | q
    · exact .inl ⟨u, e1, e2.mono k⟩
    · exact .inr q
theorem WAt.same (h : WAt P w K H v W) (s : Same H H') : WAt P w K H' v W := h.kd (Kd.of_same s) fun a o _ e => s a o e
end
def FrAt (K : PySem.W.Frag) (H : Hp) (v : V) (p : Fr) : Prop := ∃ r, v = .ref r ∧ SqX K H r [.int p.1, .int p.2]
def FrsAt (K : PySem.W.Frag) (H : Hp) : List V → List Fr → Prop
  | vs, [] => vs = []
  | vs, p :: ps => ∃ v r, vs = v :: r ∧ FrAt K H v p ∧ FrsAt K H r ps
theorem FrAt.mono {K : PySem.W.Frag} {H H' : Hp} {v : V} {p : Fr} (d : Kd H H') (h : FrAt K H v p) : FrAt K H' v p := by
  obtain ⟨r, e, s⟩ := h
  exact ⟨r, e, s.mono d⟩
theorem FrsAt.mono {K : PySem.W.Frag} {H H' : Hp} (d : Kd H H') : ∀ {vs : List V} {ps : List Fr}, FrsAt K H vs ps → FrsAt K H' vs ps
  | vs, [], h => h
  | vs, p :: ps, h => by
    obtain ⟨v, r, e, h1, h2⟩ := h
    exact ⟨v, r, e, h1.mono d, FrsAt.mono d h2⟩
theorem FrsAt.snoc {K : PySem.W.Frag} {H : Hp} {u : V} {q : Fr} (hu : FrAt K H u q) : ∀ {vs : List V} {ps : List Fr}, FrsAt K H vs ps → FrsAt K H (vs ++ [u]) (ps ++ [q])
  | vs, [], h => by
    cases (show vs = [] from h)
    exact ⟨u, [], rfl, hu, rfl⟩
  | vs, p :: ps, h => by
    obtain ⟨v, r, rfl, h1, h2⟩ := h
    exact ⟨v, r ++ [u], rfl, h1, FrsAt.snoc hu h2⟩
end Wd
set_option Elab.async false
set_option linter.all false
set_option maxRecDepth 100000
set_option maxHeartbeats 1000000
namespace L2
open PySem Tre Wd
theorem seq_any {t rest : TS} {Z : Ends} {σ : L2.St} {H : Hp} (R : L2.St → Hp → Prop) (hR : ∀ σ' H', R σ' H' → rest Z σ' H') (h : ∀ nx : L2.St → Hp → Prop, (∀ σ' H', R σ' H' → nx σ' H') → t { Z with nx := nx } σ H) : tSeq t rest Z σ H := h _ hR
theorem gname_of {i : Nat} {v : V} {σ : L2.St} {H : Hp} {k : L2.St → Hp → Prop} (h : k (σ.set i (some v)) H) : gName i v σ H k := h
theorem tnx_of {Z : Ends} {σ : L2.St} {H : Hp} (h : Z.nx σ H) : tNext Z σ H := h
theorem tset_cb {r : List V → Hp → VK → Prop} {te : TE} {i : Nat} {u : TS} {Z : Ends} {σ : L2.St} {H : Hp} (h : te σ H fun v H1 => r [v] H1 fun x H2 => gName i x σ H2 (u Z)) : tSeq (tAsg (tCB r (tCons te tNil)) (gName i)) u Z σ H := h
theorem tret_cb {r : List V → Hp → VK → Prop} {te : TE} {Z : Ends} {σ : L2.St} {H : Hp} (h : te σ H fun v H1 => r [v] H1 Z.rt) : tRet (tCB r (tCons te tNil)) Z σ H := h
theorem tcons1 {te : TE} {σ : L2.St} {H : Hp} {Q : List V → Hp → Prop} (h : te σ H fun v H1 => Q [v] H1) : tCons te tNil σ H Q := h
theorem at_t {H : Hp} {v : V} {ts : List Tr} (h : TrAt H v (.tup ts)) : ∃ a vs, v = .ref a ∧ H a = some (.tup vs) ∧ TrsAt H vs ts := by
  unfold TrAt at h
  exact h
theorem at_str {H : Hp} {x : Str} : TrAt H (.str x) (.str x) := by unfold TrAt; rfl
theorem at_tup {H : Hp} {r : Addr} {vs : List V} {ts : List Tr} (h : H r = some (.tup vs)) (h1 : TrsAt H vs ts) : TrAt H (.ref r) (.tup ts) := by
  unfold TrAt
  exact ⟨r, vs, rfl, h, h1⟩
theorem pair_at {H : Hp} {v : V} {a b : Tr} (h : TrAt H v (.tup [a, b])) : ∃ r x y, v = .ref r ∧ H r = some (.tup [x, y]) ∧ TrAt H x a ∧ TrAt H y b := by
  unfold TrAt at h
  obtain ⟨r, vs, e, h1, h2⟩ := h
  obtain ⟨x, r1, rfl, h3, h4⟩ := h2.inv
  obtain ⟨y, r2, rfl, h5, h6⟩ := h4.inv
  unfold TrsAt at h6
  subst h6
  exact ⟨r, x, y, e, h1, h3, h5⟩
theorem ints_at {H : Hp} {v : V} {a b : Int} (h : TrAt H v (.tup [.int a, .int b])) : ∃ r, v = .ref r ∧ H r = some (.tup [.int a, .int b]) := by
  obtain ⟨r, x, y, e, h1, h2, h3⟩ := pair_at h
  unfold TrAt at h2 h3
  subst h2 h3
  exact ⟨r, e, h1⟩
theorem at_pair {H : Hp} {r : Addr} {x y : V} {a b : Tr} (h : H r = some (.tup [x, y])) (h1 : TrAt H x a) (h2 : TrAt H y b) : TrAt H (.ref r) (.tup [a, b]) := by
  unfold TrAt
  exact ⟨r, _, rfl, h, .cons h1 (.cons h2 .nil)⟩
theorem at_ints {H : Hp} {r : Addr} {a b : Int} (h : H r = some (.tup [.int a, .int b])) : TrAt H (.ref r) (.tup [.int a, .int b]) := at_pair h (by unfold TrAt; rfl) (by unfold TrAt; rfl)
theorem at_fr {H : Hp} {v : V} {p : Fr} (h : TrAt H v (frT p)) : ∃ r, v = .ref r ∧ H r = some (.tup [.int p.1, .int p.2]) := ints_at h
theorem depths_le {n : Nat} : ∀ {ts : List Tr}, (∀ t ∈ ts, t.depth ≤ n) → Trs.depth ts ≤ n
  | [], _ => by unfold Trs.depth; omega
  | t :: ts, h => by
    unfold Trs.depth
    have h1 := h t List.mem_cons_self
    have h2 := depths_le fun u m => h u (List.mem_cons_of_mem t m)
    omega
theorem map_any {α : Type} (f : α → Bool) (l : List α) : (l.map f).any id = l.any f := by
  rw [List.any_map]
  rfl
end L2
set_option Elab.async false
set_option linter.all false
set_option maxRecDepth 100000
set_option maxHeartbeats 1000000
namespace K38
open PySem L2 Mth Tre
theorem SqL.same {K : PySem.W.Frag} {H H' : Hp} {a : Addr} {xs : List V} (s : Same H H') (h : SqL K H a xs) : SqL K H' a xs := h.imp (fun x => x.imp (fun e => s _ _ e) fun ⟨o, e⟩ => ⟨o, s _ _ e⟩) id
theorem at_ixs {ns : List Int} {i : Int} (h0 : 0 ≤ i) (h1 : i < ns.length) : ∃ (z : Int), atI (ns.map V.int) i = some (.int z) ∧ z = ns.getD i.toNat 0 := by
  obtain ⟨j, rfl⟩ : ∃ j : Nat, i = (j : Int) := ⟨i.toNat, by omega⟩
  have hj : j < ns.length := by omega
  exact ⟨ns[j], atI_nat (by rw [List.getElem?_map, List.getElem?_eq_getElem hj]; rfl), by rw [Int.toNat_natCast, List.getD_eq_getElem?_getD, List.getElem?_eq_getElem hj]; rfl⟩
def seedF (z kk m : Int) : Int := (z % 1000003 + 31 * kk * kk + 1) * 48271 % 999983 * 7919 % 524287 % m
def drawF (ns : List Int) (kk m : Int) : Int :=
  if ns.length = 0 then seedF 0 kk m else if ns.getD 0 0 % 2 = 1 then ns.getD (kk % (ns.length : Int)).toNat 0 / 2 ^ (20 * (kk / (ns.length : Int)) + 1).toNat % 1048576 % m else seedF (ns.getD (kk % (ns.length : Int)).toNat 0) kk m
theorem big_of {m : Int} (h0 : 0 ≤ m) (h : m ≤ 1000000000000) : Big m := by
  unfold Big
  have : (1000000000000 : Nat) < 2 ^ 8000 := by decide +kernel
  exact Nat.lt_of_le_of_lt (by omega) this
section
variable {P : Program} {w : World} {K : PySem.W.Frag} {mg : Str → Option Value} {base : Heap}
def spDraw (K : PySem.W.Frag) : Sp := fun vs H Q _ => ∃ (a : Addr) (ns : List Int) (kk m : Int), vs = [.ref a, .int kk, .int m] ∧ SqL K H a (ns.map V.int) ∧ ns.length ≤ 63 ∧ 0 ≤ kk ∧ kk ≤ 100000 ∧ 0 < m ∧ ∀ r : Int, 0 ≤ r → r < m → r = drawF ns kk m → Q (.int r) H
theorem scD : FnScope ["_law_script", "_law_k", "_law_many", "_law_cell", "_law_seed"] ["_law_script", "_law_k", "_law_many"] (defScope sDraw) := ⟨rfl, rfl, rfl, by decide +kernel, rfl, by decide +kernel, by decide +kernel⟩
theorem ok_draw {f : Addr} {fd : FuncData} (F : Fun K "_law_draw" "_law_draw" sDraw f fd) (B : Blt mg) : FnOk P w K mg base CX0 1 f fd ["_law_script", "_law_k", "_law_many"] (spDraw K) := by
  refine F.ok scD (fun vs H Q E h => ?_) (fun cdv A outer s H vs Q E hr h => ?_)
  · obtain ⟨a, ns, kk, m, rfl, _⟩ := h
    rfl
  obtain ⟨a, ns, kk, m, rfl, hS, h63, k0, k5, m0, k⟩ := h
  refine ⟨_, pss_cons (ps_set (i := 3) scD.nd rfl (Or.inl rfl) (pe_ifExp (pt_cmpR op_gt (pe_callB call_len_seq rfl B.le PySem.boot_len (pa_cons (pv 0) pa_nil)) pe_int (nomark _))
      (pe_ix ix_list (pv 0) (pe_op op_mod (pv 1) (pe_callB call_len_seq rfl B.le PySem.boot_len (pa_cons (pv 0) pa_nil))) fun _ _ => rfl) pe_int))
    (pss_cons (ps_if (PW.pt (pw_and (pt_cmpR op_gt (pe_callB call_len_seq rfl B.le PySem.boot_len (pa_cons (pv 0) pa_nil)) pe_int (nomark _)) (pw_and1 (pt_cmpR op_eq (pe_op op_mod (pe_ix ix_list (pv 0) pe_int fun _ _ => rfl) pe_int) pe_int (nomark _)))))
      (pss_one (ps_ret (pe_op op_mod (pe_op op_mod (pe_op op_shr (pv 3) (pe_op op_add (pe_op op_mul pe_int (pe_op op_fdiv (pv 1) (pe_callB call_len_seq rfl B.le PySem.boot_len (pa_cons (pv 0) pa_nil)))) pe_int)) pe_int) (pv 2)))) pss_nil)
    (pss_cons (ps_set (i := 4) scD.nd rfl (Or.inl rfl) (pe_op op_add (pe_op op_add (pe_op op_mod (pv 3) pe_int) (pe_op op_mulB (pe_op op_mul pe_int (pv 1)) (pv 1))) pe_int))
    (pss_one (ps_ret (pe_op op_mod (pe_op op_mod (pe_op op_mul (pe_op op_mod (pe_op op_mul (pv 4) pe_int) pe_int) pe_int) pe_int) (pv 2)))))), ?_⟩
  by_cases z0 : ns.length = 0
  · have e0 : ns = [] := List.length_eq_zero_iff.mp z0
    subst e0
    refine ⟨_, rfl, a, _, rfl, .inl hS, _, 0, rfl, rfl, _, rfl, ?_⟩
    refine iteF ?_
    refine ⟨_, rfl, a, _, rfl, .inl hS, _, 0, rfl, rfl, _, rfl, ?_⟩
    refine iteF ?_
    refine iteF ?_
    refine ⟨_, rfl, 0, 1000003, rfl, rfl, (by show (0 : Int) < 1000003; decide), _, rfl, 31, kk, rfl, rfl, .inl ⟨by decide, by decide⟩, _, rfl, _, kk, rfl, rfl, ⟨big_of (by omega) (by omega), big_of k0 (by omega)⟩, _, _, rfl, rfl, _, _, rfl, rfl, ?_⟩
    refine ⟨_, rfl, _, 48271, rfl, rfl, .inr ⟨by decide, by decide⟩, _, 999983, rfl, rfl, (by show (0 : Int) < 999983; decide), _, 7919, rfl, rfl, .inr ⟨by decide, by decide⟩, _, 524287, rfl, rfl, (by show (0 : Int) < 524287; decide), _, rfl, _, m, rfl, rfl, m0, ?_⟩
    exact k _ (Int.emod_nonneg _ (by omega)) (Int.emod_lt_of_pos _ m0) rfl
  · have lp : (0 : Int) < (ns.length : Int) := by omega
    obtain ⟨z, hz, ez⟩ := at_ixs (ns := ns) (i := kk % (ns.length : Int)) (Int.emod_nonneg _ (by omega)) (Int.emod_lt_of_pos _ lp)
    obtain ⟨y, hy, ey⟩ := at_ixs (ns := ns) (i := 0) (by omega) lp
    have g0 : decide ((0 : Int) < (ns.length : Int)) = true := decide_eq_true lp
    refine ⟨_, rfl, a, _, rfl, .inl hS, _, 0, rfl, rfl, _, rfl, ?_⟩
    rw [List.length_map, g0]
    refine iteT ?_
    refine ⟨_, rfl, _, rfl, _, rfl, a, _, rfl, .inl hS, kk, _, rfl, rfl, (by rw [List.length_map]; omega), a, _, kk % (ns.length : Int), .int z, rfl, (by rw [List.length_map]), hS, hz, ?_⟩
    refine ⟨_, rfl, a, _, rfl, .inl hS, _, 0, rfl, rfl, _, rfl, ?_⟩
    rw [List.length_map, g0]
    refine iteT ?_
    refine ⟨_, rfl, a, _, 0, .int y, rfl, rfl, hS, hy, _, 2, rfl, rfl, (by show (0 : Int) < 2; decide), rfl, _, rfl, ?_⟩
    refine ite2 (fun hd => ?_) (fun hd => ?_)
    · have hb : ns.getD 0 0 % 2 = 1 := by
        have := of_decide_eq_true hd
        rw [← show y = ns.getD 0 0 from ey]
        exact V.int.inj this
      refine ⟨_, rfl, _, rfl, _, rfl, a, _, rfl, .inl hS, kk, _, rfl, rfl, ⟨by rw [List.length_map]; omega, by rw [List.length_map]; omega⟩, 20, _, rfl, rfl, .inl ⟨by decide, by decide⟩, _, 1, rfl, rfl, z, _, rfl, rfl, ?_, _, 1048576, rfl, rfl, (by show (0 : Int) < 1048576; decide), _, rfl, _, m, rfl, rfl, m0, ?_⟩
      · have := Int.ediv_nonneg k0 (b := ((ns.map V.int).length : Int)) (by omega)
        omega
      · exact k _ (Int.emod_nonneg _ (by omega)) (Int.emod_lt_of_pos _ m0) (by subst ez; unfold drawF; rw [if_neg z0, if_pos hb, List.length_map])
    · have hb : ¬ ns.getD 0 0 % 2 = 1 := by
        rw [← show y = ns.getD 0 0 from ey]
        exact fun q => hd (decide_eq_true (congrArg V.int q))
      refine ⟨_, rfl, z, 1000003, rfl, rfl, (by show (0 : Int) < 1000003; decide), _, rfl, 31, kk, rfl, rfl, .inl ⟨by decide, by decide⟩, _, rfl, _, kk, rfl, rfl, ⟨big_of (by omega) (by omega), big_of k0 (by omega)⟩, _, _, rfl, rfl, _, _, rfl, rfl, ?_⟩
      refine ⟨_, rfl, _, 48271, rfl, rfl, .inr ⟨by decide, by decide⟩, _, 999983, rfl, rfl, (by show (0 : Int) < 999983; decide), _, 7919, rfl, rfl, .inr ⟨by decide, by decide⟩, _, 524287, rfl, rfl, (by show (0 : Int) < 524287; decide), _, rfl, _, m, rfl, rfl, m0, ?_⟩
      exact k _ (Int.emod_nonneg _ (by omega)) (Int.emod_lt_of_pos _ m0) (by subst ez; unfold drawF; rw [if_neg z0, if_neg hb]; rfl)
end
end K38
set_option Elab.async false
set_option linter.all false
set_option maxRecDepth 100000
set_option maxHeartbeats 1000000
namespace Su
open PySem L2 Tre Mth Wd
def rv (p : Fr) : Rat := (p.1 : Rat) / (p.2 : Rat)
abbrev Sh (p : Fr) : Prop := Share p.1 p.2
theorem ne0 {b : Int} (h : 0 < b) : (b : Rat) ≠ 0 := by
  simp only [ne_eq, Rat.intCast_eq_zero_iff]
  omega
theorem rv_eq {p q : Fr} (h1 : 0 < p.2) (h2 : 0 < q.2) : rv p = rv q ↔ p.1 * q.2 = q.1 * p.2 := by
  have a := ne0 h1
  have b := ne0 h2
  unfold rv
  constructor
  · intro h
    have : (p.1 : Rat) * q.2 = q.1 * p.2 := by grind
    exact_mod_cast this
  · intro h
    have : (p.1 : Rat) * q.2 = q.1 * p.2 := by exact_mod_cast h
    grind
theorem rv_inj {p q : Fr} (h1 : Sh p) (h2 : Sh q) (e : rv p = rv q) : p = q := by
  rw [rv_eq h1.1 h2.1] at e
  obtain ⟨a, b⟩ := p
  obtain ⟨c, d⟩ := q
  obtain ⟨b0, g1⟩ := h1
  obtain ⟨d0, g2⟩ := h2
  dsimp only at *
  have n1 : a.natAbs * d.natAbs = c.natAbs * b.natAbs := by rw [← Int.natAbs_mul, ← Int.natAbs_mul, e]
  have g1' : Nat.Coprime b.natAbs a.natAbs := by rw [Nat.coprime_comm]; exact g1
  have g2' : Nat.Coprime d.natAbs c.natAbs := by rw [Nat.coprime_comm]; exact g2
  have d1 : b.natAbs ∣ d.natAbs := g1'.dvd_of_dvd_mul_left ⟨c.natAbs, by rw [n1, Nat.mul_comm]⟩
  have d2 : d.natAbs ∣ b.natAbs := g2'.dvd_of_dvd_mul_left ⟨a.natAbs, by rw [← n1, Nat.mul_comm]⟩
  have e1 := Nat.dvd_antisymm d1 d2
  have e2 : b = d := by omega
  subst e2
  have e3 : a = c := Int.eq_of_mul_eq_mul_right (by omega) e
  rw [e3]
theorem sh_plus {p q : Fr} (h1 : Sh p) (h2 : Sh q) : Sh (plusF p q) := (plus_ok h1 h2).1
theorem rv_plus {p q : Fr} (h1 : Sh p) (h2 : Sh q) : rv (plusF p q) = rv p + rv q := by
  obtain ⟨s, e⟩ := plus_ok h1 h2
  have a := ne0 h1.1
  have b := ne0 h2.1
  have c := ne0 s.1
  have e' : ((pX p.1 p.2 q.1 q.2 : Int) : Rat) * (p.2 * q.2) = (p.1 * q.2 + q.1 * p.2) * (pY p.1 p.2 q.1 q.2 : Int) := by exact_mod_cast e
  unfold rv plusF
  dsimp only
  grind
theorem sh_times {p q : Fr} (h1 : Sh p) (h2 : Sh q) : Sh (timesF p q) := (times_ok h1 h2).1
theorem rv_times {p q : Fr} (h1 : Sh p) (h2 : Sh q) : rv (timesF p q) = rv p * rv q := by
  obtain ⟨s, e⟩ := times_ok h1 h2
  have a := ne0 h1.1
  have b := ne0 h2.1
  have c := ne0 s.1
  have e' : ((tX p.1 p.2 q.1 q.2 : Int) : Rat) * (p.2 * q.2) = p.1 * q.1 * (tY p.1 p.2 q.1 q.2 : Int) := by exact_mod_cast e
  unfold rv timesF
  dsimp only
  grind
theorem sh_zero : Sh zero := ⟨by decide, by decide⟩
theorem rv_zero : rv zero = 0 := by
  show ((0 : Int) : Rat) / ((1 : Int) : Rat) = 0
  have : ((0 : Int) : Rat) = 0 := by simp
  rw [this]
  grind
theorem rv_ne {p : Fr} (h : Sh p) : rv p = 0 ↔ p = zero := by
  constructor
  · intro e
    exact rv_inj h sh_zero (e.trans rv_zero.symm)
  · rintro rfl
    exact rv_zero
def low (t b : Int) : Fr := (t / (Int.gcd t b : Int), b / (Int.gcd t b : Int))
theorem sh_low {t b : Int} (h : 0 < b) : Sh (low t b) := by
  obtain ⟨x', y', ex, ey, g1, qx, qy⟩ := two_parts (x := t) (y := b) (by omega)
  unfold low
  rw [qx, qy]
  have y0 : 0 < y' := pos_of_mul (k := (Int.gcd t b : Int)) (by omega) (by omega)
  exact ⟨y0, g1⟩
theorem rv_low {t b : Int} (h : 0 < b) : rv (low t b) = (t : Rat) / (b : Rat) := by
  have s := sh_low (t := t) h
  obtain ⟨x', y', ex, ey, g1, qx, qy⟩ := two_parts (x := t) (y := b) (by omega)
  have g0 : 0 < Int.gcd t b := Int.gcd_pos_of_ne_zero_right t (by omega)
  unfold low at s ⊢
  rw [qx, qy] at s ⊢
  have e : x' * b = t * y' := by
    generalize ((Int.gcd t b : Nat) : Int) = g at *
    rw [ex, ey]
    simp only [Int.mul_assoc, Int.mul_left_comm, Int.mul_comm]
  exact (rv_eq (p := (x', y')) (q := (t, b)) s.1 h).mpr e
theorem gf_low {e : Nat} {t b : Int} (h : 0 < b) (h1 : Lt2 e t) (h2 : Lt2 e b) : Gf e (low t b) := ⟨(sh_low h).1, h1.div, h2.div⟩
abbrev Pq := Tr × Fr
def prT (p : Pq) : Tr := .tup [p.1, frT p.2]
open Classical in
noncomputable def tot (t : Tr) : List Pq → Rat
  | [] => 0
  | p :: r => (if p.1 = t then rv p.2 else 0) + tot t r
theorem tot_app (t : Tr) (a b : List Pq) : tot t (a ++ b) = tot t a + tot t b := by
  induction a with
  | nil => simp only [List.nil_append, tot]; grind
  | cons p r ih => simp only [List.cons_append, tot, ih]; grind
open Classical in
theorem tot_one (t : Tr) (p : Pq) : tot t [p] = if p.1 = t then rv p.2 else 0 := by
  simp only [tot]
  grind
theorem tot_perm {t : Tr} {a b : List Pq} (h : a.Perm b) : tot t a = tot t b := by
  induction h with
  | nil => rfl
  | cons x _ ih => simp only [tot, ih]
  | swap x y l => simp only [tot]; grind
  | trans _ _ h1 h2 => rw [h1, h2]
theorem tot_none {t : Tr} : ∀ {l : List Pq}, (∀ p ∈ l, p.1 ≠ t) → tot t l = 0
  | [], _ => rfl
  | p :: r, h => by
    simp only [tot]
    rw [if_neg (h p List.mem_cons_self), tot_none fun q m => h q (List.mem_cons_of_mem _ m)]
    grind
abbrev Asc (us : List Pq) : Prop := us.Pairwise fun a b => ltT a.1 b.1 = true
theorem lt_irr (t : Tr) : ltT t t = false := by
  cases e : ltT t t with
  | false => rfl
  | true => exact (ltT_asym e).symm.trans e |>.symm
theorem lt_ne {t u : Tr} (h : ltT t u = true) : t ≠ u := fun z => by
  rw [z, lt_irr] at h
  cases h
theorem lt_trans' {a b c : Tr} (h1 : ltT a b = true) (h2 : ltT b c = true) : ltT a c = true := ltT_iff.mpr (ltC_trans (ltT_iff.mp h1) (ltT_iff.mp h2))
theorem asc_tot {us : List Pq} (h : Asc us) {p : Pq} (m : p ∈ us) : tot p.1 us = rv p.2 := by
  induction us with
  | nil => cases m
  | cons q r ih =>
    obtain ⟨h1, h2⟩ := List.pairwise_cons.mp h
    simp only [tot]
    rcases List.mem_cons.mp m with e | m
    · subst e
      rw [if_pos rfl, tot_none fun x mx => (lt_ne (h1 x mx)).symm]
      grind
    · rw [if_neg (lt_ne (h1 p m)), ih h2 m]
      grind
structure Can (ps us : List Pq) : Prop where
  asc : Asc us
  sh : ∀ p ∈ us, Sh p.2 ∧ p.2 ≠ zero
  eq : ∀ t, tot t us = tot t ps
theorem Can.mem {ps us vs : List Pq} (h1 : Can ps us) (h2 : Can ps vs) {p : Pq} (m : p ∈ us) : p ∈ vs := by
  have e1 := asc_tot h1.asc m
  rw [h1.eq, ← h2.eq] at e1
  have n0 : rv p.2 ≠ 0 := fun z => (h1.sh p m).2 ((rv_ne (h1.sh p m).1).mp z)
  refine Classical.byContradiction fun no => ?_
  by_cases q : ∀ x ∈ vs, x.1 ≠ p.1
  · rw [tot_none q] at e1
    exact n0 e1.symm
  · obtain ⟨x, hx⟩ := Classical.not_forall.mp q
    obtain ⟨mx, ex⟩ := Classical.not_imp.mp hx
    have ex := Classical.not_not.mp ex
    have e2 := asc_tot h2.asc mx
    rw [ex, e1] at e2
    have e3 := rv_inj (h1.sh p m).1 (h2.sh x mx).1 e2
    have : x = p := Prod.ext ex e3.symm
    rw [this] at mx
    exact no mx
theorem asc_eq : ∀ {us vs : List Pq}, Asc us → Asc vs → (∀ p, p ∈ us ↔ p ∈ vs) → us = vs
  | [], [], _, _, _ => rfl
  | [], b :: vs, _, _, h => by
    have := (h b).mpr List.mem_cons_self
    cases this
  | a :: us, [], _, _, h => by
    have := (h a).mp List.mem_cons_self
    cases this
  | a :: us, b :: vs, h1, h2, h => by
    obtain ⟨a1, a2⟩ := List.pairwise_cons.mp h1
    obtain ⟨b1, b2⟩ := List.pairwise_cons.mp h2
    have e : a = b := by
      rcases List.mem_cons.mp ((h a).mp List.mem_cons_self) with e | m
      · exact e
      · rcases List.mem_cons.mp ((h b).mpr List.mem_cons_self) with e | m'
        · exact e.symm
        · have := ltT_asym (b1 a m)
          rw [a1 b m'] at this
          cases this
    subst e
    rw [asc_eq a2 b2 fun p => ?_]
    constructor
    · intro m
      rcases List.mem_cons.mp ((h p).mp (List.mem_cons_of_mem _ m)) with e | m'
      · rw [e] at m
        exact absurd rfl (lt_ne (a1 a m))
      · exact m'
    · intro m
      rcases List.mem_cons.mp ((h p).mpr (List.mem_cons_of_mem _ m)) with e | m'
      · rw [e] at m
        exact absurd rfl (lt_ne (b1 a m))
      · exact m'
theorem Can.uniq {ps us vs : List Pq} (h1 : Can ps us) (h2 : Can ps vs) : us = vs := asc_eq h1.asc h2.asc fun p => ⟨h1.mem h2, h2.mem h1⟩
theorem Can.to {ps qs us : List Pq} (h : Can ps us) (e : ∀ t, tot t ps = tot t qs) : Can qs us := ⟨h.asc, h.sh, fun t => (h.eq t).trans (e t)⟩
structure Run (ds us : List Pq) : Prop where
  asc : Asc us
  sh : ∀ p ∈ us, Sh p.2
  eq : ∀ t, tot t us = tot t ds
  key : ∀ p ∈ us, ∃ d ∈ ds, d.1 = p.1
theorem Run.nil : Run [] [] := ⟨.nil, (fun p m => by cases m), fun t => rfl, fun p m => by cases m⟩
theorem Run.app {ds us : List Pq} {u : Pq} (h : Run ds us) (hl : ∀ p ∈ us, ltT p.1 u.1 = true) (hs : Sh u.2) : Run (ds ++ [u]) (us ++ [u]) := by
  refine ⟨?_, fun p m => ?_, fun t => by rw [tot_app, tot_app, h.eq], fun p m => ?_⟩
  · refine List.pairwise_append.mpr ⟨h.asc, List.pairwise_singleton _ _, fun a ma b mb => ?_⟩
    rw [List.mem_singleton.mp mb]
    exact hl a ma
  · rcases List.mem_append.mp m with m | m
    · exact h.sh p m
    · rw [List.mem_singleton.mp m]
      exact hs
  · rcases List.mem_append.mp m with m | m
    · obtain ⟨d, md, e⟩ := h.key p m
      exact ⟨d, List.mem_append_left _ md, e⟩
    · rw [List.mem_singleton.mp m]
      exact ⟨u, List.mem_append_right _ List.mem_cons_self, rfl⟩
theorem Run.add {ds us : List Pq} {t : Tr} {f g : Fr} (h : Run ds (us ++ [(t, f)])) (hs : Sh g) : Run (ds ++ [(t, g)]) (us ++ [(t, plusF f g)]) := by
  have hf : Sh f := h.sh (t, f) (List.mem_append_right _ List.mem_cons_self)
  obtain ⟨a1, _, a3⟩ := List.pairwise_append.mp h.asc
  refine ⟨?_, fun p m => ?_, fun u => ?_, fun p m => ?_⟩
  · refine List.pairwise_append.mpr ⟨a1, List.pairwise_singleton _ _, fun a ma b mb => ?_⟩
    rw [List.mem_singleton.mp mb]
    exact a3 a ma (t, f) List.mem_cons_self
  · rcases List.mem_append.mp m with m | m
    · exact h.sh p (List.mem_append_left _ m)
    · rw [List.mem_singleton.mp m]
      exact sh_plus hf hs
  · have e := h.eq u
    rw [tot_app, tot_one] at e
    rw [tot_app, tot_app, tot_one, tot_one, ← e, rv_plus hf hs]
    dsimp only
    by_cases z : t = u
    · simp only [if_pos z]; grind
    · simp only [if_neg z]; grind
  · rcases List.mem_append.mp m with m | m
    · obtain ⟨d, md, e⟩ := h.key p (List.mem_append_left _ m)
      exact ⟨d, List.mem_append_left _ md, e⟩
    · rw [List.mem_singleton.mp m]
      exact ⟨(t, g), List.mem_append_right _ List.mem_cons_self, rfl⟩
theorem tot_filter (t : Tr) {us : List Pq} (h : ∀ p ∈ us, Sh p.2) : tot t (us.filter fun p => decide (p.2 ≠ zero)) = tot t us := by
  induction us with
  | nil => rfl
  | cons p r ih =>
    have ih := ih fun q m => h q (List.mem_cons_of_mem _ m)
    rw [List.filter_cons]
    by_cases z : p.2 = zero
    · have e : decide (p.2 ≠ zero) = false := by simp [z]
      rw [e, if_neg (by decide), ih]
      simp only [tot, z, rv_zero]
      grind
    · have e : decide (p.2 ≠ zero) = true := by simp [z]
      rw [e, if_pos rfl]
      simp only [tot, ih]
theorem Run.fin {ps us : List Pq} (h : Run ps us) : Can ps (us.filter fun p => decide (p.2 ≠ zero)) := by
  refine ⟨h.asc.filter _, fun p m => ?_, fun t => (tot_filter t h.sh).trans (h.eq t)⟩
  obtain ⟨m1, m2⟩ := List.mem_filter.mp m
  exact ⟨h.sh p m1, by simpa using m2⟩
theorem lt_pair {p q : Pq} (h : ltT p.1 q.1 = true) : ltT (prT p) (prT q) = true := by
  rw [ltT_iff] at h ⊢
  show LtC (.tup (code p.1 :: _)) (.tup (code q.1 :: _))
  simp only [LtC, LtCs]
  exact .inl h
theorem le_pair {p q : Pq} (h : ltT (prT q) (prT p) = false) : ltT q.1 p.1 = false := by
  cases e : ltT q.1 p.1 with
  | false => rfl
  | true => rw [lt_pair e] at h; cases h
theorem lt_of {t u : Tr} (h1 : ltT u t = false) (h2 : eqT t u = false) : ltT t u = true := by
  cases e : ltT t u with
  | true => rfl
  | false => rw [ltT_eq e h1] at h2; cases h2
theorem tm_eq {t u : Tr} (h1 : Ty .tm t) (h2 : Ty .tm u) (h : eqT t u = true) : t = u := ty_eq t.depth (Nat.le_refl _) h1 h2 ((eqT_code t u).mp h)
end Su
set_option Elab.async false
set_option linter.all false
set_option maxRecDepth 100000
set_option maxHeartbeats 1000000
namespace L2
open PySem PySem.Spec PyProof.Rows
section
variable {X : Cx}
def rNeP (K : PySem.W.Frag) : R2 := fun x y H Q => ∃ (p q : Addr) (a b c d : Int), x = .ref p ∧ y = .ref q ∧ SqT K H p [.int a, .int b] ∧ SqT K H q [.int c, .int d] ∧ Q (.bl (!decide (a = c ∧ b = d))) H
theorem op_neP (hu : X.A.units + 1 < cLine) : OpR X (compareOp .NotEq) (rNeP X.K) := by
  intro pins s σ H x y v u Q I rx ry h
  obtain ⟨p, q, a, b, c, d, e1, e2, hp, hq, k⟩ := h
  subst e1 e2
  cases (show v = Value.ref p from rx)
  cases (show u = Value.ref q from ry)
  obtain ⟨its, r1, t1, _⟩ := I.tuple hp
  obtain ⟨its2, r2, t2, _⟩ := I.tuple hq
  obtain ⟨u1, u2, rfl, ⟨w1, rfl⟩, ⟨w2, rfl⟩⟩ := Vals.two r1
  obtain ⟨u3, u4, rfl, ⟨w3, rfl⟩, ⟨w4, rfl⟩⟩ := Vals.two r2
  refine SeqAt.RcNeAt.tuples (A := X.A) (e := fun j => if j = 0 then a == c else b == d) (show s.heap.IsTuple p _ from t1) (show s.heap.IsTuple q _ from t2) (by omega) (fun j h1 h2 => ?_) X.prog X.w X.xe _ ?_
  · match j, h1, h2 with
    | 0, _, _ => exact PySem.SeqAt.EqAt.int_int a w1 c w3
    | 1, _, _ => exact PySem.SeqAt.EqAt.int_int b w2 d w4
    | j + 2, h1, _ =>
      have : j + 2 < 2 := h1
      omega
  · refine ⟨.bl (!decide (a = c ∧ b = d)), H, I, ?_, k⟩
    show Value.bool (!(((a == c) && ((b == d) && true)) && true)) = Value.bool (!decide (a = c ∧ b = d))
    congr 2
    rw [Bool.and_true, Bool.and_true, Bool.eq_iff_iff]
    simp
end
end L2
namespace Tre
open PySem L2
theorem TrsAt.set {H : Hp} {v : V} {t : Tr} (hv : TrAt H v t) : ∀ {vs : List V} {ts : List Tr} {i : Nat}, TrsAt H vs ts → TrsAt H (vs.set i v) (ts.set i t)
  | vs, [], i, h => by
    unfold TrsAt at h
    subst h
    simp
    exact .nil
  | vs, u :: ts, 0, h => by
    obtain ⟨w, r, rfl, h1, h2⟩ := h.inv
    exact .cons hv h2
  | vs, u :: ts, i + 1, h => by
    obtain ⟨w, r, rfl, h1, h2⟩ := h.inv
    exact .cons h1 (TrsAt.set hv h2)
theorem tm_tup {t : Tr} (h : Ty .tm t) : ∃ ts, t = .tup ts := by
  cases h <;> exact ⟨_, rfl⟩
end Tre
namespace Su
open PySem L2 Tre Mth Wd
theorem last_at {α : Type} {rs : List α} {y : α} (pos : 0 < rs.length) (ey : rs[rs.length - 1]? = some y) : atI rs (-1) = some y := by
  unfold atI ixN
  rw [if_neg (by decide), if_pos (by omega), show (-1 + (rs.length : Int)).toNat = rs.length - 1 by omega]
  exact ey
theorem last_ix {n : Nat} (pos : 0 < n) : ixN n (-1) = some (n - 1) := by
  unfold ixN
  rw [if_neg (by decide), if_pos (by omega), show (-1 + (n : Int)).toNat = n - 1 by omega]
theorem perm_map {α β : Type} {f : α → β} {us vs : List β} (h : us.Perm vs) : ∀ {ps : List α}, vs = ps.map f → ∃ qs : List α, us = qs.map f ∧ qs.Perm ps := by
  induction h with
  | nil => intro ps e; exact ⟨[], rfl, by cases ps with | nil => exact .nil | cons p ps => simp at e⟩
  | cons x _ ih =>
    intro ps e
    cases ps with
    | nil => simp at e
    | cons p ps =>
      rw [List.map_cons, List.cons.injEq] at e
      obtain ⟨qs, e1, e2⟩ := ih e.2
      exact ⟨p :: qs, by rw [List.map_cons, e1, e.1], e2.cons p⟩
  | swap x y l =>
    intro ps e
    cases ps with
    | nil => simp at e
    | cons p ps =>
      cases ps with
      | nil => simp at e
      | cons q ps =>
        simp only [List.map_cons, List.cons.injEq] at e
        obtain ⟨e1, e2, e3⟩ := e
        exact ⟨q :: p :: ps, by simp only [List.map_cons, e1, e2, e3], .swap p q ps⟩
  | trans _ _ h1 h2 =>
    intro ps e
    obtain ⟨ms, e1, p1⟩ := h2 e
    obtain ⟨qs, e2, p2⟩ := h1 e1
    exact ⟨qs, e2, p2.trans p1⟩
structure Gq (e : Nat) (p : Pq) : Prop where
  ty : Ty .tm p.1
  dep : p.1.depth ≤ 7
  gf : Gf e p.2
  sh : Sh p.2
theorem Gq.mono {m n : Nat} {p : Pq} (h : Gq m p) (hn : m ≤ n) : Gq n p := ⟨h.ty, h.dep, h.gf.mono hn, h.sh⟩
theorem Gq.pr {e : Nat} {p : Pq} (h : Gq e p) : Ty .pr (prT p) ∧ (prT p).depth ≤ 8 := by
  refine ⟨.pr _ _ h.ty (.fr _ _), ?_⟩
  have := h.dep
  unfold prT frT
  simp only [Tr.depth, Trs.depth]
  omega
theorem take_get {α : Type} {us : List α} {i : Nat} {u : α} (e : us[i]? = some u) : us.take (i + 1) = us.take i ++ [u] := by
  rw [List.take_add_one, e]
  rfl
theorem fr_zero {p : Fr} : (!decide (p.1 = 0 ∧ p.2 = 1)) = decide (p ≠ zero) := by
  by_cases h : p = zero
  · subst h
    decide
  · have : ¬ (p.1 = 0 ∧ p.2 = 1) := fun q => h (Prod.ext q.1 q.2)
    simp [this, h]
end Su
namespace Su
open PySem L2 Tre Mth Wd
def scale (q : Fr) (p : Pq) : Pq := (p.1, timesF p.2 q)
def negF (f : Fr) : Fr := (-f.1, f.2)
def neg (p : Pq) : Pq := (p.1, negF p.2)
theorem sh_neg {f : Fr} (h : Sh f) : Sh (negF f) := contrary_share h
theorem rv_neg (f : Fr) : rv (negF f) = -rv f := by
  unfold rv negF
  simp only [Rat.intCast_neg]
  grind
theorem gf_neg {e : Nat} {f : Fr} (h : Gf e f) : Gf e (negF f) := ⟨h.pos, by show (-f.1).natAbs < _; rw [Int.natAbs_neg]; exact h.top, h.bot⟩
open Classical in
theorem tot_neg (t : Tr) (ps : List Pq) : tot t (ps.map neg) = -tot t ps := by
  induction ps with
  | nil => simp only [List.map_nil, tot]; grind
  | cons p r ih =>
    simp only [List.map_cons, tot, ih]
    show (if p.1 = t then rv (negF p.2) else 0) + _ = _
    rw [rv_neg]
    by_cases z : p.1 = t
    · simp only [if_pos z]; grind
    · simp only [if_neg z]; grind
open Classical in
theorem tot_scale (t : Tr) {q : Fr} (hq : Sh q) {ps : List Pq} (h : ∀ p ∈ ps, Sh p.2) : tot t (ps.map (scale q)) = tot t ps * rv q := by
  induction ps with
  | nil => simp only [List.map_nil, tot]; grind
  | cons p r ih =>
    simp only [List.map_cons, tot, ih fun x m => h x (List.mem_cons_of_mem _ m)]
    show (if p.1 = t then rv (timesF p.2 q) else 0) + _ = _
    rw [rv_times (h p List.mem_cons_self) hq]
    by_cases z : p.1 = t
    · simp only [if_pos z]; grind
    · simp only [if_neg z]; grind
def m1 : Fr := (-1, 1)
def p1 : Fr := (1, 1)
theorem sh_m1 : Sh m1 := ⟨by decide, by decide⟩
theorem sh_p1 : Sh p1 := ⟨by decide, by decide⟩
theorem rv_m1 : rv m1 = -1 := by
  show ((-1 : Int) : Rat) / ((1 : Int) : Rat) = -1
  simp only [Rat.intCast_neg]
  have : ((1 : Int) : Rat) = 1 := by simp
  rw [this]
  grind
theorem rv_p1 : rv p1 = 1 := by
  show ((1 : Int) : Rat) / ((1 : Int) : Rat) = 1
  have : ((1 : Int) : Rat) = 1 := by simp
  rw [this]
  grind
theorem gf_1 {p : Fr} (h : p = m1 ∨ p = p1) : Gf 1 p := by
  rcases h with rfl | rfl
  · exact ⟨by decide, by show (1 : Nat) < 2 ^ 1; decide, by show (1 : Nat) < 2 ^ 1; decide⟩
  · exact ⟨by decide, by show (1 : Nat) < 2 ^ 1; decide, by show (1 : Nat) < 2 ^ 1; decide⟩
end Su
namespace L2
theorem ne_int {a b : Int} (h : a = b) : (!decide (V.int a = V.int b)) = false := by
  rw [h, decide_eq_true rfl]
  rfl
end L2
set_option Elab.async false
set_option linter.all false
set_option maxRecDepth 100000
set_option maxHeartbeats 1000000
namespace Su
open PySem L2 Tre Mth Wd
theorem Can.key {ps us : List Pq} (h : Can ps us) {p : Pq} (m : p ∈ us) : ∃ q ∈ ps, q.1 = p.1 := by
  refine Classical.byContradiction fun no => ?_
  have e := asc_tot h.asc m
  rw [h.eq, tot_none fun q mq ez => no ⟨q, mq, ez⟩] at e
  exact (h.sh p m).2 ((rv_ne (h.sh p m).1).mp e.symm)
def vl (W : Wld) (t : Tr) : Rat := rv (valT W t)
end Su
set_option Elab.async false
set_option linter.all false
set_option maxRecDepth 100000
set_option maxHeartbeats 1000000
namespace Su
open PySem L2 Tre Mth Wd
open Classical in
noncomputable def cnt (t : Tr) : List Pq → Nat
  | [] => 0
  | p :: r => (if p.1 = t then 1 else 0) + cnt t r
theorem cnt_app (t : Tr) (a b : List Pq) : cnt t (a ++ b) = cnt t a + cnt t b := by
  induction a with
  | nil => simp [cnt]
  | cons p r ih => simp only [List.cons_append, cnt, ih]; omega
theorem cnt_perm {t : Tr} {a b : List Pq} (h : a.Perm b) : cnt t a = cnt t b := by
  induction h with
  | nil => rfl
  | cons x _ ih => simp only [cnt, ih]
  | swap x y l => simp only [cnt]; omega
  | trans _ _ i1 i2 => exact i1.trans i2
theorem cnt_one (t : Tr) (p : Pq) (e : p.1 = t) : cnt t [p] = 1 := by simp [cnt, e]
theorem cnt_none {t : Tr} : ∀ {l : List Pq}, (∀ p ∈ l, p.1 ≠ t) → cnt t l = 0
  | [], _ => rfl
  | p :: r, h => by
    simp only [cnt, if_neg (h p List.mem_cons_self), cnt_none fun x m => h x (List.mem_cons_of_mem _ m)]
theorem cnt_asc {t : Tr} : ∀ {us : List Pq}, Asc us → cnt t us ≤ 1
  | [], _ => Nat.zero_le _
  | p :: r, h => by
    obtain ⟨h1, h2⟩ := List.pairwise_cons.mp h
    by_cases e : p.1 = t
    · rw [cnt, if_pos e, cnt_none fun q m z => lt_ne (h1 q m) (e.trans z.symm)]
      exact Nat.le_refl _
    · rw [cnt, if_neg e]
      have := cnt_asc (t := t) h2
      omega
theorem cnt_map {t : Tr} {f : Pq → Pq} (hf : ∀ p, (f p).1 = p.1) : ∀ l : List Pq, cnt t (l.map f) = cnt t l
  | [] => rfl
  | p :: r => by
    have e := hf p
    simp only [List.map_cons, cnt, cnt_map hf r]
    by_cases z : p.1 = t
    · rw [if_pos z, if_pos (e.trans z)]
    · rw [if_neg z, if_neg fun q => z (e.symm.trans q)]
theorem asc_len : ∀ {us : List Pq} {T : List Tr}, Asc us → (∀ u ∈ us, u.1 ∈ T) → us.length ≤ T.length
  | [], _, _, _ => Nat.zero_le _
  | p :: r, T, h, hm => by
    classical
    obtain ⟨h1, h2⟩ := List.pairwise_cons.mp h
    have ih := asc_len (T := T.filter fun t => decide (t ≠ p.1)) h2 fun u m => List.mem_filter.mpr ⟨hm u (List.mem_cons_of_mem _ m), by
      have := lt_ne (h1 u m)
      simp only [decide_eq_true_eq]
      exact fun z => this z.symm⟩
    have : (T.filter fun t => decide (t ≠ p.1)).length < T.length := by
      refine Nat.lt_of_le_of_ne (List.length_filter_le _ _) fun e => ?_
      have := List.length_filter_eq_length_iff.mp e p.1 (hm p List.mem_cons_self)
      simp at this
    rw [List.length_cons]
    omega
structure Bd where
  us : List Pq
  m : Fr
  st : Bool
def bdT (b : Bd) : Tr := .tup [.tup (b.us.map prT), frT b.m, .bl b.st]
abbrev Wt := Nat × Fr
def wtT (k : Wt) : Tr := .tup [.int (k.1 : Int), frT k.2]
def bdAt (bs : List Bd) (i : Nat) : Bd := bs.getD i ⟨[], zero, false⟩
def flatP (bs : List Bd) : List Wt → List Pq
  | [] => []
  | k :: r => (bdAt bs k.1).us.map (scale k.2) ++ flatP bs r
def totR (bs : List Bd) : List Wt → Rat
  | [] => 0
  | k :: r => rv (bdAt bs k.1).m * rv k.2 + totR bs r
theorem flatP_app (bs : List Bd) (a b : List Wt) : flatP bs (a ++ b) = flatP bs a ++ flatP bs b := by
  induction a with
  | nil => rfl
  | cons k r ih => simp only [List.cons_append, flatP, ih, List.append_assoc]
theorem totR_app (bs : List Bd) (a b : List Wt) : totR bs (a ++ b) = totR bs a + totR bs b := by
  induction a with
  | nil => simp only [List.nil_append, totR]; grind
  | cons k r ih => simp only [List.cons_append, totR, ih]; grind
theorem flatP_one (bs : List Bd) (k : Wt) : flatP bs [k] = (bdAt bs k.1).us.map (scale k.2) := by simp [flatP]
theorem totR_one (bs : List Bd) (k : Wt) : totR bs [k] = rv (bdAt bs k.1).m * rv k.2 := by simp only [totR]; grind
structure Gb (T : List Tr) (e : Nat) (b : Bd) : Prop where
  asc : Asc b.us
  mem : ∀ u ∈ b.us, u.1 ∈ T
  gq : ∀ u ∈ b.us, Gq e u
  sh : Sh b.m
  gf : Gf e b.m
theorem Gb.mono {T : List Tr} {e e' : Nat} {b : Bd} (h : Gb T e b) (he : e ≤ e') : Gb T e' b := ⟨h.asc, h.mem, fun u m => (h.gq u m).mono he, h.sh, h.gf.mono he⟩
theorem bdAt_get {bs : List Bd} {i : Nat} (h : i < bs.length) : bs[i]? = some (bdAt bs i) := by
  unfold bdAt
  rw [List.getElem?_eq_getElem h, List.getD_eq_getElem?_getD, List.getElem?_eq_getElem h]
  rfl
theorem bdAt_mem {bs : List Bd} {i : Nat} (h : i < bs.length) : bdAt bs i ∈ bs := List.mem_of_getElem? (bdAt_get h)
theorem flat_cnt {T : List Tr} {e : Nat} {bs : List Bd} (hb : ∀ b ∈ bs, Gb T e b) (t : Tr) : ∀ {ks : List Wt}, (∀ k ∈ ks, k.1 < bs.length) → cnt t (flatP bs ks) ≤ ks.length
  | [], _ => Nat.zero_le _
  | k :: r, h => by
    have h1 := cnt_asc (t := t) (hb _ (bdAt_mem (h k List.mem_cons_self))).asc
    have h2 := flat_cnt hb t (ks := r) fun x m => h x (List.mem_cons_of_mem _ m)
    rw [flatP, cnt_app, cnt_map (f := scale k.2) fun _ => rfl, List.length_cons]
    omega
theorem flat_len {T : List Tr} {e : Nat} {bs : List Bd} (hb : ∀ b ∈ bs, Gb T e b) : ∀ {ks : List Wt}, (∀ k ∈ ks, k.1 < bs.length) → (flatP bs ks).length ≤ ks.length * T.length
  | [], _ => Nat.zero_le _
  | k :: r, h => by
    have g := hb _ (bdAt_mem (h k List.mem_cons_self))
    have h1 := asc_len g.asc g.mem
    have h2 := flat_len hb (ks := r) fun x m => h x (List.mem_cons_of_mem _ m)
    rw [flatP, List.length_append, List.length_map, List.length_cons, Nat.succ_mul]
    omega
theorem flat_gq {T : List Tr} {e m : Nat} {bs : List Bd} (hb : ∀ b ∈ bs, Gb T e b) : ∀ {ks : List Wt}, (∀ k ∈ ks, k.1 < bs.length) → (∀ k ∈ ks, Sh k.2 ∧ Gf m k.2) → ∀ p ∈ flatP bs ks, Gq (e + m) p
  | [], _, _, p, mp => by cases mp
  | k :: r, h, hw, p, mp => by
    rw [flatP] at mp
    rcases List.mem_append.mp mp with mp | mp
    · obtain ⟨u, mu, rfl⟩ := List.mem_map.mp mp
      have g := (hb _ (bdAt_mem (h k List.mem_cons_self))).gq u mu
      obtain ⟨s, gk⟩ := hw k List.mem_cons_self
      exact ⟨g.ty, g.dep, g.gf.times gk, sh_times g.sh s⟩
    · exact flat_gq hb (fun x mx => h x (List.mem_cons_of_mem _ mx)) (fun x mx => hw x (List.mem_cons_of_mem _ mx)) p mp
theorem flat_mem {T : List Tr} {e : Nat} {bs : List Bd} (hb : ∀ b ∈ bs, Gb T e b) : ∀ {ks : List Wt}, (∀ k ∈ ks, k.1 < bs.length) → ∀ p ∈ flatP bs ks, p.1 ∈ T
  | [], _, p, mp => by cases mp
  | k :: r, h, p, mp => by
    rw [flatP] at mp
    rcases List.mem_append.mp mp with mp | mp
    · obtain ⟨u, mu, rfl⟩ := List.mem_map.mp mp
      exact (hb _ (bdAt_mem (h k List.mem_cons_self))).mem u mu
    · exact flat_mem hb (fun x mx => h x (List.mem_cons_of_mem _ mx)) p mp
theorem can_sub {ps us : List Pq} (h : Can ps us) {u : Pq} (m : u ∈ us) : ∃ p ∈ ps, p.1 = u.1 := by
  have e1 := asc_tot h.asc m
  rw [h.eq] at e1
  have n0 : rv u.2 ≠ 0 := fun z => (h.sh u m).2 ((rv_ne (h.sh u m).1).mp z)
  refine Classical.byContradiction fun no => n0 ?_
  rw [← e1]
  exact tot_none fun p mp e => no ⟨p, mp, e⟩
end Su
set_option Elab.async false
set_option linter.all false
set_option maxRecDepth 100000
set_option maxHeartbeats 1000000
namespace Tre
open PySem PySem.Spec PyProof.Rows L2
section
variable {X : Cx}
def rEqT : R2 := fun x y H Q => ∃ ts us, TrAt H x (.tup ts) ∧ TrAt H y (.tup us) ∧ (Trs.pure ts ∨ Trs.pure us) ∧ Trs.depth ts ≤ 40 ∧ Q (.bl (eqTs ts us)) H
def rNeT : R2 := fun x y H Q => ∃ ts us, TrAt H x (.tup ts) ∧ TrAt H y (.tup us) ∧ (Trs.pure ts ∨ Trs.pure us) ∧ Trs.depth ts ≤ 40 ∧ Q (.bl (!eqTs ts us)) H
theorem items_eq {pins : List (Addr × Obj)} {σ : L2.St} {H : Hp} {s : Shared} {A : Around} {ts us : List Tr} {vs ws : List V} {as bs : List Value} (I : Inv X pins σ H s) (hu : A.units + 42 < cLine) (h1 : TrsAt H vs ts) (h2 : TrsAt H ws us) (hp : Trs.pure ts ∨ Trs.pure us) (hd : Trs.depth ts ≤ 40) (r1 : Vals vs as) (r2 : Vals ws bs)
    (j : Nat) (g1 : j < as.toArray.size) (g2 : j < bs.toArray.size) : SeqAt.EqAt A s as.toArray[j] bs.toArray[j] (eqJ ts us j) := by
  have l1 := h1.len
  have l2 := h2.len
  have l3 := r1.length
  have l4 := r2.length
  have h1' : j < as.length := by simpa using g1
  have h2' : j < bs.length := by simpa using g2
  have t1 : ts[j]? = some (ts[j]'(by omega)) := List.getElem?_eq_getElem _
  have t2 : us[j]? = some (us[j]'(by omega)) := List.getElem?_eq_getElem _
  obtain ⟨v, e1, a1⟩ := h1.get t1
  obtain ⟨w, e2, a2⟩ := h2.get t2
  obtain ⟨u1, e3, q1⟩ := r1.get e1
  obtain ⟨u2, e4, q2⟩ := r2.get e2
  have z1 : as.toArray[j] = u1 := by rw [List.getElem_toArray]; rw [List.getElem?_eq_getElem h1'] at e3; exact Option.some.inj e3
  have z2 : bs.toArray[j] = u2 := by rw [List.getElem_toArray]; rw [List.getElem?_eq_getElem h2'] at e4; exact Option.some.inj e4
  rw [z1, z2, eqJ_at t1 t2]
  refine tr_eqAt I 40 ?_ ?_ a1 a2 q1 q2 (by omega)
  · have := depth_memT (List.mem_of_getElem? t1)
    omega
  · rcases hp with hp | hp
    · exact .inl (pure_mem hp (List.mem_of_getElem? t1))
    · exact .inr (pure_mem hp (List.mem_of_getElem? t2))
theorem op_eqT (hu : X.A.units + 50 < cLine) : OpR X (compareOp .Eq) rEqT := by
  intro pins s σ H x y v u Q I rx ry h
  obtain ⟨ts, us, h1, h2, hp, hd, q⟩ := h
  unfold TrAt at h1 h2
  obtain ⟨a, vs, rfl, g1, k1⟩ := h1
  obtain ⟨b, ws, rfl, g2, k2⟩ := h2
  cases rx
  cases ry
  obtain ⟨as, r1, p1, _⟩ := I.tuple (SqT.of g1)
  obtain ⟨bs, r2, p2, _⟩ := I.tuple (SqT.of g2)
  refine PySem.SeqAt.eq_tupleAt (e := eqJ ts us) (show s.heap.IsTuple a as.toArray from p1) (show s.heap.IsTuple b bs.toArray from p2) (by omega) (fun j g1 g2 => items_eq I (by first | omega | (show X.A.units + 1 + 42 < cLine; omega)) k1 k2 hp hd r1 r2 j g1 g2) ?_
  refine ⟨.bl (eqTs ts us), H, I, ?_, q⟩
  rw [List.size_toArray, List.size_toArray, ← r1.length, ← r2.length, k1.len, k2.len, ← eqTs_all]
  rfl
theorem op_neT (hu : X.A.units + 50 < cLine) : OpR X (compareOp .NotEq) rNeT := by
  intro pins s σ H x y v u Q I rx ry h
  obtain ⟨ts, us, h1, h2, hp, hd, q⟩ := h
  unfold TrAt at h1 h2
  obtain ⟨a, vs, rfl, g1, k1⟩ := h1
  obtain ⟨b, ws, rfl, g2, k2⟩ := h2
  cases rx
  cases ry
  obtain ⟨as, r1, p1, _⟩ := I.tuple (SqT.of g1)
  obtain ⟨bs, r2, p2, _⟩ := I.tuple (SqT.of g2)
  refine SeqAt.RcNeAt.tuples (A := X.A) (e := eqJ ts us) (show s.heap.IsTuple a as.toArray from p1) (show s.heap.IsTuple b bs.toArray from p2) (by omega) (fun j g1 g2 => items_eq I (by show X.A.units + 1 + 42 < cLine; omega) k1 k2 hp hd r1 r2 j g1 g2) X.prog X.w X.xe _ ?_
  refine ⟨.bl (!eqTs ts us), H, I, ?_, q⟩
  rw [List.size_toArray, List.size_toArray, ← r1.length, ← r2.length, k1.len, k2.len, ← eqTs_all]
  rfl
end
end Tre
set_option Elab.async false
set_option linter.all false
set_option maxRecDepth 100000
set_option maxHeartbeats 1000000
namespace K38
open PySem L2 Mth Tre Wd Su
section
variable {P : Program} {w : World} {K : PySem.W.Frag} {mg : Str → Option Value} {base : Heap}
def spSum : Sp := fun vs H Q _ => ∃ (l : Addr) (ws : List V) (ps : List Pq) (c e : Nat), vs = [.ref l] ∧ H l = some (.lst ws) ∧ TrsAt H ws (ps.map prT) ∧ ps.length < 64 ∧ (∀ t, cnt t ps ≤ c) ∧ c * (e + 1) ≤ 8000 ∧ e ≤ 8000 ∧ (∀ p ∈ ps, Gq e p) ∧
  ∀ (v : V) (H' : Hp) (us : List Pq), Same H H' → TrAt H' v (.tup (us.map prT)) → Can ps us → us.length ≤ ps.length → (∀ u ∈ us, Gq (c * (e + 1)) u) → Q v H'
theorem scSum : FnScope ["pairs", "totals", "term", "share"] ["pairs"] (defScope sSum) := ⟨rfl, rfl, rfl, by decide +kernel, rfl, by decide +kernel, by decide +kernel⟩
theorem ok_sum {f fP Z : Addr} {fd fdP : FuncData} (F : Fun K "sum_of" "sum_of" sSum f fd) (B : Blt mg) (GP : FnOk P w K mg base CX0 2 fP fdP ["one", "other"] (spPlus K)) (kP : PySem.W.keepIn K (.ref fP) = true) (bP : Binds K fdP ["one", "other"] []) (mP : mg "plus" = some (.ref fP))
    (mZ : mg "ZERO" = some (.ref Z)) (hZ : ∀ H : Hp, SqT K H Z [.int 0, .int 1]) : FnOk P w K mg base CX0 3 f fd ["pairs"] spSum := by
  refine F.ok scSum (fun vs H Q E h => ?_) (fun cdv A outer s H vs Q E hr h => ?_)
  · obtain ⟨l, ws, ps, c, e, rfl, _⟩ := h
    rfl
  obtain ⟨l, ws, ps, c, e, rfl, hl, hT, n64, hc, hne, e8, hty, k⟩ := h
  have hun := hr.units
  have hu1 := hu_of hr
  refine ⟨_, pss_cons (ps_set (i := 1) scSum.nd rfl (Or.inl rfl) (pe_lst pa_nil))
    (pss_cons (ps_for PassesOwn.never rfl (pi_list (pe_callB (call_sorted (Nat.lt_of_le_of_lt (Nat.add_le_add_left (by decide) _) hun)) rfl B.so PyProof.Rows.boot_sorted (pa_cons (pv 0) pa_nil))) (pg_tup rfl (pgs_cons (pg_name (i := 2) scSum.nd rfl (Or.inl rfl)) (pgs_cons (pg_name (i := 3) scSum.nd rfl (Or.inl rfl)) pgs_nil)))
      (pss_one (ps_if (PW.pt (pw_and (pt_truth (pv 1) (by intro _; rfl)) (pw_and1 (pt_cmpR (op_eqT (Nat.lt_of_le_of_lt (Nat.add_le_add_left (by decide) _) hun)) (pe_ix ix_tup (pe_ix ix_list (pv 1) (pe_un un_neg pe_int) fun _ _ => rfl) pe_int fun _ _ => rfl) (pv 2) (nomark _)))))
        (pss_one (ps_asg (pe_tup (pa_cons (pv 2) (pa_cons (pe_call GP hr rfl mP kP bP .nil pass0 (pa_cons (pe_ix ix_tup (pe_ix ix_list (pv 1) (pe_un un_neg pe_int) fun _ _ => rfl) pe_int fun _ _ => rfl) (pa_cons (pv 3) pa_nil))) pa_nil))) (pg_sub (pv 1) (pe_un un_neg pe_int) set_list)))
        (pss_one (ps_expr (pe_bm PySem.F.plainAttrs_list PySem.F.slot_list_append PySem.F.type_list_append mt_append (pv 1) (pa_cons (pe_tup (pa_cons (pv 2) (pa_cons (pv 3) pa_nil))) pa_nil)))))))
    (pss_one (ps_ret (pe_callTy call_tuple_of rfl B.tu PyProof.Rows.boot_tuple (pa_cons
      (pe_comp (NC := ["total"]) (mp := [none]) rfl (pi_list (pv 1)) (fun _ _ _ _ _ => pg_name (i := 0) (by simp) rfl (Or.inl rfl)) (fun _ _ _ _ _ => pts_one (pt_cmpR (r := rNeP K) (op_neP hu1) (pe_ix (r := rIxT K) ix_tup (pv 0) pe_int fun _ _ => rfl) (pe_glob (v := .ref Z) rfl mZ rfl) (nomark _))) (fun _ _ _ _ _ => pv 0)) pa_nil))))), ?_⟩
  have hL : (20000 : Nat) ≤ sizeLine := by decide +kernel
  refine ⟨by show 0 ≤ sizeLine; decide, fun D nD => ?_⟩
  have s1 : Same H (upd H D (.lst [])) := same_upd nD
  have tyT : ∀ t ∈ ps.map prT, Ty .pr t ∧ t.depth ≤ 8 := fun t m => by
    obtain ⟨p, mp, rfl⟩ := List.mem_map.mp m
    exact (hty p mp).pr
  refine ⟨_, rfl, l, ws, _, rfl, s1 _ _ hl, hT.mono (Kd.of_same s1), by rw [List.length_map]; omega, fun t m => ⟨ty_hd (.inr (tyT t m).1), ty_pure (tyT t m).1, by have := (tyT t m).2; omega⟩, fun t m u mu => ty_cm 30 (by have := (tyT t m).2; omega) (tyT t m).1 (tyT u mu).1, fun S ws' us nS pm hT' srt => ?_⟩
  obtain ⟨qs, rfl, pq⟩ := perm_map pm rfl
  have s2 := same_upd (o := .lst ws') nS
  have nS0 := s1.free nS
  have nDS : D ≠ S := fun z => by rw [← z, upd_same] at nS; cases nS
  have ul : qs.length = ps.length := pq.length_eq
  have wl := hT'.len
  rw [List.length_map] at wl
  have hty' : ∀ t ∈ qs, Gq e t := fun t m => hty t (pq.mem_iff.mp m)
  have ord : ∀ (i : Nat) (u : Pq), qs[i]? = some u → ∀ d ∈ qs.take i, ltT u.1 d.1 = false := by
    intro i u eu d md
    obtain ⟨j, hj, ej⟩ := List.getElem_of_mem md
    rw [List.length_take] at hj
    have ej' : qs[j]? = some d := by
      rw [List.getElem_take] at ej
      rw [← ej]
      exact List.getElem?_eq_getElem _
    exact le_pair (srt j i _ _ (by omega) (by rw [List.getElem?_map, ej']; rfl) (by rw [List.getElem?_map, eu]; rfl))
  refine ⟨S, rfl, ⟨ws', SqL.of upd_same⟩, ?_⟩
  refine for_list (xs := ws') (fun i σ H' => Same H H' ∧ H' S = some (.lst ws') ∧ TrsAt H' ws' (qs.map prT) ∧ ∃ (rs : List V) (trs : List Pq) (v2 v3 : Option V), σ = [some (.ref l), some (.ref D), v2, v3] ∧ H' D = some (.lst rs) ∧ TrsAt H' rs (trs.map prT) ∧ Run (qs.take i) trs ∧ (∀ t ∈ trs, Gq (cnt t.1 (qs.take i) * (e + 1)) t) ∧ trs.length ≤ i)
    ⟨s1.trans s2, upd_same, hT'.mono (Kd.of_same s2), [], [], none, none, rfl, s2 _ _ upd_same, .nil, by rw [List.take_zero]; exact Run.nil, (fun t m => by cases m), Nat.le_refl _⟩ (fun i σ H' _ p => SqL.of p.2.1) ?_ ?_
  · rintro i x σ H' ex ⟨sH, hS, hTS, rs, trs, v2, v3, rfl, hD, hR, hRun, hRt, hRl⟩
    obtain ⟨u, eu, hu⟩ := hTS.get' ex
    rw [List.getElem?_map] at eu
    obtain ⟨⟨tm, fr⟩, eq, rfl⟩ := Option.map_eq_some_iff.mp eu
    have mu := List.mem_of_getElem? eq
    have ilt : i < qs.length := (List.getElem?_eq_some_iff.mp eq).1
    have gu := hty' _ mu
    obtain ⟨r, xt, xf, rfl, hr', hxt, hxf⟩ := pair_at hu
    obtain ⟨rf, rfl, hrf⟩ := at_fr hxf
    have rl := hR.len
    rw [List.length_map] at rl
    have etk := take_get eq
    have up : ∀ u, cnt u (qs.take i) ≤ cnt u (qs.take (i + 1)) := fun u => by rw [etk, cnt_app]; omega
    have ei : cnt tm (qs.take (i + 1)) * (e + 1) = cnt tm (qs.take i) * (e + 1) + e + 1 := by rw [etk, cnt_app, cnt_one tm (tm, fr) rfl, Nat.succ_mul]; omega
    have cle : ∀ u, cnt u (qs.take i) ≤ c := fun u => by
      have h1 := hc u
      rw [← cnt_perm pq, ← List.take_append_drop i qs, cnt_app] at h1
      omega
    have ile : ∀ u, cnt u (qs.take i) * (e + 1) ≤ 8000 := fun u => Nat.le_trans (Nat.mul_le_mul_right _ (cle u)) hne
    refine ⟨r, _, rfl, SqT.of hr', rfl, _, _, rfl, _, _, rfl, rfl, ?_⟩
    have app : (∀ p ∈ trs, ltT p.1 tm = true) → ∀ p, H' p = none → Same H (upd (upd H' p (.tup [xt, .ref rf])) D (.lst (rs ++ [.ref p]))) ∧ (upd (upd H' p (.tup [xt, .ref rf])) D (.lst (rs ++ [.ref p]))) S = some (.lst ws') ∧ TrsAt (upd (upd H' p (.tup [xt, .ref rf])) D (.lst (rs ++ [.ref p]))) ws' (qs.map prT) ∧
        ∃ (rs' : List V) (trs' : List Pq) (v2' v3' : Option V), [some (V.ref l), some (.ref D), some xt, some (.ref rf)] = [some (.ref l), some (.ref D), v2', v3'] ∧ (upd (upd H' p (.tup [xt, .ref rf])) D (.lst (rs ++ [.ref p]))) D = some (.lst rs') ∧ TrsAt (upd (upd H' p (.tup [xt, .ref rf])) D (.lst (rs ++ [.ref p]))) rs' (trs'.map prT) ∧ Run (qs.take (i + 1)) trs' ∧ (∀ t ∈ trs', Gq (cnt t.1 (qs.take (i + 1)) * (e + 1)) t) ∧ trs'.length ≤ i + 1 := by
      intro hlt p np
      have sp : Same H' (upd H' p (.tup [xt, .ref rf])) := same_upd np
      have hDp := sp _ _ hD
      have kd := (Kd.of_same sp).trans (Kd.upd (ys := rs ++ [.ref p]) hDp)
      have hp' : (upd (upd H' p (.tup [xt, .ref rf])) D (.lst (rs ++ [.ref p]))) p = some (.tup [xt, .ref rf]) := by
        rw [upd_ne (fun z => by rw [z, hD] at np; cases np)]
        exact upd_same
      refine ⟨same_wr nD (sH.trans sp), (upd_ne nDS.symm).trans (sp _ _ hS), hTS.mono kd, _, trs ++ [(tm, fr)], _, _, rfl, upd_same, ?_, ?_, fun t m => ?_, by rw [List.length_append]; simp only [List.length_cons, List.length_nil]; omega⟩
      · rw [List.map_append]
        exact TrsAt.app (.cons (at_pair hp' (hxt.mono kd) (hxf.mono kd)) .nil) (hR.mono kd)
      · rw [etk]
        exact hRun.app hlt gu.sh
      · rcases List.mem_append.mp m with m | m
        · exact (hRt t m).mono (Nat.mul_le_mul_right _ (up _))
        · rw [List.mem_singleton.mp m]
          exact gu.mono (by show e ≤ cnt tm (qs.take (i + 1)) * (e + 1); rw [ei]; omega)
    refine ⟨_, rfl, !rs.isEmpty, .inl ⟨rs, SqL.of hD, rfl⟩, ?_⟩
    by_cases z : rs = []
    · have zt : trs = [] := List.length_eq_zero_iff.mp (by rw [← rl, z]; rfl)
      rw [z]
      refine iteF ?_
      refine iteF ?_
      rw [← z]
      refine ⟨_, rfl, .inl ⟨rfl, _, SqL.of hD⟩, _, rfl, _, rfl, by show 2 ≤ sizeLine; decide, fun p np => ?_⟩
      refine ⟨D, rs, _, rfl, rfl, same_upd np _ _ hD, by omega, ?_⟩
      exact app (fun p m => by rw [zt] at m; cases m) p np
    · have z' : rs.isEmpty = false := by simpa using z
      rw [z']
      refine iteT ?_
      have pos : 0 < rs.length := List.length_pos_iff.mpr z
      have zt : trs ≠ [] := fun q => by rw [q] at rl; simp at rl; exact z rl
      obtain ⟨tr0, ⟨tm', fr'⟩, rfl⟩ : ∃ l a, trs = l ++ [a] := ⟨trs.dropLast, trs.getLast zt, (List.dropLast_concat_getLast zt).symm⟩
      have rl' : rs.length - 1 = tr0.length := by rw [List.length_append, List.length_singleton] at rl; omega
      obtain ⟨y, ey, hy⟩ := hR.get (i := rs.length - 1) (t := prT (tm', fr')) (by rw [List.getElem?_map, rl', List.getElem?_append_right (Nat.le_refl _), Nat.sub_self]; rfl)
      have gl := hRt (tm', fr') (List.mem_append_right _ List.mem_cons_self)
      obtain ⟨ry, yt, yf, rfl, hry, hyt, hyf⟩ := pair_at hy
      obtain ⟨ryf, rfl, hryf⟩ := at_fr hyf
      obtain ⟨l1, e1⟩ := tm_tup gu.ty
      obtain ⟨l2, e2⟩ := tm_tup gl.ty
      have pu := ty_pure gl.ty
      have dd2 := gl.dep
      dsimp only at e1 e2 pu dd2 hxt hyt
      rw [e2] at pu dd2
      unfold Tr.pure at pu
      unfold Tr.depth at dd2
      have eat := last_at pos ey
      refine ⟨_, rfl, _, rfl, D, rs, -1, _, rfl, rfl, SqL.of hD, eat, ry, _, 0, yt, rfl, rfl, SqT.of hry, rfl, _, rfl, l2, l1, by rw [← e2]; exact hyt, by rw [← e1]; exact hxt, .inl pu, by omega, _, rfl, ?_⟩
      cases q : eqTs l2 l1 with
      | true =>
        have em : tm' = tm := tm_eq gl.ty gu.ty (by rw [e1, e2]; unfold eqT; exact q)
        refine iteT ?_
        refine ⟨_, rfl, _, rfl, _, rfl, D, rs, -1, _, rfl, rfl, SqL.of hD, eat, ry, _, 1, .ref ryf, rfl, rfl, SqT.of hry, rfl, _, rfl, ryf, rf, _, _, _, _, rfl, SqT.of hryf, SqT.of hrf, ⟨gl.gf.pos, gu.gf.pos, gl.gf.top.big (ile _), gl.gf.bot.big (ile _), gu.gf.top.big e8, gu.gf.bot.big e8⟩, fun rp H2 nrp sp2 hrp => ?_⟩
        refine ⟨by show 2 ≤ sizeLine; decide, fun p np => ?_⟩
        have sp3 : Same H' (upd H2 p (.tup [xt, .ref rp])) := sp2.trans (same_upd np)
        have hD3 := sp3 _ _ hD
        refine ⟨_, rfl, _, rfl, D, rs, -1, rs.length - 1, rfl, rfl, hD3, last_ix pos, ?_⟩
        have kd := (Kd.of_same sp3).trans (Kd.upd (ys := rs.set (rs.length - 1) (.ref p)) hD3)
        have nDp : p ≠ D := fun z => by rw [z, sp2 _ _ hD] at np; cases np
        have hp' : (upd (upd H2 p (.tup [xt, .ref rp])) D (.lst (rs.set (rs.length - 1) (.ref p)))) p = some (.tup [xt, .ref rp]) := by
          rw [upd_ne nDp]
          exact upd_same
        have hrp' : (upd (upd H2 p (.tup [xt, .ref rp])) D (.lst (rs.set (rs.length - 1) (.ref p)))) rp = some (.tup [.int (plusF fr' fr).1, .int (plusF fr' fr).2]) := by
          rw [upd_ne (fun z => by rw [z, sp2 _ _ hD] at hrp; cases hrp)]
          exact same_upd np _ _ hrp
        refine ⟨same_wr nD (sH.trans sp3), (upd_ne nDS.symm).trans (sp3 _ _ hS), hTS.mono kd, _, tr0 ++ [(tm, plusF fr' fr)], _, _, rfl, upd_same, ?_, ?_, fun t m => ?_, ?_⟩
        · have := TrsAt.set (i := rs.length - 1) (at_pair (b := frT (plusF fr' fr)) hp' (hxt.mono kd) (at_ints hrp')) (hR.mono kd)
          rw [rl', List.map_append, List.map_cons, List.map_nil, List.set_append_right _ _ (by rw [List.length_map]; exact Nat.le_refl _), List.length_map, Nat.sub_self] at this
          rw [rl', List.map_append]
          exact this
        · rw [etk]
          subst em
          exact hRun.add gu.sh
        · rcases List.mem_append.mp m with m | m
          · exact (hRt t (List.mem_append_left _ m)).mono (Nat.mul_le_mul_right _ (up _))
          · rw [List.mem_singleton.mp m]
            subst em
            exact ⟨gu.ty, gu.dep, by show Gf (cnt tm' (qs.take (i + 1)) * (e + 1)) _; rw [ei]; exact gl.gf.plus gu.gf, sh_plus gl.sh gu.sh⟩
        · rw [List.length_append, List.length_singleton] at hRl ⊢
          omega
      | false =>
        have lt1 : ltT tm' tm = true := by
          obtain ⟨d, md, ed⟩ := hRun.key (tm', fr') (List.mem_append_right _ List.mem_cons_self)
          have := ord i _ eq d md
          rw [ed] at this
          exact lt_of this (by rw [e1, e2]; unfold eqT; exact q)
        refine iteF ?_
        refine ⟨_, rfl, .inl ⟨rfl, _, SqL.of hD⟩, _, rfl, _, rfl, by show 2 ≤ sizeLine; decide, fun p np => ?_⟩
        refine ⟨D, rs, _, rfl, rfl, same_upd np _ _ hD, by omega, ?_⟩
        refine app (fun p m => ?_) p np
        rcases List.mem_append.mp m with m | m
        · exact lt_trans' ((List.pairwise_append.mp hRun.asc).2.2 p m (tm', fr') List.mem_cons_self) lt1
        · rw [List.mem_singleton.mp m]
          exact lt1
  · rintro σ H' ⟨sH, hS, hTS, rs, trs, v2, v3, rfl, hD, hR, hRun, hRt, hRl⟩
    have rl := hR.len
    rw [List.length_map] at rl
    rw [wl] at hRt
    rw [wl, ul] at hRl
    rw [wl, List.take_length] at hRun
    rw [List.take_length] at hRt
    dsimp only
    refine tret_cb ?_
    refine tcompT_of rfl ?_
    refine ⟨_, rfl, D, rfl, ⟨rs, SqL.of hD⟩, fun D2 nD2 => ?_⟩
    have nDD : D ≠ D2 := ne_of_none hD nD2
    refine comp_listT (xs := rs) (fun i acc H'' => Same H' H'' ∧ H'' D2 = some (.lst acc) ∧ TrsAt H'' acc (((trs.take i).filter fun p => decide (p.2 ≠ zero)).map prT)) ⟨same_upd nD2, upd_same, by rw [List.take_zero]; exact .nil⟩ (fun i acc H'' p => SqL.of (p.1 _ _ hD)) ?_ ?_
    · rintro i x acc H'' hi ex ⟨sH2, hD2, hA⟩
      obtain ⟨t, et, ht⟩ := (hR.mono (Kd.of_same sH2)).get' ex
      rw [List.getElem?_map] at et
      obtain ⟨⟨tm, fr⟩, eq, rfl⟩ := Option.map_eq_some_iff.mp et
      obtain ⟨r, xt, xf, rfl, hr', hxt, hxf⟩ := pair_at ht
      obtain ⟨rf, rfl, hrf⟩ := at_fr hxf
      have al := hA.len
      rw [List.length_map] at al
      have al2 := List.length_filter_le (fun p : Pq => decide (p.2 ≠ zero)) (trs.take i)
      rw [List.length_take] at al2
      refine ⟨_, rfl, r, _, 1, .ref rf, rfl, rfl, SqT.of hr', rfl, rf, Z, fr.1, fr.2, 0, 1, rfl, rfl, SqT.of hrf, hZ _, _, rfl, ?_⟩
      rw [fr_zero]
      have ef : (trs.take (i + 1)).filter (fun p => decide (p.2 ≠ zero)) = (trs.take i).filter (fun p => decide (p.2 ≠ zero)) ++ (if decide (fr ≠ zero) = true then [(tm, fr)] else []) := by
        rw [take_get eq, List.filter_append, List.filter_cons]
        rfl
      refine ite2 (fun y => ?_) (fun y => CompS.mk hi ⟨sH2, hD2, ?_⟩)
      · have kd := Kd.upd (ys := acc ++ [.ref r]) hD2
        refine ⟨_, rfl, CompN.mk hi (by omega) hD2 ⟨same_wr nD2 sH2, upd_same, ?_⟩⟩
        rw [ef, if_pos y, List.map_append]
        exact TrsAt.app (.cons (ht.mono kd) .nil) (hA.mono kd)
      · rw [ef, if_neg y, List.append_nil]
        exact hA
    · rintro acc H'' ⟨sH2, hD2, hA⟩
      rw [rl, List.take_length] at hA
      refine ⟨D2, acc, rfl, .inl ⟨SqL.of hD2, fun p np => ?_⟩⟩
      have sp := same_upd (o := .tup acc) np
      refine k (.ref p) _ _ (sH.trans (sH2.trans sp)) (at_tup upd_same (hA.mono (Kd.of_same sp))) (hRun.fin.to fun t => tot_perm pq) ?_ fun u m => ?_
      · exact Nat.le_trans (List.length_filter_le _ _) hRl
      · exact (hRt u (List.mem_filter.mp m).1).mono (Nat.mul_le_mul_right _ (by rw [cnt_perm pq]; exact hc _))
end
end K38
set_option Elab.async false
set_option linter.all false
set_option maxRecDepth 100000
set_option maxHeartbeats 1000000
namespace K38
open PySem L2 Mth Tre Wd Su
section
variable {P : Program} {w : World} {K : PySem.W.Frag} {mg : Str → Option Value} {base : Heap}
def spSign (K : PySem.W.Frag) : Sp := fun vs H Q _ => ∃ (p : Addr) (a b : Int), vs = [.ref p] ∧ SqT K H p [.int a, .int b] ∧ Q (.int (if a < 0 then -1 else if 0 < a then 1 else 0)) H
theorem scSi : FnScope ["one"] ["one"] (defScope sSign) := ⟨rfl, rfl, rfl, by decide +kernel, rfl, by decide +kernel, by decide +kernel⟩
theorem ok_sign {f : Addr} {fd : FuncData} (F : Fun K "sign_of" "sign_of" sSign f fd) : FnOk P w K mg base CX0 1 f fd ["one"] (spSign K) := by
  refine F.ok scSi (fun vs H Q E h => ?_) (fun cdv A outer s H vs Q E hr h => ?_)
  · obtain ⟨p, a, b, rfl, _⟩ := h
    rfl
  obtain ⟨p, a, b, rfl, hp, k⟩ := h
  refine ⟨_, pss_cons (ps_if (pt_cmpR op_lt (pe_ix ix_tup (pv 0) pe_int fun _ _ => rfl) pe_int (nomark _)) (pss_one (ps_ret (pe_un un_neg pe_int))) pss_nil)
    (pss_one (ps_ret (pe_ifExp (pt_cmpR op_gt (pe_ix ix_tup (pv 0) pe_int fun _ _ => rfl) pe_int (nomark _)) pe_int pe_int))), ?_⟩
  refine ⟨_, rfl, p, _, 0, .int a, rfl, rfl, hp, rfl, a, 0, rfl, rfl, _, rfl, ?_⟩
  by_cases z : a < 0
  · rw [if_pos z] at k
    rw [decide_eq_true z]
    exact iteT ⟨1, rfl, k⟩
  · rw [if_neg z] at k
    rw [decide_eq_false z]
    refine iteF ?_
    refine ⟨_, rfl, p, _, 0, .int a, rfl, rfl, hp, rfl, a, 0, rfl, rfl, _, rfl, ?_⟩
    by_cases y : 0 < a
    · rw [if_pos y] at k
      rw [decide_eq_true y]
      exact iteT k
    · rw [if_neg y] at k
      rw [decide_eq_false y]
      exact iteF k
def spLow : Sp := fun vs H Q _ => ∃ (t b : Int), vs = [.int t, .int b] ∧ 0 < b ∧ Big (Int.gcd t b : Int) ∧ ∀ (r : Addr) (H' : Hp), H r = none → H' = upd H r (.tup [.int (low t b).1, .int (low t b).2]) → Q (.ref r) H'
theorem scLo : FnScope ["_law_top", "_law_bottom", "_law_one", "_law_other"] ["_law_top", "_law_bottom"] (defScope sLeast) := ⟨rfl, rfl, rfl, by decide +kernel, rfl, by decide +kernel, by decide +kernel⟩
theorem ok_low {f : Addr} {fd : FuncData} (F : Fun K "_law_least" "_law_least" sLeast f fd) (B : Blt mg) : FnOk P w K mg base CX0 1 f fd ["_law_top", "_law_bottom"] spLow := by
  refine F.ok scLo (fun vs H Q E h => ?_) (fun cdv A outer s H vs Q E hr h => ?_)
  · obtain ⟨t, b, rfl, _⟩ := h
    rfl
  · obtain ⟨t, b, rfl, b0, bg, k⟩ := h
    refine ⟨_, pss_cons (ps_set (i := 2) scLo.nd rfl (Or.inl rfl) (pe_callB call_abs rfl B.ab boot_abs (pa_cons (pv 0) pa_nil)))
      (pss_cons (ps_set (i := 3) scLo.nd rfl (Or.inl rfl) (pv 1))
      (pss_cons (ps_while PassesOwn.never (pt_cmpR op_gt (pv 3) pe_int (nomark _))
        (pss_one (ps_par (i := 2) (j := 3) rfl scLo.nd rfl rfl (by decide) rfl rfl (pa_cons (pv 3) (pa_cons (pe_op op_mod (pv 2) (pv 3)) pa_nil)) rfl)))
      (pss_one (ps_ret (pe_tup (pa_cons (pe_op op_fdivB (pv 0) (pv 2)) (pa_cons (pe_op op_fdivB (pv 1) (pv 2)) pa_nil))))))), ?_⟩
    refine ⟨_, rfl, t, rfl, _, rfl, ?_⟩
    have ea : (if t < 0 then -t else t) = (t.natAbs : Int) := by split <;> omega
    rw [ea]
    have g0 : 0 < Int.gcd t b := Int.gcd_pos_of_ne_zero_right t (by omega)
    refine while_by (fun σ H' => H' = H ∧ ∃ (x y : Nat), σ = [some (.int t), some (.int b), some (.int x), some (.int y)] ∧ Nat.gcd x y = Int.gcd t b) (fun σ _ => match σ with | [_, _, _, some (.int y)] => y.natAbs | _ => 0)
      ⟨rfl, t.natAbs, b.natAbs, by rw [show ((b.natAbs : Nat) : Int) = b by omega]; rfl, rfl⟩ ?_ ?_
    · rintro σ H' ⟨rfl, x, y, rfl, e⟩
      refine ⟨_, rfl, _, 0, rfl, rfl, _, rfl, ?_⟩
      by_cases z : (0 : Int) < (y : Int)
      · rw [decide_eq_true z]
        refine iteT ?_
        refine ⟨_, rfl, _, rfl, _, rfl, x, y, rfl, rfl, z, _, _, rfl, ?_⟩
        have hm : ((x : Int) % (y : Int)) = ((x % y : Nat) : Int) := by simp
        refine ⟨⟨rfl, y, x % y, ?_, ?_⟩, ?_⟩
        · show [some (V.int t), some (V.int b), some (V.int (y : Int)), some (V.int ((x : Int) % (y : Int)))] = _
          rw [hm]
        · rw [← e, Nat.gcd_comm x y, Nat.gcd_rec y x, Nat.gcd_comm]
        · show ((x : Int) % (y : Int)).natAbs < (y : Int).natAbs
          rw [hm]
          have := Nat.mod_lt x (show 0 < y by omega)
          omega
      · rw [decide_eq_false z]
        refine iteF ?_
        have y0 : y = 0 := by omega
        subst y0
        rw [Nat.gcd_zero_right] at e
        subst e
        refine ⟨_, rfl, _, rfl, t, _, rfl, rfl, ⟨by omega, bg⟩, _, rfl, _, rfl, b, _, rfl, rfl, ⟨by omega, bg⟩, by show 2 ≤ sizeLine; decide, fun r hr' => ?_⟩
        exact k r _ hr' rfl
    · intro σ H' R R' hR h
      obtain ⟨v, e1, i, j, e2, e3, q, e4, h⟩ := h
      exact ⟨v, e1, i, j, e2, e3, q, e4, hR _ _ h⟩
def spLPlus : Sp := fun vs H Q _ => ∃ (v u : V) (p q : Fr) (m n : Nat), vs = [v, u] ∧ TrAt H v (frT p) ∧ TrAt H u (frT q) ∧ Gf m p ∧ Gf n q ∧ m + n + 1 ≤ 8000 ∧
  ∀ (x : V) (H' : Hp) (r : Fr), Same H H' → TrAt H' x (frT r) → Sh r → rv r = rv p + rv q → Gf (m + n + 1) r → Q x H'
def spLTimes : Sp := fun vs H Q _ => ∃ (v u : V) (p q : Fr) (m n : Nat), vs = [v, u] ∧ TrAt H v (frT p) ∧ TrAt H u (frT q) ∧ Gf m p ∧ Gf n q ∧ m + n ≤ 8000 ∧
  ∀ (x : V) (H' : Hp) (r : Fr), Same H H' → TrAt H' x (frT r) → Sh r → rv r = rv p * rv q → Gf (m + n) r → Q x H'
theorem scLP : FnScope ["_law_one", "_law_other"] ["_law_one", "_law_other"] (defScope sLPlus) := ⟨rfl, rfl, rfl, by decide +kernel, rfl, by decide +kernel, by decide +kernel⟩
theorem scLT : FnScope ["_law_one", "_law_other"] ["_law_one", "_law_other"] (defScope sLTimes) := ⟨rfl, rfl, rfl, by decide +kernel, rfl, by decide +kernel, by decide +kernel⟩
theorem ok_lplus {f fL : Addr} {fd dL : FuncData} (F : Fun K "_law_plus" "_law_plus" sLPlus f fd)
    (gL : FnOk P w K mg base CX0 1 fL dL ["_law_top", "_law_bottom"] spLow) (kL : PySem.W.keepIn K (.ref fL) = true) (bL : Binds K dL ["_law_top", "_law_bottom"] []) (mL : mg "_law_least" = some (.ref fL)) : FnOk P w K mg base CX0 2 f fd ["_law_one", "_law_other"] spLPlus := by
  refine F.ok scLP (fun vs H Q E h => ?_) (fun cdv A outer s H vs Q E hr h => ?_)
  · obtain ⟨v, u, p, q, m, n, rfl, _⟩ := h
    rfl
  obtain ⟨v, u, p, q, m, n, rfl, hv, hu, gp, gq, h8, k⟩ := h
  obtain ⟨a, rfl, ha⟩ := at_fr hv
  obtain ⟨b, rfl, hb⟩ := at_fr hu
  refine ⟨_, pss_one (ps_ret (pe_call gL hr rfl mL kL bL .nil pass0 (pa_cons (pe_op op_add (pe_op op_mulB (pe_ix ix_tup (pv 0) pe_int fun _ _ => rfl) (pe_ix ix_tup (pv 1) pe_int fun _ _ => rfl)) (pe_op op_mulB (pe_ix ix_tup (pv 1) pe_int fun _ _ => rfl) (pe_ix ix_tup (pv 0) pe_int fun _ _ => rfl))) (pa_cons (pe_op op_mulB (pe_ix ix_tup (pv 0) pe_int fun _ _ => rfl) (pe_ix ix_tup (pv 1) pe_int fun _ _ => rfl)) pa_nil)))), ?_⟩
  have p1 : Big p.1 := gp.top.big (by omega)
  have p2 : Big p.2 := gp.bot.big (by omega)
  have q1 : Big q.1 := gq.top.big (by omega)
  have q2 : Big q.2 := gq.bot.big (by omega)
  refine ⟨_, rfl, a, _, 0, .int p.1, rfl, rfl, SqT.of ha, rfl, _, rfl, b, _, 1, .int q.2, rfl, rfl, SqT.of hb, rfl, _, _, rfl, rfl, ⟨p1, q2⟩, _, rfl, b, _, 0, .int q.1, rfl, rfl, SqT.of hb, rfl, _, rfl, a, _, 1, .int p.2, rfl, rfl, SqT.of ha, rfl, _, _, rfl, rfl, ⟨q1, p2⟩, _, _, rfl, rfl, _, rfl, a, _, 1, .int p.2, rfl, rfl, SqT.of ha, rfl, _, rfl, b, _, 1, .int q.2, rfl, rfl, SqT.of hb, rfl, _, _, rfl, rfl, ⟨p2, q2⟩, ?_⟩
  have y0 : 0 < p.2 * q.2 := Int.mul_pos gp.pos gq.pos
  have lx : Lt2 (m + n + 1) (p.1 * q.2 + q.1 * p.2) := by
    refine Lt2.add (gp.top.mul gq.bot) ?_
    rw [Nat.add_comm]
    exact gq.top.mul gp.bot
  have ly : Lt2 (m + n + 1) (p.2 * q.2) := (gp.bot.mul gq.bot).mono (by omega)
  refine ⟨_, _, rfl, y0, big_gcd (ly.big h8) (by omega), fun r H1 nr e1 => ?_⟩
  subst e1
  refine k (.ref r) _ _ (same_upd nr) (at_ints upd_same) (sh_low y0) ?_ (gf_low y0 lx ly)
  rw [rv_low y0]
  have n1 := ne0 gp.pos
  have n2 := ne0 gq.pos
  unfold rv
  simp only [Rat.intCast_mul, Rat.intCast_add]
  grind
theorem ok_ltimes {f fL : Addr} {fd dL : FuncData} (F : Fun K "_law_times" "_law_times" sLTimes f fd)
    (gL : FnOk P w K mg base CX0 1 fL dL ["_law_top", "_law_bottom"] spLow) (kL : PySem.W.keepIn K (.ref fL) = true) (bL : Binds K dL ["_law_top", "_law_bottom"] []) (mL : mg "_law_least" = some (.ref fL)) : FnOk P w K mg base CX0 2 f fd ["_law_one", "_law_other"] spLTimes := by
  refine F.ok scLT (fun vs H Q E h => ?_) (fun cdv A outer s H vs Q E hr h => ?_)
  · obtain ⟨v, u, p, q, m, n, rfl, _⟩ := h
    rfl
  obtain ⟨v, u, p, q, m, n, rfl, hv, hu, gp, gq, h8, k⟩ := h
  obtain ⟨a, rfl, ha⟩ := at_fr hv
  obtain ⟨b, rfl, hb⟩ := at_fr hu
  refine ⟨_, pss_one (ps_ret (pe_call gL hr rfl mL kL bL .nil pass0 (pa_cons (pe_op op_mulB (pe_ix ix_tup (pv 0) pe_int fun _ _ => rfl) (pe_ix ix_tup (pv 1) pe_int fun _ _ => rfl)) (pa_cons (pe_op op_mulB (pe_ix ix_tup (pv 0) pe_int fun _ _ => rfl) (pe_ix ix_tup (pv 1) pe_int fun _ _ => rfl)) pa_nil)))), ?_⟩
  have p1 : Big p.1 := gp.top.big (by omega)
  have p2 : Big p.2 := gp.bot.big (by omega)
  have q1 : Big q.1 := gq.top.big (by omega)
  have q2 : Big q.2 := gq.bot.big (by omega)
  refine ⟨_, rfl, a, _, 0, .int p.1, rfl, rfl, SqT.of ha, rfl, _, rfl, b, _, 0, .int q.1, rfl, rfl, SqT.of hb, rfl, _, _, rfl, rfl, ⟨p1, q1⟩, _, rfl, a, _, 1, .int p.2, rfl, rfl, SqT.of ha, rfl, _, rfl, b, _, 1, .int q.2, rfl, rfl, SqT.of hb, rfl, _, _, rfl, rfl, ⟨p2, q2⟩, ?_⟩
  have y0 : 0 < p.2 * q.2 := Int.mul_pos gp.pos gq.pos
  have lx := gp.top.mul gq.top
  have ly := gp.bot.mul gq.bot
  refine ⟨_, _, rfl, y0, big_gcd (ly.big h8) (by omega), fun r H1 nr e1 => ?_⟩
  subst e1
  refine k (.ref r) _ _ (same_upd nr) (at_ints upd_same) (sh_low y0) ?_ (gf_low y0 lx ly)
  rw [rv_low y0]
  have n1 := ne0 gp.pos
  have n2 := ne0 gq.pos
  unfold rv
  simp only [Rat.intCast_mul]
  grind
end
end K38
set_option Elab.async false
set_option linter.all false
set_option maxRecDepth 100000
set_option maxHeartbeats 2000000
namespace K38
open PySem L2 Mth Tre Wd Su
theorem Same.tup {K : PySem.W.Frag} {H H' : Hp} {a : Addr} {xs : List V} (e : Same H H') (h : SqT K H a xs) : SqT K H' a xs := by
  rcases h with (h | ⟨o, h⟩) | h
  · exact .inl (.inl (e _ _ h))
  · exact .inl (.inr ⟨o, e _ _ h⟩)
  · exact .inr h
theorem Gf.one {e : Nat} (h : 1 ≤ e) : Gf e zero := ⟨by decide, Nat.lt_of_lt_of_le (show (0 : Nat) < 2 ^ 1 by decide) (Nat.pow_le_pow_right (by decide) h), Nat.lt_of_lt_of_le (show (1 : Nat) < 2 ^ 1 by decide) (Nat.pow_le_pow_right (by decide) h)⟩
theorem bd_at {H : Hp} {v : V} {b : Bd} (h : TrAt H v (bdT b)) : ∃ p x r, v = .ref p ∧ H p = some (.tup [x, .ref r, .bl b.st]) ∧ TrAt H x (.tup (b.us.map prT)) ∧ H r = some (.tup [.int b.m.1, .int b.m.2]) := by
  unfold bdT TrAt at h
  obtain ⟨p, vs, rfl, hp, h⟩ := h
  obtain ⟨x, r1, rfl, h1, h⟩ := h.inv
  obtain ⟨y, r2, rfl, h2, h⟩ := h.inv
  obtain ⟨z, r3, rfl, h3, h⟩ := h.inv
  unfold TrsAt at h
  unfold TrAt at h3
  subst h h3
  obtain ⟨r, rfl, hr⟩ := at_fr h2
  exact ⟨p, x, r, rfl, hp, h1, hr⟩
theorem wt_at {H : Hp} {v : V} {k : Wt} (h : TrAt H v (wtT k)) : ∃ p r, v = .ref p ∧ H p = some (.tup [.int (k.1 : Int), .ref r]) ∧ H r = some (.tup [.int k.2.1, .int k.2.2]) := by
  unfold wtT at h
  obtain ⟨p, x, y, rfl, hp, h1, h2⟩ := pair_at h
  obtain ⟨r, rfl, hr⟩ := at_fr h2
  unfold TrAt at h1
  subst h1
  exact ⟨p, r, rfl, hp, hr⟩
theorem get_bd {H : Hp} {bvs : List V} {bs : List Bd} (h : TrsAt H bvs (bs.map bdT)) {i : Nat} (hi : i < bs.length) : ∃ p x r, atI bvs (i : Int) = some (.ref p) ∧ H p = some (.tup [x, .ref r, .bl (bdAt bs i).st]) ∧ TrAt H x (.tup ((bdAt bs i).us.map prT)) ∧ H r = some (.tup [.int (bdAt bs i).m.1, .int (bdAt bs i).m.2]) := by
  obtain ⟨v, ev, hv⟩ := h.get (i := i) (t := bdT (bdAt bs i)) (by rw [List.getElem?_map, bdAt_get hi]; rfl)
  obtain ⟨p, x, r, rfl, h1, h2, h3⟩ := bd_at hv
  exact ⟨p, x, r, atI_nat ev, h1, h2, h3⟩
section
variable {P : Program} {w : World} {K : PySem.W.Frag} {mg : Str → Option Value} {base : Heap}
structure Ad (H : Hp) (lb lw : Addr) (bvs wvs : List V) (T : List Tr) (bs : List Bd) (ks : List Wt) (e m : Nat) : Prop where
  hb : H lb = some (.lst bvs)
  tb : TrsAt H bvs (bs.map bdT)
  hw : H lw = some (.lst wvs)
  tw : TrsAt H wvs (ks.map wtT)
  gb : ∀ b ∈ bs, Gb T e b
  tl : T.length ≤ 5
  kl : ks.length ≤ 8
  kb : ∀ k ∈ ks, k.1 < bs.length
  kg : ∀ k ∈ ks, Sh k.2 ∧ Gf m k.2
  h8 : 1 + 8 * (e + m + 1) ≤ 8000
theorem Ad.same {H H' : Hp} {lb lw : Addr} {bvs wvs : List V} {T : List Tr} {bs : List Bd} {ks : List Wt} {e m : Nat} (s : Same H H') (h : Ad H lb lw bvs wvs T bs ks e m) : Ad H' lb lw bvs wvs T bs ks e m :=
  ⟨s _ _ h.hb, h.tb.mono (Kd.of_same s), s _ _ h.hw, h.tw.mono (Kd.of_same s), h.gb, h.tl, h.kl, h.kb, h.kg, h.h8⟩
def spAdded (K : PySem.W.Frag) : Sp := fun vs H Q _ => ∃ (lb lw : Addr) (bvs wvs : List V) (T : List Tr) (bs : List Bd) (ks : List Wt) (e m : Nat), vs = [.ref lb, .ref lw] ∧ Ad H lb lw bvs wvs T bs ks e m ∧
  ∀ (p r : Addr) (x0 : V) (us : List Pq) (tt : Fr) (H' : Hp), Same H H' → H' p = some (.tup [x0, .ref r]) → TrAt H' x0 (.tup (us.map prT)) → SqT K H' r [.int tt.1, .int tt.2] → Can (flatP bs ks) us → (∀ u ∈ us, Gq (8 * (e + m + 1)) u) → Sh tt → rv tt = totR bs ks → Q (.ref p) H'
theorem scAd : FnScope ["bounds", "weights", "pairs", "total", "place", "weight"] ["bounds", "weights"] (defScope sAdded) := ⟨rfl, rfl, rfl, by decide +kernel, rfl, by decide +kernel, by decide +kernel⟩
theorem ok_added {f fS fT fP Z : Addr} {fd dS dT dP : FuncData} (F : Fun K "added" "added" sAdded f fd)
    (gS : FnOk P w K mg base CX0 3 fS dS ["pairs"] spSum) (kS : PySem.W.keepIn K (.ref fS) = true) (bS : Binds K dS ["pairs"] []) (mS : mg "sum_of" = some (.ref fS))
    (gT : FnOk P w K mg base CX0 2 fT dT ["one", "other"] (spTimes K)) (kT : PySem.W.keepIn K (.ref fT) = true) (bT : Binds K dT ["one", "other"] []) (mT : mg "times" = some (.ref fT))
    (gP : FnOk P w K mg base CX0 2 fP dP ["one", "other"] (spPlus K)) (kP : PySem.W.keepIn K (.ref fP) = true) (bP : Binds K dP ["one", "other"] []) (mP : mg "plus" = some (.ref fP))
    (mZ : mg "ZERO" = some (.ref Z)) (hZ : ∀ H : Hp, SqT K H Z [.int 0, .int 1]) : FnOk P w K mg base CX0 4 f fd ["bounds", "weights"] (spAdded K) := by
  refine F.ok scAd (fun vs H Q E h => ?_) (fun cdv A outer s H vs Q E hr h => ?_)
  · obtain ⟨lb, lw, bvs, wvs, T, bs, ks, e, m, rfl, _⟩ := h
    rfl
  obtain ⟨lb, lw, bvs, wvs, T, bs, ks, e, m, rfl, ad, k⟩ := h
  have hr2 : Room 2 _ := hr.mono (by decide)
  refine ⟨_, pss_cons (ps_set (i := 2) scAd.nd rfl (Or.inl rfl) (pe_lst pa_nil))
    (pss_cons (ps_set (i := 3) scAd.nd rfl (Or.inl rfl) (pe_glob (v := .ref Z) rfl mZ rfl))
    (pss_cons (ps_for PassesOwn.never rfl (pi_list (pv 1)) (pg_tup rfl (pgs_cons (pg_name (i := 4) scAd.nd rfl (Or.inl rfl)) (pgs_cons (pg_name (i := 5) scAd.nd rfl (Or.inr rfl)) pgs_nil)))
      (pss_cons (ps_expr (pe_bm PySem.F.plainAttrs_list PySem.F.slot_list_extend PySem.F.type_list_extend mt_extend (pv 2) (pa_cons
        (pe_comp (NC := ["term", "share", "weight"]) (mp := [none, none, some 5]) (g := gTup K 2 (gCons (gName 0) (gCons (gName 1) gNil))) rfl (pi_tup (pe_ix ix_tup (pe_ix ix_list (pv 0) (pv 4) fun _ _ => rfl) pe_int fun _ _ => rfl))
          (fun _ _ _ _ _ => pg_tup (n := 2) rfl (pgs_cons (pg_name (i := 0) (show (["term", "share", "weight"] : List Str).Nodup by decide +kernel) rfl (Or.inl rfl) (Or.inr rfl)) (pgs_cons (pg_name (i := 1) (show (["term", "share", "weight"] : List Str).Nodup by decide +kernel) rfl (Or.inl rfl) (Or.inr rfl)) pgs_nil))) (fun _ _ _ _ _ => pts_nil)
          (fun _ _ _ _ _ => pe_tup (pa_cons (pv 0) (pa_cons (pe_call gT hr2 rfl mT kT bT .nil pass0 (pa_cons (pv 1) (pa_cons (pv 2) pa_nil))) pa_nil)))) pa_nil)))
      (pss_one (ps_set (i := 3) scAd.nd rfl (Or.inl rfl) (pe_call gP hr2 rfl mP kP bP .nil pass0 (pa_cons (pv 3) (pa_cons (pe_call gT hr2 rfl mT kT bT .nil pass0 (pa_cons (pe_ix ix_tup (pe_ix ix_list (pv 0) (pv 4) fun _ _ => rfl) pe_int fun _ _ => rfl) (pa_cons (pv 5) pa_nil))) pa_nil))))))
    ) (pss_one (ps_ret (pe_tup (pa_cons (pe_call gS (hr.mono (by decide)) rfl mS kS bS .nil pass0 (pa_cons (pv 2) pa_nil)) (pa_cons (pv 3) pa_nil))))))), ?_⟩
  have hL20 : (20000 : Nat) ≤ sizeLine := by decide +kernel
  have h8 := ad.h8
  have kl := ad.kl
  have wl := ad.tw.len
  rw [List.length_map] at wl
  refine ⟨by show 0 ≤ sizeLine; decide, fun D nD => ?_⟩
  have s1 : Same H (upd H D (.lst [])) := same_upd nD
  refine ⟨_, rfl, lw, rfl, ⟨_, SqL.of (s1 _ _ ad.hw)⟩, ?_⟩
  refine for_list (xs := wvs) (fun i σ H' => Same H H' ∧ ∃ (acc : List V) (r : Addr) (tt : Fr) (v4 v5 : Option V), σ = [some (.ref lb), some (.ref lw), some (.ref D), some (.ref r), v4, v5] ∧ H' D = some (.lst acc) ∧ TrsAt H' acc ((flatP bs (ks.take i)).map prT) ∧ SqT K H' r [.int tt.1, .int tt.2] ∧ Sh tt ∧ rv tt = totR bs (ks.take i) ∧ Gf (1 + i * (e + m + 1)) tt)
    ⟨s1, [], Z, zero, none, none, rfl, upd_same, by rw [List.take_zero]; exact .nil, hZ _, sh_zero, by rw [List.take_zero, rv_zero]; rfl, Gf.one (by omega)⟩ (fun i σ H' _ p => SqL.of (p.1 _ _ ad.hw)) ?_ ?_
  · rintro i x σ H1 ex ⟨sH, acc, r, tt, v4, v5, rfl, hD, hA, hr', shT, eT, gT'⟩
    have ad1 := ad.same sH
    obtain ⟨t, et, ht⟩ := ad1.tw.get' ex
    rw [List.getElem?_map] at et
    obtain ⟨kk, ek, rfl⟩ := Option.map_eq_some_iff.mp et
    have mk := List.mem_of_getElem? ek
    have ilt : i < ks.length := (List.getElem?_eq_some_iff.mp ek).1
    obtain ⟨pw, rw', rfl, hpw, hrw⟩ := wt_at ht
    obtain ⟨shK, gK⟩ := ad.kg kk mk
    obtain ⟨pb, xu, rm, eb, hpb, hxu, hrm⟩ := get_bd ad1.tb (ad.kb kk mk)
    have gB := ad.gb _ (bdAt_mem (ad.kb kk mk))
    obtain ⟨au, xs, rfl, hau, hxs⟩ := at_t hxu
    have xl := hxs.len
    rw [List.length_map] at xl
    have etk := take_get ek
    have ul := asc_len gB.asc gB.mem
    have tl := ad.tl
    have al := hA.len
    rw [List.length_map] at al
    have fl := Su.flat_len ad.gb (ks := ks.take i) fun x m => ad.kb x (List.mem_of_mem_take m)
    rw [List.length_take] at fl
    have fl2 : (min i ks.length) * T.length ≤ 8 * 5 := Nat.mul_le_mul (by omega) tl
    refine ⟨pw, _, rfl, SqT.of hpw, rfl, _, _, rfl, _, _, rfl, rfl, ?_⟩
    refine ⟨_, rfl, .inl ⟨rfl, _, SqL.of hD⟩, ?_⟩
    refine tcons1 ?_
    refine comp_prs (K' := K) (xs := xs) (rest := [some (.ref rw')]) (a := au) rfl (fun Q q => ⟨_, rfl, _, rfl, lb, bvs, _, _, rfl, rfl, SqL.of ad1.hb, eb, pb, _, 0, _, rfl, rfl, SqT.of hpb, rfl, q⟩) (SqT.of hau) fun L nL => ?_
    refine ⟨fun j acc' H' => Same H1 H' ∧ H' L = some (.lst acc') ∧ TrsAt H' acc' ((((bdAt bs kk.1).us.take j).map (scale kk.2)).map prT), ⟨same_upd nL, upd_same, by rw [List.take_zero]; exact .nil⟩, fun j acc' H' p => SqT.of (p.1 _ _ hau), ?_, ?_⟩
    · rintro j z acc' H' hj ⟨s2, hL, hA2⟩ ez
      obtain ⟨t', et', ht'⟩ := (hxs.mono (Kd.of_same s2)).get' ez
      rw [List.getElem?_map] at et'
      obtain ⟨⟨tm, fr⟩, eq, rfl⟩ := Option.map_eq_some_iff.mp et'
      have g := gB.gq _ (List.mem_of_getElem? eq)
      obtain ⟨T', x, y, rfl, hT', hx, hy⟩ := pair_at ht'
      obtain ⟨rf, rfl, hrf⟩ := at_fr hy
      have al2 := hA2.len
      rw [List.length_map, List.length_map, List.length_take] at al2
      refine ⟨T', x, .ref rf, rfl, SqT.of hT', ?_⟩
      refine ⟨_, rfl, _, rfl, _, rfl, rf, rw', fr.1, fr.2, kk.2.1, kk.2.2, rfl, SqT.of hrf, SqT.of (s2 _ _ hrw), ⟨g.gf.pos, gK.pos, g.gf.top.big (by omega), g.gf.bot.big (by omega), gK.top.big (by omega), gK.bot.big (by omega)⟩, fun rm' H6 _ s6 hrm' => ?_⟩
      refine ⟨by show 2 ≤ sizeLine; decide, fun p np => ?_⟩
      have sp := same_upd (o := .tup [x, .ref rm']) np
      have s7 := s6.trans sp
      have hL7 := s7 _ _ hL
      have kd := (Kd.of_same s7).trans (Kd.upd (ys := acc' ++ [.ref p]) hL7)
      have nLp : p ≠ L := fun z => by rw [z, s6 _ _ hL] at np; cases np
      have nLr : rm' ≠ L := fun z => by rw [z, s6 _ _ hL] at hrm'; cases hrm'
      refine CompN.mk hj (by omega) hL7 ⟨same_wr nL (s2.trans s7), upd_same, ?_⟩
      rw [take_get eq, List.map_append, List.map_append]
      refine TrsAt.app (.cons ?_ .nil) (hA2.mono kd)
      exact at_pair (a := tm) (b := frT (timesF fr kk.2)) ((upd_ne nLp).trans upd_same) (hx.mono kd) (at_ints ((upd_ne nLr).trans (sp _ _ hrm')))
    · rintro acc' H2 ⟨s2, hL, hA2⟩
      rw [xl, List.take_length] at hA2
      have hD2 := s2 _ _ hD
      have al2 := hA2.len
      rw [List.length_map, List.length_map] at al2
      refine ⟨D, L, acc, acc', rfl, rfl, hD2, hL, by omega, ?_⟩
      have kd := Kd.upd (ys := acc ++ acc') hD2
      have hD3 : (upd H2 D (.lst (acc ++ acc'))) D = some (.lst (acc ++ acc')) := upd_same
      have sH3 : Same H (upd H2 D (.lst (acc ++ acc'))) := same_wr nD (sH.trans s2)
      have hA3 : TrsAt (upd H2 D (.lst (acc ++ acc'))) (acc ++ acc') ((flatP bs (ks.take (i + 1))).map prT) := by
        rw [etk, flatP_app, flatP_one, List.map_append]
        exact TrsAt.app (hA2.mono kd) ((hA.mono (Kd.of_same s2)).mono kd)
      have nDr : ∀ {q : Addr} {vs : List V}, H1 q = some (.tup vs) → (upd H2 D (.lst (acc ++ acc'))) q = some (.tup vs) := fun {q vs} e => by
        rw [upd_ne (fun z => by rw [z, hD] at e; cases e)]
        exact s2 _ _ e
      have hr3 : SqT K (upd H2 D (.lst (acc ++ acc'))) r [.int tt.1, .int tt.2] := by
        rcases hr' with q | q
        · rcases q with q | ⟨o, q⟩
          · exact .inl (.inl (nDr q))
          · refine .inl (.inr ⟨o, ?_⟩)
            rw [upd_ne (fun z => by rw [z, hD] at q; cases q)]
            exact s2 _ _ q
        · exact .inr q
      have hrw3 := nDr hrw
      have hpb3 := nDr hpb
      have hrm3 := nDr hrm
      have hb3 : (upd H2 D (.lst (acc ++ acc'))) lb = some (.lst bvs) := sH3 _ _ ad.hb
      generalize upd H2 D (.lst (acc ++ acc')) = H3 at hD3 sH3 hA3 hr3 hrw3 hpb3 hrm3 hb3 ⊢
      refine tnx_of ?_
      try dsimp only
      have bt : 1 + i * (e + m + 1) ≤ 8000 := by
        have : i * (e + m + 1) ≤ 8 * (e + m + 1) := Nat.mul_le_mul_right _ (by omega)
        omega
      have gmK := gB.gf.times gK
      refine ⟨_, rfl, _, rfl, _, rfl, lb, bvs, _, _, rfl, rfl, SqL.of hb3, eb, pb, _, 1, _, rfl, rfl, SqT.of hpb3, rfl, _, rfl, rm, rw', _, _, _, _, rfl, SqT.of hrm3, SqT.of hrw3, ⟨gB.gf.pos, gK.pos, gB.gf.top.big (by omega), gB.gf.bot.big (by omega), gK.top.big (by omega), gK.bot.big (by omega)⟩, fun q4 H4 n4 s4 h4 => ?_⟩
      refine ⟨r, q4, tt.1, tt.2, _, _, rfl, Same.tup s4 hr3, SqT.of h4, ⟨gT'.pos, gmK.pos, gT'.top.big bt, gT'.bot.big bt, gmK.top.big (by omega), gmK.bot.big (by omega)⟩, fun q5 H5 n5 s5 h5 => ?_⟩
      refine ⟨sH3.trans (s4.trans s5), acc ++ acc', q5, plusF tt (timesF (bdAt bs kk.1).m kk.2), _, _, rfl, s5 _ _ (s4 _ _ hD3), hA3.mono (Kd.of_same (s4.trans s5)), SqT.of h5, sh_plus shT (sh_times gB.sh shK), ?_, ?_⟩
      · rw [rv_plus shT (sh_times gB.sh shK), rv_times gB.sh shK, eT, etk, totR_app, totR_one]
      · have ee : 1 + (i + 1) * (e + m + 1) = 1 + i * (e + m + 1) + (e + m) + 1 := by rw [Nat.succ_mul]; omega
        rw [ee]
        exact gT'.plus gmK
  · rintro σ H1 ⟨sH, acc, r, tt, v4, v5, rfl, hD, hA, hr', shT, eT, gT'⟩
    rw [wl, List.take_length] at hA eT
    have fl := Su.flat_len ad.gb ad.kb
    have fl2 : ks.length * T.length ≤ 8 * 5 := Nat.mul_le_mul ad.kl ad.tl
    have cn : ∀ t, cnt t (flatP bs ks) ≤ 8 := fun t => Nat.le_trans (flat_cnt ad.gb t ad.kb) ad.kl
    refine ⟨_, rfl, D, acc, flatP bs ks, 8, e + m, rfl, hD, hA, by omega, cn, by omega, by omega, flat_gq ad.gb ad.kb ad.kg, fun x0 H2 us s2 hx0 hcan _ hg => ?_⟩
    refine ⟨_, rfl, by show 2 ≤ sizeLine; decide, fun p np => ?_⟩
    have sp := same_upd (o := .tup [x0, .ref r]) np
    exact k p r x0 us tt _ (sH.trans (s2.trans sp)) upd_same (hx0.mono (Kd.of_same sp)) (Same.tup (s2.trans sp) hr') hcan hg shT eT
end
end K38
set_option Elab.async false
set_option linter.all false
set_option maxRecDepth 100000
set_option maxHeartbeats 1000000
namespace Dj
open PySem PySem.Spec PySem.W PyProof.Rows L2 Tre
def RawD (h : Heap) (d : Addr) (es : Array DictEntry) (ep : Nat) : Prop := ∃ o, h.get? d = some o ∧ o.ExactDict ∧ o.data = .dict es ep
theorem RawD.kp {h h' : Heap} {d : Addr} {es : Array DictEntry} {ep : Nat} (x : RawD h d es ep) (e : ∀ o, h.get? d = some o → h'.get? d = some o) : RawD h' d es ep := by
  obtain ⟨o, h1, h2⟩ := x
  exact ⟨o, e o h1, h2⟩
theorem RawD.lt {h : Heap} {d : Addr} {es : Array DictEntry} {ep : Nat} (x : RawD h d es ep) : d < h.objs.size := by
  obtain ⟨o, h1, _⟩ := x
  exact Heap.lt_size h1
section
variable {prog : Program} {w : World} {A : Around} {E : Value → Shared → Prop} {s : Shared} {d it : Addr} {es : Array DictEntry} {ep : Nat}
theorem RawD.ty (x : RawD s.heap d es ep) : s.TypeIs (.ref d) "dict" := by
  obtain ⟨o, h1, h2, _⟩ := x
  exact ⟨o, h1, h2.1⟩
end
end Dj
set_option Elab.async false
set_option linter.all false
set_option maxRecDepth 100000
set_option maxHeartbeats 1000000
namespace Dj
open PySem PySem.Spec PySem.W PyProof.Rows L2 Tre Srt
section
variable {prog : Program} {w : World} {A : Around} {E : Value → Shared → Prop} {s : Shared} {T : String} {r d : Addr} {n : Nat} {P : Nat → Value → Prop} {OK : Heap → Prop}
end
section
variable {prog : Program} {w : World} {A : Around} {E : Value → Shared → Prop} {s : Shared} {lt : Nat → Nat → Bool} {κ : SortKind}
end
section
variable {X : Cx} {pins : List (Addr × Obj)} {σ : L2.St} {H : Hp} {s : Shared}
end
end Dj
set_option Elab.async false
set_option linter.all false
set_option maxRecDepth 100000
set_option maxHeartbeats 1000000
namespace Dj
open PySem PySem.Spec PyProof.Rows L2 Tre Wd Su
section
variable {X : Cx} {pos : Pos} {o i : Expr} {td ty : TE} {P : Program} {w : World} {K : PySem.W.Frag}
end
mutual
def ktT : Tr → Tk.KT
  | .int i => .lf (.inl i)
  | .str x => .lf (.inr x)
  | .tup ts => .tp (ktTs ts)
  | _ => .tp []
def ktTs : List Tr → List Tk.KT
  | [] => []
  | t :: ts => ktT t :: ktTs ts
end
def ktL : Tr → List Tk.KT
  | .tup ts => ktTs ts
  | _ => []
mutual
def Kp : Tr → Prop
  | .int _ => True
  | .str _ => True
  | .tup ts => Kps ts
  | _ => False
def Kps : List Tr → Prop
  | [] => True
  | t :: ts => Kp t ∧ Kps ts
end
theorem kps_all {ts : List Tr} (h : ∀ t ∈ ts, Kp t) : Kps ts := by
  induction ts with
  | nil => trivial
  | cons t ts ih => exact ⟨h t List.mem_cons_self, ih fun u m => h u (List.mem_cons_of_mem _ m)⟩
theorem tm_kp {t : Tr} (h : Ty .tm t) : Kp t := by
  generalize e : So.tm = k at h
  induction h with
  | nm x => simp only [Kp, Kps, and_self]
  | ap x ts _ _ ih => simp only [Kp, Kps, and_true, true_and]; exact kps_all fun t m => ih t m e
  | fr => cases e
  | pr => cases e
  | fl => cases e
  | mo => cases e
  | li => cases e
  | no => cases e
  | bo => cases e
  | ei => cases e
  | lt => cases e
mutual
theorem kt_inj : ∀ {t u : Tr}, Kp t → Kp u → ktT t = ktT u → t = u
  | .int i, .int j, _, _, e => by simp only [ktT, Tk.KT.lf.injEq, Sum.inl.injEq] at e; rw [e]
  | .int i, .str y, _, _, e => by simp [ktT] at e
  | .int i, .tup us, _, _, e => by simp [ktT] at e
  | .str x, .int j, _, _, e => by simp [ktT] at e
  | .str x, .str y, _, _, e => by simp only [ktT, Tk.KT.lf.injEq, Sum.inr.injEq] at e; rw [e]
  | .str x, .tup us, _, _, e => by simp [ktT] at e
  | .tup ts, .int j, _, _, e => by simp [ktT] at e
  | .tup ts, .str y, _, _, e => by simp [ktT] at e
  | .tup ts, .tup us, h1, h2, e => by
    simp only [ktT, Tk.KT.tp.injEq] at e
    rw [kts_inj h1 h2 e]
theorem kts_inj : ∀ {ts us : List Tr}, Kps ts → Kps us → ktTs ts = ktTs us → ts = us
  | [], [], _, _, _ => rfl
  | [], _ :: _, _, _, e => by simp [ktTs] at e
  | _ :: _, [], _, _, e => by simp [ktTs] at e
  | t :: ts, u :: us, h1, h2, e => by
    simp only [ktTs, List.cons.injEq] at e
    rw [kt_inj h1.1 h2.1 e.1, kts_inj h1.2 h2.2 e.2]
end
theorem ktL_inj {t u : Tr} (h1 : Ty .tm t) (h2 : Ty .tm u) (e : ktL t = ktL u) : t = u := by
  have k1 := tm_kp h1
  have k2 := tm_kp h2
  obtain ⟨ts, rfl⟩ := tm_tup h1
  obtain ⟨us, rfl⟩ := tm_tup h2
  rw [kts_inj k1 k2 e]
mutual
theorem kt_dep : ∀ {t : Tr}, Kp t → (ktT t).depth = t.depth
  | .int i, _ => by simp [ktT, Tk.KT.depth, Tr.depth]
  | .str x, _ => by simp [ktT, Tk.KT.depth, Tr.depth]
  | .tup ts, k => by
    simp only [ktT, Tk.KT.depth, Tr.depth]
    rw [kts_dep k]
theorem kts_dep : ∀ {ts : List Tr}, Kps ts → Tk.KTs.depth (ktTs ts) = Trs.depth ts
  | [], _ => by simp [ktTs, Tk.KTs.depth, Trs.depth]
  | t :: ts, k => by
    simp only [ktTs, Tk.KTs.depth, Trs.depth]
    rw [kt_dep k.1, kts_dep k.2]
end
section
variable {K : PySem.W.Frag} {H : Hp}
mutual
theorem kvt_of : ∀ {v : V} {t : Tr}, Kp t → TrAt H v t → KVt K H v (ktT t)
  | v, .int i, _, h => by unfold TrAt at h; simp only [ktT, KVt]; exact h
  | v, .str x, _, h => by unfold TrAt at h; simp only [ktT, KVt]; exact h
  | v, .tup ts, k, h => by
    unfold TrAt at h
    obtain ⟨r, vs, e, h1, h2⟩ := h
    simp only [ktT, KVt]
    exact ⟨r, vs, e, .inl h1, kvts_of k h2⟩
theorem kvts_of : ∀ {vs : List V} {ts : List Tr}, Kps ts → TrsAt H vs ts → KVts K H vs (ktTs ts)
  | vs, [], _, h => by unfold TrsAt at h; simp only [ktTs, KVts]; exact h
  | vs, t :: ts, k, h => by
    obtain ⟨v, r, e, h1, h2⟩ := h.inv
    simp only [ktTs, KVts]
    exact ⟨v, r, e, kvt_of k.1 h1, kvts_of k.2 h2⟩
end
theorem key_tm {b : Addr} {t : Tr} (ty : Ty .tm t) (hd : t.depth ≤ 7) (h : TrAt H (.ref b) t) : KeyAt K H (ktL t) b := by
  have kp := tm_kp ty
  obtain ⟨ts, rfl⟩ := tm_tup ty
  unfold TrAt at h
  obtain ⟨r, vs, e, h1, h2⟩ := h
  cases e
  refine ⟨vs, .inl h1, kvts_of kp h2, ?_⟩
  have := @kts_dep ts kp
  simp only [Tr.depth] at hd
  simp only [ktL, Tk.KT.depth]
  omega
end
theorem tm_ref {H : Hp} {v : V} {t : Tr} (ty : Ty .tm t) (h : TrAt H v t) : ∃ b, v = .ref b := by
  obtain ⟨ts, rfl⟩ := tm_tup ty
  unfold TrAt at h
  obtain ⟨r, vs, e, _⟩ := h
  exact ⟨r, e⟩
def En (H : Hp) (g : Tr → Fr) (e : Ent) (t : Tr) : Prop := e.1 = ktL t ∧ TrAt H (.ref e.2.1) t ∧ TrAt H e.2.2 (frT (g t))
structure DAt (P : Program) (w : World) (K : PySem.W.Frag) (H : Hp) (a : Addr) (ks : List Tr) (g : Tr → Fr) : Prop where
  ex : ∃ kvs, DJ P w K H a kvs ∧ Paired (En H g) kvs ks
  ty : ∀ t ∈ ks, Ty .tm t ∧ t.depth ≤ 7
  nd : ks.Nodup
section
variable {P : Program} {w : World} {K : PySem.W.Frag} {H H' : Hp} {a : Addr} {ks : List Tr} {g : Tr → Fr}
theorem en_mono {kvs : List Ent} (k : Kd H H') (h : Paired (En H g) kvs ks) : Paired (En H' g) kvs ks := Paired.imp' (fun e t x => ⟨x.1, x.2.1.mono k, x.2.2.mono k⟩) h
theorem DAt.kd (x : DAt P w K H a ks g) (k : Kd H H') (hs : ∀ o, (∀ xs, o ≠ .lst xs) → H a = some o → H' a = some o) : DAt P w K H' a ks g := by
  obtain ⟨kvs, d, p⟩ := x.ex
  exact ⟨⟨kvs, d.kd k (hs _ (fun _ z => by cases z) d.at_), en_mono k p⟩, x.ty, x.nd⟩
theorem DAt.same (x : DAt P w K H a ks g) (s : Same H H') : DAt P w K H' a ks g := x.kd (Kd.of_same s) fun o _ e => s _ _ e
theorem en_val {kvs : List Ent} (h : Paired (En H g) kvs ks) (ty : ∀ t ∈ ks, Ty .tm t) {t : Tr} (tt : Ty .tm t) : (t ∈ ks → ∃ v, valJ kvs (ktL t) = some v ∧ TrAt H v (frT (g t))) ∧ (t ∉ ks → valJ kvs (ktL t) = none) := by
  induction h with
  | nil => exact ⟨fun m => (by cases m), fun _ => rfl⟩
  | @cons e u es us h1 _ ih =>
    obtain ⟨i1, i2⟩ := ih fun x m => ty x (List.mem_cons_of_mem _ m)
    by_cases z : u = t
    · subst z
      exact ⟨fun _ => ⟨e.2.2, valJ_pos h1.1, h1.2.2⟩, fun n => absurd List.mem_cons_self n⟩
    · have ne : ¬ e.1 = ktL t := fun q => z (ktL_inj (ty u List.mem_cons_self) tt (h1.1.symm.trans q))
      refine ⟨fun m => ?_, fun n => ?_⟩
      · rw [valJ_neg ne]
        rcases List.mem_cons.mp m with e' | m
        · exact absurd e'.symm z
        · exact i1 m
      · rw [valJ_neg ne]
        exact i2 fun m => n (List.mem_cons_of_mem _ m)
theorem DAt.val (x : DAt P w K H a ks g) {t : Tr} (tt : Ty .tm t) : ∃ kvs, DJ P w K H a kvs ∧ kvs.length = ks.length ∧ (t ∈ ks → ∃ v, valJ kvs (ktL t) = some v ∧ TrAt H v (frT (g t))) ∧ (t ∉ ks → valJ kvs (ktL t) = none) := by
  obtain ⟨kvs, d, p⟩ := x.ex
  exact ⟨kvs, d, Paired.length p, en_val p (fun t m => (x.ty t m).1) tt⟩
open Classical in
noncomputable def setG (g : Tr → Fr) (t : Tr) (f : Fr) : Tr → Fr := fun u => if u = t then f else g u
open Classical in
noncomputable def addK (ks : List Tr) (t : Tr) : List Tr := if t ∈ ks then ks else ks ++ [t]
theorem en_map {kvs : List Ent} {t : Tr} {f : Fr} {v : V} (hv : TrAt H v (frT f)) (tt : Ty .tm t) (h : Paired (En H g) kvs ks) (ty : ∀ t ∈ ks, Ty .tm t) : Paired (En H (setG g t f)) (kvs.map fun p => if p.1 = ktL t then (p.1, p.2.1, v) else p) ks := by
  induction h with
  | nil => exact .nil
  | @cons e u es us h1 _ ih =>
    rw [List.map_cons]
    refine .cons ?_ (ih fun x m => ty x (List.mem_cons_of_mem _ m))
    by_cases z : u = t
    · subst z
      rw [if_pos h1.1]
      refine ⟨h1.1, h1.2.1, ?_⟩
      unfold setG
      rw [if_pos rfl]
      exact hv
    · have ne : ¬ e.1 = ktL t := fun q => z (ktL_inj (ty u List.mem_cons_self) tt (h1.1.symm.trans q))
      rw [if_neg ne]
      refine ⟨h1.1, h1.2.1, ?_⟩
      unfold setG
      rw [if_neg z]
      exact h1.2.2
theorem en_set {kvs : List Ent} {t : Tr} {f : Fr} (n : t ∉ ks) (h : Paired (En H g) kvs ks) : Paired (En H (setG g t f)) kvs ks := by
  induction h with
  | nil => exact .nil
  | @cons e u es us h1 _ ih =>
    refine .cons ⟨h1.1, h1.2.1, ?_⟩ (ih fun m => n (List.mem_cons_of_mem _ m))
    unfold setG
    rw [if_neg (fun z => n (by rw [← z]; exact List.mem_cons_self))]
    exact h1.2.2
theorem DAt.put (x : DAt P w K H a ks g) {t : Tr} {b : Addr} {v : V} {f : Fr} (tt : Ty .tm t) (hd : t.depth ≤ 7) (hb : TrAt H (.ref b) t) (hv : TrAt H v (frT f)) {kvs : List Ent} (d : DJ P w K H a kvs) (hk : DAt P w K H a ks g → Paired (En H g) kvs ks) :
    DAt P w K (upd H a (dJ P w a (putJ kvs (ktL t) b v))) a (addK ks t) (setG g t f) := by
  have p := hk x
  have kd := Kd.updJ (o := dJ P w a (putJ kvs (ktL t) b v)) d.at_
  have ev := en_val p (fun t m => (x.ty t m).1) tt
  refine ⟨⟨_, d.put (key_tm tt hd hb), ?_⟩, fun u m => ?_, ?_⟩
  · refine en_mono kd ?_
    unfold putJ addK
    by_cases m : t ∈ ks
    · obtain ⟨v', e', _⟩ := ev.1 m
      rw [e', if_pos m, if_pos (show (some v').isSome = true from rfl)]
      exact en_map hv tt p fun t m => (x.ty t m).1
    · rw [ev.2 m, if_neg m, if_neg (by simp)]
      refine Paired.snoc (en_set m p) ⟨rfl, hb, ?_⟩
      unfold setG
      rw [if_pos rfl]
      exact hv
  · unfold addK at m
    split at m
    · exact x.ty u m
    · rcases List.mem_append.mp m with m | m
      · exact x.ty u m
      · rw [List.mem_singleton.mp m]
        exact ⟨tt, hd⟩
  · unfold addK
    split
    · exact x.nd
    · rename_i n
      exact List.nodup_append.mpr ⟨x.nd, (by simp), fun u mu y my => by rw [List.mem_singleton.mp my]; exact fun z => n (by rw [← z]; exact mu)⟩
theorem DAt.keys (x : DAt P w K H a ks g) : ∃ kvs, DJ P w K H a kvs ∧ TrsAt H (kvs.map fun e => V.ref e.2.1) ks := by
  obtain ⟨kvs, d, p⟩ := x.ex
  refine ⟨kvs, d, ?_⟩
  clear d x
  induction p with
  | nil => exact .nil
  | cons h1 _ ih => exact .cons h1.2.1 ih
end
open Classical in
structure Sd (ds : List Pq) (ks : List Tr) (g : Tr → Fr) : Prop where
  sh : ∀ t ∈ ks, Sh (g t)
  eq : ∀ t, tot t ds = if t ∈ ks then rv (g t) else 0
theorem Sd.nil (g : Tr → Fr) : Sd [] [] g := ⟨fun t m => (by cases m), fun t => (by rw [if_neg (by simp)]; rfl)⟩
open Classical in
theorem Sd.add {ds : List Pq} {ks : List Tr} {g : Tr → Fr} (h : Sd ds ks g) {p : Pq} {f : Fr} (hf : Sh f) (e : rv f = (if p.1 ∈ ks then rv (g p.1) else 0) + rv p.2) : Sd (ds ++ [p]) (addK ks p.1) (setG g p.1 f) := by
  refine ⟨fun t m => ?_, fun t => ?_⟩
  · unfold setG
    by_cases z : t = p.1
    · rw [if_pos z]; exact hf
    · rw [if_neg z]
      unfold addK at m
      split at m
      · exact h.sh t m
      · rcases List.mem_append.mp m with m | m
        · exact h.sh t m
        · exact absurd (List.mem_singleton.mp m) z
  · rw [tot_app, tot_one, h.eq]
    unfold addK setG
    by_cases z : t = p.1
    · subst z
      rw [if_pos rfl]
      by_cases m : p.1 ∈ ks
      · rw [if_pos m, if_pos m, if_pos m, if_pos rfl, e, if_pos m]
      · have m2 : p.1 ∈ ks ++ [p.1] := List.mem_append_right _ List.mem_cons_self
        rw [if_neg m, if_neg m, if_pos m2, if_pos rfl, e, if_neg m]
    · have z' : ¬ p.1 = t := fun q => z q.symm
      have ek : (t ∈ (if p.1 ∈ ks then ks else ks ++ [p.1])) ↔ t ∈ ks := by
        split
        · exact Iff.rfl
        · rw [List.mem_append, List.mem_singleton]
          exact ⟨fun q => q.elim id fun q => absurd q z, .inl⟩
      simp only [ek, z, z', if_false]
      grind
def outP (g : Tr → Fr) (ts : List Tr) : List Pq := (ts.filter fun t => decide ((g t).1 ≠ 0)).map fun t => (t, g t)
open Classical in
theorem tot_out (g : Tr → Fr) (u : Tr) : ∀ {ts : List Tr}, ts.Nodup → (∀ t ∈ ts, Sh (g t)) → tot u (outP g ts) = if u ∈ ts then rv (g u) else 0
  | [], _, _ => by rw [if_neg (by simp)]; rfl
  | t :: ts, nd, hs => by
    obtain ⟨n1, n2⟩ := List.nodup_cons.mp nd
    have ih := tot_out g u n2 fun x m => hs x (List.mem_cons_of_mem _ m)
    unfold outP at ih ⊢
    rw [List.filter_cons]
    have hsame : ∀ (q : Rat), (if u = t then q else 0) + (if u ∈ ts then rv (g u) else 0) = (if u ∈ t :: ts then (if u = t then q else rv (g u)) else 0) := by
      intro q
      by_cases z : u = t
      · have nu : u ∉ ts := fun m => n1 (by rw [← z]; exact m)
        rw [if_pos z, if_neg nu, if_pos (by rw [z]; exact List.mem_cons_self), if_pos z]
        grind
      · rw [if_neg z]
        by_cases m : u ∈ ts
        · rw [if_pos m, if_pos (List.mem_cons_of_mem _ m), if_neg z]
          grind
        · rw [if_neg m, if_neg (fun q => (List.mem_cons.mp q).elim z m)]
          grind
    by_cases z0 : (g t).1 = 0
    · have e : decide ((g t).1 ≠ 0) = false := by simp [z0]
      rw [e, if_neg (by decide), ih]
      have gz : rv (g t) = 0 := by
        unfold rv
        rw [z0]
        have : ((0 : Int) : Rat) = 0 := by simp
        rw [this]
        grind
      have := hsame 0
      by_cases z : u = t
      · subst z
        rw [if_neg n1, if_pos List.mem_cons_self, gz]
      · rw [if_neg z] at this
        by_cases m : u ∈ ts
        · rw [if_pos m, if_pos (List.mem_cons_of_mem _ m)]
        · rw [if_neg m, if_neg (fun q => (List.mem_cons.mp q).elim z m)]
    · have e : decide ((g t).1 ≠ 0) = true := by simp [z0]
      rw [e, if_pos rfl, List.map_cons]
      simp only [tot]
      rw [ih]
      by_cases z : u = t
      · subst z
        rw [if_pos rfl, if_neg n1, if_pos List.mem_cons_self]
        grind
      · rw [if_neg (fun q => z q.symm)]
        by_cases m : u ∈ ts
        · rw [if_pos m, if_pos (List.mem_cons_of_mem _ m)]
          grind
        · rw [if_neg m, if_neg (fun q => (List.mem_cons.mp q).elim z m)]
          grind
end Dj
set_option Elab.async false
set_option linter.all false
set_option maxRecDepth 100000
set_option maxHeartbeats 400000
namespace Dj
open PySem PySem.Spec PyProof.Rows L2 Tre Wd Su
section
variable {X : Cx} {pins : List (Addr × Obj)} {σ : L2.St} {H : Hp} {s : Shared} {a : Addr}
theorem frz_inv {kvs : List Ent} {o : Obj} {P : Program} {w : World} (I : Inv X pins σ H s) (ha : H a = some (dJ P w a kvs)) (ho : s.heap.get? a = some o) : Inv X pins σ (upd H a (.frz o (dJ P w a kvs))) s := by
  have ne : ∀ {b : Addr} {u : HO}, H b = some u → (∀ z, dJ P w a kvs = z → u ≠ z) → b ≠ a := fun e q z => by
    rw [z, ha] at e
    exact q _ rfl (Option.some.inj e).symm
  have st : ∀ {b : Addr} {u : HO}, ObjOk X.prog X.w H s.heap b u → ObjOk X.prog X.w (upd H a (.frz o (dJ P w a kvs))) s.heap b u := fun x =>
    x.stay (fun _ _ _ q => q) (fun b q => by rw [upd_ne (ne q fun z e => by subst e; intro t; cases t)]; exact q) fun b xs q => by rw [upd_ne (ne q fun z e => by subst e; intro t; cases t)]; exact q
  exact I.step (h' := s.heap) (g' := s.gens) (d' := s.drawn) (t' := s.toks) (ch := []) (fun _ z => nomatch z) (fun b o _ _ _ e _ => e) (fun b o _ _ _ e _ => ⟨o.slots, e⟩)
    (fun b o _ e n => by rw [upd_ne (fun z => by rw [z, ha] at n; cases n)]; exact n) (fun b o _ e => ⟨o, e⟩)
    (fun b xs e => by rw [upd_ne (ne e fun z q => by subst q; intro t; cases t)]; exact e) (fun b o' u e => by rw [upd_ne (ne e fun z q => by subst q; intro t; cases t)]; exact e)
    (fun b ps e => ⟨#[], by rw [upd_ne (ne e fun z q => by subst q; intro t; cases t), e]; simp⟩) (fun m hm => hm) (fun b u e => by
      by_cases z : b = a
      · subst z
        rw [upd_same] at e
        cases e
        exact ⟨ho, st (I.hok b _ ha)⟩
      · rw [upd_ne z] at e
        exact st (I.hok b u e)) I.bare
end
end Dj
set_option Elab.async false
set_option linter.all false
set_option maxRecDepth 100000
set_option maxHeartbeats 1000000
namespace Dj
open PySem PySem.Spec PySem.W PyProof.Rows L2 Tre
abbrev IiAt (h : Heap) (it d : Addr) (i n ep : Nat) (f0 : Value) (f : Bool) (ok ov : Value) : Prop :=
  h.get? it = some { cls := .type "dict_itemiterator", dict := none, data := .fields #[f0, .bool f, .ref d, .int i 0, .int n 0, .int ep 0, ok, ov], slots := #[] }
def Ii (h : Heap) (it d : Addr) (i n ep : Nat) : Prop := ∃ f0 f ok ov, IiAt h it d i n ep f0 f ok ov ∧ (f0 = .none ∨ ∃ a : Nat, f0 = rawInt a)
theorem entry_ii_iter : entryFor table "dict_itemiterator.__iter__" = some Builtin.«dict_keyiterator.__iter__» :=
  entryFor_alias (id' := "dict_keyiterator.__iter__") (by kernel_rfl) rfl (by decide +kernel) (by kernel_rfl)
section
variable {prog : Program} {w : World} {A : Around} {E : Value → Shared → Prop} {s : Shared} {d it v : Addr} {es : Array DictEntry} {ep : Nat}
theorem raw_items {Q : Value → Shared → Prop} (hd : (d == sysModules) = false) (hm : RawD s.heap d es ep)
    (hQ : Q (.ref s.heap.objs.size) { s with heap := s.heap.push { cls := .type "dict_items", data := .fields #[.ref d] } }) : wpAny (model prog w) A (call (.builtin "dict.items") [.ref d]) Q E s := by
  have hT := hm.ty
  refine wpAny_call_entry F.slot_dict_items hT F.entry_dict_items ?_ (F.args_dict_items_1 _)
  unfold Builtin.«dict.items»
  refine wpAny_bind ?_
  unfold Builtin.Dict.noArgs
  refine wpAny_bind (wpAny_notOrdered_dict hT ?_)
  show wpAny _ _ (pure d) _ _ s
  refine wpAny_pure ?_
  show wpAny _ _ (Builtin.Dict.showsAll d >>= _) _ _ s
  unfold Builtin.Dict.showsAll
  rw [if_neg (by rw [hd]; exact Bool.false_ne_true)]
  refine wpAny_bind (wpAny_pure ?_)
  exact wpAny_bind (wpAny_newObj_type (wpAny_pure ⟨_, rfl, hQ⟩))
theorem items_iter {Q : Value → Shared → Prop} (hv : s.heap.IsItemsView v d) (hm : RawD s.heap d es ep)
    (hQ : Q (.ref s.heap.objs.size) { s with heap := s.heap.push { cls := .type "dict_itemiterator", data := .fields #[.none, .bool false, .ref d, .int 0 0, .int es.size 0, .int ep 0, .none, .none] } }) :
    wpAny (model prog w) A (pyIter (.ref v)) Q E s := by
  obtain ⟨ov, hov, hcv, hdv⟩ := id hv
  obtain ⟨o, ho, hc, hdat⟩ := id hm
  refine wpAny_pyIter_slot hv.typeIs F.slot_dict_items_iter (wpAny_call_entry F.slot_dict_items_iter hv.typeIs F.entry_dict_items_iter ?_ (F.args_dict_items_iter_1 _))
  unfold Builtin.«dict_items.__iter__»
  refine wpAny_bind (wpAny_pure ?_)
  refine wpAny_bind ?_
  unfold Builtin.Dict_items.dictOf
  refine wpAny_bind (wpAny_field hov hdv (x := .ref d) rfl (wpAny_pure ?_))
  refine wpAny_bind ?_
  unfold Builtin.Dict_items.newIterator
  refine wpAny_bind (wpAny_dictEntries ho hdat ?_)
  refine wpAny_bind (wpAny_dictEpoch ho hdat ?_)
  have hown : Builtin.Dict_items.ownsTuple "dict_itemiterator" = true := by decide
  simp only [hown, if_true]
  refine wpAny_newObj_type (wpAny_pure ⟨_, rfl, "dict_itemiterator", _, ⟨_, Heap.get?_push_size _ rfl, rfl⟩, F.slot_dict_itemiterator_next.lookup, ?_⟩)
    (by simp only [sizeOk, Builtin.Dict_items.ownedTupleFields, List.size_toArray, List.length_append, List.length_cons, List.length_nil, sizeLine_eq]; omega)
  simpa [rawInt, Builtin.Dict_items.ownedTupleFields] using hQ
theorem alive_any {a : Addr} {Q : Option Obj → Shared → Prop} (h : ∀ r, Q r s) : wpAny (model prog w) A (loadIfAlive a) Q E s := fun _ _ _ => h _
theorem items_next {i : Nat} {Q : Option Value → Shared → Prop} (hit : Ii s.heap it d i es.size ep) (hm : RawD s.heap d es ep) (hi : i < es.size)
    (hQ : ∀ h', Ii h' it d (i + 1) es.size ep → h'.get? s.heap.objs.size = some { cls := .type "tuple", data := .seq #[es[i].key, es[i].val] } → h'.objs.size = s.heap.objs.size + 1 →
      (∀ b o, b ≠ it → s.heap.get? b = some o → h'.get? b = some o) → Q (some (.ref s.heap.objs.size)) { s with heap := h' }) :
    wpAny (model prog w) A (pyNext (.ref it)) Q E s := by
  obtain ⟨hp, g, dr, tk, os⟩ := s
  obtain ⟨f0, f, ok, ov, hit, hf0⟩ := hit
  obtain ⟨od, hod, hcd, hdd⟩ := id hm
  have hT : Shared.TypeIs ⟨hp, g, dr, tk, os⟩ (.ref it) "dict_itemiterator" := ⟨_, hit, rfl⟩
  unfold pyNext
  refine wpAny_bind (wpAny_attempt (wpAny_callSpecial?_slot (name := Str.ofString "__next__") hT F.slot_dict_itemiterator_next
    (wpAny_call_entry F.slot_dict_itemiterator_next hT F.entry_dict_itemiterator_next ?_ (F.args_dict_itemiterator_next_1 _))))
  refine wpAny_bind (wpAny_pure ?_)
  refine wpAny_bind ?_
  refine wpAny_bind ?_
  first | refine wpAny_bind (wpAny_typeNameOfWhole_itemiter hT (wpAny_pure ?_)) | refine wpAny_bind (wpAny_typeNameOf_itemiter hT (wpAny_pure ?_))
  refine wpAny_bind (wpAny_fieldsOf hit rfl ?_)
  have hown : Builtin.Dict_items.ownsTuple "dict_itemiterator" = true := by decide
  simp only [hown, if_true]
  show wpAny _ _ (if (Value.ref d == Value.none) = true then _ else _) _ _ _
  rw [if_neg (show ¬ ((Value.ref d == Value.none) = true) from Bool.false_ne_true)]
  refine wpAny_bind (wpAny_pure ?_)
  refine wpAny_bind (wpAny_dictEntries hod hdd ?_)
  rw [if_neg (by simp)]
  refine wpAny_bind (wpAny_pure ?_)
  refine wpAny_bind (wpAny_dictEpoch hod hdd ?_)
  rw [if_neg (by simp)]
  refine wpAny_pure ?_
  simp only [show ¬ ((i : Int) < 0) from by omega, if_false, Int.toNat_natCast, Array.getElem?_eq_getElem hi]
  refine wpAny_bind ?_
  first | refine wpAny_bind (wpAny_typeNameOfWhole_itemiter hT (wpAny_pure ?_)) | refine wpAny_bind (wpAny_typeNameOf_itemiter hT (wpAny_pure ?_))
  refine wpAny_bind (wpAny_isOneOf_itemiter hT ?_)
  show wpAny _ _ (setField (.ref it) 3 (rawInt ((i : Int) + 1)) >>= _) _ _ ⟨hp, g, dr, tk, os⟩
  refine wpAny_bind (wpAny_setField_rec hit (by simp) fun h₁ he₁ hs₁ => ?_)
  replace hs₁ : Heap.SameBut it hp h₁ := hs₁
  replace he₁ : IiAt h₁ it d (i + 1) es.size ep f0 f ok ov := by
    have e : ((i + 1 : Nat) : Int) = (i : Int) + 1 := by omega
    unfold IiAt; rw [e]; simpa [rawInt] using he₁
  have hT₁ : Shared.TypeIs ⟨h₁, g, dr, tk, os⟩ (.ref it) "dict_itemiterator" := ⟨_, he₁, rfl⟩
  refine wpAny_bind (wpAny_holding ?_)
  refine wpAny_bind (wpAny_isOneOf_itemiter hT₁ ?_)
  refine wpAny_bind (wpAny_isOneOf_itemiter hT₁ ?_)
  show wpAny _ _ (Builtin.Dict_items.pairFromOwner (.ref it) 6 es[i].key es[i].val) _ _ ⟨h₁, g, dr, tk, os⟩
  unfold Builtin.Dict_items.pairFromOwner
  refine wpAny_bind (wpAny_newTuple ?_)
  have he₂ : IiAt (h₁.push { cls := .type "tuple", data := .seq #[es[i].key, es[i].val] }) it d (i + 1) es.size ep f0 f ok ov := Heap.get?_push_of_some _ he₁
  generalize hh₂ : h₁.push { cls := .type "tuple", data := .seq #[es[i].key, es[i].val] } = h₂ at he₂
  have hz₁ : h₁.objs.size = hp.objs.size := hs₁.1
  have hil : it < hp.objs.size := Heap.lt_size hit
  have ht₂ : h₂.get? hp.objs.size = some { cls := .type "tuple", data := .seq #[es[i].key, es[i].val] } := by rw [← hh₂, ← hz₁]; exact Heap.get?_push_size _ rfl
  have hz₂ : h₂.objs.size = hp.objs.size + 1 := by rw [← hh₂, Heap.size_push, hz₁]
  have hk₂ : ∀ b o, b ≠ it → hp.get? b = some o → h₂.get? b = some o := fun b o hb e => by rw [← hh₂]; exact Heap.get?_push_of_some _ (hs₁.extBut b o hb e)
  show wpAny _ _ (Builtin.Dict_items.ownedTupleIsFree (.ref it) >>= _) _ _ ⟨h₂, g, dr, tk, os⟩
  rw [hz₁]
  clear hh₂ he₁ hs₁ hT₁ hz₁ h₁
  have fin : ∀ h₃ : Heap, Ii h₃ it d (i + 1) es.size ep → Heap.SameBut it h₂ h₃ → Q (some (.ref hp.objs.size)) ⟨h₃, g, dr, tk, os⟩ := fun h₃ he₃ hs₃ =>
    hQ h₃ he₃ (hs₃.extBut _ _ (Nat.ne_of_gt hil) ht₂) (by show h₃.objs.size = hp.objs.size + 1; rw [hs₃.1, hz₂]) fun b o hb e => hs₃.extBut b o hb (hk₂ b o hb e)
  have put : ∀ h₂' : Heap, IiAt h₂' it d (i + 1) es.size ep f0 f ok ov → Heap.SameBut it h₂ h₂' → ∀ {B : Around} {Φ : Value → Shared → Prop} {E' : Value → Shared → Prop}, (∀ h₆, Ii h₆ it d (i + 1) es.size ep → Heap.SameBut it h₂ h₆ → Φ (.ref hp.objs.size) ⟨h₆, g, dr, tk, os⟩) →
      wpAny (model prog w) B (do
        let x ← field (.ref it) 6
        let y ← field (.ref it) (6 + 1)
        setField (.ref it) 6 es[i].key
        setField (.ref it) (6 + 1) es[i].val
        setField (.ref it) 0 (rawInt (hp.objs.size : Nat))
        setField (.ref it) 1 (.bool false)
        letGo [x, y] [.ref hp.objs.size]
        pure (Value.ref hp.objs.size)) Φ E' ⟨h₂', g, dr, tk, os⟩ := by
    intro h₂' he₂ sb B Φ E' fin
    refine wpAny_bind (wpAny_field he₂ rfl (x := ok) rfl ?_)
    refine wpAny_bind (wpAny_field he₂ rfl (x := ov) rfl ?_)
    refine wpAny_bind (wpAny_setField_rec he₂ (by simp) fun h₃ he₃ hs₃ => ?_)
    replace hs₃ : Heap.SameBut it h₂' h₃ := hs₃
    replace he₃ : IiAt h₃ it d (i + 1) es.size ep f0 f es[i].key ov := he₃
    refine wpAny_bind (wpAny_setField_rec he₃ (by simp) fun h₄ he₄ hs₄ => ?_)
    replace hs₄ : Heap.SameBut it h₃ h₄ := hs₄
    replace he₄ : IiAt h₄ it d (i + 1) es.size ep f0 f es[i].key es[i].val := he₄
    refine wpAny_bind (wpAny_setField_rec he₄ (by simp) fun h₅ he₅ hs₅ => ?_)
    replace hs₅ : Heap.SameBut it h₄ h₅ := hs₅
    replace he₅ : IiAt h₅ it d (i + 1) es.size ep (rawInt (hp.objs.size : Nat)) f es[i].key es[i].val := he₅
    refine wpAny_bind (wpAny_setField_rec he₅ (by simp) fun h₆ he₆ hs₆ => ?_)
    replace hs₆ : Heap.SameBut it h₅ h₆ := hs₆
    replace he₆ : IiAt h₆ it d (i + 1) es.size ep (rawInt (hp.objs.size : Nat)) false es[i].key es[i].val := he₆
    exact wpAny_bind (wpAny_letGo (wpAny_pure (fin h₆ ⟨_, _, _, _, he₆, .inr ⟨_, rfl⟩⟩ (sb.trans (hs₃.trans (hs₄.trans (hs₅.trans hs₆)))))))
  refine wpAny_bind ?_
  unfold Builtin.Dict_items.ownedTupleIsFree
  rcases hf0 with rfl | ⟨a, rfl⟩
  · refine wpAny_bind (wpAny_field he₂ rfl (x := .none) rfl (wpAny_pure ?_))
    simp only [if_true]
    exact put h₂ he₂ (Heap.SameBut.refl _ _) fun h₆ i6 s6 => wpAny_pure ⟨_, rfl, wpAny_pure (fin h₆ i6 s6)⟩
  · refine wpAny_bind (wpAny_field he₂ rfl (x := rawInt a) rfl ?_)
    show wpAny _ _ (loadIfAlive ((a : Int).toNat) >>= _) _ _ _
    refine wpAny_bind (alive_any fun r => ?_)
    cases r with
    | none =>
      simp only [Option.isNone_none, if_true]
      refine wpAny_pure ?_
      simp only [if_true]
      exact put h₂ he₂ (Heap.SameBut.refl _ _) fun h₆ i6 s6 => wpAny_pure ⟨_, rfl, wpAny_pure (fin h₆ i6 s6)⟩
    | some o =>
      simp only [Option.isNone_some, Bool.false_eq_true, if_false]
      refine wpAny_bind (wpAny_field he₂ rfl (x := .bool f) rfl ?_)
      cases f with
      | true =>
        rw [if_neg (show ¬ ((Value.bool true != Value.bool true) = true) from Bool.false_ne_true)]
        refine wpAny_pure ?_
        simp only [Bool.false_eq_true, if_false]
        exact wpAny_pure (wpAny_pure ⟨_, rfl, wpAny_pure (fin h₂ ⟨_, _, _, _, he₂, .inr ⟨_, rfl⟩⟩ (Heap.SameBut.refl _ _))⟩)
      | false =>
        rw [if_pos (show (Value.bool false != Value.bool true) = true from rfl)]
        refine wpAny_bind (wpAny_setField_rec he₂ (by simp) fun h₃ he₃ hs₃ => ?_)
        replace hs₃ : Heap.SameBut it h₂ h₃ := hs₃
        replace he₃ : IiAt h₃ it d (i + 1) es.size ep (rawInt a) true ok ov := he₃
        refine wpAny_pure ?_
        simp only [Bool.false_eq_true, if_false]
        exact wpAny_pure (wpAny_pure ⟨_, rfl, wpAny_pure (fin h₃ ⟨_, _, _, _, he₃, .inr ⟨_, rfl⟩⟩ hs₃)⟩)
theorem items_end {i : Nat} {Q : Option Value → Shared → Prop} (hh : A.handled = none) (hit : Ii s.heap it d i es.size ep) (hm : RawD s.heap d es ep) (hi : es.size ≤ i)
    (hQ : ∀ h', Heap.ExtBut it s.heap h' → Q none { s with heap := h' }) : wpAny (model prog w) A (pyNext (.ref it)) Q E s := by
  obtain ⟨f0, f, ok, ov, hit, hf0⟩ := hit
  obtain ⟨od, hod, hcd, hdd⟩ := id hm
  have hT : s.TypeIs (.ref it) "dict_itemiterator" := ⟨_, hit, rfl⟩
  unfold pyNext
  refine wpAny_bind (wpAny_attempt (wpAny_callSpecial?_slot (name := Str.ofString "__next__") hT F.slot_dict_itemiterator_next
    (wpAny_call_entry F.slot_dict_itemiterator_next hT F.entry_dict_itemiterator_next ?_ (F.args_dict_itemiterator_next_1 _))))
  refine wpAny_bind (wpAny_pure ?_)
  refine wpAny_bind ?_
  refine wpAny_bind ?_
  first | refine wpAny_bind (wpAny_typeNameOfWhole_itemiter hT (wpAny_pure ?_)) | refine wpAny_bind (wpAny_typeNameOf_itemiter hT (wpAny_pure ?_))
  refine wpAny_bind (wpAny_fieldsOf hit rfl ?_)
  have hown : Builtin.Dict_items.ownsTuple "dict_itemiterator" = true := by decide
  simp only [hown, if_true]
  show wpAny _ _ (if (Value.ref d == Value.none) = true then _ else _) _ _ s
  rw [if_neg (show ¬ ((Value.ref d == Value.none) = true) from Bool.false_ne_true)]
  refine wpAny_bind (wpAny_pure ?_)
  refine wpAny_bind (wpAny_dictEntries hod hdd ?_)
  rw [if_neg (by simp)]
  refine wpAny_bind (wpAny_pure ?_)
  refine wpAny_bind (wpAny_dictEpoch hod hdd ?_)
  rw [if_neg (by simp)]
  refine wpAny_pure ?_
  simp only [show ¬ ((i : Int) < 0) from by omega, if_false, Int.toNat_natCast, Array.getElem?_eq_none hi]
  refine wpAny_bind ?_
  first | refine wpAny_bind (wpAny_typeNameOfWhole_itemiter hT (wpAny_pure ?_)) | refine wpAny_bind (wpAny_typeNameOf_itemiter hT (wpAny_pure ?_))
  show wpAny _ _ (setField (.ref it) 2 .none >>= _) _ _ s
  refine wpAny_bind (wpAny_setField hit rfl (by simp) ?_)
  show wpAny _ _ (newExc (.type "StopIteration") [] >>= _) _ _ _
  refine wpAny_bind ?_
  simp only [newExc, newTuple]
  refine wpAny_bind (wpAny_newObj_type ?_ (by size_fits))
  refine wpAny_bind (m := firstArgMember _ _) (wpAny_of_eq (a := Value.none) (by first | rfl | (simp only [firstArgMember]; rfl)) ?_)
  refine wpAny_newObj_type ?_ (by size_fits)
  simp only [raiseNew]
  refine wpAny_bind (wpAny_handled ?_)
  rw [show A.in1.handled = none from hh]
  refine wpAny_bind (wpAny_pure (wpAny_throw ?_))
  refine wpAny_bind (wpAny_isInstance (T := "StopIteration") (b := true) ⟨_, Heap.get?_push_size _ rfl, rfl⟩ isSubtype_stop ?_)
  exact wpAny_pure (hQ _ (((Heap.SameBut.update ..).extBut.push _).push _))
theorem items_self {i : Nat} {Q : Value → Shared → Prop} {n : Nat} (hit : Ii s.heap it d i n ep) (hQ : Q (.ref it) s) : wpAny (model prog w) A (pyIter (.ref it)) Q E s := by
  obtain ⟨f0, f, ok, ov, hit, hf0⟩ := hit
  have hT : s.TypeIs (.ref it) "dict_itemiterator" := ⟨_, hit, rfl⟩
  refine wpAny_pyIter_slot hT F.slot_dict_itemiterator_iter (wpAny_call_entry F.slot_dict_itemiterator_iter hT entry_ii_iter ?_ (F.args_dict_itemiterator_iter_1 _))
  show wpAny _ _ (ret (.ref it)) _ _ s
  exact wpAny_pure ⟨_, rfl, "dict_itemiterator", _, hT, F.slot_dict_itemiterator_next.lookup, hQ⟩
theorem Ii.kp {h h' : Heap} {i n : Nat} (x : Ii h it d i n ep) (e : ∀ o, h.get? it = some o → h'.get? it = some o) : Ii h' it d i n ep := by
  obtain ⟨f0, f, ok, ov, hit, hf0⟩ := x
  exact ⟨f0, f, ok, ov, e _ hit, hf0⟩
end
def Iti (a : Addr) (o : Obj) (u : HO) (kvs : List (V × V)) : It := ⟨fun i H => H a = some (.frz o u) ∧ i < kvs.length,
  fun i H v H' => ∃ T x y, v = .ref T ∧ H T = none ∧ H' = upd H T (.tup [x, y]) ∧ kvs[i]? = some (x, y), fun i H => H a = some (.frz o u) ∧ kvs.length ≤ i⟩
theorem turn_items {P : Program} {w : World} {K : PySem.W.Frag} {nm : Str} {np : Pos} {a it : Addr} {o : Obj} {u : HO} {es : Array DictEntry} {ep : Nat} {kvs : List (V × V)} (hx : o.ExactDict) (hd : o.data = .dict es ep) (hl : kvs.length = es.size) (hk : ∀ i (h : i < es.size), ∃ x y, kvs[i]? = some (x, y) ∧ RelV x es[i].key ∧ RelV y es[i].val) :
    Turn P w K (.Name nm np) (Iti a o u kvs) [it] it (fun i h => Ii h it a i es.size ep) where
  mem := by simp
  obj := fun i h st b hb => by
    have e : b = it := by simpa using hb
    subst e
    obtain ⟨f0, f, ok, ov, hit, _⟩ := st
    exact ⟨_, hit, fun v z => by cases (show Data.fields _ = Data.cell v from z)⟩
  keep := fun i h h' st k => st.kp fun o e => k it (by simp) o e
  item := by
    intro X hP hw hK hc i pins s σ H E I hf st hg
    subst hP hw hK
    obtain ⟨ha, hi⟩ := hg
    have raw : RawD s.heap a es ep := ⟨o, (I.hok a _ ha).1, hx, hd⟩
    obtain ⟨x, y, hv, r1, r2⟩ := hk i (by omega)
    refine items_next st raw (by omega) fun h' st' ht sz up => ⟨_, rfl, ?_⟩
    have fr : H s.heap.objs.size = none := I.hok.fresh (Nat.le_refl _)
    have lt : ∀ {c : Addr} {o : Obj}, s.heap.get? c = some o → c ≠ s.heap.objs.size := fun e => Nat.ne_of_lt (Heap.lt_size e)
    have lit : it ≠ s.heap.objs.size := by
      obtain ⟨f0, f, ok, ov, hit, _⟩ := st
      exact lt hit
    have all : ∀ c o, c ∉ [it] → s.heap.get? c = some o → h'.get? c = some o := fun c o n e => up c o (by simpa using n) e
    refine wpAny_pure ⟨.ref s.heap.objs.size, upd H s.heap.objs.size (.tup [x, y]), ?_, rfl, ⟨_, x, y, rfl, fr, rfl, hv⟩, st', fun b hb => ?_⟩
    · refine I.call' (s' := { s with heap := h' }) (ch := [it]) rfl ⟨fun b o e _ _ hx => all b o hx e, fun b o e _ _ hx => ⟨o.slots, all b o hx e⟩, fun c o e n _ => by rw [upd_ne (lt e)]; exact n, fun b o e hx => ⟨o, all b o hx e⟩, fun c zs e => by rw [upd_ne (ne_of_none e fr)]; exact e, fun c o zs e => by rw [upd_ne (ne_of_none e fr)]; exact e, fun c ps e => ⟨#[], by rw [upd_ne (ne_of_none e fr), e]; simp⟩⟩ ?_ I.bare fun b hb => ?_
      · intro c o e
        by_cases hcT : c = s.heap.objs.size
        · subst hcT
          rw [upd_same] at e
          cases e
          exact ⟨by show 2 ≤ sizeLine; decide, [es[i].key, es[i].val], .cons r1 (.cons r2 .nil), ⟨_, ht, rfl, _, rfl⟩⟩
        · rw [upd_ne hcT] at e
          have nb : ∀ c u, H c = some u → c ∉ [it] := fun c u e hz => by rw [(hf c hz).1] at e; cases e
          refine (I.hok c o e).stay (fun d v hc q => all d v ?_ q) (fun d q => ?_) fun d m q => ?_
          · rcases hc with hz | hz
            · rw [hz]; exact nb c o e
            · exact nb d _ hz
          · rw [upd_ne (ne_of_none q fr)]; exact q
          · rw [upd_ne (ne_of_none q fr)]; exact q
      · obtain ⟨g0, g1, g2, g3, g4, g5⟩ := hf b hb
        exact ⟨g3, g1, g4, g5⟩
    · have e : b = it := by simpa using hb
      subst e
      rw [upd_ne lit]
      exact (hf b hb).1
  done := by
    intro X hP hw hK hc i pins s σ H E I hf st hg
    subst hP hw hK
    obtain ⟨ha, hi⟩ := hg
    have raw : RawD s.heap a es ep := ⟨o, (I.hok a _ ha).1, hx, hd⟩
    obtain ⟨f0, f1, f2, f3, f4, f5⟩ := hf it (by simp)
    exact items_end (I.ok.hd hc) st raw (by omega) fun h' eb => ⟨rfl, I.turned (t' := s.toks) (fun b o hb e => eb b o hb e) f0 f1 f3 f4 f5⟩
  self := fun A i s Q E st hq => items_self st hq
theorem paired_get {α β : Type} {F : α → β → Prop} : ∀ {l₁ : List α} {l₂ : List β} {i : Nat} {a : α}, Paired F l₁ l₂ → l₁[i]? = some a → ∃ b, l₂[i]? = some b ∧ F a b
  | _, _, i, a, .nil, h => by simp at h
  | _, _, 0, a, .cons r _, h => by
    simp at h
    subst h
    exact ⟨_, rfl, r⟩
  | _, _, i + 1, a, .cons _ rs, h => by
    obtain ⟨b, e, q⟩ := paired_get (i := i) rs (by simpa using h)
    exact ⟨b, by simpa using e, q⟩
def ViewI (v d : Addr) : HO := .ext fun h => h.IsItemsView v d
theorem viewI_ok {P : Program} {w : World} {H : Hp} {h : Heap} {v d : Addr} (x : h.IsItemsView v d) : ObjOk P w H h v (ViewI v d) := by
  obtain ⟨o, e, r⟩ := x
  exact ⟨⟨o, e, r⟩, ⟨_, e⟩, fun _ _ ⟨o', y, c⟩ k => ⟨o', k _ y, c⟩⟩
noncomputable def rItems (P : Program) (w : World) (K : PySem.W.Frag) : V → List V → Hp → VK → Prop := fun x vs H Q => ∃ a kvs, x = .ref a ∧ vs = [] ∧ DJ P w K H a kvs ∧ ∀ v, H v = none → Q (.ref v) (upd H v (ViewI v a))
noncomputable def iItems (P : Program) (w : World) (K : PySem.W.Frag) (tl : TE) : TI := fun σ H R => tl σ H fun x H1 => ∃ v a kvs, x = .ref v ∧ H1 v = some (ViewI v a) ∧ DJ P w K H1 a kvs ∧ ∀ o, R (Iti a o (dJ P w a kvs) (kvs.map fun e => (V.ref e.2.1, e.2.2))) (upd H1 a (.frz o (dJ P w a kvs)))
section
variable {X : Cx}
theorem mt_items0 : MtM X "dict.items" (rItems X.prog X.w X.K) := by
  intro pins s σ H x vs u us Q I rx rv h
  obtain ⟨a, kvs, rfl, rfl, d, q⟩ := h
  cases rx
  cases rv.zero
  obtain ⟨z, hd, xs, rel, o, es, ep, h1, h2, h3, h4, h5⟩ := dj_of I.hok I.kIn d
  refine raw_items hd (⟨o, h1, h2, h3⟩ : RawD s.heap a es ep) ?_
  exact ⟨.ref _, _, I.laid (t' := s.toks) (fun b ob e => Heap.get?_push_of_some _ e) (Nat.le_refl _) (viewI_ok ⟨_, Heap.get?_push_size _ rfl, rfl, rfl⟩), rfl, q _ (I.hok.fresh (Nat.le_refl _))⟩
theorem pi_items0 {nm : Str} {np : Pos} {l : Expr} {tl : TE} (hl : PE X l tl) : PI X (.Name nm np) l (iItems X.prog X.w X.K tl) := by
  intro pins s σ H R I h
  refine thn (hl pins s σ H _ I h) fun v s1 ⟨x, H1, I1, r1, q1⟩ => ?_
  obtain ⟨vw, a, kvs, e, hv, d, q⟩ := q1
  subst e
  cases r1
  obtain ⟨z, hd, xs, rel, o, es, ep, h1, h2, h3, h4, h5⟩ := dj_of I1.hok I1.kIn d
  obtain ⟨hview, _⟩ := (show ObjOk X.prog X.w H1 s1.heap vw (ViewI vw a) from I1.hok vw _ hv)
  have raw : RawD s1.heap a es ep := ⟨o, h1, h2, h3⟩
  have le : es.size = xs.length := by
    have := congrArg List.length h4
    simpa using this
  have kx := Paired.length rel
  have lk : (kvs.map fun e => (V.ref e.2.1, e.2.2)).length = es.size := by rw [List.length_map, kx, le]
  refine items_iter hview raw ?_
  have I2 := frz_inv I1 d.at_ h1
  refine ⟨s1.heap.objs.size, [s1.heap.objs.size], _, _, _, rfl, I2.kept (t' := s1.toks) fun b o e => Heap.get?_push_of_some _ e, turn_items h2 h3 lk (fun i hi => ?_), ⟨.none, false, .none, .none, Heap.get?_push_size _ rfl, .inl rfl⟩, fun b hb => ?_, q o⟩
  · have hi' : i < xs.length := by omega
    have hi2 : i < kvs.length := by omega
    obtain ⟨y, ey, r⟩ := paired_get rel (List.getElem?_eq_getElem hi2)
    refine ⟨.ref (kvs[i]).2.1, (kvs[i]).2.2, by rw [List.getElem?_map, List.getElem?_eq_getElem hi2]; rfl, ?_⟩
    have e1 : es[i] = entryOfKey (Tk.treeKind X.prog X.w) y := by
      have : es.toList[i]? = (xs.map (entryOfKey (Tk.treeKind X.prog X.w)))[i]? := by rw [h4]
      rw [List.getElem?_map, ey, Array.getElem?_toList, Array.getElem?_eq_getElem hi] at this
      exact Option.some.inj this
    rw [e1, r.2.1]
    exact ⟨rfl, r.2.2⟩
  · have e : b = s1.heap.objs.size := by simpa using hb
    subst e
    exact I2.fpOk (Nat.le_refl _) (I2.hok.fresh (Nat.le_refl _))
theorem pi_items {nm : Str} {np : Pos} {l : Expr} {tl : TE} {P : Program} {w : World} {K : PySem.W.Frag} (hP : X.prog = P) (hw : X.w = w) (hK : X.K = K) (hl : PE X l tl) : PI X (.Name nm np) l (iItems P w K tl) := by
  subst hP hw hK
  exact pi_items0 hl
end
noncomputable def tItemsJ (P : Program) (w : World) (K : PySem.W.Frag) (td : TE) : TE := fun σ H Q => td σ H fun x H1 => rItems P w K x [] H1 Q
theorem pe_itemsJ {X : Cx} {P : Program} {w : World} {K : PySem.W.Frag} {o : Expr} {td : TE} {apos cpos : Pos} (hP : X.prog = P) (hw : X.w = w) (hK : X.K = K) (ho : PE X o td)
    (hbase : attributeBase o "items" X.env (eval o X.env) = eval o X.env := by rfl) (hline : (apos.endLine == cpos.line) = true := by rfl) : PE X (.Call (.Attribute o "items" apos) [] [] cpos) (tItemsJ P w K td) := by
  subst hP hw hK
  intro pins s σ H Q I h
  refine wpAny_Call_method0_late hbase hline (thn (ho pins s σ H _ I h) fun v s1 ⟨x, H1, I1, r1, q1⟩ => ?_)
  obtain ⟨a, kvs, rfl, _, d, q⟩ := id q1
  cases r1
  have ty0 : s1.TypeIs (.ref a) "dict" ∧ ∀ b, Value.ref a = .ref b → ∃ ob, s1.heap.get? b = some ob ∧ ob.dict = none := by
    obtain ⟨_, _, xs, _, dd⟩ := dj_of I1.hok I1.kIn d
    refine ⟨dd.typeIs, fun b q => ?_⟩
    cases q
    obtain ⟨ob, _, _, h1, h2, _⟩ := dd
    exact ⟨ob, h1, h2.2.1⟩
  exact ⟨"dict", "dict.items", PySem.F.plainAttrs_dict, PySem.F.slot_dict_items, PySem.F.type_dict_items, ty0.1, ty0.2, Calls.callWith_builtin rfl (PySem.evalArgs_none (mt_items0 pins s1 σ H1 (.ref a) [] _ [] Q I1 rfl .nil q1))⟩
theorem comp_itemsT {a D : Addr} {o : Obj} {u : HO} {kvs : List (V × V)} {tc : TT} {te : TE} {rest : L2.St} {Q : VK} {H1 : Hp} (Pv : Nat → List V → Hp → Prop) (h0 : Pv 0 [] (upd H1 D (.lst [])))
    (hl : ∀ i acc H, Pv i acc H → H a = some (.frz o u))
    (hs : ∀ i T x y acc H, i < kvs.length → kvs[i]? = some (x, y) → Pv i acc H → H T = none → tc (some (.ref T) :: rest) (upd H T (.tup [x, y])) fun b H5 => if b = true then te (some (.ref T) :: rest) H5 (CompN kvs.length i D acc Pv) else CompS kvs.length i acc Pv H5)
    (hd : ∀ acc H, Pv kvs.length acc H → Q (.ref D) H) : CompWT (Iti a o u kvs) D tc te rest Q H1 := by
  refine ⟨fun i m acc H => m = kvs.length - i ∧ i ≤ kvs.length ∧ Pv i acc H, ⟨kvs.length, by simp, Nat.zero_le _, h0⟩, ?_⟩
  rintro i m acc H ⟨rfl, hi, p⟩
  by_cases hlt : i < kvs.length
  · refine .inr ⟨⟨hl i acc H p, hlt⟩, fun x H' y => ⟨ext1, ?_⟩⟩
    obtain ⟨T, x', y', rfl, nT, rfl, ek⟩ := y
    exact hs i T x' y' acc _ hlt ek p nT
  · have e : i = kvs.length := by omega
    subst e
    exact .inl ⟨⟨hl _ acc H p, Nat.le_refl _⟩, hd acc H p⟩
end Dj
set_option Elab.async false
set_option linter.all false
set_option maxRecDepth 100000
set_option maxHeartbeats 1000000
namespace L2
open PySem PySem.Spec PyProof.Rows
section
variable {X : Cx}
end
section
variable {X : Cx}
end
end L2
set_option Elab.async false
set_option linter.all false
set_option maxRecDepth 100000
set_option maxHeartbeats 1000000
namespace L2
open PySem PySem.Spec PyProof.Rows
section
variable {X : Cx}
end
end L2
set_option Elab.async false
set_option linter.all false
set_option maxRecDepth 100000
set_option maxHeartbeats 1000000
namespace Tre
open PySem PySem.Spec PyProof.Rows L2
section
variable {X : Cx}
def rEqL (b : Bool) : R2 := fun x y H Q => ∃ l m vs ws ts us, x = .ref l ∧ y = .ref m ∧ H l = some (.lst vs) ∧ H m = some (.lst ws) ∧ TrsAt H vs ts ∧ TrsAt H ws us ∧ (Trs.pure ts ∨ Trs.pure us) ∧ Trs.depth ts ≤ 40 ∧ Q (.bl (eqTs ts us == b)) H
theorem eqTs_len {ts us : List Tr} (h : ts.length ≠ us.length) : eqTs ts us = false := by
  rw [eqTs_all, Bool.and_eq_false_iff]
  right
  simp [h]
theorem lists_rc {A : Around} {pins : List (Addr × Obj)} {σ : L2.St} {H : Hp} {s : Shared} {l m : Addr} {vs ws : List V} {ts us : List Tr} (hu : A.units + 50 < cLine) (I : Inv X pins σ H s) (h1 : H l = some (.lst vs)) (h2 : H m = some (.lst ws)) (k1 : TrsAt H vs ts) (k2 : TrsAt H ws us) (hp : Trs.pure ts ∨ Trs.pure us) (hd : Trs.depth ts ≤ 40) :
    SeqAt.RcAt A s (.ref l) (.ref m) (eqTs ts us) ∧ SeqAt.RcNeAt A s (.ref l) (.ref m) (!eqTs ts us) := by
  obtain ⟨as, r1, p1, _⟩ := I.list (SqL.of h1)
  obtain ⟨bs, r2, p2, _⟩ := I.list (SqL.of h2)
  have l1 := k1.len
  have l2 := k2.len
  have l3 := r1.length
  have l4 := r2.length
  by_cases z : ts.length = us.length
  · have hsz : as.toArray.size = bs.toArray.size := by rw [List.size_toArray, List.size_toArray]; omega
    have he := fun j (g1 : j < as.toArray.size) (g2 : j < bs.toArray.size) => items_eq (A := A.in1) I (by show A.units + 1 + 42 < cLine; omega) k1 k2 hp hd r1 r2 j g1 g2
    have a1 := SeqAt.RcAt.lists (A := A) (e := eqJ ts us) p1.isList p2.isList hsz (by omega) he
    have a2 := SeqAt.RcNeAt.lists (A := A) (e := eqJ ts us) p1.isList p2.isList hsz (by omega) he
    have e : (List.range as.toArray.size).all (eqJ ts us) = eqTs ts us := by
      rw [eqTs_all, ← z, Nat.min_self]
      have : as.toArray.size = ts.length := by rw [List.size_toArray]; omega
      rw [this]
      simp
    rw [e] at a1 a2
    exact ⟨a1, a2⟩
  · have hsz : (as.toArray.size != bs.toArray.size) = true := by
      rw [List.size_toArray, List.size_toArray]
      simp only [bne_iff_ne, ne_eq]
      omega
    rw [eqTs_len z]
    exact ⟨SeqAt.RcAt.lists_lengths p1.isList p2.isList hsz (by omega), SeqAt.RcNeAt.lists_lengths p1.isList p2.isList hsz (by omega)⟩
theorem op_neL (hu : X.A.units + 60 < cLine) : OpR X (compareOp .NotEq) (rEqL false) := by
  intro pins s σ H x y v u Q I rx ry h
  obtain ⟨l, m, vs, ws, ts, us, rfl, rfl, h1, h2, k1, k2, hp, hd, q⟩ := h
  cases rx
  cases ry
  rw [beq_f] at q
  exact (lists_rc (A := X.A) (by omega) I h1 h2 k1 k2 hp hd).2 X.prog X.w X.xe _ ⟨.bl (!eqTs ts us), H, I, rfl, q⟩
end
end Tre
namespace Tre
open PySem PySem.Spec PyProof.Rows L2
section
variable {X : Cx}
end
end Tre
set_option Elab.async false
set_option linter.all false
set_option maxRecDepth 100000
set_option maxHeartbeats 1000000
namespace Tre
open PySem PySem.Spec PyProof.Rows L2
section
variable {X : Cx}
def rSameA (b : Bool) (K : PySem.W.Frag) : R2 := fun x y H Q => ∃ (p q r1 r2 : Addr) (x0 y0 : V) (ts : List Tr) (a c : Int), x = .ref p ∧ y = .ref q ∧ H p = some (.tup [x0, .ref r1]) ∧ H q = some (.tup [y0, .ref r2]) ∧
  TrAt H x0 (.tup ts) ∧ TrAt H y0 (.tup ts) ∧ Trs.pure ts ∧ Trs.depth ts ≤ 30 ∧ SqT K H r1 [.int a, .int c] ∧ SqT K H r2 [.int a, .int c] ∧ Q (.bl b) H
theorem ints_eqAt {pins : List (Addr × Obj)} {σ : L2.St} {H : Hp} {s : Shared} {A : Around} {p q : Addr} {a b : Int} (I : Inv X pins σ H s) (hu : A.units + 1 < cLine) (hp : SqT X.K H p [.int a, .int b]) (hq : SqT X.K H q [.int a, .int b]) : SeqAt.EqAt A s (.ref p) (.ref q) true := by
  by_cases z : p = q
  · subst z
    exact SeqAt.EqAt.same _
  obtain ⟨its, r1, t1, _⟩ := I.tuple hp
  obtain ⟨its2, r2, t2, _⟩ := I.tuple hq
  obtain ⟨u1, u2, rfl, ⟨w1, rfl⟩, ⟨w2, rfl⟩⟩ := Vals.two r1
  obtain ⟨u3, u4, rfl, ⟨w3, rfl⟩, ⟨w4, rfl⟩⟩ := Vals.two r2
  have h := SeqAt.RcAt.tuples (A := A) (e := fun j => if j = 0 then a == a else b == b) (show s.heap.IsTuple p _ from t1) (show s.heap.IsTuple q _ from t2) (by omega) (fun j h1 h2 => by
    match j, h1, h2 with
    | 0, _, _ => exact PySem.SeqAt.EqAt.int_int a w1 a w3
    | 1, _, _ => exact PySem.SeqAt.EqAt.int_int b w2 b w4
    | j + 2, h1, _ =>
      have : j + 2 < 2 := h1
      omega)
  have e : ((List.range (min ([Value.int a w1, .int b w2].toArray).size ([Value.int a w3, .int b w4].toArray).size)).all (fun j => if j = 0 then a == a else b == b) && (([Value.int a w1, .int b w2].toArray).size == ([Value.int a w3, .int b w4].toArray).size)) = true := by
    show (((a == a) && ((b == b) && true)) && true) = true
    simp
  rw [e] at h
  exact SeqAt.EqAt.of_refs z h
theorem sameA_items {pins : List (Addr × Obj)} {σ : L2.St} {H : Hp} {s : Shared} {A : Around} {r1 r2 : Addr} {x0 y0 : V} {ts : List Tr} {a c : Int} {as bs : List Value} (I : Inv X pins σ H s) (hu : A.units + 40 < cLine)
    (h1 : TrAt H x0 (.tup ts)) (h2 : TrAt H y0 (.tup ts)) (hp : Trs.pure ts) (hd : Trs.depth ts ≤ 30) (q1 : SqT X.K H r1 [.int a, .int c]) (q2 : SqT X.K H r2 [.int a, .int c]) (v1 : Vals [x0, .ref r1] as) (v2 : Vals [y0, .ref r2] bs)
    (j : Nat) (g1 : j < as.toArray.size) (g2 : j < bs.toArray.size) : SeqAt.EqAt A s as.toArray[j] bs.toArray[j] true := by
  obtain ⟨u1, u2, rfl, k1, k2⟩ := Vals.two v1
  obtain ⟨u3, u4, rfl, k3, k4⟩ := Vals.two v2
  cases k2
  cases k4
  match j, g1, g2 with
  | 0, _, _ =>
    have := tr_eqAt I 31 (A := A) (t := .tup ts) (u := .tup ts) (by unfold Tr.depth; omega) (.inl (by unfold Tr.pure; exact hp)) h1 h2 k1 k3 (by omega)
    rw [eqT_refl] at this
    exact this
  | 1, _, _ => exact ints_eqAt I (by omega) q1 q2
  | j + 2, g1, _ =>
    have : j + 2 < 2 := g1
    omega
theorem op_eqA (hu : X.A.units + 50 < cLine) : OpR X (compareOp .Eq) (rSameA true X.K) := by
  intro pins s σ H x y v u Q I rx ry h
  obtain ⟨p, q, r1, r2, x0, y0, ts, a, c, rfl, rfl, hp, hq, t1, t2, pu, dd, s1, s2, k⟩ := h
  cases rx
  cases ry
  obtain ⟨as, v1, p1, _⟩ := I.tuple (SqT.of hp)
  obtain ⟨bs, v2, p2, _⟩ := I.tuple (SqT.of hq)
  have l1 := v1.length
  have l2 := v2.length
  refine PySem.SeqAt.eq_tupleAt (e := fun _ => true) (show s.heap.IsTuple p as.toArray from p1) (show s.heap.IsTuple q bs.toArray from p2) (by omega) (fun j g1 g2 => sameA_items I (by first | omega | (show X.A.units + 1 + 40 < cLine; omega)) t1 t2 pu dd s1 s2 v1 v2 j g1 g2) ?_
  refine ⟨.bl true, H, I, ?_, k⟩
  rw [List.size_toArray, List.size_toArray, ← l1, ← l2]
  rfl
theorem op_neA (hu : X.A.units + 50 < cLine) : OpR X (compareOp .NotEq) (rSameA false X.K) := by
  intro pins s σ H x y v u Q I rx ry h
  obtain ⟨p, q, r1, r2, x0, y0, ts, a, c, rfl, rfl, hp, hq, t1, t2, pu, dd, s1, s2, k⟩ := h
  cases rx
  cases ry
  obtain ⟨as, v1, p1, _⟩ := I.tuple (SqT.of hp)
  obtain ⟨bs, v2, p2, _⟩ := I.tuple (SqT.of hq)
  have l1 := v1.length
  have l2 := v2.length
  refine SeqAt.RcNeAt.tuples (A := X.A) (e := fun _ => true) (show s.heap.IsTuple p as.toArray from p1) (show s.heap.IsTuple q bs.toArray from p2) (by omega) (fun j g1 g2 => sameA_items I (by show X.A.units + 1 + 40 < cLine; omega) t1 t2 pu dd s1 s2 v1 v2 j g1 g2) X.prog X.w X.xe _ ?_
  refine ⟨.bl false, H, I, ?_, k⟩
  rw [List.size_toArray, List.size_toArray, ← l1, ← l2]
  rfl
theorem call_reprB : CallR X (.builtin "repr") (fun xs H Q => ∃ b : Bool, xs = [.bl b] ∧ Q (.str (if b then "True" else "False")) H) := by
  intro pins s σ H xs us Q I r h
  obtain ⟨b, rfl, q⟩ := h
  obtain ⟨u, rfl, ru⟩ := vals1 r
  cases (show u = Value.bool b from ru)
  exact PySem.P.repr_of_bool ⟨.str _, H, I.tok _, ⟨_, rfl⟩, q⟩
theorem op_isB : OpR X (compareOp .Is) (fun x y H Q => ∃ b c : Bool, x = .bl b ∧ y = .bl c ∧ Q (.bl (decide (b = c))) H) := by
  intro pins s σ H x y v u Q I rx ry h
  obtain ⟨b, c, rfl, rfl, q⟩ := h
  cases (show v = Value.bool b from rx)
  cases (show u = Value.bool c from ry)
  refine is_bool ⟨.bl (decide (b = c)), H, I, ?_, q⟩
  cases b <;> cases c <;> rfl
end
end Tre
set_option Elab.async false
set_option linter.all false
set_option maxRecDepth 100000
set_option maxHeartbeats 4000000
namespace Dj
open PySem L2 Tre Wd Su
theorem Sd.canP {ds qs : List Pq} {ks : List Tr} {g : Tr → Fr} (h : Sd ds ks g) (nd : ks.Nodup) (ty : ∀ t ∈ ks, Ty .tm t) (pm : qs.Perm (outP g ks)) (hr : ∀ (i j : Nat) (p q : Pq), i ≤ j → qs[i]? = some p → qs[j]? = some q → ltT (prT q) (prT p) = false) : Can ds qs := by
  have tyq : ∀ p ∈ qs, p.1 ∈ ks ∧ p.2 = g p.1 ∧ (g p.1).1 ≠ 0 := fun p m => by
    have m := pm.mem_iff.mp m
    unfold outP at m
    obtain ⟨t, mt, rfl⟩ := List.mem_map.mp m
    obtain ⟨m1, m2⟩ := List.mem_filter.mp mt
    exact ⟨m1, rfl, by simpa using m2⟩
  have ndq : (qs.map (·.1)).Nodup := by
    rw [(pm.map (·.1)).nodup_iff]
    unfold outP
    rw [List.map_map]
    show (List.map (fun t => t) (ks.filter _)).Nodup
    rw [List.map_id']
    exact nd.filter _
  refine ⟨?_, fun p m => ?_, fun t => ?_⟩
  · unfold Asc
    rw [List.pairwise_iff_getElem]
    intro i j hi hj hij
    have le := le_pair (hr i j _ _ (by omega) (List.getElem?_eq_getElem hi) (List.getElem?_eq_getElem hj))
    refine lt_of le ?_
    cases q : eqT (qs[i]).1 (qs[j]).1 with
    | false => rfl
    | true =>
      have e := tm_eq (ty _ (tyq _ (List.getElem_mem hi)).1) (ty _ (tyq _ (List.getElem_mem hj)).1) q
      have n := List.nodup_iff_pairwise_ne.mp ndq
      rw [List.pairwise_iff_getElem] at n
      exact absurd (by rw [List.getElem_map, List.getElem_map]; exact e) (n i j (by rw [List.length_map]; exact hi) (by rw [List.length_map]; exact hj) hij)
  · obtain ⟨m1, m2, m3⟩ := tyq p m
    rw [m2]
    exact ⟨h.sh _ m1, fun z => m3 (by rw [z]; rfl)⟩
  · rw [tot_perm pm, tot_out g t nd h.sh, h.eq]
end Dj
namespace K38
open PySem L2 Mth Tre Wd Su Dj
theorem asc_take {us : List Pq} (h : Asc us) (j : Nat) : Asc (us.take j) := List.Pairwise.sublist (List.take_sublist _ _) h
theorem fr_ne {p : Fr} (h : Sh p) : (!decide (p.1 = 0 ∧ p.2 = 1)) = decide (p.1 ≠ 0) := by
  by_cases z : p.1 = 0
  · have : p = zero := by
      refine (rv_ne h).mp ?_
      unfold rv
      rw [z]
      have : ((0 : Int) : Rat) = 0 := by simp
      rw [this]
      grind
    rw [this]
    rfl
  · simp [z]
theorem tret_tup2 {te tf : TE} {Z : Ends} {σ : L2.St} {H : Hp} (h : te σ H fun v H1 => tf σ H1 fun u H2 => 2 ≤ sizeLine ∧ ∀ p, H2 p = none → Z.rt (.ref p) (upd H2 p (.tup [v, u]))) : tRet (tTup (tCons te (tCons tf tNil))) Z σ H := h
theorem tcb2_of {r1 r2 : List V → Hp → VK → Prop} {te : TE} {σ : L2.St} {H : Hp} {Q : VK} (h : te σ H fun v H1 => r2 [v] H1 fun x H2 => r1 [x] H2 Q) : tCB r1 (tCons (tCB r2 (tCons te tNil)) tNil) σ H Q := h
section
variable {P : Program} {w : World} {K : PySem.W.Frag} {mg : Str → Option Value} {base : Heap}
structure Ds (P : Program) (w : World) (K : PySem.W.Frag) (H : Hp) (D : Addr) (ds : List Pq) (E1 : Nat) (keys : List Tr) (g : Tr → Fr) : Prop where
  da : DAt P w K H D keys g
  sd : Sd ds keys g
  gf : ∀ t ∈ keys, Gf (1 + cnt t ds * E1) (g t)
  len : keys.length ≤ ds.length
theorem Ds.same {H H' : Hp} {D : Addr} {ds : List Pq} {E1 : Nat} {keys : List Tr} {g : Tr → Fr} (s : Same H H') (h : Ds P w K H D ds E1 keys g) : Ds P w K H' D ds E1 keys g := ⟨h.da.same s, h.sd, h.gf, h.len⟩
def spLAdded : Sp := fun vs H Q _ => ∃ (lb lw : Addr) (bvs wvs : List V) (T : List Tr) (bs : List Bd) (ks : List Wt) (e m : Nat), vs = [.ref lb, .ref lw] ∧ Ad H lb lw bvs wvs T bs ks e m ∧
  ∀ (p r : Addr) (x0 : V) (us : List Pq) (tt : Fr) (H' : Hp), Same H H' → H' p = some (.tup [x0, .ref r]) → TrAt H' x0 (.tup (us.map prT)) → H' r = some (.tup [.int tt.1, .int tt.2]) → Can (flatP bs ks) us → (∀ u ∈ us, Gq (1 + ks.length * (e + m + 1)) u) → Sh tt → rv tt = totR bs ks → Gf (1 + ks.length * (e + m + 1)) tt → Q (.ref p) H'
theorem scLA : FnScope ["_law_bounds_here", "_law_weights_here", "_law_shares", "_law_total", "_law_place", "_law_weight", "_law_term", "_law_share_here"] ["_law_bounds_here", "_law_weights_here"] (defScope sLAdded) := ⟨rfl, rfl, rfl, by decide +kernel, rfl, by decide +kernel, by decide +kernel⟩
open Classical in
theorem ok_ladded {f fT fP : Addr} {fd dT dP : FuncData} (F : Fun K "_law_added" "_law_added" sLAdded f fd) (B : Blt mg)
    (gT : FnOk P w K mg base CX0 2 fT dT ["_law_one", "_law_other"] spLTimes) (kT : PySem.W.keepIn K (.ref fT) = true) (bT : Binds K dT ["_law_one", "_law_other"] []) (mT : mg "_law_times" = some (.ref fT))
    (gP : FnOk P w K mg base CX0 2 fP dP ["_law_one", "_law_other"] spLPlus) (kP : PySem.W.keepIn K (.ref fP) = true) (bP : Binds K dP ["_law_one", "_law_other"] []) (mP : mg "_law_plus" = some (.ref fP)) : FnOk P w K mg base CX0 3 f fd ["_law_bounds_here", "_law_weights_here"] spLAdded := by
  refine F.ok scLA (fun vs H Q E h => ?_) (fun cdv A outer s H vs Q E hr h => ?_)
  · obtain ⟨lb, lw, bvs, wvs, T, bs, ks, e, m, rfl, _⟩ := h
    rfl
  obtain ⟨lb, lw, bvs, wvs, T, bs, ks, e, m, rfl, ad, k⟩ := h
  have hun := hr.units
  have hu1 := hu_of hr
  have hu30 := Nat.lt_of_le_of_lt (Nat.add_le_add_left (show 30 ≤ 64 by decide) _) hun
  have hu60 := Nat.lt_of_le_of_lt (Nat.add_le_add_left (show 60 ≤ 64 by decide) _) hun
  refine ⟨_, pss_cons (ps_set (i := 2) scLA.nd rfl (Or.inl rfl) (pe_newJ (P := P) (w := w) rfl rfl))
    (pss_cons (ps_set (i := 3) scLA.nd rfl (Or.inl rfl) (pe_tup (pa_cons pe_int (pa_cons pe_int pa_nil))))
    (pss_cons (ps_for PassesOwn.never rfl (pi_list (pv 1)) (pg_tup rfl (pgs_cons (pg_name (i := 4) scLA.nd rfl (Or.inl rfl)) (pgs_cons (pg_name (i := 5) scLA.nd rfl (Or.inl rfl)) pgs_nil)))
      (pss_cons (ps_for PassesOwn.never rfl (pi_tup (pe_ix ix_tup (pe_ix ix_list (pv 0) (pv 4) fun _ _ => rfl) pe_int fun _ _ => rfl)) (pg_tup rfl (pgs_cons (pg_name (i := 6) scLA.nd rfl (Or.inl rfl)) (pgs_cons (pg_name (i := 7) scLA.nd rfl (Or.inl rfl)) pgs_nil)))
        (pss_one (ps_putJ (P := P) (w := w) (K := K) rfl rfl rfl hu30 (pv 2) (pv 6) (pe_call gP hr rfl mP kP bP .nil pass0 (pa_cons (pe_getJ (P := P) (w := w) (K := K) rfl rfl rfl hu30 (pv 2) (pv 6) (pe_tup (pa_cons pe_int (pa_cons pe_int pa_nil))) ⟨rfl, rfl, rfl, rfl⟩) (pa_cons (pe_call gT hr rfl mT kT bT .nil pass0 (pa_cons (pv 7) (pa_cons (pv 5) pa_nil))) pa_nil))) rfl)))
      (pss_one (ps_set (i := 3) scLA.nd rfl (Or.inl rfl) (pe_call gP hr rfl mP kP bP .nil pass0 (pa_cons (pv 3) (pa_cons (pe_call gT hr rfl mT kT bT .nil pass0 (pa_cons (pe_ix ix_tup (pe_ix ix_list (pv 0) (pv 4) fun _ _ => rfl) pe_int fun _ _ => rfl) (pa_cons (pv 5) pa_nil))) pa_nil))))))
    ) (pss_one (ps_ret (pe_tup (pa_cons (pe_callTy call_tuple_of rfl B.tu PyProof.Rows.boot_tuple (pa_cons (pe_callB (call_sorted hu60) rfl B.so PyProof.Rows.boot_sorted (pa_cons
      (pe_comp (NC := ["_law_one"]) (mp := [none]) rfl (pi_items (P := P) (w := w) (K := K) rfl rfl rfl (pe_itemsJ (P := P) (w := w) (K := K) rfl rfl rfl (pv 2))) (fun _ _ _ _ _ => pg_name (i := 0) (show (["_law_one"] : List Str).Nodup by decide +kernel) rfl (Or.inl rfl))
        (fun _ _ _ _ _ => pts_one (pt_cmpR (r := rNeP K) (op_neP hu1) (pe_ix (r := rIxT K) ix_tup (pv 0) pe_int fun _ _ => rfl) (pe_tup (pa_cons pe_int (pa_cons pe_int pa_nil))) (nomark _)))
        (fun _ _ _ _ _ => pv 0)) pa_nil)) pa_nil)) (pa_cons (pv 3) pa_nil))))))), ?_⟩
  have hL20 : (20000 : Nat) ≤ sizeLine := by decide +kernel
  have h8 := ad.h8
  have kl := ad.kl
  have wl := ad.tw.len
  rw [List.length_map] at wl
  generalize hE : e + m + 1 = E1 at h8 k ⊢
  intro D nD
  have s1 : Same H (upd H D (dJ P w D [])) := same_upd nD
  have d0 : DAt P w K (upd H D (dJ P w D [])) D [] (fun _ => zero) := ⟨⟨[], ⟨upd_same, fun p m => (by cases m)⟩, .nil⟩, fun t m => (by cases m), List.nodup_nil⟩
  generalize upd H D (dJ P w D []) = H0 at s1 d0 ⊢
  refine gname_of ?_
  try dsimp only
  refine ⟨by show 2 ≤ sizeLine; decide, fun z0 nz0 => ?_⟩
  have s2 := same_upd (o := .tup [.int 0, .int 1]) nz0
  have hz0 := upd_same (H := H0) (a := z0) (o := .tup [.int 0, .int 1])
  have d1 := d0.same s2
  have sA := s1.trans s2
  generalize upd H0 z0 (.tup [.int 0, .int 1]) = HA at s2 hz0 d1 sA ⊢
  refine gname_of ?_
  try dsimp only
  refine ⟨_, rfl, lw, rfl, ⟨_, SqL.of (sA _ _ ad.hw)⟩, ?_⟩
  refine for_list (xs := wvs) (fun i σ H' => Same H H' ∧ ∃ (keys : List Tr) (g : Tr → Fr) (r : Addr) (tt : Fr) (v4 v5 v6 v7 : Option V), σ = [some (.ref lb), some (.ref lw), some (.ref D), some (.ref r), v4, v5, v6, v7] ∧ Ds P w K H' D (flatP bs (ks.take i)) E1 keys g ∧ H' r = some (.tup [.int tt.1, .int tt.2]) ∧ Sh tt ∧ rv tt = totR bs (ks.take i) ∧ Gf (1 + i * E1) tt)
    ⟨sA, [], _, z0, zero, none, none, none, none, rfl, ⟨d1, by rw [List.take_zero]; exact Sd.nil _, (fun t m => by cases m), Nat.zero_le _⟩, hz0, sh_zero, by rw [List.take_zero, rv_zero]; rfl, Gf.one (by omega)⟩ (fun i σ H' _ p => SqL.of (p.1 _ _ ad.hw)) ?_ ?_
  · rintro i x σ H1 ex ⟨sH, keys, g, r, tt, v4, v5, v6, v7, rfl, hDs, hr', shT, eT, gT'⟩
    obtain ⟨t, et, ht⟩ := ad.tw.get' ex
    rw [List.getElem?_map] at et
    obtain ⟨kk, ek, rfl⟩ := Option.map_eq_some_iff.mp et
    have mk := List.mem_of_getElem? ek
    have ilt : i < ks.length := (List.getElem?_eq_some_iff.mp ek).1
    obtain ⟨pw, rw', rfl, hpw, hrw⟩ := wt_at ht
    obtain ⟨shK, gK⟩ := ad.kg kk mk
    obtain ⟨pb, xu, rm, eb, hpb, hxu, hrm⟩ := get_bd ad.tb (ad.kb kk mk)
    have gB := ad.gb _ (bdAt_mem (ad.kb kk mk))
    obtain ⟨au, xs, rfl, hau, hxs⟩ := at_t hxu
    have xl := hxs.len
    rw [List.length_map] at xl
    have etk := take_get ek
    have ul := asc_len gB.asc gB.mem
    have tl := ad.tl
    have fl := Su.flat_len ad.gb (ks := ks.take i) fun x m => ad.kb x (List.mem_of_mem_take m)
    rw [List.length_take] at fl
    have fl2 : (min i ks.length) * T.length ≤ 8 * 5 := Nat.mul_le_mul (by omega) tl
    have c8 : ∀ (t : Tr) (j : Nat), cnt t (flatP bs (ks.take i) ++ ((bdAt bs kk.1).us.take j).map (scale kk.2)) ≤ 8 := fun t j => by
      have h1 := flat_cnt ad.gb t (ks := ks.take i) fun x m => ad.kb x (List.mem_of_mem_take m)
      rw [List.length_take] at h1
      have h2 := cnt_asc (t := t) (asc_take gB.asc j)
      rw [cnt_app, cnt_map (f := scale kk.2) fun _ => rfl]
      omega
    have b8 : ∀ c : Nat, c ≤ 8 → 1 + c * E1 ≤ 8000 := fun c hc => by
      have : c * E1 ≤ 8 * E1 := Nat.mul_le_mul_right _ hc
      omega
    refine ⟨pw, _, rfl, SqT.of (sH _ _ hpw), rfl, _, _, rfl, _, _, rfl, rfl, ?_⟩
    refine ⟨_, rfl, _, rfl, lb, bvs, _, _, rfl, rfl, SqL.of (sH _ _ ad.hb), eb, pb, _, 0, _, rfl, rfl, SqT.of (sH _ _ hpb), rfl, au, rfl, ⟨_, SqT.of (sH _ _ hau)⟩, ?_⟩
    refine for_tup (xs := xs) (fun j σ H' => Same H H' ∧ ∃ (keys : List Tr) (g : Tr → Fr) (v6 v7 : Option V), σ = [some (.ref lb), some (.ref lw), some (.ref D), some (.ref r), some (.int (kk.1 : Int)), some (.ref rw'), v6, v7] ∧ Ds P w K H' D (flatP bs (ks.take i) ++ ((bdAt bs kk.1).us.take j).map (scale kk.2)) E1 keys g ∧ H' r = some (.tup [.int tt.1, .int tt.2]))
      ⟨sH, keys, g, v6, v7, rfl, by rw [List.take_zero, List.map_nil, List.append_nil]; exact hDs, hr'⟩ (fun j σ H' _ p => SqT.of (p.1 _ _ hau)) ?_ ?_
    · clear hDs hr' sH keys g v6 v7 v4 v5
      rintro j x σ H2 ex2 ⟨sH, keys, g, v6, v7, rfl, hDs, hr'⟩
      obtain ⟨t', et', ht'⟩ := hxs.get' ex2
      rw [List.getElem?_map] at et'
      obtain ⟨⟨tm, fr⟩, eq, rfl⟩ := Option.map_eq_some_iff.mp et'
      have gu := gB.gq _ (List.mem_of_getElem? eq)
      have jlt : j < (bdAt bs kk.1).us.length := (List.getElem?_eq_some_iff.mp eq).1
      obtain ⟨T', xt, xf, rfl, hT', hxt, hxf⟩ := pair_at ht'
      obtain ⟨rf, rfl, hrf⟩ := at_fr hxf
      have tyt := gu.ty
      have dpt := gu.dep
      have gfr := gu.gf
      have shr := gu.sh
      dsimp only at hxt tyt dpt gfr shr
      obtain ⟨bt, rfl⟩ := tm_ref tyt hxt
      have e8 := c8 tm j
      have ets : ((bdAt bs kk.1).us.take (j + 1)).map (scale kk.2) = ((bdAt bs kk.1).us.take j).map (scale kk.2) ++ [scale kk.2 (tm, fr)] := by rw [take_get eq, List.map_append]; rfl
      have e9 := c8 tm (j + 1)
      have dl : (flatP bs (ks.take i) ++ ((bdAt bs kk.1).us.take j).map (scale kk.2)).length ≤ 45 := by
        rw [List.length_append, List.length_map, List.length_take]
        omega
      generalize hds : flatP bs (ks.take i) ++ ((bdAt bs kk.1).us.take j).map (scale kk.2) = ds at hDs e8 dl
      have eds : flatP bs (ks.take i) ++ ((bdAt bs kk.1).us.take (j + 1)).map (scale kk.2) = ds ++ [scale kk.2 (tm, fr)] := by rw [ets, ← List.append_assoc, hds]
      rw [eds] at e9 ⊢
      have ec : cnt tm (ds ++ [scale kk.2 (tm, fr)]) = cnt tm ds + 1 := by rw [cnt_app, cnt_one tm _ rfl]
      rw [ec] at e9
      refine ⟨T', _, rfl, SqT.of (sH _ _ hT'), rfl, _, _, rfl, _, _, rfl, rfl, ?_⟩
      obtain ⟨kvs, dj, kl', vin, vout⟩ := hDs.da.val tyt
      refine ⟨_, rfl, D, kvs, rfl, dj, _, rfl, by show 2 ≤ sizeLine; decide, fun p np => ?_⟩
      have sp := same_upd (o := .tup [.int 0, .int 1]) np
      have hDs2 := hDs.same sp
      have dj2 := dj.kd (Kd.of_same sp) (sp _ _ dj.at_)
      have sH2 := sH.trans sp
      have hxt2 := hxt.mono (Kd.of_same sH2)
      refine ⟨bt, ktL tm, rfl, dj2, key_tm tyt dpt hxt2, ?_⟩
      obtain ⟨z, ez, hz⟩ : ∃ z, (valJ kvs (ktL tm)).getD (.ref p) = z ∧ TrAt (upd H2 p (.tup [.int 0, .int 1])) z (frT (if tm ∈ keys then g tm else zero)) := by
        by_cases m : tm ∈ keys
        · obtain ⟨v, e1, e2⟩ := vin m
          rw [e1, if_pos m]
          exact ⟨v, rfl, e2.mono (Kd.of_same sp)⟩
        · rw [vout m, if_neg m]
          exact ⟨_, rfl, at_ints upd_same⟩
      rw [ez]
      have gq : Gf (1 + cnt tm ds * E1) (if tm ∈ keys then g tm else zero) := by
        split
        · rename_i m
          exact hDs.gf tm m
        · exact Gf.one (by omega)
      have rq : rv (if tm ∈ keys then g tm else zero) = if tm ∈ keys then rv (g tm) else 0 := by
        split
        · rfl
        · exact rv_zero
      have hr2 := sp _ _ hr'
      generalize upd H2 p (.tup [.int 0, .int 1]) = H3 at sp hDs2 dj2 hz sH2 hxt2 hr2 ⊢
      generalize (if tm ∈ keys then g tm else zero) = q at gq rq hz
      refine ⟨_, rfl, _, rfl, .ref rf, .ref rw', fr, kk.2, e, m, rfl, at_ints (sH2 _ _ hrf), at_ints (sH2 _ _ hrw), gfr, gK, by omega, fun y H4 nw s4 hy shn ern gfn => ?_⟩
      refine ⟨z, y, q, nw, 1 + cnt tm ds * E1, e + m, rfl, hz.mono (Kd.of_same s4), hy, gq, gfn, by have := b8 _ e9; rw [Nat.succ_mul] at this; omega, fun y2 H5 nv s5 hy2 shv erv gfv => ?_⟩
      have hDs5 := hDs2.same (s4.trans s5)
      have sH5 := sH2.trans (s4.trans s5)
      have hxt5 := hxt2.mono (Kd.of_same (s4.trans s5))
      have hr5 := s5 _ _ (s4 _ _ hr2)
      obtain ⟨kvs3, dj3, pr3⟩ := hDs5.da.ex
      have kl3 : kvs3.length = keys.length := Paired.length pr3
      have kl4 := hDs.len
      refine ⟨_, rfl, _, rfl, D, bt, ktL tm, kvs3, rfl, rfl, dj3, key_tm tyt dpt hxt5, by omega, ?_⟩
      refine ⟨same_wr nD sH5, addK keys tm, setG g tm nv, _, _, rfl, ⟨hDs5.da.put tyt dpt hxt5 hy2 dj3 (fun _ => pr3), ?_, fun t m' => ?_, ?_⟩, ?_⟩
      · refine hDs.sd.add (p := scale kk.2 (tm, fr)) shv ?_
        show rv nv = (if tm ∈ keys then rv (g tm) else 0) + rv (timesF fr kk.2)
        rw [erv, ern, rq, rv_times shr shK]
      · unfold setG
        by_cases z' : t = tm
        · rw [if_pos z', z', ec]
          have : 1 + (cnt tm ds + 1) * E1 = 1 + cnt tm ds * E1 + (e + m) + 1 := by rw [Nat.succ_mul]; omega
          rw [this]
          exact gfv
        · rw [if_neg z']
          have mt : t ∈ keys := by
            unfold addK at m'
            split at m'
            · exact m'
            · rcases List.mem_append.mp m' with m' | m'
              · exact m'
              · exact absurd (List.mem_singleton.mp m') z'
          refine (hDs.gf t mt).mono ?_
          have : cnt t ds ≤ cnt t (ds ++ [scale kk.2 (tm, fr)]) := by rw [cnt_app]; omega
          have := Nat.mul_le_mul_right E1 this
          omega
      · rw [List.length_append, List.length_singleton]
        unfold addK
        split
        · omega
        · rw [List.length_append, List.length_singleton]
          omega
      · rw [upd_ne (fun z' => by
          have := dj3.at_
          rw [← z', hr5] at this
          cases this)]
        exact hr5
    · clear hDs hr' sH keys g v6 v7 v4 v5
      rintro σ H2 ⟨sH, keys, g, v6, v7, rfl, hDs, hr'⟩
      rw [xl, List.take_length] at hDs
      refine tnx_of ?_
      try dsimp only
      have bt : 1 + i * E1 ≤ 8000 := b8 i (by omega)
      have bt2 := b8 (i + 1) (by omega)
      rw [Nat.succ_mul] at bt2
      refine ⟨_, rfl, _, rfl, _, rfl, lb, bvs, _, _, rfl, rfl, SqL.of (sH _ _ ad.hb), eb, pb, _, 1, _, rfl, rfl, SqT.of (sH _ _ hpb), rfl, _, rfl, .ref rm, .ref rw', (bdAt bs kk.1).m, kk.2, e, m, rfl, at_ints (sH _ _ hrm), at_ints (sH _ _ hrw), gB.gf, gK, by omega, fun y H4 nw s4 hy shn ern gfn => ?_⟩
      refine ⟨.ref r, y, tt, nw, 1 + i * E1, e + m, rfl, at_ints (s4 _ _ hr'), hy, gT', gfn, by omega, fun y2 H5 nv s5 hy2 shv erv gfv => ?_⟩
      obtain ⟨r2, rfl, hr2⟩ := at_fr hy2
      refine ⟨sH.trans (s4.trans s5), keys, g, r2, nv, _, _, _, _, rfl, ?_, hr2, shv, ?_, ?_⟩
      · rw [etk, flatP_app, flatP_one]
        exact hDs.same (s4.trans s5)
      · rw [erv, ern, eT, etk, totR_app, totR_one]
      · have : 1 + (i + 1) * E1 = 1 + i * E1 + (e + m) + 1 := by rw [Nat.succ_mul]; omega
        rw [this]
        exact gfv
  · rintro σ H1 ⟨sH, keys, g, r, tt, v4, v5, v6, v7, rfl, hDs, hr', shT, eT, gT'⟩
    rw [wl] at gT'
    rw [wl, List.take_length] at hDs eT
    have fl := Su.flat_len ad.gb ad.kb
    have fl2 : ks.length * T.length ≤ 8 * 5 := Nat.mul_le_mul ad.kl ad.tl
    have klen := hDs.len
    have cn : ∀ t, cnt t (flatP bs ks) ≤ ks.length := fun t => flat_cnt ad.gb t ad.kb
    have gk : ∀ t ∈ keys, Gq (1 + ks.length * E1) (t, g t) := fun t m => ⟨(hDs.da.ty t m).1, (hDs.da.ty t m).2, (hDs.gf t m).mono (by have := Nat.mul_le_mul_right E1 (cn t); show 1 + _ ≤ _; omega), hDs.sd.sh t m⟩
    obtain ⟨kvs, dj, pr⟩ := hDs.da.ex
    have kvl : kvs.length = keys.length := Paired.length pr
    dsimp only
    refine tret_tup2 ?_
    refine tcb2_of ?_
    refine tcompT_of rfl ?_
    refine ⟨_, rfl, D, kvs, rfl, rfl, dj, fun vw nvw => ?_⟩
    have sv := same_upd (o := ViewI vw D) nvw
    have djv := dj.kd (Kd.of_same sv) (sv _ _ dj.at_)
    have prv := en_mono (Kd.of_same sv) pr
    have hrv := sv _ _ hr'
    have hvw := upd_same (H := H1) (a := vw) (o := ViewI vw D)
    have sHv := sH.trans sv
    generalize upd H1 vw (ViewI vw D) = H2 at sv djv prv hrv hvw sHv ⊢
    refine ⟨vw, D, kvs, rfl, hvw, djv, fun ob D2 nD2 => ?_⟩
    have kdz : Kd H2 (upd H2 D (.frz ob (dJ P w D kvs))) := Kd.updJ djv.at_
    have sHz : Same H (upd H2 D (.frz ob (dJ P w D kvs))) := same_wr nD sHv
    have prz := en_mono kdz prv
    have hDz := upd_same (H := H2) (a := D) (o := .frz ob (dJ P w D kvs))
    have hrz := kdz.tup _ _ hrv
    generalize upd H2 D (.frz ob (dJ P w D kvs)) = H3 at kdz sHz prz hDz hrz nD2 ⊢
    refine comp_itemsT (fun i acc H' => Same H3 H' ∧ H' D2 = some (.lst acc) ∧ TrsAt H' acc ((outP g (keys.take i)).map prT)) ⟨same_upd nD2, upd_same, by rw [List.take_zero]; exact .nil⟩ (fun i acc H' p => p.1 _ _ hDz) ?_ ?_
    · rintro i Tt x y acc H4 hi ex ⟨s4, hD4, hA⟩ nT
      rw [List.length_map] at hi
      obtain ⟨⟨ek, eb, ev⟩, een, exy⟩ : ∃ en, kvs[i]? = some en ∧ (V.ref en.2.1, en.2.2) = (x, y) := by
        rw [List.getElem?_map] at ex
        obtain ⟨en, e1, e2⟩ := Option.map_eq_some_iff.mp ex
        exact ⟨en, e1, e2⟩
      cases exy
      obtain ⟨t, et, e1, e2, e3⟩ := paired_get prz een
      dsimp only at e1 e2 e3 nT ⊢
      obtain ⟨rv', erv', hrv0⟩ := at_fr e3
      subst erv'
      have mt := List.mem_of_getElem? et
      have ilt : i < keys.length := (List.getElem?_eq_some_iff.mp et).1
      have sT := same_upd (o := .tup [.ref eb, .ref rv']) nT
      have kT := (Kd.of_same s4).trans (Kd.of_same sT)
      have hv := e3.mono kT
      have hrv' := sT _ _ (s4 _ _ hrv0)
      have hTt := upd_same (H := H4) (a := Tt) (o := .tup [.ref eb, .ref rv'])
      have s4T := s4.trans sT
      have hD4T := sT _ _ hD4
      have hA4 := hA.mono (Kd.of_same sT)
      have ht4 := e2.mono kT
      have nTD : Tt ≠ D2 := fun z => by rw [z, hD4] at nT; cases nT
      generalize upd H4 Tt (.tup [.ref eb, .ref rv']) = H5 at *
      have al := hA.len
      rw [List.length_map] at al
      have al2 : (outP g (keys.take i)).length ≤ keys.length := by
        unfold outP
        rw [List.length_map]
        refine Nat.le_trans (List.length_filter_le _ _) ?_
        rw [List.length_take]
        omega
      refine ⟨_, rfl, Tt, _, 1, .ref rv', rfl, rfl, SqT.of hTt, rfl, by show 2 ≤ sizeLine; decide, fun z nz => ?_⟩
      have sz := same_upd (o := .tup [.int 0, .int 1]) nz
      have hz := upd_same (H := H5) (a := z) (o := .tup [.int 0, .int 1])
      refine ⟨rv', z, (g t).1, (g t).2, 0, 1, rfl, rfl, SqT.of (sz _ _ hrv'), SqT.of hz, _, rfl, ?_⟩
      rw [fr_ne (hDs.sd.sh t mt)]
      have ef : outP g (keys.take (i + 1)) = outP g (keys.take i) ++ (if decide ((g t).1 ≠ 0) = true then [(t, g t)] else []) := by
        unfold outP
        rw [take_get et, List.filter_append, List.map_append, List.filter_cons]
        split <;> rfl
      have kz := Kd.of_same sz
      refine ite2 (fun y => ?_) (fun y => CompS.mk (by rw [List.length_map]; exact hi) ⟨s4T.trans sz, sz _ _ hD4T, ?_⟩)
      · have hD6 := sz _ _ hD4T
        have kd := kz.trans (Kd.upd (ys := acc ++ [.ref Tt]) hD6)
        refine ⟨_, rfl, CompN.mk (by rw [List.length_map]; exact hi) (by omega) hD6 ⟨same_wr nD2 (s4T.trans sz), upd_same, ?_⟩⟩
        rw [ef, if_pos y, List.map_append]
        exact TrsAt.app (.cons (at_pair ((upd_ne nTD).trans (sz _ _ hTt)) (ht4.mono kd) (hv.mono kd)) .nil) (hA4.mono kd)
      · rw [ef, if_neg y, List.append_nil]
        exact hA4.mono kz
    · rintro acc H4 ⟨s4, hD4, hA⟩
      rw [List.length_map, kvl, List.take_length] at hA
      have ol : (outP g keys).length ≤ keys.length := by
        unfold outP
        rw [List.length_map]
        exact List.length_filter_le _ _
      have tyT : ∀ t ∈ (outP g keys).map prT, Ty .pr t ∧ t.depth ≤ 8 := fun t m => by
        obtain ⟨p, mp, rfl⟩ := List.mem_map.mp m
        unfold outP at mp
        obtain ⟨t, mt, rfl⟩ := List.mem_map.mp mp
        exact (gk t (List.mem_filter.mp mt).1).pr
      refine ⟨D2, acc, _, rfl, hD4, hA, by rw [List.length_map]; omega, fun t m => ⟨ty_hd (.inr (tyT t m).1), ty_pure (tyT t m).1, by have := (tyT t m).2; omega⟩, fun t m u mu => ty_cm 30 (by have := (tyT t m).2; omega) (tyT t m).1 (tyT u mu).1, fun S ws' us' nS pm hT' srt => ?_⟩
      obtain ⟨qs, rfl, pq⟩ := perm_map pm rfl
      have sS := same_upd (o := .lst ws') nS
      have hcan := hDs.sd.canP hDs.da.nd (fun t m => (hDs.da.ty t m).1) pq fun i j p q hij e1 e2 => srt i j _ _ hij (by rw [List.getElem?_map, e1]; rfl) (by rw [List.getElem?_map, e2]; rfl)
      refine ⟨S, ws', rfl, .inl ⟨SqL.of upd_same, fun p np => ?_⟩⟩
      have sp := same_upd (o := .tup ws') np
      have hT2 := hT'.mono (Kd.of_same (sS.trans sp))
      refine ⟨_, rfl, by show 2 ≤ sizeLine; decide, fun p2 np2 => ?_⟩
      have sp2 := same_upd (o := .tup [.ref p, .ref r]) np2
      have sall := s4.trans (sS.trans (sp.trans sp2))
      refine k p2 r (.ref p) qs tt _ (sHz.trans sall) upd_same (at_tup (sp2 _ _ upd_same) (hT2.mono (Kd.of_same sp2))) (sall _ _ hrz) hcan (fun u m => ?_) shT eT gT'
      have m := pq.mem_iff.mp m
      unfold outP at m
      obtain ⟨t, mt, rfl⟩ := List.mem_map.mp m
      exact gk t (List.mem_filter.mp mt).1
end
end K38
set_option Elab.async false
set_option linter.all false
set_option maxHeartbeats 400000
namespace L2
open PySem Tre
def litEs (f : Expr → Option Tr) : List Expr → Option (List Tr)
  | [] => some []
  | e :: es => match f e, litEs f es with
    | some t, some ts => some (t :: ts)
    | _, _ => none
def litE : Nat → Expr → Option Tr
  | 0, _ => none
  | n + 1, e => match e with
    | .Constant (.str x) _ _ => some (.str x)
    | .Constant (.int i) _ _ => some (.int i)
    | .UnaryOp .USub (.Constant (.int i) _ _) _ => some (.int (-i))
    | .Tuple es _ _ => if es.length ≤ 100 then (litEs (litE n) es).map .tup else none
    | _ => none
def litL (n : Nat) : Expr → Option (List Tr)
  | .List es _ => if es.length ≤ 100 then litEs (litE n) es else none
  | _ => none
def tLit (t : Tr) : TE := fun _ H Q => ∀ v H', Same H H' → TrAt H' v t → Q v H'
def tLits (ts : List Tr) : TA := fun _ H Q => ∀ vs H', Same H H' → TrsAt H' vs ts → Q vs H'
def tLitL (ts : List Tr) : TE := fun _ H Q => ∀ r vs H', Same H H' → H r = none → H' r = some (.lst vs) → TrsAt H' vs ts → Q (.ref r) H'
section
variable {X : Cx}
theorem PE.imp {e : Expr} {t u : TE} (h : PE X e t) (k : ∀ σ H Q, u σ H Q → t σ H Q) : PE X e u := fun pins s σ H Q I q => h pins s σ H Q I (k σ H Q q)
theorem PA.imp {es : List Expr} {t u : TA} (h : PA X es t) (k : ∀ σ H Q, u σ H Q → t σ H Q) : PA X es u := fun pos pins s σ H Q I q => h pos pins s σ H Q I (k σ H Q q)
theorem same_up {H : Hp} {p : Addr} {o : HO} (h : H p = none) : Same H (upd H p o) := fun b u e => by
  rw [upd_ne (ne_of_none e h)]
  exact e
theorem Same.none {H H' : Hp} {p : Addr} (s : Same H H') (h : H' p = none) : H p = none := by
  cases e : H p with
  | none => rfl
  | some o => rw [s p o e] at h; cases h
theorem lits_len : ∀ {n : Nat} {es : List Expr} {ts : List Tr}, litEs (litE n) es = some ts → ts.length = es.length
  | n, [], ts, h => by
    rw [litEs] at h
    cases h
    rfl
  | n, e :: es, ts, h => by
    rw [litEs] at h
    split at h
    · rename_i t us h1 h2
      cases h
      rw [List.length_cons, List.length_cons, lits_len h2]
    · cases h
theorem pe_litB : ∀ n, ∀ e t, litE n e = some t → PE X e (tLit t) ∧ ∀ es, starEach (e :: es) X.env = (false, eval e X.env) :: starEach es X.env := by
  intro n
  induction n with
  | zero =>
    intro e t h
    rw [litE] at h
    cases h
  | succ n ih =>
    have many : ∀ es ts, litEs (litE n) es = some ts → PA X es (tLits ts) := by
      intro es
      induction es with
      | nil =>
        intro ts h
        rw [litEs] at h
        cases h
        exact PA.imp pa_nil fun σ H Q q => q [] H (Same.refl H) .nil
      | cons e es ih2 =>
        intro ts h
        rw [litEs] at h
        split at h
        · rename_i t us h1 h2
          cases h
          obtain ⟨a1, a2⟩ := ih e t h1
          refine PA.imp (pa_cons a1 (ih2 us h2) (a2 es)) fun σ H Q q => ?_
          intro v H1 s1 hv ws H2 s2 hw
          exact q (v :: ws) H2 (s1.trans s2) (.cons (hv.mono (Kd.of_same s2)) hw)
        · cases h
    intro e t h
    unfold litE at h
    split at h
    · cases h
      exact ⟨PE.imp pe_str fun σ H Q q => q _ H (Same.refl H) at_str, fun es => rfl⟩
    · cases h
      exact ⟨PE.imp pe_int fun σ H Q q => q _ H (Same.refl H) (by unfold TrAt; rfl), fun es => rfl⟩
    · cases h
      exact ⟨PE.imp (pe_un un_neg pe_int) fun σ H Q q => ⟨_, rfl, q _ H (Same.refl H) (by unfold TrAt; rfl)⟩, fun es => rfl⟩
    · rename_i es k pos
      split at h
      · rename_i hl
        obtain ⟨ts, h1, h2⟩ := Option.map_eq_some_iff.mp h
        cases h2
        refine ⟨PE.imp (pe_tup (many es ts h1)) fun σ H Q q => ?_, fun es => rfl⟩
        intro vs H1 s1 hv
        have l1 := hv.len
        have l2 := lits_len h1
        refine ⟨by have : (100 : Nat) ≤ sizeLine := by decide +kernel
                   omega, fun p np => ?_⟩
        have s2 := same_up (o := .tup vs) np
        exact q (.ref p) _ (s1.trans s2) (at_tup upd_same (hv.mono (Kd.of_same s2)))
      · cases h
    · cases h
theorem pa_lits (n : Nat) : ∀ {es : List Expr} {ts : List Tr}, litEs (litE n) es = some ts → PA X es (tLits ts)
  | [], ts, h => by
    rw [litEs] at h
    cases h
    exact PA.imp pa_nil fun σ H Q q => q [] H (Same.refl H) .nil
  | e :: es, ts, h => by
    rw [litEs] at h
    split at h
    · rename_i t us h1 h2
      cases h
      obtain ⟨a1, a2⟩ := pe_litB (X := X) n e t h1
      refine PA.imp (pa_cons a1 (pa_lits n h2) (a2 es)) fun σ H Q q => ?_
      intro v H1 s1 hv ws H2 s2 hw
      exact q (v :: ws) H2 (s1.trans s2) (.cons (hv.mono (Kd.of_same s2)) hw)
    · cases h
theorem pe_lit (n : Nat) {e : Expr} {t : Tr} (h : litE n e = some t) : PE X e (tLit t) := (pe_litB n e t h).1
theorem pe_litL (n : Nat) {e : Expr} {ts : List Tr} (h : litL n e = some ts) : PE X e (tLitL ts) := by
  unfold litL at h
  split at h
  · rename_i es pos
    split at h
    · rename_i hl
      refine PE.imp (pe_lst (pa_lits n h)) fun σ H Q q => ?_
      intro vs H1 s1 hv
      have l1 := hv.len
      have l2 := lits_len h
      refine ⟨by have : (100 : Nat) ≤ sizeLine := by decide +kernel
                 omega, fun p np => ?_⟩
      have s2 := same_up (o := .lst vs) np
      exact q p vs _ (s1.trans s2) (s1.none np) upd_same (hv.mono (Kd.of_same s2))
    · cases h
  · cases h
end
end L2
set_option Elab.async false
set_option linter.all false
set_option maxRecDepth 100000
set_option maxHeartbeats 4000000
namespace L2
open PySem Tre
def asgV : Stmt → Expr
  | .Assign _ v _ => v
  | _ => .Constant .none 0 ⟨0, 0, 0, 0⟩
def asgW (s : Stmt) (L : Expr) : Stmt := match s with
  | .Assign ts _ p => .Assign ts L p
  | s => s
theorem swaps_lit {n : Nat} {L : Expr} {ts : List Tr} (h : litL n L = some ts) {tg : Option Expr} {line : Nat} {env : Env} : swapsWith L tg line env = pure false := by
  unfold litL at h
  split at h
  · rfl
  · cases h
def expV : Stmt → Expr
  | .Expr (.Call _ (v :: _) _ _) _ => v
  | _ => .Constant .none 0 ⟨0, 0, 0, 0⟩
def expW (s : Stmt) (L : Expr) : Stmt := match s with
  | .Expr (.Call f (_ :: r) k p) q => .Expr (.Call f (L :: r) k p) q
  | s => s
end L2
namespace K38
open PySem L2 Mth Tre Wd Su
abbrev tN (x : String) : Tr := .tup [.str (Str.ofString "name"), .str (Str.ofString x)]
abbrev tC' (f : String) (ts : List Tr) : Tr := .tup [.str (Str.ofString "call"), .str (Str.ofString f), .tup ts]
def T4 : List Tr := [tN "x", tN "y", tC' "f" [tN "x"], tN "zz"]
def t5 : Tr := tC' "g" [tC' "f" [tN "y"], tN "x"]
def T5 : List Tr := T4 ++ [t5]
theorem ty_n (x : String) : Ty .tm (tN x) := .nm _
theorem ty_c (f : String) {ts : List Tr} (h : ts.length ≤ 3) (ht : ∀ t ∈ ts, Ty .tm t) : Ty .tm (tC' f ts) := .ap _ _ h ht
theorem T5_ty : ∀ t ∈ T5, Ty .tm t ∧ t.depth ≤ 7 := by
  intro t m
  simp only [T5, T4, t5, List.cons_append, List.nil_append, List.mem_cons, List.not_mem_nil, or_false] at m
  rcases m with rfl | rfl | rfl | rfl | rfl
  · exact ⟨ty_n _, by simp [Tr.depth, Trs.depth]⟩
  · exact ⟨ty_n _, by simp [Tr.depth, Trs.depth]⟩
  · exact ⟨ty_c _ (by decide) (by simp only [List.mem_cons, List.not_mem_nil, or_false]; rintro t rfl; exact ty_n _), by simp [Tr.depth, Trs.depth]⟩
  · exact ⟨ty_n _, by simp [Tr.depth, Trs.depth]⟩
  · refine ⟨ty_c _ (by decide) ?_, by simp [Tr.depth, Trs.depth]⟩
    simp only [List.mem_cons, List.not_mem_nil, or_false]
    rintro t (rfl | rfl)
    · exact ty_c _ (by decide) (by simp only [List.mem_cons, List.not_mem_nil, or_false]; rintro t rfl; exact ty_n _)
    · exact ty_n _
theorem T5_nd : T5.Nodup := by
  have cl : ∀ {x y : String}, (Str.ofString x).cps.toList ≠ (Str.ofString y).cps.toList → Str.ofString x ≠ Str.ofString y := fun h e => h (by rw [e])
  have h1 : Str.ofString "x" ≠ Str.ofString "y" := cl (by decide +kernel)
  have h2 : Str.ofString "x" ≠ Str.ofString "zz" := cl (by decide +kernel)
  have h3 : Str.ofString "y" ≠ Str.ofString "zz" := cl (by decide +kernel)
  have h4 : Str.ofString "f" ≠ Str.ofString "g" := cl (by decide +kernel)
  simp [T5, T4, t5, h1, h2, h3, h4]
def mW (ns : List Int) : Nat := if drawF ns 3 2 = 0 then 21 else 3
theorem mW_le (ns : List Int) : mW ns ≤ 21 ∧ 3 ≤ mW ns := by unfold mW; split <;> omega
theorem cut_head (vs : List V) (j : Nat) : cutV vs none (some (j : Int)) = vs.take j := by
  unfold cutV
  rw [HT.sIx_nat, HT.sIx_none, List.drop_zero, Nat.sub_zero, List.take_eq_take_iff]
  omega
theorem TrsAt.take {H : Hp} : ∀ {vs : List V} {ts : List Tr} (n : Nat), TrsAt H vs ts → TrsAt H (vs.take n) (ts.take n)
  | _, _, 0, h => by
    rw [List.take_zero, List.take_zero]
    exact .nil
  | vs, [], n + 1, h => by
    unfold Tre.TrsAt at h
    subst h
    exact .nil
  | vs, t :: ts, n + 1, h => by
    obtain ⟨v, r, rfl, h1, h2⟩ := h.inv
    exact .cons h1 (TrsAt.take n h2)
section
variable {P : Program} {w : World} {K : PySem.W.Frag} {mg : Str → Option Value} {base : Heap}
def spTerms (K : PySem.W.Frag) : Sp := fun vs H Q _ => ∃ (a : Addr) (ns : List Int), vs = [.ref a] ∧ SqL K H a (ns.map V.int) ∧ ns.length ≤ 63 ∧
  ∀ (l : Addr) (ws : List V) (n : Nat) (H' : Hp), Same H H' → H l = none → H' l = some (.lst ws) → TrsAt H' ws (T5.take n) → 1 ≤ n → n ≤ 5 → Q (.ref l) H'
theorem scTs : FnScope ["_law_script", "_law_some"] ["_law_script"] (defScope sTerms) := ⟨rfl, rfl, rfl, by decide +kernel, rfl, by decide +kernel, by decide +kernel⟩
abbrev bdT_ (i : Nat) : Stmt := (defBody sTerms).getD i (.Pass ⟨0, 0, 0, 0⟩)
theorem ts_eB : defBody sTerms = asgW (bdT_ 0) (asgV (bdT_ 0)) :: expW (bdT_ 1) (expV (bdT_ 1)) :: (defBody sTerms).drop 2 := rfl
theorem ts_e1 : litL 9 (asgV (bdT_ 0)) = some T4 := rfl
theorem ts_e2 : litE 9 (expV (bdT_ 1)) = some t5 := rfl
theorem ok_terms {f fD : Addr} {fd dD : FuncData} (F : Fun K "_law_terms" "_law_terms" sTerms f fd)
    (gD : FnOk P w K mg base CX0 1 fD dD ["_law_script", "_law_k", "_law_many"] (spDraw K)) (kD : PySem.W.keepIn K (.ref fD) = true) (bD : Binds K dD ["_law_script", "_law_k", "_law_many"] []) (mD : mg "_law_draw" = some (.ref fD)) : FnOk P w K mg base CX0 2 f fd ["_law_script"] (spTerms K) := by
  refine F.ok scTs (fun vs H Q E h => ?_) (fun cdv A outer s H vs Q E hr h => ?_)
  · obtain ⟨a, ns, rfl, _⟩ := h
    rfl
  obtain ⟨a, ns, rfl, hS, h63, k⟩ := h
  have eB := ts_eB
  have e1 := ts_e1
  have e2 := ts_e2
  rw [eB]
  clear eB
  generalize asgV (bdT_ 0) = L1 at e1 ⊢
  generalize expV (bdT_ 1) = L2' at e2 ⊢
  refine ⟨_, pss_cons (ps_set (i := 1) scTs.nd rfl (Or.inl rfl) (pe_litL 9 e1) (swaps_lit e1))
    (pss_cons (ps_expr (pe_bm PySem.F.plainAttrs_list PySem.F.slot_list_append PySem.F.type_list_append mt_append (pv 1) (pa_cons (pe_lit 9 e2) pa_nil ((pe_litB 9 _ _ e2).2 _)) rfl (by rw [(pe_litB 9 _ _ e2).2 _]; rfl) rfl ((pe_litB 9 _ _ e2).2 _)))
    (pss_one (ps_ret (pe_slice sl_list (pv 1) po_none (po_some (pe_op op_add pe_int (pe_call gD hr rfl mD kD bD .nil pass0 (pa_cons (pv 0) (pa_cons pe_int (pa_cons pe_int pa_nil)))))))))), ?_⟩
  have hL20 : (20000 : Nat) ≤ sizeLine := by decide +kernel
  intro l ws H1 s1 nl hl hT
  refine gname_of ?_
  try dsimp only
  refine ⟨_, rfl, .inl ⟨rfl, _, SqL.of hl⟩, ?_⟩
  intro v H2 s2 hv
  have wl := hT.len
  refine ⟨l, ws, v, rfl, rfl, s2 _ _ hl, by rw [wl]; show 4 < sizeLine; omega, ?_⟩
  have kd := Kd.upd (ys := ws ++ [v]) (s2 _ _ hl)
  have hl3 := upd_same (H := H2) (a := l) (o := .lst (ws ++ [v]))
  have sH : Same H (upd H2 l (.lst (ws ++ [v]))) := same_wr nl (s1.trans s2)
  have hT3 : TrsAt (upd H2 l (.lst (ws ++ [v]))) (ws ++ [v]) T5 := TrsAt.app (.cons (hv.mono kd) .nil) ((hT.mono (Kd.of_same s2)).mono kd)
  generalize upd H2 l (.lst (ws ++ [v])) = H3 at hl3 sH hT3 ⊢
  refine tnx_of ?_
  try dsimp only
  refine ⟨_, rfl, _, rfl, a, ns, 1, 5, rfl, SqL.same sH hS, h63, by decide, by decide, by decide, fun r r0 r5 _ => ?_⟩
  refine ⟨1, r, rfl, rfl, _, rfl, l, ws ++ [v], rfl, SqL.of hl3, fun p np => ?_⟩
  have sp := same_upd (o := .lst (cutV (ws ++ [v]) none (some (1 + r)))) np
  obtain ⟨n, rfl⟩ : ∃ n : Nat, r = (n : Int) := ⟨r.toNat, by omega⟩
  have ec : cutV (ws ++ [v]) none (some (1 + (n : Int))) = (ws ++ [v]).take (n + 1) := by
    rw [show 1 + (n : Int) = ((n + 1 : Nat) : Int) by omega]
    exact cut_head _ _
  refine k p _ (n + 1) _ (sH.trans sp) (sH.free np) upd_same ?_ (by omega) (by omega)
  rw [ec] at sp ⊢
  exact TrsAt.take _ (hT3.mono (Kd.of_same sp))
def spShare (K : PySem.W.Frag) : Sp := fun vs H Q _ => ∃ (a : Addr) (ns : List Int) (kk : Int), vs = [.ref a, .int kk] ∧ SqL K H a (ns.map V.int) ∧ ns.length ≤ 63 ∧ 0 ≤ kk ∧ kk ≤ 90000 ∧
  ∀ (r : Addr) (fr : Fr) (H' : Hp), Same H H' → H' r = some (.tup [.int fr.1, .int fr.2]) → Sh fr → Gf (mW ns) fr → Q (.ref r) H'
theorem scSh : FnScope ["_law_script", "_law_base", "_law_top", "_law_bottom"] ["_law_script", "_law_base"] (defScope sShare) := ⟨rfl, rfl, rfl, by decide +kernel, rfl, by decide +kernel, by decide +kernel⟩
theorem lt2_of {e : Nat} {x : Int} {b : Nat} (h : x.natAbs ≤ b) (hb : b < 2 ^ e) : Lt2 e x := Nat.lt_of_le_of_lt h hb
theorem ok_share {f fD fL : Addr} {fd dD dL : FuncData} (F : Fun K "_law_share" "_law_share" sShare f fd) (B : Blt mg)
    (gD : FnOk P w K mg base CX0 1 fD dD ["_law_script", "_law_k", "_law_many"] (spDraw K)) (kD : PySem.W.keepIn K (.ref fD) = true) (bD : Binds K dD ["_law_script", "_law_k", "_law_many"] []) (mD : mg "_law_draw" = some (.ref fD))
    (gL : FnOk P w K mg base CX0 1 fL dL ["_law_top", "_law_bottom"] spLow) (kL : PySem.W.keepIn K (.ref fL) = true) (bL : Binds K dL ["_law_top", "_law_bottom"] []) (mL : mg "_law_least" = some (.ref fL)) : FnOk P w K mg base CX0 2 f fd ["_law_script", "_law_base"] (spShare K) := by
  refine F.ok scSh (fun vs H Q E h => ?_) (fun cdv A outer s H vs Q E hr h => ?_)
  · obtain ⟨a, ns, kk, rfl, _⟩ := h
    rfl
  obtain ⟨a, ns, kk, rfl, hS, h63, k0, k9, k⟩ := h
  refine ⟨_, pss_cons (ps_set (i := 2) scSh.nd rfl (Or.inl rfl) (pe_op op_sub (pe_call gD hr rfl mD kD bD .nil pass0 (pa_cons (pv 0) (pa_cons (pv 1) (pa_cons pe_int pa_nil)))) pe_int))
    (pss_cons (ps_set (i := 3) scSh.nd rfl (Or.inl rfl) (pe_op op_add pe_int (pe_call gD hr rfl mD kD bD .nil pass0 (pa_cons (pv 0) (pa_cons (pe_op op_add (pv 1) pe_int) (pa_cons pe_int pa_nil))))))
    (pss_cons (ps_if (PW.pt (pw_and (pt_cmpR op_eq (pe_call gD hr rfl mD kD bD .nil pass0 (pa_cons (pv 0) (pa_cons pe_int (pa_cons pe_int pa_nil)))) pe_int (nomark _)) (pw_and (pt_cmpR op_eq (pe_call gD hr rfl mD kD bD .nil pass0 (pa_cons (pv 0) (pa_cons pe_int (pa_cons pe_int pa_nil)))) pe_int (nomark _)) (pw_and1 (pt_cmpR op_gt (pe_callB call_len_seq rfl B.le PySem.boot_len (pa_cons (pv 0) pa_nil)) pe_int (nomark _))))))
      (pss_cons (ps_set (i := 2) scSh.nd rfl (Or.inl rfl) (pe_op op_mulB (pe_op op_mod (pe_ix ix_list (pv 0) (pe_op op_mod (pv 1) (pe_callB call_len_seq rfl B.le PySem.boot_len (pa_cons (pv 0) pa_nil))) fun _ _ => rfl) (pe_op op_pow pe_int pe_int)) (pe_op op_sub pe_int (pe_op op_mul pe_int (pe_call gD hr rfl mD kD bD .nil pass0 (pa_cons (pv 0) (pa_cons (pv 1) (pa_cons pe_int pa_nil))))))))
      (pss_one (ps_set (i := 3) scSh.nd rfl (Or.inl rfl) (pe_op op_add pe_int (pe_op op_mod (pe_ix ix_list (pv 0) (pe_op op_mod (pe_op op_add (pv 1) pe_int) (pe_callB call_len_seq rfl B.le PySem.boot_len (pa_cons (pv 0) pa_nil))) fun _ _ => rfl) (pe_op op_pow pe_int pe_int)))))) pss_nil)
    (pss_one (ps_ret (pe_call gL hr rfl mL kL bL .nil pass0 (pa_cons (pv 2) (pa_cons (pv 3) pa_nil))))))), ?_⟩
  have fin : ∀ (t b : Int), 0 < b → Lt2 (mW ns) t → Lt2 (mW ns) b → ∀ (r : Addr) (H' : Hp), H r = none → H' = upd H r (.tup [.int (low t b).1, .int (low t b).2]) → Q (.ref r) H' := fun t b b0 l1 l2 r H' nr e => by
    subst e
    exact k r (low t b) _ (same_upd nr) upd_same (sh_low b0) (gf_low b0 l1 l2)
  have bg : ∀ {b : Int}, Lt2 (mW ns) b → Big b := fun h => h.big (by have := (mW_le ns).1; omega)
  have sml : ∀ {x : Int}, x.natAbs ≤ 4 → Lt2 (mW ns) x := fun h => (lt2_of h (show 4 < 2 ^ 3 by decide)).mono (mW_le ns).2
  refine ⟨_, rfl, _, rfl, a, ns, kk, 9, rfl, hS, h63, k0, by omega, by decide, fun r1 r10 r19 _ => ?_⟩
  refine ⟨r1, 4, rfl, rfl, ?_⟩
  refine ⟨_, rfl, _, rfl, kk, 1, rfl, rfl, a, ns, kk + 1, 4, rfl, hS, h63, by omega, by omega, by decide, fun r2 r20 r24 _ => ?_⟩
  refine ⟨1, r2, rfl, rfl, ?_⟩
  refine gname_of ?_
  try dsimp only
  refine seq_any (fun σ' H' => H' = H ∧ ∃ t b : Int, σ' = [some (.ref a), some (.int kk), some (.int t), some (.int b)] ∧ 0 < b ∧ Lt2 (mW ns) t ∧ Lt2 (mW ns) b) ?_ fun nx hnx => ?_
  · rintro σ' H' ⟨rfl, t, b, rfl, b0, l1, l2⟩
    exact ⟨_, rfl, _, rfl, t, b, rfl, b0, big_gcd (bg l2) (by omega), fin t b b0 l1 l2⟩
  have no : nx [some (.ref a), some (.int kk), some (.int (r1 - 4)), some (.int (1 + r2))] H := hnx _ _ ⟨rfl, r1 - 4, 1 + r2, rfl, by omega, sml (by omega), sml (by omega)⟩
  refine ⟨_, rfl, a, ns, 2, 4, rfl, hS, h63, by decide, by decide, by decide, fun r3 _ _ _ => ?_⟩
  refine ⟨rfl, _, rfl, ?_⟩
  refine ite2 (fun _ => ?_) (fun _ => iteF no)
  refine ⟨_, rfl, a, ns, 3, 2, rfl, hS, h63, by decide, by decide, by decide, fun r4 _ _ e4 => ?_⟩
  refine ⟨rfl, _, rfl, ?_⟩
  refine ite2 (fun y4 => ?_) (fun _ => iteF no)
  refine ⟨_, rfl, a, _, rfl, .inl hS, _, 0, rfl, rfl, _, rfl, ?_⟩
  refine ite2 (fun y5 => ?_) (fun _ => no)
  have d3 : drawF ns 3 2 = 0 := by
    have := V.int.inj (of_decide_eq_true y4)
    rw [← e4]
    exact this
  have em : mW ns = 21 := by unfold mW; rw [if_pos d3]
  have lp : (0 : Int) < (ns.length : Int) := by
    have := of_decide_eq_true y5
    rwa [List.length_map] at this
  obtain ⟨z, hz, _⟩ := at_ixs (ns := ns) (i := kk % (ns.length : Int)) (Int.emod_nonneg _ (by omega)) (Int.emod_lt_of_pos _ lp)
  obtain ⟨y, hy, _⟩ := at_ixs (ns := ns) (i := (kk + 1) % (ns.length : Int)) (Int.emod_nonneg _ (by omega)) (Int.emod_lt_of_pos _ lp)
  have lm : ((ns.map V.int).length : Int) = (ns.length : Int) := by rw [List.length_map]
  refine ⟨_, rfl, _, rfl, _, rfl, a, _, rfl, .inl hS, kk, _, rfl, rfl, (by rw [List.length_map]; omega), a, _, kk % (ns.length : Int), .int z, rfl, (by rw [List.length_map]), hS, hz, 10, 6, rfl, rfl, ⟨by decide, by decide, by decide⟩, z, 1000000, rfl, rfl, (by show (0 : Int) < 1000000; decide), ?_⟩
  refine ⟨_, rfl, _, rfl, a, ns, kk, 2, rfl, hS, h63, k0, by omega, by decide, fun r5 r50 r52 _ => ?_⟩
  have z1 := Int.emod_nonneg z (show (1000000 : Int) ≠ 0 by decide)
  have z2 := Int.emod_lt_of_pos z (show (0 : Int) < 1000000 by decide)
  have y1 := Int.emod_nonneg y (show (100000 : Int) ≠ 0 by decide)
  have y2 := Int.emod_lt_of_pos y (show (0 : Int) < 100000 by decide)
  refine ⟨2, r5, rfl, rfl, .inl ⟨by decide, by decide⟩, 1, 2 * r5, rfl, rfl, z % 1000000, 1 - 2 * r5, rfl, rfl, ⟨big_of z1 (by omega), ?_⟩, ?_⟩
  · exact Nat.lt_of_le_of_lt (show (1 - 2 * r5).natAbs ≤ 1 by omega) (by decide +kernel)
  refine ⟨_, rfl, _, rfl, kk, 1, rfl, rfl, _, rfl, a, _, rfl, .inl hS, kk + 1, _, rfl, rfl, (by rw [List.length_map]; omega), a, _, (kk + 1) % (ns.length : Int), .int y, rfl, (by rw [List.length_map]), hS, hy, 10, 5, rfl, rfl, ⟨by decide, by decide, by decide⟩, y, 100000, rfl, rfl, (by show (0 : Int) < 100000; decide), 1, y % 100000, rfl, rfl, ?_⟩
  refine hnx _ _ ⟨rfl, z % 1000000 * (1 - 2 * r5), 1 + y % 100000, rfl, by omega, ?_, ?_⟩
  · rw [em]
    refine lt2_of (b := 1000000) ?_ (by decide)
    have : r5 = 0 ∨ r5 = 1 := by omega
    rcases this with rfl | rfl <;> omega
  · rw [em]
    exact lt2_of (b := 1000000) (by omega) (by decide)
end
end K38
set_option Elab.async false
set_option linter.all false
set_option maxRecDepth 100000
set_option maxHeartbeats 4000000
namespace K38
open PySem L2 Mth Tre Wd Su Dj
theorem asc_of {qs ps : List Pq} (pm : qs.Perm ps) (nd : (ps.map (·.1)).Nodup) (ty : ∀ p ∈ ps, Ty .tm p.1) (hr : ∀ (i j : Nat) (p q : Pq), i ≤ j → qs[i]? = some p → qs[j]? = some q → ltT (prT q) (prT p) = false) : Asc qs := by
  have ndq : (qs.map (·.1)).Nodup := by
    rw [(pm.map (·.1)).nodup_iff]
    exact nd
  unfold Asc
  rw [List.pairwise_iff_getElem]
  intro i j hi hj hij
  have le := le_pair (hr i j _ _ (by omega) (List.getElem?_eq_getElem hi) (List.getElem?_eq_getElem hj))
  refine lt_of le ?_
  cases q : eqT (qs[i]).1 (qs[j]).1 with
  | false => rfl
  | true =>
    have e := tm_eq (ty _ (pm.mem_iff.mp (List.getElem_mem hi))) (ty _ (pm.mem_iff.mp (List.getElem_mem hj))) q
    have n := List.nodup_iff_pairwise_ne.mp ndq
    rw [List.pairwise_iff_getElem] at n
    exact absurd (by rw [List.getElem_map, List.getElem_map]; exact e) (n i j (by rw [List.length_map]; exact hi) (by rw [List.length_map]; exact hj) hij)
def lv : Nat → Nat
  | 0 => 3
  | 1 => 3
  | k + 2 => 2 * lv (k + 1) + 8
theorem lv_mono : ∀ k, lv k ≤ lv (k + 1)
  | 0 => Nat.le_refl _
  | k + 1 => by rw [lv]; omega
theorem lv_ge : ∀ k, 3 ≤ lv k
  | 0 => Nat.le_refl _
  | k + 1 => Nat.le_trans (lv_ge k) (lv_mono k)
theorem lv_le : ∀ {k n : Nat}, k ≤ n → lv k ≤ lv n
  | k, n, h => by
    induction h with
    | refl => exact Nat.le_refl _
    | step _ ih => exact Nat.le_trans ih (lv_mono _)
def lev (ns : List Int) (k : Nat) : Nat := if drawF ns 3 2 = 0 then 21 else lv k
theorem lev_mono (ns : List Int) (k : Nat) : lev ns k ≤ lev ns (k + 1) := by
  unfold lev
  split
  · exact Nat.le_refl _
  · exact lv_mono k
theorem mW_lev (ns : List Int) (k : Nat) : mW ns ≤ lev ns k := by
  unfold mW lev
  split
  · exact Nat.le_refl _
  · exact lv_ge k
structure Gh (e : Nat) (us : List Pq) (m : Fr) : Prop where
  asc : Asc us
  mem : ∀ u ∈ us, u.1 ∈ T5
  gq : ∀ u ∈ us, Gq e u
  sh : Sh m
  gf : Gf e m
theorem Gh.gb {e : Nat} {us : List Pq} {m : Fr} (h : Gh e us m) (b : Bool) : Gb T5 e ⟨us, m, b⟩ := ⟨h.asc, h.mem, h.gq, h.sh, h.gf⟩
theorem Gh.mono {e e' : Nat} {us : List Pq} {m : Fr} (h : Gh e us m) (he : e ≤ e') : Gh e' us m := ⟨h.asc, h.mem, fun u mu => (h.gq u mu).mono he, h.sh, h.gf.mono he⟩
section
variable {P : Program} {w : World} {K : PySem.W.Frag} {mg : Str → Option Value} {base : Heap}
def spBounds (K : PySem.W.Frag) : Sp := fun vs H Q _ => ∃ (a : Addr) (ns : List Int) (l : Addr) (ws : List V) (n : Nat), vs = [.ref a, .ref l] ∧ SqL K H a (ns.map V.int) ∧ ns.length ≤ 63 ∧ H l = some (.lst ws) ∧ TrsAt H ws (T5.take n) ∧ 1 ≤ n ∧ n ≤ 5 ∧
  ∀ (lb : Addr) (bvs : List V) (bs : List Bd) (H' : Hp), Same H H' → H lb = none → H' lb = some (.lst bvs) → TrsAt H' bvs (bs.map bdT) → (∀ b ∈ bs, Gb T5 (lev ns 7) b) → 1 ≤ bs.length → bs.length ≤ 7 → Q (.ref lb) H'
def nBo : List Str := ["_law_script", "_law_terms_here", "_law_bounds_here", "_law_k", "_law_pairs", "_law_i", "_law_share_here", "_law_whole", "_law_most", "_law_first", "_law_second", "_law_pair"]
theorem scBo : FnScope nBo ["_law_script", "_law_terms_here"] (defScope sBounds) := ⟨rfl, rfl, rfl, by decide +kernel, rfl, by decide +kernel, by decide +kernel⟩
theorem ok_bounds {f fD fS fA fP : Addr} {fd dD dS dA dP : FuncData} (F : Fun K "_law_bounds" "_law_bounds" sBounds f fd) (B : Blt mg)
    (gD : FnOk P w K mg base CX0 1 fD dD ["_law_script", "_law_k", "_law_many"] (spDraw K)) (kD : PySem.W.keepIn K (.ref fD) = true) (bD : Binds K dD ["_law_script", "_law_k", "_law_many"] []) (mD : mg "_law_draw" = some (.ref fD))
    (gS : FnOk P w K mg base CX0 2 fS dS ["_law_script", "_law_base"] (spShare K)) (kS : PySem.W.keepIn K (.ref fS) = true) (bS : Binds K dS ["_law_script", "_law_base"] []) (mS : mg "_law_share" = some (.ref fS))
    (gA : FnOk P w K mg base CX0 3 fA dA ["_law_bounds_here", "_law_weights_here"] spLAdded) (kA : PySem.W.keepIn K (.ref fA) = true) (bA : Binds K dA ["_law_bounds_here", "_law_weights_here"] []) (mA : mg "_law_added" = some (.ref fA))
    (gP : FnOk P w K mg base CX0 2 fP dP ["_law_one", "_law_other"] spLPlus) (kP : PySem.W.keepIn K (.ref fP) = true) (bP : Binds K dP ["_law_one", "_law_other"] []) (mP : mg "_law_plus" = some (.ref fP)) : FnOk P w K mg base CX0 4 f fd ["_law_script", "_law_terms_here"] (spBounds K) := by
  refine F.ok scBo (fun vs H Q E h => ?_) (fun cdv A outer s H vs Q E hr h => ?_)
  · obtain ⟨a, ns, l, ws, n, rfl, _⟩ := h
    rfl
  obtain ⟨a, ns, l, ws, n, rfl, hS, h63, hl, hT, n1, n5, k⟩ := h
  have hun := hr.units
  have hu1 := hu_of hr
  have hr1 : Room 1 _ := hr.mono (by decide)
  have hr2 : Room 2 _ := hr.mono (by decide)
  have hu60 := Nat.lt_of_le_of_lt (Nat.add_le_add_left (show 60 ≤ 64 by decide) _) hun
  refine ⟨_, pss_cons (ps_set (i := 2) scBo.nd rfl (Or.inl rfl) (pe_lst pa_nil))
    (pss_cons (ps_for PassesOwn.never rfl (pi_range1 rfl B.ra (pa_cons (pe_op op_add pe_int (pe_call gD hr1 rfl mD kD bD .nil pass0 (pa_cons (pv 0) (pa_cons pe_int (pa_cons pe_int pa_nil))))) pa_nil)) (pg_name (i := 3) scBo.nd rfl (Or.inl rfl))
      (pss_cons (ps_set (i := 4) scBo.nd rfl (Or.inl rfl) (pe_lst pa_nil))
      (pss_cons (ps_for PassesOwn.never rfl (pi_range1 rfl B.ra (pa_cons (pe_callB call_len_seq rfl B.le PySem.boot_len (pa_cons (pv 1) pa_nil)) pa_nil)) (pg_name (i := 5) scBo.nd rfl (Or.inl rfl))
        (pss_cons (ps_set (i := 6) scBo.nd rfl (Or.inl rfl) (pe_call gS hr2 rfl mS kS bS .nil pass0 (pa_cons (pv 0) (pa_cons (pe_op op_add (pe_op op_add pe_int (pe_op op_mul pe_int (pv 3))) (pe_op op_mul pe_int (pv 5))) pa_nil))))
        (pss_one (ps_if (PW.pt (pw_and (pt_cmpR op_gt (pe_call gD hr1 rfl mD kD bD .nil pass0 (pa_cons (pv 0) (pa_cons (pe_op op_add (pe_op op_add pe_int (pe_op op_mul pe_int (pv 3))) (pe_op op_mul pe_int (pv 5))) (pa_cons pe_int pa_nil)))) pe_int (nomark _)) (pw_and1 (pt_cmpR (op_neP hu1) (pv 6) (pe_tup (pa_cons pe_int (pa_cons pe_int pa_nil))) (nomark _)))))
          (pss_one (ps_expr (pe_bm PySem.F.plainAttrs_list PySem.F.slot_list_append PySem.F.type_list_append mt_append (pv 4) (pa_cons (pe_tup (pa_cons (pe_ix ix_list (pv 1) (pv 5) fun _ _ => rfl) (pa_cons (pv 6) pa_nil))) pa_nil)))) pss_nil))))
      (pss_cons (ps_set (i := 7) scBo.nd rfl (Or.inl rfl) (pe_callTy call_tuple_of rfl B.tu PyProof.Rows.boot_tuple (pa_cons (pe_callB (call_sorted hu60) rfl B.so PyProof.Rows.boot_sorted (pa_cons (pv 4) pa_nil)) pa_nil)))
      (pss_cons (ps_set (i := 8) scBo.nd rfl (Or.inl rfl) (pe_call gS hr2 rfl mS kS bS .nil pass0 (pa_cons (pv 0) (pa_cons (pe_op op_add pe_int (pe_op op_mul pe_int (pv 3))) pa_nil))))
      (pss_cons (ps_if (PW.pt (pw_and (pt_cmpR op_gt (pv 3) pe_int (nomark _)) (pw_and (pt_cmpR op_eq (pe_call gD hr1 rfl mD kD bD .nil pass0 (pa_cons (pv 0) (pa_cons pe_int (pa_cons pe_int pa_nil)))) pe_int (nomark _)) (pw_and1 (pt_cmpR op_eq (pe_call gD hr1 rfl mD kD bD .nil pass0 (pa_cons (pv 0) (pa_cons (pe_op op_add pe_int (pv 3)) (pa_cons pe_int pa_nil)))) pe_int (nomark _))))))
        (pss_cons (ps_set (i := 9) scBo.nd rfl (Or.inl rfl) (pe_call gD hr1 rfl mD kD bD .nil pass0 (pa_cons (pv 0) (pa_cons (pe_op op_add pe_int (pv 3)) (pa_cons (pv 3) pa_nil)))))
        (pss_cons (ps_set (i := 10) scBo.nd rfl (Or.inl rfl) (pe_call gD hr1 rfl mD kD bD .nil pass0 (pa_cons (pv 0) (pa_cons (pe_op op_add pe_int (pv 3)) (pa_cons (pv 3) pa_nil)))))
        (pss_cons (ps_set (i := 11) scBo.nd rfl (Or.inl rfl) (pe_call gA hr rfl mA kA bA .nil pass0 (pa_cons (pv 2) (pa_cons (pe_lst (pa_cons (pe_tup (pa_cons (pv 9) (pa_cons (pe_tup (pa_cons (pe_un un_neg pe_int) (pa_cons pe_int pa_nil))) pa_nil))) (pa_cons (pe_tup (pa_cons (pv 10) (pa_cons (pe_tup (pa_cons (pe_un un_neg (pe_call gD hr1 rfl mD kD bD .nil pass0 (pa_cons (pv 0) (pa_cons (pe_op op_add pe_int (pv 3)) (pa_cons pe_int pa_nil))))) (pa_cons pe_int pa_nil))) pa_nil))) pa_nil))) pa_nil))))
        (pss_cons (ps_set (i := 7) scBo.nd rfl (Or.inl rfl) (pe_ix ix_tup (pv 11) pe_int fun _ _ => rfl))
        (pss_one (ps_set (i := 8) scBo.nd rfl (Or.inl rfl) (pe_call gP hr2 rfl mP kP bP .nil pass0 (pa_cons (pe_ix ix_tup (pv 11) pe_int fun _ _ => rfl) (pa_cons (pe_tup (pa_cons (pe_op op_sub (pe_call gD hr1 rfl mD kD bD .nil pass0 (pa_cons (pv 0) (pa_cons (pe_op op_add pe_int (pv 3)) (pa_cons pe_int pa_nil)))) pe_int) (pa_cons pe_int pa_nil))) pa_nil)))))))))
        pss_nil)
      (pss_one (ps_expr (pe_bm PySem.F.plainAttrs_list PySem.F.slot_list_append PySem.F.type_list_append mt_append (pv 2) (pa_cons (pe_tup (pa_cons (pv 7) (pa_cons (pv 8) (pa_cons (pe_cmpR op_eq (pe_call gD hr1 rfl mD kD bD .nil pass0 (pa_cons (pv 0) (pa_cons (pe_op op_add pe_int (pv 3)) (pa_cons pe_int pa_nil)))) pe_int (nomark _)) pa_nil)))) pa_nil)))))))))
    ) (pss_one (ps_ret (pv 2)))), ?_⟩
  have hL20 : (20000 : Nat) ≤ sizeLine := by decide +kernel
  have wl := hT.len
  have tl5 : T5.length = 5 := rfl
  rw [List.length_take, tl5] at wl
  refine ⟨by show 0 ≤ sizeLine; decide, fun lb nlb => ?_⟩
  have s0 := same_upd (o := .lst []) nlb
  have hlb0 := upd_same (H := H) (a := lb) (o := .lst [])
  generalize upd H lb (.lst []) = H0 at s0 hlb0 ⊢
  refine gname_of ?_
  try dsimp only
  refine ⟨_, rfl, a, ns, 4, 7, rfl, SqL.same s0 hS, h63, by decide, by decide, by decide, fun r0 r00 r07 _ => ?_⟩
  obtain ⟨nb, rfl⟩ : ∃ nb : Nat, r0 = (nb : Int) := ⟨r0.toNat, by omega⟩
  refine ⟨1, (nb : Int), rfl, rfl, 1 + (nb : Int), rfl, by omega, by omega, ?_⟩
  rw [show (1 + (nb : Int)).toNat = nb + 1 by omega]
  refine for_range (n := nb + 1) (fun i σ H' => Same H H' ∧ ∃ (bvs : List V) (bs : List Bd) (x3 x4 x5 x6 x7 x8 x9 x10 x11 : Option V), σ = [some (.ref a), some (.ref l), some (.ref lb), x3, x4, x5, x6, x7, x8, x9, x10, x11] ∧ H' lb = some (.lst bvs) ∧ TrsAt H' bvs (bs.map bdT) ∧ (∀ b ∈ bs, Gb T5 (lev ns i) b) ∧ bs.length = i)
    ⟨s0, [], [], none, none, none, none, none, none, none, none, none, rfl, hlb0, .nil, (fun b m => by cases m), rfl⟩ ?_ ?_
  · rintro i σ H1 hi ⟨sH, bvs, bs, x3, x4, x5, x6, x7, x8, x9, x10, x11, rfl, hlb, hB, hG, bl⟩
    have i6 : i ≤ 6 := by omega
    have hS1 := SqL.same sH hS
    rw [Int.zero_add]
    refine gname_of ?_
    try dsimp only
    refine ⟨by show 0 ≤ sizeLine; decide, fun D nD => ?_⟩
    have sD := same_upd (o := .lst []) nD
    have hD0 := upd_same (H := H1) (a := D) (o := .lst [])
    generalize upd H1 D (.lst []) = H2 at sD hD0 ⊢
    refine gname_of ?_
    try dsimp only
    refine ⟨_, rfl, l, ws, rfl, .inl (SqL.of (sD _ _ (sH _ _ hl))), _, rfl, by omega, by omega, ?_⟩
    rw [Int.toNat_natCast, wl]
    refine for_range (n := min n 5) (fun j σ H' => Same H1 H' ∧ ∃ (acc : List V) (ps : List Pq) (v5 v6 : Option V), σ = [some (.ref a), some (.ref l), some (.ref lb), some (.int (i : Int)), some (.ref D), v5, v6, x7, x8, x9, x10, x11] ∧ H' D = some (.lst acc) ∧ TrsAt H' acc (ps.map prT) ∧ (ps.map (·.1)).Sublist (T5.take j) ∧ ∀ p ∈ ps, Gq (mW ns) p)
      ⟨sD, [], [], x5, x6, rfl, hD0, .nil, by rw [List.take_zero]; exact List.Sublist.refl _, fun p m => by cases m⟩ ?_ ?_
    · rintro j σ H3 hj ⟨s3, acc, ps, v5, v6, rfl, hD, hA, hSub, hGq⟩
      rw [Int.zero_add]
      refine gname_of ?_
      try dsimp only
      have hS3 := SqL.same s3 hS1
      refine ⟨_, rfl, _, rfl, 20, (i : Int), rfl, rfl, .inl ⟨by decide, by decide⟩, 60, 20 * (i : Int), rfl, rfl, _, rfl, 3, (j : Int), rfl, rfl, .inl ⟨by decide, by decide⟩, 60 + 20 * (i : Int), 3 * (j : Int), rfl, rfl, ?_⟩
      refine ⟨a, ns, 60 + 20 * (i : Int) + 3 * (j : Int), rfl, hS3, h63, by omega, by omega, fun rs fr H4 s4 hrs shf gff => ?_⟩
      have hS4 := SqL.same s4 hS3
      refine gname_of ?_
      try dsimp only
      have s34 := s3.trans s4
      have al := hA.len
      rw [List.length_map] at al
      have sl := hSub.length_le
      rw [List.length_map, List.length_take, tl5] at sl
      have goOn : ∀ H', Same H4 H' → Same H1 H' ∧ ∃ (acc : List V) (ps : List Pq) (v5 v6 : Option V), [some (.ref a), some (.ref l), some (.ref lb), some (.int (i : Int)), some (.ref D), some (.int (j : Int)), some (.ref rs), x7, x8, x9, x10, x11] = [some (.ref a), some (.ref l), some (.ref lb), some (.int (i : Int)), some (.ref D), v5, v6, x7, x8, x9, x10, x11] ∧ H' D = some (.lst acc) ∧ TrsAt H' acc (ps.map prT) ∧ (ps.map (·.1)).Sublist (T5.take (j + 1)) ∧ ∀ p ∈ ps, Gq (mW ns) p :=
        fun H' s' => ⟨s34.trans s', acc, ps, _, _, rfl, s' _ _ (s4 _ _ hD), hA.mono (Kd.of_same (s4.trans s')), hSub.trans (List.take_sublist_take_left (by omega)), hGq⟩
      refine ⟨_, rfl, _, rfl, 20, (i : Int), rfl, rfl, .inl ⟨by decide, by decide⟩, 62, 20 * (i : Int), rfl, rfl, _, rfl, 3, (j : Int), rfl, rfl, .inl ⟨by decide, by decide⟩, 62 + 20 * (i : Int), 3 * (j : Int), rfl, rfl, ?_⟩
      refine ⟨a, ns, 62 + 20 * (i : Int) + 3 * (j : Int), 3, rfl, hS4, h63, by omega, by omega, by decide, fun r2 _ _ _ => ?_⟩
      refine ⟨r2, 0, rfl, rfl, _, rfl, ?_⟩
      refine ite2 (fun _ => ?_) (fun _ => goOn H4 (Same.refl _))
      refine ⟨_, rfl, by show 2 ≤ sizeLine; decide, fun z nz => ?_⟩
      have sz := same_upd (o := .tup [.int 0, .int 1]) nz
      refine ⟨rs, z, fr.1, fr.2, 0, 1, rfl, rfl, SqT.of (sz _ _ hrs), SqT.of upd_same, _, rfl, ?_⟩
      have s5 := s4.trans sz
      generalize upd H4 z (.tup [.int 0, .int 1]) = H5 at sz s5 ⊢
      refine ite2 (fun _ => ?_) (fun _ => goOn H5 sz)
      have hj5 : j < (T5.take n).length := by rw [List.length_take, tl5]; omega
      obtain ⟨xt, ext, hxt⟩ := (hT.mono (Kd.of_same (sH.trans (s3.trans s5)))).get (i := j) (List.getElem?_eq_getElem hj5)
      rw [List.getElem_take] at hxt
      have hl5 := (sH.trans (s3.trans s5)) _ _ hl
      have hD5 := s5 _ _ hD
      refine ⟨_, rfl, .inl ⟨rfl, _, SqL.of hD5⟩, _, rfl, _, rfl, l, ws, (j : Int), xt, rfl, rfl, SqL.of hl5, atI_nat ext, _, rfl, by show 2 ≤ sizeLine; decide, fun p np => ?_⟩
      have sp := same_upd (o := .tup [xt, .ref rs]) np
      have hD6 := sp _ _ hD5
      refine ⟨D, acc, _, rfl, rfl, hD6, by omega, ?_⟩
      have kd := (Kd.of_same sp).trans (Kd.upd (ys := acc ++ [.ref p]) hD6)
      have nDp : p ≠ D := fun z => by rw [z, hD5] at np; cases np
      have tyj := T5_ty _ (List.getElem_mem (show j < T5.length by rw [tl5]; omega))
      refine ⟨same_wr nD (s3.trans (s5.trans sp)), acc ++ [.ref p], ps ++ [(T5[j], fr)], _, _, rfl, upd_same, ?_, ?_, fun q mq => ?_⟩
      · rw [List.map_append]
        exact TrsAt.app (.cons (at_pair (a := T5[j]) (b := frT fr) ((upd_ne nDp).trans upd_same) (hxt.mono kd) ((at_ints (sz _ _ hrs)).mono kd)) .nil) ((hA.mono (Kd.of_same s5)).mono kd)
      · rw [List.map_append, take_get (List.getElem?_eq_getElem (show j < T5.length by rw [tl5]; omega))]
        exact hSub.append (List.Sublist.refl _)
      · rcases List.mem_append.mp mq with mq | mq
        · exact hGq q mq
        · rw [List.mem_singleton.mp mq]
          exact ⟨tyj.1, tyj.2, gff, shf⟩
    · rintro σ H3 ⟨s3, acc, ps, v5, v6, rfl, hD, hA, hSub, hGq⟩
      refine tnx_of ?_
      try dsimp only
      have sl := hSub.length_le
      rw [List.length_map, List.length_take, tl5] at sl
      have memT : ∀ p ∈ ps, p.1 ∈ T5 := fun p m => List.mem_of_mem_take (hSub.subset (List.mem_map_of_mem (f := (·.1)) m))
      have ndT : (ps.map (·.1)).Nodup := hSub.nodup (T5_nd.sublist (List.take_sublist _ _))
      have tyT : ∀ t ∈ ps.map prT, Ty .pr t ∧ t.depth ≤ 8 := fun t m => by
        obtain ⟨p, mp, rfl⟩ := List.mem_map.mp m
        exact (hGq p mp).pr
      refine ⟨_, rfl, D, acc, _, rfl, hD, hA, by rw [List.length_map]; omega, fun t m => ⟨ty_hd (.inr (tyT t m).1), ty_pure (tyT t m).1, by have := (tyT t m).2; omega⟩, fun t m u mu => ty_cm 30 (by have := (tyT t m).2; omega) (tyT t m).1 (tyT u mu).1, fun S ws' us' nS pm hT' srt => ?_⟩
      obtain ⟨qs, rfl, pq⟩ := perm_map pm rfl
      have sS := same_upd (o := .lst ws') nS
      refine ⟨S, ws', rfl, .inl ⟨SqL.of upd_same, fun p np => ?_⟩⟩
      have sp := same_upd (o := .tup ws') np
      have hw4 : TrAt (upd (upd H3 S (.lst ws')) p (.tup ws')) (.ref p) (.tup (qs.map prT)) := at_tup upd_same (hT'.mono (Kd.of_same (sS.trans sp)))
      have s14 := s3.trans (sS.trans sp)
      have ascq : Asc qs := asc_of pq ndT (fun p m => (hGq p m).ty) fun i j p q hij e1 e2 => srt i j _ _ hij (by rw [List.getElem?_map, e1]; rfl) (by rw [List.getElem?_map, e2]; rfl)
      have memq : ∀ u ∈ qs, u.1 ∈ T5 := fun u m => memT u (pq.mem_iff.mp m)
      have gqq : ∀ u ∈ qs, Gq (mW ns) u := fun u m => hGq u (pq.mem_iff.mp m)
      generalize upd (upd H3 S (.lst ws')) p (.tup ws') = H4 at hw4 s14 ⊢
      refine gname_of ?_
      try dsimp only
      refine ⟨_, rfl, _, rfl, 2, (i : Int), rfl, rfl, .inl ⟨by decide, by decide⟩, 260, 2 * (i : Int), rfl, rfl, a, ns, 260 + 2 * (i : Int), rfl, SqL.same s14 hS1, h63, by omega, by omega, fun rm fm H5 s5 hrm shm gfm => ?_⟩
      have s15 := s14.trans s5
      have hw5 := hw4.mono (Kd.of_same s5)
      clear s14 hw4 hA hD hT'
      refine gname_of ?_
      try dsimp only
      have gh0 : Gh (lev ns (i + 1)) qs fm := (Gh.mk ascq memq gqq shm gfm : Gh (mW ns) qs fm).mono (mW_lev ns _)
      refine seq_any (fun σ' H' => Same H1 H' ∧ ∃ (xw : V) (r : Addr) (us : List Pq) (mm : Fr) (y9 y10 y11 : Option V), σ' = [some (.ref a), some (.ref l), some (.ref lb), some (.int (i : Int)), some (.ref D), v5, v6, some xw, some (.ref r), y9, y10, y11] ∧ TrAt H' xw (.tup (us.map prT)) ∧ H' r = some (.tup [.int mm.1, .int mm.2]) ∧ Gh (lev ns (i + 1)) us mm) ?_ fun nx hnx => ?_
      · rintro σ' H6 ⟨s6, xw, r, us, mm, y9, y10, y11, rfl, hxw, hr6, gh⟩
        have hlb6 := s6 _ _ hlb
        refine ⟨_, rfl, .inl ⟨rfl, _, SqL.of hlb6⟩, _, rfl, _, rfl, _, rfl, _, rfl, 380, (i : Int), rfl, rfl, a, ns, 380 + (i : Int), 3, rfl, SqL.same s6 hS1, h63, by omega, by omega, by decide, fun r7 _ _ _ => ?_⟩
        refine ⟨rfl, by show 3 ≤ sizeLine; decide, fun p np => ?_⟩
        have sp := same_upd (o := .tup [xw, .ref r, .bl (decide (V.int r7 = V.int 1))]) np
        have hlb7 := sp _ _ hlb6
        have bvl := hB.len
        rw [List.length_map] at bvl
        refine ⟨lb, bvs, _, rfl, rfl, hlb7, by omega, ?_⟩
        have kd := (Kd.of_same sp).trans (Kd.upd (ys := bvs ++ [.ref p]) hlb7)
        have nlp : p ≠ lb := fun z => by rw [z, hlb6] at np; cases np
        refine ⟨same_wr nlb (sH.trans (s6.trans sp)), bvs ++ [.ref p], bs ++ [⟨us, mm, decide (V.int r7 = V.int 1)⟩], _, _, _, _, _, _, _, _, _, rfl, upd_same, ?_, fun b mb => ?_, by rw [List.length_append, bl]; rfl⟩
        · rw [List.map_append]
          refine TrsAt.app (.cons (at_tup ((upd_ne nlp).trans upd_same) (.cons (hxw.mono kd) (.cons ((at_ints hr6).mono kd) (.cons (by unfold TrAt; rfl) .nil)))) .nil) ((hB.mono (Kd.of_same s6)).mono kd)
        · rcases List.mem_append.mp mb with mb | mb
          · exact (hG b mb).mono (lev_mono ns i)
          · rw [List.mem_singleton.mp mb]
            exact gh.gb _
      have no : ∀ H', Same H5 H' → nx [some (.ref a), some (.ref l), some (.ref lb), some (.int (i : Int)), some (.ref D), v5, v6, some (.ref p), some (.ref rm), x9, x10, x11] H' := fun H' s' => hnx _ _ ⟨s15.trans s', .ref p, rm, qs, fm, _, _, _, rfl, hw5.mono (Kd.of_same s'), s' _ _ hrm, gh0⟩
      have hS5 := SqL.same s15 hS1
      refine ⟨_, rfl, (i : Int), 0, rfl, rfl, _, rfl, ?_⟩
      refine ite2 (fun y1 => ?_) (fun _ => iteF (no H5 (Same.refl _)))
      have ipos : 0 < i := by
        have := of_decide_eq_true y1
        omega
      refine ⟨_, rfl, a, ns, 3, 2, rfl, hS5, h63, by decide, by decide, by decide, fun r2 _ _ e2 => ?_⟩
      refine ⟨rfl, _, rfl, ?_⟩
      refine ite2 (fun y2 => ?_) (fun _ => iteF (no H5 (Same.refl _)))
      have d3 : ¬ drawF ns 3 2 = 0 := by
        have := V.int.inj (of_decide_eq_true y2)
        rw [← e2, this]
        decide
      refine ⟨_, rfl, _, rfl, 280, (i : Int), rfl, rfl, a, ns, 280 + (i : Int), 2, rfl, hS5, h63, by omega, by omega, by decide, fun r3 _ _ _ => ?_⟩
      refine ⟨rfl, _, rfl, ?_⟩
      refine ite2 (fun _ => ?_) (fun _ => no H5 (Same.refl _))
      refine ⟨_, rfl, _, rfl, 300, (i : Int), rfl, rfl, _, rfl, a, ns, 300 + (i : Int), (i : Int), rfl, hS5, h63, by omega, by omega, by omega, fun rf rf0 rf1 _ => ?_⟩
      refine ⟨_, rfl, _, rfl, 320, (i : Int), rfl, rfl, _, rfl, a, ns, 320 + (i : Int), (i : Int), rfl, hS5, h63, by omega, by omega, by omega, fun rg rg0 rg1 _ => ?_⟩
      obtain ⟨nf, rfl⟩ : ∃ nf : Nat, rf = (nf : Int) := ⟨rf.toNat, by omega⟩
      obtain ⟨ng, rfl⟩ : ∃ ng : Nat, rg = (ng : Int) := ⟨rg.toNat, by omega⟩
      refine gname_of ?_
      try dsimp only
      have el : lev ns i = lv i := by unfold lev; rw [if_neg d3]
      have el1 : lev ns (i + 1) = 2 * lv i + 8 := by
        unfold lev
        rw [if_neg d3]
        obtain ⟨i', rfl⟩ : ∃ i', i = i' + 1 := ⟨i - 1, by omega⟩
        rfl
      have l344 : lv i ≤ 344 := lv_le (n := 6) i6
      refine ⟨_, rfl, _, rfl, 1, rfl, by show 2 ≤ sizeLine; decide, fun q1 nq1 => ?_⟩
      have t1 := same_upd (o := .tup [.int (-1), .int 1]) nq1
      have hq1 := upd_same (H := H5) (a := q1) (o := .tup [.int (-1), .int 1])
      generalize upd H5 q1 (.tup [.int (-1), .int 1]) = G1 at t1 hq1 ⊢
      refine ⟨by show 2 ≤ sizeLine; decide, fun q2 nq2 => ?_⟩
      have t2 := same_upd (o := .tup [.int (nf : Int), .ref q1]) nq2
      have hq2 := upd_same (H := G1) (a := q2) (o := .tup [.int (nf : Int), .ref q1])
      generalize upd G1 q2 (.tup [.int (nf : Int), .ref q1]) = G2 at t2 hq2 ⊢
      refine ⟨_, rfl, _, rfl, _, rfl, 340, (i : Int), rfl, rfl, a, ns, 340 + (i : Int), 2, rfl, SqL.same (t1.trans t2) hS5, h63, by omega, by omega, by decide, fun r4 r40 r42 _ => ?_⟩
      refine ⟨r4, rfl, by show 2 ≤ sizeLine; decide, fun q3 nq3 => ?_⟩
      have t3 := same_upd (o := .tup [.int (-r4), .int 1]) nq3
      have hq3 := upd_same (H := G2) (a := q3) (o := .tup [.int (-r4), .int 1])
      generalize upd G2 q3 (.tup [.int (-r4), .int 1]) = G3 at t3 hq3 ⊢
      refine ⟨by show 2 ≤ sizeLine; decide, fun q4 nq4 => ?_⟩
      have t4 := same_upd (o := .tup [.int (ng : Int), .ref q3]) nq4
      have hq4 := upd_same (H := G3) (a := q4) (o := .tup [.int (ng : Int), .ref q3])
      generalize upd G3 q4 (.tup [.int (ng : Int), .ref q3]) = G4 at t4 hq4 ⊢
      refine ⟨by show 2 ≤ sizeLine; decide, fun lw nlw => ?_⟩
      have t5' := same_upd (o := .lst [.ref q2, .ref q4]) nlw
      have hlw := upd_same (H := G4) (a := lw) (o := .lst [.ref q2, .ref q4])
      generalize upd G4 lw (.lst [.ref q2, .ref q4]) = G5 at t5' hlw ⊢
      have t15 := s15.trans (t1.trans (t2.trans (t3.trans (t4.trans t5'))))
      have hG' : ∀ b ∈ bs, Gb T5 (lv i) b := fun b m => by rw [← el]; exact hG b m
      have ad : Ad G5 lb lw bvs [.ref q2, .ref q4] T5 bs [(nf, m1), (ng, (-r4, 1))] (lv i) 1 := by
        refine ⟨t15 _ _ hlb, hB.mono (Kd.of_same t15), hlw, ?_, hG', by rw [tl5]; exact Nat.le_refl _, by show 2 ≤ 8; omega, fun kx m => ?_, fun kx m => ?_, by omega⟩
        · exact .cons (at_pair (b := frT m1) ((t3.trans (t4.trans t5')) _ _ hq2) (by unfold TrAt; rfl) (at_ints ((t2.trans (t3.trans (t4.trans t5'))) _ _ hq1))) (.cons (at_pair (b := frT (-r4, 1)) (t5' _ _ hq4) (by unfold TrAt; rfl) (at_ints ((t4.trans t5') _ _ hq3))) .nil)
        · simp only [List.mem_cons, List.not_mem_nil, or_false] at m
          rcases m with rfl | rfl
          · show nf < bs.length
            omega
          · show ng < bs.length
            omega
        · simp only [List.mem_cons, List.not_mem_nil, or_false] at m
          rcases m with rfl | rfl
          · exact ⟨sh_m1, gf_1 (.inl rfl)⟩
          · have : r4 = 0 ∨ r4 = 1 := by omega
            rcases this with rfl | rfl
            · exact ⟨sh_zero, Gf.one (by decide)⟩
            · exact ⟨sh_m1, gf_1 (.inl rfl)⟩
      refine ⟨lb, lw, bvs, [.ref q2, .ref q4], T5, bs, _, lv i, 1, rfl, ad, fun p' r' x0 us tt H6 s6 hp' hx0 hr' hcan hgq shT _ gfT => ?_⟩
      have ks2 : 1 + [((nf : Nat), m1), ((ng : Nat), ((-r4, 1) : Fr))].length * (lv i + 1 + 1) = 2 * lv i + 5 := by
        show 1 + 2 * (lv i + 1 + 1) = _
        omega
      rw [ks2] at hgq gfT
      have t16 := t15.trans s6
      clear t1 t2 t3 t4 t5' hq1 hq2 hq3 hq4 hlw
      refine gname_of ?_
      try dsimp only
      refine ⟨_, rfl, p', _, 0, x0, rfl, rfl, SqT.of hp', rfl, ?_⟩
      refine gname_of ?_
      try dsimp only
      refine ⟨_, rfl, p', _, 1, .ref r', rfl, rfl, SqT.of hp', rfl, ?_⟩
      refine ⟨_, rfl, _, rfl, 360, (i : Int), rfl, rfl, a, ns, 360 + (i : Int), 3, rfl, SqL.same t16 hS1, h63, by omega, by omega, by decide, fun r5 r50 r53 _ => ?_⟩
      refine ⟨r5, 1, rfl, rfl, by show 2 ≤ sizeLine; decide, fun q5 nq5 => ?_⟩
      have t7 := same_upd (o := .tup [.int (r5 - 1), .int 2]) nq5
      have hq5 := upd_same (H := H6) (a := q5) (o := .tup [.int (r5 - 1), .int 2])
      have g2 : Gf 2 ((r5 - 1, 2) : Fr) := ⟨by show (0 : Int) < 2; decide, lt2_of (b := 1) (show (r5 - 1).natAbs ≤ 1 by omega) (by decide), by show (2 : Nat) < 2 ^ 2; decide⟩
      refine ⟨.ref r', .ref q5, tt, (r5 - 1, 2), 2 * lv i + 5, 2, rfl, at_ints (t7 _ _ hr'), at_ints hq5, gfT, g2, by omega, fun x9' H8 mm s8 hx9 shM _ gfM => ?_⟩
      obtain ⟨r9, rfl, hr9⟩ := at_fr hx9
      refine hnx _ _ ⟨t16.trans (t7.trans s8), x0, r9, us, mm, _, _, _, rfl, hx0.mono (Kd.of_same (t7.trans s8)), hr9, ⟨hcan.asc, fun u m => ?_, fun u m => ?_, shM, ?_⟩⟩
      · obtain ⟨q, mq, eq⟩ := can_sub hcan m
        rw [← eq]
        exact flat_mem hG' ad.kb q mq
      · rw [el1]
        exact (hgq u m).mono (by omega)
      · rw [el1]
        exact gfM
  · rintro σ H1 ⟨sH, bvs, bs, x3, x4, x5, x6, x7, x8, x9, x10, x11, rfl, hlb, hB, hG, bl⟩
    have lle : lev ns (nb + 1) ≤ lev ns 7 := by
      unfold lev
      split
      · exact Nat.le_refl _
      · exact lv_le (by omega)
    exact ⟨_, rfl, k lb bvs bs H1 sH nlb hlb hB (fun b m => (hG b m).mono lle) (by omega) (by omega)⟩
end
end K38
set_option Elab.async false
set_option linter.all false
set_option maxRecDepth 100000
set_option maxHeartbeats 4000000
namespace Tre
open PySem PySem.Spec PyProof.Rows L2
section
variable {X : Cx}
def rInsertA : V → List V → Hp → VK → Prop := fun x vs H Q => ∃ l xs y j, ∃ i : Nat, x = .ref l ∧ vs = [.int j, y] ∧ j = (i : Int) ∧ i ≤ 1000000 ∧ H l = some (.lst xs) ∧ xs.length < sizeLine ∧ Q .non (upd H l (.lst (xs.take i ++ y :: xs.drop i)))
theorem ins_atA {its : List Value} {u : Value} {j : Int} {i : Nat} (hj : j = (i : Int)) : ((its.toArray.extract 0 (if j < 0 then (j + (its.toArray.size : Int)).toNat else min j.toNat its.toArray.size)).push u ++ its.toArray.extract (if j < 0 then (j + (its.toArray.size : Int)).toNat else min j.toNat its.toArray.size)) = (its.take i ++ u :: its.drop i).toArray := by
  have e1 : (if j < 0 then (j + (its.toArray.size : Int)).toNat else min j.toNat its.toArray.size) = min i its.length := by
    rw [if_neg (by omega), List.size_toArray]
    omega
  rw [e1]
  have := PySem.W.kl_ins_eq its (min i its.length) u
  rw [this]
  by_cases h : i ≤ its.length
  · rw [Nat.min_eq_left h]
  · rw [Nat.min_eq_right (by omega), List.take_length, List.drop_length, List.take_of_length_le (by omega), List.drop_of_length_le (by omega)]
theorem mt_insertA : MtM X "list.insert" rInsertA := by
  intro pins s σ H x vs v us Q I rx rv h
  obtain ⟨l, xs, y, j, i, rfl, rfl, hj, hi, hH, hz, q⟩ := h
  cases rx
  obtain ⟨u1, u, rfl, ru1, ru⟩ := rv.two
  obtain ⟨t, rfl⟩ := ru1
  obtain ⟨z, its, n, r, hl, e⟩ := I.lstM hH
  have hL := line63
  have f1 : -(2 ^ 63) ≤ j := by omega
  have f2 : j < 2 ^ 63 := by omega
  have nf : ¬ (!Builtin.List.listFitsIndex j) = true := by
    rw [fitsIndex_both f1 f2]
    exact Bool.false_ne_true
  have sz : its.toArray.size ≤ sizeLine := by
    rw [List.size_toArray, ← hl]
    exact Nat.le_of_lt hz
  have M := AutoSeq1.list_insert_list_int_val_1 l its.toArray n j t u nf sz
  refine call_meets F.slot_list_insert ⟨_, e, rfl⟩ F.entry_list_insert (F.args_list_insert_3 _ _ _) M ⟨e, ?_⟩
  refine ⟨.non, _, I.lset (its' := its.take i ++ u :: its.drop i) hH e (ins_atA hj) ((r.take i).append (.cons ru (r.drop i))) ?_, rfl, q⟩
  rw [List.length_append, List.length_cons, List.length_take, List.length_drop]
  omega
end
end Tre
namespace K38
open PySem L2 Mth Tre Wd Su
theorem sh_int (x : Int) : Sh ((x, 1) : Fr) := ⟨by show (0 : Int) < 1; decide, by show Int.gcd x 1 = 1; exact Int.gcd_one_right x⟩
theorem gf_int {e : Nat} (h : 3 ≤ e) {x : Int} (hx : x.natAbs ≤ 4) : Gf e ((x, 1) : Fr) := ⟨by show (0 : Int) < 1; decide, (lt2_of hx (show 4 < 2 ^ 3 by decide)).mono h, (show Lt2 3 (1 : Int) from by show (1 : Nat) < 2 ^ 3; decide).mono h⟩
structure Gk (ns : List Int) (mm : Nat) (ks : List Wt) : Prop where
  pl : ∀ k ∈ ks, k.1 < mm
  fr : ∀ k ∈ ks, Sh k.2 ∧ Gf (mW ns) k.2
theorem Gk.add {ns : List Int} {mm : Nat} {a b : List Wt} {k : Wt} (ha : ∀ x ∈ a, x.1 < mm ∧ Sh x.2 ∧ Gf (mW ns) x.2) (hb : ∀ x ∈ b, x.1 < mm ∧ Sh x.2 ∧ Gf (mW ns) x.2) (h : k.1 < mm) (h2 : Sh k.2 ∧ Gf (mW ns) k.2) : Gk ns mm (a ++ k :: b) := by
  have all : ∀ x ∈ a ++ k :: b, x.1 < mm ∧ Sh x.2 ∧ Gf (mW ns) x.2 := fun x m => by
    rcases List.mem_append.mp m with m | m
    · exact ha x m
    · rcases List.mem_cons.mp m with rfl | m
      · exact ⟨h, h2⟩
      · exact hb x m
  exact ⟨fun x m => (all x m).1, fun x m => (all x m).2⟩
theorem Gk.all {ns : List Int} {mm : Nat} {ks : List Wt} (h : Gk ns mm ks) : ∀ x ∈ ks, x.1 < mm ∧ Sh x.2 ∧ Gf (mW ns) x.2 := fun x m => ⟨h.pl x m, h.fr x m⟩
structure Wl (ns : List Int) (mm : Nat) (H : Hp) (lw : Addr) (wvs : List V) (ks : List Wt) : Prop where
  hw : H lw = some (.lst wvs)
  tw : TrsAt H wvs (ks.map wtT)
  gk : Gk ns mm ks
theorem Wl.same {ns : List Int} {mm : Nat} {H H' : Hp} {lw : Addr} {wvs : List V} {ks : List Wt} (s : Same H H') (h : Wl ns mm H lw wvs ks) : Wl ns mm H' lw wvs ks := ⟨s _ _ h.hw, h.tw.mono (Kd.of_same s), h.gk⟩
theorem Wl.len {ns : List Int} {mm : Nat} {H : Hp} {lw : Addr} {wvs : List V} {ks : List Wt} (h : Wl ns mm H lw wvs ks) : wvs.length = ks.length := by
  have := h.tw.len
  rwa [List.length_map] at this
theorem Wl.ins {ns : List Int} {mm : Nat} {H : Hp} {lw q r : Addr} {wvs : List V} {ks : List Wt} {pl : Nat} {fr : Fr} (h : Wl ns mm H lw wvs ks) (hq : H q = some (.tup [.int (pl : Int), .ref r])) (hr : H r = some (.tup [.int fr.1, .int fr.2])) (hp : pl < mm) (hf : Sh fr ∧ Gf (mW ns) fr) (i : Nat) :
    Wl ns mm (upd H lw (.lst (wvs.take i ++ .ref q :: wvs.drop i))) lw (wvs.take i ++ .ref q :: wvs.drop i) (ks.take i ++ (pl, fr) :: ks.drop i) := by
  have kd := Kd.upd (ys := wvs.take i ++ .ref q :: wvs.drop i) h.hw
  refine ⟨upd_same, ?_, Gk.add (fun x m => h.gk.all x (List.mem_of_mem_take m)) (fun x m => h.gk.all x (List.mem_of_mem_drop m)) hp hf⟩
  rw [List.map_append, List.map_cons, List.map_take, List.map_drop]
  have at1 : TrAt H (.ref q) (wtT (pl, fr)) := at_pair (b := frT fr) hq (by unfold TrAt; rfl) (at_ints hr)
  refine TrsAt.app ?_ (TrsAt.take i (h.tw.mono kd))
  refine .cons (at1.mono kd) ?_
  have : ∀ {vs : List V} {ts : List Tr} (n : Nat), Tre.TrsAt (upd H lw (.lst (wvs.take i ++ .ref q :: wvs.drop i))) vs ts → Tre.TrsAt (upd H lw (.lst (wvs.take i ++ .ref q :: wvs.drop i))) (vs.drop n) (ts.drop n) := by
    intro vs ts n
    induction n generalizing vs ts with
    | zero => exact fun h => h
    | succ n ih =>
      intro h
      cases ts with
      | nil =>
        unfold Tre.TrsAt at h
        subst h
        exact .nil
      | cons t ts =>
        obtain ⟨v, r, rfl, _, h2⟩ := h.inv
        exact ih h2
  exact this i (h.tw.mono kd)
theorem Wl.snoc {ns : List Int} {mm : Nat} {H : Hp} {lw q r : Addr} {wvs : List V} {ks : List Wt} {pl : Nat} {fr : Fr} (h : Wl ns mm H lw wvs ks) (hq : H q = some (.tup [.int (pl : Int), .ref r])) (hr : H r = some (.tup [.int fr.1, .int fr.2])) (hp : pl < mm) (hf : Sh fr ∧ Gf (mW ns) fr) :
    Wl ns mm (upd H lw (.lst (wvs ++ [.ref q]))) lw (wvs ++ [.ref q]) (ks ++ [(pl, fr)]) := by
  have := h.ins hq hr hp hf wvs.length
  rw [List.take_length, List.drop_length, h.len, List.take_length, List.drop_length] at this
  exact this
theorem Wl.rev {ns : List Int} {mm : Nat} {H : Hp} {lw : Addr} {wvs : List V} {ks : List Wt} (h : Wl ns mm H lw wvs ks) : Wl ns mm (upd H lw (.lst wvs.reverse)) lw wvs.reverse ks.reverse := by
  have kd := Kd.upd (ys := wvs.reverse) h.hw
  refine ⟨upd_same, ?_, ⟨fun x m => h.gk.pl x (List.mem_reverse.mp m), fun x m => h.gk.fr x (List.mem_reverse.mp m)⟩⟩
  rw [List.map_reverse]
  have : ∀ {vs : List V} {ts : List Tr}, Tre.TrsAt (upd H lw (.lst wvs.reverse)) vs ts → Tre.TrsAt (upd H lw (.lst wvs.reverse)) vs.reverse ts.reverse := by
    intro vs ts
    induction ts generalizing vs with
    | nil =>
      intro h
      unfold Tre.TrsAt at h
      subst h
      exact .nil
    | cons t ts ih =>
      intro h
      obtain ⟨v, r, rfl, h1, h2⟩ := h.inv
      rw [List.reverse_cons, List.reverse_cons]
      exact TrsAt.app (.cons h1 .nil) (ih h2)
  exact this (h.tw.mono kd)
section
variable {P : Program} {w : World} {K : PySem.W.Frag} {mg : Str → Option Value} {base : Heap}
def spWeights (K : PySem.W.Frag) : Sp := fun vs H Q _ => ∃ (a : Addr) (ns : List Int) (bb : Int) (mm : Nat), vs = [.ref a, .int bb, .int (mm : Int)] ∧ SqL K H a (ns.map V.int) ∧ ns.length ≤ 63 ∧ 0 ≤ bb ∧ bb ≤ 1000 ∧ 1 ≤ mm ∧ mm ≤ 7 ∧
  ∀ (lw : Addr) (wvs : List V) (ks : List Wt) (H' : Hp), Same H H' → H lw = none → Wl ns mm H' lw wvs ks → ks.length ≤ 8 → Q (.ref lw) H'
theorem scWe : FnScope ["_law_script", "_law_base", "_law_many", "_law_weights_here", "_law_place", "_law_way", "_law_at"] ["_law_script", "_law_base", "_law_many"] (defScope sWeights) := ⟨rfl, rfl, rfl, by decide +kernel, rfl, by decide +kernel, by decide +kernel⟩
theorem ok_weights {f fD fS : Addr} {fd dD dS : FuncData} (F : Fun K "_law_weights" "_law_weights" sWeights f fd) (B : Blt mg)
    (gD : FnOk P w K mg base CX0 1 fD dD ["_law_script", "_law_k", "_law_many"] (spDraw K)) (kD : PySem.W.keepIn K (.ref fD) = true) (bD : Binds K dD ["_law_script", "_law_k", "_law_many"] []) (mD : mg "_law_draw" = some (.ref fD))
    (gS : FnOk P w K mg base CX0 2 fS dS ["_law_script", "_law_base"] (spShare K)) (kS : PySem.W.keepIn K (.ref fS) = true) (bS : Binds K dS ["_law_script", "_law_base"] []) (mS : mg "_law_share" = some (.ref fS)) : FnOk P w K mg base CX0 3 f fd ["_law_script", "_law_base", "_law_many"] (spWeights K) := by
  refine F.ok scWe (fun vs H Q E h => ?_) (fun cdv A outer s H vs Q E hr h => ?_)
  · obtain ⟨a, ns, bb, mm, rfl, _⟩ := h
    rfl
  obtain ⟨a, ns, bb, mm, rfl, hS, h63, b0, b1, m1, m7, k⟩ := h
  have hr1 : Room 1 _ := hr.mono (by decide)
  have hr2 : Room 2 _ := hr.mono (by decide)
  refine ⟨_, (pss_cons (ps_set (i := 3) scWe.nd rfl (Or.inl rfl) (pe_lst pa_nil))
    (pss_cons (ps_for PassesOwn.never rfl (pi_range1 rfl B.ra (pa_cons (pv 2) pa_nil)) (pg_name (i := 4) scWe.nd rfl (Or.inl rfl)) (pss_one (ps_if (pt_cmpR op_gt (pe_call gD hr1 rfl mD kD bD .nil pass0 (pa_cons (pv 0) (pa_cons (pe_op op_add (pv 1) (pv 4)) (pa_cons pe_int pa_nil)))) pe_int (nomark _)) (pss_one (ps_expr (pe_bm PySem.F.plainAttrs_list PySem.F.slot_list_append PySem.F.type_list_append mt_append (pv 3) (pa_cons (pe_tup (pa_cons (pv 4) (pa_cons (pe_tup (pa_cons (pe_op op_add pe_int (pe_op op_fdiv (pe_call gD hr1 rfl mD kD bD .nil pass0 (pa_cons (pv 0) (pa_cons (pe_op op_add (pe_op op_add (pv 1) pe_int) (pv 4)) (pa_cons pe_int pa_nil)))) pe_int)) (pa_cons pe_int pa_nil))) pa_nil))) pa_nil)))) pss_nil)))
    (pss_cons (ps_set (i := 5) scWe.nd rfl (Or.inl rfl) (pe_call gD hr1 rfl mD kD bD .nil pass0 (pa_cons (pv 0) (pa_cons (pe_op op_add (pv 1) pe_int) (pa_cons pe_int pa_nil)))))
    (pss_cons (ps_set (i := 6) scWe.nd rfl (Or.inl rfl) (pe_call gD hr1 rfl mD kD bD .nil pass0 (pa_cons (pv 0) (pa_cons (pe_op op_add (pv 1) pe_int) (pa_cons (pv 2) pa_nil)))))
    (pss_cons (ps_if (pt_cmpR op_eq (pv 5) pe_int (nomark _)) (pss_one (ps_expr (pe_bm PySem.F.plainAttrs_list PySem.F.slot_list_append PySem.F.type_list_append mt_append (pv 3) (pa_cons (pe_tup (pa_cons (pv 6) (pa_cons (pe_call gS hr2 rfl mS kS bS .nil pass0 (pa_cons (pv 0) (pa_cons (pe_op op_add (pv 1) pe_int) pa_nil))) pa_nil))) pa_nil)))) pss_nil)
    (pss_cons (ps_if (pt_cmpR op_eq (pv 5) pe_int (nomark _)) (pss_one (ps_expr (pe_bm PySem.F.plainAttrs_list PySem.F.slot_list_insert PySem.F.type_list_insert mt_insertA (pv 3) (pa_cons (pe_call gD hr1 rfl mD kD bD .nil pass0 (pa_cons (pv 0) (pa_cons (pe_op op_add (pv 1) pe_int) (pa_cons (pe_op op_add (pe_callB call_len_seq rfl B.le PySem.boot_len (pa_cons (pv 3) pa_nil)) pe_int) pa_nil)))) (pa_cons (pe_tup (pa_cons (pv 6) (pa_cons (pe_tup (pa_cons pe_int (pa_cons pe_int pa_nil))) pa_nil))) pa_nil))))) pss_nil)
    (pss_cons (ps_if (pt_cmpR op_eq (pv 5) pe_int (nomark _)) (pss_one (ps_expr (pe_bm PySem.F.plainAttrs_list PySem.F.slot_list_insert PySem.F.type_list_insert mt_insertA (pv 3) (pa_cons (pv 6) (pa_cons (pe_tup (pa_cons (pe_op op_sub (pv 2) pe_int) (pa_cons (pe_tup (pa_cons pe_int (pa_cons pe_int pa_nil))) pa_nil))) pa_nil))))) pss_nil)
    (pss_cons (ps_if (pt_cmpR op_eq (pv 5) pe_int (nomark _)) (pss_one (ps_expr (pe_bm0 PySem.F.plainAttrs_list PySem.F.slot_list_reverse PySem.F.type_list_reverse mt_reverse (pv 3)))) pss_nil)
    (pss_one (ps_ret (pv 3))))))))))), ?_⟩
  have hL20 : (20000 : Nat) ≤ sizeLine := by decide +kernel
  have m3 := (mW_le ns).2
  refine ⟨by show 0 ≤ sizeLine; decide, fun lw nlw => ?_⟩
  have s0 := same_upd (o := .lst []) nlw
  have w0 : Wl ns mm (upd H lw (.lst [])) lw [] [] := ⟨upd_same, .nil, ⟨fun k m => (by cases m), fun k m => (by cases m)⟩⟩
  generalize upd H lw (.lst []) = H0 at s0 w0 ⊢
  refine gname_of ?_
  try dsimp only
  refine ⟨_, rfl, _, rfl, by omega, by omega, ?_⟩
  rw [Int.toNat_natCast]
  refine for_range (n := mm) (fun i σ H' => Same H H' ∧ ∃ (wvs : List V) (ks : List Wt) (x4 x5 x6 : Option V), σ = [some (.ref a), some (.int bb), some (.int (mm : Int)), some (.ref lw), x4, x5, x6] ∧ Wl ns mm H' lw wvs ks ∧ ks.length ≤ i)
    ⟨s0, [], [], none, none, none, rfl, w0, Nat.le_refl _⟩ ?_ ?_
  · rintro i σ H1 hi ⟨sH, wvs, ks, x4, x5, x6, rfl, hW, kl⟩
    rw [Int.zero_add]
    refine gname_of ?_
    try dsimp only
    have hS1 := SqL.same sH hS
    have wl := hW.len
    refine ⟨_, rfl, _, rfl, _, rfl, bb, (i : Int), rfl, rfl, a, ns, bb + (i : Int), 3, rfl, hS1, h63, by omega, by omega, by decide, fun r1 _ _ _ => ?_⟩
    refine ⟨r1, 0, rfl, rfl, _, rfl, ?_⟩
    refine ite2 (fun _ => ?_) (fun _ => ⟨sH, wvs, ks, _, _, _, rfl, hW, by omega⟩)
    refine ⟨_, rfl, .inl ⟨rfl, _, SqL.of hW.hw⟩, _, rfl, _, rfl, _, rfl, bb, 10, rfl, rfl, _, rfl, bb + 10, (i : Int), rfl, rfl, a, ns, bb + 10 + (i : Int), 4, rfl, hS1, h63, by omega, by omega, by decide, fun r2 r20 r24 _ => ?_⟩
    refine ⟨r2, 3, rfl, rfl, ⟨by decide, by decide⟩, 1, r2 / 3, rfl, rfl, by show 2 ≤ sizeLine; decide, fun q nq => ?_⟩
    have sq := same_upd (o := .tup [.int (1 + r2 / 3), .int 1]) nq
    refine ⟨by show 2 ≤ sizeLine; decide, fun q2 nq2 => ?_⟩
    have sq2 := same_upd (o := .tup [.int (i : Int), .ref q]) nq2
    have hW2 := hW.same (sq.trans sq2)
    refine ⟨lw, wvs, _, rfl, rfl, hW2.hw, by omega, ?_⟩
    refine ⟨same_wr nlw (sH.trans (sq.trans sq2)), _, _, _, _, _, rfl, hW2.snoc (fr := (1 + r2 / 3, 1)) upd_same (sq2 _ _ upd_same) hi ⟨sh_int _, gf_int m3 (by omega)⟩, by rw [List.length_append, List.length_singleton]; omega⟩
  · rintro σ H1 ⟨sH, wvs, ks, x4, x5, x6, rfl, hW, kl⟩
    refine tnx_of ?_
    try dsimp only
    have hS1 := SqL.same sH hS
    refine ⟨_, rfl, _, rfl, bb, 20, rfl, rfl, a, ns, bb + 20, 6, rfl, hS1, h63, by omega, by omega, by decide, fun wy _ _ _ => ?_⟩
    refine gname_of ?_
    try dsimp only
    refine ⟨_, rfl, _, rfl, bb, 21, rfl, rfl, _, rfl, a, ns, bb + 21, (mm : Int), rfl, hS1, h63, by omega, by omega, by omega, fun at' at0 at1 _ => ?_⟩
    obtain ⟨na, rfl⟩ : ∃ na : Nat, at' = (na : Int) := ⟨at'.toNat, by omega⟩
    refine gname_of ?_
    try dsimp only
    refine seq_any (fun σ' H' => Same H H' ∧ σ' = [some (.ref a), some (.int bb), some (.int (mm : Int)), some (.ref lw), x4, some (.int wy), some (.int (na : Int))] ∧ ∃ (wvs : List V) (ks : List Wt), Wl ns mm H' lw wvs ks ∧ ks.length ≤ mm + 1 ∧ (wy ≠ 0 → ks.length ≤ mm)) ?_ fun nx hnx => ?_
    rotate_left
    · refine ⟨_, rfl, rfl, _, rfl, ?_⟩
      refine ite2 (fun y => ?_) (fun _ => hnx _ _ ⟨sH, rfl, wvs, ks, hW, by omega, fun _ => kl⟩)
      have w0' : wy = 0 := V.int.inj (of_decide_eq_true y)
      refine ⟨_, rfl, .inl ⟨rfl, _, SqL.of hW.hw⟩, _, rfl, _, rfl, _, rfl, bb, 22, rfl, rfl, a, ns, bb + 22, rfl, hS1, h63, by omega, by omega, fun rs fr H4 s4 hrs shf gff => ?_⟩
      refine ⟨by show 2 ≤ sizeLine; decide, fun q nq => ?_⟩
      have sq := same_upd (o := .tup [.int (na : Int), .ref rs]) nq
      have hW2 := hW.same (s4.trans sq)
      have wl := hW.len
      refine ⟨lw, wvs, _, rfl, rfl, hW2.hw, by omega, ?_⟩
      exact hnx _ _ ⟨same_wr nlw (sH.trans (s4.trans sq)), rfl, _, _, hW2.snoc upd_same (sq _ _ hrs) (by omega) ⟨shf, gff⟩, by rw [List.length_append, List.length_singleton]; omega, fun z => absurd w0' z⟩
    clear hW kl sH hS1 wvs ks
    rintro σ' H2 ⟨sH, rfl, wvs, ks, hW, kl, kl2⟩
    have hS1 := SqL.same sH hS
    have wl := hW.len
    refine seq_any (fun σ' H' => Same H H' ∧ σ' = [some (.ref a), some (.int bb), some (.int (mm : Int)), some (.ref lw), x4, some (.int wy), some (.int (na : Int))] ∧ ∃ (wvs : List V) (ks : List Wt), Wl ns mm H' lw wvs ks ∧ ks.length ≤ mm + 1 ∧ (wy = 2 → ks.length ≤ mm)) ?_ fun nx hnx => ?_
    rotate_left
    · refine ⟨_, rfl, rfl, _, rfl, ?_⟩
      refine ite2 (fun y => ?_) (fun _ => hnx _ _ ⟨sH, rfl, wvs, ks, hW, kl, fun z => kl2 (by omega)⟩)
      have w1' : wy = 1 := V.int.inj (of_decide_eq_true y)
      have kl3 := kl2 (by omega)
      refine ⟨_, rfl, .inl ⟨rfl, _, SqL.of hW.hw⟩, _, rfl, _, rfl, bb, 24, rfl, rfl, _, rfl, lw, wvs, rfl, .inl (SqL.of hW.hw), (wvs.length : Int), 1, rfl, rfl, a, ns, bb + 24, (wvs.length : Int) + 1, rfl, hS1, h63, by omega, by omega, by omega, fun rp rp0 rp1 _ => ?_⟩
      obtain ⟨np, rfl⟩ : ∃ np : Nat, rp = (np : Int) := ⟨rp.toNat, by omega⟩
      refine ⟨_, rfl, by show 2 ≤ sizeLine; decide, fun q nq => ?_⟩
      have sq := same_upd (o := .tup [.int 1, .int 1]) nq
      refine ⟨by show 2 ≤ sizeLine; decide, fun q2 nq2 => ?_⟩
      have sq2 := same_upd (o := .tup [.int (na : Int), .ref q]) nq2
      have hW2 := hW.same (sq.trans sq2)
      refine ⟨lw, wvs, _, _, np, rfl, rfl, rfl, by omega, hW2.hw, by omega, ?_⟩
      refine hnx _ _ ⟨same_wr nlw (sH.trans (sq.trans sq2)), rfl, _, _, hW2.ins (fr := (1, 1)) upd_same (sq2 _ _ upd_same) (by omega) ⟨sh_int _, gf_int m3 (by decide)⟩ np, ?_, fun z => by omega⟩
      rw [List.length_append, List.length_cons, List.length_take, List.length_drop]
      omega
    clear hW kl kl2 sH hS1 wl wvs ks
    rintro σ' H3 ⟨sH, rfl, wvs, ks, hW, kl, kl2⟩
    have hS1 := SqL.same sH hS
    have wl := hW.len
    refine seq_any (fun σ' H' => Same H H' ∧ σ' = [some (.ref a), some (.int bb), some (.int (mm : Int)), some (.ref lw), x4, some (.int wy), some (.int (na : Int))] ∧ ∃ (wvs : List V) (ks : List Wt), Wl ns mm H' lw wvs ks ∧ ks.length ≤ mm + 1) ?_ fun nx hnx => ?_
    rotate_left
    · refine ⟨_, rfl, rfl, _, rfl, ?_⟩
      refine ite2 (fun y => ?_) (fun _ => hnx _ _ ⟨sH, rfl, wvs, ks, hW, kl⟩)
      have kl3 := kl2 (V.int.inj (of_decide_eq_true y))
      obtain ⟨m0, rfl⟩ : ∃ m0, mm = m0 + 1 := ⟨mm - 1, by omega⟩
      refine ⟨_, rfl, .inl ⟨rfl, _, SqL.of hW.hw⟩, _, rfl, _, rfl, ((m0 + 1 : Nat) : Int), 1, rfl, rfl, by show 2 ≤ sizeLine; decide, fun q nq => ?_⟩
      have em : ((m0 + 1 : Nat) : Int) - 1 = (m0 : Int) := by omega
      dsimp only
      rw [em]
      have sq := same_upd (o := .tup [.int 0, .int 1]) nq
      refine ⟨by show 2 ≤ sizeLine; decide, fun q2 nq2 => ?_⟩
      have sq2 := same_upd (o := .tup [.int (m0 : Int), .ref q]) nq2
      have hW2 := hW.same (sq.trans sq2)
      refine ⟨lw, wvs, _, _, na, rfl, rfl, rfl, by omega, hW2.hw, by omega, ?_⟩
      refine hnx _ _ ⟨same_wr nlw (sH.trans (sq.trans sq2)), rfl, _, _, hW2.ins (fr := (0, 1)) upd_same (sq2 _ _ upd_same) (by omega) ⟨sh_int _, gf_int m3 (by decide)⟩ na, ?_⟩
      rw [List.length_append, List.length_cons, List.length_take, List.length_drop]
      omega
    clear hW kl kl2 sH hS1 wl wvs ks
    rintro σ' H4 ⟨sH, rfl, wvs, ks, hW, kl⟩
    have wl := hW.len
    refine ⟨_, rfl, rfl, _, rfl, ?_⟩
    refine ite2 (fun y => ?_) (fun _ => ⟨_, rfl, k lw wvs ks H4 sH nlw hW (by omega)⟩)
    refine ⟨_, rfl, .inl ⟨rfl, _, SqL.of hW.hw⟩, lw, wvs, rfl, rfl, hW.hw, ?_⟩
    exact ⟨_, rfl, k lw _ _ _ (same_wr nlw sH) nlw hW.rev (by rw [List.length_reverse]; omega)⟩
end
end K38
set_option Elab.async false
set_option linter.all false
set_option maxRecDepth 100000
set_option maxHeartbeats 1000000
namespace Zp
open PySem
section
variable {prog : Program} {w : World} {A : Around} {E : Value → Shared → Prop} {s : Shared} {k : Src} {z TI TO i1 i2 l1 l2 : Addr} {j : Nat} {xs ys : Array Value} {x y a b : Value}
theorem zp_end2 {Q : Fin → Shared → Prop} (hh : A.handled = none) (D : ZipApart z TI TO i1 i2 l1 l2) (hz : IsZip s.heap z TI TO .none) (hI : IsPair s.heap TI (.ref i1) (.ref i2)) (hO : IsPair s.heap TO a b)
    (t1 : k.It s.heap i1 l1 j) (t2 : k.It s.heap i2 l2 j) (q1 : k.Sq s.heap l1 xs) (q2 : k.Sq s.heap l2 ys) (ex : xs[j]? = some x) (ends : ys[j]? = none)
    (q : ∀ h' e, (∀ c o, c ≠ z → c ≠ TO → c ≠ i1 → c ≠ i2 → s.heap.get? c = some o → h'.get? c = some o) → (∃ o, h'.get? e = some o ∧ o.cls = .type "StopIteration") → E (.ref e) { s with heap := h' }) :
    wpAny (model prog w) A (Builtin.«zip.__next__» ⟨[.ref z], []⟩) Q E s := by
  show wpAny _ _ (do let u ← field (.ref z) 2; _) _ _ _
  refine wpAny_bind (wpAny_field hz rfl (x := .bool false) rfl ?_)
  show wpAny _ _ (do let u ← field (.ref z) 3; _) _ _ _
  refine wpAny_bind (wpAny_field hz rfl (x := .ref TI) rfl (wpAny_bind (wpAny_seqItems hI rfl ?_)))
  show wpAny _ _ (do let u ← Builtin.SmallTypes.ownedTupleIsFree (.ref z); _) _ _ _
  refine wpAny_bind ?_
  rw [Builtin.SmallTypes.ownedTupleIsFree]
  refine wpAny_bind (wpAny_field hz rfl (x := .none) rfl (wpAny_pure ?_))
  simp only [if_true]
  refine wpAny_bind (wpAny_rule (wpAny_bind (wpAny_field hz rfl (x := .ref TO) rfl (wpAny_bind (wpAny_setField_rec hz (by simp) fun g1 y1 s1 => ?_)))))
  have y1 : IsZip g1 z TI TO .ellipsis := y1
  refine wpAny_bind ?_
  simp only [List.forIn_cons, List.forIn_nil, List.zipIdx_nil, List.zipIdx_cons]
  refine wpAny_bind (wpAny_bind (wpAny_onRaise ?_))
  show wpAny _ _ (do let u ← Builtin.SmallTypes.nextOf (.ref i1); _) _ _ _
  refine wpAny_bind (nx_item (s := { s with heap := g1 }) (it_at t1 fun o e => s1.extBut _ o D.i1z e) (sq_at q1 fun o e => s1.extBut _ o D.l1z e) ex fun g2 u1 s2 => wpAny_pure ?_)
  have o2 : IsPair g2 TO a b := s2.extBut _ _ D.TOi1 (s1.extBut _ _ D.TOz hO)
  refine wpAny_bind (wpAny_seqItems o2 rfl (wpAny_bind (wpAny_updateSeq_pair (s := { s with heap := g2 }) o2 fun g3 o3 s3 => ?_)))
  have o3 : IsPair g3 TO x b := o3
  refine wpAny_bind (wpAny_letGo (wpAny_pure (wpAny_bind (wpAny_bind (wpAny_onRaise ?_)))))
  show wpAny _ _ (do let u ← Builtin.SmallTypes.nextOf (.ref i2); _) _ _ _
  refine wpAny_bind (nx_end (s := { s with heap := g3 }) hh (it_at t2 fun o e => s3.extBut _ o D.TOi2.symm (s2.extBut _ o D.i12.symm (s1.extBut _ o D.i2z e))) (sq_at q2 fun o e => s3.extBut _ o D.l2TO (s2.extBut _ o D.l2i1 (s1.extBut _ o D.l2z e))) ends fun g4 e s4 he => ?_)
  obtain ⟨oe, e1, e2⟩ := he
  have y4 : IsZip g4 z TI TO .ellipsis := s4 _ _ D.i2z.symm (s3.extBut _ _ D.TOz.symm (s2.extBut _ _ D.i1z.symm y1))
  have ne : e ≠ z := fun n => by subst n; rw [y4] at e1; cases e1; simp at e2
  exact wpAny_setField_rec y4 (by simp) fun g5 _ s5 => q g5 e (fun c o c1 c2 c3 c4 n => s5.extBut _ _ c1 (s4 _ _ c4 (s3.extBut _ _ c2 (s2.extBut _ _ c3 (s1.extBut _ _ c1 n))))) ⟨oe, s5.extBut _ _ ne e1, e2⟩
theorem zn_end2 {Q : Option Value → Shared → Prop} (hh : A.handled = none) (D : ZipApart z TI TO i1 i2 l1 l2) (hz : IsZip s.heap z TI TO .none) (hI : IsPair s.heap TI (.ref i1) (.ref i2)) (hO : IsPair s.heap TO a b)
    (t1 : k.It s.heap i1 l1 j) (t2 : k.It s.heap i2 l2 j) (q1 : k.Sq s.heap l1 xs) (q2 : k.Sq s.heap l2 ys) (ex : xs[j]? = some x) (ends : ys[j]? = none)
    (q : ∀ h', (∀ c o, c ≠ z → c ≠ TO → c ≠ i1 → c ≠ i2 → s.heap.get? c = some o → h'.get? c = some o) → Q none { s with heap := h' }) : wpAny (model prog w) A (pyNext (.ref z)) Q E s := by
  have ty : s.TypeIs (.ref z) "zip" := ⟨_, hz, rfl⟩
  rw [pyNext]
  refine wpAny_bind (wpAny_attempt (wpAny_callSpecial?_slot (name := Str.ofString "__next__") ty F.slot_zip_next (wpAny_call_entry F.slot_zip_next ty F.entry_zip_next (zp_end2 hh D hz hI hO t1 t2 q1 q2 ex ends fun h' e up he => ?_) (F.args_zip_next_1 _))))
  obtain ⟨o, e1, e2⟩ := he
  exact wpAny_bind (wpAny_isInstance (T := "StopIteration") (b := true) ⟨o, e1, e2⟩ isSubtype_stop (wpAny_pure (q _ up)))
end
end Zp
namespace L2
open PySem PySem.Spec PyProof.Rows Zp
def Itz2 (k : Src) (K : PySem.W.Frag) (a b : Addr) : It := ⟨(Itz k K a b).go, (Itz k K a b).yld, fun i H => (Itz k K a b).stop i H ∨ ∃ xs ys, Sqk k K H a xs ∧ Sqk k K H b ys ∧ i < xs.length ∧ ys.length ≤ i⟩
theorem turn_zip2 {P : Program} {w : World} {K : PySem.W.Frag} {es : List Expr} {kk : Nat} {pos : Pos} {k : Src} (a b z TI TO i1 i2 : Addr) (hd : [z, TI, TO, i1, i2].Nodup) :
    Turn P w K (.Tuple es kk pos) (Itz2 k K a b) [z, TI, TO, i1, i2] z (fun i h => IsZip h z TI TO .none ∧ IsPair h TI (.ref i1) (.ref i2) ∧ (∃ u v, IsPair h TO u v) ∧ k.It h i1 a i ∧ k.It h i2 b i ∧ a ∉ [z, TI, TO, i1, i2] ∧ b ∉ [z, TI, TO, i1, i2]) where
  mem := (turn_zip (P := P) (w := w) (es := es) (kk := kk) (pos := pos) (k := k) (K := K) a b z TI TO i1 i2 hd).mem
  obj := (turn_zip (P := P) (w := w) (es := es) (kk := kk) (pos := pos) (k := k) (K := K) a b z TI TO i1 i2 hd).obj
  keep := (turn_zip (P := P) (w := w) (es := es) (kk := kk) (pos := pos) (k := k) (K := K) a b z TI TO i1 i2 hd).keep
  item := (turn_zip (P := P) (w := w) (es := es) (kk := kk) (pos := pos) (k := k) (K := K) a b z TI TO i1 i2 hd).item
  self := (turn_zip (P := P) (w := w) (es := es) (kk := kk) (pos := pos) (k := k) (K := K) a b z TI TO i1 i2 hd).self
  done := by
    intro X hP hw hK hc i pins s σ H E I hf st hg
    rcases hg with hg | hg
    · exact (turn_zip (P := P) (w := w) (es := es) (kk := kk) (pos := pos) (k := k) (K := K) a b z TI TO i1 i2 hd).done X hP hw hK hc i pins s σ H E I hf st hg
    · obtain ⟨h1, h2, ⟨u0, v0, h3⟩, h4, h5, h6, h7⟩ := st
      subst hP hw hK
      obtain ⟨xs, ys, g1, g2, g3, g4⟩ := hg
      obtain ⟨as, r1, p1, z1⟩ := I.sqk g1
      obtain ⟨bs, r2, p2, z2⟩ := I.sqk g2
      have hl := r1.length
      have hl2 := r2.length
      simp only [List.nodup_cons, List.mem_cons, List.not_mem_nil, or_false, not_or, List.nodup_nil, and_true, not_false_eq_true] at hd h6 h7
      obtain ⟨⟨d1, d2, d3, d4⟩, ⟨d5, d6, d7⟩, ⟨d8, d9⟩, d10⟩ := hd
      have D : ZipApart z TI TO i1 i2 a b := ⟨Ne.symm d1, Ne.symm d2, Ne.symm d3, Ne.symm d4, d5, d6, d7, d8, d9, d10, h6.1, h6.2.2.1, h6.2.2.2.1, h6.2.2.2.2, h7.1, h7.2.2.1, h7.2.2.2.1, h7.2.2.2.2⟩
      have hi : i < as.length := by omega
      refine zn_end2 (I.ok.hd hc) D h1 h2 h3 h4 h5 p1 p2 (x := as[i]) (by simp [hi]) (by simp; omega) fun h' up => ⟨rfl, I.turneds (t' := s.toks) (fun c o n e => ?_) hf⟩
      simp only [List.mem_cons, List.not_mem_nil, or_false, not_or] at n
      exact up c o n.1 n.2.2.1 n.2.2.2.1 n.2.2.2.2 e
section
variable {X : Cx}
def iZip2 (k : Src) (K : PySem.W.Frag) (ta : TA) : TI := fun σ H R => ta σ H fun vs H1 => ∃ a b xs ys, vs = [.ref a, .ref b] ∧ Sqk k K H1 a xs ∧ Sqk k K H1 b ys ∧ R (Itz2 k K a b) H1
theorem pi_zip2 {k : Src} {es : List Expr} {kk : Nat} {pt : Pos} {x y : Expr} {ta : TA} {p pos : Pos} (hg : Gl X "zip") (hm : X.mg "zip" = none) (ha : PA X [x, y] ta) (hs : starEach [x, y] X.env = [(false, eval x X.env), (false, eval y X.env)] := by rfl) (hs2 : starEach [y] X.env = [(false, eval y X.env)] := by rfl) :
    PI X (.Tuple es kk pt) (.Call (.Name "zip" p) [x, y] [] pos) (iZip2 k X.K ta) := by
  intro pins s σ H R I h
  refine Call_ (ld_blt I hg hm PyProof.Rows.boot_zip (PyProof.Rows.callWith_type1 (thn (ha pos pins s σ H _ I h) fun us s1 ⟨vs, H1, I1, r1, q1⟩ => ?_) (by rw [hs, hs2]) (by rw [hs2]; rfl)))
  obtain ⟨a, b, xs, ys, e, k1, k2, q⟩ := q1
  subst e
  cases r1 with
  | cons r rr =>
    cases rr with
    | cons r' rr =>
      cases rr
      cases r
      cases r'
      obtain ⟨as, _, p1, _⟩ := I1.sqk k1
      obtain ⟨bs, _, p2, _⟩ := I1.sqk k2
      refine call_zip p1 p2 fun h' hz hI hO t1 t2 sz up => ?_
      refine wpAny_pyIter_zip (s := { s1 with heap := h' }) hz ?_
      have lta : a < s1.heap.objs.size := by
        cases k
        · obtain ⟨o, e, _⟩ := p1
          exact Heap.lt_size e
        · obtain ⟨o, e, _⟩ := p1
          exact Heap.lt_size e
      have ltb : b < s1.heap.objs.size := by
        cases k
        · obtain ⟨o, e, _⟩ := p2
          exact Heap.lt_size e
        · obtain ⟨o, e, _⟩ := p2
          exact Heap.lt_size e
      have na : ∀ j, a ≠ s1.heap.objs.size + j := fun j => Nat.ne_of_lt (Nat.lt_of_lt_of_le lta (Nat.le_add_right ..))
      have nb : ∀ j, b ≠ s1.heap.objs.size + j := fun j => Nat.ne_of_lt (Nat.lt_of_lt_of_le ltb (Nat.le_add_right ..))
      have le : ∀ c ∈ [s1.heap.objs.size + 4, s1.heap.objs.size + 2, s1.heap.objs.size + 3, s1.heap.objs.size + 0, s1.heap.objs.size + 1], s1.heap.objs.size ≤ c := fun c hc => by
        simp only [List.mem_cons, List.not_mem_nil, or_false] at hc
        rcases hc with rfl | rfl | rfl | rfl | rfl <;> exact Nat.le_add_right ..
      refine ⟨s1.heap.objs.size + 4, [s1.heap.objs.size + 4, s1.heap.objs.size + 2, s1.heap.objs.size + 3, s1.heap.objs.size + 0, s1.heap.objs.size + 1], _, _, H1, rfl, I1.kept (t' := s1.toks) up, turn_zip2 a b _ _ _ _ _ (by simp), ⟨hz, hI, ⟨_, _, hO⟩, t1, t2, ?_, ?_⟩, fun c hc => I1.fpOk (le c hc) (I1.hok.fresh (le c hc)), q⟩
      · simp only [List.mem_cons, List.not_mem_nil, or_false, not_or]
        exact ⟨na 4, na 2, na 3, na 0, na 1⟩
      · simp only [List.mem_cons, List.not_mem_nil, or_false, not_or]
        exact ⟨nb 4, nb 2, nb 3, nb 0, nb 1⟩
end
def CompZ (J : It) (mp : List (Option Nat)) (g : TG) (te : TE) (σ : L2.St) (Q : VK) (H1 : Hp) : Prop := ∀ D, H1 D = none →
  ∃ W : Nat → Nat → List V → Hp → Prop, (∃ m, W 0 m [] (upd H1 D (.lst []))) ∧ ∀ i m acc H2, W i m acc H2 →
    (J.stop i H2 ∧ Q (.ref D) H2) ∨
    (J.go i H2 ∧ ∀ x H3, J.yld i H2 x H3 → g x (subS mp σ) H3 fun σ4 H4 => Ext (subS mp σ) σ4 ∧ tNoTest σ4 H4 fun b H5 => if b = true then te σ4 H5 fun v H6 => H6 D = some (.lst acc) ∧ acc.length < sizeLine ∧ ∃ m', m' < m ∧ W (i + 1) m' (acc ++ [v]) (upd H6 D (.lst (acc ++ [v]))) else ∃ m', m' < m ∧ W (i + 1) m' acc H5)
theorem tcompZ_of {k : Src} {K : PySem.W.Frag} {mp : List (Option Nat)} {ta : TA} {g : TG} {te : TE} {σ : L2.St} {H : Hp} {Q : VK} (h : ta σ H fun vs H1 => ∃ a b xs ys, vs = [.ref a, .ref b] ∧ Sqk k K H1 a xs ∧ Sqk k K H1 b ys ∧ CompZ (Itz2 k K a b) mp g te σ Q H1) : tComp mp (iZip2 k K ta) g tNoTest te σ H Q := h
theorem compZ_mk {k : Src} {K K' : PySem.W.Frag} {a b : Addr} {mp : List (Option Nat)} {te : TE} {Q : VK} {σ rest : L2.St} {H1 : Hp} {xs ys : List V} (e : subS mp σ = none :: none :: rest) (hl : ys.length ≤ xs.length)
    (h : ∀ D, H1 D = none → ∃ Pv : Nat → List V → Hp → Prop, Pv 0 [] (upd H1 D (.lst [])) ∧ (∀ i acc H, Pv i acc H → Sqk k K H a xs ∧ Sqk k K H b ys) ∧
      (∀ i T x y acc H, i < ys.length → i < sizeLine → Pv i acc H → xs[i]? = some x → ys[i]? = some y → H T = none → te (some x :: some y :: rest) (upd H T (.tup [x, y])) (CompN ys.length i D acc Pv)) ∧ ∀ acc H, Pv ys.length acc H → Q (.ref D) H) :
    CompZ (Itz2 k K a b) mp (gTup K' 2 (gCons (gName 0) (gCons (gName 1) gNil))) te σ Q H1 := by
  intro D nD
  rw [e]
  obtain ⟨Pv, p0, pq, ps, pd⟩ := h D nD
  refine ⟨fun i m acc H => m = ys.length - i ∧ i ≤ ys.length ∧ Pv i acc H, ⟨ys.length, by simp, Nat.zero_le _, p0⟩, ?_⟩
  rintro i m acc H ⟨rfl, hi, p⟩
  obtain ⟨q1, q2⟩ := pq i acc H p
  by_cases hlt : i < ys.length
  · refine .inr ⟨⟨xs, ys, xs[i], ys[i], q1, q2, by simp, by simp [hlt]⟩, ?_⟩
    rintro v H' ⟨T, x, y, rfl, nT, rfl, y1, y2, z⟩
    refine ⟨T, [x, y], rfl, SqT.of upd_same, rfl, x, [y], rfl, y, [], rfl, rfl, ext2, ?_⟩
    exact ps i T x y acc H hlt z p (y1 xs q1) (y2 ys q2) nT
  · have ei : i = ys.length := by omega
    subst ei
    refine .inl ⟨?_, pd acc H p⟩
    by_cases hx : xs.length ≤ ys.length
    · exact .inl ⟨xs, ys, q1, q2, hx⟩
    · exact .inr ⟨xs, ys, q1, q2, by omega, Nat.le_refl _⟩
end L2
set_option Elab.async false
set_option linter.all false
set_option maxRecDepth 100000
set_option maxHeartbeats 4000000
namespace L2
open PySem PySem.Spec PyProof.Rows
theorem comp_prsL {K K' : PySem.W.Frag} {a : Addr} {mp : List (Option Nat)} {tl : TE} {tc : TT} {te : TE} {Q : VK} {σ rest : L2.St} {H H1 : Hp} {xs : List V} (e : subS mp σ = none :: none :: rest)
    (ha : ∀ Q : VK, Q (.ref a) H1 → tl σ H Q) (h1 : SqL K H1 a xs)
    (h : ∀ D, H1 D = none → ∃ Pv : Nat → List V → Hp → Prop, Pv 0 [] (upd H1 D (.lst [])) ∧ (∀ i acc H, Pv i acc H → SqL K H a xs) ∧
      (∀ i z acc H, i < xs.length → Pv i acc H → xs[i]? = some z → ∃ T x y, z = .ref T ∧ SqT K' H T [x, y] ∧ tc (some x :: some y :: rest) H fun b H5 => if b = true then te (some x :: some y :: rest) H5 (CompN xs.length i D acc Pv) else CompS xs.length i acc Pv H5) ∧ ∀ acc H, Pv xs.length acc H → Q (.ref D) H) :
    tComp mp (iList K tl) (gTup K' 2 (gCons (gName 0) (gCons (gName 1) gNil))) tc te σ H Q := by
  unfold tComp
  rw [e]
  refine ha _ ⟨a, rfl, ⟨xs, h1⟩, fun D nD => ?_⟩
  obtain ⟨Pv, p0, pq, ps, pd⟩ := h D nD
  refine ⟨fun i m acc H => m = xs.length - i ∧ i ≤ xs.length ∧ Pv i acc H, ⟨xs.length, by simp, Nat.zero_le _, p0⟩, ?_⟩
  rintro i m acc H ⟨rfl, hi, p⟩
  have q1 := pq i acc H p
  by_cases hlt : i < xs.length
  · refine .inr ⟨⟨xs, xs[i], q1, by simp [hlt]⟩, ?_⟩
    rintro v H' ⟨rfl, y⟩
    have ev := y xs q1
    obtain ⟨T, x, z, rfl, hT, hte⟩ := ps i v acc _ hlt p ev
    exact ⟨T, [x, z], rfl, hT, rfl, x, [z], rfl, z, [], rfl, rfl, ext2, hte⟩
  · have ei : i = xs.length := by omega
    subst ei
    exact .inl ⟨⟨xs, q1, Nat.le_refl _⟩, pd acc H p⟩
end L2
namespace K38
open PySem L2 Mth Tre Wd Su
def Adj (ks : List Wt) : Prop := ∀ j, j + 1 < ks.length → (ks.getD j (0, zero)).1 < (ks.getD (j + 1) (0, zero)).1
def Brs (bs : List Bd) (ks : List Wt) : Prop := Adj ks ∧ (∀ k ∈ ks, 0 < k.2.1) ∧ Can (flatP bs ks) [] ∧ (totR bs ks < 0 ∨ (totR bs ks = 0 ∧ ∃ k ∈ ks, (bdAt bs k.1).st = true))
theorem notest_of {σ : L2.St} {H : Hp} {A B : Hp → Prop} (h : A H) : tNoTest σ H fun b H5 => if b = true then A H5 else B H5 := by
  show if true = true then A H else B H
  rw [if_pos rfl]
  exact h
theorem tb_cb {r : List V → Hp → VK → Prop} {te : TE} {σ : L2.St} {H : Hp} {k : Bool → Hp → Prop} (h : te σ H fun v H1 => r [v] H1 fun x H2 => ∃ b, x = .bl b ∧ k b H2) : tB (tCB r (tCons te tNil)) σ H k := h
theorem sgn_le (a : Int) : decide ((if a < 0 then (-1 : Int) else if 0 < a then 1 else 0) ≤ 0) = !decide (0 < a) := by
  by_cases h : a < 0
  · rw [if_pos h, decide_eq_true (by decide), decide_eq_false (by omega)]
    rfl
  · rw [if_neg h]
    by_cases h2 : 0 < a
    · rw [if_pos h2, decide_eq_false (by decide), decide_eq_true h2]
      rfl
    · rw [if_neg h2, decide_eq_true (by decide), decide_eq_false h2]
      rfl
theorem sgn_gt (a : Int) : decide ((0 : Int) < (if a < 0 then (-1 : Int) else if 0 < a then 1 else 0)) = decide (0 < a) := by
  by_cases h : a < 0
  · rw [if_pos h, decide_eq_false (by decide), decide_eq_false (by omega)]
  · rw [if_neg h]
    by_cases h2 : 0 < a
    · rw [if_pos h2, decide_eq_true (by decide), decide_eq_true h2]
    · rw [if_neg h2, decide_eq_false (by decide), decide_eq_false h2]
theorem sgn_lt (a : Int) : decide ((if a < 0 then (-1 : Int) else if 0 < a then 1 else 0) < (0 : Int)) = decide (a < 0) := by
  by_cases h : a < 0
  · rw [if_pos h, decide_eq_true (by decide), decide_eq_true h]
  · rw [if_neg h]
    by_cases h2 : 0 < a
    · rw [if_pos h2, decide_eq_false (by decide), decide_eq_false h]
    · rw [if_neg h2, decide_eq_false (by decide), decide_eq_false h]
theorem rv_pos {p : Fr} (h : 0 < p.2) : 0 < rv p ↔ 0 < p.1 := by
  have h2 : (0 : Rat) < (p.2 : Rat) := by exact_mod_cast h
  unfold rv
  constructor
  · intro q
    have : (0 : Rat) < (p.1 : Rat) := by
      have := Rat.mul_pos q h2
      rwa [Rat.div_mul_cancel (by grind)] at this
    exact_mod_cast this
  · intro q
    have q2 : (0 : Rat) < (p.1 : Rat) := by exact_mod_cast q
    rw [Rat.div_def]
    exact Rat.mul_pos q2 (Rat.inv_pos.mpr h2)
theorem rv_lt0 {p : Fr} (h : 0 < p.2) : rv p < 0 ↔ p.1 < 0 := by
  have := rv_pos (p := negF p) h
  rw [rv_neg] at this
  have e : (negF p).1 = -p.1 := rfl
  rw [e] at this
  constructor
  · intro q
    have := this.mp (by grind)
    omega
  · intro q
    have := this.mpr (by omega)
    grind
theorem rv_eq0 {p : Fr} (h : 0 < p.2) : rv p = 0 ↔ p.1 = 0 := by
  have h1 := rv_pos h
  have h2 := rv_lt0 h
  constructor
  · intro q
    rw [q] at h1 h2
    have n1 : ¬ 0 < p.1 := fun z => absurd (h1.mpr z) (by decide)
    have n2 : ¬ p.1 < 0 := fun z => absurd (h2.mpr z) (by decide)
    omega
  · intro q
    unfold rv
    rw [q]
    have : ((0 : Int) : Rat) = 0 := rfl
    rw [this]
    grind
theorem tret_any {r : List V → Hp → VK → Prop} {te : TE} {σ : L2.St} {H : Hp} {Q : VK} (h : te σ H fun v H1 => r [v] H1 Q) : tCB r (tCons te tNil) σ H Q := h
theorem tasg_of {te : TE} {i : Nat} {u : TS} {Z : Ends} {σ : L2.St} {H : Hp} (h : te σ H fun v H1 => gName i v σ H1 (u Z)) : tSeq (tAsg te (gName i)) u Z σ H := h
section
variable {P : Program} {w : World} {K : PySem.W.Frag} {mg : Str → Option Value} {base : Heap}
def spBears (K : PySem.W.Frag) : Sp := fun vs H Q _ => ∃ (lb lw : Addr) (bvs wvs : List V) (T : List Tr) (bs : List Bd) (ks : List Wt) (e m : Nat), vs = [.ref lb, .ref lw] ∧ Ad H lb lw bvs wvs T bs ks e m ∧
  ∀ (b : Bool) (H' : Hp), Same H H' → (b = true ↔ Brs bs ks) → Q (.bl b) H'
theorem scBe : FnScope ["bounds", "weights", "places", "rising", "pairs", "total"] ["bounds", "weights"] (defScope sBears) := ⟨rfl, rfl, rfl, by decide +kernel, rfl, by decide +kernel, by decide +kernel⟩
theorem ok_bears {f fS fA : Addr} {fd dS dA : FuncData} (F : Fun K "bears" "bears" sBears f fd) (B : Blt mg)
    (gS : FnOk P w K mg base CX0 1 fS dS ["one"] (spSign K)) (kS : PySem.W.keepIn K (.ref fS) = true) (bS : Binds K dS ["one"] []) (mS : mg "sign_of" = some (.ref fS))
    (gA : FnOk P w K mg base CX0 4 fA dA ["bounds", "weights"] (spAdded K)) (kA : PySem.W.keepIn K (.ref fA) = true) (bA : Binds K dA ["bounds", "weights"] []) (mA : mg "added" = some (.ref fA)) : FnOk P w K mg base CX0 5 f fd ["bounds", "weights"] (spBears K) := by
  refine F.ok scBe (fun vs H Q E h => ?_) (fun cdv A outer s H vs Q E hr h => ?_)
  · obtain ⟨lb, lw, bvs, wvs, T, bs, ks, e, m, rfl, _⟩ := h
    rfl
  obtain ⟨lb, lw, bvs, wvs, T, bs, ks, e, m, rfl, ad, k⟩ := h
  have hun := hr.units
  have hr1 : Room 1 _ := hr.mono (by decide)
  have hu60 := Nat.lt_of_le_of_lt (Nat.add_le_add_left (show 60 ≤ 64 by decide) _) hun
  have hu50 := Nat.lt_of_le_of_lt (Nat.add_le_add_left (show 50 ≤ 64 by decide) _) hun
  refine ⟨_, pss_cons (ps_setC (NC := ["place", "weight"]) (mp := [none, none]) (g := gTup K 2 (gCons (gName 0) (gCons (gName 1) gNil))) (i := 2) rfl scBe.nd rfl rfl rfl (pi_list (pv 1)) (fun _ _ _ _ _ => pg_tup (n := 2) rfl (pgs_cons (pg_name (i := 0) (show (["place", "weight"] : List Str).Nodup by decide +kernel) rfl (Or.inl rfl)) (pgs_cons (pg_name (i := 1) (show (["place", "weight"] : List Str).Nodup by decide +kernel) rfl (Or.inl rfl)) pgs_nil))) (fun _ _ _ _ _ => pts_nil) (fun _ _ _ _ _ => pv 0))
    (pss_cons (ps_set (i := 3) scBe.nd rfl (Or.inl rfl) (pe_callB (call_allT rfl) rfl B.al PyProof.Rows.boot_all (pa_cons (pe_comp (NC := ["one", "other"]) (mp := [none, none]) (g := gTup K 2 (gCons (gName 0) (gCons (gName 1) gNil))) rfl (pi_zip2 (k := .lst) rfl B.zi (pa_cons (pv 2) (pa_cons (pe_slice sl_list (pv 2) (po_some pe_int) po_none) pa_nil))) (fun _ _ _ _ _ => pg_tup (n := 2) rfl (pgs_cons (pg_name (i := 0) (show (["one", "other"] : List Str).Nodup by decide +kernel) rfl (Or.inl rfl)) (pgs_cons (pg_name (i := 1) (show (["one", "other"] : List Str).Nodup by decide +kernel) rfl (Or.inl rfl)) pgs_nil))) (fun _ _ _ _ _ => pts_nil) (fun _ _ _ _ _ => pe_cmpR op_lt (pv 0) (pv 1) (nomark _))) pa_nil)))
    (pss_cons (ps_if (PW.pt (pw_or (pt_not (pt_val (pv 3))) (pw_or1 (pt_val (pe_callB (call_anyT rfl) rfl B.an PyProof.Rows.boot_any (pa_cons (pe_comp (NC := ["place", "weight"]) (mp := [none, none]) (g := gTup K 2 (gCons (gName 0) (gCons (gName 1) gNil))) rfl (pi_list (pv 1)) (fun _ _ _ _ _ => pg_tup (n := 2) rfl (pgs_cons (pg_name (i := 0) (show (["place", "weight"] : List Str).Nodup by decide +kernel) rfl (Or.inl rfl)) (pgs_cons (pg_name (i := 1) (show (["place", "weight"] : List Str).Nodup by decide +kernel) rfl (Or.inl rfl)) pgs_nil))) (fun _ _ _ _ _ => pts_nil) (fun _ _ _ _ _ => pe_cmpR op_le (pe_call gS hr1 rfl mS kS bS .nil pass0 (pa_cons (pv 1) pa_nil)) pe_int (nomark _))) pa_nil))))))
      (pss_one (ps_ret pe_bl)) pss_nil)
    (pss_cons (ps_asg (pe_call gA hr rfl mA kA bA .nil pass0 (pa_cons (pv 0) (pa_cons (pv 1) pa_nil))) (pg_tup rfl (pgs_cons (pg_name (i := 4) scBe.nd rfl (Or.inl rfl)) (pgs_cons (pg_name (i := 5) scBe.nd rfl (Or.inl rfl)) pgs_nil))))
    (pss_cons (ps_if (PW.pt (pw_or (pt_cmpR (op_neT hu50) (pv 4) (pe_tup pa_nil) (nomark _)) (pw_or1 (pt_cmpR op_gt (pe_call gS hr1 rfl mS kS bS .nil pass0 (pa_cons (pv 5) pa_nil)) pe_int (nomark _)))))
      (pss_one (ps_ret pe_bl)) pss_nil)
    (pss_one (ps_ret (pe_or (pe_cmpR op_lt (pe_call gS hr1 rfl mS kS bS .nil pass0 (pa_cons (pv 5) pa_nil)) pe_int (nomark _)) (pe_one (pe_callB (call_anyT rfl) rfl B.an PyProof.Rows.boot_any (pa_cons (pe_comp (NC := ["place", "bounds"]) (mp := [none, some 0]) rfl (pi_list (pv 2)) (fun _ _ _ _ _ => pg_name (i := 0) (show (["place", "bounds"] : List Str).Nodup by decide +kernel) rfl (Or.inl rfl)) (fun _ _ _ _ _ => pts_nil) (fun _ _ _ _ _ => pe_ix (r := rIxT K) ix_tup (pe_ix (r := rIxL K) ix_list (pv 1) (pv 0) fun _ _ => rfl) pe_int fun _ _ => rfl)) pa_nil)))))))))), ?_⟩
  have hL20 : (20000 : Nat) ≤ sizeLine := by decide +kernel
  have kl := ad.kl
  have wl := ad.tw.len
  rw [List.length_map] at wl
  refine tasg_of ?_
  refine comp_prsL (K' := K) (xs := wvs) (rest := []) (a := lw) rfl (fun Q q => ⟨_, rfl, q⟩) (SqL.of ad.hw) fun L nL => ?_
  refine ⟨fun i acc H' => Same H H' ∧ H' L = some (.lst acc) ∧ acc = (ks.take i).map fun k => V.int (k.1 : Int), ⟨same_upd nL, upd_same, rfl⟩, fun i acc H' p => SqL.of (p.1 _ _ ad.hw), ?_, ?_⟩
  · rintro i z acc H1 hi ⟨s1, hL, rfl⟩ ez
    obtain ⟨t, et, ht⟩ := ad.tw.get' ez
    rw [List.getElem?_map] at et
    obtain ⟨kk, ek, rfl⟩ := Option.map_eq_some_iff.mp et
    obtain ⟨pw, rw', rfl, hpw, hrw⟩ := wt_at ht
    refine ⟨pw, _, _, rfl, SqT.of (s1 _ _ hpw), ?_⟩
    refine notest_of ⟨_, rfl, CompN.mk hi ?_ hL ⟨same_wr nL s1, upd_same, ?_⟩⟩
    · rw [List.length_map, List.length_take]
      omega
    · rw [take_get ek, List.map_append]
      rfl
  rintro acc H1 ⟨s1, hL, rfl⟩
  rw [wl, List.take_length] at hL
  refine gname_of ?_
  try dsimp only
  refine tset_cb ?_
  refine tcompZ_of ?_
  refine ⟨_, rfl, _, rfl, _, rfl, L, _, rfl, SqL.of hL, fun b nb => ?_⟩
  have ec : cutV (ks.map fun k => V.int (k.1 : Int)) (some 1) none = (ks.drop 1).map fun k => V.int (k.1 : Int) := by
    unfold cutV
    rw [show (1 : Int) = ((1 : Nat) : Int) by rfl, HT.sIx_nat, HT.sIx_none]
    cases ks with
    | nil => rfl
    | cons k0 r =>
      have : min 1 ((k0 :: r).map fun k => V.int (k.1 : Int)).length = 1 := by rw [List.length_map, List.length_cons]; omega
      rw [this, List.take_of_length_le (by rw [List.length_drop]; exact Nat.le_refl _), List.map_drop]
  rw [ec]
  have sb := same_upd (o := .lst ((ks.drop 1).map fun k => V.int (k.1 : Int))) nb
  have hb := upd_same (H := H1) (a := b) (o := .lst ((ks.drop 1).map fun k => V.int (k.1 : Int)))
  have s2 := s1.trans sb
  have hL2 := sb _ _ hL
  generalize upd H1 b (.lst ((ks.drop 1).map fun k => V.int (k.1 : Int))) = H2 at sb hb s2 hL2 ⊢
  refine ⟨L, b, _, _, rfl, SqL.of hL2, SqL.of hb, ?_⟩
  refine compZ_mk (K' := K) (rest := []) (xs := ks.map fun k => V.int (k.1 : Int)) (ys := (ks.drop 1).map fun k => V.int (k.1 : Int)) rfl (by rw [List.length_map, List.length_map, List.length_drop]; omega) fun D nD => ?_
  refine ⟨fun i acc H' => Same H2 H' ∧ H' D = some (.lst acc) ∧ ∃ bl : List Bool, acc = bl.map V.bl ∧ bl.length = i ∧ (bl.all id = true ↔ ∀ j, j < i → (ks.getD j (0, zero)).1 < (ks.getD (j + 1) (0, zero)).1), ⟨same_upd nD, upd_same, [], rfl, rfl, by simp⟩, fun i acc H' p => ⟨SqL.of (p.1 _ _ hL2), SqL.of (p.1 _ _ hb)⟩, ?_, ?_⟩
  · rintro i Tt x y acc H3 hi _ ⟨s3, hD, bl, rfl, bll, hbl⟩ ex ey nT
    rw [List.length_map, List.length_drop] at hi
    rw [List.getElem?_map] at ex ey
    obtain ⟨k1, e1, rfl⟩ := Option.map_eq_some_iff.mp ex
    obtain ⟨k2, e2, rfl⟩ := Option.map_eq_some_iff.mp ey
    rw [List.getElem?_drop, Nat.add_comm] at e2
    have sT := same_upd (o := .tup [.int (k1.1 : Int), .int (k2.1 : Int)]) nT
    refine ⟨_, rfl, _, rfl, (k1.1 : Int), (k2.1 : Int), rfl, rfl, ?_⟩
    refine CompN.mk (by rw [List.length_map, List.length_drop]; exact hi) ?_ (sT _ _ hD) ⟨same_wr nD (s3.trans sT), upd_same, bl ++ [decide ((k1.1 : Int) < (k2.1 : Int))], by rw [List.map_append]; rfl, by rw [List.length_append, bll]; rfl, ?_⟩
    · rw [List.length_map]
      omega
    · have g1 : ks.getD i (0, zero) = k1 := by rw [List.getD_eq_getElem?_getD, e1]; rfl
      have g2 : ks.getD (i + 1) (0, zero) = k2 := by rw [List.getD_eq_getElem?_getD, e2]; rfl
      rw [List.all_append, Bool.and_eq_true, hbl]
      constructor
      · rintro ⟨h1, h2⟩ j hj
        by_cases z : j = i
        · subst z
          rw [g1, g2]
          simp only [List.all_cons, id_eq, List.all_nil, Bool.and_true, decide_eq_true_eq] at h2
          omega
        · exact h1 j (by omega)
      · intro h
        refine ⟨fun j hj => h j (by omega), ?_⟩
        have := h i (by omega)
        rw [g1, g2] at this
        simp only [List.all_cons, id_eq, List.all_nil, Bool.and_true, decide_eq_true_eq]
        omega
  rintro acc H3 ⟨s3, hD, bl, rfl, bll, hbl⟩
  rw [List.length_map, List.length_drop] at bll
  refine ⟨D, bl, rfl, SqL.of hD, ?_⟩
  have adj : bl.all id = true ↔ Adj ks := by
    rw [hbl, List.length_map, List.length_drop]
    unfold Adj
    exact ⟨fun h j hj => h j (by omega), fun h j hj => h j (by omega)⟩
  have s23 := s2.trans s3
  have hL3 := s3 _ _ hL2
  clear hbl bll hD hb
  refine gname_of ?_
  try dsimp only
  have shK : ∀ k ∈ ks, Sh k.2 := fun k m => (ad.kg k m).1
  have no : ∀ H', Same H H' → ¬ Brs bs ks → Q (.bl false) H' := fun H' s' nb => k false H' s' ⟨fun z => (by cases z), fun z => absurd z nb⟩
  refine ⟨_, rfl, _, rfl, ?_⟩
  cases eb : bl.all id with
  | false =>
    refine iteT (iteT ?_)
    exact no _ s23 fun z => by
      rw [adj.mpr z.1] at eb
      cases eb
  | true =>
    refine iteF ?_
    have hadj := adj.mp eb
    have hw3 := s23 _ _ ad.hw
    refine tb_cb ?_
    refine comp_prsL (K' := K) (xs := wvs) (rest := []) (a := lw) rfl (fun Q q => ⟨_, rfl, q⟩) (SqL.of hw3) fun L2' nL2 => ?_
    refine ⟨fun i acc H' => Same H3 H' ∧ H' L2' = some (.lst acc) ∧ acc = ((ks.take i).map fun k => !decide (0 < k.2.1)).map V.bl, ⟨same_upd nL2, upd_same, rfl⟩, fun i acc H' p => SqL.of (p.1 _ _ hw3), ?_, ?_⟩
    · rintro i z acc H4 hi ⟨s4, hL4, rfl⟩ ez
      obtain ⟨t, et, ht⟩ := ad.tw.get' ez
      rw [List.getElem?_map] at et
      obtain ⟨kk, ek, rfl⟩ := Option.map_eq_some_iff.mp et
      obtain ⟨pw, rw', rfl, hpw, hrw⟩ := wt_at ht
      have s34 := s23.trans s4
      refine ⟨pw, _, _, rfl, SqT.of (s34 _ _ hpw), ?_⟩
      refine notest_of ⟨_, rfl, rw', _, _, rfl, SqT.of (s34 _ _ hrw), _, _, rfl, rfl, ?_⟩
      dsimp only
      rw [sgn_le]
      refine CompN.mk hi ?_ hL4 ⟨same_wr nL2 s4, upd_same, ?_⟩
      · rw [List.length_map, List.length_map, List.length_take]
        omega
      · rw [take_get ek, List.map_append, List.map_append]
        rfl
    rintro acc H4 ⟨s4, hL4, rfl⟩
    rw [wl, List.take_length] at hL4
    refine ⟨L2', _, rfl, SqL.of hL4, _, rfl, ?_⟩
    have s24 := s23.trans s4
    cases ea : (ks.map fun k => !decide (0 < k.2.1)).any id with
    | true =>
      refine iteT ?_
      refine no _ s24 fun z => ?_
      rw [List.any_eq_true] at ea
      obtain ⟨b, mb, hb⟩ := ea
      obtain ⟨k', mk', rfl⟩ := List.mem_map.mp mb
      have := z.2.1 k' mk'
      rw [decide_eq_true this] at hb
      cases hb
    | false =>
      have pos : ∀ k ∈ ks, 0 < k.2.1 := fun k' mk' => by
        rw [List.any_eq_false] at ea
        have := ea _ (List.mem_map_of_mem mk')
        by_cases z : 0 < k'.2.1
        · exact z
        · rw [decide_eq_false z] at this
          exact absurd rfl this
      refine iteF ?_
      have ad4 := ad.same s24
      have hL5 := s4 _ _ hL3
      refine ⟨_, rfl, _, rfl, lb, lw, bvs, wvs, T, bs, ks, e, m, rfl, ad4, fun p r x0 us tt H5 s5 hp hx0 hr' hcan hgq shT eT => ?_⟩
      refine ⟨p, _, rfl, SqT.of hp, rfl, _, _, rfl, _, _, rfl, rfl, ?_⟩
      have s25 := s24.trans s5
      have hL6 := s5 _ _ hL5
      have pu : Trs.pure (us.map prT) := pure_all fun t m' => by
        obtain ⟨u, mu, rfl⟩ := List.mem_map.mp m'
        exact ty_pure (hgq u mu).pr.1
      have dd : Trs.depth (us.map prT) ≤ 8 := depths_le fun t m' => by
        obtain ⟨u, mu, rfl⟩ := List.mem_map.mp m'
        exact (hgq u mu).pr.2
      refine ⟨_, rfl, by show 0 ≤ sizeLine; decide, fun z nz => ?_⟩
      have sz := same_upd (o := .tup []) nz
      refine ⟨us.map prT, [], hx0.mono (Kd.of_same sz), at_tup upd_same .nil, .inl pu, by omega, _, rfl, ?_⟩
      have s26 := s25.trans sz
      have hL7 := sz _ _ hL6
      have hr7 := Same.tup sz hr'
      have hb7 := s26 _ _ ad.hb
      have tb7 := ad.tb.mono (Kd.of_same s26)
      generalize upd H5 z (.tup []) = H6 at sz s26 hL7 hr7 hb7 tb7 ⊢
      have e0 : (!eqTs (us.map prT) []) = decide (us ≠ []) := by
        cases us with
        | nil => rfl
        | cons u l => rfl
      rw [e0]
      by_cases zu : us = []
      · rw [decide_eq_false (fun q => q zu)]
        refine iteF ?_
        subst zu
        refine ⟨_, rfl, r, _, _, rfl, hr7, _, 0, rfl, rfl, _, rfl, ?_⟩
        dsimp only
        rw [sgn_gt]
        by_cases z1 : 0 < tt.1
        · rw [decide_eq_true z1]
          refine iteT ?_
          refine no _ s26 fun zz => ?_
          have := (rv_pos shT.1).mpr z1
          rw [eT] at this
          rcases zz.2.2.2 with q | ⟨q, _⟩ <;> grind
        · rw [decide_eq_false z1]
          refine iteF ?_
          refine ⟨_, rfl, r, _, _, rfl, hr7, _, 0, rfl, rfl, _, rfl, ?_⟩
          dsimp only
          rw [sgn_lt]
          by_cases z2 : tt.1 < 0
          · rw [decide_eq_true z2]
            refine iteT (k true _ s26 ⟨fun _ => ⟨hadj, pos, hcan, .inl ?_⟩, fun _ => rfl⟩)
            rw [← eT]
            exact (rv_lt0 shT.1).mpr z2
          · rw [decide_eq_false z2]
            refine iteF ?_
            have t0 : totR bs ks = 0 := by
              rw [← eT]
              exact (rv_eq0 shT.1).mpr (by omega)
            refine tret_any ?_
            refine tcomp_of rfl ?_
            refine ⟨_, rfl, L, rfl, ⟨_, SqL.of hL7⟩, fun M nM => ?_⟩
            refine comp_list (xs := ks.map fun k => V.int (k.1 : Int)) (fun i acc H' => Same H6 H' ∧ H' M = some (.lst acc) ∧ acc = ((ks.take i).map fun k => (bdAt bs k.1).st).map V.bl) ⟨same_upd nM, upd_same, rfl⟩ (fun i acc H' p => SqL.of (p.1 _ _ hL7)) ?_ ?_
            · rintro i x acc H7 hi ex ⟨s7, hM, rfl⟩
              rw [List.getElem?_map] at ex
              obtain ⟨kk, ek, rfl⟩ := Option.map_eq_some_iff.mp ex
              obtain ⟨pb, xu, rm, eb', hpb, hxu, hrm⟩ := get_bd (tb7.mono (Kd.of_same s7)) (ad.kb kk (List.mem_of_getElem? ek))
              refine ⟨_, rfl, _, rfl, lb, bvs, _, _, rfl, rfl, SqL.of (s7 _ _ hb7), eb', pb, _, 2, _, rfl, rfl, SqT.of hpb, rfl, ?_⟩
              refine CompN.mk hi ?_ hM ⟨same_wr nM s7, upd_same, ?_⟩
              · rw [List.length_map, List.length_map, List.length_take]
                omega
              · rw [take_get ek, List.map_append, List.map_append]
                rfl
            · rintro acc H7 ⟨s7, hM, rfl⟩
              rw [List.length_map, List.take_length] at hM
              refine ⟨M, _, rfl, SqL.of hM, k _ _ (s26.trans s7) ?_⟩
              rw [map_any, List.any_eq_true]
              constructor
              · rintro ⟨k', mk', hk'⟩
                exact ⟨hadj, pos, hcan, .inr ⟨t0, k', mk', hk'⟩⟩
              · rintro ⟨_, _, _, q⟩
                rcases q with q | ⟨_, q⟩
                · rw [t0] at q
                  exact absurd q (by decide)
                · exact q
      · rw [decide_eq_true zu]
        refine iteT (iteT ?_)
        exact no _ s26 fun zz => zu (hcan.uniq zz.2.2.1)
end
end K38
set_option Elab.async false
set_option linter.all false
set_option maxRecDepth 100000
set_option maxHeartbeats 4000000
namespace K38
open PySem L2 Mth Tre Wd Su
theorem get_wt {H : Hp} {wvs : List V} {ks : List Wt} (h : TrsAt H wvs (ks.map wtT)) {i : Nat} {kk : Wt} (e : ks[i]? = some kk) : ∃ p r, atI wvs (i : Int) = some (.ref p) ∧ H p = some (.tup [.int (kk.1 : Int), .ref r]) ∧ H r = some (.tup [.int kk.2.1, .int kk.2.2]) := by
  obtain ⟨v, ev, hv⟩ := h.get (i := i) (t := wtT kk) (by rw [List.getElem?_map, e]; rfl)
  obtain ⟨p, r, rfl, h1, h2⟩ := wt_at hv
  exact ⟨p, r, atI_nat ev, h1, h2⟩
theorem getD_of {ks : List Wt} {i : Nat} {kk : Wt} (e : ks[i]? = some kk) : ks.getD i (0, zero) = kk := by rw [List.getD_eq_getElem?_getD, e]; rfl
section
variable {P : Program} {w : World} {K : PySem.W.Frag} {mg : Str → Option Value} {base : Heap}
def spDue : Sp := fun vs H Q _ => ∃ (lb lw : Addr) (bvs wvs : List V) (T : List Tr) (bs : List Bd) (ks : List Wt) (e m : Nat), vs = [.ref lb, .ref lw] ∧ Ad H lb lw bvs wvs T bs ks e m ∧
  ∀ (b : Bool) (H' : Hp), Same H H' → (b = true ↔ Brs bs ks) → Q (.bl b) H'
theorem scDu : FnScope ["_law_bounds_here", "_law_weights_here", "_law_k", "_law_pair", "_law_strict"] ["_law_bounds_here", "_law_weights_here"] (defScope sDue) := ⟨rfl, rfl, rfl, by decide +kernel, rfl, by decide +kernel, by decide +kernel⟩
theorem ok_due {f fA : Addr} {fd dA : FuncData} (F : Fun K "_law_due" "_law_due" sDue f fd) (B : Blt mg)
    (gA : FnOk P w K mg base CX0 3 fA dA ["_law_bounds_here", "_law_weights_here"] spLAdded) (kA : PySem.W.keepIn K (.ref fA) = true) (bA : Binds K dA ["_law_bounds_here", "_law_weights_here"] []) (mA : mg "_law_added" = some (.ref fA)) : FnOk P w K mg base CX0 4 f fd ["_law_bounds_here", "_law_weights_here"] spDue := by
  refine F.ok scDu (fun vs H Q E h => ?_) (fun cdv A outer s H vs Q E hr h => ?_)
  · obtain ⟨lb, lw, bvs, wvs, T, bs, ks, e, m, rfl, _⟩ := h
    rfl
  obtain ⟨lb, lw, bvs, wvs, T, bs, ks, e, m, rfl, ad, k⟩ := h
  have hun := hr.units
  have hr3 : Room 3 _ := hr
  have hu50 := Nat.lt_of_le_of_lt (Nat.add_le_add_left (show 50 ≤ 64 by decide) _) hun
  refine ⟨_, (pss_cons (ps_for PassesOwn.never rfl (pi_range1 rfl B.ra (pa_cons (pe_callB call_len_seq rfl B.le PySem.boot_len (pa_cons (pv 1) pa_nil)) pa_nil)) (pg_name (i := 2) scDu.nd rfl (Or.inl rfl)) (pss_one (ps_if (PW.pt (pw_or (pt_cmpR op_le (pe_ix ix_tup (pe_ix ix_tup (pe_ix ix_list (pv 1) (pv 2) fun _ _ => rfl) pe_int fun _ _ => rfl) pe_int fun _ _ => rfl) pe_int (nomark _)) (pw_or1 (PW.pt (pw_and (pt_cmpR op_gt (pv 2) pe_int (nomark _)) (pw_and1 (pt_cmpR op_ge (pe_ix ix_tup (pe_ix ix_list (pv 1) (pe_op op_sub (pv 2) pe_int) fun _ _ => rfl) pe_int fun _ _ => rfl) (pe_ix ix_tup (pe_ix ix_list (pv 1) (pv 2) fun _ _ => rfl) pe_int fun _ _ => rfl) (nomark _)))))))) (pss_one (ps_ret pe_bl)) pss_nil)))
    (pss_cons (ps_set (i := 3) scDu.nd rfl (Or.inl rfl) (pe_call gA hr3 rfl mA kA bA .nil pass0 (pa_cons (pv 0) (pa_cons (pv 1) pa_nil))))
    (pss_cons (ps_setC (NC := ["_law_place", "_law_weight", "_law_bounds_here"]) (mp := [none, none, some 0]) (g := gTup K 2 (gCons (gName 0) (gCons (gName 1) gNil))) (i := 4) rfl scDu.nd rfl rfl rfl (pi_list (pv 1)) (fun _ _ _ _ _ => pg_tup (n := 2) rfl (pgs_cons (pg_name (i := 0) (show (["_law_place", "_law_weight", "_law_bounds_here"] : List Str).Nodup by decide +kernel) rfl (Or.inl rfl)) (pgs_cons (pg_name (i := 1) (show (["_law_place", "_law_weight", "_law_bounds_here"] : List Str).Nodup by decide +kernel) rfl (Or.inl rfl)) pgs_nil))) (fun _ _ _ _ _ => pts_one (pt_val (pe_ix (r := rIxT K) ix_tup (pe_ix (r := rIxL K) ix_list (pv 2) (pv 0) fun _ _ => rfl) pe_int fun _ _ => rfl))) (fun _ _ _ _ _ => pv 0))
    (pss_cons (ps_if (PW.pt (pw_or (pt_cmpR op_eq (pe_callB call_len_seq rfl B.le PySem.boot_len (pa_cons (pv 1) pa_nil)) pe_int (nomark _)) (pw_or1 (pt_cmpR (op_neT hu50) (pe_ix ix_tup (pv 3) pe_int fun _ _ => rfl) (pe_tup pa_nil) (nomark _))))) (pss_one (ps_ret pe_bl)) pss_nil)
    (pss_one (ps_ret (pe_or (pe_cmpR op_lt (pe_ix ix_tup (pe_ix ix_tup (pv 3) pe_int fun _ _ => rfl) pe_int fun _ _ => rfl) pe_int (nomark _)) (pe_one (pe_and (pe_cmpR op_eq (pe_ix ix_tup (pe_ix ix_tup (pv 3) pe_int fun _ _ => rfl) pe_int fun _ _ => rfl) pe_int (nomark _)) (pe_one (pe_cmpR op_gt (pe_callB call_len_seq rfl B.le PySem.boot_len (pa_cons (pv 4) pa_nil)) pe_int (nomark _)))))))))))), ?_⟩
  have hL20 : (20000 : Nat) ≤ sizeLine := by decide +kernel
  have kl := ad.kl
  have wl := ad.tw.len
  rw [List.length_map] at wl
  have no : ∀ H', Same H H' → ¬ Brs bs ks → Q (.bl false) H' := fun H' s' nb => k false H' s' ⟨fun z => (by cases z), fun z => absurd z nb⟩
  refine ⟨_, rfl, lw, wvs, rfl, .inl (SqL.of ad.hw), _, rfl, by omega, by omega, ?_⟩
  rw [Int.toNat_natCast, wl]
  refine for_range (n := ks.length) (fun i σ H' => H' = H ∧ (∃ x2, σ = [some (.ref lb), some (.ref lw), x2, none, none]) ∧ ∀ j, j < i → 0 < (ks.getD j (0, zero)).2.1 ∧ (0 < j → (ks.getD (j - 1) (0, zero)).1 < (ks.getD j (0, zero)).1)) ⟨rfl, ⟨none, rfl⟩, fun j hj => by omega⟩ ?_ ?_
  · rintro i σ H1 hi ⟨rfl, ⟨x2, rfl⟩, hp⟩
    rw [Int.zero_add]
    refine gname_of ?_
    try dsimp only
    have ek := List.getElem?_eq_getElem hi
    obtain ⟨p, r, e1, h1, h2⟩ := get_wt ad.tw ek
    have g1 := getD_of ek
    refine ⟨_, rfl, _, rfl, lw, wvs, _, _, rfl, rfl, SqL.of ad.hw, e1, p, _, 1, _, rfl, rfl, SqT.of h1, rfl, r, _, 0, _, rfl, rfl, SqT.of h2, rfl, _, 0, rfl, rfl, _, rfl, ?_⟩
    by_cases z1 : (ks[i]).2.1 ≤ 0
    · rw [decide_eq_true z1]
      refine iteT (iteT (no _ (Same.refl _) fun zz => ?_))
      have := zz.2.1 _ (List.getElem_mem hi)
      omega
    · rw [decide_eq_false z1]
      refine iteF ?_
      refine ⟨_, rfl, (i : Int), 0, rfl, rfl, _, rfl, ?_⟩
      by_cases z2 : (0 : Int) < (i : Int)
      · rw [decide_eq_true z2]
        refine iteT ?_
        obtain ⟨i', rfl⟩ : ∃ i', i = i' + 1 := ⟨i - 1, by omega⟩
        have ek2 := List.getElem?_eq_getElem (show i' < ks.length by omega)
        obtain ⟨p', r', e1', h1', h2'⟩ := get_wt ad.tw ek2
        have g2 := getD_of ek2
        have ei : ((i' + 1 : Nat) : Int) - 1 = (i' : Int) := by omega
        refine ⟨_, rfl, _, rfl, ((i' + 1 : Nat) : Int), 1, rfl, rfl, lw, wvs, (i' : Int), _, rfl, congrArg V.int ei, SqL.of ad.hw, e1', p', _, 0, _, rfl, rfl, SqT.of h1', rfl, _, rfl, _, rfl, lw, wvs, _, _, rfl, rfl, SqL.of ad.hw, e1, p, _, 0, _, rfl, rfl, SqT.of h1, rfl, _, _, rfl, rfl, _, rfl, ?_⟩
        by_cases z3 : ((ks[i' + 1]).1 : Int) ≤ ((ks[i']).1 : Int)
        · rw [decide_eq_true z3]
          refine iteT (no _ (Same.refl _) fun zz => ?_)
          have := zz.1 i' (by omega)
          rw [g1, g2] at this
          omega
        · rw [decide_eq_false z3]
          refine iteF ⟨rfl, ⟨_, rfl⟩, fun j hj => ?_⟩
          by_cases zj : j = i' + 1
          · subst zj
            rw [show i' + 1 - 1 = i' by omega, g1, g2]
            exact ⟨by omega, fun _ => by omega⟩
          · exact hp j (by omega)
      · rw [decide_eq_false z2]
        refine iteF (iteF ⟨rfl, ⟨_, rfl⟩, fun j hj => ?_⟩)
        have : j = i := by omega
        subst this
        rw [g1]
        exact ⟨by omega, fun _ => by omega⟩
  · rintro σ H1 ⟨rfl, ⟨x2, rfl⟩, hp⟩
    have hadj : Adj ks := fun j hj => by
      have := (hp (j + 1) (by omega)).2 (by omega)
      rwa [show j + 1 - 1 = j by omega] at this
    have pos : ∀ k ∈ ks, 0 < k.2.1 := fun k' mk' => by
      obtain ⟨j, hj, rfl⟩ := List.getElem_of_mem mk'
      have := (hp j hj).1
      rwa [getD_of (List.getElem?_eq_getElem hj)] at this
    refine tnx_of ?_
    try dsimp only
    refine ⟨_, rfl, _, rfl, lb, lw, bvs, wvs, T, bs, ks, e, m, rfl, ad, fun p r x0 us tt H2 s2 hp2 hx0 hr2 hcan hgq shT eT gfT => ?_⟩
    refine gname_of ?_
    try dsimp only
    refine tasg_of ?_
    have ad2 := ad.same s2
    refine comp_prsL (K' := K) (xs := wvs) (rest := [some (.ref lb)]) (a := lw) rfl (fun Q q => ⟨_, rfl, q⟩) (SqL.of ad2.hw) fun L nL => ?_
    refine ⟨fun i acc H' => Same H2 H' ∧ H' L = some (.lst acc) ∧ acc.length ≤ i ∧ (acc ≠ [] ↔ ∃ k ∈ ks.take i, (bdAt bs k.1).st = true), ⟨same_upd nL, upd_same, Nat.le_refl _, by simp⟩, fun i acc H' p => SqL.of (p.1 _ _ ad2.hw), ?_, ?_⟩
    · rintro i z acc H3 hi ⟨s3, hL, al, hiff⟩ ez
      obtain ⟨t, et, ht⟩ := ad2.tw.get' ez
      rw [List.getElem?_map] at et
      obtain ⟨kk, ek, rfl⟩ := Option.map_eq_some_iff.mp et
      obtain ⟨pw, rw', rfl, hpw, hrw⟩ := wt_at ht
      obtain ⟨pb, xu, rm, eb', hpb, hxu, hrm⟩ := get_bd (ad2.tb.mono (Kd.of_same s3)) (ad.kb kk (List.mem_of_getElem? ek))
      refine ⟨pw, _, _, rfl, SqT.of (s3 _ _ hpw), ?_⟩
      refine ⟨_, rfl, _, rfl, lb, bvs, _, _, rfl, rfl, SqL.of (s3 _ _ ad2.hb), eb', pb, _, 2, _, rfl, rfl, SqT.of hpb, rfl, _, rfl, ?_⟩
      have etk : (∃ k ∈ ks.take (i + 1), (bdAt bs k.1).st = true) ↔ (∃ k ∈ ks.take i, (bdAt bs k.1).st = true) ∨ (bdAt bs kk.1).st = true := by
        rw [take_get ek]
        constructor
        · rintro ⟨k', m', h'⟩
          rcases List.mem_append.mp m' with m' | m'
          · exact .inl ⟨k', m', h'⟩
          · rw [List.mem_singleton.mp m'] at h'
            exact .inr h'
        · rintro (⟨k', m', h'⟩ | h')
          · exact ⟨k', List.mem_append_left _ m', h'⟩
          · exact ⟨kk, List.mem_append_right _ List.mem_cons_self, h'⟩
      cases es : (bdAt bs kk.1).st with
      | true =>
        refine iteT ⟨_, rfl, CompN.mk hi (by omega) hL ⟨same_wr nL s3, upd_same, by rw [List.length_append, List.length_singleton]; omega, ?_⟩⟩
        rw [etk]
        exact ⟨fun _ => .inr es, fun _ => by simp⟩
      | false =>
        refine iteF (CompS.mk hi ⟨s3, hL, by omega, ?_⟩)
        rw [etk, hiff, es]
        simp
    · rintro acc H3 ⟨s3, hL, al, hiff⟩
      rw [wl, List.take_length] at hiff
      refine gname_of ?_
      try dsimp only
      have s23 := s2.trans s3
      refine ⟨_, rfl, lw, wvs, rfl, .inl (SqL.of (s23 _ _ ad.hw)), rfl, _, rfl, ?_⟩
      by_cases z0 : (wvs.length : Int) = 0
      · rw [decide_eq_true (congrArg V.int z0)]
        refine iteT (iteT (no _ s23 fun zz => ?_))
        have : ks = [] := List.length_eq_zero_iff.mp (by omega)
        subst this
        rcases zz.2.2.2 with q | ⟨_, k', m', _⟩
        · exact absurd (show (0 : Rat) < 0 from q) (by decide)
        · cases m'
      · rw [decide_eq_false (fun q => z0 (V.int.inj q))]
        refine iteF ?_
        have hp3 := s3 _ _ hp2
        have hr3' := s3 _ _ hr2
        have hx3 := hx0.mono (Kd.of_same s3)
        have pu : Trs.pure (us.map prT) := pure_all fun t m' => by
          obtain ⟨u, mu, rfl⟩ := List.mem_map.mp m'
          exact ty_pure (hgq u mu).pr.1
        have dd : Trs.depth (us.map prT) ≤ 8 := depths_le fun t m' => by
          obtain ⟨u, mu, rfl⟩ := List.mem_map.mp m'
          exact (hgq u mu).pr.2
        refine ⟨_, rfl, p, _, 0, x0, rfl, rfl, SqT.of hp3, rfl, by show 0 ≤ sizeLine; decide, fun z nz => ?_⟩
        have sz := same_upd (o := .tup []) nz
        refine ⟨us.map prT, [], hx3.mono (Kd.of_same sz), at_tup upd_same .nil, .inl pu, by omega, _, rfl, ?_⟩
        have s24 := s23.trans sz
        have hp4 := sz _ _ hp3
        have hr4 := sz _ _ hr3'
        have hL4 := sz _ _ hL
        generalize upd H3 z (.tup []) = H4 at sz s24 hp4 hr4 hL4 ⊢
        have e0 : (!eqTs (us.map prT) []) = decide (us ≠ []) := by
          cases us with
          | nil => rfl
          | cons u l => rfl
        rw [e0]
        by_cases zu : us = []
        · rw [decide_eq_false (fun q => q zu)]
          refine iteF ?_
          subst zu
          refine ⟨_, rfl, p, _, 1, .ref r, rfl, rfl, SqT.of hp4, rfl, r, _, 0, _, rfl, rfl, SqT.of hr4, rfl, _, 0, rfl, rfl, _, rfl, ?_⟩
          by_cases z2 : tt.1 < 0
          · rw [decide_eq_true z2]
            refine iteT (k true _ s24 ⟨fun _ => ⟨hadj, pos, hcan, .inl ?_⟩, fun _ => rfl⟩)
            rw [← eT]
            exact (rv_lt0 shT.1).mpr z2
          · rw [decide_eq_false z2]
            refine iteF ?_
            refine ⟨_, rfl, p, _, 1, .ref r, rfl, rfl, SqT.of hp4, rfl, r, _, 0, _, rfl, rfl, SqT.of hr4, rfl, rfl, _, rfl, ?_⟩
            by_cases z3 : tt.1 = 0
            · rw [decide_eq_true (congrArg V.int z3)]
              refine iteT ?_
              have t0 : totR bs ks = 0 := by
                rw [← eT]
                exact (rv_eq0 shT.1).mpr z3
              refine ⟨_, rfl, L, acc, rfl, .inl (SqL.of hL4), _, 0, rfl, rfl, ?_⟩
              refine k _ _ s24 ?_
              rw [decide_eq_true_eq]
              constructor
              · intro q
                have : acc ≠ [] := fun z => by rw [z] at q; exact absurd q (by decide)
                exact ⟨hadj, pos, hcan, .inr ⟨t0, hiff.mp this⟩⟩
              · rintro ⟨_, _, _, q⟩
                rcases q with q | ⟨_, q⟩
                · rw [t0] at q
                  exact absurd q (by decide)
                · have := List.length_pos_iff.mpr (hiff.mpr q)
                  omega
            · rw [decide_eq_false (fun q => z3 (V.int.inj q))]
              refine iteF (no _ s24 fun zz => ?_)
              rcases zz.2.2.2 with q | ⟨q, _⟩
              · rw [← eT] at q
                exact z2 ((rv_lt0 shT.1).mp q)
              · rw [← eT] at q
                exact z3 ((rv_eq0 shT.1).mp q)
        · rw [decide_eq_true zu]
          refine iteT ?_
          exact no _ s24 fun zz => zu (hcan.uniq zz.2.2.1)
end
end K38
set_option Elab.async false
set_option linter.all false
set_option maxRecDepth 100000
set_option maxHeartbeats 4000000
namespace K38
open PySem L2 Mth Tre Wd Su
theorem bd_pure {T : List Tr} {e : Nat} {b : Bd} (h : Gb T e b) : (bdT b).pure ∧ (bdT b).depth ≤ 20 := by
  have p1 : Trs.pure (b.us.map prT) := pure_all fun t m => by
    obtain ⟨u, mu, rfl⟩ := List.mem_map.mp m
    exact ty_pure (h.gq u mu).pr.1
  have d1 : Trs.depth (b.us.map prT) ≤ 8 := depths_le fun t m => by
    obtain ⟨u, mu, rfl⟩ := List.mem_map.mp m
    exact (h.gq u mu).pr.2
  refine ⟨?_, ?_⟩
  · simp [bdT, frT, Tr.pure, Trs.pure, p1]
  · simp only [bdT, frT, Tr.depth, Trs.depth]
    omega
theorem bds_pure {T : List Tr} {e : Nat} {bs : List Bd} (h : ∀ b ∈ bs, Gb T e b) : Trs.pure (bs.map bdT) ∧ Trs.depth (bs.map bdT) ≤ 40 := by
  refine ⟨pure_all fun t m => ?_, Nat.le_trans (depths_le (n := 20) fun t m => ?_) (by decide)⟩
  · obtain ⟨b, mb, rfl⟩ := List.mem_map.mp m
    exact (bd_pure (h b mb)).1
  · obtain ⟨b, mb, rfl⟩ := List.mem_map.mp m
    exact (bd_pure (h b mb)).2
theorem wts_pure (ks : List Wt) : Trs.pure (ks.map wtT) ∧ Trs.depth (ks.map wtT) ≤ 40 := by
  refine ⟨pure_all fun t m => ?_, Nat.le_trans (depths_le (n := 20) fun t m => ?_) (by decide)⟩
  · obtain ⟨b, mb, rfl⟩ := List.mem_map.mp m
    simp [wtT, frT, Tr.pure, Trs.pure]
  · obtain ⟨b, mb, rfl⟩ := List.mem_map.mp m
    simp only [wtT, frT, Tr.depth, Trs.depth]
    omega
theorem lev7 (ns : List Int) : 1 + 8 * (lev ns 7 + 1 + mW ns + 1) ≤ 8000 := by
  unfold lev mW
  split
  · decide
  · decide
theorem can_nil {us : List Pq} (h : Can [] us) : us = [] := h.uniq ⟨.nil, (fun p m => by cases m), fun t => rfl⟩
section
variable {P : Program} {w : World} {K : PySem.W.Frag} {mg : Str → Option Value} {base : Heap}
def spLaw (K : PySem.W.Frag) : Sp := fun vs H Q _ => ∃ (a : Addr) (ns : List Int), vs = [.ref a] ∧ SqL K H a (ns.map V.int) ∧ ns.length ≤ 63 ∧ ∀ H', Q (.bl true) H'
theorem scL : FnScope ["_law_script", "_law_bounds_here", "_law_handed", "_law_k", "_law_weights_here", "_law_kept", "_law_found", "_law_whole", "_law_most", "_law_strict", "_law_other", "_law_both"] ["_law_script"] (defScope sLaw) := ⟨rfl, rfl, rfl, by decide +kernel, rfl, by decide +kernel, by decide +kernel⟩
theorem ok_law {f fTs fBo fWe fAd fLA fBe fDu fLT : Addr} {fd dTs dBo dWe dAd dLA dBe dDu dLT : FuncData} (F : Fun K "law" "law" sLaw f fd) (B : Blt mg)
    (gTs : FnOk P w K mg base CX0 2 fTs dTs ["_law_script"] (spTerms K)) (kTs : PySem.W.keepIn K (.ref fTs) = true) (bTs : Binds K dTs ["_law_script"] []) (mTs : mg "_law_terms" = some (.ref fTs))
    (gBo : FnOk P w K mg base CX0 4 fBo dBo ["_law_script", "_law_terms_here"] (spBounds K)) (kBo : PySem.W.keepIn K (.ref fBo) = true) (bBo : Binds K dBo ["_law_script", "_law_terms_here"] []) (mBo : mg "_law_bounds" = some (.ref fBo))
    (gWe : FnOk P w K mg base CX0 3 fWe dWe ["_law_script", "_law_base", "_law_many"] (spWeights K)) (kWe : PySem.W.keepIn K (.ref fWe) = true) (bWe : Binds K dWe ["_law_script", "_law_base", "_law_many"] []) (mWe : mg "_law_weights" = some (.ref fWe))
    (gAd : FnOk P w K mg base CX0 4 fAd dAd ["bounds", "weights"] (spAdded K)) (kAd : PySem.W.keepIn K (.ref fAd) = true) (bAd : Binds K dAd ["bounds", "weights"] []) (mAd : mg "added" = some (.ref fAd))
    (gLA : FnOk P w K mg base CX0 3 fLA dLA ["_law_bounds_here", "_law_weights_here"] spLAdded) (kLA : PySem.W.keepIn K (.ref fLA) = true) (bLA : Binds K dLA ["_law_bounds_here", "_law_weights_here"] []) (mLA : mg "_law_added" = some (.ref fLA))
    (gBe : FnOk P w K mg base CX0 5 fBe dBe ["bounds", "weights"] (spBears K)) (kBe : PySem.W.keepIn K (.ref fBe) = true) (bBe : Binds K dBe ["bounds", "weights"] []) (mBe : mg "bears" = some (.ref fBe))
    (gDu : FnOk P w K mg base CX0 4 fDu dDu ["_law_bounds_here", "_law_weights_here"] spDue) (kDu : PySem.W.keepIn K (.ref fDu) = true) (bDu : Binds K dDu ["_law_bounds_here", "_law_weights_here"] []) (mDu : mg "_law_due" = some (.ref fDu))
    (gLT : FnOk P w K mg base CX0 2 fLT dLT ["_law_one", "_law_other"] spLTimes) (kLT : PySem.W.keepIn K (.ref fLT) = true) (bLT : Binds K dLT ["_law_one", "_law_other"] []) (mLT : mg "_law_times" = some (.ref fLT)) : FnOk P w K mg base CX0 6 f fd ["_law_script"] (spLaw K) := by
  refine F.ok scL (fun vs H Q E h => ?_) (fun cdv A outer s H vs Q E hr h => ?_)
  · obtain ⟨a, ns, rfl, _⟩ := h
    rfl
  obtain ⟨a, ns, rfl, hS, h63, k⟩ := h
  have hun := hr.units
  have hr2 : Room 2 _ := hr.mono (by omega)
  have hr3 : Room 3 _ := hr.mono (by omega)
  have hr4 : Room 4 _ := hr.mono (by omega)
  have hr5 : Room 5 _ := hr
  have hu50 := Nat.lt_of_le_of_lt (Nat.add_le_add_left (show 50 ≤ 64 by decide) _) hun
  have hu60 := Nat.lt_of_le_of_lt (Nat.add_le_add_left (show 60 ≤ 64 by decide) _) hun
  refine ⟨_, (pss_cons (ps_set (i := 1) scL.nd rfl (Or.inl rfl) (pe_call gBo hr4 rfl mBo kBo bBo .nil pass0 (pa_cons (pv 0) (pa_cons (pe_call gTs hr2 rfl mTs kTs bTs .nil pass0 (pa_cons (pv 0) pa_nil)) pa_nil))))
    (pss_cons (ps_set (i := 2) scL.nd rfl (Or.inl rfl) (pe_callTy call_list_of rfl B.li PyProof.Rows.boot_list (pa_cons (pv 1) pa_nil)))
    (pss_cons (ps_for PassesOwn.never rfl (pi_range1 rfl B.ra (pa_cons pe_int pa_nil)) (pg_name (i := 3) scL.nd rfl (Or.inl rfl)) (pss_cons (ps_set (i := 4) scL.nd rfl (Or.inl rfl) (pe_call gWe hr3 rfl mWe kWe bWe .nil pass0 (pa_cons (pv 0) (pa_cons (pe_op op_add pe_int (pe_op op_mul pe_int (pv 3))) (pa_cons (pe_callB call_len_seq rfl B.le PySem.boot_len (pa_cons (pv 1) pa_nil)) pa_nil)))))
    (pss_cons (ps_if (PW.pt (pw_and (pt_cmpR op_eq (pv 3) pe_int (nomark _)) (pw_and1 (pt_cmpR op_gt (pe_callB call_len_seq rfl B.le PySem.boot_len (pa_cons (pv 1) pa_nil)) pe_int (nomark _))))) (pss_one (ps_set (i := 4) scL.nd rfl (Or.inl rfl) (pe_lst (pa_cons (pe_tup (pa_cons (pe_op op_sub (pe_callB call_len_seq rfl B.le PySem.boot_len (pa_cons (pv 1) pa_nil)) pe_int) (pa_cons (pe_tup (pa_cons pe_int (pa_cons pe_int pa_nil))) pa_nil))) (pa_cons (pe_tup (pa_cons (pe_op op_sub (pe_callB call_len_seq rfl B.le PySem.boot_len (pa_cons (pv 1) pa_nil)) pe_int) (pa_cons (pe_tup (pa_cons pe_int (pa_cons pe_int pa_nil))) pa_nil))) pa_nil))))) pss_nil)
    (pss_cons (ps_set (i := 5) scL.nd rfl (Or.inl rfl) (pe_callTy call_list_of rfl B.li PyProof.Rows.boot_list (pa_cons (pv 4) pa_nil)))
    (pss_cons (ps_if (pt_cmpR (op_neA hu50) (pe_call gAd hr4 rfl mAd kAd bAd .nil pass0 (pa_cons (pv 2) (pa_cons (pv 4) pa_nil))) (pe_call gLA hr3 rfl mLA kLA bLA .nil pass0 (pa_cons (pv 1) (pa_cons (pv 5) pa_nil))) (nomark _)) (pss_one (ps_ret pe_bl)) pss_nil)
    (pss_cons (ps_set (i := 6) scL.nd rfl (Or.inl rfl) (pe_call gBe hr5 rfl mBe kBe bBe .nil pass0 (pa_cons (pv 2) (pa_cons (pv 4) pa_nil))))
    (pss_cons (ps_if (PW.pt (pw_or (pt_not (pt_val (pe_callB (r := rIsi K) call_isi rfl B.isi boot_isinstance (pa_cons (pv 6) (pa_cons (pe_bltn (v := .ty "bool") rfl B.bo PyProof.Rows.boot_bool rfl) pa_nil))))) (pw_or1 (pt_cmpR op_ne (pv 6) (pe_call gDu hr4 rfl mDu kDu bDu .nil pass0 (pa_cons (pv 1) (pa_cons (pv 5) pa_nil))) (nomark _))))) (pss_one (ps_ret pe_bl)) pss_nil)
    (pss_one (ps_if (PW.pt (pw_or (pt_cmpR (op_neL hu60) (pv 2) (pv 1) (nomark _)) (pw_or1 (pt_cmpR (op_neL hu60) (pv 4) (pv 5) (nomark _))))) (pss_one (ps_ret pe_bl)) pss_nil)))))))))
    (pss_cons (ps_asg (pe_ix ix_list (pv 1) (pe_op op_sub (pe_callB call_len_seq rfl B.le PySem.boot_len (pa_cons (pv 1) pa_nil)) pe_int) fun _ _ => rfl) (pg_tup rfl (pgs_cons (pg_name (i := 7) scL.nd rfl (Or.inl rfl)) (pgs_cons (pg_name (i := 8) scL.nd rfl (Or.inl rfl)) (pgs_cons (pg_name (i := 9) scL.nd rfl (Or.inl rfl)) pgs_nil)))))
    (pss_cons (ps_set (i := 10) scL.nd rfl (Or.inl rfl) (pe_callTy call_tuple_of rfl B.tu PyProof.Rows.boot_tuple (pa_cons (pe_comp (NC := ["_law_term", "_law_share_here"]) (mp := [none, none]) (g := gTup K 2 (gCons (gName 0) (gCons (gName 1) gNil))) rfl (pi_tup (pv 7)) (fun _ _ _ _ _ => pg_tup (n := 2) rfl (pgs_cons (pg_name (i := 0) (show (["_law_term", "_law_share_here"] : List Str).Nodup by decide +kernel) rfl (Or.inl rfl)) (pgs_cons (pg_name (i := 1) (show (["_law_term", "_law_share_here"] : List Str).Nodup by decide +kernel) rfl (Or.inl rfl)) pgs_nil))) (fun _ _ _ _ _ => pts_nil) (fun _ _ _ _ _ => (pe_tup (pa_cons (pv 0) (pa_cons (pe_call gLT hr2 rfl mLT kLT bLT .nil pass0 (pa_cons (pv 1) (pa_cons (pe_tup (pa_cons (pe_un un_neg pe_int) (pa_cons pe_int pa_nil))) pa_nil))) pa_nil))))) pa_nil)))
    (pss_cons (ps_for PassesOwn.never rfl (pi_list (pe_lst (pa_cons pe_bl (pa_cons pe_bl pa_nil)))) (pg_name (i := 9) scL.nd rfl (Or.inl rfl)) (pss_cons (ps_set (i := 11) scL.nd rfl (Or.inl rfl) (pe_lst (pa_cons (pe_tup (pa_cons (pv 7) (pa_cons (pv 8) (pa_cons pe_bl pa_nil)))) (pa_cons (pe_tup (pa_cons (pv 10) (pa_cons (pe_call gLT hr2 rfl mLT kLT bLT .nil pass0 (pa_cons (pv 8) (pa_cons (pe_tup (pa_cons (pe_un un_neg pe_int) (pa_cons pe_int pa_nil))) pa_nil))) (pa_cons (pv 9) pa_nil)))) pa_nil))))
    (pss_one (ps_if (pt_cmpR op_ne (pe_callB call_reprB rfl B.re PyProof.Rows.boot_repr (pa_cons (pe_call gBe hr5 rfl mBe kBe bBe .nil pass0 (pa_cons (pv 11) (pa_cons (pe_lst (pa_cons (pe_tup (pa_cons pe_int (pa_cons (pe_tup (pa_cons pe_int (pa_cons pe_int pa_nil))) pa_nil))) (pa_cons (pe_tup (pa_cons pe_int (pa_cons (pe_tup (pa_cons pe_int (pa_cons pe_int pa_nil))) pa_nil))) pa_nil))) pa_nil))) pa_nil)) (pe_callB call_reprB rfl B.re PyProof.Rows.boot_repr (pa_cons (pv 9) pa_nil)) (nomark _)) (pss_one (ps_ret pe_bl)) pss_nil))))
    (pss_one (ps_ret (pe_and (pe_cmpR (op_eqA hu50) (pe_call gAd hr4 rfl mAd kAd bAd .nil pass0 (pa_cons (pv 2) (pa_cons (pe_lst pa_nil) pa_nil))) (pe_tup (pa_cons (pe_tup pa_nil) (pa_cons (pe_tup (pa_cons pe_int (pa_cons pe_int pa_nil))) pa_nil))) (nomark _)) (pe_one (pe_cmpR op_isB (pe_call gBe hr5 rfl mBe kBe bBe .nil pass0 (pa_cons (pv 2) (pa_cons (pe_lst pa_nil) pa_nil))) pe_bl (nomark _)))))))))))), ?_⟩
  have hL20 : (20000 : Nat) ≤ sizeLine := by decide +kernel
  refine ⟨_, rfl, _, rfl, a, ns, rfl, hS, h63, fun l ws n H1 s1 _ hl hT n1 n5 => ?_⟩
  refine ⟨a, ns, l, ws, n, rfl, SqL.same s1 hS, h63, hl, hT, n1, n5, fun lb bvs bs H2 s2 nlb hlb hB hG b1 b7 => ?_⟩
  have s12 := s1.trans s2
  have bl := hB.len
  rw [List.length_map] at bl
  refine gname_of ?_
  try dsimp only
  refine ⟨_, rfl, lb, bvs, rfl, .inl (SqL.of hlb), fun lh nlh => ?_⟩
  have sh := same_upd (o := .lst bvs) nlh
  have hlh := upd_same (H := H2) (a := lh) (o := .lst bvs)
  have s13 := s12.trans sh
  have hlb3 := sh _ _ hlb
  have hB3 := hB.mono (Kd.of_same sh)
  have hS3 := SqL.same s13 hS
  generalize upd H2 lh (.lst bvs) = H3 at sh hlh s13 hlb3 hB3 hS3 ⊢
  clear hlb hB hT hl sh nlb nlh s12 s1 s2
  refine gname_of ?_
  try dsimp only
  have l7 := lev7 ns
  have bp := bds_pure hG
  refine ⟨6, rfl, by decide, by decide, ?_⟩
  refine for_range (n := 6) (fun i σ H' => Same H3 H' ∧ ∃ x3 x4 x5 x6, σ = [some (.ref a), some (.ref lb), some (.ref lh), x3, x4, x5, x6, none, none, none, none, none])
    ⟨Same.refl _, none, none, none, none, rfl⟩ ?_ ?_
  · rintro i σ H4 hi ⟨s4, x3, x4, x5, x6, rfl⟩
    rw [Int.zero_add]
    refine gname_of ?_
    try dsimp only
    have hS4 := SqL.same s4 hS3
    have hlb4 := s4 _ _ hlb3
    refine ⟨_, rfl, _, rfl, 30, (i : Int), rfl, rfl, .inl ⟨by decide, by decide⟩, 400, 30 * (i : Int), rfl, rfl, _, rfl, lb, bvs, rfl, .inl (SqL.of hlb4), ?_⟩
    refine ⟨a, ns, 400 + 30 * (i : Int), bs.length, (by rw [bl]; rfl), hS4, h63, by omega, by omega, b1, b7, fun lw wvs ks H5 s5 nlw hW kl => ?_⟩
    refine gname_of ?_
    try dsimp only
    have s35 := s4.trans s5
    have hlb5 := s35 _ _ hlb3
    refine seq_any (fun σ' H' => Same H3 H' ∧ ∃ (lw : Addr) (wvs : List V) (ks : List Wt), σ' = [some (.ref a), some (.ref lb), some (.ref lh), some (.int (i : Int)), some (.ref lw), x5, x6, none, none, none, none, none] ∧ Wl ns bs.length H' lw wvs ks ∧ ks.length ≤ 8) ?_ fun nx hnx => ?_
    rotate_left
    · have no := hnx _ _ ⟨s35, lw, wvs, ks, rfl, hW, kl⟩
      refine ⟨_, rfl, rfl, _, rfl, ?_⟩
      refine ite2 (fun _ => ?_) (fun _ => iteF no)
      refine ⟨_, rfl, lb, bvs, rfl, .inl (SqL.of hlb5), _, 1, rfl, rfl, _, rfl, ?_⟩
      refine ite2 (fun y => ?_) (fun _ => no)
      have b2 : 2 ≤ bs.length := by
        have := of_decide_eq_true y
        omega
      obtain ⟨m, em⟩ : ∃ m, bs.length = m + 2 := ⟨bs.length - 2, by omega⟩
      have e1 : (bvs.length : Int) - 2 = ((m : Nat) : Int) := by omega
      have e2 : (bvs.length : Int) - 1 = ((m + 1 : Nat) : Int) := by omega
      refine ⟨_, rfl, lb, bvs, rfl, .inl (SqL.of hlb5), _, 2, rfl, rfl, by show 2 ≤ sizeLine; decide, fun q1 nq1 => ?_⟩
      have t1 := same_upd (o := .tup [.int 1, .int 1]) nq1
      have hq1 := upd_same (H := H5) (a := q1) (o := .tup [.int 1, .int 1])
      generalize upd H5 q1 (.tup [.int 1, .int 1]) = G1 at t1 hq1 ⊢
      refine ⟨by show 2 ≤ sizeLine; decide, fun q2 nq2 => ?_⟩
      dsimp only at nq2 ⊢
      rw [e1]
      have t2 := same_upd (o := .tup [.int (m : Int), .ref q1]) nq2
      have hq2 := upd_same (H := G1) (a := q2) (o := .tup [.int (m : Int), .ref q1])
      generalize upd G1 q2 (.tup [.int (m : Int), .ref q1]) = G2 at t2 hq2 ⊢
      refine ⟨_, rfl, lb, bvs, rfl, .inl (SqL.of ((t1.trans t2) _ _ hlb5)), _, 1, rfl, rfl, by show 2 ≤ sizeLine; decide, fun q3 nq3 => ?_⟩
      have t3 := same_upd (o := .tup [.int 1, .int 1]) nq3
      have hq3 := upd_same (H := G2) (a := q3) (o := .tup [.int 1, .int 1])
      generalize upd G2 q3 (.tup [.int 1, .int 1]) = G3 at t3 hq3 ⊢
      refine ⟨by show 2 ≤ sizeLine; decide, fun q4 nq4 => ?_⟩
      dsimp only at nq4 ⊢
      rw [e2]
      have t4 := same_upd (o := .tup [.int ((m + 1 : Nat) : Int), .ref q3]) nq4
      have hq4 := upd_same (H := G3) (a := q4) (o := .tup [.int ((m + 1 : Nat) : Int), .ref q3])
      generalize upd G3 q4 (.tup [.int ((m + 1 : Nat) : Int), .ref q3]) = G4 at t4 hq4 ⊢
      refine ⟨by show 2 ≤ sizeLine; decide, fun lw2 nlw2 => ?_⟩
      have t5' := same_upd (o := .lst [.ref q2, .ref q4]) nlw2
      have hlw2 := upd_same (H := G4) (a := lw2) (o := .lst [.ref q2, .ref q4])
      generalize upd G4 lw2 (.lst [.ref q2, .ref q4]) = G5 at t5' hlw2 ⊢
      have m3 := (mW_le ns).2
      refine hnx _ _ ⟨s35.trans (t1.trans (t2.trans (t3.trans (t4.trans t5')))), lw2, _, [(m, (1, 1)), (m + 1, (1, 1))], rfl, ⟨hlw2, ?_, ⟨fun kx mx => ?_, fun kx mx => ?_⟩⟩, by show 2 ≤ 8; omega⟩
      · exact .cons (at_pair (b := frT (1, 1)) ((t3.trans (t4.trans t5')) _ _ hq2) (by unfold TrAt; rfl) (at_ints ((t2.trans (t3.trans (t4.trans t5'))) _ _ hq1))) (.cons (at_pair (b := frT (1, 1)) (t5' _ _ hq4) (by unfold TrAt; rfl) (at_ints ((t4.trans t5') _ _ hq3))) .nil)
      · simp only [List.mem_cons, List.not_mem_nil, or_false] at mx
        rcases mx with rfl | rfl
        · show m < bs.length
          omega
        · show m + 1 < bs.length
          omega
      · simp only [List.mem_cons, List.not_mem_nil, or_false] at mx
        rcases mx with rfl | rfl <;> exact ⟨sh_int _, gf_int m3 (by decide)⟩
    clear hW kl nlw hlb5 s35 s5 s4 hS4 hlb4 lw wvs ks H5 H4
    rintro σ' H4 ⟨s4, lw, wvs, ks, rfl, hW, kl⟩
    have wl := hW.len
    refine ⟨_, rfl, lw, wvs, rfl, .inl (SqL.of hW.hw), fun lk nlk => ?_⟩
    have sk := same_upd (o := .lst wvs) nlk
    have hlk := upd_same (H := H4) (a := lk) (o := .lst wvs)
    have hW5 := hW.same sk
    have s5 := s4.trans sk
    generalize upd H4 lk (.lst wvs) = H5 at sk hlk hW5 s5 ⊢
    have ad1 : Ad H5 lh lw bvs wvs T5 bs ks (lev ns 7) (mW ns) := ⟨s5 _ _ hlh, hB3.mono (Kd.of_same s5), hW5.hw, hW5.tw, hG, Nat.le_refl 5, kl, hW.gk.pl, hW.gk.fr, by omega⟩
    have ad2 : Ad H5 lb lk bvs wvs T5 bs ks (lev ns 7) (mW ns) := ⟨s5 _ _ hlb3, hB3.mono (Kd.of_same s5), hlk, hW5.tw, hG, Nat.le_refl 5, kl, hW.gk.pl, hW.gk.fr, by omega⟩
    refine gname_of ?_
    try dsimp only
    refine ⟨_, rfl, _, rfl, lh, lw, bvs, wvs, T5, bs, ks, _, _, rfl, ad1, fun p r x0 us tt H6 s6 hp hx0 hr' hcan hgq shT eT => ?_⟩
    refine ⟨_, rfl, _, rfl, lb, lk, bvs, wvs, T5, bs, ks, _, _, rfl, ad2.same s6, fun p' r' y0 us' tt' H7 s7 hp' hy0 hr2 hcan' _ shT' eT' _ => ?_⟩
    have eu := hcan.uniq hcan'
    have et := rv_inj shT shT' (eT.trans eT'.symm)
    subst eu et
    have pu : Trs.pure (us.map prT) := pure_all fun t m' => by
      obtain ⟨u, mu, rfl⟩ := List.mem_map.mp m'
      exact ty_pure (hgq u mu).pr.1
    have dd : Trs.depth (us.map prT) ≤ 8 := depths_le fun t m' => by
      obtain ⟨u, mu, rfl⟩ := List.mem_map.mp m'
      exact (hgq u mu).pr.2
    refine ⟨p, p', r, r', x0, y0, us.map prT, tt.1, tt.2, rfl, rfl, s7 _ _ hp, hp', hx0.mono (Kd.of_same s7), hy0, pu, by omega, Same.tup s7 hr', SqT.of hr2, _, rfl, ?_⟩
    refine iteF ?_
    have s57 := s6.trans s7
    clear hp hp' hx0 hy0 hr' hr2 pu dd hgq
    refine ⟨_, rfl, _, rfl, lh, lw, bvs, wvs, T5, bs, ks, _, _, rfl, ad1.same s57, fun b H8 s8 hb => ?_⟩
    refine gname_of ?_
    try dsimp only
    have s58 := s57.trans s8
    refine ⟨_, rfl, .bl b, .ty "bool", _, true, rfl, .of (.bl b), .inl ⟨rfl, kit_bool_bool K⟩, _, rfl, ?_⟩
    refine iteF ?_
    refine ⟨_, rfl, _, rfl, _, rfl, lb, lk, bvs, wvs, T5, bs, ks, _, _, rfl, ad2.same s58, fun b' H9 s9 hb' => ?_⟩
    have ebb : b = b' := by
      rw [Bool.eq_iff_iff]
      exact hb.trans hb'.symm
    subst ebb
    refine ⟨rfl, _, rfl, ?_⟩
    rw [decide_eq_true (rfl : V.bl b = V.bl b)]
    refine iteF ?_
    have s59 := s58.trans s9
    have ad1' := ad1.same s59
    have ad2' := ad2.same s59
    have wp := wts_pure ks
    refine ⟨_, rfl, _, rfl, lh, lb, bvs, bvs, _, _, rfl, rfl, ad1'.hb, ad2'.hb, ad1'.tb, ad1'.tb, .inl bp.1, bp.2, _, rfl, ?_⟩
    rw [eqTs_refl]
    refine iteF ?_
    refine ⟨_, rfl, _, rfl, lw, lk, wvs, wvs, _, _, rfl, rfl, ad1'.hw, ad2'.hw, ad1'.tw, ad1'.tw, .inl wp.1, wp.2, _, rfl, ?_⟩
    rw [eqTs_refl]
    refine iteF ?_
    exact ⟨s5.trans s59, _, _, _, _, rfl⟩
  · rintro σ H4 ⟨s4, x3, x4, x5, x6, rfl⟩
    refine tnx_of ?_
    try dsimp only
    obtain ⟨n0, en⟩ : ∃ n0, bs.length = n0 + 1 := ⟨bs.length - 1, by omega⟩
    have hlt : n0 < bs.length := by omega
    obtain ⟨pb, xu, rm, eb, hpb, hxu, hrm⟩ := get_bd (hB3.mono (Kd.of_same s4)) hlt
    have gB := hG _ (bdAt_mem hlt)
    generalize bdAt bs n0 = bd at *
    have e1 : (bvs.length : Int) - 1 = (n0 : Int) := by omega
    refine ⟨_, rfl, _, rfl, lb, bvs, rfl, .inl (SqL.of (s4 _ _ hlb3)), _, 1, rfl, rfl, lb, bvs, (n0 : Int), _, rfl, congrArg V.int e1, SqL.of (s4 _ _ hlb3), eb, ?_⟩
    refine ⟨pb, _, rfl, SqT.of hpb, rfl, _, _, rfl, _, _, rfl, _, _, rfl, rfl, ?_⟩
    obtain ⟨au, xs, rfl, hau, hxs⟩ := at_t hxu
    have xl := hxs.len
    rw [List.length_map] at xl
    have ul := asc_len gB.asc gB.mem
    have t5l : T5.length = 5 := rfl
    try dsimp only
    refine tset_cb ?_
    refine comp_prs (K' := K) (xs := xs) (rest := []) (a := au) rfl (fun Q q => ⟨_, rfl, q⟩) (SqT.of hau) fun L nL => ?_
    refine ⟨fun j acc' H' => Same H4 H' ∧ H' L = some (.lst acc') ∧ TrsAt H' acc' (((bd.us.take j).map neg).map prT), ⟨same_upd nL, upd_same, by rw [List.take_zero]; exact .nil⟩, fun j acc' H' p => SqT.of (p.1 _ _ hau), ?_, ?_⟩
    · rintro j z acc' H' hj ⟨s2, hL, hA2⟩ ez
      obtain ⟨t', et', ht'⟩ := (hxs.mono (Kd.of_same s2)).get' ez
      rw [List.getElem?_map] at et'
      obtain ⟨⟨tm, fr⟩, eq, rfl⟩ := Option.map_eq_some_iff.mp et'
      have g := gB.gq _ (List.mem_of_getElem? eq)
      obtain ⟨T', x, y, rfl, hT', hx, hy⟩ := pair_at ht'
      have al2 := hA2.len
      rw [List.length_map, List.length_map, List.length_take] at al2
      refine ⟨T', x, y, rfl, SqT.of hT', ?_⟩
      refine ⟨_, rfl, _, rfl, 1, rfl, by show 2 ≤ sizeLine; decide, fun q nq => ?_⟩
      have sq := same_upd (o := .tup [.int (-1), .int 1]) nq
      refine ⟨y, .ref q, fr, m1, lev ns 7, 1, rfl, hy.mono (Kd.of_same sq), at_ints upd_same, g.gf, gf_1 (.inl rfl), by omega, fun y2 H6 nr s6 hy2 shn ern _ => ?_⟩
      have enr : nr = negF fr := by
        refine rv_inj shn (sh_neg g.sh) ?_
        rw [ern, rv_m1, rv_neg]
        grind
      subst enr
      refine ⟨by show 2 ≤ sizeLine; decide, fun p np => ?_⟩
      have sp := same_upd (o := .tup [x, y2]) np
      have s7 := sq.trans (s6.trans sp)
      have hL7 := s7 _ _ hL
      have kd := (Kd.of_same s7).trans (Kd.upd (ys := acc' ++ [.ref p]) hL7)
      have kd2 := (Kd.of_same sp).trans (Kd.upd (ys := acc' ++ [.ref p]) hL7)
      have nLp : p ≠ L := fun z => by rw [z, (sq.trans s6) _ _ hL] at np; cases np
      refine CompN.mk hj (by omega) hL7 ⟨same_wr nL (s2.trans s7), upd_same, ?_⟩
      rw [take_get eq, List.map_append, List.map_append]
      refine TrsAt.app (.cons ?_ .nil) (hA2.mono kd)
      exact at_pair (a := tm) (b := frT (negF fr)) ((upd_ne nLp).trans upd_same) (hx.mono kd) (hy2.mono kd2)
    rintro acc' H5 ⟨s5, hL, hA2⟩
    rw [xl, List.take_length] at hA2
    refine ⟨L, acc', rfl, .inl ⟨SqL.of hL, fun po npo => ?_⟩⟩
    have so := same_upd (o := .tup acc') npo
    have hpo : TrAt (upd H5 po (.tup acc')) (.ref po) (.tup ((bd.us.map neg).map prT)) := at_tup upd_same (hA2.mono (Kd.of_same so))
    have s6 := s5.trans so
    generalize upd H5 po (.tup acc') = H6 at so hpo s6 ⊢
    have hwh := hxu.mono (Kd.of_same s6)
    have hrm6 := s6 _ _ hrm
    clear hA2 hL hpb hxs hau so hrm hxu
    refine gname_of ?_
    try dsimp only
    refine ⟨by show 2 ≤ sizeLine; decide, fun lt nlt => ?_⟩
    have st := same_upd (o := .lst [.bl false, .bl true]) nlt
    have hlt' := upd_same (H := H6) (a := lt) (o := .lst [.bl false, .bl true])
    have s7 := s6.trans st
    generalize upd H6 lt (.lst [.bl false, .bl true]) = H7 at st hlt' s7 ⊢
    have hwh7 := hwh.mono (Kd.of_same st)
    have hpo7 := hpo.mono (Kd.of_same st)
    have hrm7 := st _ _ hrm6
    clear hwh hpo hrm6
    refine ⟨lt, rfl, ⟨_, SqL.of hlt'⟩, ?_⟩
    refine for_list (xs := [.bl false, .bl true]) (fun j σ H' => Same H7 H' ∧ ∃ x9 x11, σ = [some (.ref a), some (.ref lb), some (.ref lh), x3, x4, x5, x6, some (.ref au), some (.ref rm), x9, some (.ref po), x11])
      ⟨Same.refl _, _, _, rfl⟩ (fun j σ H' _ p => SqL.of (p.1 _ _ hlt')) ?_ ?_
    · rintro j y σ H8 ey ⟨s8, x9, x11, rfl⟩
      obtain ⟨sb, rfl⟩ : ∃ sb, y = V.bl sb := by
        have m := List.mem_of_getElem? ey
        simp only [List.mem_cons, List.not_mem_nil, or_false] at m
        rcases m with rfl | rfl <;> exact ⟨_, rfl⟩
      refine gname_of ?_
      try dsimp only
      have hwh8 := hwh7.mono (Kd.of_same s8)
      have hpo8 := hpo7.mono (Kd.of_same s8)
      have hrm8 := s8 _ _ hrm7
      refine ⟨_, rfl, _, rfl, by show 3 ≤ sizeLine; decide, fun q1 nq1 => ?_⟩
      have t1 := same_upd (o := .tup [.ref au, .ref rm, .bl false]) nq1
      have hq1 := upd_same (H := H8) (a := q1) (o := .tup [.ref au, .ref rm, .bl false])
      generalize upd H8 q1 (.tup [.ref au, .ref rm, .bl false]) = G1 at t1 hq1 ⊢
      refine ⟨_, rfl, _, rfl, 1, rfl, by show 2 ≤ sizeLine; decide, fun q2 nq2 => ?_⟩
      have t2 := same_upd (o := .tup [.int (-1), .int 1]) nq2
      have hq2 := upd_same (H := G1) (a := q2) (o := .tup [.int (-1), .int 1])
      generalize upd G1 q2 (.tup [.int (-1), .int 1]) = G2 at t2 hq2 ⊢
      refine ⟨.ref rm, .ref q2, bd.m, m1, lev ns 7, 1, rfl, at_ints ((t1.trans t2) _ _ hrm8), at_ints hq2, gB.gf, gf_1 (.inl rfl), by omega, fun ym G3 nr t3 hym shn ern gfn => ?_⟩
      have enr : nr = negF bd.m := by
        refine rv_inj shn (sh_neg gB.sh) ?_
        rw [ern, rv_m1, rv_neg]
        grind
      subst enr
      obtain ⟨rn, rfl, hrn⟩ := at_fr hym
      refine ⟨_, rfl, by show 3 ≤ sizeLine; decide, fun q4 nq4 => ?_⟩
      have t4 := same_upd (o := .tup [.ref po, .ref rn, .bl sb]) nq4
      have hq4 := upd_same (H := G3) (a := q4) (o := .tup [.ref po, .ref rn, .bl sb])
      generalize upd G3 q4 (.tup [.ref po, .ref rn, .bl sb]) = G4 at t4 hq4 ⊢
      refine ⟨by show 2 ≤ sizeLine; decide, fun l2 nl2 => ?_⟩
      have t5' := same_upd (o := .lst [.ref q1, .ref q4]) nl2
      have hl2 := upd_same (H := G4) (a := l2) (o := .lst [.ref q1, .ref q4])
      generalize upd G4 l2 (.lst [.ref q1, .ref q4]) = G5 at t5' hl2 ⊢
      have u25 := t2.trans (t3.trans (t4.trans t5'))
      have u15 := t1.trans u25
      have tb5 : TrsAt G5 [.ref q1, .ref q4] ([⟨bd.us, bd.m, false⟩, ⟨bd.us.map neg, negF bd.m, sb⟩].map bdT) :=
        .cons (at_tup (u25 _ _ hq1) (.cons (hwh8.mono (Kd.of_same u15)) (.cons (at_ints (u15 _ _ hrm8)) (.cons (by unfold TrAt; rfl) .nil)))) (.cons (at_tup (t5' _ _ hq4) (.cons (hpo8.mono (Kd.of_same u15)) (.cons (at_ints (b := (negF bd.m).2) ((t4.trans t5') _ _ hrn)) (.cons (by unfold TrAt; rfl) .nil)))) .nil)
      clear hq1 hq2 hq4 hrn t1 t2 t3 t4 hym hwh8 hpo8 hrm8
      refine gname_of ?_
      try dsimp only
      refine ⟨_, rfl, by show 2 ≤ sizeLine; decide, fun v1 nv1 => ?_⟩
      have w1 := same_upd (o := .tup [.int 1, .int 1]) nv1
      have hv1 := upd_same (H := G5) (a := v1) (o := .tup [.int 1, .int 1])
      generalize upd G5 v1 (.tup [.int 1, .int 1]) = F1 at w1 hv1 ⊢
      refine ⟨by show 2 ≤ sizeLine; decide, fun v2 nv2 => ?_⟩
      have w2 := same_upd (o := .tup [.int 0, .ref v1]) nv2
      have hv2 := upd_same (H := F1) (a := v2) (o := .tup [.int 0, .ref v1])
      generalize upd F1 v2 (.tup [.int 0, .ref v1]) = F2 at w2 hv2 ⊢
      refine ⟨by show 2 ≤ sizeLine; decide, fun v3 nv3 => ?_⟩
      have w3 := same_upd (o := .tup [.int 1, .int 1]) nv3
      have hv3 := upd_same (H := F2) (a := v3) (o := .tup [.int 1, .int 1])
      generalize upd F2 v3 (.tup [.int 1, .int 1]) = F3 at w3 hv3 ⊢
      refine ⟨by show 2 ≤ sizeLine; decide, fun v4 nv4 => ?_⟩
      have w4 := same_upd (o := .tup [.int 1, .ref v3]) nv4
      have hv4 := upd_same (H := F3) (a := v4) (o := .tup [.int 1, .ref v3])
      generalize upd F3 v4 (.tup [.int 1, .ref v3]) = F4 at w4 hv4 ⊢
      refine ⟨by show 2 ≤ sizeLine; decide, fun lv' nlv => ?_⟩
      have w5 := same_upd (o := .lst [.ref v2, .ref v4]) nlv
      have hlv := upd_same (H := F4) (a := lv') (o := .lst [.ref v2, .ref v4])
      generalize upd F4 lv' (.lst [.ref v2, .ref v4]) = F5 at w5 hlv ⊢
      have w15 := w1.trans (w2.trans (w3.trans (w4.trans w5)))
      have gb2 : ∀ b ∈ [(⟨bd.us, bd.m, false⟩ : Bd), ⟨bd.us.map neg, negF bd.m, sb⟩], Gb T5 (lev ns 7 + 1) b := by
        intro b mb
        simp only [List.mem_cons, List.not_mem_nil, or_false] at mb
        rcases mb with rfl | rfl
        · exact (⟨gB.asc, gB.mem, gB.gq, gB.sh, gB.gf⟩ : Gb T5 (lev ns 7) ⟨bd.us, bd.m, false⟩).mono (by omega)
        · refine ⟨List.pairwise_map.mpr gB.asc, fun u mu => ?_, fun u mu => ?_, sh_neg gB.sh, (gf_neg gB.gf).mono (by omega)⟩
          · obtain ⟨v, mv, rfl⟩ := List.mem_map.mp mu
            exact gB.mem v mv
          · obtain ⟨v, mv, rfl⟩ := List.mem_map.mp mu
            have g := gB.gq v mv
            exact ⟨g.ty, g.dep, (gf_neg g.gf).mono (by omega), sh_neg g.sh⟩
      have m3 := mW_le ns
      have ad : Ad F5 l2 lv' [.ref q1, .ref q4] [.ref v2, .ref v4] T5 [⟨bd.us, bd.m, false⟩, ⟨bd.us.map neg, negF bd.m, sb⟩] [(0, p1), (1, p1)] (lev ns 7 + 1) 1 := by
        refine ⟨w15 _ _ hl2, tb5.mono (Kd.of_same w15), hlv, ?_, gb2, Nat.le_refl 5, by show 2 ≤ 8; omega, fun kx mx => ?_, fun kx mx => ?_, by omega⟩
        · exact .cons (at_pair (b := frT p1) ((w3.trans (w4.trans w5)) _ _ hv2) (by unfold TrAt; rfl) (at_ints ((w2.trans (w3.trans (w4.trans w5))) _ _ hv1))) (.cons (at_pair (b := frT p1) (w5 _ _ hv4) (by unfold TrAt; rfl) (at_ints ((w4.trans w5) _ _ hv3))) .nil)
        · simp only [List.mem_cons, List.not_mem_nil, or_false] at mx
          rcases mx with rfl | rfl
          · show 0 < 2
            omega
          · show 1 < 2
            omega
        · simp only [List.mem_cons, List.not_mem_nil, or_false] at mx
          rcases mx with rfl | rfl <;> exact ⟨sh_p1, gf_1 (.inr rfl)⟩
      refine ⟨l2, lv', _, _, T5, _, _, _, _, rfl, ad, fun b H9 s9 hb => ?_⟩
      have ebs : b = sb := by
        have hus : ∀ u ∈ bd.us, Sh u.2 := fun u mu => (gB.gq u mu).sh
        have hun : ∀ u ∈ bd.us.map neg, Sh u.2 := fun u mu => by
          obtain ⟨v, mv, rfl⟩ := List.mem_map.mp mu
          exact sh_neg (hus v mv)
        have ef : flatP [⟨bd.us, bd.m, false⟩, ⟨bd.us.map neg, negF bd.m, sb⟩] [(0, p1), (1, p1)] = bd.us.map (scale p1) ++ (bd.us.map neg).map (scale p1) := by
          show bd.us.map (scale p1) ++ ((bd.us.map neg).map (scale p1) ++ []) = _
          rw [List.append_nil]
        have can0 : Can (flatP [⟨bd.us, bd.m, false⟩, ⟨bd.us.map neg, negF bd.m, sb⟩] [(0, p1), (1, p1)]) [] := by
          refine ⟨.nil, (fun p m => by cases m), fun t => ?_⟩
          rw [ef, tot_app, tot_scale t sh_p1 hus, tot_scale t sh_p1 hun, tot_neg, rv_p1]
          show (0 : Rat) = _
          grind
        have tot0 : totR [⟨bd.us, bd.m, false⟩, ⟨bd.us.map neg, negF bd.m, sb⟩] [(0, p1), (1, p1)] = 0 := by
          show rv bd.m * rv p1 + (rv (negF bd.m) * rv p1 + 0) = 0
          rw [rv_neg, rv_p1]
          grind
        rw [Bool.eq_iff_iff, hb]
        constructor
        · rintro ⟨_, _, _, q⟩
          rcases q with q | ⟨_, k', m', hk'⟩
          · rw [tot0] at q
            exact absurd q (by decide)
          · simp only [List.mem_cons, List.not_mem_nil, or_false] at m'
            rcases m' with rfl | rfl
            · exact absurd (show false = true from hk') (by decide)
            · exact hk'
        · intro q
          refine ⟨fun j hj => ?_, fun kx mx => ?_, can0, .inr ⟨tot0, (1, p1), by simp, q⟩⟩
          · have hj' : j + 1 < 2 := hj
            have : j = 0 := by omega
            subst this
            show 0 < 1
            omega
          · simp only [List.mem_cons, List.not_mem_nil, or_false] at mx
            rcases mx with rfl | rfl <;> (show (0 : Int) < 1; decide)
      subst ebs
      refine ⟨b, rfl, _, rfl, b, rfl, rfl, _, rfl, ?_⟩
      rw [decide_eq_true rfl]
      refine iteF ?_
      exact ⟨s8.trans (u15.trans (w15.trans s9)), _, _, rfl⟩
    · rintro σ H8 ⟨s8, x9, x11, rfl⟩
      refine tnx_of ?_
      try dsimp only
      have s38 := s4.trans (s7.trans s8)
      refine ⟨_, rfl, by show 0 ≤ sizeLine; decide, fun lw nlw => ?_⟩
      have sw := same_upd (o := .lst []) nlw
      have hlw := upd_same (H := H8) (a := lw) (o := .lst [])
      have s39 := s38.trans sw
      generalize upd H8 lw (.lst []) = H9 at sw hlw s39 ⊢
      have ad : Ad H9 lh lw bvs [] T5 bs [] (lev ns 7) (mW ns) := ⟨s39 _ _ hlh, hB3.mono (Kd.of_same s39), hlw, .nil, hG, Nat.le_refl 5, Nat.zero_le _, (fun k m => by cases m), (fun k m => by cases m), by omega⟩
      refine ⟨lh, lw, bvs, [], T5, bs, [], _, _, rfl, ad, fun p r x0 us tt H10 s10 hp hx0 hr' hcan hgq shT eT => ?_⟩
      have eu := can_nil hcan
      subst eu
      have et : tt = zero := (rv_ne shT).mp eT
      subst et
      refine ⟨by show 0 ≤ sizeLine; decide, fun q1 nq1 => ?_⟩
      have t1 := same_upd (o := .tup []) nq1
      have hq1 := upd_same (H := H10) (a := q1) (o := .tup [])
      generalize upd H10 q1 (.tup []) = G1 at t1 hq1 ⊢
      refine ⟨by show 2 ≤ sizeLine; decide, fun q2 nq2 => ?_⟩
      have t2 := same_upd (o := .tup [.int 0, .int 1]) nq2
      have hq2 := upd_same (H := G1) (a := q2) (o := .tup [.int 0, .int 1])
      generalize upd G1 q2 (.tup [.int 0, .int 1]) = G2 at t2 hq2 ⊢
      refine ⟨by show 2 ≤ sizeLine; decide, fun q3 nq3 => ?_⟩
      have t3 := same_upd (o := .tup [.ref q1, .ref q2]) nq3
      have hq3 := upd_same (H := G2) (a := q3) (o := .tup [.ref q1, .ref q2])
      generalize upd G2 q3 (.tup [.ref q1, .ref q2]) = G3 at t3 hq3 ⊢
      have t13 := t1.trans (t2.trans t3)
      refine ⟨p, q3, r, q2, x0, .ref q1, [], 0, 1, rfl, rfl, t13 _ _ hp, hq3, hx0.mono (Kd.of_same t13), at_tup ((t2.trans t3) _ _ hq1) .nil, by simp [Trs.pure], by simp [Trs.depth], Same.tup t13 hr', SqT.of (t3 _ _ hq2), _, rfl, ?_⟩
      refine iteT ?_
      refine ⟨_, rfl, by show 0 ≤ sizeLine; decide, fun lw2 nlw2 => ?_⟩
      have sw2 := same_upd (o := .lst []) nlw2
      have sall := s10.trans (t13.trans sw2)
      have ad3 := ad.same sall
      have ad4 : Ad (upd G3 lw2 (.lst [])) lh lw2 bvs [] T5 bs [] (lev ns 7) (mW ns) := ⟨ad3.hb, ad3.tb, upd_same, .nil, hG, Nat.le_refl 5, Nat.zero_le _, (fun k m => by cases m), (fun k m => by cases m), by omega⟩
      refine ⟨lh, lw2, bvs, [], T5, bs, [], _, _, rfl, ad4, fun b H11 _ hb => ?_⟩
      have ebf : b = false := by
        cases b with
        | false => rfl
        | true =>
          rcases (hb.mp rfl).2.2.2 with q | ⟨_, k', m', _⟩
          · exact absurd (show (0 : Rat) < 0 from q) (by decide)
          · cases m'
      subst ebf
      exact ⟨false, false, rfl, rfl, k _⟩
end
end K38
set_option Elab.async false
set_option linter.all false
set_option maxRecDepth 100000
set_option maxHeartbeats 4000000
namespace K38
open PySem L2 Mth Wd
theorem all_mk {l : PySem.W.OpenLaw} {w : World} {K : PySem.W.Frag} {h : Heap} {mg : Str → Option Value} {fa : Addr} (X : K.In h) (G : h.Ns mainGlobals mg) (hfa : mg "law" = some (.ref fa))
    {fCD : Addr} {odCD anCD : Option Addr} {slCD : Array (Option Value)} {ocCD kVCD dcCD pmCD cdCD ctCD : Value}
    {fPL : Addr} {odPL anPL : Option Addr} {slPL : Array (Option Value)} {ocPL kVPL dcPL pmPL cdPL ctPL : Value}
    {fTI : Addr} {odTI anTI : Option Addr} {slTI : Array (Option Value)} {ocTI kVTI dcTI pmTI cdTI ctTI : Value}
    {fSG : Addr} {odSG anSG : Option Addr} {slSG : Array (Option Value)} {ocSG kVSG dcSG pmSG cdSG ctSG : Value}
    {fSM : Addr} {odSM anSM : Option Addr} {slSM : Array (Option Value)} {ocSM kVSM dcSM pmSM cdSM ctSM : Value}
    {fAD : Addr} {odAD anAD : Option Addr} {slAD : Array (Option Value)} {ocAD kVAD dcAD pmAD cdAD ctAD : Value}
    {fBE : Addr} {odBE anBE : Option Addr} {slBE : Array (Option Value)} {ocBE kVBE dcBE pmBE cdBE ctBE : Value}
    {fDR : Addr} {odDR anDR : Option Addr} {slDR : Array (Option Value)} {ocDR kVDR dcDR pmDR cdDR ctDR : Value}
    {fLE : Addr} {odLE anLE : Option Addr} {slLE : Array (Option Value)} {ocLE kVLE dcLE pmLE cdLE ctLE : Value}
    {fLP : Addr} {odLP anLP : Option Addr} {slLP : Array (Option Value)} {ocLP kVLP dcLP pmLP cdLP ctLP : Value}
    {fLT : Addr} {odLT anLT : Option Addr} {slLT : Array (Option Value)} {ocLT kVLT dcLT pmLT cdLT ctLT : Value}
    {fTS : Addr} {odTS anTS : Option Addr} {slTS : Array (Option Value)} {ocTS kVTS dcTS pmTS cdTS ctTS : Value}
    {fSH : Addr} {odSH anSH : Option Addr} {slSH : Array (Option Value)} {ocSH kVSH dcSH pmSH cdSH ctSH : Value}
    {fLA_ : Addr} {odLA_ anLA_ : Option Addr} {slLA_ : Array (Option Value)} {ocLA_ kVLA_ dcLA_ pmLA_ cdLA_ ctLA_ : Value}
    {fBO : Addr} {odBO anBO : Option Addr} {slBO : Array (Option Value)} {ocBO kVBO dcBO pmBO cdBO ctBO : Value}
    {fWE : Addr} {odWE anWE : Option Addr} {slWE : Array (Option Value)} {ocWE kVWE dcWE pmWE cdWE ctWE : Value}
    {fDU : Addr} {odDU anDU : Option Addr} {slDU : Array (Option Value)} {ocDU kVDU dcDU pmDU cdDU ctDU : Value}
    {fLA : Addr} {odLA anLA : Option Addr} {slLA : Array (Option Value)} {ocLA kVLA dcLA pmLA cdLA ctLA : Value}
    {Z : Addr} {dZ : Option Addr} {nZ : Nat} {sZ : Array (Option Value)} {t0 t1 : Tok}
    (aCD : PySem.W.nsIn K mainGlobals "common_divisor" = some (some (.ref fCD)))
    (lCD : K.lookup fCD = some ⟨ocCD, odCD, .func (PySem.W.fnOf "common_divisor" "common_divisor" (defArgs sCd) (defBody sCd) (defScope sCd) .none kVCD dcCD pmCD anCD cdCD ctCD), slCD⟩)
    (cCD : PySem.W.codeIn K cdCD "common_divisor" = true)
    (kCD : PySem.W.keepIn K (.ref fCD) = true)
    (aPL : PySem.W.nsIn K mainGlobals "plus" = some (some (.ref fPL)))
    (lPL : K.lookup fPL = some ⟨ocPL, odPL, .func (PySem.W.fnOf "plus" "plus" (defArgs sPlus) (defBody sPlus) (defScope sPlus) .none kVPL dcPL pmPL anPL cdPL ctPL), slPL⟩)
    (cPL : PySem.W.codeIn K cdPL "plus" = true)
    (kPL : PySem.W.keepIn K (.ref fPL) = true)
    (aTI : PySem.W.nsIn K mainGlobals "times" = some (some (.ref fTI)))
    (lTI : K.lookup fTI = some ⟨ocTI, odTI, .func (PySem.W.fnOf "times" "times" (defArgs sTimes) (defBody sTimes) (defScope sTimes) .none kVTI dcTI pmTI anTI cdTI ctTI), slTI⟩)
    (cTI : PySem.W.codeIn K cdTI "times" = true)
    (kTI : PySem.W.keepIn K (.ref fTI) = true)
    (aSG : PySem.W.nsIn K mainGlobals "sign_of" = some (some (.ref fSG)))
    (lSG : K.lookup fSG = some ⟨ocSG, odSG, .func (PySem.W.fnOf "sign_of" "sign_of" (defArgs sSign) (defBody sSign) (defScope sSign) .none kVSG dcSG pmSG anSG cdSG ctSG), slSG⟩)
    (cSG : PySem.W.codeIn K cdSG "sign_of" = true)
    (kSG : PySem.W.keepIn K (.ref fSG) = true)
    (aSM : PySem.W.nsIn K mainGlobals "sum_of" = some (some (.ref fSM)))
    (lSM : K.lookup fSM = some ⟨ocSM, odSM, .func (PySem.W.fnOf "sum_of" "sum_of" (defArgs sSum) (defBody sSum) (defScope sSum) .none kVSM dcSM pmSM anSM cdSM ctSM), slSM⟩)
    (cSM : PySem.W.codeIn K cdSM "sum_of" = true)
    (kSM : PySem.W.keepIn K (.ref fSM) = true)
    (aAD : PySem.W.nsIn K mainGlobals "added" = some (some (.ref fAD)))
    (lAD : K.lookup fAD = some ⟨ocAD, odAD, .func (PySem.W.fnOf "added" "added" (defArgs sAdded) (defBody sAdded) (defScope sAdded) .none kVAD dcAD pmAD anAD cdAD ctAD), slAD⟩)
    (cAD : PySem.W.codeIn K cdAD "added" = true)
    (kAD : PySem.W.keepIn K (.ref fAD) = true)
    (aBE : PySem.W.nsIn K mainGlobals "bears" = some (some (.ref fBE)))
    (lBE : K.lookup fBE = some ⟨ocBE, odBE, .func (PySem.W.fnOf "bears" "bears" (defArgs sBears) (defBody sBears) (defScope sBears) .none kVBE dcBE pmBE anBE cdBE ctBE), slBE⟩)
    (cBE : PySem.W.codeIn K cdBE "bears" = true)
    (kBE : PySem.W.keepIn K (.ref fBE) = true)
    (aDR : PySem.W.nsIn K mainGlobals "_law_draw" = some (some (.ref fDR)))
    (lDR : K.lookup fDR = some ⟨ocDR, odDR, .func (PySem.W.fnOf "_law_draw" "_law_draw" (defArgs sDraw) (defBody sDraw) (defScope sDraw) .none kVDR dcDR pmDR anDR cdDR ctDR), slDR⟩)
    (cDR : PySem.W.codeIn K cdDR "_law_draw" = true)
    (kDR : PySem.W.keepIn K (.ref fDR) = true)
    (aLE : PySem.W.nsIn K mainGlobals "_law_least" = some (some (.ref fLE)))
    (lLE : K.lookup fLE = some ⟨ocLE, odLE, .func (PySem.W.fnOf "_law_least" "_law_least" (defArgs sLeast) (defBody sLeast) (defScope sLeast) .none kVLE dcLE pmLE anLE cdLE ctLE), slLE⟩)
    (cLE : PySem.W.codeIn K cdLE "_law_least" = true)
    (kLE : PySem.W.keepIn K (.ref fLE) = true)
    (aLP : PySem.W.nsIn K mainGlobals "_law_plus" = some (some (.ref fLP)))
    (lLP : K.lookup fLP = some ⟨ocLP, odLP, .func (PySem.W.fnOf "_law_plus" "_law_plus" (defArgs sLPlus) (defBody sLPlus) (defScope sLPlus) .none kVLP dcLP pmLP anLP cdLP ctLP), slLP⟩)
    (cLP : PySem.W.codeIn K cdLP "_law_plus" = true)
    (kLP : PySem.W.keepIn K (.ref fLP) = true)
    (aLT : PySem.W.nsIn K mainGlobals "_law_times" = some (some (.ref fLT)))
    (lLT : K.lookup fLT = some ⟨ocLT, odLT, .func (PySem.W.fnOf "_law_times" "_law_times" (defArgs sLTimes) (defBody sLTimes) (defScope sLTimes) .none kVLT dcLT pmLT anLT cdLT ctLT), slLT⟩)
    (cLT : PySem.W.codeIn K cdLT "_law_times" = true)
    (kLT : PySem.W.keepIn K (.ref fLT) = true)
    (aTS : PySem.W.nsIn K mainGlobals "_law_terms" = some (some (.ref fTS)))
    (lTS : K.lookup fTS = some ⟨ocTS, odTS, .func (PySem.W.fnOf "_law_terms" "_law_terms" (defArgs sTerms) (defBody sTerms) (defScope sTerms) .none kVTS dcTS pmTS anTS cdTS ctTS), slTS⟩)
    (cTS : PySem.W.codeIn K cdTS "_law_terms" = true)
    (kTS : PySem.W.keepIn K (.ref fTS) = true)
    (aSH : PySem.W.nsIn K mainGlobals "_law_share" = some (some (.ref fSH)))
    (lSH : K.lookup fSH = some ⟨ocSH, odSH, .func (PySem.W.fnOf "_law_share" "_law_share" (defArgs sShare) (defBody sShare) (defScope sShare) .none kVSH dcSH pmSH anSH cdSH ctSH), slSH⟩)
    (cSH : PySem.W.codeIn K cdSH "_law_share" = true)
    (kSH : PySem.W.keepIn K (.ref fSH) = true)
    (aLA_ : PySem.W.nsIn K mainGlobals "_law_added" = some (some (.ref fLA_)))
    (lLA_ : K.lookup fLA_ = some ⟨ocLA_, odLA_, .func (PySem.W.fnOf "_law_added" "_law_added" (defArgs sLAdded) (defBody sLAdded) (defScope sLAdded) .none kVLA_ dcLA_ pmLA_ anLA_ cdLA_ ctLA_), slLA_⟩)
    (cLA_ : PySem.W.codeIn K cdLA_ "_law_added" = true)
    (kLA_ : PySem.W.keepIn K (.ref fLA_) = true)
    (aBO : PySem.W.nsIn K mainGlobals "_law_bounds" = some (some (.ref fBO)))
    (lBO : K.lookup fBO = some ⟨ocBO, odBO, .func (PySem.W.fnOf "_law_bounds" "_law_bounds" (defArgs sBounds) (defBody sBounds) (defScope sBounds) .none kVBO dcBO pmBO anBO cdBO ctBO), slBO⟩)
    (cBO : PySem.W.codeIn K cdBO "_law_bounds" = true)
    (kBO : PySem.W.keepIn K (.ref fBO) = true)
    (aWE : PySem.W.nsIn K mainGlobals "_law_weights" = some (some (.ref fWE)))
    (lWE : K.lookup fWE = some ⟨ocWE, odWE, .func (PySem.W.fnOf "_law_weights" "_law_weights" (defArgs sWeights) (defBody sWeights) (defScope sWeights) .none kVWE dcWE pmWE anWE cdWE ctWE), slWE⟩)
    (cWE : PySem.W.codeIn K cdWE "_law_weights" = true)
    (kWE : PySem.W.keepIn K (.ref fWE) = true)
    (aDU : PySem.W.nsIn K mainGlobals "_law_due" = some (some (.ref fDU)))
    (lDU : K.lookup fDU = some ⟨ocDU, odDU, .func (PySem.W.fnOf "_law_due" "_law_due" (defArgs sDue) (defBody sDue) (defScope sDue) .none kVDU dcDU pmDU anDU cdDU ctDU), slDU⟩)
    (cDU : PySem.W.codeIn K cdDU "_law_due" = true)
    (kDU : PySem.W.keepIn K (.ref fDU) = true)
    (aLA : PySem.W.nsIn K mainGlobals "law" = some (some (.ref fLA)))
    (lLA : K.lookup fLA = some ⟨ocLA, odLA, .func (PySem.W.fnOf "law" "law" (defArgs sLaw) (defBody sLaw) (defScope sLaw) .none kVLA dcLA pmLA anLA cdLA ctLA), slLA⟩)
    (cLA : PySem.W.codeIn K cdLA "law" = true)
    (kLA : PySem.W.keepIn K (.ref fLA) = true)
    (aZ : PySem.W.nsIn K mainGlobals "ZERO" = some (some (.ref Z)))
    (lZ : K.lookup Z = some ⟨.type "tuple", dZ, .seq #[.int 0 t0, .int 1 t1] nZ, sZ⟩)
    (z_abs : PySem.W.nsIn K mainGlobals "abs" = some none)
    (z_len : PySem.W.nsIn K mainGlobals "len" = some none)
    (z_range : PySem.W.nsIn K mainGlobals "range" = some none)
    (z_isinstance : PySem.W.nsIn K mainGlobals "isinstance" = some none)
    (z_tuple : PySem.W.nsIn K mainGlobals "tuple" = some none)
    (z_int : PySem.W.nsIn K mainGlobals "int" = some none)
    (z_bool : PySem.W.nsIn K mainGlobals "bool" = some none)
    (z_list : PySem.W.nsIn K mainGlobals "list" = some none)
    (z_str : PySem.W.nsIn K mainGlobals "str" = some none)
    (z_all : PySem.W.nsIn K mainGlobals "all" = some none)
    (z_any : PySem.W.nsIn K mainGlobals "any" = some none)
    (z_sum : PySem.W.nsIn K mainGlobals "sum" = some none)
    (z_zip : PySem.W.nsIn K mainGlobals "zip" = some none)
    (z_sorted : PySem.W.nsIn K mainGlobals "sorted" = some none)
    (z_ValueError : PySem.W.nsIn K mainGlobals "ValueError" = some none)
    (z_repr : PySem.W.nsIn K mainGlobals "repr" = some none) :
    ∃ fd : FuncData, (∀ (s : Shared) (v : Value), BindsTo s fd ⟨[v], []⟩ [("_law_script", v)]) ∧ ∀ base : Heap, K.In base → base.Ns mainGlobals mg → FnOk l.prog w K mg base CX0 6 fa fd ["_law_script"] (spLaw K) := by
  have e := hfa.symm.trans (PySem.W.mg_of X G aLA)
  cases e
  have B : Blt mg := ⟨PySem.W.mg_none_of X G z_abs, PySem.W.mg_none_of X G z_len, PySem.W.mg_none_of X G z_range, PySem.W.mg_none_of X G z_isinstance, PySem.W.mg_none_of X G z_tuple, PySem.W.mg_none_of X G z_int, PySem.W.mg_none_of X G z_bool, PySem.W.mg_none_of X G z_list, PySem.W.mg_none_of X G z_str, PySem.W.mg_none_of X G z_all, PySem.W.mg_none_of X G z_any, PySem.W.mg_none_of X G z_sum, PySem.W.mg_none_of X G z_zip, PySem.W.mg_none_of X G z_sorted, PySem.W.mg_none_of X G z_ValueError, PySem.W.mg_none_of X G z_repr⟩
  have FCD := fun_mk (st := sCd) lCD cCD kCD
  have bCD := FCD.binds (ps := ["one", "other"]) fun _ _ _ _ _ _ us hl => match us, hl with | [_, _], _ => rfl
  have mCD := PySem.W.mg_of X G aCD
  have FPL := fun_mk (st := sPlus) lPL cPL kPL
  have bPL := FPL.binds (ps := ["one", "other"]) fun _ _ _ _ _ _ us hl => match us, hl with | [_, _], _ => rfl
  have mPL := PySem.W.mg_of X G aPL
  have FTI := fun_mk (st := sTimes) lTI cTI kTI
  have bTI := FTI.binds (ps := ["one", "other"]) fun _ _ _ _ _ _ us hl => match us, hl with | [_, _], _ => rfl
  have mTI := PySem.W.mg_of X G aTI
  have FSG := fun_mk (st := sSign) lSG cSG kSG
  have bSG := FSG.binds (ps := ["one"]) fun _ _ _ _ _ _ us hl => match us, hl with | [_], _ => rfl
  have mSG := PySem.W.mg_of X G aSG
  have FSM := fun_mk (st := sSum) lSM cSM kSM
  have bSM := FSM.binds (ps := ["pairs"]) fun _ _ _ _ _ _ us hl => match us, hl with | [_], _ => rfl
  have mSM := PySem.W.mg_of X G aSM
  have FAD := fun_mk (st := sAdded) lAD cAD kAD
  have bAD := FAD.binds (ps := ["bounds", "weights"]) fun _ _ _ _ _ _ us hl => match us, hl with | [_, _], _ => rfl
  have mAD := PySem.W.mg_of X G aAD
  have FBE := fun_mk (st := sBears) lBE cBE kBE
  have bBE := FBE.binds (ps := ["bounds", "weights"]) fun _ _ _ _ _ _ us hl => match us, hl with | [_, _], _ => rfl
  have mBE := PySem.W.mg_of X G aBE
  have FDR := fun_mk (st := sDraw) lDR cDR kDR
  have bDR := FDR.binds (ps := ["_law_script", "_law_k", "_law_many"]) fun _ _ _ _ _ _ us hl => match us, hl with | [_, _, _], _ => rfl
  have mDR := PySem.W.mg_of X G aDR
  have FLE := fun_mk (st := sLeast) lLE cLE kLE
  have bLE := FLE.binds (ps := ["_law_top", "_law_bottom"]) fun _ _ _ _ _ _ us hl => match us, hl with | [_, _], _ => rfl
  have mLE := PySem.W.mg_of X G aLE
  have FLP := fun_mk (st := sLPlus) lLP cLP kLP
  have bLP := FLP.binds (ps := ["_law_one", "_law_other"]) fun _ _ _ _ _ _ us hl => match us, hl with | [_, _], _ => rfl
  have mLP := PySem.W.mg_of X G aLP
  have FLT := fun_mk (st := sLTimes) lLT cLT kLT
  have bLT := FLT.binds (ps := ["_law_one", "_law_other"]) fun _ _ _ _ _ _ us hl => match us, hl with | [_, _], _ => rfl
  have mLT := PySem.W.mg_of X G aLT
  have FTS := fun_mk (st := sTerms) lTS cTS kTS
  have bTS := FTS.binds (ps := ["_law_script"]) fun _ _ _ _ _ _ us hl => match us, hl with | [_], _ => rfl
  have mTS := PySem.W.mg_of X G aTS
  have FSH := fun_mk (st := sShare) lSH cSH kSH
  have bSH := FSH.binds (ps := ["_law_script", "_law_base"]) fun _ _ _ _ _ _ us hl => match us, hl with | [_, _], _ => rfl
  have mSH := PySem.W.mg_of X G aSH
  have FLA_ := fun_mk (st := sLAdded) lLA_ cLA_ kLA_
  have bLA_ := FLA_.binds (ps := ["_law_bounds_here", "_law_weights_here"]) fun _ _ _ _ _ _ us hl => match us, hl with | [_, _], _ => rfl
  have mLA_ := PySem.W.mg_of X G aLA_
  have FBO := fun_mk (st := sBounds) lBO cBO kBO
  have bBO := FBO.binds (ps := ["_law_script", "_law_terms_here"]) fun _ _ _ _ _ _ us hl => match us, hl with | [_, _], _ => rfl
  have mBO := PySem.W.mg_of X G aBO
  have FWE := fun_mk (st := sWeights) lWE cWE kWE
  have bWE := FWE.binds (ps := ["_law_script", "_law_base", "_law_many"]) fun _ _ _ _ _ _ us hl => match us, hl with | [_, _, _], _ => rfl
  have mWE := PySem.W.mg_of X G aWE
  have FDU := fun_mk (st := sDue) lDU cDU kDU
  have bDU := FDU.binds (ps := ["_law_bounds_here", "_law_weights_here"]) fun _ _ _ _ _ _ us hl => match us, hl with | [_, _], _ => rfl
  have mDU := PySem.W.mg_of X G aDU
  have FLA := fun_mk (st := sLaw) lLA cLA kLA
  have mZ := PySem.W.mg_of X G aZ
  have hX : ∀ H : Hp, Dj.SqX K H Z [.int 0, .int 1] := fun H => .inr ⟨_, _, _, lZ, rfl, rfl, (by show 2 ≤ sizeLine; decide), .cons ⟨t0, rfl⟩ (.cons ⟨t1, rfl⟩ .nil)⟩
  refine ⟨PySem.W.fnOf "law" "law" (defArgs sLaw) (defBody sLaw) (defScope sLaw) .none kVLA dcLA pmLA anLA cdLA ctLA, fun s v => .of_eq rfl, fun base _ _ => ?_⟩
  have hZ : ∀ H : Hp, SqT K H Z [.int 0, .int 1] := fun H => (hX H).sq
  have gPL : FnOk l.prog w K mg base CX0 2 fPL _ ["one", "other"] (spPlus K) := ok_plus FPL FCD bCD mCD B
  have gTI : FnOk l.prog w K mg base CX0 2 fTI _ ["one", "other"] (spTimes K) := ok_times FTI FCD bCD mCD B
  have gSG : FnOk l.prog w K mg base CX0 1 fSG _ ["one"] (spSign K) := ok_sign FSG
  have gSM : FnOk l.prog w K mg base CX0 3 fSM _ ["pairs"] spSum := ok_sum FSM B gPL kPL bPL mPL mZ hZ
  have gAD : FnOk l.prog w K mg base CX0 4 fAD _ ["bounds", "weights"] (spAdded K) := ok_added FAD gSM kSM bSM mSM gTI kTI bTI mTI gPL kPL bPL mPL mZ hZ
  have gBE : FnOk l.prog w K mg base CX0 5 fBE _ ["bounds", "weights"] (spBears K) := ok_bears FBE B gSG kSG bSG mSG gAD kAD bAD mAD
  have gDR : FnOk l.prog w K mg base CX0 1 fDR _ ["_law_script", "_law_k", "_law_many"] (spDraw K) := ok_draw FDR B
  have gLE : FnOk l.prog w K mg base CX0 1 fLE _ ["_law_top", "_law_bottom"] spLow := ok_low FLE B
  have gLP : FnOk l.prog w K mg base CX0 2 fLP _ ["_law_one", "_law_other"] spLPlus := ok_lplus FLP gLE kLE bLE mLE
  have gLT : FnOk l.prog w K mg base CX0 2 fLT _ ["_law_one", "_law_other"] spLTimes := ok_ltimes FLT gLE kLE bLE mLE
  have gTS : FnOk l.prog w K mg base CX0 2 fTS _ ["_law_script"] (spTerms K) := ok_terms FTS gDR kDR bDR mDR
  have gSH : FnOk l.prog w K mg base CX0 2 fSH _ ["_law_script", "_law_base"] (spShare K) := ok_share FSH B gDR kDR bDR mDR gLE kLE bLE mLE
  have gLA_ : FnOk l.prog w K mg base CX0 3 fLA_ _ ["_law_bounds_here", "_law_weights_here"] spLAdded := ok_ladded FLA_ B gLT kLT bLT mLT gLP kLP bLP mLP
  have gBO : FnOk l.prog w K mg base CX0 4 fBO _ ["_law_script", "_law_terms_here"] (spBounds K) := ok_bounds FBO B gDR kDR bDR mDR gSH kSH bSH mSH gLA_ kLA_ bLA_ mLA_ gLP kLP bLP mLP
  have gWE : FnOk l.prog w K mg base CX0 3 fWE _ ["_law_script", "_law_base", "_law_many"] (spWeights K) := ok_weights FWE B gDR kDR bDR mDR gSH kSH bSH mSH
  have gDU : FnOk l.prog w K mg base CX0 4 fDU _ ["_law_bounds_here", "_law_weights_here"] spDue := ok_due FDU B gLA_ kLA_ bLA_ mLA_
  exact ok_law FLA B gTS kTS bTS mTS gBO kBO bBO mBO gWE kWE bWE mWE gAD kAD bAD mAD gLA_ kLA_ bLA_ mLA_ gBE kBE bBE mBE gDU kDU bDU mDU gLT kLT bLT mLT
theorem walk {l : PySem.W.OpenLaw} {q : Program} {loose : List Str} {XP : (Str → Option Value) → Heap → Prop} {YP : World → Heap → Prop} {d : DefRec} {K : Params → PySem.W.Frag} (hn : l.most = some 63) (hdf : d.params.defaults = [])
    (hY : ∀ (w : World) (h : Heap), YP w h → (K w.params).In h)
    (F : ∀ (w : World) (mg : Str → Option Value) (fa : Addr) (h : Heap), (K w.params).In h → h.Ns mainGlobals mg → mg d.name = some (.ref fa) →
      ∃ fd : FuncData, (∀ (s : Shared) (u : Value), BindsTo s fd ⟨[u], []⟩ [("_law_script", u)]) ∧ ∀ base : Heap, (K w.params).In base → base.Ns mainGlobals mg → FnOk l.prog w (K w.params) mg base CX0 6 fa fd ["_law_script"] (spLaw (K w.params))) :
    PySem.W.WalkO q loose XP YP l.row.toRowW d [] (fun f vs => PySem.call f vs) :=
  L2.walk_of (n := 63) (k := 6) (x := "_law_script") (CX := fun _ => CX0) (sp := fun w => spLaw (K w.params)) hn (by decide) hdf ⟨rfl, by decide, by decide⟩ hY F (fun _ _ a ns hl _ hS => ⟨a, ns, rfl, hS, hl, fun _ => rfl⟩) fun _ _ _ _ _ z => z
end K38
def PySem.W.Fast.tw5730576182370671987 : Unit := ()
def PySem.W.Fast.tw15788500486861426062 : Unit := ()
def PySem.W.Fast.tw6807408977452387180 : Unit := ()
def PySem.W.Fast.tw2294492524990868132 : Unit := ()
def PySem.W.Fast.tw16550543669128014532 : Unit := ()
def PySem.W.Fast.tw7470812169077198474 : Unit := ()
def PySem.W.Fast.tw16026091210681031505 : Unit := ()
def PySem.W.Fast.tw15792705307214968102 : Unit := ()
def PySem.W.Fast.tw17724880097696489672 : Unit := ()
def PySem.W.Fast.tw16797373780932261625 : Unit := ()
open PySem PySem.W PyProof.Rows
set_option maxRecDepth 100000 in
set_option maxHeartbeats 0 in
theorem PySem.Challenge.cw_smallword_k38_added_up_holds : PySem.Challenge.rw_smallword_k38_added_up.Holds := by
  w_on; o_law; k_head; (case hw => w_witness2)
  k_fill
  refine K38.walk (l := PySem.Challenge.rw_smallword_k38_added_up) rfl rfl (fun w h Y => PySem.W.kIn_of Y) ?F
  case F =>
    intro w mg fa h KX G hmg
    refine' K38.all_mk KX G hmg ?aCD ?lCD ?cCD ?kCD ?aPL ?lPL ?cPL ?kPL ?aTI ?lTI ?cTI ?kTI ?aSG ?lSG ?cSG ?kSG ?aSM ?lSM ?cSM ?kSM ?aAD ?lAD ?cAD ?kAD ?aBE ?lBE ?cBE ?kBE ?aDR ?lDR ?cDR ?kDR ?aLE ?lLE ?cLE ?kLE ?aLP ?lLP ?cLP ?kLP ?aLT ?lLT ?cLT ?kLT ?aTS ?lTS ?cTS ?kTS ?aSH ?lSH ?cSH ?kSH ?aLA_ ?lLA_ ?cLA_ ?kLA_ ?aBO ?lBO ?cBO ?kBO ?aWE ?lWE ?cWE ?kWE ?aDU ?lDU ?cDU ?kDU ?aLA ?lLA ?cLA ?kLA ?aZ ?lZ ?z_abs ?z_len ?z_range ?z_isinstance ?z_tuple ?z_int ?z_bool ?z_list ?z_str ?z_all ?z_any ?z_sum ?z_zip ?z_sorted ?z_ValueError ?z_repr
    (case aCD => k_is); (case lCD => k_is); (case cCD => k_is); (case kCD => k_is); (case aPL => k_is); (case lPL => k_is); (case cPL => k_is); (case kPL => k_is)
    (case aTI => k_is); (case lTI => k_is); (case cTI => k_is); (case kTI => k_is); (case aSG => k_is); (case lSG => k_is); (case cSG => k_is); (case kSG => k_is)
    (case aSM => k_is); (case lSM => k_is); (case cSM => k_is); (case kSM => k_is); (case aAD => k_is); (case lAD => k_is); (case cAD => k_is); (case kAD => k_is)
    (case aBE => k_is); (case lBE => k_is); (case cBE => k_is); (case kBE => k_is); (case aDR => k_is); (case lDR => k_is); (case cDR => k_is); (case kDR => k_is)
    (case aLE => k_is); (case lLE => k_is); (case cLE => k_is); (case kLE => k_is); (case aLP => k_is); (case lLP => k_is); (case cLP => k_is); (case kLP => k_is)
    (case aLT => k_is); (case lLT => k_is); (case cLT => k_is); (case kLT => k_is); (case aTS => k_is); (case lTS => k_is); (case cTS => k_is); (case kTS => k_is)
    (case aSH => k_is); (case lSH => k_is); (case cSH => k_is); (case kSH => k_is); (case aLA_ => k_is); (case lLA_ => k_is); (case cLA_ => k_is); (case kLA_ => k_is)
    (case aBO => k_is); (case lBO => k_is); (case cBO => k_is); (case kBO => k_is); (case aWE => k_is); (case lWE => k_is); (case cWE => k_is); (case kWE => k_is)
    (case aDU => k_is); (case lDU => k_is); (case cDU => k_is); (case kDU => k_is); (case aLA => k_is); (case lLA => k_is); (case cLA => k_is); (case kLA => k_is)
    (case aZ => k_is); (case lZ => k_is); (case z_abs => k_is); (case z_len => k_is); (case z_range => k_is); (case z_isinstance => k_is); (case z_tuple => k_is); (case z_int => k_is)
    (case z_bool => k_is); (case z_list => k_is); (case z_str => k_is); (case z_all => k_is); (case z_any => k_is); (case z_sum => k_is); (case z_zip => k_is); (case z_sorted => k_is)
    (case z_ValueError => k_is); (case z_repr => k_is)


