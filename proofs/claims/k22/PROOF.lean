import PyProof.Rows.All
import Wide.All
import OpenK.AllK
import Wide.FinOn
import Lean
import PyProof.EqAt
import PyProof.EqKinds
import PyProof.TupleCall
import PyProof.NeKinds
import PyProof.Rows.SetFrom
import PyProof.Rows.SortWalk
import PyProof.CollectWalk
import PyProof.ListNew
import PyProof.SetKind
import PyProof.Rows.EqDataRows
import PyProof.Rows.SortRuns
import PyProof.Rows.SortShell
import KE.KSortTup
import PySem.Challenge.RW_coinyard_k22_whole_all_with_so_many_gaps
set_option Elab.async false
set_option linter.all false
set_option maxRecDepth 100000
/-! THE HAND LAYER, for ints, bools, texts, own classes, LISTS and tuples (index, slices, in, append, pop ..), calls, loops. Paste it whole ahead of your own text; what your proof does not reach may be deleted. -/
namespace L2
open PySem PySem.Spec PyProof.Rows

/-- a key: an int or a str -/
abbrev Key := Sum Int Str
def keyIs : Key → Value → Bool
  | .inl k, v => Value.isInt k v
  | .inr x, v => Value.isStrOf x v
def keyH (w : World) : Key → Int
  | .inl k => hashInt k
  | .inr x => hashStr w x
theorem keyIs_shape : ∀ {k : Key} {v : Value}, keyIs k v = true → (∃ i t, k = Sum.inl i ∧ v = Value.int i t) ∨ (∃ x t, k = Sum.inr x ∧ v = Value.str x t)
  | .inl i, v, h => by
    obtain ⟨t, e⟩ := Value.isInt_shape (k := i) (v := v) h
    exact .inl ⟨i, t, rfl, e⟩
  | .inr x, v, h => by
    obtain ⟨t, e⟩ := Value.isStrOf_shape (x := x) (v := v) h
    exact .inr ⟨x, t, rfl, e⟩
theorem key_ll (a b : Int) : decide ((Sum.inl a : Key) = Sum.inl b) = (a == b) := by
  by_cases e : a = b
  · subst e; simp
  · have h : ¬ (Sum.inl a : Key) = Sum.inl b := fun q => e (Sum.inl.inj q)
    rw [decide_eq_false h]
    exact (beq_eq_false_iff_ne.mpr e).symm
theorem key_rr (a b : Str) : decide ((Sum.inr a : Key) = Sum.inr b) = decide (a = b) := by
  by_cases e : a = b
  · subst e; simp
  · have h : ¬ (Sum.inr a : Key) = Sum.inr b := fun q => e (Sum.inr.inj q)
    rw [decide_eq_false h, decide_eq_false e]
theorem key_lr (a : Int) (b : Str) : decide ((Sum.inl a : Key) = Sum.inr b) = false := decide_eq_false (fun q => nomatch q)
theorem key_rl (a : Str) (b : Int) : decide ((Sum.inr a : Key) = Sum.inl b) = false := decide_eq_false (fun q => nomatch q)

def mixKind (prog : Program) (w : World) : PySem.KeyKind prog w Key where
  is := keyIs
  hash := keyH w
  inj := fun v a b ha hb => by
    rcases keyIs_shape ha with ⟨i, t, rfl, rfl⟩ | ⟨x, t, rfl, rfl⟩
    · rcases keyIs_shape hb with ⟨j, u, rfl, e⟩ | ⟨y, u, rfl, e⟩
      · injection e with e1 _; rw [e1]
      · exact nomatch e
    · rcases keyIs_shape hb with ⟨j, u, rfl, e⟩ | ⟨y, u, rfl, e⟩
      · exact nomatch e
      · injection e with e1 _; rw [e1]
  byValue := fun k v h => by
    rcases keyIs_shape h with ⟨i, t, rfl, rfl⟩ | ⟨x, t, rfl, rfl⟩ <;> rfl
  pyHash := fun hv h => by
    rcases keyIs_shape hv with ⟨i, t, rfl, rfl⟩ | ⟨x, t, rfl, rfl⟩
    · exact wpAny_pyHash_int h
    · exact wpAny_pyHash_str h
  eqBool := fun hu hv h => by
    rcases keyIs_shape hu with ⟨i, t, rfl, rfl⟩ | ⟨x, t, rfl, rfl⟩
    · rcases keyIs_shape hv with ⟨j, u, rfl, rfl⟩ | ⟨y, u, rfl, rfl⟩
      · rw [key_ll] at h; exact wpAny_eqBool_int h
      · rw [key_lr] at h; exact SeqAt.EqAt.int_str i t y u _ _ _ _ h
    · rcases keyIs_shape hv with ⟨j, u, rfl, rfl⟩ | ⟨y, u, rfl, rfl⟩
      · rw [key_rl] at h; exact SeqAt.EqAt.str_int x t j u _ _ _ _ h
      · rw [key_rr] at h; exact wpAny_eqBool_str h
  «strs» := fun k x t v h => by
    rcases keyIs_shape h with ⟨i, u, rfl, e⟩ | ⟨y, u, rfl, e⟩
    · exact nomatch e
    · injection e with e1 _
      subst e1
      cases v <;> rfl

end L2

namespace L2
open PySem PySem.Spec PyProof.Rows

/-- a value, without the heap -/
inductive V where
  | non | bl (b : Bool) | int (i : Int) | str (x : Str) | byt (b : Array UInt8) | flt (b : UInt64) | ref (a : Addr) | ty (n : String)
  deriving DecidableEq

def RelV : V → Value → Prop
  | .non, u => u = Value.none
  | .bl b, u => u = Value.bool b
  | .int i, u => ∃ t, u = Value.int i t
  | .str x, u => ∃ t, u = Value.str x t
  | .byt b, u => ∃ t, u = Value.bytes b t
  | .flt b, u => ∃ t, u = Value.float b t
  | .ref a, u => u = Value.ref a
  | .ty n, u => u = Value.type n

abbrev Vals : List V → List Value → Prop := Paired RelV
theorem Vals.length {xs : List V} {us : List Value} (r : Vals xs us) : xs.length = us.length := Paired.length r
theorem Vals.get : ∀ {xs : List V} {us : List Value} {i : Nat} {x : V}, Vals xs us → xs[i]? = some x → ∃ u, us[i]? = some u ∧ RelV x u
  | _, _, _, _, .nil, e => by simp at e
  | _, _, 0, _, .cons r _, e => by simp at e; subst e; exact ⟨_, rfl, r⟩
  | _, _, i + 1, x, .cons _ t, e => by
    obtain ⟨u, h1, h2⟩ := Vals.get (i := i) (x := x) t (by simpa using e)
    exact ⟨u, by simpa using h1, h2⟩
theorem Vals.set {x : V} {u : Value} (r : RelV x u) : ∀ {xs : List V} {us : List Value} (i : Nat), Vals xs us → Vals (xs.set i x) (us.set i u)
  | _, _, _, .nil => .nil
  | _, _, 0, .cons _ t => .cons r t
  | _, _, i + 1, .cons q t => .cons q (Vals.set r i t)
theorem Vals.append : ∀ {xs ys : List V} {us ws : List Value}, Vals xs us → Vals ys ws → Vals (xs ++ ys) (us ++ ws)
  | _, _, _, _, .nil, s => s
  | _, _, _, _, .cons r t, s => .cons r (Vals.append t s)
theorem Vals.take : ∀ {xs : List V} {us : List Value} (n : Nat), Vals xs us → Vals (xs.take n) (us.take n)
  | _, _, 0, _ => .nil
  | _, _, _ + 1, .nil => .nil
  | _, _, n + 1, .cons r t => .cons r (Vals.take n t)
theorem Vals.drop : ∀ {xs : List V} {us : List Value} (n : Nat), Vals xs us → Vals (xs.drop n) (us.drop n)
  | _, _, 0, r => r
  | _, _, _ + 1, .nil => .nil
  | _, _, n + 1, .cons _ t => Vals.drop n t
def RelO : Option V → Option Value → Prop
  | some v, some u => RelV v u
  | none, none => True
  | _, _ => False
def KV {κ : Type} : List (κ × V) → List (κ × Value) → Prop := Paired fun (p : κ × V) (q : κ × Value) => p.1 = q.1 ∧ RelV p.2 q.2

/-- a key of a dict (00_mix): an int or a text -/
def kV : Key → V
  | .inl i => .int i
  | .inr x => .str x

/-- what stands at a tracked address -/
inductive HO where
  /-- a list -/
  | lst (xs : List V)
  /-- a tuple (never changes) -/
  | tup (xs : List V)
  /-- a dict whose keys are ints and texts; one whose keys are tuples of ints and texts (the empty one is both) -/
  | dK (kvs : List (Key × V)) | dT (kvs : List (List Key × V))
  /-- a set of ints: its members, its size -/
  | set (S : Int → Bool) (n : Nat)
  /-- an instance of the class at C, its dict at dx, its attributes -/
  | ins (C dx : Addr) (fs : List (Str × V))
  /-- the dict of the instance at x -/
  | own (x : Addr)
  /-- the dict of an exception -/
  | xd (fs : List (Str × V))
  /-- a bound method, f of x -/
  | met (f x : Addr)
  /-- a range object lo, lo + 1, .. below hi -/
  | rng (lo hi : Int)
  /-- a thing that is known to the object (the script; a dict while a loop walks it): read, never written while it is so -/
  | frz (o : Obj) (u : HO)
  /-- a code object's table -/
  | tbl (ps : Array Value)
  /-- any other thing, by what is true of its one object (a def of one's own: SetO a S n := HO.ext fun h => ..) -/
  | ext (φ : Heap → Prop)

abbrev Hp := Addr → Option HO
def upd (H : Hp) (a : Addr) (o : HO) : Hp := fun b => if b = a then some o else H b
theorem upd_same {H : Hp} {a : Addr} {o : HO} : upd H a o a = some o := by unfold upd; rw [if_pos rfl]
theorem upd_ne {H : Hp} {a b : Addr} {o : HO} (h : b ≠ a) : upd H a o b = H b := by unfold upd; rw [if_neg h]
theorem upd_upd {H : Hp} {a : Addr} {o u : HO} : upd (upd H a o) a u = upd H a u := by
  funext b; unfold upd; split <;> rfl
theorem ne_of_none {H : Hp} {a b : Addr} {o : HO} (h : H a = some o) (h' : H b = none) : a ≠ b := by
  intro e; subst e; rw [h] at h'; cases h'

section
variable (P : Program) (w : World)
def ObjOk (H : Hp) (h : Heap) (a : Addr) : HO → Prop
  | .lst xs => xs.length ≤ sizeLine ∧ ∃ (its : List Value) (n : Nat), Vals xs its ∧ h.get? a = some { cls := .type "list", data := .seq its.toArray n }
  | .tup xs => xs.length ≤ sizeLine ∧ ∃ its : List Value, Vals xs its ∧ IsTup h a its.toArray
  | .dK kvs => kvs.length ≤ sizeLine ∧ (a == sysModules) = false ∧ ∃ vs, KV kvs vs ∧ h.DictOf (mixKind P w) a vs
  | .dT kvs => kvs.length ≤ sizeLine ∧ (a == sysModules) = false ∧ ∃ xs : List (List Key × Addr × Value),
      Paired (fun (p : List Key × V) (q : List Key × Addr × Value) => p.1 = q.1 ∧ H q.2.1 = some (.tup (p.1.map kV)) ∧ RelV p.2 q.2.2) kvs xs ∧
      ∃ o es ep, h.get? a = some o ∧ o.ExactDict ∧ o.data = .dict es ep ∧ es.toList = xs.map (entryOfKey (tupleKind (mixKind P w))) ∧ (xs.map (·.1)).Nodup
  | .set S n => h.SetOf (intKind P w) a S n
  | .ins C dx fs => H dx = some (.own a) ∧ fs.length ≤ 1000 ∧ dx ≠ a ∧ h.get? a = some (PySem.W.instObj C dx) ∧
      ∃ mA, h.Ns1 dx mA ∧ (∀ f, RelO (fs.lookup f) (mA f)) ∧ PySem.Within mA (fs.map (·.1))
  | .own _ => ∃ o, h.get? a = some o
  | .xd fs => ∃ mA, h.Ns1 a mA ∧ ∀ f, RelO (fs.lookup f) (mA f)
  | .rng lo hi => ∃ t u v, h.get? a = some { cls := .type "range", data := .fields #[.int lo t, .int hi u, .int 1 v] }
  | .frz o u => h.get? a = some o ∧ ObjOk H h a u
  | .tbl ps => h.get? a = some { cls := .none, data := .fields ps }
  | .met f x => h.get? a = some (PySem.W.methodObj (.ref f) (.ref x))
  | .ext φ => φ h ∧ (∃ o, h.get? a = some o) ∧ ∀ h1 h2 : Heap, φ h1 → (∀ o, h1.get? a = some o → h2.get? a = some o) → φ h2
/-- the abstract heap is held -/
def HOk (H : Hp) (h : Heap) : Prop := ∀ a o, H a = some o → ObjOk P w H h a o
end

section
variable {P : Program} {w : World} {H H' : Hp} {h h' : Heap} {a : Addr} {o : HO}
theorem ObjOk.lt (x : ObjOk P w H h a o) : a < h.objs.size := by
  cases o with
  | lst xs => obtain ⟨_, _, _, _, e⟩ := x; exact Heap.lt_size e
  | tup xs => obtain ⟨_, _, _, p⟩ := x; exact p.lt
  | dK kvs => obtain ⟨_, _, _, _, o, _, _, e, _⟩ := x; exact Heap.lt_size e
  | dT kvs => obtain ⟨_, _, _, _, o, _, _, e, _⟩ := x; exact Heap.lt_size e
  | set S n => obtain ⟨o, _, _, _, e, _⟩ := x; exact Heap.lt_size e
  | ins C dx fs => obtain ⟨_, _, _, e, _⟩ := x; exact Heap.lt_size e
  | own y => obtain ⟨_, e⟩ := x; exact Heap.lt_size e
  | xd fs => obtain ⟨_, ⟨_, _, _, e, _⟩, _⟩ := x; exact Heap.lt_size e
  | rng lo hi => obtain ⟨_, _, _, e⟩ := x; exact Heap.lt_size e
  | frz ob u => obtain ⟨e, _⟩ := x; exact Heap.lt_size e
  | tbl ps => exact Heap.lt_size (show h.get? a = some _ from x)
  | met f y => exact Heap.lt_size (show h.get? a = some _ from x)
  | ext φ => obtain ⟨_, ⟨_, e⟩, _⟩ := x; exact Heap.lt_size e
theorem Paired.mapP {α β : Type} {F G : α → β → Prop} : ∀ {l₁ : List α} {l₂ : List β}, Paired F l₁ l₂ → (∀ a b, F a b → G a b) → Paired G l₁ l₂
  | _, _, .nil, _ => .nil
  | _, _, .cons r t, f => .cons (f _ _ r) (Paired.mapP t f)
/-- what an object's description leans on: its own object, its own dict, the tuples -/
theorem ObjOk.stay (x : ObjOk P w H h a o) (k : ∀ b u, (b = a ∨ H b = some (.own a)) → h.get? b = some u → h'.get? b = some u)
    (ho : ∀ b, H b = some (.own a) → H' b = some (.own a)) (ht : ∀ b xs, H b = some (.tup xs) → H' b = some (.tup xs)) : ObjOk P w H' h' a o := by
  induction o with
  | lst xs => obtain ⟨z, its, n, r, e⟩ := x; exact ⟨z, its, n, r, k _ _ (.inl rfl) e⟩
  | tup xs => obtain ⟨z, its, r, ob, e, c⟩ := x; exact ⟨z, its, r, ob, k _ _ (.inl rfl) e, c⟩
  | dK kvs => obtain ⟨z, y, vs, r, ob, es, ep, e, c⟩ := x; exact ⟨z, y, vs, r, ob, es, ep, k _ _ (.inl rfl) e, c⟩
  | dT kvs =>
    obtain ⟨z, y, xs, r, ob, es, ep, e, c⟩ := x
    exact ⟨z, y, xs, Paired.mapP r fun p q z => ⟨z.1, ht _ _ z.2.1, z.2.2⟩, ob, es, ep, k _ _ (.inl rfl) e, c⟩
  | set S n => obtain ⟨ob, es, ep, t, e, c⟩ := x; exact ⟨ob, es, ep, t, k _ _ (.inl rfl) e, c⟩
  | ins C dx fs =>
    obtain ⟨d, z, ne, e, mA, ⟨od, es, ep, e2, c⟩, r⟩ := x
    exact ⟨ho _ d, z, ne, k _ _ (.inl rfl) e, mA, ⟨od, es, ep, k _ _ (.inr d) e2, c⟩, r⟩
  | own y => obtain ⟨ob, e⟩ := x; exact ⟨ob, k _ _ (.inl rfl) e⟩
  | xd fs => obtain ⟨mA, ⟨od, es, ep, e, c⟩, r⟩ := x; exact ⟨mA, ⟨od, es, ep, k _ _ (.inl rfl) e, c⟩, r⟩
  | rng lo hi => obtain ⟨t, u, v, e⟩ := x; exact ⟨t, u, v, k _ _ (.inl rfl) e⟩
  | frz ob u ih => obtain ⟨e, q⟩ := x; exact ⟨k _ _ (.inl rfl) e, ih q⟩
  | tbl ps =>
    have e : h.get? a = some { cls := .none, data := .fields ps } := x
    show h'.get? a = some { cls := .none, data := .fields ps }
    exact k a _ (.inl rfl) e
  | met f y =>
    have e : h.get? a = some (PySem.W.methodObj (.ref f) (.ref y)) := x
    show h'.get? a = some (PySem.W.methodObj (.ref f) (.ref y))
    exact k a _ (.inl rfl) e
  | ext φ => obtain ⟨p, ⟨o, e⟩, st⟩ := x; exact ⟨st _ _ p fun o q => k _ _ (.inl rfl) q, ⟨o, k _ _ (.inl rfl) e⟩, st⟩
theorem HOk.lt (x : HOk P w H h) (e : H a = some o) : a < h.objs.size := (x a o e).lt
theorem HOk.fresh (x : HOk P w H h) (e : h.objs.size ≤ a) : H a = none := by
  cases q : H a with
  | none => rfl
  | some u => exact absurd (Nat.lt_of_lt_of_le (x.lt q) e) (Nat.lt_irrefl _)
/-- every object of the heap is kept -/
theorem HOk.kept (x : HOk P w H h) (k : ∀ b u, h.get? b = some u → h'.get? b = some u) : HOk P w H h' := fun a o e =>
  (x a o e).stay (fun b u _ q => k b u q) (fun _ q => q) fun _ _ q => q
/-- a new object is laid and tracked -/
theorem HOk.laid (x : HOk P w H h) (k : ∀ b u, h.get? b = some u → h'.get? b = some u) (hp : h.objs.size ≤ a) (new : ObjOk P w (upd H a o) h' a o) : HOk P w (upd H a o) h' := fun b u e => by
  have hn := x.fresh hp
  by_cases hb : b = a
  · subst hb; rw [upd_same] at e; cases e; exact new
  · rw [upd_ne hb] at e
    exact (x b u e).stay (fun c v _ q => k c v q) (fun c q => by rw [upd_ne (ne_of_none q hn)]; exact q) fun c xs q => by rw [upd_ne (ne_of_none q hn)]; exact q
end

/-- what may be read as u: it is u, or a known u -/
def Rd (H : Hp) (a : Addr) (u : HO) : Prop := H a = some u ∨ ∃ o, H a = some (.frz o u)
theorem Rd.ok {P : Program} {w : World} {H : Hp} {h : Heap} {a : Addr} {u : HO} (r : Rd H a u) (x : HOk P w H h) : ObjOk P w H h a u := by
  rcases r with r | ⟨o, r⟩
  · exact x a u r
  · obtain ⟨_, q⟩ := x a _ r
    exact q
/-- what may be written -/
def Mut : Option HO → Prop
  | some (.lst _) => True
  | some (.dK _) => True
  | some (.dT _) => True
  | some (.set _ _) => True
  | some (.ins _ _ _) => True
  | some (.ext _) => True
  | _ => False
section
variable {P : Program} {w : World} {H : Hp} {h h' : Heap} {x e : Addr} {o' : HO}
/-- the object at e is changed: x itself, or the dict of the instance x -/
theorem HOk.write (ok : HOk P w H h) (mu : Mut (H x)) (he : e = x ∨ H e = some (.own x)) (k : ∀ b u, b ≠ e → h.get? b = some u → h'.get? b = some u) (heo : ∃ u, h'.get? e = some u)
    (new : ObjOk P w (upd H x o') h' x o') : HOk P w (upd H x o') h' := fun b u q => by
  have nown : ∀ c y, H c = some (.own y) → c ≠ x := fun c y r z => by subst z; rw [r] at mu; exact mu
  have ntup : ∀ c xs, H c = some (.tup xs) → c ≠ x := fun c xs r z => by subst z; rw [r] at mu; exact mu
  by_cases hb : b = x
  · subst hb; rw [upd_same] at q; cases q; exact new
  · rw [upd_ne hb] at q
    by_cases hbe : b = e
    · have q' : H b = some (.own x) := by
        rcases he with z | z
        · exact absurd (hbe.trans z) hb
        · rw [hbe]; exact z
      rw [q] at q'; cases q'
      obtain ⟨v, hv⟩ := heo
      exact ⟨v, by rw [hbe]; exact hv⟩
    · refine (ok b u q).stay (fun c v hc r => k c v ?_ r) (fun c r => by rw [upd_ne (nown c b r)]; exact r) fun c xs r => by rw [upd_ne (ntup c xs r)]; exact r
      rcases hc with rfl | hc
      · exact hbe
      · rintro rfl
        rcases he with z | z
        · exact nown c b hc z
        · rw [hc] at z; cases z; exact hb rfl
end

/-! ### kept unless tracked; of the frames at fs (the callers') the slots may change (an exception that passes writes there); of the records at ex (iterators) nothing is said -/
structure Un (fs ex : List Addr) (H H' : Hp) (h h' : Heap) : Prop where
  keep : ∀ b o, h.get? b = some o → H b = none → b ∉ fs → b ∉ ex → h'.get? b = some o
  slot : ∀ b o, h.get? b = some o → H b = none → b ∈ fs → b ∉ ex → ∃ sl, h'.get? b = some { o with slots := sl }
  free : ∀ b o, h.get? b = some o → H b = none → b ∉ ex → H' b = none
  there : ∀ b o, h.get? b = some o → b ∉ ex → ∃ o', h'.get? b = some o'
  tups : ∀ b xs, H b = some (.tup xs) → H' b = some (.tup xs)
  frzs : ∀ b o u, H b = some (.frz o u) → H' b = some (.frz o u)
  tbls : ∀ b ps, H b = some (.tbl ps) → ∃ more, H' b = some (.tbl (ps ++ more))
section
variable {fs fs' ex ex' : List Addr} {H H1 H2 : Hp} {h h1 h2 h' : Heap} {a x e : Addr} {o : HO}
theorem Un.any (u : Un fs ex H H1 h h1) {b : Addr} {ob : Obj} (q : h.get? b = some ob) (n : H b = none) (hx : b ∉ ex) : ∃ sl, h1.get? b = some { ob with slots := sl } := by
  by_cases hb : b ∈ fs
  · exact u.slot b ob q n hb hx
  · exact ⟨ob.slots, u.keep b ob q n hb hx⟩
theorem Un.kept (k : ∀ b u, h.get? b = some u → h'.get? b = some u) : Un fs ex H H h h' :=
  ⟨fun b ob q _ _ _ => k b ob q, fun b ob q _ _ _ => ⟨ob.slots, k b ob q⟩, fun _ _ _ n _ => n, fun b ob q _ => ⟨ob, k b ob q⟩, fun _ _ q => q, fun _ _ _ q => q, fun _ ps q => ⟨#[], by rw [q]; simp⟩⟩
theorem Un.refl : Un fs ex H H h h := Un.kept fun _ _ q => q
theorem Un.laid (k : ∀ b u, h.get? b = some u → h'.get? b = some u) (hp : h.objs.size ≤ a) (hn : H a = none) : Un fs ex H (upd H a o) h h' where
  keep := fun b u q _ _ _ => k b u q
  slot := fun b u q _ _ _ => ⟨u.slots, k b u q⟩
  free := fun b u q n _ => by rw [upd_ne (Nat.ne_of_lt (Nat.lt_of_lt_of_le (Heap.lt_size q) hp))]; exact n
  there := fun b u q _ => ⟨u, k b u q⟩
  tups := fun b xs q => by rw [upd_ne (ne_of_none q hn)]; exact q
  frzs := fun b u xs q => by rw [upd_ne (ne_of_none q hn)]; exact q
  tbls := fun b ps q => ⟨#[], by rw [upd_ne (ne_of_none q hn), q]; simp⟩
theorem Un.write (mu : Mut (H x)) (he : e = x ∨ H e = some (.own x)) (k : ∀ b u, b ≠ e → h.get? b = some u → h'.get? b = some u) (heo : ∃ u, h'.get? e = some u) : Un fs ex H (upd H x o) h h' := by
  have hx : ∀ b, H b = none → b ≠ x := fun b n z => by subst z; rw [n] at mu; exact mu
  have hb : ∀ b, H b = none → b ≠ e := fun b n z => by
    subst z
    rcases he with r | r
    · exact hx b n r
    · rw [n] at r; cases r
  have hm : ∀ b u, H b = some u → ¬ Mut (some u) → b ≠ x := fun b u q nm z => by subst z; rw [q] at mu; exact nm mu
  refine ⟨fun b u q n _ _ => k b u (hb b n) q, fun b u q n _ _ => ⟨u.slots, k b u (hb b n) q⟩, fun b u q n _ => by rw [upd_ne (hx b n)]; exact n, fun b u q _ => ?_,
    fun b xs q => by rw [upd_ne (hm b _ q fun z => z)]; exact q, fun b u xs q => by rw [upd_ne (hm b _ q fun z => z)]; exact q, fun b ps q => ⟨#[], by rw [upd_ne (hm b _ q fun z => z), q]; simp⟩⟩
  by_cases hbe : b = e
  · subst hbe; exact heo
  · exact ⟨u, k b u hbe q⟩
end

/-! ### the heap without what is tracked -/
def trk (h : Heap) (H : Hp) : List Addr := (List.range h.objs.size).filter fun a => (H a).isSome
def hidT (h : Heap) (H : Hp) : Heap := PySem.W.hideAll h (trk h H)
theorem hidT_size (h : Heap) (H : Hp) : (hidT h H).objs.size = h.objs.size := PySem.W.hideAll_size _ _
theorem hidT_get {h : Heap} {H : Hp} {b : Addr} {o : Obj} (e : h.get? b = some o) (n : H b = none) : (hidT h H).get? b = some o :=
  PySem.W.hideAll_get _ e fun hm => by
    have q : (H b).isSome = true := (List.mem_filter.mp hm).2
    rw [n] at q; simp at q
theorem of_hidT {h : Heap} {H : Hp} {b : Addr} {o : Obj} (e : (hidT h H).get? b = some o) : h.get? b = some o ∧ H b = none := by
  have e' : h.get? b = some o := PySem.W.of_hideAll (trk h H) e
  refine ⟨e', ?_⟩
  cases q : H b with
  | none => rfl
  | some x =>
    have hm : b ∈ trk h H := List.mem_filter.mpr ⟨List.mem_range.mpr (Heap.lt_size e'), by simp [q]⟩
    have z : (hidT h H).get? b = none := PySem.W.hideAll_none (trk h H) hm
    rw [z] at e; cases e

/-! ### OpenK's ledger, filled with every new object but one -/
def allNews (g h : Heap) (L : Addr) : List (Addr × Obj) := (List.range h.objs.size).filterMap fun a => if a = L ∨ (g.get? a).isSome = true then none else (h.get? a).map fun o => (a, o)
def rest (g h : Heap) (L d : Addr) : List (Addr × Obj) := (allNews g h L).filter fun p => decide (p.1 ≠ d)
end L2

namespace L2
open PySem PySem.Spec PyProof.Rows

/-- the module's facts, over the base: the heap at the law's entry without what is tracked there -/
structure Mod (K : PySem.W.Frag) (mg : Str → Option Value) (base : Heap) : Prop where
  kin : K.In base
  glob : base.Ns mainGlobals mg
  blt : ∃ mb, base.Ns builtinsNs mb ∧ ∀ x : Str, x ≠ "__name__" → mb x = bootBuiltins x
  nolimit : base.NoLimit

/-- the context: a def's body (or a comprehension's block) running. base: fixed through the whole law; s₀, H₀: the entry; outer: the frames whose slots others may change (a def's callers); stack: all frames that run;
   ex: iterators that were made ahead of the entry and are walked here (a comprehension's); fn: the names whose cells were made at the entry (a def: all; a comprehension's block: its own); calm: not within an except suite; pn: pins that every state bears; xe: what is wanted of an exception that leaves the code -/
structure Cx where
  prog : Program
  w : World
  K : PySem.W.Frag
  mg : Str → Option Value
  base : Heap
  A : Around
  N : List Str
  s₀ : Shared
  H₀ : Hp
  env : Env
  outer : List Env
  stack : List Env
  ex : List Addr
  fn : Str → Bool
  calm : Bool
  pn : List (Addr × Obj)
  xe : Value → Shared → Prop
/-- the callers' frames -/
def frs (l : List Env) : List Addr := l.filterMap (·.frame)
abbrev Cx.fs (X : Cx) : List Addr := frs X.outer

def Vis (sc : Scope) (x : Str) : Prop := sc.names.lookup x = some .local ∨ sc.names.lookup x = some .cell ∨ sc.names.lookup x = some .free
def Loc (sc : Scope) (x : Str) : Prop := sc.names.lookup x = some .local ∨ sc.names.lookup x = some .cell
def Look (env : Env) (h : Heap) (m : Str → Option Value) (x : Str) (u : Value) : Prop :=
  (env.kindOf x = some .local ∧ m x = some u) ∨ ((env.kindOf x = some .cell ∨ env.kindOf x = some .free) ∧ ∃ c, env.cells.lookup x = some c ∧ h.IsCell c (some u))

structure Cx.Ok (X : Cx) : Prop where
  mod : Mod X.K X.mg X.base
  kind : X.env.scope.kind = .function
  glob : X.env.globals = mainGlobals
  blt : X.env.builtins = builtinsNs
  above : X.s₀.heap.objs.size ≤ X.env.locals
  inj : ∀ x y c, X.env.cells.lookup x = some c → X.env.cells.lookup y = some c → x = y
  has : ∀ x, (X.env.kindOf x = some .cell ∨ X.env.kindOf x = some .free) → ∃ c, X.env.cells.lookup x = some c
  cab : ∀ x c, X.fn x = true → X.env.cells.lookup x = some c → X.s₀.heap.objs.size ≤ c
  hd : X.calm = true → X.A.handled = none
  frames : X.A.frames = some X.stack
  stk : X.stack = X.outer ∨ (X.stack = X.env :: X.outer ∧ X.env.frame = some X.env.locals)
  exf : ∀ b ∈ X.ex, b ≠ X.env.locals ∧ ∀ x c, X.env.cells.lookup x = some c → c ≠ b
  bs : ∀ b o, X.base.get? b = some o → X.s₀.heap.get? b = some o ∧ X.H₀ b = none
  bsz : X.base.objs.size ≤ X.s₀.heap.objs.size
  noex : ∀ b o, X.base.get? b = some o → b ∉ X.ex
  exfs : ∀ b ∈ X.ex, b ∉ X.fs
  funs : X.s₀.heap.FunFrames X.base X.outer
  frf : ∀ b ∈ X.fs, X.H₀ b = none

structure Inv (X : Cx) (pins : List (Addr × Obj)) (σ : List (Option V)) (H : Hp) (s : Shared) : Prop where
  ok : X.Ok
  os : s.os = X.s₀.os
  bare : AllBare s.gens
  base : Un X.fs X.ex X.H₀ H X.s₀.heap s.heap
  loc : ∃ m, s.heap.Ns X.env.locals m ∧ ∀ (i : Nat) (x : Str) (v : V), X.N[i]? = some x → σ[i]? = some (some v) → Vis X.env.scope x → ∃ u, RelV v u ∧ Look X.env s.heap m x u
  cell : ∀ x c, X.env.cells.lookup x = some c → ∃ v, s.heap.IsCell c v
  free : H X.env.locals = none
  freeC : ∀ x c, X.env.cells.lookup x = some c → H c = none
  pin : ∀ p ∈ X.pn ++ pins, s.heap.get? p.1 = some p.2 ∧ H p.1 = none ∧ p.1 ≠ X.env.locals ∧ p.1 ∉ X.fs ∧ ∀ v, p.2.data ≠ .cell v
  hok : HOk X.prog X.w H s.heap
  len : σ.length = X.N.length

section
variable {X : Cx} {pins : List (Addr × Obj)} {σ : List (Option V)} {H H' : Hp} {s : Shared} {h' : Heap}

theorem Cx.Ok.nofr (ok : X.Ok) {b : Addr} {o : Obj} (e : X.base.get? b = some o) : b ∉ X.fs := fun hb => by
  have := (ok.funs.mem hb).1
  rw [e] at this; cases this
theorem Inv.bs (I : Inv X pins σ H s) : ∀ b o, X.base.get? b = some o → s.heap.get? b = some o ∧ H b = none := fun b o e =>
  ⟨I.base.keep b o (I.ok.bs b o e).1 (I.ok.bs b o e).2 (I.ok.nofr e) (I.ok.noex b o e), I.base.free b o (I.ok.bs b o e).1 (I.ok.bs b o e).2 (I.ok.noex b o e)⟩
theorem Inv.bk (I : Inv X pins σ H s) : ∀ b o, X.base.get? b = some o → s.heap.get? b = some o := fun b o e => (I.bs b o e).1
theorem Inv.mod (I : Inv X pins σ H s) : Mod X.K X.mg X.base := I.ok.mod
theorem Inv.kIn (I : Inv X pins σ H s) : X.K.In s.heap := I.ok.mod.kin.keeps I.bk
/-- the frame over the base: for OpenK's rules (K.In X.base is I.mod.kin) -/
theorem Inv.fr (I : Inv X pins σ H s) : ∃ m, Fr X.base X.env.locals s.heap m :=
  let ⟨m, hn, _⟩ := I.loc
  ⟨m, hn, I.bk, Nat.le_trans I.ok.bsz I.ok.above⟩
theorem Inv.lt (I : Inv X pins σ H s) : X.env.locals < s.heap.objs.size := let ⟨_, hn, _⟩ := I.loc; hn.lt
theorem Inv.sz (I : Inv X pins σ H s) : X.s₀.heap.objs.size ≤ s.heap.objs.size := Nat.le_trans I.ok.above (Nat.le_of_lt I.lt)
theorem Inv.nofs (I : Inv X pins σ H s) {a : Addr} (h : s.heap.objs.size ≤ a) : a ∉ X.fs := fun hb => by
  obtain ⟨_, o, ho, _⟩ := I.ok.funs.mem hb
  exact absurd (Nat.lt_of_lt_of_le (Heap.lt_size ho) (Nat.le_trans I.sz h)) (Nat.lt_irrefl _)
theorem Inv.cne (I : Inv X pins σ H s) : ∀ x c, X.env.cells.lookup x = some c → c ≠ X.env.locals := fun x c e z => by
  obtain ⟨v, o, ho, hd⟩ := I.cell x c e
  obtain ⟨m, ⟨o', es, ep, ho', hd', _⟩, _⟩ := I.loc
  rw [z, ho'] at ho; cases ho; rw [hd'] at hd; cases hd
theorem Inv.funs (I : Inv X pins σ H s) : s.heap.FunFrames X.base X.outer := by
  have all : ∀ (l : List Env), (∀ b ∈ frs l, b ∈ X.fs) → X.s₀.heap.FunFrames X.base l → s.heap.FunFrames X.base l := by
    intro l
    induction l with
    | nil => intro _ _; trivial
    | cons env r ih =>
      intro hs hl
      obtain ⟨hk, ⟨L, o, hf, hn, ho, hd⟩, hr⟩ := hl
      have hL : L ∈ X.fs := hs L (by unfold frs; rw [List.filterMap_cons, hf]; exact List.mem_cons_self)
      obtain ⟨sl, e⟩ := I.base.slot L o ho (I.ok.frf L hL) hL fun z => I.ok.exfs L z hL
      exact ⟨hk, ⟨L, _, hf, hn, e, hd⟩, ih (fun b hb => hs b (by unfold frs; rw [List.filterMap_cons, hf]; exact List.mem_cons_of_mem _ hb)) hr⟩
  exact all X.outer (fun _ hb => hb) I.ok.funs

/-- the frames that run, for a call -/
theorem Inv.stack (I : Inv X pins σ H s) : s.heap.FunFrames X.base X.stack := by
  rcases I.ok.stk with e | ⟨e, hf⟩
  · rw [e]; exact I.funs
  · rw [e]
    obtain ⟨m, hn, _⟩ := I.loc
    refine .cons (by rw [I.ok.kind]; decide) hf hn ?_ I.funs
    exact Heap.get?_none_of_le (Nat.le_trans I.ok.bsz I.ok.above)
theorem Inv.stkSub (I : Inv X pins σ H s) : ∀ b ∈ frs X.stack, b ∈ X.env.locals :: X.fs := fun b hb => by
  rcases I.ok.stk with e | ⟨e, hf⟩
  · rw [e] at hb; exact List.mem_cons_of_mem _ hb
  · rw [e] at hb
    unfold frs at hb
    rw [List.filterMap_cons, hf] at hb
    exact hb
theorem Inv.stkFree (I : Inv X pins σ H s) : ∀ b ∈ frs X.stack, H b = none := fun b hb => by
  rcases List.mem_cons.mp (I.stkSub b hb) with e | hb
  · rw [e]; exact I.free
  · obtain ⟨_, o, ho, _⟩ := I.ok.funs.mem hb
    exact I.base.free b o ho (I.ok.frf b hb) fun z => I.ok.exfs b z hb

/-- THE STEP: the untracked objects but the frame and the records at ch are kept (the callers' frames up to slots), the frame's map is kept, the new abstract heap is held -/
theorem Inv.step {g' : Array GenState} {t' : Nat} {d' : Drawn} {ch : List Addr} (I : Inv X pins σ H s)
    (hch : ∀ b ∈ ch, (b ∈ X.ex ∨ X.s₀.heap.objs.size ≤ b) ∧ b ≠ X.env.locals ∧ (∀ x c, X.env.cells.lookup x = some c → c ≠ b) ∧ ∀ p ∈ X.pn ++ pins, p.1 ≠ b)
    (keep : ∀ b o, b ≠ X.env.locals → b ∉ X.fs → b ∉ ch → s.heap.get? b = some o → H b = none → h'.get? b = some o)
    (slot : ∀ b o, b ≠ X.env.locals → b ∈ X.fs → b ∉ ch → s.heap.get? b = some o → H b = none → ∃ sl, h'.get? b = some { o with slots := sl }) (free : ∀ b o, b ∉ ch → s.heap.get? b = some o → H b = none → H' b = none)
    (there : ∀ b o, b ∉ ch → s.heap.get? b = some o → ∃ o', h'.get? b = some o')
    (tups : ∀ b xs, H b = some (.tup xs) → H' b = some (.tup xs)) (frzs : ∀ b o u, H b = some (.frz o u) → H' b = some (.frz o u)) (tbls : ∀ b ps, H b = some (.tbl ps) → ∃ more, H' b = some (.tbl (ps ++ more)))
    (ns : ∀ m, s.heap.Ns X.env.locals m → h'.Ns X.env.locals m) (hok : HOk X.prog X.w H' h') (hg : AllBare g') :
    Inv X pins σ H' { s with heap := h', gens := g', drawn := d', toks := t' } := by
  have neL : ∀ b o, X.s₀.heap.get? b = some o → b ≠ X.env.locals := fun b o e => Nat.ne_of_lt (Nat.lt_of_lt_of_le (Heap.lt_size e) I.ok.above)
  have neC : ∀ b o, X.s₀.heap.get? b = some o → b ∉ X.ex → b ∉ ch := fun b o e hx hb => by
    rcases (hch b hb).1 with z | z
    · exact hx z
    · exact absurd (Nat.lt_of_lt_of_le (Heap.lt_size e) z) (Nat.lt_irrefl _)
  have cellK : ∀ x c, X.env.cells.lookup x = some c → ∀ v, s.heap.IsCell c v → h'.IsCell c v := fun x c e v ⟨o, ho, hd⟩ => by
    have nch : c ∉ ch := fun z => (hch c z).2.2.1 x c e rfl
    by_cases hc : c ∈ X.fs
    · obtain ⟨sl, q⟩ := slot c o (I.cne x c e) hc nch ho (I.freeC x c e)
      exact ⟨_, q, hd⟩
    · exact ⟨o, keep c o (I.cne x c e) hc nch ho (I.freeC x c e), hd⟩
  refine ⟨I.ok, I.os, hg, ⟨fun b o e n hb hx => ?_, fun b o e n hb hx => ?_, fun b o e n hx => ?_, fun b o e hx => ?_, fun b xs e => tups b xs (I.base.tups b xs e), fun b o xs e => frzs b o xs (I.base.frzs b o xs e), fun b ps e => ?_⟩, ?_, fun x c e => ?_, ?_, fun x c e => ?_, fun p hp => ?_, hok, I.len⟩
  · exact keep b o (neL b o e) hb (neC b o e hx) (I.base.keep b o e n hb hx) (I.base.free b o e n hx)
  · obtain ⟨sl, e1⟩ := I.base.slot b o e n hb hx
    obtain ⟨sl', e2⟩ := slot b _ (neL b o e) hb (neC b o e hx) e1 (I.base.free b o e n hx)
    exact ⟨sl', e2⟩
  · obtain ⟨o', e1⟩ := I.base.there b o e hx
    exact free b o' (neC b o e hx) e1 (I.base.free b o e n hx)
  · obtain ⟨o', e1⟩ := I.base.there b o e hx
    exact there b o' (neC b o e hx) e1
  · obtain ⟨m1, e1⟩ := I.base.tbls b ps e
    obtain ⟨m2, e2⟩ := tbls b _ e1
    exact ⟨m1 ++ m2, by rw [e2, Array.append_assoc]⟩
  · obtain ⟨m, hn, hl⟩ := I.loc
    refine ⟨m, ns m hn, fun i x v e1 e2 e3 => ?_⟩
    obtain ⟨u, r, l⟩ := hl i x v e1 e2 e3
    refine ⟨u, r, ?_⟩
    rcases l with l | ⟨k, c, e, z⟩
    · exact .inl l
    · exact .inr ⟨k, c, e, cellK x c e _ z⟩
  · obtain ⟨v, z⟩ := I.cell x c e
    exact ⟨v, cellK x c e v z⟩
  · obtain ⟨m, ⟨o, _, _, ho, _⟩, _⟩ := I.loc
    exact free _ o (fun z => (hch _ z).2.1 rfl) ho I.free
  · obtain ⟨v, o, ho, hd⟩ := I.cell x c e
    exact free c o (fun z => (hch c z).2.2.1 x c e rfl) ho (I.freeC x c e)
  · obtain ⟨e, n, ne, nf, d⟩ := I.pin p hp
    have nch : p.1 ∉ ch := fun z => (hch p.1 z).2.2.2 p hp rfl
    exact ⟨keep p.1 p.2 ne nf nch e n, free p.1 p.2 nch e n, ne, nf, d⟩
/-- .. where the frame's own object is kept too -/
theorem Inv.un {t' : Nat} (I : Inv X pins σ H s) (u : Un X.fs [] H H' s.heap h') (hok : HOk X.prog X.w H' h') : Inv X pins σ H' { s with heap := h', toks := t' } := by
  obtain ⟨m, ⟨o, es, ep, ho, r⟩, _⟩ := id I.loc
  obtain ⟨sl, hL⟩ := u.any ho I.free (by simp)
  exact I.step (g' := s.gens) (d' := s.drawn) (ch := []) (fun _ z => nomatch z) (fun b o _ hb _ e n => u.keep b o e n hb (by simp)) (fun b o _ hb _ e n => u.slot b o e n hb (by simp)) (fun b o _ e n => u.free b o e n (by simp)) (fun b o _ e => u.there b o e (by simp)) u.tups u.frzs u.tbls (fun m' hm => by
    obtain ⟨o', es', ep', ho', r'⟩ := hm
    rw [ho] at ho'; cases ho'
    exact ⟨_, es', ep', hL, r'⟩) hok I.bare
/-- behind a call (or a comprehension's block): the slots of this frame may have changed too, the records at ch may have turned -/
theorem Inv.call {g' : Array GenState} {t' : Nat} {d' : Drawn} {ch : List Addr} (I : Inv X pins σ H s) (u : Un (frs X.stack) ch H H' s.heap h') (hok : HOk X.prog X.w H' h') (hg : AllBare g')
    (hch : ∀ b ∈ ch, (b ∈ X.ex ∨ X.s₀.heap.objs.size ≤ b) ∧ b ≠ X.env.locals ∧ (∀ x c, X.env.cells.lookup x = some c → c ≠ b) ∧ ∀ p ∈ X.pn ++ pins, p.1 ≠ b) :
    Inv X pins σ H' { s with heap := h', gens := g', drawn := d', toks := t' } := by
  obtain ⟨m, ⟨o, es, ep, ho, r⟩, _⟩ := id I.loc
  obtain ⟨sl, hL⟩ := u.any ho I.free fun z => (hch _ z).2.1 rfl
  exact I.step (ch := ch) hch (fun b o hL hb hc e n => u.keep b o e n (fun z => (List.mem_cons.mp (I.stkSub b z)).elim hL hb) hc) (fun b o _ _ hc e n => u.any e n hc) (fun b o hc e n => u.free b o e n hc) (fun b o hc e => u.there b o e hc) u.tups u.frzs u.tbls (fun m' hm => by
    obtain ⟨o', es', ep', ho', r'⟩ := hm
    rw [ho] at ho'; cases ho'
    exact ⟨_, es', ep', hL, r'⟩) hok hg
/-- an untracked record of ours (an iterator) has turned -/
theorem Inv.turned {t' : Nat} {it : Addr} (I : Inv X pins σ H s) (k : ∀ b o, b ≠ it → s.heap.get? b = some o → h'.get? b = some o) (hn : H it = none) (hL : it ≠ X.env.locals)
    (h1 : it ∈ X.ex ∨ X.s₀.heap.objs.size ≤ it) (h2 : ∀ x c, X.env.cells.lookup x = some c → c ≠ it) (h3 : ∀ p ∈ X.pn ++ pins, p.1 ≠ it) : Inv X pins σ H { s with heap := h', toks := t' } := by
  have nit : ∀ b u, H b = some u → b ≠ it := fun b u e z => by rw [z, hn] at e; cases e
  refine I.step (g' := s.gens) (d' := s.drawn) (ch := [it]) (fun b hb => ?_) (fun b o _ _ hc e _ => k b o (fun z => hc (by simp [z])) e) (fun b o _ _ hc e _ => ⟨o.slots, k b o (fun z => hc (by simp [z])) e⟩) (fun _ _ _ _ n => n)
    (fun b o hc e => ⟨o, k b o (fun z => hc (by simp [z])) e⟩) (fun _ _ e => e) (fun _ _ _ e => e) (fun b ps e => ⟨#[], by rw [e]; simp⟩) (fun m hm => ?_) (fun b u e => ?_) I.bare
  · have e : b = it := by simpa using hb
    subst e
    exact ⟨h1, hL, h2, h3⟩
  · obtain ⟨o, es, ep, ho, r⟩ := hm
    exact ⟨o, es, ep, k _ o (Ne.symm hL) ho, r⟩
  · refine (I.hok b u e).stay (fun c v hc q => k c v ?_ q) (fun _ q => q) fun _ _ q => q
    rcases hc with z | z
    · rw [z]; exact nit b u e
    · exact nit c _ z
theorem Inv.tok (I : Inv X pins σ H s) (t : Nat) : Inv X pins σ H { s with toks := t } := I.un (h' := s.heap) (t' := t) Un.refl I.hok
/-- all objects kept -/
theorem Inv.kept {t' : Nat} (I : Inv X pins σ H s) (k : ∀ b u, s.heap.get? b = some u → h'.get? b = some u) : Inv X pins σ H { s with heap := h', toks := t' } := I.un (Un.kept k) (I.hok.kept k)
/-- a new object laid and tracked -/
theorem Inv.laid {a : Addr} {o : HO} {t' : Nat} (I : Inv X pins σ H s) (k : ∀ b u, s.heap.get? b = some u → h'.get? b = some u) (hp : s.heap.objs.size ≤ a) (new : ObjOk X.prog X.w (upd H a o) h' a o) :
    Inv X pins σ (upd H a o) { s with heap := h', toks := t' } := I.un (Un.laid k hp (I.hok.fresh hp)) (I.hok.laid k hp new)
/-- an object written -/
theorem Inv.write {x e : Addr} {o : HO} {t' : Nat} (I : Inv X pins σ H s) (mu : Mut (H x)) (he : e = x ∨ H e = some (.own x)) (k : ∀ b u, b ≠ e → s.heap.get? b = some u → h'.get? b = some u) (heo : ∃ u, h'.get? e = some u)
    (new : ObjOk X.prog X.w (upd H x o) h' x o) : Inv X pins σ (upd H x o) { s with heap := h', toks := t' } := I.un (Un.write mu he k heo) (I.hok.write mu he k heo new)
/-- forgetting slots, pins -/
theorem Inv.weak {σ' : List (Option V)} (I : Inv X pins σ H s) (hl : σ'.length = σ.length) (w : ∀ (i : Nat) v, σ'[i]? = some (some v) → σ[i]? = some (some v)) : Inv X pins σ' H s :=
  ⟨I.ok, I.os, I.bare, I.base, let ⟨m, hn, hl'⟩ := I.loc; ⟨m, hn, fun i x v e1 e2 e3 => hl' i x v e1 (w i v e2) e3⟩, I.cell, I.free, I.freeC, I.pin, I.hok, hl.trans I.len⟩
theorem Inv.pins_of {pins' : List (Addr × Obj)} (I : Inv X pins σ H s) (h : ∀ p ∈ pins', s.heap.get? p.1 = some p.2 ∧ H p.1 = none ∧ p.1 ≠ X.env.locals ∧ p.1 ∉ X.fs ∧ ∀ v, p.2.data ≠ .cell v) : Inv X pins' σ H s :=
  ⟨I.ok, I.os, I.bare, I.base, I.loc, I.cell, I.free, I.freeC, fun p hp => (List.mem_append.mp hp).elim (fun z => I.pin p (List.mem_append_left _ z)) (h p), I.hok, I.len⟩

theorem nodup_ix {N : List Str} (hN : N.Nodup) {i j : Nat} {x : Str} (a : N[i]? = some x) (b : N[j]? = some x) : i = j := by
  obtain ⟨h1, e1⟩ := List.getElem?_eq_some_iff.mp a
  obtain ⟨h2, e2⟩ := List.getElem?_eq_some_iff.mp b
  exact (List.getElem_inj hN).mp (e1.trans e2.symm)

/-- a name is stored; what changed -/
theorem store_ok2 {M : Model} {A : Around} {E : Value → Shared → Prop} {i : Nat} {x : Str} {v : V} {u : Value} {Q : Unit → Shared → Prop} (I : Inv X pins σ H s) (hN : X.N.Nodup) (hi : X.N[i]? = some x) (hx : Loc X.env.scope x) (r : RelV v u)
    (h : ∀ s', Inv X pins (σ.set i (some v)) H s' → (∃ a, Heap.SameBut a s.heap s'.heap ∧ (a = X.env.locals ∨ X.env.cells.lookup x = some a)) → Q () s') (hf : X.fn x = true ∨ X.env.scope.names.lookup x = some .local := by first | exact .inl rfl | exact .inr rfl | assumption) : wpAny M A (storeName X.env x u) Q E s := by
  obtain ⟨m, hn, hl⟩ := id I.loc
  have hcls : (X.env.scope.kind == .class || (X.env.scope.kind == .module && X.env.locals != X.env.globals)) = false := by rw [I.ok.kind]; rfl
  have hiσ : i < σ.length := by rw [I.len]; exact (List.getElem?_eq_some_iff.mp hi).1
  have cne := I.cne
  have tracked : ∀ {a : Addr} {h' : Heap}, (∃ o, s.heap.get? a = some o ∧ H a = none) → Heap.SameBut a s.heap h' → HOk X.prog X.w H h' := fun {a h'} ha hs b ob e => by
    obtain ⟨_, _, hfree⟩ := ha
    refine (I.hok b ob e).stay (fun c w' hc q => (hs.2 c ?_).trans q) (fun _ q => q) fun _ _ q => q
    rintro rfl
    rcases hc with rfl | hc
    · rw [hfree] at e; cases e
    · rw [hfree] at hc; cases hc
  rcases hx with hk | hk
  · refine wpAny_storeName_local hk hn (fun h' hn' hs => ?_) hcls
    obtain ⟨oL, _, _, hoL, _⟩ := id hn
    refine h _ ⟨I.ok, I.os, I.bare, ⟨fun b o e n hb hx => ?_, fun b o e n hb hx => ?_, I.base.free, fun b o e hx => ?_, I.base.tups, I.base.frzs, I.base.tbls⟩, ⟨_, hn', fun j y v' e1 e2 e3 => ?_⟩, fun y c e => ?_, I.free, I.freeC, fun p hp => ?_, tracked ⟨oL, hoL, I.free⟩ hs, by simpa using I.len⟩ ⟨_, hs, .inl rfl⟩
    · exact (hs.2 b (Nat.ne_of_lt (Nat.lt_of_lt_of_le (Heap.lt_size e) I.ok.above))).trans (I.base.keep b o e n hb hx)
    · obtain ⟨sl, e1⟩ := I.base.slot b o e n hb hx
      exact ⟨sl, (hs.2 b (Nat.ne_of_lt (Nat.lt_of_lt_of_le (Heap.lt_size e) I.ok.above))).trans e1⟩
    · obtain ⟨o', e1⟩ := I.base.there b o e hx
      exact ⟨o', (hs.2 b (Nat.ne_of_lt (Nat.lt_of_lt_of_le (Heap.lt_size e) I.ok.above))).trans e1⟩
    · by_cases hj : j = i
      · subst hj
        rw [hi] at e1; cases e1
        rw [List.getElem?_set_self hiσ] at e2
        cases e2
        exact ⟨u, r, .inl ⟨hk, by simp⟩⟩
      · rw [List.getElem?_set_ne (Ne.symm hj)] at e2
        obtain ⟨u', r', q⟩ := hl j y v' e1 e2 e3
        refine ⟨u', r', ?_⟩
        rcases q with ⟨k, e⟩ | ⟨k, c, e, z⟩
        · refine .inl ⟨k, ?_⟩
          have : y ≠ x := fun e => hj (nodup_ix hN e1 (e ▸ hi))
          simp [this, e]
        · exact .inr ⟨k, c, e, z.sameBut hs (cne y c e)⟩
    · obtain ⟨w', z⟩ := I.cell y c e
      exact ⟨w', z.sameBut hs (cne y c e)⟩
    · obtain ⟨e, n, ne, nf, d⟩ := I.pin p hp
      exact ⟨(hs.2 p.1 ne).trans e, n, ne, nf, d⟩
  · have hfn : X.fn x = true := by
      rcases hf with z | z
      · exact z
      · rw [z] at hk; cases hk
    obtain ⟨c, hc⟩ := I.ok.has x (.inl hk)
    obtain ⟨w', z⟩ := I.cell x c hc
    refine wpAny_storeName_cell I.ok.kind hk hc z (fun h' hc' hs => ?_)
    obtain ⟨oc, hoc, hocd⟩ := id z
    refine h { s with heap := h' } ⟨I.ok, I.os, I.bare, ⟨fun b o e n hb hx => ?_, fun b o e n hb hx => ?_, I.base.free, fun b o e hx => ?_, I.base.tups, I.base.frzs, I.base.tbls⟩, ⟨m, hn.sameBut hs (Ne.symm (cne x c hc)), fun j y v' e1 e2 e3 => ?_⟩, fun y c' e => ?_, I.free, I.freeC, fun p hp => ?_, tracked ⟨oc, hoc, I.freeC x c hc⟩ hs, by simpa using I.len⟩ ⟨c, hs, .inr hc⟩
    · exact (hs.2 b (Nat.ne_of_lt (Nat.lt_of_lt_of_le (Heap.lt_size e) (I.ok.cab x c hfn hc)))).trans (I.base.keep b o e n hb hx)
    · obtain ⟨sl, e1⟩ := I.base.slot b o e n hb hx
      exact ⟨sl, (hs.2 b (Nat.ne_of_lt (Nat.lt_of_lt_of_le (Heap.lt_size e) (I.ok.cab x c hfn hc)))).trans e1⟩
    · obtain ⟨o', e1⟩ := I.base.there b o e hx
      exact ⟨o', (hs.2 b (Nat.ne_of_lt (Nat.lt_of_lt_of_le (Heap.lt_size e) (I.ok.cab x c hfn hc)))).trans e1⟩
    · by_cases hj : j = i
      · subst hj
        rw [hi] at e1; cases e1
        rw [List.getElem?_set_self hiσ] at e2
        cases e2
        exact ⟨u, r, .inr ⟨.inl hk, c, hc, hc'⟩⟩
      · rw [List.getElem?_set_ne (Ne.symm hj)] at e2
        obtain ⟨u', r', q⟩ := hl j y v' e1 e2 e3
        refine ⟨u', r', ?_⟩
        rcases q with q | ⟨k, c', e, z'⟩
        · exact .inl q
        · refine .inr ⟨k, c', e, z'.sameBut hs ?_⟩
          rintro rfl
          exact hj (nodup_ix hN e1 (I.ok.inj _ _ _ e hc ▸ hi))
    · by_cases hcc : c' = c
      · subst hcc; exact ⟨_, hc'⟩
      · obtain ⟨w2, z2⟩ := I.cell y c' e
        exact ⟨w2, z2.sameBut hs hcc⟩
    · obtain ⟨e, n, ne, nf, d⟩ := I.pin p hp
      refine ⟨(hs.2 p.1 ?_).trans e, n, ne, nf, d⟩
      intro q
      rw [q, hoc] at e
      have q' : oc = p.2 := Option.some.inj e
      exact d w' (by rw [← q']; exact hocd)
theorem store_ok {M : Model} {A : Around} {E : Value → Shared → Prop} {i : Nat} {x : Str} {v : V} {u : Value} {Q : Unit → Shared → Prop} (I : Inv X pins σ H s) (hN : X.N.Nodup) (hi : X.N[i]? = some x) (hx : Loc X.env.scope x) (r : RelV v u)
    (h : ∀ s', Inv X pins (σ.set i (some v)) H s' → Q () s') (hf : X.fn x = true ∨ X.env.scope.names.lookup x = some .local := by first | exact .inl rfl | exact .inr rfl | assumption) : wpAny M A (storeName X.env x u) Q E s :=
  store_ok2 I hN hi hx r (fun s' I' _ => h s' I') hf
/-- behind a call or a block, the state as it is -/
theorem Inv.call' {s' : Shared} {ch : List Addr} (I : Inv X pins σ H s) (ho : s'.os = s.os) (u : Un (frs X.stack) ch H H' s.heap s'.heap) (hok : HOk X.prog X.w H' s'.heap) (hg : AllBare s'.gens)
    (hch : ∀ b ∈ ch, (b ∈ X.ex ∨ X.s₀.heap.objs.size ≤ b) ∧ b ≠ X.env.locals ∧ (∀ x c, X.env.cells.lookup x = some c → c ≠ b) ∧ ∀ p ∈ X.pn ++ pins, p.1 ≠ b) : Inv X pins σ H' s' := by
  obtain ⟨h', g', d', t', o'⟩ := s'
  have e : o' = s.os := ho
  subst e
  exact I.call (g' := g') (t' := t') (d' := d') u hok hg hch
end

/-! ### the judgements -/
/-- an exception: its class, its own dict's address (where it has one), the abstract heap behind it -/
abbrev XK := Value → Option Addr → Hp → Prop
abbrev St := List (Option V)
abbrev VK := V → Hp → Prop
/-- an expression's reading; a test's; an argument list's -/
abbrev TE := St → Hp → VK → Prop
abbrev TT := St → Hp → (Bool → Hp → Prop) → Prop
abbrev TA := St → Hp → (List V → Hp → Prop) → Prop
/-- what is wanted behind a statement -/
structure Ends where
  nx : St → Hp → Prop
  rt : VK
  bk : St → Hp → Prop := fun _ _ => False
  ct : St → Hp → Prop := fun _ _ => False
abbrev TS := Ends → St → Hp → Prop

def EP (X : Cx) (pins : List (Addr × Obj)) (σ : St) (Q : VK) (u : Value) (s' : Shared) : Prop := ∃ v H', Inv X pins σ H' s' ∧ RelV v u ∧ Q v H'
def TP (X : Cx) (pins : List (Addr × Obj)) (σ : St) (Q : Bool → Hp → Prop) (b : Bool) (s' : Shared) : Prop := ∃ H', Inv X pins σ H' s' ∧ Q b H'
def AP (X : Cx) (pins : List (Addr × Obj)) (σ : St) (Q : List V → Hp → Prop) (us : List Value) (s' : Shared) : Prop := ∃ vs H', Inv X pins σ H' s' ∧ Vals vs us ∧ Q vs H'
def SP (X : Cx) (pins : List (Addr × Obj)) (D : Ends) (f : Flow) (s' : Shared) : Prop :=
  match f with
  | .next => ∃ σ' H', Inv X pins σ' H' s' ∧ D.nx σ' H'
  | .brk => ∃ σ' H', Inv X pins σ' H' s' ∧ D.bk σ' H'
  | .cont => ∃ σ' H', Inv X pins σ' H' s' ∧ D.ct σ' H'
  | .ret u => ∃ v σ' H', Inv X pins σ' H' s' ∧ RelV v u ∧ D.rt v H'

def PE (X : Cx) (e : Expr) (t : TE) : Prop :=
  ∀ (pins : List (Addr × Obj)) (s : Shared) (σ : St) (H : Hp) (Q : VK), Inv X pins σ H s → t σ H Q → wpAny (model X.prog X.w) X.A (eval e X.env) (EP X pins σ Q) X.xe s
def PT (X : Cx) (e : Expr) (t : TT) : Prop :=
  ∀ (pins : List (Addr × Obj)) (s : Shared) (σ : St) (H : Hp) (Q : Bool → Hp → Prop), Inv X pins σ H s → t σ H Q → wpAny (model X.prog X.w) X.A (isTrue e X.env (eval e X.env)) (TP X pins σ Q) X.xe s
/-- a test whatever its 'whole' is (and, or) -/
def PW (X : Cx) (e : Expr) (t : TT) : Prop :=
  ∀ (whole : Sem Value) (pins : List (Addr × Obj)) (s : Shared) (σ : St) (H : Hp) (Q : Bool → Hp → Prop), Inv X pins σ H s → t σ H Q → wpAny (model X.prog X.w) X.A (isTrue e X.env whole) (TP X pins σ Q) X.xe s
theorem PW.pt {X : Cx} {e : Expr} {t : TT} (h : PW X e t) : PT X e t := h _
/-- an argument list (no star), from the left -/
def PA (X : Cx) (es : List Expr) (t : TA) : Prop :=
  ∀ (pos : Pos) (pins : List (Addr × Obj)) (s : Shared) (σ : St) (H : Hp) (Q : List V → Hp → Prop), Inv X pins σ H s → t σ H Q → wpAny (model X.prog X.w) X.A (spliced (backTo pos (starEach es X.env))) (AP X pins σ Q) X.xe s
def PS (X : Cx) (st : Stmt) (t : TS) : Prop :=
  ∀ (pins : List (Addr × Obj)) (s : Shared) (σ : St) (H : Hp) (D : Ends), Inv X pins σ H s → t D σ H → wpAny (model X.prog X.w) X.A (exec st X.env) (SP X pins D) X.xe s
def PSs (X : Cx) (st : List Stmt) (t : TS) : Prop :=
  ∀ (pins : List (Addr × Obj)) (s : Shared) (σ : St) (H : Hp) (D : Ends), Inv X pins σ H s → t D σ H → wpAny (model X.prog X.w) X.A (execs st X.env) (SP X pins D) X.xe s
/-- weaken the end -/
theorem thn {α : Type} {t : Sem α} {Q Q' : α → Shared → Prop} {M : Model} {A : Around} {E : Value → Shared → Prop} {s : Shared} (h : wpAny M A t Q E s) (hQ : ∀ a s, Q a s → Q' a s) : wpAny M A t Q' E s := wpAny_mono h hQ fun _ _ x => x
end L2

namespace L2
open PySem PySem.Spec PyProof.Rows
section
variable {X : Cx}

/-- two expressions in a row -/
theorem bin {a b : Expr} {ta tb : TE} (ha : PE X a ta) (hb : PE X b tb) {pins : List (Addr × Obj)} {s : Shared} {σ : St} {H : Hp} {R : V → V → Hp → Prop} (I : Inv X pins σ H s) (h : ta σ H fun x H1 => tb σ H1 fun y H2 => R x y H2)
    {α : Type} {Q : α → Shared → Prop} {f : Value → Value → Sem α}
    (hf : ∀ v u s2 x y H2, Inv X pins σ H2 s2 → RelV x v → RelV y u → R x y H2 → wpAny (model X.prog X.w) X.A (f v u) Q X.xe s2) :
    wpAny (model X.prog X.w) X.A (eval a X.env) (fun v s₁ => wpAny (model X.prog X.w) X.A (eval b X.env) (fun u s₂ => wpAny (model X.prog X.w) X.A (f v u) Q X.xe s₂) X.xe s₁) X.xe s := by
  refine thn (ha pins s σ H _ I h) fun v s1 ⟨x, H1, I1, r1, q1⟩ => ?_
  refine thn (hb pins s1 σ H1 _ I1 q1) fun u s2 ⟨y, H2, I2, r2, q2⟩ => ?_
  exact hf v u s2 x y H2 I2 r1 r2 q2

/-! ### names and constants -/
def tVar (i : Nat) : TE := fun σ H Q => ∃ v, σ[i]? = some (some v) ∧ Q v H
def tC (v : V) : TE := fun _ H Q => Q v H
theorem pe_var {i : Nat} {x : Str} {pos : Pos} (hN : X.N[i]? = some x) (hv : Vis X.env.scope x) (hd : (x == ("__debug__" : Str)) = false := by decide) (hcd : (x == ("__classdict__" : Str)) = false := by decide) : PE X (.Name x pos) (tVar i) := by
  intro pins s σ H Q I h
  obtain ⟨v, e, h⟩ := h
  obtain ⟨m, hn, hl⟩ := I.loc
  obtain ⟨u, r, l⟩ := hl i x v hN e hv
  have fin : EP X pins σ Q u s := ⟨v, H, I, r, h⟩
  rcases l with ⟨hk, hm⟩ | ⟨hk, c, hc, hcell⟩
  · exact wpAny_Name (wpAny_loadName_local I.ok.kind hk hn hm fin) hd
  · rcases hk with hk | hk
    · exact wpAny_Name (wpAny_loadName_cell I.ok.kind hk hc hcell fin) hd
    · exact wpAny_Name (wpAny_loadName_free I.ok.kind hk hc hcell fin hcd) hd
theorem pe_int {i j pos} : PE X (.Constant (.int i) j pos) (tC (.int i)) := fun _ _ _ H _ I h => wpAny_Constant_int ⟨.int i, H, I.tok _, ⟨_, rfl⟩, h⟩
theorem pe_bl {b j pos} : PE X (.Constant (.bool b) j pos) (tC (.bl b)) := fun _ _ _ H _ I h => Constant_bool ⟨.bl b, H, I, rfl, h⟩
theorem pe_non {j pos} : PE X (.Constant .none j pos) (tC .non) := fun _ _ _ H _ I h => Constant_none ⟨.non, H, I, rfl, h⟩
theorem pe_str {x j pos} : PE X (.Constant (.str x) j pos) (tC (.str x)) := fun _ _ _ H _ I h => Calls.Constant_str ⟨.str x, H, I.tok _, ⟨_, rfl⟩, h⟩

/-- a global name of the def -/
def Gl (X : Cx) (x : Str) : Prop := X.env.kindOf x = some .globalImplicit
theorem ld_glob {E : Value → Shared → Prop} {pins : List (Addr × Obj)} {s : Shared} {σ : St} {H : Hp} {x : Str} {u : Value} {pos : Pos} {Q : Value → Shared → Prop} (I : Inv X pins σ H s) (hg : Gl X x) (hm : X.mg x = some u) (h : Q u s)
    (hd : (x == ("__debug__" : Str)) = false := by decide) : wpAny (model X.prog X.w) X.A (eval (.Name x pos) X.env) Q E s :=
  Calls.Name_function_global I.ok.kind hg (Calls.loadGlobal_global (by rw [I.ok.glob]; exact I.mod.glob.keeps I.bk) hm h) hd
theorem ld_blt {E : Value → Shared → Prop} {pins : List (Addr × Obj)} {s : Shared} {σ : St} {H : Hp} {x : Str} {u : Value} {pos : Pos} {Q : Value → Shared → Prop} (I : Inv X pins σ H s) (hg : Gl X x) (hm : X.mg x = none) (hv : bootBuiltins x = some u) (h : Q u s)
    (hn : x ≠ "__name__" := by decide) (hd : (x == ("__debug__" : Str)) = false := by decide) : wpAny (model X.prog X.w) X.A (eval (.Name x pos) X.env) Q E s := by
  obtain ⟨mb, h1, h2⟩ := I.mod.blt
  exact Calls.Name_function_global I.ok.kind hg (Calls.loadGlobal_builtin (by rw [I.ok.glob]; exact I.mod.glob.keeps I.bk) hm (by rw [I.ok.blt]; exact h1.keeps I.bk) ((h2 x hn).trans hv) h) hd
/-- a module's constant, a class, a function, as a value -/
theorem pe_glob {x : Str} {v : V} {u : Value} {pos : Pos} (hg : Gl X x) (hm : X.mg x = some u) (r : RelV v u) (hd : (x == ("__debug__" : Str)) = false := by decide) : PE X (.Name x pos) (tC v) :=
  fun _ _ _ H _ I h => ld_glob I hg hm ⟨v, H, I, r, h⟩ hd
theorem pe_bltn {x : Str} {v : V} {u : Value} {pos : Pos} (hg : Gl X x) (hm : X.mg x = none) (hv : bootBuiltins x = some u) (r : RelV v u) (hn : x ≠ "__name__" := by decide) (hd : (x == ("__debug__" : Str)) = false := by decide) : PE X (.Name x pos) (tC v) :=
  fun _ _ _ H _ I h => ld_blt I hg hm hv ⟨v, H, I, r, h⟩ hn hd

/-! ### arithmetic -/
variable {a b : Expr} {ta tb : TE} {pos : Pos}
/-! ### comparisons -/
def PC (X : Cx) (op : CmpOp) (a b : Expr) (t : TE) : Prop :=
  ∀ (pins : List (Addr × Obj)) (s : Shared) (σ : St) (H : Hp) (Q : VK), Inv X pins σ H s → t σ H Q →
    wpAny (model X.prog X.w) X.A (eval a X.env) (fun v s₁ => wpAny (model X.prog X.w) X.A (eval b X.env) (fun u s₂ => wpAny (model X.prog X.w) X.A (compareOp op v u) (EP X pins σ Q) X.xe s₂) X.xe s₁) X.xe s
theorem nobehind (b : Expr) {op : CmpOp} (h : op ≠ .In) (h2 : op ≠ .NotIn) : behindInMarks op b = false := by
  have e1 : (op == CmpOp.In) = false := by cases op <;> first | rfl | exact absurd rfl h
  have e2 : (op == CmpOp.NotIn) = false := by cases op <;> first | rfl | exact absurd rfl h2
  cases b <;> simp [behindInMarks, e1, e2]
/-- is None -/
def tIsN (ta : TE) : TE := fun σ H Q => ta σ H fun x H1 => Q (.bl (decide (x = .non))) H1
def tNotN (ta : TE) : TE := fun σ H Q => ta σ H fun x H1 => Q (.bl (!decide (x = .non))) H1
theorem RelV.none_iff {x : V} {v : Value} (r : RelV x v) : (v == Value.none) = decide (x = .non) := by
  cases x with
  | non => cases r; rfl
  | bl _ => cases r; rfl
  | int _ => obtain ⟨t, rfl⟩ := r; rfl
  | str _ => obtain ⟨t, rfl⟩ := r; rfl
  | byt _ => obtain ⟨t, rfl⟩ := r; rfl
  | flt _ => obtain ⟨t, rfl⟩ := r; rfl
  | ref _ => cases r; rfl
  | ty _ => cases r; rfl
theorem pc_isN {j pos'} (ha : PE X a ta) : PC X .Is a (.Constant .none j pos') (tIsN ta) := by
  intro pins s σ H Q I h
  refine thn (ha pins s σ H _ I h) fun v s1 ⟨x, H1, I1, r1, q1⟩ => ?_
  exact Constant_none (is_none_gen ⟨.bl _, H1, I1, by rw [r1.none_iff]; rfl, q1⟩)
theorem pc_notN {j pos'} (ha : PE X a ta) : PC X .IsNot a (.Constant .none j pos') (tNotN ta) := by
  intro pins s σ H Q I h
  refine thn (ha pins s σ H _ I h) fun v s1 ⟨x, H1, I1, r1, q1⟩ => ?_
  exact Constant_none (isnot_none_gen ⟨.bl _, H1, I1, by rw [r1.none_iff]; rfl, q1⟩)
/-- a comparison as a value, as a test -/
def tB (t : TE) : TT := fun σ H Q => t σ H fun x H1 => ∃ c, x = .bl c ∧ Q c H1
theorem pe_cmp {op : CmpOp} {t : TE} (h : PC X op a b t) (h1 : behindInMarks op b = false := by first | exact nobehind _ (by decide) (by decide) | rfl) : PE X (.Compare a [op] [b] pos) t := fun pins s σ H Q I hw => wpAny_Compare1 (h pins s σ H Q I hw) h1
theorem pt_cmp {op : CmpOp} {t : TE} (h : PC X op a b t) (h1 : behindInMarks op b = false := by first | exact nobehind _ (by decide) (by decide) | rfl) : PT X (.Compare a [op] [b] pos) (tB t) := by
  intro pins s σ H Q I hw
  refine wpAny_isTrue_Compare1 (thn (h pins s σ H _ I hw) fun v s1 h1 => thn h1 fun u s2 h2 => thn h2 fun c s3 ⟨x, H1, I1, r1, q1⟩ => ?_) h1
  obtain ⟨d, rfl, q⟩ := q1
  cases r1
  exact wpAny_truthy_bool ⟨H1, I1, q⟩
/-- an expression whose value is a bool, as a test -/
theorem pt_val {e : Expr} {t : TE} (h : PE X e t) (he : ∀ whole, isTrue e X.env whole = (do let v ← whole; standAt e.pos; holding [v] (truthy v)) := by intro _; rfl) : PT X e (tB t) := by
  intro pins s σ H Q I hw
  refine isTrue_plain (thn (h pins s σ H _ I hw) fun v s1 ⟨x, H1, I1, r1, q1⟩ => ?_) (he _)
  obtain ⟨d, rfl, q⟩ := q1
  cases r1
  exact wpAny_truthy_bool ⟨H1, I1, q⟩

/-! ### and, or, not -/
variable {tA tB' : TT} {rest : List Expr}
def tAnd (t u : TT) : TT := fun σ H Q => t σ H fun c H1 => if c = true then u σ H1 Q else Q false H1
def tOr (t u : TT) : TT := fun σ H Q => t σ H fun c H1 => if c = true then Q true H1 else u σ H1 Q
def tNot (t : TT) : TT := fun σ H Q => t σ H fun c H1 => Q (!c) H1
theorem pw_and1 (ha : PT X a tA) : PW X (.BoolOp .And [a] pos) tA := by
  intro wh pins s σ H Q I h
  refine isTrue_and (thn (ha pins s σ H Q I h) fun c s1 e => ?_)
  cases c with
  | true => exact isTrue_and_nil e
  | false => exact e
theorem pw_or1 (ha : PT X a tA) : PW X (.BoolOp .Or [a] pos) tA := by
  intro wh pins s σ H Q I h
  refine isTrue_or (thn (ha pins s σ H Q I h) fun c s1 e => ?_)
  cases c with
  | false => exact isTrue_or_nil e
  | true => exact e
theorem pw_and (ha : PT X a tA) (hb : PW X (.BoolOp .And (b :: rest) pos) tB') : PW X (.BoolOp .And (a :: b :: rest) pos) (tAnd tA tB') := by
  intro wh pins s σ H Q I h
  refine isTrue_and (thn (ha pins s σ H _ I h) fun c s1 ⟨H1, I1, q1⟩ => ?_)
  cases c with
  | true => exact hb wh pins s1 σ H1 Q I1 q1
  | false => exact ⟨H1, I1, q1⟩
theorem pw_or (ha : PT X a tA) (hb : PW X (.BoolOp .Or (b :: rest) pos) tB') : PW X (.BoolOp .Or (a :: b :: rest) pos) (tOr tA tB') := by
  intro wh pins s σ H Q I h
  refine isTrue_or (thn (ha pins s σ H _ I h) fun c s1 ⟨H1, I1, q1⟩ => ?_)
  cases c with
  | true => exact ⟨H1, I1, q1⟩
  | false => exact hb wh pins s1 σ H1 Q I1 q1
theorem pt_not (ha : PT X a tA) : PT X (.UnaryOp .Not a pos) (tNot tA) := by
  intro pins s σ H Q I h
  exact isTrue_not (ha pins s σ H (fun c H1 => Q (!c) H1) I h)
/-- .. as values (bools) -/
def tAndV (ta tb : TE) : TE := fun σ H Q => ta σ H fun x H1 => ∃ c, x = .bl c ∧ if c = true then tb σ H1 Q else Q (.bl false) H1
theorem pe_one {op} {t : TE} (h : PE X a t) : PE X (.BoolOp op [a] pos) t := fun pins s σ H Q I hw => BoolOp_one (h pins s σ H Q I hw)
theorem pe_and (ha : PE X a ta) (hb : PE X (.BoolOp .And (b :: rest) pos) tb) : PE X (.BoolOp .And (a :: b :: rest) pos) (tAndV ta tb) := by
  intro pins s σ H Q I h
  refine BoolOp_and (thn (ha pins s σ H _ I h) fun v s1 ⟨x, H1, I1, r1, q1⟩ => ?_)
  obtain ⟨c, rfl, q1⟩ := q1
  cases r1
  refine wpAny_truthy_bool ?_
  cases c with
  | true => exact hb pins s1 σ H1 Q I1 q1
  | false => exact ⟨.bl false, H1, I1, rfl, q1⟩
end
end L2

namespace L2
open PySem PySem.Spec PyProof.Rows

/-! ### a list, a tuple that is read: tracked, frozen, or an object of the module -/
def SqL (K : PySem.W.Frag) (H : Hp) (a : Addr) (xs : List V) : Prop :=
  Rd H a (.lst xs) ∨
    ∃ (o : Obj) (its : Array Value) (n : Nat), K.lookup a = some o ∧ o.cls = .type "list" ∧ o.dict = none ∧ o.data = .seq its n ∧ its.size ≤ sizeLine ∧ Vals xs its.toList
def SqT (K : PySem.W.Frag) (H : Hp) (a : Addr) (xs : List V) : Prop :=
  Rd H a (.tup xs) ∨
    ∃ (o : Obj) (its : Array Value) (n : Nat), K.lookup a = some o ∧ o.cls = .type "tuple" ∧ o.data = .seq its n ∧ its.size ≤ sizeLine ∧ Vals xs its.toList
def absV : Value → Option V
  | .none => some .non
  | .bool b => some (.bl b)
  | .int i _ => some (.int i)
  | .str x _ => some (.str x)
  | .bytes b _ => some (.byt b)
  | .float b _ => some (.flt b)
  | .ref a => some (.ref a)
  | .type n => some (.ty n)
  | _ => none
theorem RelV.abs {x : V} {u : Value} (r : RelV x u) : absV u = some x := by
  cases x with
  | non => cases r; rfl
  | bl _ => cases r; rfl
  | int _ => obtain ⟨t, rfl⟩ := r; rfl
  | str _ => obtain ⟨t, rfl⟩ := r; rfl
  | byt _ => obtain ⟨t, rfl⟩ := r; rfl
  | flt _ => obtain ⟨t, rfl⟩ := r; rfl
  | ref _ => cases r; rfl
  | ty _ => cases r; rfl
theorem RelV.inj {x y : V} {u : Value} (r : RelV x u) (q : RelV y u) : x = y := Option.some.inj (r.abs.symm.trans q.abs)
theorem Vals.inj : ∀ {xs ys : List V} {us : List Value}, Vals xs us → Vals ys us → xs = ys
  | _, _, _, .nil, .nil => rfl
  | _, _, _, .cons r t, .cons r' t' => by rw [r.inj r', Vals.inj t t']
section
variable {X : Cx} {pins : List (Addr × Obj)} {σ : St} {H : Hp} {s : Shared} {a : Addr} {xs ys : List V}
theorem SqL.of {K : PySem.W.Frag} (h : H a = some (.lst xs)) : SqL K H a xs := .inl (.inl h)
theorem SqT.of {K : PySem.W.Frag} (h : H a = some (.tup xs)) : SqT K H a xs := .inl (.inl h)
theorem Inv.list (I : Inv X pins σ H s) (h : SqL X.K H a xs) : ∃ its : List Value, Vals xs its ∧ PlainL s.heap a its.toArray ∧ xs.length ≤ sizeLine := by
  rcases h with h | ⟨o, its, n, hk, hc, hd, hs, hz, r⟩
  · obtain ⟨z, its, n, r, e⟩ := h.ok I.hok
    exact ⟨its, r, ⟨_, n, e, rfl, rfl, rfl⟩, z⟩
  · refine ⟨its.toList, r, ⟨o, n, I.kIn a o hk, hc, hd, by simpa using hs⟩, ?_⟩
    have e := r.length
    simp only [Array.length_toList] at e
    omega
theorem Inv.tuple (I : Inv X pins σ H s) (h : SqT X.K H a xs) : ∃ its : List Value, Vals xs its ∧ IsTup s.heap a its.toArray ∧ xs.length ≤ sizeLine := by
  rcases h with h | ⟨o, its, n, hk, hc, hs, hz, r⟩
  · obtain ⟨z, its, r, p⟩ := h.ok I.hok
    exact ⟨its, r, p, z⟩
  · refine ⟨its.toList, r, ⟨o, I.kIn a o hk, hc, n, by simpa using hs⟩, ?_⟩
    have e := r.length
    simp only [Array.length_toList] at e
    omega
theorem Inv.list_inj (I : Inv X pins σ H s) (h : SqL X.K H a xs) (h' : SqL X.K H a ys) : xs = ys := by
  obtain ⟨its, r, ⟨o, n, e, _, _, d⟩, _⟩ := I.list h
  obtain ⟨its', r', ⟨o', n', e', _, _, d'⟩, _⟩ := I.list h'
  rw [e] at e'; cases e'
  rw [d] at d'
  injection d' with d1 _
  have : its = its' := by simpa using congrArg Array.toList d1
  subst this
  exact r.inj r'
theorem Inv.tuple_inj (I : Inv X pins σ H s) (h : SqT X.K H a xs) (h' : SqT X.K H a ys) : xs = ys := by
  obtain ⟨its, r, ⟨o, e, _, n, d⟩, _⟩ := I.tuple h
  obtain ⟨its', r', ⟨o', e', _, n', d'⟩, _⟩ := I.tuple h'
  rw [e] at e'; cases e'
  rw [d] at d'
  injection d' with d1 _
  have : its = its' := by simpa using congrArg Array.toList d1
  subst this
  exact r.inj r'
end

/-! ### another wish about exceptions -/
abbrev Cx.wish (X : Cx) (E : Value → Shared → Prop) : Cx := { X with xe := E }
/-- no exception leaves -/
abbrev Cx.nox (X : Cx) : Cx := X.wish fun _ _ => False
theorem Cx.Ok.wish {X : Cx} (ok : X.Ok) (E : Value → Shared → Prop) : (X.wish E).Ok :=
  ⟨ok.mod, ok.kind, ok.glob, ok.blt, ok.above, ok.inj, ok.has, ok.cab, ok.hd, ok.frames, ok.stk, ok.exf, ok.bs, ok.bsz, ok.noex, ok.exfs, ok.funs, ok.frf⟩
theorem Cx.Ok.unwish {X : Cx} {E : Value → Shared → Prop} (ok : (X.wish E).Ok) : X.Ok :=
  ⟨ok.mod, ok.kind, ok.glob, ok.blt, ok.above, ok.inj, ok.has, ok.cab, ok.hd, ok.frames, ok.stk, ok.exf, ok.bs, ok.bsz, ok.noex, ok.exfs, ok.funs, ok.frf⟩
section
variable {X : Cx} {pins : List (Addr × Obj)} {σ : St} {H : Hp} {s : Shared} {E : Value → Shared → Prop}
theorem Inv.wish (I : Inv X pins σ H s) (E : Value → Shared → Prop) : Inv (X.wish E) pins σ H s := ⟨I.ok.wish E, I.os, I.bare, I.base, I.loc, I.cell, I.free, I.freeC, I.pin, I.hok, I.len⟩
theorem Inv.unwish (I : Inv (X.wish E) pins σ H s) : Inv X pins σ H s := ⟨I.ok.unwish, I.os, I.bare, I.base, I.loc, I.cell, I.free, I.freeC, I.pin, I.hok, I.len⟩
theorem SP.unwish {D : Ends} {f : Flow} {s' : Shared} (h : SP (X.wish E) pins D f s') : SP X pins D f s' := by
  cases f with
  | next => obtain ⟨σ', H', I, q⟩ := h; exact ⟨σ', H', I.unwish, q⟩
  | brk => obtain ⟨σ', H', I, q⟩ := h; exact ⟨σ', H', I.unwish, q⟩
  | cont => obtain ⟨σ', H', I, q⟩ := h; exact ⟨σ', H', I.unwish, q⟩
  | ret u => obtain ⟨v, σ', H', I, r, q⟩ := h; exact ⟨v, σ', H', I.unwish, r, q⟩
theorem PSs.nox {st : List Stmt} {t : TS} (h : PSs X.nox st t) : PSs X st t := fun pins s σ H D I hw =>
  wpAny_mono (h pins s σ H D (I.wish _) hw) (fun _ _ q => q.unwish) fun _ _ z => False.elim z
end

/-! ### blocks and small statements -/
section
variable {X : Cx} {st : Stmt} {rest : List Stmt} {t u : TS} {e : Expr} {te : TE} {pos : Pos}
def tNext : TS := fun D σ H => D.nx σ H
def tSeq (t u : TS) : TS := fun D σ H => t { D with nx := u D } σ H
theorem pss_nil : PSs X [] tNext := fun _ _ σ H _ I h => wpAny_execs_nil ⟨σ, H, I, h⟩
theorem pss_cons (h1 : PS X st t) (h2 : PSs X rest u) : PSs X (st :: rest) (tSeq t u) := by
  intro pins s σ H D I h
  refine wpAny_execs_cons (thn (h1 pins s σ H { D with nx := u D } I h) fun f s1 q => ?_)
  cases f with
  | next =>
    obtain ⟨σ', H', I', q⟩ := q
    exact h2 pins s1 σ' H' D I' q
  | ret v => exact q
  | brk => exact q
  | cont => exact q
theorem pss_one (h1 : PS X st t) : PSs X [st] t := by
  intro pins s σ H D I h
  refine wpAny_execs_cons (thn (h1 pins s σ H D I h) fun f s1 q => ?_)
  cases f with
  | next => exact wpAny_execs_nil q
  | ret v => exact q
  | brk => exact q
  | cont => exact q
/-- in a def's body nothing is shown -/
theorem Inv.quiet {pins : List (Addr × Obj)} {σ : St} {H : Hp} {s : Shared} (I : Inv X pins σ H s) : interactive X.env = false := by simp [interactive, I.ok.kind]
/-- an expression whose value is dropped -/
def tDrop (te : TE) : TS := fun D σ H => te σ H fun _ H1 => D.nx σ H1
theorem ps_expr (he : PE X e te) (hs : swapsWith e none pos.line X.env = pure false := by rfl) : PS X (.Expr e pos) (tDrop te) := by
  intro pins s σ H D I h
  exact wpAny_Expr_any (thn (he pins s σ H _ I h) fun v s1 ⟨x, H1, I1, r1, q1⟩ => ⟨σ, H1, I1, q1⟩) I.quiet hs
def tRet (te : TE) : TS := fun D σ H => te σ H D.rt
theorem ps_ret (he : PE X e te) : PS X (.Return (some e) pos) (tRet te) := by
  intro pins s σ H D I h
  exact wpAny_Return_some (thn (he pins s σ H _ I h) fun v s1 ⟨x, H1, I1, r1, q1⟩ => ⟨x, σ, H1, I1, r1, q1⟩)
def tIfS (c : TT) (t u : TS) : TS := fun D σ H => c σ H fun b H1 => if b = true then t D σ H1 else u D σ H1
theorem ps_if {c : Expr} {a b : List Stmt} {tc : TT} (hc : PT X c tc) (ha : PSs X a t) (hb : PSs X b u) : PS X (.If c a b pos) (tIfS tc t u) := by
  intro pins s σ H D I h
  refine wpAny_If (thn (hc pins s σ H _ I h) fun d s1 ⟨H1, I1, q1⟩ => ?_)
  cases d with
  | true => exact ha pins s1 σ H1 D I1 q1
  | false => exact hb pins s1 σ H1 D I1 q1
/-- code that the proof never comes to -/
def tNever : TS := fun _ _ _ => False
theorem pss_never {sts : List Stmt} : PSs X sts tNever := fun _ _ _ _ _ _ h => h.elim
end

/-! ### targets -/
abbrev TG := V → St → Hp → (St → Hp → Prop) → Prop
def PG (X : Cx) (target : Expr) (t : TG) : Prop :=
  ∀ (pins : List (Addr × Obj)) (s : Shared) (σ : St) (H : Hp) (v : V) (u : Value) (Q : St → Hp → Prop), Inv X pins σ H s → RelV v u → t v σ H Q →
    wpAny (model X.prog X.w) X.A (assign target X.env u) (fun _ s' => ∃ σ' H', Inv X pins σ' H' s' ∧ Q σ' H') X.xe s
/-- o[i] = v, by values -/
abbrev TSet := V → V → V → Hp → (Hp → Prop) → Prop
def PSet (X : Cx) (t : TSet) : Prop :=
  ∀ (pins : List (Addr × Obj)) (s : Shared) (σ : St) (H : Hp) (o i v : V) (ov iv u : Value) (Q : Hp → Prop), Inv X pins σ H s → RelV o ov → RelV i iv → RelV v u → t o i v H Q →
    wpAny (model X.prog X.w) X.A (setItem ov iv u) (fun _ s' => ∃ H', Inv X pins σ H' s' ∧ Q H') X.xe s
section
variable {X : Cx} {pos : Pos}
def gName (i : Nat) : TG := fun v σ H Q => Q (σ.set i (some v)) H
theorem pg_name {i : Nat} {x : Str} (hN : X.N.Nodup) (hi : X.N[i]? = some x) (hx : Loc X.env.scope x) (hf : X.fn x = true ∨ X.env.scope.names.lookup x = some .local := by first | exact .inl rfl | exact .inr rfl | assumption) : PG X (.Name x pos) (gName i) := by
  intro pins s σ H v u Q I r h
  exact wpAny_assign_Name (store_ok I hN hi hx r (fun s' I' => ⟨_, H, I', h⟩) hf)
/-- o[i] = .. -/
def gSub (to ti : TE) (t : TSet) : TG := fun v σ H Q => to σ H fun o H1 => ti σ H1 fun i H2 => t o i v H2 fun H3 => Q σ H3
theorem pg_sub {o i : Expr} {to ti : TE} {t : TSet} (ho : PE X o to) (hi : PE X i ti) (hs : PSet X t)
    (ha : ∀ v, assign (.Subscript o i pos) X.env v = (do
      let ov ← holding [v] (eval o X.env)
      let iv ← holding [v, ov] (eval i X.env)
      standAt pos
      holding [v, ov, iv] (setItem ov iv v)
      release [v, ov, iv] []) := by intro _; rfl) : PG X (.Subscript o i pos) (gSub to ti t) := by
  intro pins s σ H v u Q I r h
  rw [ha]
  refine wpAny_bind (wpAny_holding (thn (ho pins s σ H _ I h) fun ov s1 ⟨x, H1, I1, r1, q1⟩ => ?_))
  refine wpAny_bind (wpAny_holding (thn (hi pins s1 σ H1 _ I1 q1) fun iv s2 ⟨y, H2, I2, r2, q2⟩ => ?_))
  refine wpAny_bind (wpAny_standAt (wpAny_bind (wpAny_holding (thn (hs pins s2 σ H2 x y v ov iv u _ I2 r1 r2 r q2) fun _ s3 ⟨H3, I3, q3⟩ => ?_))))
  exact wpAny_release ⟨σ, H3, I3, q3⟩
/-- target = value -/
def tAsg (te : TE) (g : TG) : TS := fun D σ H => te σ H fun x H1 => g x σ H1 D.nx
theorem ps_asg {tg e : Expr} {te : TE} {g : TG} (he : PE X e te) (hg : PG X tg g) (hs : swapsWithSole [tg] e pos.line X.env = pure false := by rfl) (hw : swappedStores [tg] e X.env = pure none := by rfl)
    (h1 : (assignEach [tg] X.env).map (·.2) = [assign tg X.env] := by rfl) : PS X (.Assign [tg] e pos) (tAsg te g) := by
  intro pins s σ H D I h
  refine wpAny_Assign_stores (thn (he pins s σ H _ I h) fun v s1 ⟨x, H1, I1, r1, q1⟩ => ?_) hs hw
  rw [h1]
  exact thn (hg pins s1 σ H1 x v _ I1 r1 q1) fun _ s2 q => q
/-- name = value -/
theorem ps_set {i : Nat} {x : Str} {e : Expr} {te : TE} {pos' : Pos} (hN : X.N.Nodup) (hi : X.N[i]? = some x) (hx : Loc X.env.scope x) (he : PE X e te) (hs : swapsWith e (some (.Name x pos')) pos.line X.env = pure false := by rfl) (hf : X.fn x = true ∨ X.env.scope.names.lookup x = some .local := by first | exact .inl rfl | exact .inr rfl | assumption) :
    PS X (.Assign [.Name x pos'] e pos) (tAsg te (gName i)) := by
  intro pins s σ H D I h
  refine wpAny_Assign_Name (thn (he pins s σ H _ I h) fun v s1 ⟨y, H1, I1, r1, q1⟩ => ?_) hs
  exact store_ok I1 hN hi hx r1 (fun s2 I2 => ⟨_, H1, I2, q1⟩) hf
end

/-! ### while -/
section
variable {X : Cx} {pos : Pos}
/-- the invariant W with its measure -/
def tWhile (c : TT) (tb : TS) : TS := fun D σ H => ∃ W : Nat → St → Hp → Prop, (∃ m, W m σ H) ∧ ∀ m σ H, W m σ H →
  c σ H fun b H1 => if b = true then ∃ N : St → Hp → Prop, (∀ σ' H', N σ' H' → ∃ m', m' < m ∧ W m' σ' H') ∧ tb { D with nx := N, ct := N, bk := D.nx } σ H1 else D.nx σ H1
theorem ps_while {c : Expr} {body : List Stmt} {tc : TT} {tb : TS} (hp : PassesOwn (model X.prog X.w) X.A X.env X.xe) (hc : PT X c tc) (hb : PSs X body tb) : PS X (.While c body [] pos) (tWhile tc tb) := by
  intro pins s σ H D I h
  obtain ⟨W, ⟨m0, w0⟩, turn⟩ := h
  refine wpAny_While (codeAny_whileLoop (fun n s' => ∃ σ' H', Inv X pins σ' H' s' ∧ W n σ' H') ?_ m0 ⟨σ, H, I, w0⟩)
  rintro n s1 ⟨σ1, H1, I1, w1⟩
  refine wpAny_passesOwn hp (thn (hc pins s1 σ1 H1 _ I1 (turn n σ1 H1 w1)) fun b s2 ⟨H2, I2, q2⟩ => ?_)
  cases b with
  | true =>
    obtain ⟨N, hN, q2⟩ := q2
    rw [if_pos rfl]
    refine wpAny_passesOwn hp (thn (hb pins s2 σ1 H2 _ I2 q2) fun f s3 q3 => ?_)
    cases f with
    | next =>
      obtain ⟨σ3, H3, I3, n3⟩ := q3
      obtain ⟨m', hm, w3⟩ := hN σ3 H3 n3
      exact ⟨m', hm, σ3, H3, I3, w3⟩
    | cont =>
      obtain ⟨σ3, H3, I3, n3⟩ := q3
      obtain ⟨m', hm, w3⟩ := hN σ3 H3 n3
      exact ⟨m', hm, σ3, H3, I3, w3⟩
    | brk => exact q3
    | ret v => exact q3
  | false =>
    rw [if_neg Bool.false_ne_true]
    exact wpAny_execs_nil ⟨σ1, H2, I2, q2⟩
end

/-! ### what a loop or a comprehension walks -/
/-- at turn i: it yields x (the heap may grow), or it stops -/
structure It where
  go : Nat → Hp → Prop
  yld : Nat → Hp → V → Hp → Prop
  stop : Nat → Hp → Prop
/-- the iterator's own objects may turn: they are not the frame's, not pinned, younger than the entry (or a comprehension's own) -/
def FpOk (X : Cx) (pins : List (Addr × Obj)) (H : Hp) (b : Addr) : Prop :=
  H b = none ∧ b ≠ X.env.locals ∧ b ∉ X.fs ∧ (b ∈ X.ex ∨ X.s₀.heap.objs.size ≤ b) ∧ (∀ x c, X.env.cells.lookup x = some c → c ≠ b) ∧ ∀ p ∈ X.pn ++ pins, p.1 ≠ b
theorem Inv.fpOk {X : Cx} {pins : List (Addr × Obj)} {σ : St} {H H' : Hp} {s : Shared} {b : Addr} (I : Inv X pins σ H s) (hb : s.heap.objs.size ≤ b) (hn : H' b = none) : FpOk X pins H' b := by
  refine ⟨hn, Nat.ne_of_gt (Nat.lt_of_lt_of_le I.lt hb), I.nofs hb, .inr (Nat.le_trans I.sz hb), fun x c e z => ?_, fun p hp z => ?_⟩
  · obtain ⟨v, q⟩ := I.cell x c e
    exact absurd (Nat.lt_of_lt_of_le q.lt (by rw [z]; exact hb)) (Nat.lt_irrefl _)
  · exact absurd (Nat.lt_of_lt_of_le (Heap.lt_size (I.pin p hp).1) (by rw [z]; exact hb)) (Nat.lt_irrefl _)
structure Turn (P : Program) (w : World) (K : PySem.W.Frag) (tg : Expr) (J : It) (fp : List Addr) (it : Addr) (tn : Nat → Heap → Prop) : Prop where
  mem : it ∈ fp
  obj : ∀ i h, tn i h → ∀ b ∈ fp, ∃ o, h.get? b = some o ∧ ∀ v, o.data ≠ .cell v
  keep : ∀ i h h', tn i h → (∀ b ∈ fp, ∀ o, h.get? b = some o → h'.get? b = some o) → tn i h'
  item : ∀ (X : Cx), X.prog = P → X.w = w → X.K = K → X.calm = true → ∀ (i : Nat) (pins : List (Addr × Obj)) (s : Shared) (σ : St) (H : Hp) (E : Value → Shared → Prop), Inv X pins σ H s → (∀ b ∈ fp, FpOk X pins H b) → tn i s.heap → J.go i H →
    wpAny (model P w) X.A (pyNext (.ref it)) (fun r s1 => ∃ u, r = some u ∧
      wpAny (model P w) X.A (letOwnedTupleGo tg (.ref it) u) (fun _ s2 => ∃ x H', Inv X pins σ H' s2 ∧ RelV x u ∧ J.yld i H x H' ∧ tn (i + 1) s2.heap ∧ ∀ b ∈ fp, H' b = none) E s1) E s
  done : ∀ (X : Cx), X.prog = P → X.w = w → X.K = K → X.calm = true → ∀ (i : Nat) (pins : List (Addr × Obj)) (s : Shared) (σ : St) (H : Hp) (E : Value → Shared → Prop), Inv X pins σ H s → (∀ b ∈ fp, FpOk X pins H b) → tn i s.heap → J.stop i H →
    wpAny (model P w) X.A (pyNext (.ref it)) (fun r s1 => r = none ∧ Inv X pins σ H s1) E s
  self : ∀ (A : Around) (i : Nat) (s : Shared) (Q : Value → Shared → Prop) (E : Value → Shared → Prop), tn i s.heap → Q (.ref it) s → wpAny (model P w) A (pyIter (.ref it)) Q E s
abbrev TI := St → Hp → (It → Hp → Prop) → Prop
/-- an iterator has come -/
def PIE (X : Cx) (pins : List (Addr × Obj)) (σ : St) (tg : Expr) (R : It → Hp → Prop) (itv : Value) (s2 : Shared) : Prop :=
  ∃ (it : Addr) (fp : List Addr) (tn : Nat → Heap → Prop) (J : It) (H' : Hp), itv = .ref it ∧ Inv X pins σ H' s2 ∧ Turn X.prog X.w X.K tg J fp it tn ∧ tn 0 s2.heap ∧ (∀ b ∈ fp, FpOk X pins H' b) ∧ R J H'
def PI (X : Cx) (tg iter : Expr) (wi : TI) : Prop :=
  ∀ (pins : List (Addr × Obj)) (s : Shared) (σ : St) (H : Hp) (R : It → Hp → Prop), Inv X pins σ H s → wi σ H R →
    wpAny (model X.prog X.w) X.A (eval iter X.env) (fun v s1 => wpAny (model X.prog X.w) X.A (pyIter v) (PIE X pins σ tg R) X.xe s1) X.xe s

/-- the step ahead of the store is nothing for an iterator that keeps no tuple -/
theorem go_of {M : Model} {A : Around} {E : Value → Shared → Prop} {s : Shared} {tg : Expr} {it : Addr} {u : Value} {o : Obj} {n : String} {vs : Array Value} {Q : Unit → Shared → Prop} (ho : s.heap.get? it = some o) (hc : o.cls = .type n) (hd : o.data = .fields vs)
    (hn : ["enumerate", "zip", "dict_itemiterator", "dict_reverseitemiterator", "odict_iterator", "itertools.zip_longest", "itertools.pairwise"].contains n = false) (hQ : Q () s) : wpAny M A (letOwnedTupleGo tg (.ref it) u) Q E s := by
  unfold letOwnedTupleGo
  cases tg <;> first
    | exact wpAny_pure hQ
    | (cases u <;> first
        | exact wpAny_pure hQ
        | (refine wpAny_bind (wpAny_load ho ?_)
           rw [hc, hd]
           show wpAny M A (if (["enumerate", "zip", "dict_itemiterator", "dict_reverseitemiterator", "odict_iterator", "itertools.zip_longest", "itertools.pairwise"].contains n && vs[0]? == some (rawInt _)) = true then _ else _) Q E s
           rw [if_neg (by intro h; rw [hn, Bool.false_and] at h; cases h)]
           exact wpAny_pure hQ))

/-- the list at a, as it stands at each turn (a loop may append to it) -/
def Itl (K : PySem.W.Frag) (a : Addr) : It :=
  ⟨fun i H => ∃ xs x, SqL K H a xs ∧ xs[i]? = some x, fun i H x H' => H' = H ∧ ∀ xs, SqL K H a xs → xs[i]? = some x, fun i H => ∃ xs, SqL K H a xs ∧ xs.length ≤ i⟩
def Itt (K : PySem.W.Frag) (a : Addr) : It :=
  ⟨fun i H => ∃ xs x, SqT K H a xs ∧ xs[i]? = some x, fun i H x H' => H' = H ∧ ∀ xs, SqT K H a xs → xs[i]? = some x, fun i H => ∃ xs, SqT K H a xs ∧ xs.length ≤ i⟩
/-- lo, lo + 1, .. (n of them) -/
def Itr (lo : Int) (n : Nat) : It := ⟨fun i _ => i < n, fun i H x H' => H' = H ∧ x = .int (lo + i), fun i _ => n ≤ i⟩
theorem turn_list {P : Program} {w : World} {K : PySem.W.Frag} {tg : Expr} (a it : Addr) : Turn P w K tg (Itl K a) [it] it (fun i h => h.IsListIter it a i) where
  mem := by simp
  obj := fun i h st b hb => by
    have e : b = it := by simpa using hb
    subst e
    obtain ⟨o, e, c, d⟩ := st
    exact ⟨o, e, fun v z => by rw [d] at z; cases z⟩
  keep := fun i h h' st k => st.at fun o e => k it (by simp) o e
  item := by
    intro X hP hw hK hc i pins s σ H E I hf st hg
    subst hP hw hK
    obtain ⟨xs, x, hq, hx⟩ := hg
    obtain ⟨its, rv, p, hz⟩ := I.list hq
    obtain ⟨u, hu, ru⟩ := rv.get hx
    obtain ⟨f0, f1, f2, f3, f4, f5⟩ := hf it (by simp)
    refine wpAny_pyNext_list_item st p.isList (x := u) (by simpa using hu) fun h' st' sb => ?_
    have I1 : Inv X pins σ H { s with heap := h' } := I.turned (t' := s.toks) (fun b o hb e => (sb.2 b hb).trans e) f0 f1 f3 f4 f5
    obtain ⟨o, e, c, d⟩ := id st'
    exact ⟨u, rfl, go_of (s := { s with heap := h' }) e c d (by decide) ⟨x, H, I1, ru, ⟨rfl, fun ys hy => by rw [I.list_inj hy hq]; exact hx⟩, st', fun b hb => (hf b hb).1⟩⟩
  done := by
    intro X hP hw hK hc i pins s σ H E I hf st hg
    subst hP hw hK
    obtain ⟨xs, hq, hx⟩ := hg
    obtain ⟨its, rv, p, hz⟩ := I.list hq
    obtain ⟨f0, f1, f2, f3, f4, f5⟩ := hf it (by simp)
    have hl := rv.length
    exact wpAny_pyNext_list_end (I.ok.hd hc) st p.isList (by simp; omega) fun h' eb => ⟨rfl, I.turned (t' := s.toks) (fun b o hb e => eb b o hb e) f0 f1 f3 f4 f5⟩
  self := fun _ _ _ _ _ st h => wpAny_pyIter_listiter st h
theorem turn_tuple {P : Program} {w : World} {K : PySem.W.Frag} {tg : Expr} (a it : Addr) : Turn P w K tg (Itt K a) [it] it (fun i h => h.IsTupleIter it a i) where
  mem := by simp
  obj := fun i h st b hb => by
    have e : b = it := by simpa using hb
    subst e
    obtain ⟨o, e, c, d⟩ := st
    exact ⟨o, e, fun v z => by rw [d] at z; cases z⟩
  keep := fun i h h' st k => st.at fun o e => k it (by simp) o e
  item := by
    intro X hP hw hK hc i pins s σ H E I hf st hg
    subst hP hw hK
    obtain ⟨xs, x, hq, hx⟩ := hg
    obtain ⟨its, rv, p, hz⟩ := I.tuple hq
    obtain ⟨u, hu, ru⟩ := rv.get hx
    obtain ⟨f0, f1, f2, f3, f4, f5⟩ := hf it (by simp)
    refine wpAny_pyNext_tuple_item st (show s.heap.IsTuple a its.toArray from p) (x := u) (by simpa using hu) fun h' st' sb => ?_
    have I1 : Inv X pins σ H { s with heap := h' } := I.turned (t' := s.toks) (fun b o hb e => (sb.2 b hb).trans e) f0 f1 f3 f4 f5
    obtain ⟨o, e, c, d⟩ := id st'
    exact ⟨u, rfl, go_of (s := { s with heap := h' }) e c d (by decide) ⟨x, H, I1, ru, ⟨rfl, fun ys hy => by rw [I.tuple_inj hy hq]; exact hx⟩, st', fun b hb => (hf b hb).1⟩⟩
  done := by
    intro X hP hw hK hc i pins s σ H E I hf st hg
    subst hP hw hK
    obtain ⟨xs, hq, hx⟩ := hg
    obtain ⟨its, rv, p, hz⟩ := I.tuple hq
    obtain ⟨f0, f1, f2, f3, f4, f5⟩ := hf it (by simp)
    have hl := rv.length
    exact wpAny_pyNext_tuple_end (I.ok.hd hc) st (show s.heap.IsTuple a its.toArray from p) (by simp; omega) fun h' eb => ⟨rfl, I.turned (t' := s.toks) (fun b o hb e => eb b o hb e) f0 f1 f3 f4 f5⟩
  self := fun _ _ _ _ _ st h => wpAny_pyIter_tupleiter st h
theorem turn_range {P : Program} {w : World} {K : PySem.W.Frag} {tg : Expr} (it : Addr) (lo : Int) (n : Nat) : Turn P w K tg (Itr lo n) [it] it (fun i h => IsRangeIter h it (lo + (i : Nat) * 1) ((n : Int) - (i : Nat)) 1) where
  mem := by simp
  obj := fun i h st b hb => by
    have e : b = it := by simpa using hb
    subst e
    exact ⟨_, st, fun v z => by
      have z' : Data.fields _ = Data.cell v := z
      cases z'⟩
  keep := fun i h h' st k => k it (by simp) _ st
  item := by
    intro X hP hw hK hc i pins s σ H E I hf st hg
    subst hP hw hK
    obtain ⟨f0, f1, f2, f3, f4, f5⟩ := hf it (by simp)
    have W := Walks.range (prog := X.prog) (w := X.w) (I.ok.hd hc) it lo 1 n
    refine W.item i s _ _ hg st fun v h' tk hv st' kk => ?_
    obtain ⟨t, rfl⟩ := hv
    have I1 : Inv X pins σ H { s with heap := h', toks := tk } := I.turned (fun b o hb e => kk b o (by simpa using hb) e) f0 f1 f3 f4 f5
    refine ⟨_, rfl, go_of (s := { s with heap := h', toks := tk }) (n := "range_iterator") st' rfl rfl (by decide) ⟨.int (lo + i), H, I1, ⟨t, ?_⟩, ⟨rfl, rfl⟩, st', fun b hb => (hf b hb).1⟩⟩
    rw [Int.mul_one]
  done := by
    intro X hP hw hK hc i pins s σ H E I hf st hg
    subst hP hw hK
    obtain ⟨f0, f1, f2, f3, f4, f5⟩ := hf it (by simp)
    exact wpAny_pyNext_range_end (I.ok.hd hc) st (by have : n ≤ i := hg; omega) fun h' eb => ⟨rfl, I.turned (t' := s.toks) (fun b o hb e => eb b o hb e) f0 f1 f3 f4 f5⟩
  self := fun _ _ _ _ _ st h => wpAny_pyIter_rangeiter st h
end L2

namespace L2
open PySem PySem.Spec PyProof.Rows
section
variable {X : Cx} {tg : Expr}
/-- a range object just made, walked -/
theorem range_it {pins : List (Addr × Obj)} {σ : St} {H : Hp} {s : Shared} {R : It → Hp → Prop} {E : Value → Shared → Prop} {lo hi : Int} {t u v : Tok} {tk : Nat} (I : Inv X pins σ H s) (h1 : -(2 ^ 62) ≤ lo) (h2 : lo < 2 ^ 62) (h3 : -(2 ^ 62) ≤ hi) (h4 : hi < 2 ^ 62)
    (q : R (Itr lo (hi - lo).toNat) H) : wpAny (model X.prog X.w) X.A (pyIter (.ref s.heap.objs.size)) (PIE X pins σ tg R) E { s with heap := s.heap.push { cls := .type "range", data := .fields #[.int lo t, .int hi u, .int 1 v] }, toks := tk } := by
  refine wpAny_pyIter_range (IsRange.new ..) (small_one h1 h2 h3 h4) ?_
  have I1 : Inv X pins σ H { s with heap := s.heap.push { cls := .type "range", data := .fields #[.int lo t, .int hi u, .int 1 v] }, toks := tk } := I.kept fun b o e => Heap.get?_push_of_some _ e
  refine ⟨(s.heap.push { cls := .type "range", data := .fields #[.int lo t, .int hi u, .int 1 v] }).objs.size, [(s.heap.push { cls := .type "range", data := .fields #[.int lo t, .int hi u, .int 1 v] }).objs.size], _, _, H, rfl,
    I1.kept (t' := tk) fun b o e => Heap.get?_push_of_some _ e, turn_range _ lo (hi - lo).toNat, ?_, fun b hb => ?_, q⟩
  · have e1 : lo + ((0 : Nat) : Int) * 1 = lo := by simp
    have e2 : (((hi - lo).toNat : Nat) : Int) - ((0 : Nat) : Int) = Builtin.Range.rangeSize lo hi 1 := by rw [rangeSize_one]; split <;> omega
    show IsRangeIter _ _ (lo + ((0 : Nat) : Int) * 1) ((((hi - lo).toNat : Nat) : Int) - ((0 : Nat) : Int)) 1
    rw [e1, e2]
    exact Heap.get?_push_size _ rfl
  · have e : b = (s.heap.push { cls := .type "range", data := .fields #[.int lo t, .int hi u, .int 1 v] }).objs.size := by simpa using hb
    subst e
    exact I1.fpOk (Nat.le_refl _) (I1.hok.fresh (Nat.le_refl _))
def iRng1 (ta : TA) : TI := fun σ H R => ta σ H fun vs H1 => ∃ j : Int, vs = [.int j] ∧ -(2 ^ 62) ≤ j ∧ j < 2 ^ 62 ∧ R (Itr 0 j.toNat) H1
def iRng2 (ta : TA) : TI := fun σ H R => ta σ H fun vs H1 => ∃ i j : Int, vs = [.int i, .int j] ∧ (-(2 ^ 62) ≤ i ∧ i < 2 ^ 62 ∧ -(2 ^ 62) ≤ j ∧ j < 2 ^ 62) ∧ R (Itr i (j - i).toNat) H1
theorem pi_range1 {a : Expr} {ta : TA} {p pos : Pos} (hg : Gl X "range") (hm : X.mg "range" = none) (ha : PA X [a] ta) (hs : starEach [a] X.env = [(false, eval a X.env)] := by rfl) : PI X tg (.Call (.Name "range" p) [a] [] pos) (iRng1 ta) := by
  intro pins s σ H R I h
  refine Call_ (ld_blt I hg hm boot_range (PyProof.Rows.callWith_type1 (thn (ha pos pins s σ H _ I h) fun us s1 ⟨vs, H1, I1, r1, q1⟩ => ?_) hs rfl))
  obtain ⟨j, e, q1, q2, q⟩ := q1
  subst e
  cases r1 with
  | cons r rr =>
    cases rr
    obtain ⟨t, rfl⟩ := r
    exact call_range_1 (range_it I1 (by omega) (by omega) q1 q2 (by simpa using q))
theorem pi_range2 {a b : Expr} {ta : TA} {p pos : Pos} (hg : Gl X "range") (hm : X.mg "range" = none) (ha : PA X [a, b] ta) (hs : starEach [a, b] X.env = [(false, eval a X.env), (false, eval b X.env)] := by rfl) (hs2 : starEach [b] X.env = [(false, eval b X.env)] := by rfl) :
    PI X tg (.Call (.Name "range" p) [a, b] [] pos) (iRng2 ta) := by
  intro pins s σ H R I h
  refine Call_ (ld_blt I hg hm boot_range (PyProof.Rows.callWith_type1 (thn (ha pos pins s σ H _ I h) fun us s1 ⟨vs, H1, I1, r1, q1⟩ => ?_) (by rw [hs, hs2]) (by rw [hs2]; rfl)))
  obtain ⟨i, j, e, ⟨q1, q2, q3, q4⟩, q⟩ := q1
  subst e
  cases r1 with
  | cons r rr =>
    cases rr with
    | cons r' rr =>
      cases rr
      obtain ⟨t, rfl⟩ := r
      obtain ⟨t', rfl⟩ := r'
      exact call_range_2 (range_it I1 q1 q2 q3 q4 q)

/-! ### for -/
/-- W: the invariant by the turn and a measure; N: what the body is to reach -/
def tFor (wi : TI) (g : TG) (tb : TS) : TS := fun D σ H => wi σ H fun J H1 => ∃ W : Nat → Nat → St → Hp → Prop, (∃ m, W 0 m σ H1) ∧ ∀ i m σ H, W i m σ H →
  (J.stop i H ∧ D.nx σ H) ∨ (J.go i H ∧ ∃ N : St → Hp → Prop, (∀ σ' H', N σ' H' → ∃ m', m' < m ∧ W (i + 1) m' σ' H') ∧ ∀ x H', J.yld i H x H' → g x σ H' fun σ2 H2 => tb { D with nx := N, ct := N, bk := D.nx } σ2 H2)
/-- the records at fp as they stand -/
def pinsAt (fp : List Addr) (h : Heap) : List (Addr × Obj) := fp.filterMap fun b => (h.get? b).map fun o => (b, o)
theorem mem_pinsAt {fp : List Addr} {h : Heap} {b : Addr} {o : Obj} (hb : b ∈ fp) (e : h.get? b = some o) : (b, o) ∈ pinsAt fp h := List.mem_filterMap.mpr ⟨b, hb, by rw [e]; rfl⟩
theorem of_pinsAt {fp : List Addr} {h : Heap} {p : Addr × Obj} (hp : p ∈ pinsAt fp h) : p.1 ∈ fp ∧ h.get? p.1 = some p.2 := by
  obtain ⟨b, hb, e⟩ := List.mem_filterMap.mp hp
  cases q : h.get? b with
  | none => rw [q] at e; cases e
  | some o =>
    rw [q] at e
    have e' : (b, o) = p := Option.some.inj e
    subst e'
    exact ⟨hb, q⟩
theorem Inv.pinned {pins : List (Addr × Obj)} {σ : St} {H : Hp} {s : Shared} {fp : List Addr} (I : Inv X pins σ H s) (hf : ∀ b ∈ fp, FpOk X pins H b) (ho : ∀ b ∈ fp, ∃ o, s.heap.get? b = some o ∧ ∀ v, o.data ≠ .cell v) : Inv X (pins ++ pinsAt fp s.heap) σ H s :=
  I.pins_of fun p hp => (List.mem_append.mp hp).elim (fun z => I.pin p (List.mem_append_right _ z)) fun z => by
    obtain ⟨hb, e⟩ := of_pinsAt z
    obtain ⟨f0, f1, f2, _⟩ := hf p.1 hb
    obtain ⟨o, e', d⟩ := ho p.1 hb
    rw [e] at e'; cases e'
    exact ⟨e, f0, f1, f2, d⟩
theorem Inv.unpinned {pins pl : List (Addr × Obj)} {σ : St} {H : Hp} {s : Shared} (I : Inv X (pins ++ pl) σ H s) : Inv X pins σ H s := I.pins_of fun p hp => I.pin p (List.mem_append_right _ (List.mem_append_left _ hp))
theorem ps_for {iter : Expr} {body : List Stmt} {wi : TI} {g : TG} {tb : TS} {pos : Pos} (hp : PassesOwn (model X.prog X.w) X.A X.env X.xe) (hc : X.calm = true) (hi : PI X tg iter wi) (hg : PG X tg g) (hb : PSs X body tb)
    (hs : ∀ x, foldedSetIterable iter X.env x = pure x := by intro _; rfl) : PS X (.For tg iter body [] pos) (tFor wi g tb) := by
  intro pins s σ H D I h
  refine wpAny_For (thn (hi pins s σ H _ I h) fun v s1 h1 => thn h1 fun itv s2 h2 => ?_) hs
  obtain ⟨it, fp, tn, J, H2, e, I2, T, st2, f2, W, ⟨m0, w0⟩, turn⟩ := h2
  subst e
  -- what stays true of the iterator's objects through the loop
  have stat : ∀ {H' : Hp}, (∀ b ∈ fp, H' b = none) → ∀ b ∈ fp, FpOk X pins H' b := fun hn b hb => ⟨hn b hb, (f2 b hb).2⟩
  refine codeAny_forLoop_any (fun n s' => ∃ i σ' H', Inv X pins σ' H' s' ∧ tn i s'.heap ∧ (∀ b ∈ fp, H' b = none) ∧ W i n σ' H') ?_ m0 ⟨0, σ, H2, I2, st2, fun b hb => (f2 b hb).1, w0⟩
  rintro n s3 ⟨i, σ3, H3, I3, st3, fr3, w3⟩
  rcases turn i n σ3 H3 w3 with ⟨stop, qn⟩ | ⟨go, N, hN, step⟩
  · refine wpAny_passesOwn hp (thn (T.done X rfl rfl rfl hc i pins s3 σ3 H3 X.xe I3 (stat fr3) st3 stop) fun r s4 ⟨hr, I4⟩ => ?_)
    subst hr
    exact wpAny_execs_nil ⟨σ3, H3, I4, qn⟩
  · refine wpAny_passesOwn hp (thn (T.item X rfl rfl rfl hc i pins s3 σ3 H3 X.xe I3 (stat fr3) st3 go) fun r s4 ⟨u, hr, h4⟩ => ?_)
    subst hr
    refine wpAny_passesOwn hp (thn h4 fun _ s5 ⟨x, H5, I5, r5, y5, st5, fr5⟩ => ?_)
    have I5' := I5.pinned (stat fr5) (T.obj _ _ st5)
    refine wpAny_passesOwn hp (thn (hg _ s5 σ3 H5 x u _ I5' r5 (step x H5 y5)) fun _ s6 ⟨σ6, H6, I6, q6⟩ => ?_)
    refine wpAny_passesOwn hp (thn (hb _ s6 σ6 H6 _ I6 q6) fun f s7 q7 => ?_)
    have again : ∀ {σ7 : St} {H7 : Hp}, Inv X (pins ++ pinsAt fp s5.heap) σ7 H7 s7 → N σ7 H7 → ∃ m, m < n ∧ ∃ i σ' H', Inv X pins σ' H' s7 ∧ tn i s7.heap ∧ (∀ b ∈ fp, H' b = none) ∧ W i m σ' H' := fun {σ7 H7} I7 n7 => by
      obtain ⟨m', hm, w7⟩ := hN σ7 H7 n7
      refine ⟨m', hm, i + 1, σ7, H7, I7.unpinned, T.keep _ _ _ st5 fun b hb o e => (I7.pin (b, o) (List.mem_append_right _ (List.mem_append_right _ (mem_pinsAt hb e)))).1, fun b hb => ?_, w7⟩
      obtain ⟨o, e, d⟩ := T.obj _ _ st5 b hb
      exact (I7.pin (b, o) (List.mem_append_right _ (List.mem_append_right _ (mem_pinsAt hb e)))).2.1
    cases f with
    | next => obtain ⟨σ7, H7, I7, n7⟩ := q7; exact again I7 n7
    | cont => obtain ⟨σ7, H7, I7, n7⟩ := q7; exact again I7 n7
    | brk => obtain ⟨σ7, H7, I7, q7⟩ := q7; exact ⟨σ7, H7, I7.unpinned, q7⟩
    | ret v => obtain ⟨x7, σ7, H7, I7, r7, q7⟩ := q7; exact ⟨x7, σ7, H7, I7.unpinned, r7, q7⟩
end

/-! ### the forms one uses -/
/-- over a list that the body leaves as it is -/
theorem for_list {K : PySem.W.Frag} {a : Addr} {xs : List V} {g : TG} {tb : TS} {D : Ends} {σ : St} {H : Hp} (Pv : Nat → St → Hp → Prop) (h0 : Pv 0 σ H) (hl : ∀ i σ H, i ≤ xs.length → Pv i σ H → SqL K H a xs)
    (hs : ∀ i x σ H, xs[i]? = some x → Pv i σ H → g x σ H fun σ2 H2 => tb { D with nx := Pv (i + 1), ct := Pv (i + 1), bk := D.nx } σ2 H2) (hd : ∀ σ H, Pv xs.length σ H → D.nx σ H) :
    ∃ W : Nat → Nat → St → Hp → Prop, (∃ m, W 0 m σ H) ∧ ∀ i m σ H, W i m σ H →
      ((Itl K a).stop i H ∧ D.nx σ H) ∨ ((Itl K a).go i H ∧ ∃ N : St → Hp → Prop, (∀ σ' H', N σ' H' → ∃ m', m' < m ∧ W (i + 1) m' σ' H') ∧ ∀ x H', (Itl K a).yld i H x H' → g x σ H' fun σ2 H2 => tb { D with nx := N, ct := N, bk := D.nx } σ2 H2) := by
  refine ⟨fun i m σ H => m = xs.length - i ∧ i ≤ xs.length ∧ Pv i σ H, ⟨xs.length, by simp, Nat.zero_le _, h0⟩, ?_⟩
  rintro i m σ H ⟨rfl, hi, p⟩
  have q := hl i σ H hi p
  by_cases hlt : i < xs.length
  · refine .inr ⟨⟨xs, xs[i], q, by simp [hlt]⟩, Pv (i + 1), fun σ' H' p' => ⟨xs.length - (i + 1), by omega, rfl, hlt, p'⟩, fun x H' y => ?_⟩
    obtain ⟨e, y⟩ := y
    subst e
    exact hs i x σ _ (y xs q) p
  · have e : i = xs.length := by omega
    subst e
    exact .inl ⟨⟨xs, q, Nat.le_refl _⟩, hd σ H p⟩
theorem for_tup {K : PySem.W.Frag} {a : Addr} {xs : List V} {g : TG} {tb : TS} {D : Ends} {σ : St} {H : Hp} (Pv : Nat → St → Hp → Prop) (h0 : Pv 0 σ H) (hl : ∀ i σ H, i ≤ xs.length → Pv i σ H → SqT K H a xs)
    (hs : ∀ i x σ H, xs[i]? = some x → Pv i σ H → g x σ H fun σ2 H2 => tb { D with nx := Pv (i + 1), ct := Pv (i + 1), bk := D.nx } σ2 H2) (hd : ∀ σ H, Pv xs.length σ H → D.nx σ H) :
    ∃ W : Nat → Nat → St → Hp → Prop, (∃ m, W 0 m σ H) ∧ ∀ i m σ H, W i m σ H →
      ((Itt K a).stop i H ∧ D.nx σ H) ∨ ((Itt K a).go i H ∧ ∃ N : St → Hp → Prop, (∀ σ' H', N σ' H' → ∃ m', m' < m ∧ W (i + 1) m' σ' H') ∧ ∀ x H', (Itt K a).yld i H x H' → g x σ H' fun σ2 H2 => tb { D with nx := N, ct := N, bk := D.nx } σ2 H2) := by
  refine ⟨fun i m σ H => m = xs.length - i ∧ i ≤ xs.length ∧ Pv i σ H, ⟨xs.length, by simp, Nat.zero_le _, h0⟩, ?_⟩
  rintro i m σ H ⟨rfl, hi, p⟩
  have q := hl i σ H hi p
  by_cases hlt : i < xs.length
  · refine .inr ⟨⟨xs, xs[i], q, by simp [hlt]⟩, Pv (i + 1), fun σ' H' p' => ⟨xs.length - (i + 1), by omega, rfl, hlt, p'⟩, fun x H' y => ?_⟩
    obtain ⟨e, y⟩ := y
    subst e
    exact hs i x σ _ (y xs q) p
  · have e : i = xs.length := by omega
    subst e
    exact .inl ⟨⟨xs, q, Nat.le_refl _⟩, hd σ H p⟩
theorem for_range {lo : Int} {n : Nat} {g : TG} {tb : TS} {D : Ends} {σ : St} {H : Hp} (Pv : Nat → St → Hp → Prop) (h0 : Pv 0 σ H)
    (hs : ∀ i σ H, i < n → Pv i σ H → g (.int (lo + i)) σ H fun σ2 H2 => tb { D with nx := Pv (i + 1), ct := Pv (i + 1), bk := D.nx } σ2 H2) (hd : ∀ σ H, Pv n σ H → D.nx σ H) :
    ∃ W : Nat → Nat → St → Hp → Prop, (∃ m, W 0 m σ H) ∧ ∀ i m σ H, W i m σ H →
      ((Itr lo n).stop i H ∧ D.nx σ H) ∨ ((Itr lo n).go i H ∧ ∃ N : St → Hp → Prop, (∀ σ' H', N σ' H' → ∃ m', m' < m ∧ W (i + 1) m' σ' H') ∧ ∀ x H', (Itr lo n).yld i H x H' → g x σ H' fun σ2 H2 => tb { D with nx := N, ct := N, bk := D.nx } σ2 H2) := by
  refine ⟨fun i m σ H => m = n - i ∧ i ≤ n ∧ Pv i σ H, ⟨n, by simp, Nat.zero_le _, h0⟩, ?_⟩
  rintro i m σ H ⟨rfl, hi, p⟩
  by_cases hlt : i < n
  · refine .inr ⟨hlt, Pv (i + 1), fun σ' H' p' => ⟨n - (i + 1), by omega, rfl, hlt, p'⟩, fun x H' y => ?_⟩
    obtain ⟨e, y⟩ := y
    subst e y
    exact hs i σ _ hlt p
  · have e : i = n := by omega
    subst e
    exact .inl ⟨Nat.le_refl _, hd σ H p⟩
end L2

namespace L2
open PySem PySem.Spec PyProof.Rows

abbrev R2 := V → V → Hp → VK → Prop
/-- a two-place operation on values: f is binaryOp op, inplaceOp op or compareOp op -/
def OpR (X : Cx) (f : Value → Value → Sem Value) (r : R2) : Prop :=
  ∀ (pins : List (Addr × Obj)) (s : Shared) (σ : St) (H : Hp) (x y : V) (v u : Value) (Q : VK), Inv X pins σ H s → RelV x v → RelV y u → r x y H Q →
    wpAny (model X.prog X.w) X.A (f v u) (EP X pins σ Q) X.xe s
/-- a one-place operation -/
def UnR (X : Cx) (f : Value → Sem Value) (r : V → Hp → VK → Prop) : Prop :=
  ∀ (pins : List (Addr × Obj)) (s : Shared) (σ : St) (H : Hp) (x : V) (v : Value) (Q : VK), Inv X pins σ H s → RelV x v → r x H Q →
    wpAny (model X.prog X.w) X.A (f v) (EP X pins σ Q) X.xe s
/-- a call of a value that is known (a builtin, a type) with values -/
def CallR (X : Cx) (f : Value) (r : List V → Hp → VK → Prop) : Prop :=
  ∀ (pins : List (Addr × Obj)) (s : Shared) (σ : St) (H : Hp) (xs : List V) (us : List Value) (Q : VK), Inv X pins σ H s → Vals xs us → r xs H Q →
    wpAny (model X.prog X.w) X.A (call f us) (EP X pins σ Q) X.xe s
/-- a value's truth -/
def TruR (X : Cx) (r : V → Hp → (Bool → Hp → Prop) → Prop) : Prop :=
  ∀ (pins : List (Addr × Obj)) (s : Shared) (σ : St) (H : Hp) (x : V) (v : Value) (Q : Bool → Hp → Prop), Inv X pins σ H s → RelV x v → r x H Q →
    wpAny (model X.prog X.w) X.A (truthy v) (TP X pins σ Q) X.xe s

def tOp (r : R2) (ta tb : TE) : TE := fun σ H Q => ta σ H fun x H1 => tb σ H1 fun y H2 => r x y H2 Q
def tUn (r : V → Hp → VK → Prop) (ta : TE) : TE := fun σ H Q => ta σ H fun x H1 => r x H1 Q
/-- ints in, under C, and a value out -/
def rI (C : Int → Int → Prop) (g : Int → Int → V) : R2 := fun x y H Q => ∃ i j, x = .int i ∧ y = .int j ∧ C i j ∧ Q (g i j) H
def rI0 (g : Int → Int → V) : R2 := fun x y H Q => ∃ i j, x = .int i ∧ y = .int j ∧ Q (g i j) H
def rU (g : Int → V) : V → Hp → VK → Prop := fun x H Q => ∃ i, x = .int i ∧ Q (g i) H

section
variable {X : Cx} {a b c : Expr} {ta tb tc : TE} {pos : Pos}

theorem binT (ha : PE X a ta) (hb : PE X b tb) {pins : List (Addr × Obj)} {s : Shared} {σ : St} {H : Hp} {R : V → V → Hp → Prop} (I : Inv X pins σ H s)
    (h : ta σ H fun x H1 => tb σ H1 fun y H2 => R x y H2) {Q : Value → Shared → Prop} {f : Value → Value → Sem Value}
    (hf : ∀ v u s2 x y H2, Inv X pins σ H2 s2 → RelV x v → RelV y u → R x y H2 → wpAny (model X.prog X.w) X.A (f v u) Q X.xe s2) :
    wpAny (model X.prog X.w) X.A (eval a X.env) (fun v s₁ => wpAny (model X.prog X.w) X.A (eval b X.env) (fun u s₂ => wpAny (model X.prog X.w) X.A (f v u) Q X.xe s₂) X.xe s₁) X.xe s := by
  refine thn (ha pins s σ H _ I h) fun v s1 ⟨x, H1, I1, r1, q1⟩ => ?_
  refine thn (hb pins s1 σ H1 _ I1 q1) fun u s2 ⟨y, H2, I2, r2, q2⟩ => ?_
  exact hf v u s2 x y H2 I2 r1 r2 q2

theorem pe_op {op : Operator} {r : R2} (ho : OpR X (binaryOp op) r) (ha : PE X a ta) (hb : PE X b tb) : PE X (.BinOp a op b pos) (tOp r ta tb) := by
  intro pins s σ H Q I h
  exact wpAny_BinOp (binT ha hb I h fun v u s2 x y H2 I2 rx ry q => ho pins s2 σ H2 x y v u Q I2 rx ry q)
theorem pe_un {op : UnaryOp} {r : V → Hp → VK → Prop} (ho : UnR X (unaryOp op) r) (ha : PE X a ta) : PE X (.UnaryOp op a pos) (tUn r ta) := by
  intro pins s σ H Q I h
  exact UnaryOp_ (thn (ha pins s σ H _ I h) fun v s1 ⟨x, H1, I1, r1, q1⟩ => ho pins s1 σ H1 x v Q I1 r1 q1)
/-! ### ints -/
theorem opI {f : Value → Value → Sem Value} {C : Int → Int → Prop} {g : Int → Int → Int}
    (rule : ∀ (i j : Int) (t u : Tok) (s : Shared) (Q : Value → Shared → Prop) (E : Value → Shared → Prop), C i j → Q (.int (g i j) s.toks) { s with toks := s.toks + 1 } → wpAny (model X.prog X.w) X.A (f (.int i t) (.int j u)) Q E s) :
    OpR X f (rI C fun i j => .int (g i j)) := by
  intro pins s σ H x y v u Q I rx ry h
  obtain ⟨i, j, rfl, rfl, hc, q⟩ := h
  obtain ⟨t, rfl⟩ := rx
  obtain ⟨t', rfl⟩ := ry
  exact rule i j t t' s _ _ hc ⟨.int (g i j), H, I.tok _, ⟨_, rfl⟩, q⟩
theorem opI0 {f : Value → Value → Sem Value} {g : Int → Int → Int}
    (rule : ∀ (i j : Int) (t u : Tok) (s : Shared) (Q : Value → Shared → Prop) (E : Value → Shared → Prop), Q (.int (g i j) s.toks) { s with toks := s.toks + 1 } → wpAny (model X.prog X.w) X.A (f (.int i t) (.int j u)) Q E s) :
    OpR X f (rI0 fun i j => .int (g i j)) := by
  intro pins s σ H x y v u Q I rx ry h
  obtain ⟨i, j, rfl, rfl, q⟩ := h
  obtain ⟨t, rfl⟩ := rx
  obtain ⟨t', rfl⟩ := ry
  exact rule i j t t' s _ _ ⟨.int (g i j), H, I.tok _, ⟨_, rfl⟩, q⟩
theorem opB0 {f : Value → Value → Sem Value} {g : Int → Int → Bool}
    (rule : ∀ (i j : Int) (t u : Tok) (s : Shared) (Q : Value → Shared → Prop) (E : Value → Shared → Prop), Q (.bool (g i j)) s → wpAny (model X.prog X.w) X.A (f (.int i t) (.int j u)) Q E s) :
    OpR X f (rI0 fun i j => .bl (g i j)) := by
  intro pins s σ H x y v u Q I rx ry h
  obtain ⟨i, j, rfl, rfl, q⟩ := h
  obtain ⟨t, rfl⟩ := rx
  obtain ⟨t', rfl⟩ := ry
  exact rule i j t t' s _ _ ⟨.bl (g i j), H, I, rfl, q⟩

def CDiv (i j : Int) : Prop := 0 < j ∧ j < 1073741824
def CMul (i j : Int) : Prop := (-(2 ^ 64) < i ∧ i < 2 ^ 64) ∨ (-(2 ^ 64) < j ∧ j < 2 ^ 64)
theorem CMul.ok {i j : Int} (h : CMul i j) : IntMulOk i j := by
  rcases h with ⟨h1, h2⟩ | ⟨h1, h2⟩
  · exact .of_left (intBits_le_64 h1 h2)
  · exact .of_right (intBits_le_64 h1 h2)
theorem op_add : OpR X (binaryOp .Add) (rI0 fun i j => .int (i + j)) := opI0 fun _ _ _ _ _ _ _ q => add_int q
theorem op_sub : OpR X (binaryOp .Sub) (rI0 fun i j => .int (i - j)) := opI0 fun _ _ _ _ _ _ _ q => sub_int q
theorem op_mul : OpR X (binaryOp .Mult) (rI CMul fun i j => .int (i * j)) := opI fun _ _ _ _ _ _ _ hc q => mul_int q hc.ok
/-- // by a positive divisor -/
theorem op_fdiv : OpR X (binaryOp .FloorDiv) (rI CDiv fun i j => .int (i / j)) := opI fun i j _ _ _ _ _ hc q => by
  have h1 : (0 : Int) < j := hc.1
  have h2 : j < 1073741824 := hc.2
  exact floordiv_int (by omega) (by rw [Int.fdiv_eq_ediv_of_nonneg i (by omega)]; exact q) (.inl (PyProof.noPylong_small (by omega)))
/-- % by a positive divisor of any size -/
theorem op_mod : OpR X (binaryOp .Mod) (rI (fun _ j => 0 < j) fun i j => .int (i % j)) := opI fun i j _ _ _ _ _ hc q => by
  have h1 : (0 : Int) < j := hc
  exact mod_int' (by omega) (by rw [Int.fmod_eq_emod_of_nonneg i (by omega)]; exact q)
theorem unI {f : Value → Sem Value} {g : Int → Int}
    (rule : ∀ (i : Int) (t : Tok) (s : Shared) (Q : Value → Shared → Prop) (E : Value → Shared → Prop), Q (.int (g i) s.toks) { s with toks := s.toks + 1 } → wpAny (model X.prog X.w) X.A (f (.int i t)) Q E s) :
    UnR X f (rU fun i => .int (g i)) := by
  intro pins s σ H x v Q I rx h
  obtain ⟨i, rfl, q⟩ := h
  obtain ⟨t, rfl⟩ := rx
  exact rule i t s _ _ ⟨.int (g i), H, I.tok _, ⟨_, rfl⟩, q⟩
theorem un_neg : UnR X (unaryOp .USub) (rU fun i => .int (-i)) := unI fun _ _ _ _ _ q => neg_int q
/-! ### bools among ints: n += (a < b) -/
end

/-! ### comparisons -/
/-- the scalars that == tells apart as data does -/
def scal : V → V → Bool
  | .non, .non => true | .non, .int _ => true | .int _, .non => true | .non, .bl _ => true | .bl _, .non => true | .non, .str _ => true | .str _, .non => true
  | .int _, .int _ => true | .bl _, .bl _ => true | .str _, .str _ => true | .byt _, .byt _ => true
  | .int _, .str _ => true | .str _, .int _ => true | .bl _, .str _ => true | .str _, .bl _ => true
  | _, _ => false
def rEq : R2 := fun x y H Q => scal x y = true ∧ Q (.bl (decide (x = y))) H
def rNe : R2 := fun x y H Q => scal x y = true ∧ Q (.bl (!decide (x = y))) H

theorem dec_int {i j : Int} : decide (V.int i = V.int j) = (i == j) := by
  rw [Bool.eq_iff_iff]
  simp
theorem dec_bl {i j : Bool} : decide (V.bl i = V.bl j) = (i == j) := by
  rw [Bool.eq_iff_iff]
  simp
theorem dec_str {i j : Str} : decide (V.str i = V.str j) = (i == j) := by
  rw [Bool.eq_iff_iff]
  simp
theorem dec_byt {i j : Array UInt8} : decide (V.byt i = V.byt j) = (i.toList == j.toList) := by
  rw [Bool.eq_iff_iff]
  cases i
  cases j
  simp

section
variable {X : Cx} {a b c : Expr} {ta tb tc : TE} {pos : Pos}
theorem fin_bl {pins : List (Addr × Obj)} {σ : St} {H : Hp} {s : Shared} {Q : VK} {k k' : Bool} (I : Inv X pins σ H s) (q : Q (.bl k) H) (e : k = k') : EP X pins σ Q (.bool k') s := by
  subst e
  exact ⟨.bl k, H, I, rfl, q⟩
theorem op_eq : OpR X (compareOp .Eq) rEq := by
  intro pins s σ H x y v u Q I rx ry h
  obtain ⟨hs, q⟩ := h
  cases x with
  | non =>
    cases rx
    cases y with
    | non => cases ry; exact PySem.EqNone.eq_none_none (fin_bl I q (by simp))
    | bl j => cases ry; exact PySem.EqNone.eq_none_bool (fin_bl I q (by simp))
    | int j => obtain ⟨t', rfl⟩ := ry; exact PySem.EqNone.eq_none_int (fin_bl I q (by simp))
    | str j => obtain ⟨t', rfl⟩ := ry; exact PySem.EqNone.eq_none_str (fin_bl I q (by simp))
    | _ => exact absurd (show false = true from hs) Bool.false_ne_true
  | bl i =>
    cases rx
    cases y with
    | non => cases ry; exact PySem.EqNone.eq_bool_none (fin_bl I q (by simp))
    | bl j => cases ry; exact eq_bool (fin_bl I q dec_bl)
    | str j => obtain ⟨t', rfl⟩ := ry; exact PySem.EqMixed.eq_bool_str (fin_bl I q (by simp))
    | _ => exact absurd (show false = true from hs) Bool.false_ne_true
  | int i =>
    obtain ⟨t, rfl⟩ := rx
    cases y with
    | non => cases ry; exact PySem.EqNone.eq_int_none (fin_bl I q (by simp))
    | int j => obtain ⟨t', rfl⟩ := ry; exact eq_int (fin_bl I q dec_int)
    | str j => obtain ⟨t', rfl⟩ := ry; exact PySem.EqMixed.eq_int_str (fin_bl I q (by simp))
    | _ => exact absurd (show false = true from hs) Bool.false_ne_true
  | str i =>
    obtain ⟨t, rfl⟩ := rx
    cases y with
    | non => cases ry; exact PySem.EqNone.eq_str_none (fin_bl I q (by simp))
    | bl j => cases ry; exact PySem.EqMixed.eq_str_bool (fin_bl I q (by simp))
    | int j => obtain ⟨t', rfl⟩ := ry; exact PySem.EqMixed.eq_str_int (fin_bl I q (by simp))
    | str j => obtain ⟨t', rfl⟩ := ry; exact eq_str (fin_bl I q dec_str)
    | _ => exact absurd (show false = true from hs) Bool.false_ne_true
  | byt i =>
    obtain ⟨t, rfl⟩ := rx
    cases y with
    | byt j => obtain ⟨t', rfl⟩ := ry; exact PySem.W.eq_bytes (fin_bl I q dec_byt)
    | _ => exact absurd (show false = true from hs) Bool.false_ne_true
  | _ => cases y <;> exact absurd (show false = true from hs) Bool.false_ne_true
theorem op_ne : OpR X (compareOp .NotEq) rNe := by
  intro pins s σ H x y v u Q I rx ry h
  obtain ⟨hs, q⟩ := h
  cases x with
  | non =>
    cases rx
    cases y with
    | non => cases ry; exact PySem.EqNone.ne_none_none (fin_bl I q (by simp))
    | bl j => cases ry; exact PySem.EqNone.ne_none_bool (fin_bl I q (by simp))
    | int j => obtain ⟨t', rfl⟩ := ry; exact PySem.EqNone.ne_none_int (fin_bl I q (by simp))
    | str j => obtain ⟨t', rfl⟩ := ry; exact PySem.EqNone.ne_none_str (fin_bl I q (by simp))
    | _ => exact absurd (show false = true from hs) Bool.false_ne_true
  | bl i =>
    cases rx
    cases y with
    | non => cases ry; exact PySem.EqNone.ne_bool_none (fin_bl I q (by simp))
    | bl j => cases ry; exact ne_bool (fin_bl I q (congrArg not dec_bl))
    | str j => obtain ⟨t', rfl⟩ := ry; exact PySem.EqMixed.ne_bool_str (fin_bl I q (by simp))
    | _ => exact absurd (show false = true from hs) Bool.false_ne_true
  | int i =>
    obtain ⟨t, rfl⟩ := rx
    cases y with
    | non => cases ry; exact PySem.EqNone.ne_int_none (fin_bl I q (by simp))
    | int j => obtain ⟨t', rfl⟩ := ry; exact ne_int (fin_bl I q (congrArg not dec_int))
    | str j => obtain ⟨t', rfl⟩ := ry; exact PySem.EqMixed.ne_int_str (fin_bl I q (by simp))
    | _ => exact absurd (show false = true from hs) Bool.false_ne_true
  | str i =>
    obtain ⟨t, rfl⟩ := rx
    cases y with
    | non => cases ry; exact PySem.EqNone.ne_str_none (fin_bl I q (by simp))
    | bl j => cases ry; exact PySem.EqMixed.ne_str_bool (fin_bl I q (by simp))
    | int j => obtain ⟨t', rfl⟩ := ry; exact PySem.EqMixed.ne_str_int (fin_bl I q (by simp))
    | str j => obtain ⟨t', rfl⟩ := ry; exact ne_str (fin_bl I q (congrArg not dec_str))
    | _ => exact absurd (show false = true from hs) Bool.false_ne_true
  | byt i =>
    obtain ⟨t, rfl⟩ := rx
    cases y with
    | byt j => obtain ⟨t', rfl⟩ := ry; exact PySem.W.ne_bytes (fin_bl I q (congrArg not dec_byt))
    | _ => exact absurd (show false = true from hs) Bool.false_ne_true
  | _ => cases y <;> exact absurd (show false = true from hs) Bool.false_ne_true

theorem op_lt : OpR X (compareOp .Lt) (rI0 fun i j => .bl (decide (i < j))) := opB0 fun _ _ _ _ _ _ _ q => lt_int q
theorem op_le : OpR X (compareOp .LtE) (rI0 fun i j => .bl (decide (i ≤ j))) := opB0 fun _ _ _ _ _ _ _ q => le_int q
theorem op_gt : OpR X (compareOp .Gt) (rI0 fun i j => .bl (decide (j < i))) := opB0 fun _ _ _ _ _ _ _ q => gt_int q
theorem op_ge : OpR X (compareOp .GtE) (rI0 fun i j => .bl (decide (j ≤ i))) := opB0 fun _ _ _ _ _ _ _ q => ge_int q
theorem nomark (b : Expr) {op : CmpOp} (h : op ≠ .In := by decide) (h2 : op ≠ .NotIn := by decide) : behindInMarks op b = false := by
  have e1 : (op == CmpOp.In) = false := by cases op <;> first | rfl | exact absurd rfl h
  have e2 : (op == CmpOp.NotIn) = false := by cases op <;> first | rfl | exact absurd rfl h2
  cases b <;> simp [behindInMarks, e1, e2]
/-- a comparison as a value; hm: nomark b, or (for in, not in) by with_unfolding_all rfl -/
theorem pe_cmpR {op : CmpOp} {r : R2} (ho : OpR X (compareOp op) r) (ha : PE X a ta) (hb : PE X b tb) (hm : behindInMarks op b = false) : PE X (.Compare a [op] [b] pos) (tOp r ta tb) := by
  intro pins s σ H Q I h
  exact wpAny_Compare1 (binT ha hb I h fun v u s2 x y H2 I2 rx ry q => ho pins s2 σ H2 x y v u Q I2 rx ry q) hm
/-- a reading of a value as a test -/
def tTest (t : TE) : TT := fun σ H Q => t σ H fun x H' => ∃ k, x = .bl k ∧ Q k H'
theorem pt_cmpR {op : CmpOp} {r : R2} (ho : OpR X (compareOp op) r) (ha : PE X a ta) (hb : PE X b tb) (hm : behindInMarks op b = false) : PT X (.Compare a [op] [b] pos) (tTest (tOp r ta tb)) := by
  intro pins s σ H Q I h
  refine wpAny_isTrue_Compare1 (thn (ha pins s σ H _ I h) fun v s1 ⟨x, H1, I1, r1, q1⟩ => thn (hb pins s1 σ H1 _ I1 q1) fun u s2 ⟨y, H2, I2, r2, q2⟩ =>
    thn (ho pins s2 σ H2 x y v u _ I2 r1 r2 q2) fun c s3 ⟨z, H3, I3, r3, k, e, q3⟩ => ?_) hm
  subst e
  cases r3
  exact wpAny_truthy_bool ⟨H3, I3, q3⟩
/-- a op1 b op2 c -/
def tChain (r r' : R2) (ta tb tc : TE) : TE := fun σ H Q => ta σ H fun x H1 => tb σ H1 fun y H2 => r x y H2 fun z H3 => ∃ k, z = .bl k ∧
  (if k = true then tc σ H3 fun w' H4 => r' y w' H4 Q else Q (.bl false) H3)
theorem pt_chain {op op' : CmpOp} {r r' : R2} (ho : OpR X (compareOp op) r) (ho' : OpR X (compareOp op') r') (ha : PE X a ta) (hb : PE X b tb) (hc : PE X c tc)
    (hm : lastMarks [op, op'] [b, c] = false := by with_unfolding_all rfl) : PT X (.Compare a [op, op'] [b, c] pos) (tTest (tChain r r' ta tb tc)) := by
  intro pins s σ H Q I h
  refine isTrue_chain (thn (ha pins s σ H _ I h) fun v s1 ⟨x, H1, I1, r1, q1⟩ => test_link (thn (hb pins s1 σ H1 _ I1 q1) fun u s2 ⟨y, H2, I2, r2, q2⟩ =>
    thn (ho pins s2 σ H2 x y v u _ I2 r1 r2 q2) fun d s3 ⟨z, H3, I3, r3, k, e, q3⟩ => ?_)) hm
  subst e
  cases r3
  refine wpAny_truthy_bool ?_
  cases k with
  | false =>
    obtain ⟨k', e', q'⟩ := q3
    cases e'
    exact ite_ff ⟨H3, I3, q'⟩
  | true =>
    refine ite_tt (test_last (thn (hc pins s3 σ H3 _ I3 q3) fun w' s4 ⟨z', H4, I4, r4, q4⟩ => thn (ho' pins s4 σ H4 y z' u w' _ I4 r2 r4 q4) fun d' s5 ⟨z2, H5, I5, r5, k2, e2, q5⟩ => ?_))
    subst e2
    cases r5
    exact wpAny_truthy_bool ⟨H5, I5, q5⟩

/-! ### truth -/
/-- a value's truth by the abstract heap -/
def TruV (K : PySem.W.Frag) (x : V) (H : Hp) (k : Bool) : Prop :=
  match x with
  | .non => k = false
  | .bl b => k = b
  | .int i => k = (i != 0)
  | .str y => y.length ≤ sizeLine ∧ k = ((y.length : Int) != 0)
  | .byt y => y.size ≤ sizeLine ∧ k = ((y.size : Int) != 0)
  | .ref p => (∃ xs, SqL K H p xs ∧ k = !xs.isEmpty) ∨ (∃ xs, SqT K H p xs ∧ k = !xs.isEmpty) ∨ ∃ kvs, H p = some (.dK kvs) ∧ k = !kvs.isEmpty
  | _ => False
theorem isEmpty_kv {κ : Type} {kvs : List (κ × V)} {vs : List (κ × Value)} (r : KV kvs vs) : (!vs.isEmpty) = !kvs.isEmpty := by
  cases r <;> rfl
theorem isEmpty_of {xs : List V} {its : List Value} (r : Vals xs its) : (!its.toArray.isEmpty) = !xs.isEmpty := by
  cases r <;> simp
theorem line63 : (sizeLine : Nat) < 2 ^ 63 := by rw [sizeLine_eq]; decide
theorem tru_ok : TruR X (fun x H Q => ∃ k, TruV X.K x H k ∧ Q k H) := by
  intro pins s σ H x v Q I rx h
  obtain ⟨k, e, q⟩ := h
  have hl := line63
  have hs : sizeLine = 16777216 := sizeLine_eq
  cases x with
  | non =>
    cases rx
    have e' : k = false := e
    subst e'
    exact truthy_none ⟨H, I, q⟩
  | bl b =>
    cases rx
    have e' : k = b := e
    subst e'
    exact wpAny_truthy_bool ⟨H, I, q⟩
  | int i =>
    obtain ⟨t, rfl⟩ := rx
    have e' : k = (i != 0) := e
    subst e'
    exact PySem.P.truthy_int ⟨H, I, q⟩
  | str y =>
    obtain ⟨t, rfl⟩ := rx
    obtain ⟨hy, e'⟩ : y.length ≤ sizeLine ∧ k = ((y.length : Int) != 0) := e
    subst e'
    exact PySem.P.truthy_str (by omega) ⟨H, I.tok _, q⟩
  | byt y =>
    obtain ⟨t, rfl⟩ := rx
    obtain ⟨hy, e'⟩ : y.size ≤ sizeLine ∧ k = ((y.size : Int) != 0) := e
    subst e'
    exact PySem.W.truthy_bytes (by omega) ⟨H, I.tok _, q⟩
  | ref p =>
    cases rx
    have e' : (∃ xs, SqL X.K H p xs ∧ k = !xs.isEmpty) ∨ (∃ xs, SqT X.K H p xs ∧ k = !xs.isEmpty) ∨ ∃ kvs, H p = some (.dK kvs) ∧ k = !kvs.isEmpty := e
    rcases e' with ⟨xs, hx, e'⟩ | ⟨xs, hx, e'⟩ | ⟨kvs, hx, e'⟩
    · subst e'
      obtain ⟨its, r, pl, hz⟩ := I.list hx
      have hlen := r.length
      exact wpAny_truthy_list pl.isList (by simp only [List.size_toArray]; omega) ⟨H, I.tok _, by rw [isEmpty_of r]; exact q⟩
    · subst e'
      obtain ⟨its, r, pl, hz⟩ := I.tuple hx
      have hlen := r.length
      exact truthy_tuple pl (by simp only [List.size_toArray]; omega) ⟨H, I.tok _, by rw [isEmpty_of r]; exact q⟩
    · subst e'
      obtain ⟨hz, hS, vs, r, m⟩ : kvs.length ≤ sizeLine ∧ (p == sysModules) = false ∧ ∃ vs, KV kvs vs ∧ s.heap.DictOf (mixKind X.prog X.w) p vs := I.hok p _ hx
      have hlen : kvs.length = vs.length := Paired.length r
      exact wpAny_truthy_dict hS m (by omega) ⟨H, I.tok _, by rw [isEmpty_kv r]; exact q⟩
  | _ => exact (show False from e).elim
/-- any expression whose test is its value's truth (a name, a call, a subscript, a field ..: he by fun _ => rfl) -/
theorem pt_truth (ha : PE X a ta) (he : ∀ whole, isTrue a X.env whole = (do let v ← whole; standAt a.pos; holding [v] (truthy v))) :
    PT X a (fun σ H Q => ta σ H fun x H' => ∃ k, TruV X.K x H' k ∧ Q k H') := by
  intro pins s σ H Q I h
  exact isTrue_plain (thn (ha pins s σ H _ I h) fun v s1 ⟨x, H1, I1, r1, q1⟩ => tru_ok pins s1 σ H1 x v Q I1 r1 q1) (he _)

/-! ### strs and bytes -/
/-! ### scalar builtins, by CallR -/
theorem vals1 {x : V} {us : List Value} (r : Vals [x] us) : ∃ u, us = [u] ∧ RelV x u := by
  cases r with
  | cons r1 r2 => cases r2; exact ⟨_, rfl, r1⟩
theorem vals2 {x y : V} {us : List Value} (r : Vals [x, y] us) : ∃ u w', us = [u, w'] ∧ RelV x u ∧ RelV y w' := by
  cases r with
  | cons r1 r2 =>
    cases r2 with
    | cons r3 r4 => cases r4; exact ⟨_, _, rfl, r1, r3⟩
end
end L2

namespace L2
open PySem PySem.Spec PyProof.Rows

/-! ### an instance, its attributes a map -/
structure ObjM (h : Heap) (x dx C : Addr) (mA : Str → Option Value) : Prop where
  obj : h.get? x = some (PySem.W.instObj C dx)
  ns : h.Ns1 dx mA
  ne : dx ≠ x

theorem lookIn_ns {h : Heap} {dx : Addr} {mA : Str → Option Value} (n : h.Ns1 dx mA) : ∃ od, h.get? dx = some od ∧ ∀ name, PySem.W.lookIn name od = some (mA name) := by
  obtain ⟨o, es, ep, ho, hd, hk, _, hm⟩ := n
  refine ⟨o, ho, fun name => ?_⟩
  have e := hm name
  unfold nsFind findBy at e
  rw [← Array.find?_toList] at e
  unfold PySem.W.lookIn
  rw [hd]
  dsimp only
  split
  · rename_i y q
    rw [q] at e
    exact congrArg some e
  · rename_i q
    rw [q] at e
    have a : es.toList.any (·.refKey) = false := by
      rw [List.any_eq_false]
      intro y hy
      obtain ⟨z, t, hkey⟩ := hk y (Array.mem_toList_iff.mp hy)
      simp [DictEntry.refKey, hkey]
    have a' : ¬ es.toList.any (·.refKey) = true := by rw [a]; exact Bool.false_ne_true
    rw [if_neg a']
    exact congrArg some e

theorem ObjM.look {h : Heap} {x dx C : Addr} {mA : Str → Option Value} (I : ObjM h x dx C mA) : ∃ od, PySem.W.InstAt h x (PySem.W.instObj C dx) C (some od) ∧ ∀ name, PySem.W.lookIn name od = some (mA name) :=
  let ⟨od, ho, hl⟩ := lookIn_ns I.ns
  ⟨od, ⟨I.obj, rfl, rfl, ho⟩, hl⟩

section
variable {prog : Program} {w : World} {A : Around} {E : Value → Shared → Prop} {s : Shared} {K : PySem.W.Frag} {x dx C f : Addr} {mA : Str → Option Value} {name : Str} {v : Value}

end

/-! ### the attributes as a list of pairs -/
section
variable {P : Program} {w : World} {H H' : Hp} {h h' : Heap} {a C dx : Addr} {fs fs' : List (Str × V)}
theorem ins_get (hok : HOk P w H h) (e : H a = some (.ins C dx fs)) : ∃ mA, ObjM h a dx C mA ∧ (∀ f, RelO (fs.lookup f) (mA f)) ∧ PySem.Within mA (fs.map (·.1)) ∧ fs.length ≤ 1000 ∧ H dx = some (.own a) := by
  obtain ⟨d, z, ne, ob, mA, n, r, q⟩ := (show ObjOk P w H h a (.ins C dx fs) from hok a _ e)
  exact ⟨mA, ⟨ob, n, ne⟩, r, q, z, d⟩
end

/-! ### what of the text a class must have -/
structure Cls (K : PySem.W.Frag) (C : Addr) : Prop where
  pg : PySem.W.plainGet K C Str.empty = true
  hd : PySem.W.hasDictIn K C = true
  po : PySem.W.plainOver K C = true
  sa : PySem.W.findIn K (.ref C) "__setattr__" = some (some (.builtin "object.__setattr__"))
theorem Cls.get {K : PySem.W.Frag} {C : Addr} (c : Cls K C) (f : Str) : PySem.W.plainGet K C f = true := c.pg
section
variable {X : Cx} {pins : List (Addr × Obj)} {σ : St} {H : Hp} {s : Shared} {a C dx : Addr} {fs : List (Str × V)} {f : Str} {v : V} {A : Around} {E : Value → Shared → Prop}

end

/-! ### readings and rules -/
section
variable {X : Cx} {o e value : Expr} {f : Str} {pos pos' tpos : Pos} {ta tv : TE}
end

/-! ### isinstance -/
section
variable {X : Cx} {pins : List (Addr × Obj)} {σ : St} {H : Hp} {s : Shared} {A : Around} {E : Value → Shared → Prop} {Q : Value → Shared → Prop} {c : Value} {b : Bool}
/-- the type of a value, as the fragment's deciders take it; for an instance its class -/
inductive TyOf (K : PySem.W.Frag) (H : Hp) : V → Value → Prop where
  | non : TyOf K H .non (.type "NoneType")
  | bl (x : Bool) : TyOf K H (.bl x) (.type "bool")
  | int (i : Int) : TyOf K H (.int i) (.type "int")
  | str (x : Str) : TyOf K H (.str x) (.type "str")
  | flt (x : UInt64) : TyOf K H (.flt x) (.type "float")
  | lst {a : Addr} {xs : List V} (e : H a = some (.lst xs)) : TyOf K H (.ref a) (.type "list")
  | frz {a : Addr} {o : Obj} {xs : List V} (e : H a = some (.frz o (.lst xs))) : TyOf K H (.ref a) (.type "list")
  | tup {a : Addr} {xs : List V} (e : H a = some (.tup xs)) : TyOf K H (.ref a) (.type "tuple")
  | dK {a : Addr} {kvs : List (Key × V)} (e : H a = some (.dK kvs)) : TyOf K H (.ref a) (.type "dict")
  | dT {a : Addr} {kvs : List (List Key × V)} (e : H a = some (.dT kvs)) : TyOf K H (.ref a) (.type "dict")
  | ins {a C dx : Addr} {fs : List (Str × V)} (e : H a = some (.ins C dx fs)) (cl : Cls K C) (ha : PySem.W.findIn K (.ref C) "__class__" = some (some (.builtin "object.__class__")))
      (hn : PySem.W.specialIn K (.builtin "object.__class__") "__get__" = some (some (.builtin "getset_descriptor.__get__"))) (htk : PySem.W.takesIn K (.builtin "object.__class__") = some true)
      (hm : PySem.W.mroIn K C (.type "object") = some true) : TyOf K H (.ref a) (.ref C)
/-- isinstance(x, c) for one class c, a built-in or an own one: kitOne's answer -/
theorem isinst_ok {x : V} {u t : Value} (I : Inv X pins σ H s) (rx : RelV x u) (ty : TyOf X.K H x t) (e : PySem.W.kitOne X.K t c = some b) (h : ∀ tk, Q (.bool b) { s with toks := tk }) :
    wpAny (model X.prog X.w) A (call (.builtin "isinstance") [u, c]) Q E s := by
  cases ty with
  | non => cases (show u = Value.none from rx); exact PySem.W.kia_one PySem.W.kitx_none I.kIn True.intro e (fun z => nomatch z) h
  | bl y => cases (show u = Value.bool y from rx); exact PySem.W.kia_one PySem.W.kitx_bool I.kIn True.intro e (fun z => nomatch z) h
  | int i => obtain ⟨t, q⟩ := (show ∃ t, u = Value.int i t from rx); cases q; exact PySem.W.kia_one PySem.W.kitx_int I.kIn True.intro e (fun z => nomatch z) h
  | str y => obtain ⟨t, q⟩ := (show ∃ t, u = Value.str y t from rx); cases q; exact PySem.W.kia_one PySem.W.kitx_str I.kIn True.intro e (fun z => nomatch z) h
  | flt y => obtain ⟨t, q⟩ := (show ∃ t, u = Value.float y t from rx); cases q; exact PySem.W.kia_one PySem.W.kitx_float I.kIn True.intro e (fun z => nomatch z) h
  | @lst a xs ea =>
    cases (show u = Value.ref a from rx)
    obtain ⟨_, _, n, _, h1⟩ := (show ObjOk X.prog X.w H s.heap a (.lst xs) from I.hok a _ ea)
    exact PySem.W.kia_one PySem.W.kitx_list I.kIn ⟨_, h1, rfl⟩ e (fun z => nomatch z) h
  | @frz a ob xs ea =>
    cases (show u = Value.ref a from rx)
    obtain ⟨_, _, _, n, _, h1⟩ := (show ObjOk X.prog X.w H s.heap a (.frz ob (.lst xs)) from I.hok a _ ea)
    exact PySem.W.kia_one PySem.W.kitx_list I.kIn ⟨_, h1, rfl⟩ e (fun z => nomatch z) h
  | @tup a xs ea =>
    cases (show u = Value.ref a from rx)
    obtain ⟨_, _, _, p⟩ := (show ObjOk X.prog X.w H s.heap a (.tup xs) from I.hok a _ ea)
    obtain ⟨o, h1, h2, _⟩ := p
    exact PySem.W.kia_one PySem.W.kitx_tuple I.kIn ⟨o, h1, h2⟩ e (fun z => nomatch z) h
  | @dK a kvs ea =>
    cases (show u = Value.ref a from rx)
    obtain ⟨_, _, vs, _, p⟩ := (show ObjOk X.prog X.w H s.heap a (.dK kvs) from I.hok a _ ea)
    obtain ⟨o, es, ep, h1, h2, _⟩ := p
    exact PySem.W.kia_one PySem.W.kitx_dict I.kIn ⟨o, h1, h2.1⟩ e (fun z => nomatch z) h
  | @dT a kvs ea =>
    cases (show u = Value.ref a from rx)
    obtain ⟨_, _, xs, _, o, es, ep, h1, h2, _⟩ := (show ObjOk X.prog X.w H s.heap a (.dT kvs) from I.hok a _ ea)
    exact PySem.W.kia_one PySem.W.kitx_dict I.kIn ⟨o, h1, h2.1⟩ e (fun z => nomatch z) h
  | @ins a C dx fs ea cl ha hn htk hm =>
    cases (show u = Value.ref a from rx)
    obtain ⟨mA, O, _⟩ := ins_get I.hok ea
    obtain ⟨od, J, _⟩ := O.look
    exact PySem.W.kia_one (PySem.W.kitx_own (cl.get _) cl.hd ha hn htk hm) I.kIn J e (fun z => nomatch z) h
end
end L2

namespace L2
open PySem PySem.Spec PyProof.Rows

/-! ### room -/
structure Room (k : Nat) (A : Around) : Prop where
  hd : A.handled = none
  dp : A.depth + 3 * k + 5 < recursionLimit
  un : A.units + 16 * k + 200 < cLine
theorem Room.mono {j k : Nat} {A : Around} (r : Room k A) (h : j ≤ k) : Room j A := ⟨r.hd, by have := r.dp; omega, by have := r.un; omega⟩
theorem Room.deeper {k : Nat} {A : Around} (r : Room (k + 1) A) (env : Env) : Room k (A.deeper env) :=
  ⟨r.hd, by have := r.dp; show A.depth + 1 + 3 * k + 5 < _; omega, by have := r.un; show A.units + 3 + 16 * k + 200 < _; omega⟩
theorem Room.depth {k : Nat} {A : Around} (r : Room k A) : A.depth < recursionLimit := by have := r.dp; omega
theorem Room.units0 {k : Nat} {A : Around} (r : Room k A) : A.units < cLine := by have := r.un; omega

/-! ### argument lists and displays -/
def tNil : TA := fun _ H Q => Q [] H
def tCons (ta : TE) (tr : TA) : TA := fun σ H Q => ta σ H fun x H1 => tr σ H1 fun xs H2 => Q (x :: xs) H2
section
variable {X : Cx} {e : Expr} {es : List Expr} {te : TE} {t : TA} {pos : Pos}
theorem pa_nil : PA X [] tNil := fun _ _ _ _ H Q I h => Calls.spliced_nil ⟨[], H, I, .nil, h⟩
theorem pa_cons (ha : PE X e te) (hr : PA X es t) (hs : starEach (e :: es) X.env = (false, eval e X.env) :: starEach es X.env := by rfl) : PA X (e :: es) (tCons te t) := by
  intro pos pins s σ H Q I h
  rw [hs]
  show wpAny _ _ (spliced ((false, eval e X.env) :: backTo pos (starEach es X.env))) _ _ s
  refine Calls.spliced_cons (thn (ha pins s σ H _ I h) fun u s1 ⟨x, H1, I1, r1, q1⟩ => ?_)
  exact thn (hr pos pins s1 σ H1 _ I1 q1) fun us s2 ⟨xs, H2, I2, r2, q2⟩ => ⟨x :: xs, H2, I2, .cons r1 r2, q2⟩

/-- a tuple, a list of written items -/
def tTup (t : TA) : TE := fun σ H Q => t σ H fun xs H1 => xs.length ≤ sizeLine ∧ ∀ p, H1 p = none → Q (.ref p) (upd H1 p (.tup xs))
def tLst (t : TA) : TE := fun σ H Q => t σ H fun xs H1 => xs.length ≤ sizeLine ∧ ∀ p, H1 p = none → Q (.ref p) (upd H1 p (.lst xs))
theorem pe_tup {x1} (h : PA X es t) : PE X (.Tuple es x1 pos) (tTup t) := by
  intro pins s σ H Q I hq
  refine wpAny_Tuple_spliced (thn (h pos pins s σ H _ I hq) fun us s1 ⟨xs, H1, I1, r, z, q⟩ => ⟨by rw [← r.length]; exact z, ?_⟩)
  have hf : H1 s1.heap.objs.size = none := I1.hok.fresh (Nat.le_refl _)
  refine ⟨.ref s1.heap.objs.size, upd H1 s1.heap.objs.size (.tup xs), I1.laid (t' := s1.toks) (fun b u e => Heap.get?_push_of_some _ e) (Nat.le_refl _) ?_, rfl, q _ hf⟩
  exact ⟨z, us, r, ⟨_, Heap.get?_push_size _ rfl, rfl, _, rfl⟩⟩
theorem pe_lst (h : PA X es t) : PE X (.List es pos) (tLst t) := by
  intro pins s σ H Q I hq
  refine wpAny_List_spliced (thn (h pos pins s σ H _ I hq) fun us s1 ⟨xs, H1, I1, r, z, q⟩ => ⟨by rw [← r.length]; exact z, ?_⟩)
  have hf : H1 s1.heap.objs.size = none := I1.hok.fresh (Nat.le_refl _)
  refine ⟨.ref s1.heap.objs.size, upd H1 s1.heap.objs.size (.lst xs), I1.laid (t' := s1.toks) (fun b u e => Heap.get?_push_of_some _ e) (Nat.le_refl _) ?_, rfl, q _ hf⟩
  exact ⟨z, us, 0, r, Heap.get?_push_size _ rfl⟩
end

/-! ### what a def promises -/
/-- a def's promise: the bound arguments in the parameters' order, the heap, the wanted end, the wanted exception -/
abbrev Sp := List V → Hp → VK → XK → Prop
/-- how an exception lies behind a call (file 08 gives it): the callers' frames, abstract heap and state ahead of the call, the wish, the exception, the state -/
abbrev CXT := List Env → Hp → Shared → XK → Value → Shared → Prop

/-- the state at a call -/
structure Env0 (P : Program) (w : World) (K : PySem.W.Frag) (mg : Str → Option Value) (base : Heap) (A : Around) (outer : List Env) (s : Shared) (H : Hp) : Prop where
  frames : A.frames = some outer
  mod : Mod K mg base
  bs : ∀ b o, base.get? b = some o → s.heap.get? b = some o ∧ H b = none
  bsz : base.objs.size ≤ s.heap.objs.size
  funs : s.heap.FunFrames base outer
  frf : ∀ b ∈ frs outer, H b = none
  hok : HOk P w H s.heap
  bare : AllBare s.gens
/-- a call's end -/
def CE (outer : List Env) (P : Program) (w : World) (H : Hp) (s : Shared) (Q : VK) (u : Value) (s' : Shared) : Prop :=
  ∃ v H', s'.os = s.os ∧ AllBare s'.gens ∧ Un (frs outer) [] H H' s.heap s'.heap ∧ HOk P w H' s'.heap ∧ RelV v u ∧ Q v H'
def CR (CX : CXT) (outer : List Env) (P : Program) (w : World) (H : Hp) (s : Shared) (Q : VK) (E : XK) (r : Result) (s' : Shared) : Prop :=
  match r with
  | .ok (.ret u) => CE outer P w H s Q u s'
  | .ok _ => False
  | .error e => CX outer H s E e s'
structure FnOk (P : Program) (w : World) (K : PySem.W.Frag) (mg : Str → Option Value) (base : Heap) (CX : CXT) (k : Nat) (f : Addr) (fd : FuncData) (ps : List Str) (sp : Sp) : Prop where
  len : ∀ vs H Q E, sp vs H Q E → vs.length = ps.length
  run : ∀ (A : Around) (outer : List Env) (s : Shared) (H : Hp) (args : Args) (us : List Value) (vs : List V) (Q : VK) (E : XK), Room k A → Env0 P w K mg base A outer s H → BindsTo s fd args (ps.zip us) → Vals vs us → sp vs H Q E →
    codeAny (model P w) A (.call (.ref f) args) (CR CX outer P w H s Q E) s
section
variable {X : Cx} {pins : List (Addr × Obj)} {σ : St} {H : Hp} {s s' : Shared}
/-- from a body: what a callee wants -/
theorem Inv.env0 (I : Inv X pins σ H s) : Env0 X.prog X.w X.K X.mg X.base X.A X.stack s H :=
  ⟨I.ok.frames, I.ok.mod, I.bs, Nat.le_trans I.ok.bsz I.sz, I.stack, I.stkFree, I.hok, I.bare⟩
/-- behind a call -/
theorem Inv.after {Q : VK} {u : Value} (I : Inv X pins σ H s) (h : CE X.stack X.prog X.w H s Q u s') : EP X pins σ Q u s' := by
  obtain ⟨v, H', os, bare, un, hok, r, q⟩ := h
  obtain ⟨hh, g, d, t, os'⟩ := s'
  obtain rfl : os' = s.os := os
  exact ⟨v, H', I.call (h' := hh) (g' := g) (d' := d) (t' := t) (ch := []) un hok bare (fun b z => absurd z (by simp)), r, q⟩
end

/-! ### calls -/
/-- f(..): the written arguments, then the defaults dvs; E: what is wanted of an exception -/
def tCall (sp : Sp) (dvs : List V) (E : XK) (t : TA) : TE := fun σ H Q => t σ H fun vs H1 => sp (vs ++ dvs) H1 Q E
/-- how the parameters are bound: us the positional arguments, kw the keywords' values by name, ds the defaults that fill up -/
def Binds (K : PySem.W.Frag) (fd : FuncData) (ps : List Str) (ds : List Value) : Prop :=
  ∀ (s : Shared) (us : List Value), K.In s.heap → (us ++ ds).length = ps.length → BindsTo s fd ⟨us, []⟩ (ps.zip (us ++ ds))
/-- every parameter is given -/
theorem Binds.all {K : PySem.W.Frag} {fd : FuncData} {ps : List Str} (h : ∀ us : List Value, us.length = ps.length → bindArgs fd ⟨us, []⟩ = pure (ps.zip us)) : Binds K fd ps [] := fun s us _ hl => by
  rw [List.append_nil] at hl ⊢
  exact .of_eq (h us hl)

/-- an exception of a callee reaches what this body wants of exceptions -/
def Passes (CX : CXT) (X : Cx) (E : XK) : Prop := ∀ (pins : List (Addr × Obj)) (σ : St) (H : Hp) (s : Shared) (e : Value) (s' : Shared), Inv X pins σ H s → CX X.stack H s E e s' → X.xe e s'

section
variable {X : Cx} {CX : CXT} {k : Nat} {f C : Addr} {fd : FuncData} {ps : List Str} {sp : Sp} {dvs : List V} {ds : List Value} {E : XK} {x m : Str} {p pos apos : Pos} {e o : Expr} {es : List Expr} {ta : TE} {t : TA}

/-- the callee runs -/
theorem run_fn {pins : List (Addr × Obj)} {σ : St} {H : Hp} {s : Shared} {Q : VK} {us : List Value} {vs : List V} (F : FnOk X.prog X.w X.K X.mg X.base CX k f fd ps sp) (hr : Room k X.A) (hb : Binds X.K fd ps ds) (hd : Vals dvs ds) (hx : Passes CX X E)
    (I : Inv X pins σ H s) (r : Vals vs us) (h : sp (vs ++ dvs) H Q E) : wpAny (model X.prog X.w) X.A (call (.ref f) us) (EP X pins σ Q) X.xe s := by
  have r2 : Vals (vs ++ dvs) (us ++ ds) := r.append hd
  have hl : (us ++ ds).length = ps.length := by rw [← r2.length]; exact F.len _ _ _ _ h
  refine wpAny_call (codeAny_mono (F.run X.A X.stack s H ⟨us, []⟩ (us ++ ds) (vs ++ dvs) Q E hr I.env0 (hb s us I.kIn hl) r2 h) fun r s' hq => ?_)
  cases r with
  | error e => exact hx pins σ H s e s' I hq
  | ok fl =>
    cases fl with
    | ret u => exact I.after hq
    | next => exact False.elim hq
    | brk => exact False.elim hq
    | cont => exact False.elim hq

theorem pe_call (F : FnOk X.prog X.w X.K X.mg X.base CX k f fd ps sp) (hr : Room k X.A) (hg : Gl X x) (hm : X.mg x = some (.ref f)) (hk : PySem.W.keepIn X.K (.ref f) = true) (hb : Binds X.K fd ps ds) (hd : Vals dvs ds) (hx : Passes CX X E)
    (ha : PA X (e :: es) t) (hdb : (x == ("__debug__" : Str)) = false := by decide) (he : starEach (e :: es) X.env = (false, eval e X.env) :: starEach es X.env := by rfl) (hpl : (backTo pos (starEach es X.env)).any (·.1) = false := by rfl) :
    PE X (.Call (.Name x p) (e :: es) [] pos) (tCall sp dvs E t) := by
  intro pins s σ H Q I h
  refine wpAny_Call_Name_kw (ld_glob I hg hm ?_ hdb)
  refine PySem.W.callWith_K (h₀ := X.base) I.ok.mod.kin hk (thn (ha pos pins s σ H _ I h) fun us s1 ⟨vs, H1, I1, r, q⟩ => ⟨I1.kIn, ?_⟩) he hpl
  exact run_fn F hr hb hd hx I1 r q
end

/-! ### keywords -/
section
variable {X : Cx} {CX : CXT} {k : Nat} {f C : Addr} {fd : FuncData} {ps ks : List Str} {sp : Sp} {E : XK} {x m : Str} {p pos apos kpos : Pos} {e o : Expr} {es : List Expr} {kws : List Keyword} {te ta : TE} {t tk : TA} {nm : Option Str}
variable {g : List Value → List Value → List Value} {gV : List V → List V → List V}
end

/-! ### a def's body keeps its promise -/
/-- names: the parameters first -/
structure FnScope (N P : List Str) (sc : Scope) : Prop where
  kind : sc.kind = .function
  co : sc.isCoroutine = false
  gen : sc.isGenerator = false
  nd : N.Nodup
  pre : N.take P.length = P
  par : ∀ x ∈ P, sc.names.lookup x = some .local ∨ sc.names.lookup x = some .cell
  nofree : ∀ y ∈ sc.names, y.2 ≠ .free

theorem bindL_out {kindOf : Str → Option NameKind} {x : Str} : ∀ {binds : List (Str × Value)} {m : Str → Option Value}, (∀ v, (x, v) ∉ binds) → bindL kindOf binds m x = m x
  | [], _, _ => rfl
  | (n, v) :: r, m, h => by
    unfold bindL
    rw [bindL_out fun w hw => h w (List.mem_cons_of_mem _ hw)]
    split
    · have : x ≠ n := by rintro rfl; exact h v List.mem_cons_self
      simp [this]
    · rfl
theorem bindC_out {kindOf : Str → Option NameKind} {x : Str} : ∀ {binds : List (Str × Value)} {m : Str → Option Value}, (∀ v, (x, v) ∉ binds) → bindC kindOf binds m x = m x
  | [], _, _ => rfl
  | (n, v) :: r, m, h => by
    unfold bindC
    rw [bindC_out fun w hw => h w (List.mem_cons_of_mem _ hw)]
    split
    · rfl
    · have : x ≠ n := by rintro rfl; exact h v List.mem_cons_self
      simp [this]
theorem bindL_get {kindOf : Str → Option NameKind} {x : Str} {v : Value} : ∀ {P : List Str} {vs : List Value} {i : Nat} {m : Str → Option Value}, P.Nodup → P[i]? = some x → vs[i]? = some v → kindOf x = some .local →
    bindL kindOf (P.zip vs) m x = some v
  | [], _, _, _, _, h, _, _ => by simp at h
  | _ :: _, [], _, _, _, _, h, _ => by simp at h
  | p :: P, w :: vs, 0, m, nd, h1, h2, hk => by
    simp at h1 h2; subst h1; subst h2
    show bindL kindOf ((p, w) :: P.zip vs) m p = _
    unfold bindL
    rw [bindL_out fun v hv => (List.nodup_cons.mp nd).1 (List.of_mem_zip hv).1, if_pos hk]
    simp
  | p :: P, w :: vs, i + 1, m, nd, h1, h2, hk => by
    show bindL kindOf ((p, w) :: P.zip vs) m x = _
    unfold bindL
    exact bindL_get (i := i) (List.nodup_cons.mp nd).2 (by simpa using h1) (by simpa using h2) hk
theorem bindC_get {kindOf : Str → Option NameKind} {x : Str} {v : Value} : ∀ {P : List Str} {vs : List Value} {i : Nat} {m : Str → Option Value}, P.Nodup → P[i]? = some x → vs[i]? = some v → kindOf x ≠ some .local →
    bindC kindOf (P.zip vs) m x = some v
  | [], _, _, _, _, h, _, _ => by simp at h
  | _ :: _, [], _, _, _, _, h, _ => by simp at h
  | p :: P, w :: vs, 0, m, nd, h1, h2, hk => by
    simp at h1 h2; subst h1; subst h2
    show bindC kindOf ((p, w) :: P.zip vs) m p = _
    unfold bindC
    rw [bindC_out fun v hv => (List.nodup_cons.mp nd).1 (List.of_mem_zip hv).1, if_neg hk]
    simp
  | p :: P, w :: vs, i + 1, m, nd, h1, h2, hk => by
    show bindC kindOf ((p, w) :: P.zip vs) m x = _
    unfold bindC
    exact bindC_get (i := i) (List.nodup_cons.mp nd).2 (by simpa using h1) (by simpa using h2) hk

/-- the names' values at the entry -/
def start (N : List Str) (vs : List V) : St := vs.map some ++ List.replicate (N.length - vs.length) none

/-- the context of a def's body, at its entry; an exception leaves the frame, then lies as CX says -/
def cxOf (CX : CXT) (P : Program) (w : World) (K : PySem.W.Frag) (mg : Str → Option Value) (base : Heap) (N : List Str) (qual : Str) (scope : Scope) (f : Addr) (cd : Value) (A : Around) (outer : List Env) (s : Shared) (H : Hp) (E : XK) : Cx where
  prog := P
  w := w
  K := K
  mg := mg
  base := base
  A := A.deeper (envOfC qual scope s.heap.objs.size f cd)
  N := N
  s₀ := s
  H₀ := H
  env := envOfC qual scope s.heap.objs.size f cd
  outer := outer
  stack := envOfC qual scope s.heap.objs.size f cd :: outer
  ex := []
  calm := true
  fn := fun _ => true
  pn := []
  xe := fun e s' => wpAny (model P w) (A.deeper (envOfC qual scope s.heap.objs.size f cd)) (leaving (envOfC qual scope s.heap.objs.size f cd) e) (fun _ s'' => CX outer H s E e s'') (fun e' s'' => CX outer H s E e' s'') s'

theorem cell_has {sc : Scope} {n : Nat} {x : Str} (h : sc.names.lookup x = some .cell) : ∃ c, (cellsFrom n sc.names []).lookup x = some c := by
  have q := PySem.W.cellsFrom_some sc.names n [] (.inl h)
  exact Option.isSome_iff_exists.mp q

theorem inv_start {CX : CXT} {P : Program} {w : World} {K : PySem.W.Frag} {mg : Str → Option Value} {base : Heap} {N ps : List Str} {qual : Str} {scope : Scope} {f : Addr} {cd : Value} {A : Around} {outer : List Env} {s s1 : Shared} {H : Hp} {E : XK} {us : List Value} {vs : List V}
    (S : FnScope N ps scope) (hd : A.handled = none) (e0 : Env0 P w K mg base A outer s H) (hl : vs.length = ps.length) (r : Vals vs us)
    (x : InCallC s s.heap.objs.size (bindL (envOfC qual scope s.heap.objs.size f cd).kindOf (ps.zip us) fun _ => none) (cellsFrom (s.heap.objs.size + 1) scope.names []) (bindC (envOfC qual scope s.heap.objs.size f cd).kindOf (ps.zip us) fun _ => none) s1) :
    Inv (cxOf CX P w K mg base N qual scope f cd A outer s H E) [] (start N vs) H s1 := by
  have hpl : ps.length ≤ N.length := by have := congrArg List.length S.pre; rw [List.length_take] at this; omega
  obtain ⟨h1, tk, rfl, hk⟩ := x.done
  have noA : ∀ b : Addr, b ∉ (cxOf CX P w K mg base N qual scope f cd A outer s H E).ex := fun b z => absurd (show b ∈ ([] : List Addr) from z) (by simp)
  refine ⟨⟨e0.mod, S.kind, rfl, rfl, Nat.le_refl _, fun y z c h1 h2 => ?_, fun y hy => ?_, fun y c _ h => ?_, fun _ => hd, Around.frames_deeper e0.frames, .inr ⟨rfl, rfl⟩, fun b z => absurd z (noA b), e0.bs, e0.bsz, fun b _ _ => noA b, fun b z => absurd z (noA b), e0.funs, e0.frf⟩,
    rfl, e0.bare, Un.kept hk, ⟨_, x.toInCall.ns, fun i y v h1 h2 h3 => ?_⟩, fun y c h => ⟨_, x.cell y c h⟩, e0.hok.fresh (Nat.le_refl _), fun y c h => ?_, fun p hp => absurd (show p ∈ ([] : List (Addr × Obj)) from hp) (by simp), e0.hok.kept hk, ?_⟩
  · exact name_of_addr x.apart (PySem.mem_of_lookup h1) (PySem.mem_of_lookup h2)
  · have hy : scope.names.lookup y = some .cell ∨ scope.names.lookup y = some .free := hy
    rcases hy with hy | hy
    · exact cell_has hy
    · exact absurd rfl (S.nofree _ (PySem.mem_of_lookup hy))
  · exact Nat.le_of_lt (x.above y c (PySem.mem_of_lookup h))
  · have hi : i < vs.length := by
      unfold start at h2
      by_cases hi : i < vs.length
      · exact hi
      · rw [List.getElem?_append_right (by simpa using hi)] at h2
        rw [List.getElem?_replicate] at h2
        split at h2 <;> cases h2
    have ha : vs[i]? = some v := by
      unfold start at h2
      rw [List.getElem?_append_left (by simpa using hi), List.getElem?_map] at h2
      cases e : vs[i]? with
      | none => rw [e] at h2; cases h2
      | some a => rw [e] at h2; cases h2; rfl
    obtain ⟨u, hu, rv⟩ := r.get ha
    have hp : ps[i]? = some y := by
      rw [← S.pre, List.getElem?_take_of_lt (by omega)]; exact h1
    have ndP : ps.Nodup := by rw [← S.pre]; exact S.nd.sublist (List.take_sublist _ _)
    refine ⟨u, rv, ?_⟩
    rcases S.par y (List.mem_of_getElem? hp) with k | k
    · exact .inl ⟨k, bindL_get ndP hp hu k⟩
    · obtain ⟨c, e⟩ := cell_has (n := s.heap.objs.size + 1) k
      refine .inr ⟨.inl k, c, e, ?_⟩
      have q := x.cell y c e
      rw [bindC_get ndP hp hu (by show scope.names.lookup y ≠ _; rw [k]; decide)] at q
      exact q
  · exact e0.hok.fresh (Nat.le_of_lt (x.above y c (PySem.mem_of_lookup h)))
  · unfold start
    show _ = N.length
    rw [List.length_append, List.length_map, List.length_replicate]
    omega

/-- THE RULE: a def (or a method) of the text, by its body. The body's reading t is chosen for each entry; it is run at the parameters' values -/
theorem fn_of {CX : CXT} {P : Program} {w : World} {K : PySem.W.Frag} {mg : Str → Option Value} {base : Heap} {k : Nat} {f : Addr} {name qual : Str} {params : Arguments} {body : List Stmt} {scope : Scope} {dV kV doc pm cdv ct oc : Value} {an od : Option Addr}
    {osl : Array (Option Value)} {N ps : List Str} {sp : Sp} (lk : K.lookup f = some ⟨oc, od, .func (PySem.W.fnOf name qual params body scope dV kV doc pm an cdv ct), osl⟩) (hcd : PySem.W.codeIn K cdv qual = true) (S : FnScope N ps scope)
    (len : ∀ vs H Q E, sp vs H Q E → vs.length = ps.length)
    (hbody : ∀ (A : Around) (outer : List Env) (s : Shared) (H : Hp) (vs : List V) (Q : VK) (E : XK), Room k (A.deeper (envOfC qual scope s.heap.objs.size f cdv)) → sp vs H Q E →
      ∃ t, PSs (cxOf CX P w K mg base N qual scope f cdv A outer s H E) body t ∧ t { nx := fun _ H' => Q .non H', rt := Q } (start N vs) H) :
    FnOk P w K mg base CX (k + 1) f (PySem.W.fnOf name qual params body scope dV kV doc pm an cdv ct) ps sp := by
  refine ⟨len, fun A outer s H args us vs Q E hr e0 hb r hsp => ?_⟩
  have hl := len _ _ _ _ hsp
  have KX : K.In s.heap := e0.mod.kin.keeps fun b o e => (e0.bs b o e).1
  have lim : s.heap.NoLimit := e0.mod.nolimit.keeps fun b o e => (e0.bs b o e).1
  have hkind : ∀ y ∈ ps.zip us, scope.names.lookup y.1 = some .local ∨ (scope.names.lookup y.1 = some .cell ∧ ((cellsFrom (s.heap.objs.size + 1) scope.names []).lookup y.1).isSome = true) := fun ⟨n, v⟩ hy => by
    rcases S.par n (List.of_mem_zip hy).1 with q | q
    · exact .inl q
    · exact .inr ⟨q, PySem.W.cellsFrom_some _ _ _ (.inl q)⟩
  refine codeAny_call_function hr.depth (KX _ _ lk) rfl S.co S.gen rfl (PySem.W.codeRec_of KX hcd) (hb _ _ _ _ ?_)
  refine wpAny_newFunctionEnv_cells S.kind hkind fun env he s1 x => ?_
  subst he
  refine ⟨lim.keeps x.toInCall.keep, codeAny_func ?_⟩
  obtain ⟨t, ht, hq⟩ := hbody A outer s H vs Q E (hr.deeper _) hsp
  have I : Inv (cxOf CX P w K mg base N qual scope f cdv A outer s H E) [] (start N vs) H s1 := inv_start S hr.hd e0 hl r x
  refine wpAny_mono (ht [] s1 (start N vs) H _ I hq) (fun fl s' hs => ?_) fun e s' hs => hs
  have fin : ∀ {σ' : St} {H' : Hp} {v : V} {u : Value}, Inv (cxOf CX P w K mg base N qual scope f cdv A outer s H E) [] σ' H' s' → RelV v u → Q v H' → CE outer P w H s Q u s' :=
    fun {σ' H' v u} J rv q => ⟨v, H', J.os, J.bare, J.base, J.hok, rv, q⟩
  cases fl with
  | ret u =>
    obtain ⟨v, σ', H', J, rv, q⟩ := hs
    exact fin J rv q
  | next =>
    obtain ⟨σ', H', J, q⟩ := hs
    exact fin (v := V.non) (u := Value.none) J rfl q
  | brk =>
    obtain ⟨_, _, _, q⟩ := hs
    exact False.elim q
  | cont =>
    obtain ⟨_, _, _, q⟩ := hs
    exact False.elim q
end L2

namespace L2
open PySem PySem.Spec PyProof.Rows
section
variable {X : Cx} {x : Str} {p pos : Pos} {e : Expr} {es : List Expr} {t : TA} {id T : String} {r : List V → Hp → VK → Prop}

def tCB (r : List V → Hp → VK → Prop) (t : TA) : TE := fun σ H Q => t σ H fun vs H1 => r vs H1 Q
/-- f(e, ..), f a built-in function -/
theorem pe_callB (hc : CallR X (.builtin id) r) (hg : Gl X x) (hm : X.mg x = none) (hv : bootBuiltins x = some (.builtin id)) (ha : PA X (e :: es) t) (hn : x ≠ "__name__" := by decide) (hdb : (x == ("__debug__" : Str)) = false := by decide)
    (he : starEach (e :: es) X.env = (false, eval e X.env) :: starEach es X.env := by rfl) (hpl : (backTo pos (starEach es X.env)).any (·.1) = false := by rfl) : PE X (.Call (.Name x p) (e :: es) [] pos) (tCB r t) := by
  intro pins s σ H Q I h
  refine wpAny_Call_Name_kw (ld_blt I hg hm hv ?_ hn hdb)
  exact PyProof.Rows.callWith_builtin1 (thn (ha pos pins s σ H _ I h) fun us s1 ⟨vs, H1, I1, r1, q1⟩ => hc pins s1 σ H1 vs us Q I1 r1 q1) he hpl
/-- T(e, ..), T a built-in type -/
theorem pe_callTy (hc : CallR X (.type T) r) (hg : Gl X x) (hm : X.mg x = none) (hv : bootBuiltins x = some (.type T)) (ha : PA X (e :: es) t) (hn : x ≠ "__name__" := by decide) (hdb : (x == ("__debug__" : Str)) = false := by decide)
    (he : starEach (e :: es) X.env = (false, eval e X.env) :: starEach es X.env := by rfl) (hpl : (backTo pos (starEach es X.env)).any (·.1) = false := by rfl) : PE X (.Call (.Name x p) (e :: es) [] pos) (tCB r t) := by
  intro pins s σ H Q I h
  refine wpAny_Call_Name_kw (ld_blt I hg hm hv ?_ hn hdb)
  exact PyProof.Rows.callWith_type1 (thn (ha pos pins s σ H _ I h) fun us s1 ⟨vs, H1, I1, r1, q1⟩ => hc pins s1 σ H1 vs us Q I1 r1 q1) he hpl
end
end L2

namespace HT
open PySem PyProof.Rows

section
open PySem.SeqAt
open PySem.AutoSeq1 (wpAny_loadPart')
open PySem.MeetsSeq PySem.MeetsSeq2 PySem.MeetsSeq3

end

section
variable {prog : Program} {w : World} {A : Around} {E : Value → Shared → Prop} {s : Shared}

/-- t + u, t not empty -/
theorem cat_tup {t b : Addr} {vs ws : List Value} {Q : Value → Shared → Prop} (ht : IsTup s.heap t vs.toArray) (hb : IsTup s.heap b ws.toArray) (hv : vs ≠ [])
    (h1 : ws = [] → Q (.ref t) s) (h2 : ws ≠ [] → Q (.ref s.heap.objs.size) { s with heap := s.heap.push { cls := .type "tuple", data := .seq (vs ++ ws).toArray } })
    (hsz : vs.length + ws.length ≤ sizeLine) : wpAny (model prog w) A (binaryOp .Add (.ref t) (.ref b)) Q E s := by
  obtain ⟨⟨cls, dd, data, sl⟩, ho, hc, n, hd⟩ := id ht
  obtain ⟨⟨cls2, dd2, data2, sl2⟩, ho2, hc2, n2, hd2⟩ := id hb
  simp only at hc hd hc2 hd2
  subst hc hd hc2 hd2
  have e : vs.toArray ++ ws.toArray = (vs ++ ws).toArray := by simp
  by_cases hw : ws = []
  · exact concat_meets ⟨_, ho, rfl⟩ ⟨_, ho2, rfl⟩ noFill_tuple_add seq_tuple_add PySem.F.slot_tuple_add PySem.F.entry_tuple_add (PySem.F.args_tuple_add_2 _ _)
      (tuple_addW1 t b vs.toArray ws.toArray n n2 dd dd2 sl sl2 (by simpa using hv) (by simp [hw])) ⟨ho, ho2, h1 hw⟩
  · refine concat_meets ⟨_, ho, rfl⟩ ⟨_, ho2, rfl⟩ noFill_tuple_add seq_tuple_add PySem.F.slot_tuple_add PySem.F.entry_tuple_add (PySem.F.args_tuple_add_2 _ _)
      (tuple_addW2 t b vs.toArray ws.toArray n n2 dd dd2 sl sl2 (by simpa using hv) (by simpa using hw) (by rw [List.size_toArray, List.size_toArray]; exact hsz)) ⟨ho, ho2, ?_⟩
    rw [e]
    exact h2 hw

/-! ### t[a:b], not the whole -/
/-- a slice's bound as a place among n (d where it is left out) -/
def sIx (n d : Nat) : Option Int → Nat
  | none => d
  | some v => if v < 0 then (v + (n : Int)).toNat else min v.toNat n
theorem sIx_none (n d : Nat) : sIx n d none = d := rfl
theorem sIx_nat (n d k : Nat) : sIx n d (some (k : Int)) = min k n := by
  show (if (k : Int) < 0 then ((k : Int) + (n : Int)).toNat else min (k : Int).toNat n) = min k n
  rw [if_neg (by omega), Int.toNat_natCast]
theorem sIx_le (n d : Nat) (hd : d ≤ n) (o : Option Int) : sIx n d o ≤ n := by
  cases o with
  | none => exact hd
  | some v =>
    show (if v < 0 then (v + (n : Int)).toNat else min v.toNat n) ≤ n
    by_cases hv : v < 0
    · rw [if_pos hv]; omega
    · rw [if_neg hv]; exact Nat.min_le_right _ _
theorem clip_eq (v : Int) (n d : Nat) : (if v < 0 then max (v + (n : Int)) 0 else min v (n : Int)) = ((sIx n d (some v) : Nat) : Int) := by
  show (if v < 0 then max (v + (n : Int)) 0 else min v (n : Int)) = (((if v < 0 then (v + (n : Int)).toNat else min v.toNat n) : Nat) : Int)
  by_cases hv : v < 0
  · simp only [if_pos hv]; omega
  · simp only [if_neg hv]; omega
theorem adjust_gen (lo hi : Option Int) (n : Nat) : Builtin.Slice.sliceAdjust lo hi 1 (n : Int) = (((sIx n 0 lo : Nat) : Int), ((sIx n n hi : Nat) : Int)) := by
  have h1 : ¬ ((1 : Int) < 0) := by omega
  unfold Builtin.Slice.sliceAdjust
  simp only [h1, if_false]
  refine Prod.ext ?_ ?_
  · cases lo with
    | none => rfl
    | some v => exact clip_eq v n 0
  · cases hi with
    | none => rfl
    | some v => exact clip_eq v n n
theorem places_gen (i j : Nat) : Builtin.Slice.slicePlaces (i : Int) (j : Int) 1 = j - i := by
  unfold Builtin.Slice.slicePlaces
  have h1 : (1 : Int) > 0 := by omega
  simp only [h1, if_true, Int.ediv_one]
  split <;> omega
theorem slicePart_ {v : Value} {o : Option Int} {Q : Option Int → Shared → Prop} (p : IsPart v o) (h : Q o s) : wpAny (model prog w) A (Builtin.Slice.slicePartIndex v) Q E s := by
  cases p with
  | none => exact slicePart_none h
  | int i t => exact slicePart_int h
theorem sliceApplied_gen {sl : Addr} {vl vu : Value} {lo hi : Option Int} {n : Nat} {Q : Int × Int × Nat → Shared → Prop} (hs : s.heap.IsSliceOf sl vl vu .none) (pl : IsPart vl lo) (pu : IsPart vu hi)
    (h : Q (((sIx n 0 lo : Nat) : Int), 1, sIx n n hi - sIx n 0 lo) s) : wpAny (model prog w) A (Builtin.Slice.sliceApplied (.ref sl) (pure (n : Int))) Q E s := by
  obtain ⟨os, hos, hcs, hds⟩ := id hs
  unfold Builtin.Slice.sliceApplied Builtin.Slice.sliceFields
  refine wpAny_bind (wpAny_bind (wpAny_field hos hds (x := vl) rfl (wpAny_bind (wpAny_field hos hds (x := vu) rfl (wpAny_bind (wpAny_field hos hds (x := .none) rfl (wpAny_pure ?_)))))))
  refine wpAny_bind (slicePart_none ?_)
  show wpAny _ _ (if ((1 : Int) == 0) = true then _ else _) _ _ s
  rw [if_neg (by decide)]
  refine wpAny_bind (slicePart_ pl (wpAny_bind (slicePart_ pu (wpAny_bind (wpAny_pure ?_)))))
  show wpAny _ _ (match Builtin.Slice.sliceAdjust lo hi 1 (n : Int) with | (lo, hi) => pure (lo, (1 : Int), Builtin.Slice.slicePlaces lo hi 1)) _ _ s
  rw [adjust_gen lo hi n]
  show wpAny _ _ (pure (((sIx n 0 lo : Nat) : Int), (1 : Int), Builtin.Slice.slicePlaces ((sIx n 0 lo : Nat) : Int) ((sIx n n hi : Nat) : Int) 1)) _ _ s
  rw [places_gen]
  exact wpAny_pure h
theorem pick_gen (xs : Array Value) (i k : Nat) : ((List.range k).filterMap fun (m : Nat) => xs[((i : Int) + (m : Int) * 1).toNat]?).toArray = ((xs.toList.drop i).take k).toArray := by
  have e : (fun (m : Nat) => xs[((i : Int) + (m : Int) * 1).toNat]?) = fun m => xs[i + m]? := by
    funext m
    have : ((i : Int) + (m : Int) * 1).toNat = i + m := by omega
    rw [this]
  rw [e]
  have := pick_run xs i k
  rw [List.filterMap_map] at this
  have e2 : ((fun x => xs[x]?) ∘ fun x => i + x) = fun m => xs[i + m]? := rfl
  rw [e2] at this
  rw [this]

theorem getItem_tuple_cut {t sl : Addr} {items : Array Value} {vl vu : Value} {lo hi : Option Int} {Q : Value → Shared → Prop} (ht : IsTup s.heap t items) (hs : s.heap.IsSliceOf sl vl vu .none) (pl : IsPart vl lo) (pu : IsPart vu hi)
    (hw : ¬ (sIx items.size 0 lo = 0 ∧ sIx items.size items.size hi = items.size))
    (h : Q (.ref s.heap.objs.size) { s with heap := s.heap.push { cls := .type "tuple", data := .seq ((items.toList.drop (sIx items.size 0 lo)).take (sIx items.size items.size hi - sIx items.size 0 lo)).toArray } })
    (hsz : items.size ≤ sizeLine) : wpAny (model prog w) A (getItem (.ref t) (.ref sl)) Q E s := by
  have htake : sizeOk (.seq ((items.toList.drop (sIx items.size 0 lo)).take (sIx items.size items.size hi - sIx items.size 0 lo)).toArray) := by
    show ((items.toList.drop (sIx items.size 0 lo)).take (sIx items.size items.size hi - sIx items.size 0 lo)).toArray.size ≤ sizeLine
    rw [List.size_toArray, List.length_take, List.length_drop, Array.length_toList]
    omega
  have hj : sIx items.size items.size hi ≤ items.size := sIx_le _ _ (Nat.le_refl _) hi
  obtain ⟨os, hos, hcs, hds⟩ := id hs
  have hTs : s.TypeIs (.ref sl) "slice" := ⟨os, hos, hcs⟩
  unfold getItem
  try with_reducible refine wpAny_holding ?_
  first | refine wpAny_bind (wpAny_pure ?_) | skip
  refine wpAny_bind (wpAny_sequenceKey ht.typeIs (by decide) ?_)
  refine wpAny_bind (wpAny_callSpecial?_slot (name := Str.ofString "__getitem__") ht.typeIs PyProof.Rows.slot_tuple_getitem
    (wpAny_call_entry PyProof.Rows.slot_tuple_getitem ht.typeIs entry_tuple_getitem ?_ (args_tuple_getitem _ _)))
  show wpAny _ _ (Builtin.Tuple.tupleItemsOf (.ref t) >>= _) _ _ s
  refine wpAny_bind (tupleItemsOf_ ht ?_)
  refine wpAny_bind (wpAny_typeOf hTs ?_)
  rw [if_pos (by decide)]
  refine wpAny_bind (sliceApplied_gen hs pl pu ?_)
  have hno : ¬ ((((sIx items.size 0 lo : Nat) : Int) == 0 && (1 : Int) == 1 && (sIx items.size items.size hi - sIx items.size 0 lo) == items.size) = true) := by
    intro q
    rw [Bool.and_eq_true, Bool.and_eq_true] at q
    have q1 : ((sIx items.size 0 lo : Nat) : Int) = 0 := eq_of_beq q.1.1
    have q2 : sIx items.size items.size hi - sIx items.size 0 lo = items.size := eq_of_beq q.2
    exact hw ⟨by omega, by omega⟩
  show wpAny _ _ (if (((sIx items.size 0 lo : Nat) : Int) == 0 && (1 : Int) == 1 && (sIx items.size items.size hi - sIx items.size 0 lo) == items.size) = true then _ else _) _ _ s
  rw [if_neg hno, pick_gen]
  first
    | exact wpAny_bind (m := Builtin.Tuple.tupleExact _) (wpAny_newObj_type (wpAny_pure ⟨_, rfl, wpAny_pure h⟩) htake)
    | exact wpAny_bind (m := Builtin.Tuple.tupleExact _) (wpAny_newObj_type (wpAny_bind (wpAny_pure (wpAny_pure ⟨_, rfl, wpAny_pure h⟩))) htake)
    | exact wpAny_bind (wpAny_bind (m := Builtin.Tuple.tupleExact _) (wpAny_newObj_type (wpAny_pure (wpAny_pure ⟨_, rfl, wpAny_pure h⟩)) htake))
    | exact wpAny_bind (wpAny_bind (m := Builtin.Tuple.tupleExact _) (wpAny_newObj_type (wpAny_pure ⟨_, rfl, wpAny_pure h⟩) htake))
end
end HT

namespace L2
open PySem PySem.Spec PyProof.Rows

/-! ### the parts of a slice -/
abbrev TO := St → Hp → (Option Int → Hp → Prop) → Prop
/-- a slice's part (left out, or an int) -/
def PO (X : Cx) (e : Option Expr) (t : TO) : Prop :=
  ∀ (pins : List (Addr × Obj)) (s : Shared) (σ : St) (H : Hp) (Q : Option Int → Hp → Prop), Inv X pins σ H s → t σ H Q →
    wpAny (model X.prog X.w) X.A (evalPart e X.env) (fun u s' => ∃ o H', Inv X pins σ H' s' ∧ IsPart u o ∧ Q o H') X.xe s
def tNoPart : TO := fun _ H Q => Q none H
def tPart (t : TE) : TO := fun σ H Q => t σ H fun x H1 => ∃ i, x = .int i ∧ Q (some i) H1

theorem intsAre_of {ns : List Int} : ∀ {us : List Value}, Vals (ns.map V.int) us → IntsAre us ns := by
  induction ns with
  | nil => intro us r; rw [List.map_nil] at r; cases r; exact .nil
  | cons n ns ih =>
    intro us r
    rw [List.map_cons] at r
    cases r with
    | cons r1 r2 =>
      obtain ⟨t, e⟩ := r1
      subst e
      exact .cons n t (ih r2)

section
variable {X : Cx} {e : Expr} {te : TE} {lo hi : Option Expr} {tl th : TO} {pos p2 : Pos}

theorem po_none : PO X none tNoPart := by
  intro pins s σ H Q I h
  rw [evalPart_none]
  exact wpAny_pure ⟨none, H, I, .none, h⟩
theorem po_some (h : PE X e te) : PO X (some e) (tPart te) := by
  intro pins s σ H Q I hw
  rw [evalPart_some]
  refine thn (h pins s σ H _ I hw) fun u s1 ⟨x, H1, I1, r1, q1⟩ => ?_
  obtain ⟨i, rfl, q⟩ := q1
  obtain ⟨t, rfl⟩ := r1
  exact ⟨some i, H1, I1, .int i t, q⟩

/-- what a slice of a value is, by values: the slice object stands at sl -/
def SlR (X : Cx) (r : V → Option Int → Option Int → Hp → VK → Prop) : Prop :=
  ∀ (pins : List (Addr × Obj)) (s : Shared) (σ : St) (H : Hp) (x : V) (v vl vu : Value) (lo hi : Option Int) (sl : Addr) (Q : VK), Inv X pins σ H s → RelV x v → s.heap.IsSliceOf sl vl vu .none → IsPart vl lo → IsPart vu hi → r x lo hi H Q →
    ∃ T id, typeLookup (.type T) "__getitem__" = pure (some (.builtin id)) ∧ s.TypeIs v T ∧ wpAny (model X.prog X.w) X.A (getItem v (.ref sl)) (EP X pins σ Q) X.xe s
def tSl (r : V → Option Int → Option Int → Hp → VK → Prop) (te : TE) (tl th : TO) : TE := fun σ H Q => te σ H fun x H1 => tl σ H1 fun l H2 => th σ H2 fun u H3 => r x l u H3 Q
/-- a[lo:hi], any a -/
theorem pe_slice {r : V → Option Int → Option Int → Hp → VK → Prop} (hr : SlR X r) (he : PE X e te) (hl : PO X lo tl) (hu : PO X hi th) : PE X (.Subscript e (.Slice lo hi none p2) pos) (tSl r te tl th) := by
  intro pins s σ H Q I h
  refine Subscript_ (thn (he pins s σ H _ I h) fun v s1 ⟨x, H1, I1, r1, q1⟩ => ?_)
  refine wpAny_Slice (thn (hl pins s1 σ H1 _ I1 q1) fun vl s2 ⟨l, H2, I2, pl, q2⟩ => thn (hu pins s2 σ H2 _ I2 q2) fun vu s3 ⟨u, H3, I3, pu, q3⟩ => ?_)
  rw [evalPart_none]
  refine wpAny_pure ?_
  have I4 : Inv X pins σ H3 { s3 with heap := s3.heap.push { cls := .type "slice", data := .fields #[vl, vu, .none] } } := I3.kept (t' := s3.toks) fun b ob q => Heap.get?_push_of_some _ q
  obtain ⟨T, id, hT, ht, hg⟩ := hr pins { s3 with heap := s3.heap.push { cls := .type "slice", data := .fields #[vl, vu, .none] } } σ H3 x v vl vu l u s3.heap.objs.size Q I4 r1 (Heap.IsSliceOf.new ..) pl pu q3
  show wpAny (model X.prog X.w) X.A (subscriptTail e (.Slice lo hi none p2) v (.ref s3.heap.objs.size)) (EP X pins σ Q) X.xe { s3 with heap := s3.heap.push { cls := .type "slice", data := .fields #[vl, vu, .none] } }
  exact tail_any (ops := [.ref s3.heap.objs.size, v]) ht hT hg (by with_unfolding_all rfl)

/-- the items of xs[lo:hi] -/
def cutV (xs : List V) (lo hi : Option Int) : List V := (xs.drop (HT.sIx xs.length 0 lo)).take (HT.sIx xs.length xs.length hi - HT.sIx xs.length 0 lo)
theorem cutV_length (xs : List V) (lo hi : Option Int) : (cutV xs lo hi).length ≤ xs.length := by
  unfold cutV
  rw [List.length_take, List.length_drop]
  omega
/-- t[lo:hi], not the whole of it (the whole would be t itself) -/
def rSlT (K : PySem.W.Frag) : V → Option Int → Option Int → Hp → VK → Prop := fun x lo hi H Q => ∃ a xs, x = .ref a ∧ SqT K H a xs ∧
  ¬ (HT.sIx xs.length 0 lo = 0 ∧ HT.sIx xs.length xs.length hi = xs.length) ∧ ∀ p, H p = none → Q (.ref p) (upd H p (.tup (cutV xs lo hi)))
theorem sl_tup : SlR X (rSlT X.K) := by
  intro pins s σ H x v vl vu lo hi sl Q I rx hs pl pu h
  obtain ⟨a, xs, rfl, hx, hw, q⟩ := h
  cases rx
  obtain ⟨its, r, ht, hz⟩ := I.tuple hx
  have hlen : its.toArray.size = xs.length := by rw [List.size_toArray]; exact r.length.symm
  refine ⟨"tuple", _, PyProof.Rows.slot_tuple_getitem.lookup, ht.typeIs, ?_⟩
  refine HT.getItem_tuple_cut ht hs pl pu (by rw [hlen]; exact hw) ?_ (by rw [hlen]; exact hz)
  rw [hlen]
  refine ⟨.ref s.heap.objs.size, _, I.laid (t' := s.toks) (o := .tup (cutV xs lo hi)) (fun b ob q => Heap.get?_push_of_some _ q) (Nat.le_refl _) ?_, rfl, q _ (I.hok.fresh (Nat.le_refl _))⟩
  exact ⟨Nat.le_trans (cutV_length xs lo hi) hz, _, (r.drop (HT.sIx xs.length 0 lo)).take (HT.sIx xs.length xs.length hi - HT.sIx xs.length 0 lo), IsTup.new _ _⟩

/-! ### t < u, t + u -/
/-- t + u, t not empty: u empty gives t itself -/
def rCatT (K : PySem.W.Frag) : R2 := fun x y H Q => ∃ a b xs ys, x = .ref a ∧ y = .ref b ∧ SqT K H a xs ∧ SqT K H b ys ∧ xs ≠ [] ∧ xs.length + ys.length ≤ sizeLine ∧
  (ys = [] → Q (.ref a) H) ∧ (ys ≠ [] → ∀ p, H p = none → Q (.ref p) (upd H p (.tup (xs ++ ys))))
theorem Vals.nil_iff {xs : List V} {us : List Value} (r : Vals xs us) : us = [] ↔ xs = [] := by
  cases r with
  | nil => simp
  | cons _ _ => simp
theorem op_catT : OpR X (binaryOp .Add) (rCatT X.K) := by
  intro pins s σ H x y v u Q I rx ry h
  obtain ⟨a, b, xs, ys, rfl, rfl, ha, hb, hx, hz, q1, q2⟩ := h
  cases rx
  cases ry
  obtain ⟨its, r1, p1, _⟩ := I.tuple ha
  obtain ⟨its2, r2, p2, _⟩ := I.tuple hb
  refine HT.cat_tup p1 p2 (fun z => hx (r1.nil_iff.mp z)) (fun z => ⟨.ref a, H, I, rfl, q1 (r2.nil_iff.mp z)⟩) (fun z => ?_) (by rw [← r1.length, ← r2.length]; exact hz)
  refine ⟨.ref s.heap.objs.size, _, I.laid (t' := s.toks) (o := .tup (xs ++ ys)) (fun b ob q => Heap.get?_push_of_some _ q) (Nat.le_refl _) ?_, rfl, q2 (fun w => z (r2.nil_iff.mpr w)) _ (I.hok.fresh (Nat.le_refl _))⟩
  exact ⟨by rw [List.length_append]; exact hz, _, r1.append r2, IsTup.new _ _⟩
end
end L2

namespace L2
open PySem PySem.Spec PyProof.Rows

/-! ### places -/
/-- the place that an index of any sign means -/
def ixN (n : Nat) (i : Int) : Option Nat := if 0 ≤ i then (if i < n then some i.toNat else none) else if -(n : Int) ≤ i then some (i + n).toNat else none
def atI {α : Type} (xs : List α) (i : Int) : Option α := (ixN xs.length i).bind fun j => xs[j]?
theorem ixN_seq {n : Nat} {i : Int} {j : Nat} (h : ixN n i = some j) : seqIndex? i n = some j ∧ j < n ∧ -(n : Int) ≤ i ∧ i < n := by
  unfold ixN at h
  by_cases h0 : 0 ≤ i
  · rw [if_pos h0] at h
    by_cases h1 : i < n
    · rw [if_pos h1] at h
      have e : i.toNat = j := Option.some.inj h
      exact ⟨by rw [seqIndex_of h0 h1, e], by omega, by omega, h1⟩
    · rw [if_neg h1] at h; cases h
  · rw [if_neg h0] at h
    by_cases h1 : -(n : Int) ≤ i
    · rw [if_pos h1] at h
      have e : (i + n).toNat = j := Option.some.inj h
      exact ⟨by rw [seqIndex_neg (by omega) h1, e], by omega, h1, by omega⟩
    · rw [if_neg h1] at h; cases h
theorem atI_get {α : Type} {xs : List α} {i : Int} {v : α} (h : atI xs i = some v) : ∃ j, seqIndex? i xs.length = some j ∧ xs[j]? = some v ∧ j < xs.length ∧ -(xs.length : Int) ≤ i ∧ i < xs.length := by
  unfold atI at h
  cases e : ixN xs.length i with
  | none => rw [e] at h; cases h
  | some j =>
    rw [e] at h
    obtain ⟨h1, h2, h3, h4⟩ := ixN_seq e
    exact ⟨j, h1, h, h2, h3, h4⟩
theorem atI_nat {α : Type} {xs : List α} {j : Nat} {v : α} (h : xs[j]? = some v) : atI xs (j : Int) = some v := by
  have hj : j < xs.length := (List.getElem?_eq_some_iff.mp h).1
  have e : ixN xs.length (j : Int) = some j := by
    unfold ixN
    rw [if_pos (by omega), if_pos (by omega)]; simp
  unfold atI; rw [e]; exact h
theorem atI_last {α : Type} (xs : List α) (v : α) : atI (xs ++ [v]) (-1) = some v := by
  have hl : (xs ++ [v]).length = xs.length + 1 := by simp
  have e : ixN (xs ++ [v]).length (-1) = some xs.length := by
    unfold ixN
    rw [hl, if_neg (by decide), if_pos (by omega)]
    congr 1
    omega
  unfold atI
  rw [e]
  show (xs ++ [v])[xs.length]? = some v
  simp

/-! ### what may be subscripted -/
/-- what stands as an index of a plain subscript -/
def PlainIx (b : Expr) : Prop := ∀ o i, subscripted b false o i = operate [o, i] (getItem o i)
/-- a subscript by values -/
def IxR (X : Cx) (r : R2) : Prop :=
  ∀ (value slice : Expr) (pins : List (Addr × Obj)) (s : Shared) (σ : St) (H : Hp) (x y : V) (v u : Value) (Q : VK), Inv X pins σ H s → RelV x v → RelV y u → r x y H Q →
    subscripted slice false v u = operate [v, u] (getItem v u) → wpAny (model X.prog X.w) X.A (subscriptTail value slice v u) (EP X pins σ Q) X.xe s
/-- a call of a builtin's method by values: the receiver, the arguments -/
def MtR (X : Cx) (id : String) (r : V → List V → Hp → VK → Prop) : Prop :=
  ∀ (pins : List (Addr × Obj)) (s : Shared) (σ : St) (H : Hp) (x : V) (xs : List V) (v : Value) (us : List Value) (Q : VK), Inv X pins σ H s → RelV x v → Vals xs us → r x xs H Q →
    wpAny (model X.prog X.w) X.A (call (.builtin id) (v :: us)) (EP X pins σ Q) X.xe s
section
variable {X : Cx} {a b : Expr} {ta tb : TE} {pos : Pos}
/-- a[b] -/
theorem pe_ix {r : R2} (hr : IxR X r) (ha : PE X a ta) (hb : PE X b tb) (hs : PlainIx b) : PE X (.Subscript a b pos) (tOp r ta tb) := by
  intro pins s σ H Q I h
  exact Subscript_ (binT ha hb I h fun v u s2 x y H2 I2 rx ry q => hr a b pins s2 σ H2 x y v u Q I2 rx ry q (hs _ _))

def rIxL (K : PySem.W.Frag) : R2 := fun x y H Q => ∃ p xs i v, x = .ref p ∧ y = .int i ∧ SqL K H p xs ∧ atI xs i = some v ∧ Q v H
def rIxT (K : PySem.W.Frag) : R2 := fun x y H Q => ∃ p xs i v, x = .ref p ∧ y = .int i ∧ SqT K H p xs ∧ atI xs i = some v ∧ Q v H
theorem ix_list : IxR X (rIxL X.K) := by
  intro value slice pins s σ H x y v u Q I rx ry h hs
  obtain ⟨p, xs, i, z, rfl, rfl, hq, he, q⟩ := h
  cases rx
  obtain ⟨t, rfl⟩ := ry
  obtain ⟨its, r, pl, hz⟩ := I.list hq
  obtain ⟨j, h1, h2, h3, h4, h5⟩ := atI_get he
  obtain ⟨w, ew, rw'⟩ := r.get h2
  have hl := r.length
  have hn := line63
  have fin : EP X pins σ Q w s := ⟨z, H, I, rw', q⟩
  by_cases h0 : 0 ≤ i
  · have hj : i.toNat = j := by
      rw [seqIndex_of h0 h5] at h1
      exact Option.some.inj h1
    exact item_listR pl.isList h0 (by omega) (by rw [hj]; simpa using ew) fin hs
  · have hj : (i + (its.toArray.size : Int)).toNat = j := by
      rw [seqIndex_neg (by omega) h4] at h1
      rw [List.size_toArray, ← hl]
      exact Option.some.inj h1
    exact subscriptTail_builtinR (x := w) pl.isList.typeIs slot_list_getitem.lookup
      (wpAny_getItem_list_neg (Q := fun r s' => r = w ∧ EP X pins σ Q r s') pl.isList (by omega) (by rw [List.size_toArray] <;> omega) (by omega) (by rw [hj]; simpa using ew) ⟨rfl, fin⟩) hs
theorem ix_tup : IxR X (rIxT X.K) := by
  intro value slice pins s σ H x y v u Q I rx ry h hs
  obtain ⟨p, xs, i, z, rfl, rfl, hq, he, q⟩ := h
  cases rx
  obtain ⟨t, rfl⟩ := ry
  obtain ⟨its, r, pl, hz⟩ := I.tuple hq
  obtain ⟨j, h1, h2, h3, h4, h5⟩ := atI_get he
  obtain ⟨w, ew, rw'⟩ := r.get h2
  have hl := r.length
  have hn := line63
  have fin : EP X pins σ Q w s := ⟨z, H, I, rw', q⟩
  exact subscriptTail_builtinR (x := w) pl.typeIs slot_tuple_getitem.lookup
    (getItem_tuple (j := j) (Q := fun r s' => r = w ∧ EP X pins σ Q r s') pl (by omega) (by omega) (by rw [List.size_toArray, ← hl]; exact h1) (by simpa using ew) ⟨rfl, fin⟩) hs
/-! ### xs[i] = v, any sign -/
/-- the list's object behind a store -/
theorem mapSeq_set (its : List Value) (n j : Nat) (u : Value) : Obj.mapSeq (·.setIfInBounds j u) { cls := .type "list", data := .seq its.toArray n } = { cls := .type "list", data := .seq (its.set j u).toArray n } := by
  simp [Obj.mapSeq]
theorem Inv.lst {pins : List (Addr × Obj)} {σ : St} {H : Hp} {s : Shared} {p : Addr} {xs : List V} (I : Inv X pins σ H s) (h : H p = some (.lst xs)) :
    ∃ (its : List Value) (n : Nat), Vals xs its ∧ s.heap.get? p = some { cls := .type "list", data := .seq its.toArray n } ∧ xs.length ≤ sizeLine := by
  obtain ⟨z, its, n, r, e⟩ := I.hok p _ h
  exact ⟨its, n, r, e, z⟩
/-- the list at p is written by an update of its object -/
theorem Inv.lstUpd {pins : List (Addr × Obj)} {σ : St} {H : Hp} {s : Shared} {p : Addr} {xs ys : List V} {its its' : List Value} {n n' : Nat} {f : Obj → Obj} (I : Inv X pins σ H s) (h : H p = some (.lst xs))
    (ho : s.heap.get? p = some { cls := .type "list", data := .seq its.toArray n }) (hf : f { cls := .type "list", data := .seq its.toArray n } = { cls := .type "list", data := .seq its'.toArray n' }) (r : Vals ys its') (hz : ys.length ≤ sizeLine) (t : Nat) :
    Inv X pins σ (upd H p (.lst ys)) { s with heap := s.heap.update p f, toks := t } := by
  have e : (s.heap.update p f).get? p = some { cls := .type "list", data := .seq its'.toArray n' } := by
    rw [Heap.get?_update_self f ho (by rw [hf] <;> rfl), hf]
  refine I.write (x := p) (e := p) (by rw [h]; trivial) (.inl rfl) (fun b u hb q => (Heap.get?_update_other _ _ (Ne.symm hb)).trans q) ⟨_, e⟩ ?_
  exact ⟨hz, its', n', r, e⟩
def rSetL : V → V → V → Hp → (Hp → Prop) → Prop := fun o i v H Q => ∃ p xs k j, o = .ref p ∧ i = .int k ∧ H p = some (.lst xs) ∧ ixN xs.length k = some j ∧ Q (upd H p (.lst (xs.set j v)))
theorem set_list : PSet X rSetL := by
  intro pins s σ H o i v ov iv u Q I ro ri rv h
  obtain ⟨p, xs, k, j, rfl, rfl, hp, hj, q⟩ := h
  cases ro
  obtain ⟨t, rfl⟩ := ri
  obtain ⟨its, n, r, ho, hz⟩ := I.lst hp
  obtain ⟨h1, h2, h3, h4⟩ := ixN_seq hj
  have hl := r.length
  have hn := line63
  have I' : Inv X pins σ (upd H p (.lst (xs.set j v))) { s with heap := s.heap.update p (Obj.mapSeq (·.setIfInBounds j u)) } :=
    I.lstUpd hp ho (mapSeq_set its n j u) (r.set rv j) (by rw [List.length_set]; exact hz) s.toks
  by_cases h0 : 0 ≤ k
  · have hk : k.toNat = j := by
      rw [seqIndex_of h0 h4] at h1
      exact Option.some.inj h1
    exact PySem.W.ki_setAt ho h0 (by omega) (by rw [List.size_toArray, ← hl]; exact h4) (by rw [hk]; exact ⟨_, I', q⟩)
  · have hk : (k + (its.toArray.size : Int)).toNat = j := by
      rw [seqIndex_neg (by omega) h3] at h1
      rw [List.size_toArray, ← hl]
      exact Option.some.inj h1
    exact PySem.W.ki_setBack ho (by omega) (by rw [List.size_toArray, ← hl]; exact h3) (by omega) (by rw [hk]; exact ⟨_, I', q⟩)

/-! ### slices -/
theorem slice_bounds (lo hi : Option Int) (n : Nat) : (sliceBounds lo hi none n).1 = ((HT.sIx n 0 lo : Nat) : Int) ∧ (sliceBounds lo hi none n).2.1 = ((HT.sIx n n hi : Nat) : Int) ∧ (sliceBounds lo hi none n).2.2 = 1 := by
  refine ⟨?_, ?_, rfl⟩
  · cases lo with
    | none => simp [sliceBounds, HT.sIx]
    | some i =>
      simp only [sliceBounds, HT.sIx, Option.getD_none, show (1 : Int) > 0 by decide, if_true]
      by_cases h : i < 0
      · simp only [h, if_true] <;> omega
      · simp only [h, if_false] <;> omega
  · cases hi with
    | none => simp [sliceBounds, HT.sIx]
    | some i =>
      simp only [sliceBounds, HT.sIx, Option.getD_none, show (1 : Int) > 0 by decide, if_true]
      by_cases h : i < 0
      · simp only [h, if_true] <;> omega
      · simp only [h, if_false] <;> omega
theorem slicePick_cut (its : List Value) (lo hi : Option Int) : slicePick its.toArray lo hi none = ((its.drop (HT.sIx its.length 0 lo)).take (HT.sIx its.length its.length hi - HT.sIx its.length 0 lo)).toArray := by
  obtain ⟨h1, h2, h3⟩ := slice_bounds lo hi its.toArray.size
  unfold slicePick
  rw [h1, h2, h3]
  simp only [sliceRange_one, pick_run, List.size_toArray] <;> rfl
/-- xs[lo:hi] of a list: a new list -/
def rSlL (K : PySem.W.Frag) : V → Option Int → Option Int → Hp → VK → Prop := fun x lo hi H Q => ∃ a xs, x = .ref a ∧ SqL K H a xs ∧ ∀ p, H p = none → Q (.ref p) (upd H p (.lst (cutV xs lo hi)))
theorem sl_list : SlR X (rSlL X.K) := by
  intro pins s σ H x v vl vu lo hi sl Q I rx hs pl pu h
  obtain ⟨a, xs, rfl, hx, q⟩ := h
  cases rx
  obtain ⟨its, r, ht, hz⟩ := I.list hx
  have hlen := r.length
  refine ⟨"list", _, slot_list_getitem.lookup, ht.isList.typeIs, ?_⟩
  refine wpAny_getItem_list_slice ht.isList hs pl pu .none (by simp) ?_ (by rw [List.size_toArray] <;> omega)
  rw [slicePick_cut, ← hlen]
  refine ⟨.ref s.heap.objs.size, _, I.laid (t' := s.toks) (o := .lst (cutV xs lo hi)) (fun b ob q => Heap.get?_push_of_some _ q) (Nat.le_refl _) ?_, rfl, q _ (I.hok.fresh (Nat.le_refl _))⟩
  exact ⟨Nat.le_trans (cutV_length xs lo hi) hz, _, 0, (r.drop (HT.sIx xs.length 0 lo)).take (HT.sIx xs.length xs.length hi - HT.sIx xs.length 0 lo), Heap.get?_push_size _ rfl⟩

/-! ### in, not in: flat items -/
def flatV : V → Bool
  | .non => true
  | .bl _ => true
  | .int _ => true
  | .str _ => true
  | _ => false
/-- == of flat values -/
def eqV : V → V → Bool
  | .non, .non => true
  | .bl a, .bl b => a == b
  | .bl a, .int b => (if a then 1 else 0) == b
  | .int a, .bl b => a == (if b then 1 else 0)
  | .int a, .int b => a == b
  | .str a, .str b => a == b
  | _, _ => false
theorem eqAt_V {A : Around} {s : Shared} {y x : V} {u v : Value} (ry : RelV y u) (rx : RelV x v) (fy : flatV y = true) (fx : flatV x = true) : SeqAt.EqAt A s u v (eqV y x) := by
  cases y with
  | non =>
    cases ry
    cases x with
    | non => cases rx; exact SeqAt.EqAt.same _
    | bl b => cases rx; exact SeqAt.EqAt.none_bool b
    | int b => obtain ⟨t, rfl⟩ := rx; exact SeqAt.EqAt.none_int b t
    | str b => obtain ⟨t, rfl⟩ := rx; exact SeqAt.EqAt.none_str b t
    | _ => exact absurd (show false = true from fx) Bool.false_ne_true
  | bl a =>
    cases ry
    cases x with
    | non => cases rx; exact SeqAt.EqAt.bool_none a
    | bl b => cases rx; exact SeqAt.EqAt.bool_bool a b
    | int b => obtain ⟨t, rfl⟩ := rx; exact SeqAt.EqAt.bool_int a b t
    | str b => obtain ⟨t, rfl⟩ := rx; exact SeqAt.EqAt.bool_str a b t
    | _ => exact absurd (show false = true from fx) Bool.false_ne_true
  | int a =>
    obtain ⟨t', rfl⟩ := ry
    cases x with
    | non => cases rx; exact SeqAt.EqAt.int_none a t'
    | bl b => cases rx; exact SeqAt.EqAt.int_bool a t' b
    | int b => obtain ⟨t, rfl⟩ := rx; exact SeqAt.EqAt.int_int a t' b t
    | str b => obtain ⟨t, rfl⟩ := rx; exact SeqAt.EqAt.int_str a t' b t
    | _ => exact absurd (show false = true from fx) Bool.false_ne_true
  | str a =>
    obtain ⟨t', rfl⟩ := ry
    cases x with
    | non => cases rx; exact SeqAt.EqAt.str_none a t'
    | bl b => cases rx; exact SeqAt.EqAt.str_bool a t' b
    | int b => obtain ⟨t, rfl⟩ := rx; exact SeqAt.EqAt.str_int a t' b t
    | str b => obtain ⟨t, rfl⟩ := rx; exact SeqAt.EqAt.str_str a t' b t
    | _ => exact absurd (show false = true from fx) Bool.false_ne_true
  | _ => exact absurd (show false = true from fy) Bool.false_ne_true
/-- the items' answers, read off the values (a value's own answer does not lean on its token) -/
def eqU (x : V) (u : Value) : Bool := match u with
  | .none => eqV .non x
  | .bool b => eqV (.bl b) x
  | .int i _ => eqV (.int i) x
  | .str z _ => eqV (.str z) x
  | _ => false
theorem eqU_of {x y : V} {u : Value} (r : RelV y u) (f : flatV y = true) : eqU x u = eqV y x := by
  cases y with
  | non => cases r; rfl
  | bl b => cases r; rfl
  | int i => obtain ⟨t, rfl⟩ := r; rfl
  | str z => obtain ⟨t, rfl⟩ := r; rfl
  | _ => exact absurd (show false = true from f) Bool.false_ne_true
theorem any_eqU {x : V} : ∀ {xs : List V} {us : List Value}, Vals xs us → xs.all flatV = true → us.any (eqU x) = xs.any fun y => eqV y x
  | _, _, .nil, _ => rfl
  | y :: xs, u :: us, .cons r t, f => by
    rw [List.all_cons, Bool.and_eq_true] at f
    rw [List.any_cons, List.any_cons, eqU_of r f.1, any_eqU t f.2]
theorem mem_eqAt {A : Around} {s : Shared} {x : V} {v : Value} (rx : RelV x v) (fx : flatV x = true) : ∀ {xs : List V} {us : List Value}, Vals xs us → xs.all flatV = true → ∀ u ∈ us, SeqAt.EqAt A s u v (eqU x u)
  | _, _, .nil, _ => fun u hu => by cases hu
  | y :: xs, u :: us, .cons r t, f => fun u' hu => by
    rw [List.all_cons, Bool.and_eq_true] at f
    rcases List.mem_cons.mp hu with rfl | hu
    · rw [eqU_of r f.1]; exact eqAt_V r rx f.1 fx
    · exact mem_eqAt rx fx t f.2 u' hu
def inV (x : V) (xs : List V) : Bool := xs.any fun y => eqV y x
/-- x in a list or tuple of flat items -/
def rIn (K : PySem.W.Frag) (neg : Bool) : R2 := fun x y H Q => ∃ p xs, y = .ref p ∧ (SqL K H p xs ∨ SqT K H p xs) ∧ flatV x = true ∧ xs.all flatV = true ∧ Q (.bl (if neg then !inV x xs else inV x xs)) H
theorem op_in_seq : OpR X (compareOp .In) (rIn X.K false) := by
  intro pins s σ H x y v u Q I rx ry h
  obtain ⟨p, xs, rfl, hq, fx, fs, q⟩ := h
  cases ry
  rcases hq with hq | hq
  · obtain ⟨its, r, pl, hz⟩ := I.list hq
    refine SeqAt.in_listAt (eqU x) pl.isList (fun w hw => mem_eqAt rx fx r fs w (by simpa using hw)) ⟨.bl _, H, I, rfl, ?_⟩
    rw [show its.toArray.any (eqU x) = its.any (eqU x) by simp, any_eqU r fs]
    exact q
  · obtain ⟨its, r, pl, hz⟩ := I.tuple hq
    refine SeqAt.in_tupleAt (eqU x) pl (fun w hw => mem_eqAt rx fx r fs w (by simpa using hw)) ⟨.bl _, H, I, rfl, ?_⟩
    rw [show its.toArray.any (eqU x) = its.any (eqU x) by simp, any_eqU r fs]
    exact q
theorem op_notIn_seq : OpR X (compareOp .NotIn) (rIn X.K true) := by
  intro pins s σ H x y v u Q I rx ry h
  obtain ⟨p, xs, rfl, hq, fx, fs, q⟩ := h
  cases ry
  rcases hq with hq | hq
  · obtain ⟨its, r, pl, hz⟩ := I.list hq
    refine SeqAt.notIn_listAt (eqU x) pl.isList (fun w hw => mem_eqAt rx fx r fs w (by simpa using hw)) ⟨.bl _, H, I, rfl, ?_⟩
    rw [show its.toArray.any (eqU x) = its.any (eqU x) by simp, any_eqU r fs]
    exact q
  · obtain ⟨its, r, pl, hz⟩ := I.tuple hq
    refine SeqAt.notIn_tupleAt (eqU x) pl (fun w hw => mem_eqAt rx fx r fs w (by simpa using hw)) ⟨.bl _, H, I, rfl, ?_⟩
    rw [show its.toArray.any (eqU x) = its.any (eqU x) by simp, any_eqU r fs]
    exact q
/-! ### len, list(x), tuple(x) of any list or tuple that is read -/
theorem call_len_seq : CallR X (.builtin "len") (fun xs H Q => ∃ p ys, xs = [.ref p] ∧ (SqL X.K H p ys ∨ SqT X.K H p ys) ∧ Q (.int ys.length) H) := by
  intro pins s σ H xs us Q I r h
  obtain ⟨p, ys, rfl, hq, q⟩ := h
  obtain ⟨u, rfl, rx⟩ := vals1 r
  cases rx
  have hn := line63
  rcases hq with hq | hq
  · obtain ⟨its, r', pl, hz⟩ := I.list hq
    have hlen := r'.length
    exact Calls.call_len_list pl.isList (by simp only [List.size_toArray] <;> omega) ⟨.int ys.length, H, I.tok _, ⟨s.toks + 1, by rw [List.size_toArray, hlen]⟩, q⟩
  · obtain ⟨its, r', pl, hz⟩ := I.tuple hq
    have hlen := r'.length
    exact len_tuple pl (by simp only [List.size_toArray] <;> omega) ⟨.int ys.length, H, I.tok _, ⟨s.toks + 1, by rw [List.size_toArray, hlen]⟩, q⟩
theorem call_tuple_of : CallR X (.type "tuple") (fun xs H Q => ∃ p ys, xs = [.ref p] ∧ ((SqL X.K H p ys ∧ ∀ l, H l = none → Q (.ref l) (upd H l (.tup ys))) ∨ (SqT X.K H p ys ∧ Q (.ref p) H))) := by
  intro pins s σ H xs us Q I r h
  obtain ⟨p, ys, rfl, h⟩ := h
  obtain ⟨u, rfl, rx⟩ := vals1 r
  cases rx
  rcases h with ⟨hq, q⟩ | ⟨hq, q⟩
  · obtain ⟨its, r', pl, hz⟩ := I.list hq
    have hlen := r'.length
    refine call_tuple_list pl.isList (fun h' kp => ?_) (by simp only [List.size_toArray] <;> omega)
    have I1 : Inv X pins σ H { s with heap := h' } := I.kept (t' := s.toks) kp
    have I2 : Inv X pins σ (upd H h'.objs.size (.tup ys)) { s with heap := h'.push { cls := .type "tuple", data := .seq its.toArray } } :=
      I1.laid (t' := s.toks) (fun b o e => Heap.get?_push_of_some _ e) (Nat.le_refl _) (show ObjOk X.prog X.w _ _ _ (.tup ys) from ⟨hz, its, r', IsTup.new _ _⟩)
    exact ⟨.ref h'.objs.size, _, I2, rfl, q _ (I1.hok.fresh (Nat.le_refl _))⟩
  · obtain ⟨its, r', pl, hz⟩ := I.tuple hq
    exact call_tuple_same pl ⟨.ref p, H, I, rfl, q⟩

/-! ### the call of a builtin's method: o.m(..) -/
/-- the value is of that builtin type -/
def tyV (K : PySem.W.Frag) (T : String) (x : V) (H : Hp) : Prop := match x with
  | .str _ => T = "str"
  | .int _ => T = "int"
  | .ref p => (T = "list" ∧ ∃ xs, SqL K H p xs) ∨ (T = "tuple" ∧ ∃ o, K.lookup p = some o ∧ o.cls = .type "tuple" ∧ o.dict = none) ∨
      (T = "dict" ∧ ((∃ kvs, H p = some (.dK kvs)) ∨ ∃ kvs, H p = some (.dT kvs))) ∨ (T = "set" ∧ ∃ S n, H p = some (.set S n))
  | _ => False
theorem tyV_is {pins : List (Addr × Obj)} {σ : St} {H : Hp} {s : Shared} {T : String} {x : V} {v : Value} (I : Inv X pins σ H s) (r : RelV x v) (ty : tyV X.K T x H) :
    s.TypeIs v T ∧ ∀ a, v = .ref a → ∃ ob, s.heap.get? a = some ob ∧ ob.dict = none := by
  cases x with
  | str z =>
    obtain ⟨t, rfl⟩ := r
    cases (show T = "str" from ty)
    exact ⟨typeIs_str s z t, fun _ e => nomatch e⟩
  | int i =>
    obtain ⟨t, rfl⟩ := r
    cases (show T = "int" from ty)
    exact ⟨typeIs_int s i t, fun _ e => nomatch e⟩
  | ref p =>
    cases r
    rcases ty with ⟨rfl, xs, hq⟩ | ⟨rfl, o, hk, hc, hd⟩ | ⟨rfl, hk⟩ | ⟨rfl, S, n, hk⟩
    · obtain ⟨its, _, pl, _⟩ := I.list hq
      refine ⟨pl.isList.typeIs, fun a e => ?_⟩
      cases e
      obtain ⟨o, n, e, c, hd, _⟩ := pl
      exact ⟨o, e, hd⟩
    · refine ⟨⟨o, I.kIn p o hk, hc⟩, fun a e => ?_⟩
      cases e
      exact ⟨o, I.kIn _ o hk, hd⟩
    · have z : ∃ o, s.heap.get? p = some o ∧ o.ExactDict := by
        rcases hk with ⟨kvs, hk⟩ | ⟨kvs, hk⟩
        · obtain ⟨_, _, _, _, o, _, _, e, ex, _⟩ := I.hok p _ hk
          exact ⟨o, e, ex⟩
        · obtain ⟨_, _, _, _, o, _, _, e, ex, _⟩ := I.hok p _ hk
          exact ⟨o, e, ex⟩
      obtain ⟨o, e, ex⟩ := z
      refine ⟨⟨o, e, ex.1⟩, fun a e2 => ?_⟩
      cases e2
      exact ⟨o, e, ex.2.1⟩
    · obtain ⟨o, _, _, _, e, ex, _⟩ := I.hok p _ hk
      refine ⟨⟨o, e, ex.1⟩, fun a e2 => ?_⟩
      cases e2
      exact ⟨o, e, ex.2.1⟩
  | _ => exact False.elim ty
def tBM (K : PySem.W.Frag) (T : String) (r : V → List V → Hp → VK → Prop) (to : TE) (t : TA) : TE := fun σ H Q => to σ H fun x H1 => tyV K T x H1 ∧ t σ H1 fun xs H2 => r x xs H2 Q
variable {o e : Expr} {es : List Expr} {to : TE} {t : TA} {name : Str} {apos cpos : Pos} {T id : String} {r : V → List V → Hp → VK → Prop}
theorem pe_bm (pa : PlainAttrs T) (slot : Slot T name id) (hty : typeOf (.builtin id) = pure (.type "method_descriptor")) (hm : MtR X id r) (ho : PE X o to) (ha : PA X (e :: es) t)
    (hbase : attributeBase o name X.env (eval o X.env) = eval o X.env := by rfl)
    (hfew : ((backTo cpos (starEach (e :: es) X.env)).all (fun x => !x.1) && (backToKw cpos (keywordEach [] X.env)).all (fun x => x.1.isSome)
      && decide ((e :: es).length + ([] : List Keyword).length + (if ([] : List Keyword).isEmpty then 0 else 1) < 30)) = true := by rfl)
    (hline : (apos.endLine == cpos.line) = true := by rfl) (hs : starEach (e :: es) X.env = (false, eval e X.env) :: starEach es X.env := by rfl) (hplain : (backTo cpos (starEach es X.env)).any (·.1) = false := by rfl) :
    PE X (.Call (.Attribute o name apos) (e :: es) [] cpos) (tBM X.K T r to t) := by
  intro pins s σ H Q I h
  refine wpAny_Call_method_late hbase hfew hline rfl (thn (ho pins s σ H _ I h) fun v s1 ⟨x, H1, I1, r1, ty, q1⟩ => ?_)
  obtain ⟨h1, h2⟩ := tyV_is I1 r1 ty
  refine ⟨T, id, pa, slot, hty, h1, h2, ?_⟩
  have hA := ha cpos pins s1 σ H1 _ I1 q1
  rw [hs] at hA ⊢
  refine Calls.callWith_builtin (by show (false || (backTo cpos (starEach es X.env)).any (·.1)) = false; rw [hplain] <;> rfl) (Calls.evalArgs_plain ?_)
  exact thn hA fun us s2 ⟨vs, H2, I2, r2, q2⟩ => hm pins s2 σ H2 x vs v us Q I2 r1 r2 q2
/- xs.append(e), list.index on a module's tuple .. are MtR facts of 06m -/
end
end L2

namespace L2
open PySem PySem.Spec PyProof.Rows

def MtM (X : Cx) (id : String) (r : V → List V → Hp → VK → Prop) : Prop :=
  ∀ (pins : List (Addr × Obj)) (s : Shared) (σ : St) (H : Hp) (x : V) (xs : List V) (v : Value) (us : List Value) (Q : VK), Inv X pins σ H s → RelV x v → Vals xs us → r x xs H Q →
    wpAny (model X.prog X.w) X.A (call (.builtin id) (v :: us)) (EP X pins σ Q) X.xe s

/-! ### lists of values -/
theorem Vals.one : ∀ {x : V} {us : List Value}, Vals [x] us → ∃ u, us = [u] ∧ RelV x u
  | _, _, .cons r .nil => ⟨_, rfl, r⟩
theorem Vals.rep {xs : List V} {us : List Value} (h : Vals xs us) : ∀ k : Nat, Vals (List.replicate k xs).flatten (List.replicate k us).flatten
  | 0 => .nil
  | k + 1 => by
    rw [List.replicate_succ, List.replicate_succ, List.flatten_cons, List.flatten_cons]
    exact Vals.append h (Vals.rep h k)
theorem foldl_rep (its : List Value) : ∀ (k : Nat) (acc : List Value),
    List.foldl (fun x1 x2 => x1 ++ x2) acc.toArray (List.replicate k its.toArray) = (acc ++ (List.replicate k its).flatten).toArray
  | 0, acc => by simp
  | k + 1, acc => by
    have e : acc.toArray ++ its.toArray = (acc ++ its).toArray := by simp
    have e2 : (acc ++ its) ++ (List.replicate k its).flatten = acc ++ (List.replicate (k + 1) its).flatten := by
      rw [List.replicate_succ, List.flatten_cons, List.append_assoc]
    rw [← e2, ← foldl_rep its k (acc ++ its), ← e, List.replicate_succ, List.foldl_cons]

section
variable {X : Cx} {pins : List (Addr × Obj)} {σ : St} {H : Hp} {s : Shared} {l b : Addr} {xs ys zs : List V}

/-! ### the two steps: a tracked list is rewritten, a new list is laid -/
theorem Inv.lset {its its' : List Value} {n : Nat} {f : Array Value → Array Value} {t' : Nat} (I : Inv X pins σ H s) (hH : H l = some (.lst xs))
    (e : s.heap.get? l = some { cls := .type "list", data := .seq its.toArray n }) (hf : f its.toArray = its'.toArray) (hv : Vals ys its') (hz : ys.length ≤ sizeLine) :
    Inv X pins σ (upd H l (.lst ys)) { s with heap := s.heap.update l (Obj.mapSeq f), toks := t' } := by
  have q := PySem.IsL.update e f
  rw [hf] at q
  refine I.write (x := l) (e := l) (by rw [hH]; exact trivial) (.inl rfl) (fun b' u hb hu => (Heap.get?_update_other s.heap (Obj.mapSeq f) (Ne.symm hb)).trans hu) ⟨_, q⟩ ?_
  exact ⟨hz, its', _, hv, q⟩
theorem Inv.lnew {its : List Value} {t' : Nat} (I : Inv X pins σ H s) (hv : Vals ys its) (hz : ys.length ≤ sizeLine) :
    Inv X pins σ (upd H s.heap.objs.size (.lst ys)) { s with heap := s.heap.push { cls := .type "list", data := .seq its.toArray }, toks := t' } :=
  I.laid (fun _ _ q => Heap.get?_push_of_some _ q) (Nat.le_refl _) ⟨hz, its, 0, hv, Heap.get?_push_size _ rfl⟩
theorem Inv.fresh (I : Inv X pins σ H s) : H s.heap.objs.size = none := I.hok.fresh (Nat.le_refl _)
theorem Inv.lstM (I : Inv X pins σ H s) (hH : H l = some (.lst xs)) : xs.length ≤ sizeLine ∧ ∃ (its : List Value) (n : Nat), Vals xs its ∧ xs.length = its.length ∧ s.heap.get? l = some { cls := .type "list", data := .seq its.toArray n } := by
  obtain ⟨z, its, n, r, e⟩ := I.hok l _ hH
  exact ⟨z, its, n, r, r.length, e⟩

theorem notLongL {n : Nat} (h : n ≤ sizeLine) : Builtin.List.listTooLong n = false := by
  unfold Builtin.List.listTooLong
  exact decide_eq_false (by omega)
end

section
variable {X : Cx}

/-! ### methods -/
def rAppend : V → List V → Hp → VK → Prop := fun x vs H Q => ∃ l xs y, x = .ref l ∧ vs = [y] ∧ H l = some (.lst xs) ∧ xs.length < sizeLine ∧ Q .non (upd H l (.lst (xs ++ [y])))
theorem mt_append : MtM X "list.append" rAppend := by
  intro pins s σ H x vs v us Q I rx rv h
  obtain ⟨l, xs, y, rfl, rfl, hH, hz, q⟩ := h
  cases rx
  obtain ⟨u, rfl, ru⟩ := rv.one
  obtain ⟨z, its, n, r, hl, e⟩ := I.lstM hH
  refine call_meets F.slot_list_append ⟨_, e, rfl⟩ F.entry_list_append (F.args_list_append_2 _ _) (PySem.list_append l its.toArray n u (by rw [List.size_toArray]; omega)) ⟨e, ?_⟩
  refine ⟨.non, _, I.lset (its' := its ++ [u]) hH e (by simp) (r.append (.cons ru .nil)) ?_, rfl, q⟩
  rw [List.length_append, List.length_singleton]
  omega

def rExtend : V → List V → Hp → VK → Prop := fun x vs H Q => ∃ l b xs zs, x = .ref l ∧ vs = [.ref b] ∧ H l = some (.lst xs) ∧ H b = some (.lst zs) ∧ xs.length + zs.length ≤ sizeLine ∧ Q .non (upd H l (.lst (xs ++ zs)))
theorem mt_extend : MtM X "list.extend" rExtend := by
  intro pins s σ H x vs v us Q I rx rv h
  obtain ⟨l, b, xs, zs, rfl, rfl, hH, hB, hz, q⟩ := h
  cases rx
  obtain ⟨u, rfl, ru⟩ := rv.one
  cases ru
  obtain ⟨z, its, n, r, hl, e⟩ := I.lstM hH
  obtain ⟨z2, its2, n2, r2, hl2, e2⟩ := I.lstM hB
  have hsz : its.toArray.size + its2.toArray.size ≤ sizeLine := by rw [List.size_toArray, List.size_toArray]; omega
  have hlong : ¬ (!its.toArray.isEmpty && Builtin.List.listTooLong (its.toArray.size + its2.toArray.size)) = true := by
    rw [notLongL hsz, Bool.and_false]
    exact Bool.false_ne_true
  refine call_meets F.slot_list_extend ⟨_, e, rfl⟩ F.entry_list_extend (F.args_list_extend_2 _ _)
    (AutoSeq1.list_extend_list_list_0 l its.toArray n b its2.toArray n2 hlong (by rw [List.size_toArray]; omega) (by omega)) ⟨e, e2, ?_⟩
  refine ⟨.non, _, I.lset (its' := its ++ its2) hH e (by simp) (r.append r2) ?_, rfl, q⟩
  rw [List.length_append]
  omega

/-! ### list + list, list += list, list * int -/
def rCat : R2 := fun x y H Q => ∃ l b xs zs, x = .ref l ∧ y = .ref b ∧ H l = some (.lst xs) ∧ H b = some (.lst zs) ∧ xs.length + zs.length ≤ sizeLine ∧ ∀ p, H p = none → Q (.ref p) (upd H p (.lst (xs ++ zs)))
theorem op_cat : OpR X (binaryOp .Add) rCat := by
  intro pins s σ H x y v u Q I rx ry h
  obtain ⟨l, b, xs, zs, rfl, rfl, hH, hB, hz, q⟩ := h
  cases rx
  cases ry
  obtain ⟨z, its, n, r, hl, e⟩ := I.lstM hH
  obtain ⟨z2, its2, n2, r2, hl2, e2⟩ := I.lstM hB
  refine PySem.P.add_list e e2 ?_ (by rw [List.size_toArray, List.size_toArray]; omega)
  have ea : its.toArray ++ its2.toArray = (its ++ its2).toArray := by simp
  rw [ea]
  exact ⟨.ref _, _, I.lnew (t' := s.toks) (r.append r2) (by rw [List.length_append]; omega), rfl, q _ I.fresh⟩
/-- a list times an int (a negative one is nothing) -/
def rRep : R2 := fun x y H Q => ∃ l k xs, x = .ref l ∧ y = .int k ∧ H l = some (.lst xs) ∧ -(2 ^ 63) ≤ k ∧ k < 2 ^ 63 ∧ xs.length * k.toNat ≤ sizeLine ∧
  ∀ p, H p = none → Q (.ref p) (upd H p (.lst (List.replicate k.toNat xs).flatten))
theorem len_rep {α : Type} (xs : List α) (k : Nat) : (List.replicate k xs).flatten.length = k * xs.length := by
  induction k with
  | zero => simp
  | succ k ih => rw [List.replicate_succ, List.flatten_cons, List.length_append, ih, Nat.succ_mul, Nat.add_comm]
theorem op_rep : OpR X (binaryOp .Mult) rRep := by
  intro pins s σ H x y v u Q I rx ry h
  obtain ⟨l, k, xs, rfl, rfl, hH, h1, h2, hz, q⟩ := h
  cases rx
  obtain ⟨t, rfl⟩ := ry
  obtain ⟨z, its, n, r, hl, e⟩ := I.lstM hH
  have hlen : its.toArray.size * k.toNat ≤ sizeLine := by rw [List.size_toArray, ← hl]; exact hz
  have hcap : ¬ its.toArray.size * k.toNat > (2 ^ 63 - 1) / 8 := by
    have : (sizeLine : Nat) ≤ (2 ^ 63 - 1) / 8 := by decide
    omega
  have hfit : ¬ (!Builtin.List.listFitsIndex k) = true := by
    rw [fitsIndex_both h1 h2]
    exact Bool.false_ne_true
  have hlong : ¬ Builtin.List.listTooLong (its.toArray.size * k.toNat) = true := by
    rw [notLongL hlen]
    exact Bool.false_ne_true
  have hnew : List.foldl (fun x1 x2 => x1 ++ x2) #[] (List.replicate (if its.toArray.isEmpty = true then 0 else k.toNat) its.toArray) = (List.replicate k.toNat its).flatten.toArray := by
    have f0 : ∀ m : Nat, List.foldl (fun x1 x2 => x1 ++ x2) #[] (List.replicate m its.toArray) = (List.replicate m its).flatten.toArray := fun m => by
      have := foldl_rep its m []
      rw [List.nil_append] at this
      exact this
    rw [f0]
    cases its with
    | nil => simp
    | cons a r' => rw [if_neg (by simp)]
  refine wpAny_binaryOp_repeat_ref (T := "list") (U := "int") (by decide) ⟨_, e, rfl⟩ (fun s' => typeIs_int s' k t) noFill_list_mul F.fills_int_mul F.slot_int_rmul repeat_list F.slot_int_index.lookup
    (call_meets F.slot_int_rmul (typeIs_int s k t) F.entry_int_rmul (F.args_int_rmul_2 _ _) (int___rmul___int_list k t l its.toArray n)
      ⟨e, rfl, ⟨_, e, rfl⟩, call_meets F.slot_list_mul ⟨_, e, rfl⟩ F.entry_list_mul (F.args_list_mul_2 _ _) (AutoListH.list___mul___list_int_3 l its.toArray n k t hfit hcap hlong) ⟨e, ?_⟩⟩)
  rw [hnew]
  exact ⟨.ref _, _, I.lnew (t' := s.toks) (r.rep k.toNat) (by rw [len_rep, Nat.mul_comm]; exact hz), rfl, q _ I.fresh⟩

/-! ### del xs[i] -/
end

/-! ### xs[a:b] = ys -/
section
variable {prog : Program} {w : World} {A : Around} {E : Value → Shared → Prop} {s : Shared}
end

section
variable {X : Cx}
end
end L2

namespace Att
open PySem PySem.W PySem.Calls PyProof.Rows

/-! ### the script -/
theorem ints_of_wellAll {P : Params} {h : Heap} : ∀ (ns : List Int) (vs : List Value), WellAll P h vs (ns.map WData.int) → IntsAre vs ns := by
  intro ns
  induction ns with
  | nil =>
    intro vs w
    rw [List.map_nil] at w
    cases w
    exact .nil
  | cons n ns ih =>
    intro vs w
    rw [List.map_cons] at w
    cases w with
    | cons a b =>
      cases a
      exact .cons _ _ (ih _ b)

theorem script_of {l : OpenLaw} {n : Nat} (hn : l.most = some n) {P : Params} {h : Heap} {args : List WData} {vals : List Value}
    (hpre : l.row.toRowW.claim.pre args = true) (hwl : WellAll P h vals args) :
    ∃ a vs ns, vals = [Value.ref a] ∧ args = [WData.list (ns.map WData.int)] ∧ h.get? a = some { cls := .type "list", data := .seq vs.toArray } ∧ IntsAre vs ns ∧ ns.length ≤ n := by
  have hsh : WShape.hasAll [] args [.list .int] = true := (pre_splitW hpre).1
  have hc : l.pre.holds [] { args := args } = true := (pre_splitW hpre).2
  obtain ⟨d, r, rfl, h1, h2⟩ := hasAllW_cons hsh
  obtain rfl := hasAllW_nil h2
  obtain ⟨xs, rfl, h3⟩ := hasW_list h1
  obtain ⟨ns, rfl⟩ := items_int h3
  have hlen : ns.length ≤ n := by
    unfold OpenLaw.pre at hc
    have h4 : (WTm.not (.lt (.lit (.int (n : Int))) (.len (.arg 0)))).holds [] { args := [.list (ns.map .int)] } = true := by
      have h4 := (holds_andW hc).1
      rw [hn] at h4
      exact h4
    have h5 := condW_of h4 (w_not (w_lt w_lit (w_len_list (w_arg rfl))))
    rw [List.length_map] at h5
    refine Nat.le_of_not_lt fun q => ?_
    have q' : (n : Int) < ((ns.length : Nat) : Int) := by omega
    first
      | (rw [decide_eq_true q'] at h5; exact absurd h5 (by decide))
      | (simp at h5; omega)
  cases hwl with
  | cons w1 w2 =>
    cases w2
    cases w1 with
    | list ho hall => exact ⟨_, _, ns, rfl, rfl, ho, ints_of_wellAll ns _ hall, hlen⟩

theorem post_true (l : OpenLaw) (args : List WData) : l.row.toRowW.claim.post args (.bool true) args = true :=
  postW_of (r := l.row.toRowW) (X := (true == true))
    (show WShape.has [] (.bool true) .bool = true by first | rfl | decide | simp [WShape.has, WShape.arms, WShape.armsAll])
    (show (WTm.eq .res (.lit (.bool true))).value [] { args := args, res := some (.bool true), after := args } = some (.bool (true == true)) from w_eq_bool (w_res rfl) w_lit) rfl

/-! ### the attachment: holds_open's last premise (the goal 'hc' behind k_head) from a wpAny of the law's body -/
/-- the same from a codeAny of the CALL (for a layer whose function contracts speak of calls) -/
theorem attach_call {l : OpenLaw} {n : Nat} {q : Program} {loose : List Str} {XP : (Str → Option Value) → Heap → Prop} {YP : World → Heap → Prop} {d : DefRec}
    (hn : l.most = some n) (hdf : d.params.defaults = [])
    (call : ∀ (w : World) (s₀ s₁ : Shared) (mg mb : Str → Option Value) (fa : Addr) (o : Obj) (pm cd doc : Value) (a : Addr) (vs : List Value) (ns : List Int),
      Ground q loose [] XP w s₀ mg mb s₁.heap → YP w s₁.heap →
      s₁.heap.get? fa = some o → o.data = .func (docDef d.name d.params d.body d.scope pm cd doc) → s₁.heap.CodeRec cd d.name → mg d.name = some (.ref fa) →
      s₁.heap.get? a = some { cls := .type "list", data := .seq vs.toArray } → IntsAre vs ns → ns.length ≤ n → s₁.gens = #[] →
      codeAny (model l.prog w) callerA (.call (.ref fa) ⟨[.ref a], []⟩) (fun r s' => r = .ok (.ret (.bool true)) ∧ OldK s₁.heap s'.heap ∧ s'.os = s₁.os ∧ AllBare s'.gens) s₁) :
    WalkO q loose XP YP l.row.toRowW d [] (fun f vs => PySem.call f vs) := by
  intro w s₀ s₁ mg mb G Y fa o pm cd doc dV kV ho hd hcd hD hmg hg args vals as hpre hlay hrd hwl hlo
  obtain rfl : dV = .none := Dflts.none hD hdf
  obtain rfl : kV = .none := Dflts.noKw hD
  obtain ⟨a, vs, ns, rfl, rfl, hobj, hints, hlen⟩ := script_of hn hpre hwl
  refine enter_call (codeAny_mono (call w s₀ s₁ mg mb fa o pm cd doc a vs ns G Y ho (fd_plain hd) hcd hmg hobj hints hlen hg) fun r s' hq => ?_)
  obtain ⟨rfl, h2, h3, h4⟩ := hq
  exact ⟨.inl ⟨.bool true, .bool true, [], rfl, fun _ => rfl, .bool true, post_true l _, fun _ => ⟨List.Pairwise.nil, fun _ hm => (nomatch hm)⟩⟩, h2, h3, h4⟩

/-! ### rules over ANY heap (no ledger) from facts about the written part K: the library's own take a ledger (News) for what they write -/
section
variable {prog : Program} {w : World} {A : Around} {E : Value → Shared → Prop} {s : Shared} {K : Frag}

/-! the whole heap as the ledger: makes every rule that writes through a ledger a rule over any heap -/
end
end Att

namespace L2
open PySem PySem.Spec PyProof.Rows

theorem vals_ints : ∀ {vs : List Value} {ns : List Int}, IntsAre vs ns → Vals (ns.map V.int) vs
  | _, _, .nil => .nil
  | _, _, .cons n t h => .cons ⟨t, rfl⟩ (vals_ints h)

/-- nothing is tracked but the script, known to the object (or it is an object of the module) -/
def Only (H : Hp) : Prop := ∀ b, H b = none ∨ ∃ o xs, H b = some (.frz o (.lst xs))

/-- THE HEAD: the law's promise, at the heap behind the top. F, the promise of the law's def, may use that base is part of the heap (so K.In base, base.Ns mainGlobals mg stand in Mod) -/
theorem law_call {P : Program} {w : World} {K : PySem.W.Frag} {mg mb : Str → Option Value} {CX : CXT} {k : Nat} {fa a : Addr} {fd : FuncData} {x : Str} {sp : Sp} {s₁ : Shared} {vs : List Value} {ns : List Int}
    (KX : K.In s₁.heap) (hns : s₁.heap.Ns mainGlobals mg) (hb : s₁.heap.Ns builtinsNs mb) (hbb : ∀ x : Str, x ≠ "__name__" → mb x = bootBuiltins x) (hlim : s₁.heap.NoLimit) (hg : s₁.gens = #[])
    (ha : s₁.heap.get? a = some { cls := .type "list", data := .seq vs.toArray }) (hi : IntsAre vs ns) (hl : ns.length ≤ sizeLine) (hr : Room k callerA)
    (F : ∀ base : Heap, K.In base → base.Ns mainGlobals mg → FnOk P w K mg base CX k fa fd [x] sp) (hbind : ∀ (s : Shared) (u : Value), BindsTo s fd ⟨[u], []⟩ [(x, u)])
    (hsp : ∀ H : Hp, Only H → SqL K H a (ns.map V.int) → sp [.ref a] H (fun v _ => v = .bl true) fun _ _ _ => False)
    (hCX : ∀ H e s', CX [] H s₁ (fun _ _ _ => False) e s' → False) :
    codeAny (model P w) callerA (.call (.ref fa) ⟨[.ref a], []⟩) (fun r s' => r = .ok (.ret (.bool true)) ∧ OldK s₁.heap s'.heap ∧ s'.os = s₁.os ∧ AllBare s'.gens) s₁ := by
  have rv := vals_ints hi
  have lenV := hi.length
  -- from an abstract heap in which nothing but the script may be tracked
  have core : ∀ H : Hp, Only H → SqL K H a (ns.map V.int) → HOk P w H s₁.heap → (∀ b, H b ≠ none → b = a) → (H a ≠ none → K.lookup a = none) →
      codeAny (model P w) callerA (.call (.ref fa) ⟨[.ref a], []⟩) (fun r s' => r = .ok (.ret (.bool true)) ∧ OldK s₁.heap s'.heap ∧ s'.os = s₁.os ∧ AllBare s'.gens) s₁ := by
    intro H hO hS hok hA hK
    have base_of : ∀ {b : Addr} {o : Obj}, s₁.heap.get? b = some o → H b = none → (hidT s₁.heap H).get? b = some o := fun e n => hidT_get e n
    have noA : ∀ {b : Addr} {o : Obj} {es : Array DictEntry} {ep : Nat}, s₁.heap.get? b = some o → o.data = .dict es ep → H b = none := fun {b o es ep} e d => by
      cases q : H b with
      | none => rfl
      | some u =>
        have e' : b = a := hA b (by rw [q]; simp)
        subst e'
        rw [ha] at e; cases e
        have d' : Data.seq vs.toArray _ = Data.dict es ep := d
        cases d'
    have nsK : ∀ {b : Addr} {m : Str → Option Value}, s₁.heap.Ns b m → (hidT s₁.heap H).Ns b m := fun {b m} ⟨o, es, ep, e, d, r⟩ => ⟨o, es, ep, base_of e (noA e d), d, r⟩
    have hKb : K.In (hidT s₁.heap H) := fun b o e => base_of (KX b o e) (by
      cases q : H b with
      | none => rfl
      | some u =>
        have e' : b = a := hA b (by rw [q]; simp)
        subst e'
        rw [hK (by rw [q]; simp)] at e; cases e)
    have hM : Mod K mg (hidT s₁.heap H) := ⟨hKb, nsK hns, ⟨mb, nsK hb, hbb⟩, let ⟨mc, h1, h2⟩ := hlim; ⟨mc, nsK h1, h2⟩⟩
    have e0 : Env0 P w K mg (hidT s₁.heap H) callerA [] s₁ H := ⟨rfl, hM, fun b o e => of_hidT e, Nat.le_of_eq (hidT_size _ _), trivial, fun b hb => absurd (show b ∈ ([] : List Addr) from hb) (by simp), hok, .of_eq hg⟩
    refine codeAny_mono ((F _ hKb (nsK hns)).run callerA [] s₁ H ⟨[.ref a], []⟩ [.ref a] [.ref a] _ _ hr e0 (hbind s₁ (.ref a)) (.cons rfl .nil) (hsp H hO hS)) fun r s' h => ?_
    cases r with
    | error e => exact (hCX H e s' h).elim
    | ok fl =>
      cases fl with
      | next => exact False.elim h
      | brk => exact False.elim h
      | cont => exact False.elim h
      | ret u =>
        obtain ⟨v, H', os, bare, un, hok', r', q⟩ := h
        have q' : v = .bl true := q
        subst q'
        obtain rfl : u = Value.bool true := r'
        refine ⟨rfl, OldK.of_keep fun b o e => ?_, os, bare⟩
        cases q : H b with
        | none => exact un.keep b o e q (by intro z; exact absurd (show b ∈ ([] : List Addr) from z) (by simp)) (by simp)
        | some u =>
          rcases hO b with z | ⟨ob, xs, z⟩
          · rw [q] at z; cases z
          · have z2 := un.frzs b ob _ z
            obtain ⟨e1, _⟩ := hok b _ z
            obtain ⟨e2, _⟩ := hok' b _ z2
            rw [e] at e1; cases e1
            exact e2
  cases hk : K.lookup a with
  | some o =>
    -- the script is one of the module's own objects
    have e := KX a o hk
    rw [ha] at e
    cases e
    refine core (fun _ => none) (fun _ => .inl rfl) (.inr ⟨_, vs.toArray, _, hk, rfl, rfl, rfl, by rw [List.size_toArray, lenV]; exact hl, by simpa using rv⟩) (fun b u z => by have z' : (none : Option HO) = some u := z; cases z') (fun b z => absurd rfl z) fun z => absurd rfl z
  | none =>
    refine core (fun b => if b = a then some (.frz { cls := .type "list", data := .seq vs.toArray } (.lst (ns.map V.int))) else none) (fun b => ?_) (.inl (.inr ⟨{ cls := .type "list", data := .seq vs.toArray }, if_pos rfl⟩)) (fun b u z => ?_) (fun b z => ?_) fun _ => hk
    · by_cases hb : b = a
      · exact .inr ⟨_, _, if_pos hb⟩
      · exact .inl (if_neg hb)
    · by_cases hb : b = a
      · have z' := (if_pos hb).symm.trans z
        cases z'
        subst hb
        exact ⟨ha, by rw [List.length_map]; exact hl, vs, _, rv, ha⟩
      · have z' := (if_neg hb).symm.trans z
        cases z'
    · by_cases hb : b = a
      · exact hb
      · exact absurd (if_neg hb) z
end L2

namespace L2
open PySem PySem.Spec PyProof.Rows

/-- the goal that k_head leaves (case hc), from the law's promise. F gives the function object fd (K's own) once, then the promise over every base -/
theorem walk_of {l : PySem.W.OpenLaw} {n k : Nat} {q : Program} {loose : List Str} {XP : (Str → Option Value) → Heap → Prop} {YP : World → Heap → Prop} {d : DefRec} {K : Params → PySem.W.Frag} {CX : World → CXT} {sp : World → Sp} {x : Str}
    (hn : l.most = some n) (hn2 : n ≤ sizeLine) (hdf : d.params.defaults = []) (hr : Room k callerA)
    (hY : ∀ (w : World) (h : Heap), YP w h → (K w.params).In h)
    (F : ∀ (w : World) (mg : Str → Option Value) (fa : Addr) (h : Heap), (K w.params).In h → h.Ns mainGlobals mg → mg d.name = some (.ref fa) →
      ∃ fd : FuncData, (∀ (s : Shared) (u : Value), BindsTo s fd ⟨[u], []⟩ [(x, u)]) ∧
        ∀ base : Heap, (K w.params).In base → base.Ns mainGlobals mg → FnOk l.prog w (K w.params) mg base (CX w) k fa fd [x] (sp w))
    (hsp : ∀ (w : World) (H : Hp) (a : Addr) (ns : List Int), ns.length ≤ n → Only H → SqL (K w.params) H a (ns.map V.int) → sp w [.ref a] H (fun v _ => v = .bl true) fun _ _ _ => False)
    (hCX : ∀ (w : World) (H : Hp) (s : Shared) (e : Value) (s' : Shared), CX w [] H s (fun _ _ _ => False) e s' → False) :
    PySem.W.WalkO q loose XP YP l.row.toRowW d [] (fun f vs => PySem.call f vs) := by
  refine Att.attach_call hn hdf fun w s₀ s₁ mg mb fa o pm cd doc a vs ns G Y ho hd hcd hmg hobj hints hlen hg => ?_
  have KX := hY w _ Y
  obtain ⟨fd, hb, hF⟩ := F w mg fa _ KX G.T.g hmg
  exact law_call KX G.T.g G.T.b G.T.builtins G.T.nolimit hg hobj hints (Nat.le_trans hlen hn2) hr hF hb (fun H hO hS => hsp w H a ns hlen hO hS) fun H e s' => hCX w H s₁ e s'
end L2

/- THE LAST THEOREM (shape; LID, My.* are yours):
   My.Adr: a structure of the addresses that your layer names (classes, functions); My.Txt K t: a structure (Prop) of the equations over K;
   My.txt_mk : {K} {implicit addresses ..} (e1 : nsIn K mainGlobals "law" = some (some (.ref f))) (e2 : K.lookup f = some ⟨oc, od, .func (fnOf "law" "law" params body scope dV kV doc pm an cdv ct), sl⟩) (e3 : codeIn K cdv "law" = true) .. : ∃ t, My.Txt K t

(the tactic k_is has no namespace: write k_is) -/

/-! SHORT WORDS over the layer: a def of the text, its body, what a loop and a test want. -/
namespace L2
open PySem PySem.Spec PyProof.Rows

/-! ### the text by places -/
def defArgs (s : Stmt) : Arguments := match s with
  | .FunctionDef _ a _ _ _ _ _ _ _ _ => a
  | _ => { posonlyargs := [], args := [], vararg := none, kwonlyargs := [], kw_defaults := [], kwarg := none, defaults := [] }
def defBody (s : Stmt) : List Stmt := match s with
  | .FunctionDef _ _ b _ _ _ _ _ _ _ => b
  | _ => []
def defScope (s : Stmt) : Scope := match s with
  | .FunctionDef _ _ _ _ _ _ sc _ _ _ => sc
  | _ => { kind := .function, names := [], isGenerator := false, isCoroutine := false }

/-! ### no exception leaves a def -/
abbrev CX0 : CXT := fun _ _ _ _ _ _ => False
abbrev E0 : XK := fun _ _ _ => False
theorem pass0 {X : Cx} : Passes CX0 X E0 := fun _ _ _ _ _ _ _ h => h.elim

/-! ### a def (or method) of the text as it stands behind the top -/
structure Fun (K : PySem.W.Frag) (x qual : Str) (st : Stmt) (f : Addr) (fd : FuncData) : Prop where
  ex : ∃ (oc : Value) (od : Option Addr) (kV doc pm : Value) (an : Option Addr) (cdv ct : Value) (osl : Array (Option Value)),
    fd = PySem.W.fnOf x qual (defArgs st) (defBody st) (defScope st) .none kV doc pm an cdv ct ∧ K.lookup f = some ⟨oc, od, .func fd, osl⟩ ∧ PySem.W.codeIn K cdv qual = true
  kp : PySem.W.keepIn K (.ref f) = true
section
variable {P : Program} {w : World} {K : PySem.W.Frag} {mg : Str → Option Value} {base : Heap}
/-- THE RULE for a def: its body as a term of rules, and the reading of that term -/
theorem Fun.ok {x qual : Str} {st : Stmt} {f : Addr} {fd : FuncData} {N ps : List Str} {k : Nat} {sp : Sp} (F : Fun K x qual st f fd) (S : FnScope N ps (defScope st)) (len : ∀ vs H Q E, sp vs H Q E → vs.length = ps.length)
    (hbody : ∀ (cdv : Value) (A : Around) (outer : List Env) (s : Shared) (H : Hp) (vs : List V) (Q : VK) (E : XK), Room k (A.deeper (envOfC qual (defScope st) s.heap.objs.size f cdv)) → sp vs H Q E →
      ∃ t, PSs (cxOf CX0 P w K mg base N qual (defScope st) f cdv A outer s H E).nox (defBody st) t ∧ t { nx := fun _ H' => Q .non H', rt := Q } (start N vs) H) : FnOk P w K mg base CX0 (k + 1) f fd ps sp := by
  obtain ⟨oc, od, kV, doc, pm, an, cdv, ct, osl, rfl, lk, hcd⟩ := F.ex
  refine fn_of lk hcd S len fun A outer s H vs Q E hr hsp => ?_
  obtain ⟨t, h, q⟩ := hbody cdv A outer s H vs Q E hr hsp
  exact ⟨t, h.nox, q⟩
/-- how its arguments bind (no defaults): h is «fun _ _ _ _ _ _ us hl => match us, hl with | [_, _], _ => rfl», one _ a parameter -/
theorem Fun.binds {x qual : Str} {st : Stmt} {f : Addr} {fd : FuncData} {ps : List Str} (F : Fun K x qual st f fd)
    (h : ∀ (kV doc pm : Value) (an : Option Addr) (cdv ct : Value) (us : List Value), us.length = ps.length → bindArgs (PySem.W.fnOf x qual (defArgs st) (defBody st) (defScope st) .none kV doc pm an cdv ct) ⟨us, []⟩ = pure (ps.zip us)) : Binds K fd ps [] := by
  obtain ⟨oc, od, kV, doc, pm, an, cdv, ct, osl, rfl, lk, hcd⟩ := F.ex
  exact .all (h kV doc pm an cdv ct)
theorem fun_mk {x qual : Str} {st : Stmt} {f : Addr} {oc : Value} {od an : Option Addr} {osl : Array (Option Value)} {kV doc pm cdv ct : Value} (l : K.lookup f = some ⟨oc, od, .func (PySem.W.fnOf x qual (defArgs st) (defBody st) (defScope st) .none kV doc pm an cdv ct), osl⟩)
    (c : PySem.W.codeIn K cdv qual = true) (k : PySem.W.keepIn K (.ref f) = true) : Fun K x qual st f (PySem.W.fnOf x qual (defArgs st) (defBody st) (defScope st) .none kV doc pm an cdv ct) := ⟨⟨oc, od, kV, doc, pm, an, cdv, ct, osl, rfl, l, c⟩, k⟩
end
/-! ### expressions in short: the name that stands in the i-th slot -/
section
variable {X : Cx}
theorem pv (i : Nat) {x : Str} {pos : Pos} (hN : X.N[i]? = some x := by rfl) (hv : Vis X.env.scope x := by first | exact Or.inl rfl | exact Or.inr (Or.inl rfl) | exact Or.inr (Or.inr rfl)) (hd : (x == ("__debug__" : Str)) = false := by decide)
    (hcd : (x == ("__classdict__" : Str)) = false := by decide) : PE X (.Name x pos) (tVar i) := pe_var hN hv hd hcd
end

/-! ### tests -/
theorem iteF {A B : Prop} (h : B) : if false = true then A else B := by
  rw [if_neg Bool.false_ne_true]
  exact h
theorem iteT {A B : Prop} (h : A) : if true = true then A else B := by
  rw [if_pos rfl]
  exact h
theorem ite2 {c A B : Prop} [Decidable c] (h1 : c → A) (h2 : ¬ c → B) : if c then A else B := by
  by_cases h : c
  · rw [if_pos h]
    exact h1 h
  · rw [if_neg h]
    exact h2 h
/-! ### heaps -/
/-- all that was tracked is as it was -/
def Same (H H' : Hp) : Prop := ∀ b o, H b = some o → H' b = some o
theorem Same.refl (H : Hp) : Same H H := fun _ _ h => h
theorem Same.trans {H H1 H2 : Hp} (a : Same H H1) (b : Same H1 H2) : Same H H2 := fun c o h => b c o (a c o h)
theorem Same.free {H H' : Hp} (e : Same H H') {l : Addr} (h : H' l = Option.none) : H l = Option.none := by
  cases q : H l with
  | none => rfl
  | some o =>
    rw [e l o q] at h
    cases h
theorem Same.seq {K : PySem.W.Frag} {H H' : Hp} {a : Addr} {xs : List V} (e : Same H H') (h : SqL K H a xs) : SqL K H' a xs := by
  rcases h with (h | ⟨o, h⟩) | h
  · exact .inl (.inl (e _ _ h))
  · exact .inl (.inr ⟨o, e _ _ h⟩)
  · exact .inr h

end L2

set_option Elab.async false
set_option linter.all false
namespace L2
open PySem

/-! ### a set's table: its places rise -/
abbrev Rise (xs : Array Nat) : Prop := xs.toList.Pairwise (· < ·)
end L2

set_option Elab.async false
set_option linter.all false
set_option maxRecDepth 100000
namespace L2
open PySem PySem.Spec PyProof.Rows

/-! ### a set of ints: its members, its table -/
def byT (w : World) : Bool := w.params.followText "set-order"
def IntE (e : Int × Value) (k : Int) : Prop := e.1 = hashInt k ∧ ∃ t, e.2 = Value.int k t
def SetO (w : World) (o : Obj) (ks : List Int) : Prop := ∃ es ep t is, o = { cls := .type "set", dict := none, data := .set es ep t, slots := #[] } ∧ Paired IntE es.toList is ∧ is.Perm ks ∧ ks.Nodup ∧
  es.size < scanBound ∧ t.fits es.size = true ∧ Rise t.place ∧ (byT w = false → t.led = true)
section
variable {prog : Program} {w : World} {A : Around} {E : Value → Shared → Prop} {s : Shared}
end
end L2

set_option Elab.async false
set_option linter.all false
set_option maxRecDepth 100000
namespace L2
open PySem PySem.Spec PyProof.Rows
theorem ltN {a b : Nat} (h : a < b) : a < b := h
theorem leN {a b : Nat} (h : a ≤ b) : a ≤ b := h
theorem neN {a b : Nat} (h : a = b) : a = b := h

/-! ### comprehensions: the block's cells -/
def clOf (env : Env) : List (Str × NameKind) → List (Str × Addr) → List (Str × Addr)
  | [], acc => acc
  | (n, k) :: r, acc => if k == .free then (match env.cells.lookup n with | some a => clOf env r ((n, a) :: acc) | none => clOf env r acc) else clOf env r acc
theorem clOf_go (env : Env) : ∀ (names : List (Str × NameKind)) (acc : List (Str × Addr)), (∀ y ∈ names, y.2 = .free → ∃ c, env.cells.lookup y.1 = some c) →
    (forIn names acc fun (x : Str × NameKind) (cs : List (Str × Addr)) => (if x.2 == .free then do let a ← cellOf env x.1; pure (ForInStep.yield ((x.1, a) :: cs)) else pure (ForInStep.yield cs) : Sem (ForInStep (List (Str × Addr))))) = pure (clOf env names acc)
  | [], acc, _ => rfl
  | (n, k) :: r, acc, h => by
    have ih := fun acc' => clOf_go env r acc' fun y hy => h y (List.mem_cons_of_mem _ hy)
    rw [List.forIn_cons]
    unfold clOf
    by_cases hk : (k == NameKind.free) = true
    · obtain ⟨c, hc⟩ := h (n, k) List.mem_cons_self (by simpa using hk)
      have e : cellOf env n = pure c := by unfold cellOf; rw [hc]
      simp only [hk, if_true, hc, e, pure_bind]
      exact ih _
    · simp only [hk, if_false, pure_bind]
      exact ih _
theorem closure_cl {scope : Scope} {env : Env} (h : ∀ y ∈ scope.names, y.2 = .free → ∃ c, env.cells.lookup y.1 = some c) : closureFor scope env = pure (clOf env scope.names []) := by
  rw [← clOf_go env scope.names [] h]
  unfold closureFor
  first | rfl | simp
theorem clOf_sub (env : Env) {y : Str} {c : Addr} : ∀ (names : List (Str × NameKind)) (acc : List (Str × Addr)), (clOf env names acc).lookup y = some c → env.cells.lookup y = some c ∨ acc.lookup y = some c
  | [], acc, h => .inr h
  | (n, k) :: r, acc, h => by
    unfold clOf at h
    split at h
    · split at h
      · rename_i a ha
        rcases clOf_sub env r _ h with q | q
        · exact .inl q
        · rw [List.lookup_cons] at q
          cases hb : y == n with
          | true =>
            rw [hb] at q
            have e : y = n := eq_of_beq hb
            rw [e]
            simp only [Option.some.injEq] at q
            exact .inl (by rw [ha, q])
          | false =>
            rw [hb] at q
            exact .inr q
      · exact clOf_sub env r _ h
    · exact clOf_sub env r _ h
theorem clOf_keep (env : Env) {y : Str} {c : Addr} (hc : env.cells.lookup y = some c) : ∀ (names : List (Str × NameKind)) (acc : List (Str × Addr)), acc.lookup y = some c → (clOf env names acc).lookup y = some c
  | [], acc, h => h
  | (n, k) :: r, acc, h => by
    unfold clOf
    split
    · split
      · rename_i a ha
        refine clOf_keep env hc r _ ?_
        rw [List.lookup_cons]
        cases hb : y == n with
        | true =>
          have e : y = n := eq_of_beq hb
          subst e
          rw [hc] at ha
          cases ha
          rfl
        | false => exact h
      · exact clOf_keep env hc r _ h
    · exact clOf_keep env hc r _ h
theorem clOf_has (env : Env) {y : Str} {c : Addr} (hc : env.cells.lookup y = some c) : ∀ (names : List (Str × NameKind)) (acc : List (Str × Addr)), (y, NameKind.free) ∈ names → (clOf env names acc).lookup y = some c
  | [], _, h => by cases h
  | (n, k) :: r, acc, h => by
    unfold clOf
    rcases List.mem_cons.mp h with e | h
    · cases e
      simp only [beq_self_eq_true, if_true, hc]
      exact clOf_keep env hc r _ (by rw [List.lookup_cons]; simp)
    · split
      · split
        · exact clOf_has env hc r _ h
        · exact clOf_has env hc r _ h
      · exact clOf_has env hc r _ h
theorem cellsFrom_app : ∀ (names : List (Str × NameKind)) (n : Nat) (acc : List (Str × Addr)), cellsFrom n names acc = cellsFrom n names [] ++ acc
  | [], _, _ => rfl
  | (y, k) :: r, n, acc => by
    unfold cellsFrom
    split
    · rw [cellsFrom_app r (n + 1) ((y, n) :: acc), cellsFrom_app r (n + 1) [(y, n)], List.append_assoc]
      rfl
    · exact cellsFrom_app r n acc
theorem lookup_app {y : Str} : ∀ (a b : List (Str × Addr)), (a ++ b).lookup y = (match a.lookup y with | some c => some c | none => b.lookup y)
  | [], _ => rfl
  | (n, v) :: r, b => by
    rw [List.cons_append, List.lookup_cons, List.lookup_cons]
    cases y == n with
    | true => rfl
    | false => exact lookup_app r b
theorem cellsFrom_own {y : Str} {c : Addr} : ∀ (names : List (Str × NameKind)) (n : Nat) (acc : List (Str × Addr)), (y, c) ∈ cellsFrom n names acc → (n ≤ c ∧ (y, NameKind.cell) ∈ names) ∨ (y, c) ∈ acc
  | [], _, _, h => .inr h
  | (z, k) :: r, n, acc, h => by
    unfold cellsFrom at h
    split at h
    · rename_i hk
      rcases cellsFrom_own r (n + 1) _ h with ⟨a, b⟩ | q
      · exact .inl ⟨Nat.le_of_succ_le a, List.mem_cons_of_mem _ b⟩
      · rcases List.mem_cons.mp q with e | q
        · cases e
          have ek : k = NameKind.cell := by simpa using hk
          exact .inl ⟨Nat.le_refl _, by rw [ek]; exact List.mem_cons_self⟩
        · exact .inr q
    · rcases cellsFrom_own r n _ h with ⟨a, b⟩ | q
      · exact .inl ⟨a, List.mem_cons_of_mem _ b⟩
      · exact .inr q

/-- a comprehension's own frame: a dict, its own cells behind it -/
theorem env_comp {M : Model} {A : Around} {E : Value → Shared → Prop} {s : Shared} {scope : Scope} {g : Addr} {cl : List (Str × Addr)} {qual : Str} {env : Env} {Q : Env → Shared → Prop}
    (h : Q { scope, locals := s.heap.objs.size, globals := g, cells := cellsFrom (s.heap.objs.size + 1) scope.names cl, qual, func := none, code := env.code, frame := env.frame, builtins := env.builtins }
      { s with heap := pushCells (s.heap.push { cls := .type "dict", data := .dict #[] }) scope.names }) :
    wpAny M A (newFunctionEnv scope g cl [] qual none .none (some env)) Q E s := by
  simp only [newFunctionEnv, Option.isSome_some, if_true]
  refine wpAny_bind (wpAny_alloc ?_)
  refine wpAny_bind (wpAny_layCells _ (fun name kind cells => by cases hkc : kind == NameKind.cell <;> simp [hkc]) _ _ _ _ ?_)
  rw [show ({ s with heap := s.heap.push { cls := .type "dict", data := .dict #[] } } : Shared).heap.objs.size = s.heap.objs.size + 1 from Heap.size_push ..]
  first | exact wpAny_bind (wpAny_pure (wpAny_pure h)) | exact wpAny_pure h | exact wpAny_bind (wpAny_pure h)

/-! ### comprehensions: the block's context -/
def maskN (x : Str) (N : List Str) : List Str := N.map fun n => if n = x then "." else n
def cxComp (X : Cx) (x : Str) (M : List Str) (scope : Scope) (C : Addr) (cs : List (Str × Addr)) (s : Shared) (H : Hp) (fp : List Addr) : Cx :=
  { X with N := x :: M, s₀ := s, H₀ := H, env := compEnvC scope cs C X.env, outer := X.stack, ex := fp, fn := fun y => scope.names.lookup y == some .cell, pn := [], xe := fun _ _ => False }

def PTs (X : Cx) (ifs : List Expr) (t : TT) : Prop :=
  ∀ (pins : List (Addr × Obj)) (s : Shared) (σ : St) (H : Hp) (Q : Bool → Hp → Prop), Inv X pins σ H s → t σ H Q →
    wpAny (model X.prog X.w) X.A (forIn ifs true fun c r => if r = true then do let ok ← isTrue c X.env (eval c X.env); pure (ForInStep.yield ok) else pure (ForInStep.yield r)) (TP X pins σ Q) X.xe s
def tTrue : TT := fun _ H Q => Q true H
theorem pts_nil {X : Cx} : PTs X [] tTrue := fun _ _ _ H _ I h => wpAny_tests_nil ⟨H, I, h⟩
theorem pts_one {X : Cx} {c : Expr} {t : TT} (h : PT X c t) : PTs X [c] t := fun pins s σ H Q I q => wpAny_tests_one (h pins s σ H Q I q)

/-- W: what holds at the turn of the list made so far; the measure falls -/
def CompW (J : It) (tc : TT) (te : TE) (σ : St) (H : Hp) (Q : VK) : Prop := ∃ W : Nat → Nat → List V → Hp → Prop, (∃ m, W 0 m [] H) ∧ ∀ i m ys H, W i m ys H → ys.length < sizeLine ∧
  ((J.stop i H ∧ ∀ l, H l = none → Q (.ref l) (upd H l (.lst ys))) ∨
   (J.go i H ∧ ∀ v H', J.yld i H v H' → tc (some v :: σ) H' fun c H2 => if c = true then te (some v :: σ) H2 fun y H3 => ∃ m', m' < m ∧ W (i + 1) m' (ys ++ [y]) H3 else ∃ m', m' < m ∧ W (i + 1) m' ys H2))
def tComp (wi : TI) (tc : TT) (te : TE) : TE := fun σ H Q => wi σ H fun J H1 => CompW J tc te σ H1 Q

/-- what a comprehension asks of its table of names -/
structure CompScope (X : Cx) (x : Str) (M : List Str) (scope : Scope) : Prop where
  kind : scope.kind = .function
  once : ∀ y ∈ scope.names, scope.names.lookup y.1 = some y.2
  dot : ∀ y ∈ scope.names, y.1 ≠ "."
  free : ∀ y ∈ scope.names, y.2 = .free → X.env.kindOf y.1 = some .cell ∨ X.env.kindOf y.1 = some .free
  own : scope.names.lookup x = some .local ∨ scope.names.lookup x = some .cell
  mask : M = maskN x X.N
  nd : (x :: M).Nodup
  apart : ∀ y ∈ M, ¬ (scope.names.lookup y = some .local ∨ scope.names.lookup y = some .cell)

theorem lookup_map_kind (f : Str → NameKind → NameKind) (y : Str) : ∀ names : List (Str × NameKind), (names.map fun p => (p.1, f p.1 p.2)).lookup y = (names.lookup y).map (f y)
  | [] => rfl
  | (n, k) :: r => by
    rw [List.map_cons, List.lookup_cons, List.lookup_cons]
    cases hb : y == n with
    | true =>
      have e : y = n := eq_of_beq hb
      subst e
      rfl
    | false => exact lookup_map_kind f y r
theorem relabel_look (scope : Scope) (env : Env) (y : Str) : (relabel scope env).names.lookup y = (scope.names.lookup y).map fun k => if (k == .free && env.scope.kind == .function && env.kindOf y == some .cell) = true then NameKind.cell else k := by
  have e : (relabel scope env).names = scope.names.map fun p => (p.1, (fun n k => if (k == .free && env.scope.kind == .function && env.kindOf n == some .cell) = true then NameKind.cell else k) p.1 p.2) := by
    unfold relabel
    refine List.map_congr_left fun p _ => ?_
    obtain ⟨n, k⟩ := p
    dsimp only
    split <;> rfl
  rw [e]
  exact lookup_map_kind (fun n k => if (k == .free && env.scope.kind == .function && env.kindOf n == some .cell) = true then NameKind.cell else k) y scope.names

section
variable {X : Cx} {x : Str} {M : List Str} {scope : Scope}
theorem CompScope.cl (S : CompScope X x M scope) (ok : X.Ok) : ∀ y ∈ scope.names, y.2 = .free → ∃ c, X.env.cells.lookup y.1 = some c := fun y hy hf => ok.has y.1 (S.free y hy hf)
/-- a name of the block that is not its own: it is one of the outer context's cells -/
theorem CompScope.outer (S : CompScope X x M scope) {y : Str} (hy : y ∈ M) (hv : Vis (relabel scope X.env) y) : (y, NameKind.free) ∈ scope.names ∧ ((relabel scope X.env).names.lookup y = some .cell ∨ (relabel scope X.env).names.lookup y = some .free) := by
  have na := S.apart y hy
  unfold Vis at hv
  rw [relabel_look] at hv ⊢
  cases e : scope.names.lookup y with
  | none => rw [e] at hv; simp at hv
  | some k =>
    have hk : k = .free ∨ (k ≠ .local ∧ k ≠ .cell ∧ k ≠ .free) := by
      cases k with
      | «local» => exact absurd (.inl e) na
      | cell => exact absurd (.inr e) na
      | free => exact .inl rfl
      | globalExplicit => exact .inr ⟨(fun z => by cases z), (fun z => by cases z), (fun z => by cases z)⟩
      | globalImplicit => exact .inr ⟨(fun z => by cases z), (fun z => by cases z), (fun z => by cases z)⟩
    rcases hk with rfl | ⟨h1, h2, h3⟩
    · refine ⟨PySem.mem_of_lookup e, ?_⟩
      simp only [Option.map_some]
      split
      · exact .inl rfl
      · exact .inr rfl
    · exfalso
      rw [e] at hv
      simp only [Option.map_some] at hv
      have hb : (k == NameKind.free) = false := by simpa using h3
      simp only [hb, Bool.false_and, Bool.false_eq_true, if_false, Option.some.injEq] at hv
      rcases hv with z | z | z
      · exact h1 z
      · exact h2 z
      · exact h3 z

theorem CompScope.loc (S : CompScope X x M scope) : Loc (relabel scope X.env) x ∧ ((scope.names.lookup x == some NameKind.cell) = true ∨ (relabel scope X.env).names.lookup x = some .local) := by
  unfold Loc
  rw [relabel_look]
  rcases S.own with e | e
  · rw [e]
    exact ⟨.inl rfl, .inr rfl⟩
  · rw [e]
    exact ⟨.inr rfl, .inl rfl⟩
theorem maskN_get {N : List Str} {i : Nat} {y : Str} (h : (maskN x N)[i]? = some y) : y = "." ∨ N[i]? = some y := by
  unfold maskN at h
  rw [List.getElem?_map] at h
  cases e : N[i]? with
  | none => rw [e] at h; cases h
  | some n =>
    rw [e] at h
    simp only [Option.map_some, Option.some.injEq] at h
    split at h
    · exact .inl h.symm
    · exact .inr (by rw [h])

variable {pins : List (Addr × Obj)} {σ : St} {H : Hp} {s : Shared} {fp : List Addr}
abbrev newAcc (h : Heap) : Heap := h.push { cls := .type "list", dict := none, data := .seq ([] : List Value).toArray }
abbrev blockHeap (h : Heap) (scope : Scope) : Heap := pushCells ((newAcc h).push { cls := .type "dict", data := .dict #[] }) scope.names
abbrev blockCells (X : Cx) (scope : Scope) (C : Addr) : List (Str × Addr) := cellsFrom (C + 1) scope.names (clOf X.env scope.names [])
theorem newAcc_size (h : Heap) : (newAcc h).objs.size = h.objs.size + 1 := Heap.size_push ..
theorem blockHeap_keep {h : Heap} {b : Addr} {o : Obj} (e : h.get? b = some o) : (blockHeap h scope).get? b = some o := pushCells_keeps _ _ _ _ (Heap.get?_push_of_some _ (Heap.get?_push_of_some _ e))
theorem inv_block (S : CompScope X x M scope) (I : Inv X pins σ H s) (fpk : ∀ b ∈ fp, FpOk X pins H b) (fpo : ∀ b ∈ fp, b < s.heap.objs.size) :
    Inv (cxComp X x M scope (newAcc s.heap).objs.size (blockCells X scope (newAcc s.heap).objs.size) s H fp) [] (none :: σ) H { s with heap := blockHeap s.heap scope } := by
  have hC := newAcc_size s.heap
  generalize hCe : (newAcc s.heap).objs.size = C at hC ⊢
  have hD : ((newAcc s.heap).push { cls := .type "dict", data := .dict #[] }).objs.size = C + 1 := by rw [Heap.size_push, hCe]
  have ok := cellsFrom_ok scope.names ((newAcc s.heap).push { cls := .type "dict", data := .dict #[] }) (C + 1) [] ⟨fun _ _ hm => (nomatch hm), List.Pairwise.nil⟩ (by rw [hD]; exact Nat.le_refl _)
  rw [hD] at ok
  have keep : ∀ b o, s.heap.get? b = some o → (blockHeap s.heap scope).get? b = some o := fun b o e => blockHeap_keep e
  have clX : ∀ y c, X.env.cells.lookup y = some c → c < s.heap.objs.size := fun y c e => let ⟨_, z⟩ := I.cell y c e; z.lt
  have hcs : ∀ y c, (blockCells X scope C).lookup y = some c → ((y, c) ∈ cellsFrom (C + 1) scope.names [] ∧ C + 1 ≤ c ∧ (y, NameKind.cell) ∈ scope.names) ∨ X.env.cells.lookup y = some c := fun y c e => by
    unfold blockCells at e
    rw [cellsFrom_app, lookup_app] at e
    split at e
    · rename_i c' q
      cases e
      have hm := PySem.mem_of_lookup q
      rcases cellsFrom_own _ _ _ hm with ⟨a, b⟩ | z
      · exact .inl ⟨hm, a, b⟩
      · cases z
    · rcases clOf_sub X.env _ _ e with q | q
      · exact .inr q
      · cases q
  have nocell : ∀ y, (y, NameKind.free) ∈ scope.names → (cellsFrom (C + 1) scope.names []).lookup y = none := fun y hy => by
    cases q : (cellsFrom (C + 1) scope.names []).lookup y with
    | none => rfl
    | some c =>
      rcases cellsFrom_own _ _ _ (PySem.mem_of_lookup q) with ⟨_, b⟩ | z
      · have e1 := S.once _ hy
        have e2 := S.once _ b
        rw [e1] at e2
        cases e2
      · cases z
  have hfr : ∀ y c, (y, NameKind.free) ∈ scope.names → X.env.cells.lookup y = some c → (blockCells X scope C).lookup y = some c := fun y c hy hc => by
    unfold blockCells
    rw [cellsFrom_app, lookup_app, nocell y hy]
    exact clOf_has X.env hc _ _ hy
  have fsz : ∀ b ∈ fp, b ≠ C := fun b hb z => by have := ltN (fpo b hb); have := neN z; omega
  refine ⟨⟨I.mod, S.kind, I.ok.glob, I.ok.blt, (by show s.heap.objs.size ≤ C; omega), fun y z c h1 h2 => ?_, fun y hy => ?_, fun y c hf h => ?_, I.ok.hd, I.ok.frames, .inl rfl, fun b hb => ⟨fsz b hb, fun y c e z => ?_⟩, fun b o e => I.bs b o e, Nat.le_trans I.ok.bsz I.sz, fun b o e hb => ?_, fun b hb z => ?_, I.stack, I.stkFree⟩,
    rfl, I.bare, Un.kept keep, ⟨_, (by rw [← hCe]; exact (Heap.Ns.new (newAcc s.heap) (.type "dict")).keeps (pushCells_keeps _ _)), fun i y v h1 h2 h3 => ?_⟩, fun y c h => ?_, I.hok.fresh (by show s.heap.objs.size ≤ C; omega), fun y c h => ?_, fun p hp => absurd (show p ∈ ([] : List (Addr × Obj)) from hp) (by simp), I.hok.kept keep, ?_⟩
  · rcases hcs y c h1 with ⟨a1, a2, _⟩ | a <;> rcases hcs z c h2 with ⟨b1, b2, _⟩ | b
    · exact name_of_addr ok.apart a1 b1
    · have := ltN (clX z c b); have := leN a2; omega
    · have := ltN (clX y c a); have := leN b2; omega
    · exact I.ok.inj y z c a b
  · have hy' : (relabel scope X.env).names.lookup y = some .cell ∨ (relabel scope X.env).names.lookup y = some .free := hy
    rw [relabel_look] at hy'
    show ∃ c, (blockCells X scope C).lookup y = some c
    unfold blockCells
    rw [cellsFrom_app, lookup_app]
    cases q : (cellsFrom (C + 1) scope.names []).lookup y with
    | some c => exact ⟨c, rfl⟩
    | none =>
      cases e : scope.names.lookup y with
      | none => rw [e] at hy'; simp at hy'
      | some k =>
        cases k with
        | cell =>
          have := PySem.W.cellsFrom_some scope.names (C + 1) [] (.inl e)
          rw [q] at this
          cases this
        | free =>
          have hm := PySem.mem_of_lookup e
          obtain ⟨c, hc⟩ := S.cl I.ok _ hm rfl
          exact ⟨c, clOf_has X.env hc _ _ hm⟩
        | _ => rw [e] at hy'; simp at hy'
  · have hf' : (scope.names.lookup y == some NameKind.cell) = true := hf
    rcases hcs y c h with ⟨_, a, _⟩ | a
    · show s.heap.objs.size ≤ c; omega
    · exfalso
      have e1 : scope.names.lookup y = some .cell := by simpa using hf'
      have hm := PySem.mem_of_lookup e1
      have h' : (blockCells X scope C).lookup y = some c := h
      unfold blockCells at h'
      rw [cellsFrom_app, lookup_app] at h'
      have hs := PySem.W.cellsFrom_some scope.names (C + 1) [] (.inl e1)
      cases q : (cellsFrom (C + 1) scope.names []).lookup y with
      | none => rw [q] at hs; cases hs
      | some c' =>
        rw [q] at h'
        cases h'
        rcases cellsFrom_own _ _ _ (PySem.mem_of_lookup q) with ⟨z, _⟩ | z
        · have := ltN (clX y c a); have := leN z; omega
        · cases z
  · rcases hcs y c e with ⟨_, a, _⟩ | a
    · have := ltN (fpo b hb); have := leN a; have := neN z; omega
    · exact (fpk b hb).2.2.2.2.1 y c a z
  · rcases (fpk b hb).2.2.2.1 with z | z
    · exact I.ok.noex b o e z
    · exact absurd (Nat.lt_of_lt_of_le (Heap.lt_size e) (Nat.le_trans I.ok.bsz z)) (Nat.lt_irrefl _)
  · rcases List.mem_cons.mp (I.stkSub b z) with q | q
    · exact (fpk b hb).2.1 q
    · exact (fpk b hb).2.2.1 q
  · cases i with
    | zero =>
      have h2' : some (none : Option V) = some (some v) := h2
      cases h2'
    | succ i =>
      have h1' : M[i]? = some y := h1
      have h2' : σ[i]? = some (some v) := h2
      have h3' : Vis (relabel scope X.env) y := h3
      obtain ⟨fr, kd⟩ := S.outer (List.mem_of_getElem? h1') h3'
      rw [S.mask] at h1'
      rcases maskN_get h1' with q | q
      · exact absurd q (S.dot _ fr)
      · have kX := S.free _ fr rfl
        have vX : Vis X.env.scope y := .inr kX
        obtain ⟨m, _, hl⟩ := I.loc
        obtain ⟨u, r, l⟩ := hl i y v q h2' vX
        refine ⟨u, r, ?_⟩
        rcases l with ⟨k, _⟩ | ⟨_, c, e, z⟩
        · rcases kX with w | w
          · rw [k] at w; cases w
          · rw [k] at w; cases w
        · exact .inr ⟨kd, c, hfr y c fr e, z.keeps keep⟩
  · rcases hcs y c h with ⟨a1, _, _⟩ | a
    · exact ⟨none, (ok.empty y c a1).1⟩
    · obtain ⟨v, z⟩ := I.cell y c a
      exact ⟨v, z.keeps keep⟩
  · rcases hcs y c h with ⟨_, a, _⟩ | a
    · exact I.hok.fresh (by show s.heap.objs.size ≤ c; omega)
    · exact I.freeC y c a
  · show σ.length + 1 = M.length + 1
    rw [S.mask]
    unfold maskN
    rw [List.length_map, I.len]

/-- behind the block: the list is tracked -/
theorem inv_exit {C : Addr} {cs : List (Str × Addr)} {pins2 : List (Addr × Obj)} {σ2 : St} {H2 : Hp} {s2 : Shared} {ys : List V} {its : List Value} {k : Nat} (I : Inv X pins σ H s) (fpk : ∀ b ∈ fp, FpOk X pins H b)
    (J : Inv (cxComp X x M scope C cs s H fp) pins2 σ2 H2 s2) (hn : H2 s.heap.objs.size = none) (ho : s2.heap.get? s.heap.objs.size = some { cls := .type "list", data := .seq its.toArray k }) (r : Vals ys its) (hz : ys.length ≤ sizeLine) :
    Inv X pins σ (upd H2 s.heap.objs.size (.lst ys)) s2 := by
  have u : Un (frs X.stack) fp H H2 s.heap s2.heap := J.base
  have ne : ∀ b o, H2 b = some o → b ≠ s.heap.objs.size := fun b o e => ne_of_none e hn
  refine I.call' (ch := fp) J.os ⟨u.keep, u.slot, fun b o e n hx => ?_, u.there, fun b xs e => ?_, fun b o xs e => ?_, fun b ps e => ?_⟩ (fun b o e => ?_) J.bare fun b hb => ?_
  · rw [upd_ne (Nat.ne_of_lt (Heap.lt_size e))]
    exact u.free b o e n hx
  · have q := u.tups b xs e
    rw [upd_ne (ne _ _ q)]
    exact q
  · have q := u.frzs b o xs e
    rw [upd_ne (ne _ _ q)]
    exact q
  · obtain ⟨more, q⟩ := u.tbls b ps e
    exact ⟨more, by rw [upd_ne (ne _ _ q)]; exact q⟩
  · by_cases hb : b = s.heap.objs.size
    · subst hb
      rw [upd_same] at e
      cases e
      exact ⟨hz, its, k, r, ho⟩
    · rw [upd_ne hb] at e
      exact (J.hok b o e).stay (fun _ _ _ q => q) (fun c q => by rw [upd_ne (ne _ _ q)]; exact q) fun c xs q => by rw [upd_ne (ne _ _ q)]; exact q
  · obtain ⟨_, a, _, b1, b2, b3⟩ := fpk b hb
    exact ⟨b1, a, b2, b3⟩

theorem comp_run {px pos : Pos} {elt iter : Expr} {ifs : List Expr} {tc : TT} {te : TE} {it : Addr} {tn : Nat → Heap → Prop} {J : It} {Q : VK} {RR : Value → Addr → Result → Shared → Prop} (hcalm : X.calm = true) (S : CompScope X x M scope)
    (hc : ∀ C cs s H fp, PTs (cxComp X x M scope C cs s H fp) ifs tc) (he : ∀ C cs s H fp, PE (cxComp X x M scope C cs s H fp) elt te)
    (I : Inv X pins σ H s) (T : Turn X.prog X.w X.K (.Name x px) J fp it tn) (t0 : tn 0 s.heap) (fpk : ∀ b ∈ fp, FpOk X pins H b)
    (hw : CompW J tc te σ H Q)
    (hRR : ∀ (acc C : Addr) (s' : Shared) (H' : Hp) (m : Str → Option Value), Inv X pins σ H' s' → s'.heap.Ns C m → FpOk X pins H' C → Q (.ref acc) H' → RR (.ref acc) C (.ok .next) s') :
    wpAny (model X.prog X.w) X.A (newList []) (fun acc s₃ => wpAny (model X.prog X.w) X.A (newFunctionEnv scope X.env.globals (clOf X.env scope.names []) [] X.env.qual none .none (some X.env)) (fun cenv s₄ =>
      codeAny (model X.prog X.w) X.A (.compStart (.ListComp elt [⟨.Name x px, iter, ifs, 0⟩] scope pos) 0 (.ref it) acc { cenv with scope := relabel scope X.env }) (RR acc cenv.locals) s₄) X.xe s₃) X.xe s := by
  have fpo : ∀ b ∈ fp, b < s.heap.objs.size := fun b hb => let ⟨_, e, _⟩ := T.obj _ _ t0 b hb; Heap.lt_size e
  refine wpAny_newObj_type (env_comp ?_)
  have IB := inv_block S I fpk fpo
  have hC := newAcc_size s.heap
  obtain ⟨W, ⟨m0, w0⟩, turn⟩ := hw
  show codeAny _ _ (.compStart _ 0 (.ref it) (.ref s.heap.objs.size) (compEnvC scope (blockCells X scope (newAcc s.heap).objs.size) (newAcc s.heap).objs.size X.env)) (RR (.ref s.heap.objs.size) (newAcc s.heap).objs.size) { s with heap := blockHeap s.heap scope }
  generalize hCe : (newAcc s.heap).objs.size = C at hC IB ⊢
  have old : ∀ b o, s.heap.get? b = some o → (blockHeap s.heap scope).get? b = some o := fun b o e => blockHeap_keep e
  have t1 : tn 0 (blockHeap s.heap scope) := T.keep _ _ _ t0 fun b _ o e => old b o e
  have oacc : (blockHeap s.heap scope).get? s.heap.objs.size = some { cls := .type "list", data := .seq ([] : List Value).toArray 0 } :=
    pushCells_keeps _ _ _ _ (Heap.get?_push_of_some _ (Heap.get?_push_size _ rfl))
  have accC : s.heap.objs.size ≠ C := by omega
  have accF : s.heap.objs.size ∉ frs X.stack := fun z => by
    rcases List.mem_cons.mp (I.stkSub _ z) with q | q
    · exact absurd I.lt (by rw [← q]; exact Nat.lt_irrefl _)
    · exact I.nofs (Nat.le_refl _) q
  have stat : ∀ {H' : Hp} {o : Obj}, (∀ b ∈ fp, H' b = none) → ∀ b ∈ fp, FpOk (cxComp X x M scope C (blockCells X scope C) s H fp) [(s.heap.objs.size, o)] H' b := fun {H' o} hn b hb =>
    ⟨hn b hb, (IB.ok.exf b hb).1, IB.ok.exfs b hb, .inl hb, (IB.ok.exf b hb).2, fun p hp z => by
      have e : p = (s.heap.objs.size, o) := by simpa using (show p ∈ ([] : List (Addr × Obj)) ++ [(s.heap.objs.size, o)] from hp)
      have := ltN (fpo b hb)
      rw [e] at z
      have z' := neN (show s.heap.objs.size = b from z)
      omega⟩
  obtain ⟨hloc, hfn⟩ := S.loc
  have loop : codeAny (model X.prog X.w) X.A (.compLoop (.ListComp elt [⟨.Name x px, iter, ifs, 0⟩] scope pos) 0 (.ref it) (.ref s.heap.objs.size) (compEnvC scope (blockCells X scope C) C X.env)) (RR (.ref s.heap.objs.size) C) { s with heap := blockHeap s.heap scope } := by
    refine codeAny_compLoop_tests (fun n s' => ∃ i ys its k H', Inv (cxComp X x M scope C (blockCells X scope C) s H fp) [] (none :: σ) H' s' ∧ tn i s'.heap ∧ (∀ b ∈ fp, H' b = none) ∧ H' s.heap.objs.size = none ∧
      s'.heap.get? s.heap.objs.size = some { cls := .type "list", data := .seq its.toArray k } ∧ Vals ys its ∧ W i n ys H') ?_ m0 ⟨0, [], [], 0, H, IB, t1, fun b hb => (fpk b hb).1, I.hok.fresh (Nat.le_refl _), oacc, .nil, w0⟩
    rintro n s1 ⟨i, ys, its, k, H1, I1, u1, f1, a1, o1, r1, w1⟩
    obtain ⟨hlen, hcase⟩ := turn i n ys H1 w1
    have J1 : Inv (cxComp X x M scope C (blockCells X scope C) s H fp) [(s.heap.objs.size, { cls := .type "list", data := .seq its.toArray k })] (none :: σ) H1 s1 := I1.pins_of fun p hp => by
      have e : p = (s.heap.objs.size, { cls := .type "list", data := .seq its.toArray k }) := by simpa using hp
      subst e
      exact ⟨o1, a1, accC, accF, fun v z => by cases z⟩
    rcases hcase with ⟨stop, q⟩ | ⟨go, step⟩
    · refine thn (T.done (cxComp X x M scope C (blockCells X scope C) s H fp) rfl rfl rfl hcalm i _ s1 _ H1 _ J1 (stat f1) u1 stop) fun r s2 ⟨hr, I2⟩ => ?_
      subst hr
      obtain ⟨m, hns, _⟩ := I2.loc
      have p2 := I2.pin _ (List.mem_append_right _ List.mem_cons_self)
      refine hRR s.heap.objs.size C s2 _ m (inv_exit I fpk I2 a1 p2.1 r1 (Nat.le_of_lt hlen)) hns (I.fpOk (by omega) ?_) (q _ a1)
      rw [upd_ne (Ne.symm accC)]
      exact I2.free
    · refine thn (T.item (cxComp X x M scope C (blockCells X scope C) s H fp) rfl rfl rfl hcalm i _ s1 _ H1 _ J1 (stat f1) u1 go) fun r s2 ⟨u, hr, h2⟩ => ?_
      subst hr
      show wpAny _ _ (letOwnedTupleGo (.Name x px) (.ref it) u >>= fun _ => assign (.Name x px) (compEnvC scope (blockCells X scope C) C X.env) u) _ _ _
      refine wpAny_bind (thn h2 fun _ s3 ⟨v, H3, I3, r3, y3, u3, f3⟩ => ?_)
      have I3' := I3.pinned (stat f3) (T.obj _ _ u3)
      refine wpAny_assign_Name (store_ok I3' S.nd (i := 0) rfl hloc r3 (fun s4 I4 => ?_) hfn)
      refine wpAny_mono (hc _ _ _ _ _ _ s4 _ _ _ I4 (step v H3 y3)) (fun okv s5 ⟨H5, I5, q5⟩ => ?_) fun _ _ z => z.elim
      have back : ∀ {s' : Shared} {H' : Hp}, Inv (cxComp X x M scope C (blockCells X scope C) s H fp) ([(s.heap.objs.size, { cls := .type "list", data := .seq its.toArray k })] ++ pinsAt fp s3.heap) (some v :: σ) H' s' →
          Inv (cxComp X x M scope C (blockCells X scope C) s H fp) [] (none :: σ) H' s' ∧ tn (i + 1) s'.heap ∧ (∀ b ∈ fp, H' b = none) ∧ H' s.heap.objs.size = none ∧ s'.heap.get? s.heap.objs.size = some { cls := .type "list", data := .seq its.toArray k } := fun {s' H'} K => by
        have pk : ∀ b ∈ fp, ∀ o, s3.heap.get? b = some o → s'.heap.get? b = some o ∧ H' b = none := fun b hb o e =>
          let z := K.pin (b, o) (List.mem_append_right _ (List.mem_append_right _ (mem_pinsAt hb e)))
          ⟨z.1, z.2.1⟩
        have pa := K.pin _ (List.mem_append_right _ (List.mem_append_left _ List.mem_cons_self))
        refine ⟨(K.pins_of (pins' := []) fun p hp => by cases hp).weak rfl fun j v' e => ?_, T.keep _ _ _ u3 fun b hb o e => (pk b hb o e).1, fun b hb => ?_, pa.2.1, pa.1⟩
        · cases j with
          | zero => cases e
          | succ j => exact e
        · obtain ⟨o, e, _⟩ := T.obj _ _ u3 b hb
          exact (pk b hb o e).2
      cases okv with
      | false =>
        rw [if_neg Bool.false_ne_true] at q5 ⊢
        obtain ⟨m', lt, w5⟩ := q5
        obtain ⟨K1, K2, K3, K4, K5⟩ := back I5
        exact ⟨m', lt, i + 1, ys, its, k, H5, K1, K2, K3, K4, K5, r1, w5⟩
      | true =>
        rw [if_pos rfl] at q5 ⊢
        refine wpAny_mono (he _ _ _ _ _ _ s5 _ _ _ I5 q5) (fun yv s6 ⟨y, H6, I6, r6, m', lt, w6⟩ => ?_) fun _ _ z => z.elim
        obtain ⟨K1, K2, K3, K4, K5⟩ := back I6
        refine wpAny_list_append_plain (l := s.heap.objs.size) (items := its.toArray) ⟨k, K5⟩ (fun h' hl' hsb => ?_) (by rw [List.size_toArray, ← r1.length]; omega)
        obtain ⟨k', o'⟩ := hl'
        refine ⟨m', lt, i + 1, ys ++ [y], its ++ [yv], k', H6, ?_, T.keep _ _ _ K2 fun b hb o e => hsb.extBut b o (fun z => ?_) e, K3, K4, ?_, r1.append (.cons r6 .nil), w6⟩
        · refine K1.turned (t' := s6.toks) (it := s.heap.objs.size) (fun b o hb e => hsb.extBut b o hb e) K4 accC (.inr (Nat.le_refl _)) (fun y c e z => ?_) fun p hp => by cases hp
          obtain ⟨vv, ov, eov, dov⟩ := K1.cell y c e
          rw [z, K5] at eov
          cases eov
          cases dov
        · have := ltN (fpo b hb); have := neN z; omega
        · rw [o', List.push_toArray]
  exact codeAny_compStart_list loop (T.self X.A 0 _ _ _ t1 loop)

theorem pe_comp {px pos : Pos} {elt iter : Expr} {ifs : List Expr} {wi : TI} {tc : TT} {te : TE} (hcalm : X.calm = true) (S : CompScope X x M scope) (hi : PI X (.Name x px) iter wi)
    (hc : ∀ C cs s H fp, PTs (cxComp X x M scope C cs s H fp) ifs tc) (he : ∀ C cs s H fp, PE (cxComp X x M scope C cs s H fp) elt te) (hs : ∀ v, foldedSetIterable iter X.env v = pure v := by intro _; rfl) :
    PE X (.ListComp elt [⟨.Name x px, iter, ifs, 0⟩] scope pos) (tComp wi tc te) := by
  intro pins s σ H Q I h
  rw [eval_ListComp]
  refine wpAny_comprehension_free (cl := clOf X.env scope.names []) rfl hs (closure_cl (S.cl I.ok)) S.kind (fun y hy e => by rw [S.once y hy, e]) ?_
  refine thn (hi pins s σ H _ I h) fun v s1 h1 => thn h1 fun itv s2 h2 => ?_
  obtain ⟨it, fp, tn, J, H2, e, I2, T, t2, f2, hw⟩ := h2
  subst e
  refine comp_run (RR := fun acc C => compPost (model X.prog X.w) X.A X.xe none (EP X pins σ Q) acc C) hcalm S hc he I2 T t2 f2 hw fun acc C s' H' m I' hns fC q => ?_
  refine ⟨m, hns, fun h' hsb => ⟨.ref acc, H', ?_, rfl, q⟩⟩
  exact I'.turned (t' := s'.toks) (it := C) (fun b o hb e => hsb.extBut b o hb e) fC.1 fC.2.1 fC.2.2.2.1 fC.2.2.2.2.1 fC.2.2.2.2.2

/-- name = [..] where the two stores are exchanged -/
theorem ps_setComp {i : Nat} {y : Str} {py : Pos} {px pos cpos : Pos} {elt iter : Expr} {ifs : List Expr} {wi : TI} {tc : TT} {te : TE} (hN : X.N.Nodup) (hy : X.N[i]? = some y) (hl : Loc X.env.scope y)
    (hcalm : X.calm = true) (S : CompScope X x M scope) (hi : PI X (.Name x px) iter wi)
    (hc : ∀ C cs s H fp, PTs (cxComp X x M scope C cs s H fp) ifs tc) (he : ∀ C cs s H fp, PE (cxComp X x M scope C cs s H fp) elt te)
    (hsw : swapsWith (.ListComp elt [⟨.Name x px, iter, ifs, 0⟩] scope cpos) (some (.Name y py)) pos.line X.env = pure true := by rfl) (hs : ∀ v, foldedSetIterable iter X.env v = pure v := by intro _; rfl)
    (hf : X.fn y = true ∨ X.env.scope.names.lookup y = some .local := by first | exact .inl rfl | exact .inr rfl | assumption) :
    PS X (.Assign [.Name y py] (.ListComp elt [⟨.Name x px, iter, ifs, 0⟩] scope cpos) pos) (tAsg (tComp wi tc te) (gName i)) := by
  intro pins s σ H D I h
  rw [exec_Assign_Name_used _ _ _ _ hsw]
  refine wpAny_bind (wpAny_standAt (wpAny_bind ?_))
  show wpAny _ _ (comprehension _ scope X.env _ (newList []) false (eval iter X.env) (some (assign (.Name y py) X.env)) >>= fun _ => pure ()) _ _ s
  refine wpAny_bind (wpAny_comprehension_free (cl := clOf X.env scope.names []) rfl hs (closure_cl (S.cl I.ok)) S.kind (fun y hy e => by rw [S.once y hy, e]) ?_)
  refine thn (hi pins s σ H _ I h) fun v s1 h1 => thn h1 fun itv s2 h2 => ?_
  obtain ⟨it, fp, tn, J, H2, e, I2, T, t2, f2, hw⟩ := h2
  subst e
  refine comp_run (Q := fun v H' => gName i v σ H' D.nx) (RR := fun acc C => compPost (model X.prog X.w) X.A X.xe (some (assign (.Name y py) X.env)) _ acc C) hcalm S hc he I2 T t2 f2 hw fun acc C s' H' m I' hns fC q => ?_
  show wpAny _ _ (assign (.Name y py) X.env (.ref acc)) _ _ s'
  refine wpAny_assign_Name (store_ok2 I' hN hy hl (v := .ref acc) rfl (fun s'' I'' ⟨a, hsb, ha⟩ => ?_) hf)
  have hCa : C ≠ a := by
    rcases ha with z | z
    · rw [z]; exact fC.2.1
    · exact fun e => fC.2.2.2.2.1 y a z e.symm
  refine ⟨m, hns.sameBut hsb hCa, fun h' hsb' => wpAny_pure (wpAny_pure ⟨_, H', ?_, q⟩)⟩
  exact I''.turned (t' := s''.toks) (it := C) (fun b o hb e => hsb'.extBut b o hb e) fC.1 fC.2.1 fC.2.2.2.1 fC.2.2.2.2.1 fC.2.2.2.2.2
end
end L2

set_option Elab.async false
set_option linter.all false
set_option maxRecDepth 100000
namespace L2
open PySem PySem.Spec PyProof.Rows

/-! ### a new tracked object, however the state came -/
theorem ObjOk.there {P : Program} {w : World} {H : Hp} {h : Heap} {a : Addr} {o : HO} (x : ObjOk P w H h a o) : ∃ ob, h.get? a = some ob := by
  cases o with
  | lst xs => obtain ⟨_, _, _, _, e⟩ := x; exact ⟨_, e⟩
  | tup xs => obtain ⟨_, _, _, ob, e, _⟩ := x; exact ⟨_, e⟩
  | dK kvs => obtain ⟨_, _, _, _, o, _, _, e, _⟩ := x; exact ⟨_, e⟩
  | dT kvs => obtain ⟨_, _, _, _, o, _, _, e, _⟩ := x; exact ⟨_, e⟩
  | set S n => obtain ⟨o, _, _, _, e, _⟩ := x; exact ⟨_, e⟩
  | ins C dx fs => obtain ⟨_, _, _, e, _⟩ := x; exact ⟨_, e⟩
  | own y => obtain ⟨_, e⟩ := x; exact ⟨_, e⟩
  | xd fs => obtain ⟨_, ⟨_, _, _, e, _⟩, _⟩ := x; exact ⟨_, e⟩
  | rng lo hi => obtain ⟨_, _, _, e⟩ := x; exact ⟨_, e⟩
  | frz ob u => obtain ⟨e, _⟩ := x; exact ⟨_, e⟩
  | tbl ps => exact ⟨_, show h.get? a = some _ from x⟩
  | met f y => exact ⟨_, show h.get? a = some _ from x⟩
  | ext φ => obtain ⟨_, ⟨o, e⟩, _⟩ := x; exact ⟨o, e⟩
section
variable {X : Cx} {pins : List (Addr × Obj)} {σ : St} {H : Hp} {s s' : Shared}
theorem Inv.none_of (I : Inv X pins σ H s) {l : Addr} (hl : s.heap.get? l = none) : H l = none := by
  cases e : H l with
  | none => rfl
  | some o =>
    obtain ⟨ob, q⟩ := (I.hok l o e).there
    rw [hl] at q
    cases q
theorem Inv.newAt {l : Addr} {o : HO} (I : Inv X pins σ H s) (k : ∀ b u, s.heap.get? b = some u → s'.heap.get? b = some u) (hg : s'.gens = s.gens) (ho : s'.os = s.os) (hl : s.heap.get? l = none) (new : ObjOk X.prog X.w (upd H l o) s'.heap l o) :
    Inv X pins σ (upd H l o) s' := by
  have hn := I.none_of hl
  have ne : ∀ b u, s.heap.get? b = some u → b ≠ l := fun b u e z => by rw [z, hl] at e; cases e
  have neH : ∀ b u, H b = some u → b ≠ l := fun b u e => ne_of_none e hn
  refine I.call' (ch := []) ho ⟨fun b u e _ _ _ => k b u e, fun b u e _ _ _ => ⟨u.slots, k b u e⟩, fun b u e n _ => by rw [upd_ne (ne b u e)]; exact n, fun b u e _ => ⟨u, k b u e⟩, fun b xs e => by rw [upd_ne (neH _ _ e)]; exact e,
    fun b u xs e => by rw [upd_ne (neH _ _ e)]; exact e, fun b ps e => ⟨#[], by rw [upd_ne (neH _ _ e), e]; simp⟩⟩ (fun b u e => ?_) (by rw [hg]; exact I.bare) fun b hb => by cases hb
  by_cases hb : b = l
  · subst hb
    rw [upd_same] at e
    cases e
    exact new
  · rw [upd_ne hb] at e
    exact (I.hok b u e).stay (fun c v _ q => k c v q) (fun c q => by rw [upd_ne (neH _ _ q)]; exact q) fun c xs q => by rw [upd_ne (neH _ _ q)]; exact q
end

/-! ### set(xs), sorted(set) -/
section
variable {X : Cx}
/-! ### max of a list of ints -/
theorem call_max_list (hc : X.calm = true) : CallR X (.builtin "max") (fun xs H Q => ∃ p ns, xs = [.ref p] ∧ SqL X.K H p (ns.map V.int) ∧ ns ≠ [] ∧ ∀ m, m ∈ ns → (∀ a ∈ ns, a ≤ m) → Q (.int m) H) := by
  intro pins s σ H xs us Q I rv h
  obtain ⟨p, ns, rfl, hp, hne, q⟩ := h
  obtain ⟨u, rfl, r⟩ := vals1 rv
  cases r
  obtain ⟨its, ri, pl, hz⟩ := I.list hp
  have hi := intsAre_of ri
  have hpos : 0 < ns.length := by cases ns with | nil => exact absurd rfl hne | cons => simp
  obtain ⟨xs, e⟩ := hi.allInts.items
  have hns : ns = xs.toList.map (·.1) := by rw [← hi.numsOf, ← nums_intItems, ← e]
  have hsz : 0 < xs.size := by
    rw [hns, List.length_map, Array.length_toList] at hpos
    exact hpos
  have pl' := pl.isList
  rw [e] at pl'
  refine max_intList (I.ok.hd hc) pl' hsz fun v h' tk hv k => ?_
  obtain ⟨t, rfl⟩ := intItems_at hv
  obtain ⟨h1, h2⟩ := argBest_gt (numAt xs) (xs.size - 1)
  refine ⟨.int _, H, I.kept k, ⟨t, rfl⟩, q _ ?_ fun a ha => ?_⟩
  · rw [hns, numAt_eq]
    exact getD_mem (by rw [List.length_map, Array.length_toList]; omega)
  · rw [hns] at ha
    obtain ⟨j, hj, rfl⟩ := mem_getD ha
    rw [List.length_map, Array.length_toList] at hj
    rw [← numAt_eq]
    exact h2 j (by omega)

/-! ### == and != of lists and of tuples, their items flat -/
def eqVs : List V → List V → Bool
  | [], [] => true
  | x :: xs, y :: ys => eqV x y && eqVs xs ys
  | _, _ => false
theorem all_shift (e : Nat → Bool) (n : Nat) : (List.range (n + 1)).all e = (e 0 && (List.range n).all fun j => e (j + 1)) := by
  rw [List.range_succ_eq_map, List.all_cons, List.all_map]
  rfl
theorem eqVs_range : ∀ {xs ys : List V}, xs.length = ys.length → (List.range xs.length).all (fun j => eqV (xs.getD j .non) (ys.getD j .non)) = eqVs xs ys
  | [], [], _ => rfl
  | [], _ :: _, h => by cases h
  | _ :: _, [], h => by cases h
  | x :: xs, y :: ys, h => by
    rw [List.length_cons, all_shift]
    have ih := eqVs_range (xs := xs) (ys := ys) (by simpa using h)
    show (eqV x y && (List.range xs.length).all fun j => eqV (xs.getD j .non) (ys.getD j .non)) = (eqV x y && eqVs xs ys)
    rw [ih]
theorem eqVs_len : ∀ {xs ys : List V}, xs.length ≠ ys.length → eqVs xs ys = false
  | [], [], h => absurd rfl h
  | [], _ :: _, _ => rfl
  | _ :: _, [], _ => rfl
  | x :: xs, y :: ys, h => by
    show (eqV x y && eqVs xs ys) = false
    rw [eqVs_len (fun z => h (by rw [List.length_cons, List.length_cons, z])), Bool.and_false]
/-- ints and None: == is being the same -/
def plainV : V → Bool
  | .int _ => true
  | .non => true
  | _ => false
theorem eqV_plain : ∀ {x y : V}, plainV x = true → plainV y = true → eqV x y = decide (x = y)
  | .int a, .int b, _, _ => by
    show (a == b) = _
    rw [← dec_int]
  | .int _, .non, _, _ => rfl
  | .non, .int _, _, _ => rfl
  | .non, .non, _, _ => rfl
theorem eqVs_plain : ∀ {xs ys : List V}, xs.all plainV = true → ys.all plainV = true → eqVs xs ys = decide (xs = ys)
  | [], [], _, _ => rfl
  | [], _ :: _, _, _ => rfl
  | _ :: _, [], _, _ => rfl
  | x :: xs, y :: ys, h, h' => by
    rw [List.all_cons, Bool.and_eq_true] at h h'
    show (eqV x y && eqVs xs ys) = _
    rw [eqV_plain h.1 h'.1, eqVs_plain h.2 h'.2]
    by_cases e : x = y <;> by_cases e' : xs = ys <;> simp [e, e']
theorem plain_ints (ns : List Int) : (ns.map V.int).all plainV = true := by
  induction ns with
  | nil => rfl
  | cons n r ih => rw [List.map_cons, List.all_cons, ih]; rfl
theorem flat_plain {xs : List V} (h : xs.all plainV = true) : xs.all flatV = true := by
  rw [List.all_eq_true] at h ⊢
  intro x hx
  have := h x hx
  cases x <;> first | rfl | cases this
theorem map_int_inj {ns ms : List Int} : ns.map V.int = ms.map V.int ↔ ns = ms := by
  constructor
  · intro h
    have h2 := congrArg (List.map fun v => match v with | V.int i => i | _ => 0) h
    rw [List.map_map, List.map_map] at h2
    have e : ((fun v => match v with | V.int i => i | _ => 0) ∘ V.int) = id := rfl
    rw [e, List.map_id, List.map_id] at h2
    exact h2
  · exact fun h => by rw [h]
theorem eqVs_ints (ns ms : List Int) : eqVs (ns.map V.int) (ms.map V.int) = decide (ns = ms) := by
  rw [eqVs_plain (plain_ints _) (plain_ints _)]
  by_cases e : ns = ms
  · subst e; simp
  · rw [decide_eq_false e, decide_eq_false fun z => e (map_int_inj.mp z)]
theorem items_eqAt {A : Around} {s : Shared} {xs ys : List V} {us ws : List Value} (r : Vals xs us) (r' : Vals ys ws) (hx : xs.all flatV = true) (hy : ys.all flatV = true) (j : Nat) (h1 : j < us.toArray.size) (h2 : j < ws.toArray.size) :
    SeqAt.EqAt A s us.toArray[j] ws.toArray[j] (eqV (xs.getD j .non) (ys.getD j .non)) := by
  have l1 := r.length
  have l2 := r'.length
  have k1 : j < xs.length := by rw [List.size_toArray] at h1; omega
  have k2 : j < ys.length := by rw [List.size_toArray] at h2; omega
  obtain ⟨u, e1, q1⟩ := r.get (List.getElem?_eq_getElem k1)
  obtain ⟨v, e2, q2⟩ := r'.get (List.getElem?_eq_getElem k2)
  have g1 : xs.getD j .non = xs[j] := by simp [List.getD_eq_getElem?_getD, k1]
  have g2 : ys.getD j .non = ys[j] := by simp [List.getD_eq_getElem?_getD, k2]
  rw [g1, g2]
  have a1 : us.toArray[j] = u := by
    have := List.getElem?_eq_some_iff.mp e1
    obtain ⟨_, z⟩ := this
    simpa using z
  have a2 : ws.toArray[j] = v := by
    have := List.getElem?_eq_some_iff.mp e2
    obtain ⟨_, z⟩ := this
    simpa using z
  rw [a1, a2]
  exact eqAt_V q1 q2 (List.all_eq_true.mp hx _ (List.getElem_mem k1)) (List.all_eq_true.mp hy _ (List.getElem_mem k2))
/-- a list and a list -/
def rEqL (K : PySem.W.Frag) (neg : Bool) : R2 := fun x y H Q => ∃ a b xs ys, x = .ref a ∧ y = .ref b ∧ SqL K H a xs ∧ SqL K H b ys ∧ xs.all flatV = true ∧ ys.all flatV = true ∧ Q (.bl (if neg then !eqVs xs ys else eqVs xs ys)) H
def rEqT (K : PySem.W.Frag) (neg : Bool) : R2 := fun x y H Q => ∃ a b xs ys, x = .ref a ∧ y = .ref b ∧ SqT K H a xs ∧ SqT K H b ys ∧ xs.all flatV = true ∧ ys.all flatV = true ∧ Q (.bl (if neg then !eqVs xs ys else eqVs xs ys)) H
theorem op_eqL (hu : X.A.units < cLine) : OpR X (compareOp .Eq) (rEqL X.K false) := by
  intro pins s σ H x y v u Q I rx ry h
  obtain ⟨a, b, xs, ys, rfl, rfl, ha, hb, fx, fy, q⟩ := h
  cases rx
  cases ry
  obtain ⟨us, r1, p1, _⟩ := I.list ha
  obtain ⟨ws, r2, p2, _⟩ := I.list hb
  have l1 := r1.length
  have l2 := r2.length
  by_cases hl : xs.length = ys.length
  · refine SeqAt.eq_listAt p1.isList p2.isList (by rw [List.size_toArray, List.size_toArray]; omega) hu (items_eqAt r1 r2 fx fy) ⟨.bl _, H, I, ?_, q⟩
    rw [List.size_toArray, ← l1, eqVs_range hl]
    rfl
  · refine SeqAt.eq_list_lengthsAt p1.isList p2.isList (by simp only [List.size_toArray, bne_iff_ne]; omega) hu ⟨.bl _, H, I, ?_, q⟩
    rw [eqVs_len hl]
    rfl
theorem tup_all {xs ys : List V} : ((List.range (min xs.length ys.length)).all (fun j => eqV (xs.getD j .non) (ys.getD j .non)) && xs.length == ys.length) = eqVs xs ys := by
  by_cases hl : xs.length = ys.length
  · have e : min xs.length ys.length = xs.length := by omega
    rw [e, eqVs_range hl, hl]
    simp
  · have e : (xs.length == ys.length) = false := by simpa using hl
    rw [e, Bool.and_false, eqVs_len hl]
theorem op_neT (hu : X.A.units < cLine) : OpR X (compareOp .NotEq) (rEqT X.K true) := by
  intro pins s σ H x y v u Q I rx ry h
  obtain ⟨a, b, xs, ys, rfl, rfl, ha, hb, fx, fy, q⟩ := h
  cases rx
  cases ry
  obtain ⟨us, r1, p1, _⟩ := I.tuple ha
  obtain ⟨ws, r2, p2, _⟩ := I.tuple hb
  have l1 := r1.length
  have l2 := r2.length
  refine SeqAt.RcNeAt.tuples (show s.heap.IsTuple a us.toArray from p1) (show s.heap.IsTuple b ws.toArray from p2) hu (items_eqAt r1 r2 fx fy) _ _ _ _ ⟨.bl _, H, I, ?_, q⟩
  rw [List.size_toArray, List.size_toArray, ← l1, ← l2, tup_all]
  rfl

/-! ### isinstance(x, T), T a built-in type -/
theorem call_isinst : CallR X (.builtin "isinstance") (fun xs H Q => ∃ x T t b, xs = [x, .ty T] ∧ TyOf X.K H x t ∧ PySem.W.kitOne X.K t (.type T) = some b ∧ Q (.bl b) H) := by
  intro pins s σ H xs us Q I rv h
  obtain ⟨x, T, t, b, rfl, ty, e, q⟩ := h
  obtain ⟨u, v, rfl, r1, r2⟩ := vals2 rv
  cases r2
  exact isinst_ok I r1 ty e fun tk => ⟨.bl b, H, I.tok _, rfl, q⟩

/-! ### range(a, b, c), c positive -/
end

/-! ### the forms one uses: a loop by steps; comprehensions -/
/-- any iterator whose items are known: the items that pass the test, mapped -/
abbrev CompT (xs : List V) (Pv : Nat → Hp → Prop) (p : V → Bool) (f : V → V) (tc : TT) (te : TE) (σ : St) : Prop :=
  ∀ i x H (R : V → Hp → Prop) (R' : Hp → Prop), xs[i]? = some x → Pv i H → (∀ H3, p x = true → Pv (i + 1) H3 → R (f x) H3) → (∀ H2, p x = false → Pv (i + 1) H2 → R' H2) →
    tc (some x :: σ) H fun c H2 => if c = true then te (some x :: σ) H2 R else R' H2
theorem comp_any {J : It} {xs : List V} {tc : TT} {te : TE} {σ : St} {H : Hp} {Q : VK} (Pv : Nat → Hp → Prop) (p : V → Bool) (f : V → V) (hz : xs.length < sizeLine) (h0 : Pv 0 H)
    (hst : ∀ H, Pv xs.length H → J.stop xs.length H) (hgo : ∀ i H, i < xs.length → Pv i H → J.go i H) (hy : ∀ i H x H', i < xs.length → Pv i H → J.yld i H x H' → H' = H ∧ xs[i]? = some x)
    (hs : CompT xs Pv p f tc te σ) (hd : ∀ H l, Pv xs.length H → H l = none → Q (.ref l) (upd H l (.lst ((xs.filter p).map f)))) : CompW J tc te σ H Q := by
  refine ⟨fun i m ys H => m = xs.length - i ∧ i ≤ xs.length ∧ Pv i H ∧ ys = ((xs.take i).filter p).map f, ⟨xs.length, by simp, Nat.zero_le _, h0, rfl⟩, ?_⟩
  rintro i m ys H1 ⟨rfl, hi, pv, rfl⟩
  have hlen : (((xs.take i).filter p).map f).length < sizeLine := by
    rw [List.length_map]
    have h1 := List.length_filter_le p (xs.take i)
    rw [List.length_take] at h1
    omega
  refine ⟨hlen, ?_⟩
  by_cases hlt : i < xs.length
  · refine .inr ⟨hgo i H1 hlt pv, fun v H' y => ?_⟩
    obtain ⟨e, hx⟩ := hy i H1 v H' hlt pv y
    subst e
    have tk : xs.take (i + 1) = xs.take i ++ [v] := by rw [List.take_add_one, hx]; rfl
    refine hs i v _ _ _ hx pv (fun H3 hp q => ?_) fun H2 hp q => ?_
    · exact ⟨xs.length - (i + 1), by omega, rfl, hlt, q, by rw [tk, List.filter_append, List.map_append]; simp [hp]⟩
    · exact ⟨xs.length - (i + 1), by omega, rfl, hlt, q, by rw [tk, List.filter_append]; simp [hp]⟩
  · have e : i = xs.length := by omega
    subst e
    refine .inl ⟨hst H1 pv, fun l hl => ?_⟩
    rw [List.take_length]
    exact hd H1 l pv hl
section
variable {K : PySem.W.Frag} {a : Addr} {xs : List V} {tc : TT} {te : TE} {σ : St} {H : Hp} {Q : VK}
theorem comp_list (Pv : Nat → Hp → Prop) (p : V → Bool) (f : V → V) (hz : xs.length < sizeLine) (h0 : Pv 0 H) (hl : ∀ i H, Pv i H → SqL K H a xs) (hs : CompT xs Pv p f tc te σ)
    (hd : ∀ H l, Pv xs.length H → H l = none → Q (.ref l) (upd H l (.lst ((xs.filter p).map f)))) : CompW (Itl K a) tc te σ H Q :=
  comp_any Pv p f hz h0 (fun H pv => ⟨xs, hl _ H pv, Nat.le_refl _⟩) (fun i H hi pv => ⟨xs, xs[i], hl _ H pv, by simp [hi]⟩) (fun i H x H' hi pv y => ⟨y.1, y.2 xs (hl _ H pv)⟩) hs hd
theorem comp_tup (Pv : Nat → Hp → Prop) (p : V → Bool) (f : V → V) (hz : xs.length < sizeLine) (h0 : Pv 0 H) (hl : ∀ i H, Pv i H → SqT K H a xs) (hs : CompT xs Pv p f tc te σ)
    (hd : ∀ H l, Pv xs.length H → H l = none → Q (.ref l) (upd H l (.lst ((xs.filter p).map f)))) : CompW (Itt K a) tc te σ H Q :=
  comp_any Pv p f hz h0 (fun H pv => ⟨xs, hl _ H pv, Nat.le_refl _⟩) (fun i H hi pv => ⟨xs, xs[i], hl _ H pv, by simp [hi]⟩) (fun i H x H' hi pv y => ⟨y.1, y.2 xs (hl _ H pv)⟩) hs hd
end
/-- lo, lo + 1, .. -/
def rngV (lo : Int) (n : Nat) : List V := (List.range n).map fun (i : Nat) => V.int (lo + i)
theorem rngV_len (lo : Int) (n : Nat) : (rngV lo n).length = n := by unfold rngV; simp
section
variable {tc : TT} {te : TE} {σ : St} {H : Hp} {Q : VK}
theorem comp_range {lo : Int} {n : Nat} (Pv : Nat → Hp → Prop) (p : V → Bool) (f : V → V) (hz : n < sizeLine) (h0 : Pv 0 H) (hs : CompT (rngV lo n) Pv p f tc te σ)
    (hd : ∀ H l, Pv n H → H l = none → Q (.ref l) (upd H l (.lst (((rngV lo n).filter p).map f)))) : CompW (Itr lo n) tc te σ H Q := by
  have hn := rngV_len lo n
  refine comp_any (xs := rngV lo n) Pv p f (by rw [hn]; exact hz) h0 (fun H pv => ?_) (fun i H hi pv => ?_) (fun i H x H' hi pv y => ⟨y.1, ?_⟩) hs (by rw [hn]; exact hd)
  · show n ≤ _
    rw [hn]; exact Nat.le_refl _
  · show i < n
    omega
  · rw [y.2]
    unfold rngV
    rw [hn] at hi
    simp [hi]
end
end L2

set_option Elab.async false
set_option linter.all false
set_option maxRecDepth 100000
namespace L2
open PySem PySem.Spec PyProof.Rows

/-! ### a def of the text, ready to be called -/
theorem gl_of {X : Cx} {x : Str} (h : X.env.kindOf x = some .globalImplicit) : Gl X x := h
structure Fn (P : Program) (w : World) (K : PySem.W.Frag) (mg : Str → Option Value) (base : Heap) (x : Str) (ps : List Str) (k : Nat) (sp : Sp) : Prop where
  ex : ∃ f fd, FnOk P w K mg base CX0 k f fd ps sp ∧ mg x = some (.ref f) ∧ PySem.W.keepIn K (.ref f) = true ∧ Binds K fd ps []
section
variable {X : Cx} {x : Str} {ps : List Str} {k : Nat} {sp : Sp} {p pos : Pos} {e : Expr} {es : List Expr} {t : TA}
theorem pe_fn (F : Fn X.prog X.w X.K X.mg X.base x ps k sp) (hr : Room k X.A) (ha : PA X (e :: es) t) (hg : Gl X x := by exact gl_of (by kernel_rfl)) (hdb : (x == ("__debug__" : Str)) = false := by decide)
    (he : starEach (e :: es) X.env = (false, eval e X.env) :: starEach es X.env := by rfl) (hpl : (backTo pos (starEach es X.env)).any (·.1) = false := by rfl) : PE X (.Call (.Name x p) (e :: es) [] pos) (tCall sp [] E0 t) := by
  obtain ⟨f, fd, h1, h2, h3, h4⟩ := F.ex
  exact pe_call h1 hr hg h2 h3 h4 .nil pass0 ha hdb he hpl
end
section
variable {X : Cx} {a b c : Expr} {ta : TE} {pos : Pos}
theorem un_notT : UnR X (unaryOp .Not) (fun x H Q => ∃ k, TruV X.K x H k ∧ Q (.bl (!k)) H) := by
  intro pins s σ H x v Q I rx h
  obtain ⟨k, e, q⟩ := h
  exact not_of (thn (tru_ok pins s σ H x v (fun c H' => Q (.bl (!c)) H') I rx ⟨k, e, q⟩) fun c s' ⟨H', I', q'⟩ => ⟨.bl (!c), H', I', rfl, q'⟩)
/-- a name of the module: a number -/
theorem pe_num {x : Str} {i : Int} {t : Tok} (hm : X.mg x = some (.int i t)) (hg : Gl X x := by exact gl_of (by kernel_rfl)) (hd : (x == ("__debug__" : Str)) = false := by decide) : PE X (.Name x pos) (tC (.int i)) := pe_glob hg hm ⟨t, rfl⟩ hd
/-- a built-in type as a value -/
theorem pe_ty {x : Str} {T : String} (hm : X.mg x = none) (hv : bootBuiltins x = some (.type T)) (hg : Gl X x := by exact gl_of (by kernel_rfl)) (hn : x ≠ "__name__" := by decide) (hd : (x == ("__debug__" : Str)) = false := by decide) : PE X (.Name x pos) (tC (.ty T)) := pe_bltn hg hm hv rfl hn hd
end

/-! ### a comprehension's names, by one look -/
def compChk (outer : List (Str × NameKind)) (N : List Str) (x : Str) (M : List Str) (sc : Scope) : Bool :=
  (sc.kind == .function) && sc.names.all (fun y => sc.names.lookup y.1 == some y.2 && y.1 != ".") && sc.names.all (fun y => y.2 != .free || (outer.lookup y.1 == some .cell || outer.lookup y.1 == some .free)) &&
    (sc.names.lookup x == some .local || sc.names.lookup x == some .cell) && (M == maskN x N) && decide ((x :: M).Nodup) && M.all (fun y => !(sc.names.lookup y == some .local || sc.names.lookup y == some .cell))
theorem CompScope.of {X : Cx} {x : Str} {M : List Str} {scope : Scope} (h : compChk X.env.scope.names X.N x M scope = true) : CompScope X x M scope := by
  unfold compChk at h
  simp only [Bool.and_eq_true, List.all_eq_true, Bool.or_eq_true, beq_iff_eq, bne_iff_ne, decide_eq_true_eq, Bool.not_eq_true', Bool.or_eq_false_iff, beq_eq_false_iff_ne] at h
  obtain ⟨⟨⟨⟨⟨⟨h1, h2⟩, h3⟩, h4⟩, h5⟩, h6⟩, h7⟩ := h
  exact ⟨h1, fun y hy => (h2 y hy).1, fun y hy => (h2 y hy).2, fun y hy e => (h3 y hy).elim (fun z => absurd e z) id, h4, h5, h6, fun y hy z => z.elim (h7 y hy).1 (h7 y hy).2⟩

/-! ### heaps that only grow -/
/-- what is new here was not there -/
theorem Same.put {H H1 : Hp} {p : Addr} {o : HO} (s : Same H H1) (h : H1 p = none) : Same H (upd H1 p o) := fun b u e => by
  have q := s b u e
  rw [upd_ne (ne_of_none q h)]
  exact q
theorem Same.tup {K : PySem.W.Frag} {H H' : Hp} {a : Addr} {xs : List V} (e : Same H H') (h : SqT K H a xs) : SqT K H' a xs := by
  rcases h with (h | ⟨o, h⟩) | h
  · exact .inl (.inl (e _ _ h))
  · exact .inl (.inr ⟨o, e _ _ h⟩)
  · exact .inr h

/-! ### a list or a tuple -/
def SqA (K : PySem.W.Frag) (H : Hp) (a : Addr) (xs : List V) : Prop := SqL K H a xs ∨ SqT K H a xs
theorem Same.any {K : PySem.W.Frag} {H H' : Hp} {a : Addr} {xs : List V} (e : Same H H') (h : SqA K H a xs) : SqA K H' a xs := h.elim (fun z => .inl (e.seq z)) fun z => .inr (e.tup z)
theorem SqA.lst {K : PySem.W.Frag} {H : Hp} {a : Addr} {xs : List V} (h : H a = some (.lst xs)) : SqA K H a xs := .inl (.of h)
theorem SqA.tpl {K : PySem.W.Frag} {H : Hp} {a : Addr} {xs : List V} (h : H a = some (.tup xs)) : SqA K H a xs := .inr (.of h)
section
variable {X : Cx} {tg : Expr}
def iSeq (K : PySem.W.Frag) (tl : TE) : TI := fun σ H R => tl σ H fun x H1 => ∃ a, x = .ref a ∧ (((∃ xs, SqL K H1 a xs) ∧ R (Itl K a) H1) ∨ ((∃ xs, SqT K H1 a xs) ∧ R (Itt K a) H1))
theorem pi_seq {l : Expr} {tl : TE} (hl : PE X l tl) : PI X tg l (iSeq X.K tl) := by
  intro pins s σ H R I h
  refine thn (hl pins s σ H _ I h) fun v s1 ⟨x, H1, I1, r1, q1⟩ => ?_
  obtain ⟨a, e, q⟩ := q1
  subst e
  cases r1
  rcases q with ⟨⟨xs, hq⟩, q⟩ | ⟨⟨xs, hq⟩, q⟩
  · obtain ⟨its, rv, p, hz⟩ := I1.list hq
    refine wpAny_pyIter_list p.isList ?_
    refine ⟨s1.heap.objs.size, [s1.heap.objs.size], _, _, H1, rfl, I1.kept (t' := s1.toks) fun b o e => Heap.get?_push_of_some _ e, turn_list a _, ⟨_, Heap.get?_push_size _ rfl, rfl, rfl⟩, fun b hb => ?_, q⟩
    rw [show b = s1.heap.objs.size by simpa using hb]
    exact I1.fpOk (Nat.le_refl _) (I1.hok.fresh (Nat.le_refl _))
  · obtain ⟨its, rv, p, hz⟩ := I1.tuple hq
    refine wpAny_pyIter_tuple (show s1.heap.IsTuple a its.toArray from p) ?_
    refine ⟨s1.heap.objs.size, [s1.heap.objs.size], _, _, H1, rfl, I1.kept (t' := s1.toks) fun b o e => Heap.get?_push_of_some _ e, turn_tuple a _, ⟨_, Heap.get?_push_size _ rfl, rfl, rfl⟩, fun b hb => ?_, q⟩
    rw [show b = s1.heap.objs.size by simpa using hb]
    exact I1.fpOk (Nat.le_refl _) (I1.hok.fresh (Nat.le_refl _))
def rIxA (K : PySem.W.Frag) : R2 := fun x y H Q => ∃ p xs i v, x = .ref p ∧ y = .int i ∧ SqA K H p xs ∧ atI xs i = some v ∧ Q v H
theorem ix_any : IxR X (rIxA X.K) := by
  intro value slice pins s σ H x y v u Q I rx ry q hs
  obtain ⟨p, xs, i, z, e1, e2, h | h, e3, q⟩ := q
  · exact ix_list value slice pins s σ H x y v u Q I rx ry ⟨p, xs, i, z, e1, e2, h, e3, q⟩ hs
  · exact ix_tup value slice pins s σ H x y v u Q I rx ry ⟨p, xs, i, z, e1, e2, h, e3, q⟩ hs
end
theorem comp_seq {K : PySem.W.Frag} {a : Addr} {xs : List V} {tc : TT} {te : TE} {σ : St} {H : Hp} {Q : VK} (Pv : Nat → Hp → Prop) (p : V → Bool) (f : V → V) (hz : xs.length < sizeLine) (h0 : Pv 0 H) (hP : ∀ i H', Pv i H' → Same H H') (h : SqA K H a xs)
    (hs : CompT xs Pv p f tc te σ) (hd : ∀ H l, Pv xs.length H → H l = none → Q (.ref l) (upd H l (.lst ((xs.filter p).map f)))) :
    ((∃ xs, SqL K H a xs) ∧ CompW (Itl K a) tc te σ H Q) ∨ ((∃ xs, SqT K H a xs) ∧ CompW (Itt K a) tc te σ H Q) := by
  rcases h with h | h
  · exact .inl ⟨⟨xs, h⟩, comp_list Pv p f hz h0 (fun i H' pv => (hP i H' pv).seq h) hs hd⟩
  · exact .inr ⟨⟨xs, h⟩, comp_tup Pv p f hz h0 (fun i H' pv => (hP i H' pv).tup h) hs hd⟩

/-! ### the same rules, the written part as a letter (a comprehension's block has it by rfl) -/
section
variable {X : Cx} {K : PySem.W.Frag} {w : World}
theorem ix_anyK (h : X.K = K) : IxR X (rIxA K) := h ▸ ix_any
theorem lenK (h : X.K = K) : CallR X (.builtin "len") (fun xs H Q => ∃ p ys, xs = [.ref p] ∧ (SqL K H p ys ∨ SqT K H p ys) ∧ Q (.int ys.length) H) := h ▸ call_len_seq
theorem isinstK (h : X.K = K) : CallR X (.builtin "isinstance") (fun xs H Q => ∃ x T t b, xs = [x, .ty T] ∧ TyOf K H x t ∧ PySem.W.kitOne K t (.type T) = some b ∧ Q (.bl b) H) := h ▸ call_isinst
theorem eqLK (h : X.K = K) (hu : X.A.units < cLine) : OpR X (compareOp .Eq) (rEqL K false) := h ▸ op_eqL hu
theorem neTK (h : X.K = K) (hu : X.A.units < cLine) : OpR X (compareOp .NotEq) (rEqT K true) := h ▸ op_neT hu
theorem pi_seqK {tg l : Expr} {tl : TE} (h : X.K = K) (hl : PE X l tl) : PI X tg l (iSeq K tl) := h ▸ pi_seq hl
theorem sl_tupK (h : X.K = K) : SlR X (rSlT K) := h ▸ sl_tup
theorem inK (h : X.K = K) : OpR X (compareOp .In) (rIn K false) := h ▸ op_in_seq
theorem notInK (h : X.K = K) : OpR X (compareOp .NotIn) (rIn K true) := h ▸ op_notIn_seq
theorem tupleK (h : X.K = K) : CallR X (.type "tuple") (fun xs H Q => ∃ p ys, xs = [.ref p] ∧ ((SqL K H p ys ∧ ∀ l, H l = none → Q (.ref l) (upd H l (.tup ys))) ∨ (SqT K H p ys ∧ Q (.ref p) H))) := h ▸ call_tuple_of
theorem maxK (h : X.K = K) (hc : X.calm = true) : CallR X (.builtin "max") (fun xs H Q => ∃ p ns, xs = [.ref p] ∧ SqL K H p (ns.map V.int) ∧ ns ≠ [] ∧ ∀ m, m ∈ ns → (∀ a ∈ ns, a ≤ m) → Q (.int m) H) := h ▸ call_max_list hc
theorem notK (h : X.K = K) : UnR X (unaryOp .Not) (fun x H Q => ∃ k, TruV K x H k ∧ Q (.bl (!k)) H) := h ▸ un_notT
theorem truthK {a : Expr} {ta : TE} (h : X.K = K) (ha : PE X a ta) (he : ∀ whole, isTrue a X.env whole = (do let v ← whole; standAt a.pos; holding [v] (truthy v))) : PT X a (fun σ H Q => ta σ H fun x H' => ∃ k, TruV K x H' k ∧ Q k H') := h ▸ pt_truth ha he
end

/-! ### a place where ways meet -/
end L2

set_option Elab.async false
set_option linter.all false
set_option maxRecDepth 100000
/-! exceptions over the hand layer: raise of an own class, passing on, try -/
namespace L2
open PySem PySem.Spec PyProof.Rows

section
variable {X : Cx} {pins : List (Addr × Obj)} {σ σ₀ : St} {H H₀ : Hp} {s s₀ : Shared} {h' : Heap}
/-- a step that keeps what is old or tracked, and of the frames all but their slots -/
theorem Inv.flown (hex : X.ex = []) (I0 : Inv X pins σ₀ H₀ s₀) (I : Inv X pins σ H s)
    (kp : ∀ b o, s.heap.get? b = some o → b ∉ frs X.stack → ((∃ o', s₀.heap.get? b = some o') ∨ ∃ o', H b = some o') → h'.get? b = some o) (up : s.heap.UpToSlots h') :
    Inv X pins σ H { s with heap := h' } := by
  have nex : ∀ b : Addr, b ∉ X.ex := fun b z => by rw [hex] at z; cases z
  have nst : ∀ b : Addr, b ≠ X.env.locals → b ∉ X.fs → b ∉ frs X.stack := fun b h1 h2 z => by
    rcases List.mem_cons.mp (I.stkSub b z) with e | e
    · exact h1 e
    · exact h2 e
  have old : ∀ b o, X.s₀.heap.get? b = some o → b ≠ X.env.locals := fun b o e z => by
    have := Nat.lt_of_lt_of_le (Heap.lt_size e) I.ok.above
    rw [z] at this
    exact Nat.lt_irrefl _ this
  have frame : ∀ b ∈ X.fs, ∃ o, s.heap.get? b = some o ∧ ∀ vs, o.data ≠ .fields vs := fun b hb => (I.funs.mem hb).2
  refine ⟨I.ok, I.os, I.bare, ⟨fun b o e n hb hx => ?_, fun b o e n hb hx => ?_, I.base.free, fun b o e hx => ?_, I.base.tups, I.base.frzs, I.base.tbls⟩, ?_, fun x c e => ?_, I.free, I.freeC, fun p hp => ?_, fun b o e => ?_, I.len⟩
  · exact kp b o (I.base.keep b o e n hb hx) (nst b (old b o e) hb) (.inl (I0.base.there b o e hx))
  · obtain ⟨sl, e1⟩ := I.base.slot b o e n hb hx
    obtain ⟨o2, e2, nf⟩ := frame b hb
    obtain ⟨sl', e3⟩ := up b o2 e2 nf
    rw [e1] at e2
    cases e2
    exact ⟨sl', e3⟩
  · obtain ⟨o', e1⟩ := I.base.there b o e hx
    by_cases hb : b ∈ X.fs
    · obtain ⟨o2, e2, nf⟩ := frame b hb
      obtain ⟨sl', e3⟩ := up b o2 e2 nf
      exact ⟨_, e3⟩
    · exact ⟨o', kp b o' e1 (nst b (old b o e) hb) (.inl (I0.base.there b o e hx))⟩
  · obtain ⟨m, hn, hl⟩ := I.loc
    refine ⟨m, up.ns hn, fun i x v e1 e2 e3 => ?_⟩
    obtain ⟨u, r, q⟩ := hl i x v e1 e2 e3
    refine ⟨u, r, ?_⟩
    rcases q with q | ⟨q1, c, q2, oc, q3, q4⟩
    · exact .inl q
    · refine .inr ⟨q1, c, q2, ?_⟩
      obtain ⟨sl, q5⟩ := up c oc q3 fun vs z => by rw [q4] at z; cases z
      exact ⟨_, q5, q4⟩
  · obtain ⟨v, oc, q3, q4⟩ := I.cell x c e
    obtain ⟨sl, q5⟩ := up c oc q3 fun vs z => by rw [q4] at z; cases z
    exact ⟨v, _, q5, q4⟩
  · obtain ⟨e, n, nl, nf, d⟩ := I.pin p hp
    refine ⟨kp _ _ e (nst _ nl nf) (.inl ⟨_, (I0.pin p hp).1⟩), n, nl, nf, d⟩
  · refine (I.hok b o e).stay (fun c u hc q => ?_) (fun _ q => q) fun _ _ q => q
    have tr : ∃ o', H c = some o' := by
      rcases hc with z | z
      · rw [z]; exact ⟨_, e⟩
      · exact ⟨_, z⟩
    refine kp c u q (fun z => ?_) (.inr tr)
    obtain ⟨o', e'⟩ := tr
    rw [I.stkFree c z] at e'
    cases e'
end

/-- an exception's object x of the class at C flies over the frames l: what s₀ held and what is tracked is apart from it -/
def Flies (l : List Env) (x C : Addr) (h₀ : Heap) (H : Hp) (h : Heap) : Prop :=
  ∃ B a0, Heap.FlyingW B l x (.ref C) a0 h ∧ (∀ b o, h₀.get? b = some o → b ∉ frs l → ∃ o', B.get? b = some o') ∧ ∀ b o, H b = some o → ∃ o', B.get? b = some o'
/-- the same with a base that is exact -/
theorem Flies.exact {l : List Env} {x C : Addr} {h₀ h : Heap} {H : Hp} (F : Flies l x C h₀ H h) :
    ∃ B a0, Heap.FlyingW B l x (.ref C) a0 h ∧ ∀ b o, h.get? b = some o → b ∉ frs l → ((∃ o', h₀.get? b = some o') ∨ ∃ o', H b = some o') → B.get? b = some o := by
  obtain ⟨B, a0, ⟨f1, f2, f3, oe, vs, T, oT, ts, he, hc, hd, h1, hnT, hTe, hT, hdT, h3⟩, d1, d2⟩ := F
  refine ⟨PySem.W.hideAll h (x :: T :: frs l), a0, ⟨fun b o q => PySem.W.of_hideAll _ q, PySem.W.hideAll_none _ (.head _), PySem.W.funFrames_hide f3 fun env he a ha => ?_, oe, vs, T, oT, ts, he, hc, hd, h1, PySem.W.hideAll_none _ (.tail _ (.head _)), hTe, hT, hdT, h3⟩, fun b o e nb hb => ?_⟩
  · exact .tail _ (.tail _ (List.mem_filterMap.mpr ⟨env, he, ha⟩))
  · have inB : ∃ o', B.get? b = some o' := by
      rcases hb with ⟨o', q⟩ | ⟨o', q⟩
      · exact d1 b o' q nb
      · exact d2 b o' q
    obtain ⟨o', hB⟩ := inB
    refine PySem.W.hideAll_get _ e fun z => ?_
    rcases List.mem_cons.mp z with z | z
    · rw [z, f2] at hB; cases hB
    · rcases List.mem_cons.mp z with z | z
      · rw [z, hnT] at hB; cases hB
      · exact nb z

/-- an exception has left a call -/
def CX1 (P : Program) (w : World) : CXT := fun outer H s E e s' => ∃ (x C : Addr) (H' : Hp), e = .ref x ∧ s'.os = s.os ∧ AllBare s'.gens ∧ Un (frs outer) [] H H' s.heap s'.heap ∧ HOk P w H' s'.heap ∧
  Flies outer x C s.heap H' s'.heap ∧ E (.ref C) none H'
/-- an exception made here -/
def Throws (X : Cx) (E : XK) : Prop := ∀ (pins : List (Addr × Obj)) (σ : St) (H : Hp) (s : Shared) (h' : Heap) (x C : Addr) (vs : List Value), Inv X pins σ H s → Heap.MadeExcOf s.heap h' x (.ref C) vs → E (.ref C) none H → X.xe (.ref x) { s with heap := h' }

section
variable {P : Program} {w : World} {K : PySem.W.Frag} {mg : Str → Option Value} {base : Heap} {N : List Str} {qual : Str} {scope : Scope} {f : Addr} {cd : Value} {A : Around} {outer : List Env} {s : Shared} {H : Hp} {E E' : XK}
theorem cx1_end {pins : List (Addr × Obj)} {σ : St} {H' : Hp} {s2 : Shared} {x C : Addr} {B : Heap} {a0 : Value} (J : Inv (cxOf (CX1 P w) P w K mg base N qual scope f cd A outer s H E) pins σ H' s2)
    (fl : Heap.FlyingW B outer x (.ref C) a0 s2.heap) (d1 : ∀ b o, s.heap.get? b = some o → b ∉ frs outer → ∃ o', B.get? b = some o') (d2 : ∀ b o, H' b = some o → ∃ o', B.get? b = some o') (q : E (.ref C) none H') : CX1 P w outer H s E (.ref x) s2 :=
  ⟨x, C, H', rfl, J.os, J.bare, J.base, J.hok, ⟨B, a0, fl, d1, d2⟩, q⟩
/-- a callee's exception goes on -/
theorem pass1 (hE : ∀ c d H', E' c d H' → E c d H') : Passes (CX1 P w) (cxOf (CX1 P w) P w K mg base N qual scope f cd A outer s H E) E' := by
  intro pins σ H1 s1 e s' I ⟨x, C, H', he, os, bare, un, hok, F, q⟩
  subst he
  have I' : Inv (cxOf (CX1 P w) P w K mg base N qual scope f cd A outer s H E) pins σ H' s' := I.call' os un hok bare (fun b z => absurd z (by simp))
  obtain ⟨B, a0, fl, ex⟩ := F.exact
  refine wpAny_leaves_onW I.ok.frames rfl fl fun h' fl' up => ?_
  have J := Inv.flown rfl I I' (fun b o e nb hb => fl'.1 _ _ (ex b o e nb hb)) up
  refine cx1_end J fl' (fun b o e nb => ?_) (fun b o e => ?_) (hE _ _ _ q)
  · obtain ⟨o', e'⟩ := I'.base.there b o e (fun z => absurd (show b ∈ ([] : List Addr) from z) (by simp))
    obtain ⟨o1, e1⟩ := I.base.there b o e (fun z => absurd (show b ∈ ([] : List Addr) from z) (by simp))
    refine ⟨o', ex b o' e' (fun z => ?_) (.inl ⟨o1, e1⟩)⟩
    rcases List.mem_cons.mp (I.stkSub b z) with y | y
    · have := Nat.lt_of_lt_of_le (Heap.lt_size e) I.ok.above
      rw [y] at this
      exact Nat.lt_irrefl _ this
    · exact nb y
  · have lt := (hok.lt e)
    cases e' : s'.heap.get? b with
    | none =>
      obtain ⟨B2, _, fl2, _, d2⟩ := F
      obtain ⟨o2, q2⟩ := d2 b o e
      have := fl2.1 _ _ q2
      rw [e'] at this
      cases this
    | some o' => exact ⟨o', ex b o' e' (fun z => by rw [I'.stkFree b z] at e; cases e) (.inr ⟨o, e⟩)⟩
/-- an exception made in a def's body leaves it -/
theorem throw1 (hE : ∀ c d H', E' c d H' → E c d H') : Throws (cxOf (CX1 P w) P w K mg base N qual scope f cd A outer s H E) E' := by
  intro pins σ H1 s1 h1 x C vs I hx q
  have I' : Inv (cxOf (CX1 P w) P w K mg base N qual scope f cd A outer s H E) pins σ H1 { s1 with heap := h1 } := I.kept (t' := s1.toks) hx.keeps
  have hin : ∀ env ∈ (cxOf (CX1 P w) P w K mg base N qual scope f cd A outer s H E).stack, ∀ b, env.frame = some b → b ∈ frs (cxOf (CX1 P w) P w K mg base N qual scope f cd A outer s H E).stack := fun env he b hb => List.mem_filterMap.mpr ⟨env, he, hb⟩
  have trk : ∀ b o, H1 b = some o → ∃ o', s1.heap.get? b = some o' := fun b o e => by
    have := I.hok b o e
    cases q : s1.heap.get? b with
    | some o' => exact ⟨o', rfl⟩
    | none =>
      exfalso
      cases o with
      | lst xs => obtain ⟨_, _, _, _, z⟩ := this; rw [q] at z; cases z
      | tup xs => obtain ⟨_, _, _, _, z, _⟩ := this; rw [q] at z; cases z
      | dK kvs => obtain ⟨_, _, _, _, _, _, _, z, _⟩ := this; rw [q] at z; cases z
      | dT kvs => obtain ⟨_, _, _, _, _, _, _, z, _⟩ := this; rw [q] at z; cases z
      | set S n => obtain ⟨_, _, _, _, z, _⟩ := this; rw [q] at z; cases z
      | ins C dx fs => obtain ⟨_, _, _, z, _⟩ := this; rw [q] at z; cases z
      | own y => obtain ⟨_, z⟩ := this; rw [q] at z; cases z
      | xd fs => obtain ⟨_, ⟨_, _, _, z, _⟩, _⟩ := this; rw [q] at z; cases z
      | rng lo hi => obtain ⟨_, _, _, z⟩ := this; rw [q] at z; cases z
      | frz ob u => obtain ⟨z, _⟩ := this; rw [q] at z; cases z
      | tbl ps => rw [show s1.heap.get? b = some _ from this] at q; cases q
      | met f y => rw [show s1.heap.get? b = some _ from this] at q; cases q
      | ext φ => obtain ⟨_, ⟨_, z⟩, _⟩ := this; rw [q] at z; cases z
  refine wpAny_leaves_madeW (base := PySem.W.hideAll s1.heap (frs (cxOf (CX1 P w) P w K mg base N qual scope f cd A outer s H E).stack)) I.ok.frames rfl (fun b o z => PySem.W.of_hideAll _ z) (PySem.W.funFrames_hide I.stack hin) hx fun h2 t fl _ _ up => ?_
  have keep : ∀ b o, h1.get? b = some o → b ∉ frs (cxOf (CX1 P w) P w K mg base N qual scope f cd A outer s H E).stack → ((∃ o', s1.heap.get? b = some o') ∨ ∃ o', H1 b = some o') → (PySem.W.hideAll s1.heap (frs (cxOf (CX1 P w) P w K mg base N qual scope f cd A outer s H E).stack)).get? b = some o := fun b o e nb hb => by
    have : ∃ o', s1.heap.get? b = some o' := by
      rcases hb with z | ⟨_, z⟩
      · exact z
      · exact trk b _ z
    obtain ⟨o', e'⟩ := this
    have := hx.keeps b o' e'
    rw [e] at this
    cases this
    exact PySem.W.hideAll_get _ e' nb
  have J := Inv.flown rfl I I' (fun b o e nb hb => fl.1 _ _ (keep b o e nb hb)) up
  refine cx1_end J fl (fun b o e nb => ?_) (fun b o e => ?_) (hE _ _ _ q)
  · obtain ⟨o1, e1⟩ := I.base.there b o e (fun z => absurd (show b ∈ ([] : List Addr) from z) (by simp))
    refine ⟨o1, PySem.W.hideAll_get _ e1 fun z => ?_⟩
    rcases List.mem_cons.mp (I.stkSub b z) with y | y
    · have := Nat.lt_of_lt_of_le (Heap.lt_size e) I.ok.above
      rw [y] at this
      exact Nat.lt_irrefl _ this
    · exact nb y
  · obtain ⟨o', e'⟩ := trk b o e
    exact ⟨o', PySem.W.hideAll_get _ e' fun z => by rw [I.stkFree b z] at e; cases e⟩
end
end L2

set_option Elab.async false
set_option linter.all false
set_option maxRecDepth 100000
namespace L2
open PySem PySem.Spec PyProof.Rows

abbrev bmV : List Value := [.type "ValueError", .type "Exception", .type "BaseException", .type "object"]
/-- the error class that the name x is bound to: it stands under ValueError, own classes perhaps between -/
structure Exc (K : PySem.W.Frag) (mg : Str → Option Value) (x : Str) (C : Addr) : Prop where
  mg : mg x = some (.ref C)
  ok : PySem.W.excIn K C bmV "ValueError.__new__" = true
theorem Exc.own {K : PySem.W.Frag} {mg : Str → Option Value} {x : Str} {C : Addr} {h : Heap} (e : Exc K mg x C) (X : K.In h) : OwnCls x C bmV "ValueError.__new__" mg h := by
  refine ⟨e.mg, ?_⟩
  have q := e.ok
  unfold PySem.W.excIn at q
  split at q
  · rename_i dd cd sl ho
    split at q
    · rename_i C' bm k0 k1 k2 k3 n k5 hm hs
      simp only [Bool.and_eq_true, beq_iff_eq, Bool.not_eq_true'] at q
      obtain ⟨⟨⟨⟨⟨rfl, rfl⟩, hdel⟩, ht⟩, hok⟩, hni⟩ := q
      obtain ⟨nm, bs, mro, ns, qn, hd, sn, sub, ab, col, del⟩ := cd
      dsimp only at hm hdel hok hni
      subst hm hdel
      have hsl : sl = #[k0, k1, k2, k3, some (.builtin "ValueError.__new__"), k5] := by
        obtain ⟨l⟩ := sl
        simp only at hs
        rw [hs]
      subst hsl
      exact ⟨bm, ns, nm, qn, bs, hd, sn, sub, ab, col, dd, k0, k1, k2, k3, k5, _, X _ _ ho, .of_isNs (PySem.W.isNs_of_in X hok), PySem.W.nsMap_none_of_in X hok hni, PySem.W.tail_of_in X ht⟩
    · cases q
  · cases q

section
variable {X : Cx} {E : XK} {x : Str} {C : Addr} {np cpos pos : Pos} {e : Expr} {es : List Expr} {t : TA}
def tRaise (E : XK) (C : Addr) (t : TA) : TS := fun _ σ H => t σ H fun vs H1 => vs.length ≤ sizeLine ∧ E (.ref C) none H1
/-- raise C(e, ..) -/
theorem ps_raise (T : Throws X E) (hc : X.calm = true) (O : Exc X.K X.mg x C) (ha : PA X (e :: es) t) (hg : Gl X x := by exact gl_of (by kernel_rfl))
    (he : starEach (e :: es) X.env = (false, eval e X.env) :: starEach es X.env := by rfl) (hpl : (backTo cpos (starEach es X.env)).any (·.1) = false := by rfl) (hd : (x == ("__debug__" : Str)) = false := by decide) :
    PS X (.Raise (some (.Call (.Name x np) (e :: es) [] cpos)) none pos) (tRaise E C t) := by
  intro pins s σ H D I h
  obtain ⟨tl, N, nm, q, bs, hdct, sn, sub, ab, col, dd, k0, k1, k2, k3, k5, mN, hC, hN, hni, TL⟩ := (O.own I.mod.kin).obj
  refine wpAny_Raise_call_subT (C := C) (nm := nm) (q := q) (N := N) (bs := bs) (bm := tl) (hdct := hdct) (sn := sn) (sub := sub) (ab := ab) (col := col) (dd := dd) (k0 := k0) (k1 := k1) (k2 := k2) (k3 := k3) (k5 := k5)
    PySem.F.excBase_ValueError (mN := mN) (TL.hasType PySem.F.excBase_ValueError.hasBase) (I.ok.hd hc) (by rw [he]; show (false || (backTo cpos (starEach es X.env)).any (·.1)) = false; rw [hpl]; rfl) hni (ld_glob I hg O.mg ⟨rfl, ?_⟩ hd)
  have h1 := ha cpos pins s σ H _ I h
  rw [he] at h1 ⊢
  refine Calls.evalArgs_plain (thn h1 fun us s2 ⟨vs, H1, I1, r, z, q⟩ => ?_)
  exact ⟨rfl, by rw [← r.length]; exact z, I1.bk _ _ hC, hN.keeps I1.bk, TL.keeps I1.bk, fun h' e hm => T pins σ H1 s2 h' e C us I1 hm q⟩
end

/-- a def that may raise, by its name -/
structure FnX (P : Program) (w : World) (K : PySem.W.Frag) (mg : Str → Option Value) (base : Heap) (x : Str) (ps : List Str) (k : Nat) (sp : Sp) : Prop where
  ex : ∃ f fd, FnOk P w K mg base (CX1 P w) k f fd ps sp ∧ mg x = some (.ref f) ∧ PySem.W.keepIn K (.ref f) = true ∧ Binds K fd ps []
section
variable {X : Cx} {E : XK} {x : Str} {ps : List Str} {k : Nat} {sp : Sp} {p pos : Pos} {e : Expr} {es : List Expr} {t : TA}
theorem pe_fnX (F : FnX X.prog X.w X.K X.mg X.base x ps k sp) (hx : Passes (CX1 X.prog X.w) X E) (hr : Room k X.A) (ha : PA X (e :: es) t) (hg : Gl X x := by exact gl_of (by kernel_rfl)) (hdb : (x == ("__debug__" : Str)) = false := by decide)
    (he : starEach (e :: es) X.env = (false, eval e X.env) :: starEach es X.env := by rfl) (hpl : (backTo pos (starEach es X.env)).any (·.1) = false := by rfl) : PE X (.Call (.Name x p) (e :: es) [] pos) (tCall sp [] E t) := by
  obtain ⟨f, fd, h1, h2, h3, h4⟩ := F.ex
  exact pe_call h1 hr hg h2 h3 h4 .nil hx ha hdb he hpl
end
section
variable {P : Program} {w : World} {K : PySem.W.Frag} {mg : Str → Option Value} {base : Heap}
/-- THE RULE for a def that may raise -/
theorem Fun.okX {x qual : Str} {st : Stmt} {f : Addr} {fd : FuncData} {N ps : List Str} {k : Nat} {sp : Sp} (F : Fun K x qual st f fd) (S : FnScope N ps (defScope st)) (len : ∀ vs H Q E, sp vs H Q E → vs.length = ps.length)
    (hbody : ∀ (cdv : Value) (A : Around) (outer : List Env) (s : Shared) (H : Hp) (vs : List V) (Q : VK) (E : XK), Room k (A.deeper (envOfC qual (defScope st) s.heap.objs.size f cdv)) → sp vs H Q E →
      ∃ t, PSs (cxOf (CX1 P w) P w K mg base N qual (defScope st) f cdv A outer s H E) (defBody st) t ∧ t { nx := fun _ H' => Q .non H', rt := Q } (start N vs) H) : FnOk P w K mg base (CX1 P w) (k + 1) f fd ps sp := by
  obtain ⟨oc, od, kV, doc, pm, an, cdv, ct, osl, rfl, lk, hcd⟩ := F.ex
  exact fn_of lk hcd S len fun A outer s H vs Q E hr hsp => hbody cdv A outer s H vs Q E hr hsp
/-- where the promise lets no exception out -/
def sp0 (sp : Sp) : Sp := fun vs H Q _ => sp vs H Q E0
theorem FnX.plain {x : Str} {ps : List Str} {k : Nat} {sp : Sp} (F : FnX P w K mg base x ps k sp) : Fn P w K mg base x ps k (sp0 sp) := by
  obtain ⟨f, fd, h1, h2, h3, h4⟩ := F.ex
  refine ⟨f, fd, ⟨fun vs H Q E h => h1.len vs H Q E0 h, fun A outer s H args us vs Q E hr he hb hv hs => codeAny_mono (h1.run A outer s H args us vs Q E0 hr he hb hv hs) fun r s' q => ?_⟩, h2, h3, h4⟩
  cases r with
  | error e =>
    obtain ⟨_, _, _, _, _, _, _, _, _, z⟩ := q
    exact z
  | ok fl => cases fl <;> exact q
/-- the classes' facts: C of the name x, under CE -/
structure Err (K : PySem.W.Frag) (mg : Str → Option Value) (x : Str) (C CE : Addr) : Prop extends Exc K mg x C where
  up : PySem.W.mroIn K C (.ref CE) = some true
  isV : PySem.W.kitOne K (.ref C) (.type "ValueError") = some true
end
end L2

set_option Elab.async false
set_option linter.all false
set_option maxRecDepth 100000
namespace L2
open PySem PySem.Spec PyProof.Rows

/-! ### texts with {..} -/
abbrev TP1 := St → Hp → (Str → Hp → Prop) → Prop
abbrev TJ := Str → TP1
def PP (X : Cx) (e : Expr) (t : TP1) : Prop := ∀ (pins : List (Addr × Obj)) (s : Shared) (σ : St) (H : Hp) (Q : Str → Hp → Prop), Inv X pins σ H s → t σ H Q →
  wpAny (model X.prog X.w) X.A (eval e X.env) (fun v s' => ∃ y tk H', v = .str y tk ∧ Inv X pins σ H' s' ∧ Q y H') X.xe s
def PJ (X : Cx) (es : List Expr) (t : TJ) : Prop := ∀ (acc : Str) (pins : List (Addr × Obj)) (s : Shared) (σ : St) (H : Hp) (Q : Str → Hp → Prop), Inv X pins σ H s → t acc σ H Q →
  wpAny (model X.prog X.w) X.A (joinParts acc (evalEach es X.env)) (fun v s' => ∃ y tk H', v = .str y tk ∧ Inv X pins σ H' s' ∧ Q y H') X.xe s
section
variable {X : Cx} {e : Expr} {es : List Expr} {te : TE} {tp : TP1} {t : TJ} {pos : Pos}
theorem pp_str {x : Str} {j} : PP X (.Constant (.str x) j pos) (fun _ H Q => Q x H) := fun _ _ _ H _ I h => Calls.Constant_str ⟨x, _, H, rfl, I.tok _, h⟩
theorem pp_int (he : PE X e te) : PP X (.FormattedValue e (-1) none pos) (fun σ H Q => te σ H fun v H1 => ∃ i : Int, v = .int i ∧ i.natAbs.log2 < 1920 ∧ Q (toString i) H1) := by
  intro pins s σ H Q I h
  refine FormattedValue_plain (thn (he pins s σ H _ I h) fun v s1 ⟨x, H1, I1, r1, i, e, hd, q⟩ => ?_)
  subst e
  obtain ⟨tk, rfl⟩ := r1
  exact formatField_int_small hd ⟨_, _, H1, rfl, I1.tok _, q⟩
theorem pj_nil : PJ X [] (fun acc _ H Q => acc.length ≤ sizeLine ∧ Q acc H) := by
  intro acc pins s σ H Q I h
  exact joinParts_nil ⟨acc, _, H, rfl, I.tok _, h.2⟩ h.1
theorem pj_cons (he : PP X e tp) (hr : PJ X es t) : PJ X (e :: es) (fun acc σ H Q => tp σ H fun y H1 => (acc ++ y).length ≤ sizeLine ∧ t (acc ++ y) σ H1 Q) := by
  intro acc pins s σ H Q I h
  show wpAny _ _ (joinParts acc (eval e X.env :: evalEach es X.env)) _ _ s
  refine joinParts_cons (thn (he pins s σ H _ I h) fun v s1 ⟨y, tk, H1, ev, I1, z, q⟩ => ?_)
  subst ev
  exact ⟨z, hr _ pins s1 σ H1 Q I1 q⟩
theorem pe_fstr {v₁ v₂ : Expr} (h : PJ X (v₁ :: v₂ :: es) t) : PE X (.JoinedStr (v₁ :: v₂ :: es) pos) (fun σ H Q => t Str.empty σ H fun out H' => Q (.str out) H') := by
  intro pins s σ H Q I hq
  refine JoinedStr_many (thn (h Str.empty pins s σ H _ I hq) fun v s1 ⟨y, tk, H1, ev, I1, q⟩ => ?_)
  subst ev
  exact ⟨.str y, H1, I1, ⟨tk, rfl⟩, q⟩
end
end L2

set_option Elab.async false
set_option linter.all false
set_option maxRecDepth 100000
namespace L2
open PySem PySem.Spec PyProof.Rows
/-- t + u of tuples, either may be empty -/
def rCatH : R2 := fun x y H Q => ∃ (a b : Addr) (xs ys : List V), x = .ref a ∧ y = .ref b ∧ H a = some (.tup xs) ∧ H b = some (.tup ys) ∧ xs.length + ys.length ≤ sizeLine ∧ ∀ (p : Addr) (H' : Hp), Same H H' → H' p = some (.tup (xs ++ ys)) → Q (.ref p) H'
section
variable {X : Cx}
theorem op_catH : OpR X (binaryOp .Add) rCatH := by
  intro pins s σ H x y v u Q I rx ry h
  obtain ⟨a, b, xs, ys, rfl, rfl, ha, hb, hz, q⟩ := h
  by_cases hx : xs = []
  · cases rx
    cases ry
    obtain ⟨its, r1, p1, _⟩ := I.tuple (.of ha)
    obtain ⟨its2, r2, p2, _⟩ := I.tuple (.of hb)
    have hi : its = [] := r1.nil_iff.mpr hx
    subst hx hi
    obtain ⟨⟨cls, dd, data, sl⟩, ho, hc, n, hd⟩ := id p1
    obtain ⟨⟨cls2, dd2, data2, sl2⟩, ho2, hc2, n2, hd2⟩ := id p2
    simp only at hc hd hc2 hd2
    subst hc hd hc2 hd2
    exact concat_meets ⟨_, ho, rfl⟩ ⟨_, ho2, rfl⟩ noFill_tuple_add seq_tuple_add PySem.F.slot_tuple_add PySem.F.entry_tuple_add (PySem.F.args_tuple_add_2 _ _)
      (tuple_addW0 a b _ its2.toArray n n2 dd dd2 sl sl2 (by simp)) ⟨ho, ho2, .ref b, H, I, rfl, q b H (Same.refl H) (by simpa using hb)⟩
  · refine op_catT pins s σ H _ _ v u Q I rx ry ⟨a, b, xs, ys, rfl, rfl, .of ha, .of hb, hx, hz, fun z => ?_, fun z p hp => ?_⟩
    · subst z
      exact q a H (Same.refl H) (by simpa using ha)
    · exact q p _ ((Same.refl H).put hp) upd_same
end
end L2

set_option Elab.async false
set_option linter.all false
set_option maxRecDepth 100000
namespace L2
open PySem PySem.Spec PyProof.Rows
/-! ### == of lists and tuples within one another -/
mutual
/-- what a value is, read whole -/
inductive Dr (K : PySem.W.Frag) (H : Hp) : V → PyData → Prop where
  | non : Dr K H .non .none
  | bl (b : Bool) : Dr K H (.bl b) (.bool b)
  | int (i : Int) : Dr K H (.int i) (.int i)
  | str (z : Str) : Dr K H (.str z) (.str z)
  | lst {a : Addr} {xs : List V} {ds : List PyData} (h : SqL K H a xs) (r : DrAll K H xs ds) : Dr K H (.ref a) (.list ds)
  | tup {a : Addr} {xs : List V} {ds : List PyData} (h : SqT K H a xs) (r : DrAll K H xs ds) : Dr K H (.ref a) (.tuple ds)
inductive DrAll (K : PySem.W.Frag) (H : Hp) : List V → List PyData → Prop where
  | nil : DrAll K H [] []
  | cons {x : V} {xs : List V} {d : PyData} {ds : List PyData} (h : Dr K H x d) (r : DrAll K H xs ds) : DrAll K H (x :: xs) (d :: ds)
end
section
variable {X : Cx} {pins : List (Addr × Obj)} {σ : St} {H : Hp} {s : Shared}
mutual
theorem rd_reads (I : Inv X pins σ H s) {x : V} {d : PyData} {v : Value} (r : Dr X.K H x d) (rx : RelV x v) : ∃ as, Reads s.heap v d as := by
  cases r with
  | non => cases rx; exact ⟨_, .none⟩
  | bl b => cases rx; exact ⟨_, .bool b⟩
  | int i => obtain ⟨t, rfl⟩ := rx; exact ⟨_, .int i t⟩
  | str z => obtain ⟨t, rfl⟩ := rx; exact ⟨_, .str z t⟩
  | lst h r =>
    cases rx
    obtain ⟨its, rv, pl, _⟩ := I.list h
    obtain ⟨as, ra⟩ := rd_all I r rv
    obtain ⟨o, eo, co, n, dO⟩ := pl.isList
    exact ⟨_, .list eo co dO (by rw [List.toList_toArray]; exact ra)⟩
  | tup h r =>
    cases rx
    obtain ⟨its, rv, pl, _⟩ := I.tuple h
    obtain ⟨as, ra⟩ := rd_all I r rv
    obtain ⟨o, eo, co, n, dO⟩ := pl
    exact ⟨_, .tuple eo co dO (by rw [List.toList_toArray]; exact ra)⟩
theorem rd_all (I : Inv X pins σ H s) {xs : List V} {ds : List PyData} {vs : List Value} (r : DrAll X.K H xs ds) (rv : Vals xs vs) : ∃ as, ReadsAll s.heap vs ds as := by
  cases r with
  | nil => cases rv; exact ⟨_, .nil⟩
  | cons h r =>
    cases rv with
    | cons q rr =>
      obtain ⟨as, a1⟩ := rd_reads I h q
      obtain ⟨bs, a2⟩ := rd_all I r rr
      exact ⟨_, .cons a1 a2⟩
end
def rEqD (K : PySem.W.Frag) (neg : Bool) : R2 := fun x y H Q => ∃ d e, Dr K H x d ∧ Dr K H y e ∧ PySem.SeqAt.shaped d = true ∧ PySem.SeqAt.shaped e = true ∧ Q (.bl (if neg = true then !PyData.eqv d e else PyData.eqv d e)) H
theorem op_neD (hu : X.A.units + 64 < cLine) : OpR X (compareOp .NotEq) (rEqD X.K true) := by
  intro pins s σ H x y v u Q I rx ry h
  obtain ⟨d, e, r1, r2, h1, h2, q⟩ := h
  obtain ⟨as, a1⟩ := rd_reads I r1 rx
  obtain ⟨bs, a2⟩ := rd_reads I r2 ry
  exact ne_dataH a1 a2 h1 h2 hu ⟨.bl _, H, I, rfl, q⟩
theorem neDK {K : PySem.W.Frag} (h : X.K = K) (hu : X.A.units + 64 < cLine) : OpR X (compareOp .NotEq) (rEqD K true) := h ▸ op_neD hu
end
/-! ### lists of ints, tuples of ints, read whole -/
def dInts (ns : List Int) : List PyData := ns.map PyData.int
theorem rd_ints (K : PySem.W.Frag) (H : Hp) : ∀ ns : List Int, DrAll K H (ns.map V.int) (dInts ns)
  | [] => .nil
  | n :: r => .cons (.int n) (rd_ints K H r)
theorem eqv_ints : ∀ ns ms : List Int, PyData.eqvAll (dInts ns) (dInts ms) = decide (ns = ms)
  | [], [] => rfl
  | [], _ :: _ => rfl
  | _ :: _, [] => rfl
  | a :: r, b :: t => by
    show (PyData.eqv (.int a) (.int b) && PyData.eqvAll (dInts r) (dInts t)) = _
    rw [eqv_ints r t]
    show ((a == b) && decide (r = t)) = decide (a :: r = b :: t)
    by_cases h : a = b <;> by_cases h' : r = t <;> simp [h, h']
def dTups (wss : List (List Int)) : List PyData := wss.map fun ws => .tuple (dInts ws)
theorem eqv_tups : ∀ xss yss : List (List Int), PyData.eqvAll (dTups xss) (dTups yss) = decide (xss = yss)
  | [], [] => rfl
  | [], _ :: _ => rfl
  | _ :: _, [] => rfl
  | a :: r, b :: t => by
    show (PyData.eqvAll (dInts a) (dInts b) && PyData.eqvAll (dTups r) (dTups t)) = _
    rw [eqv_tups r t, eqv_ints]
    by_cases h : a = b <;> by_cases h' : r = t <;> simp [h, h']
end L2


set_option Elab.async false
set_option linter.all false
set_option maxRecDepth 100000
namespace L2.Tim
open PySem PyProof.Rows
def gallop' : Bool → Keyed → Array Keyed → Nat → Nat → Nat → StateT SortSt Sem (Option Nat) := sortPriv% PySem.Builtin.gallop
def bey (left : Bool) (key : Keyed) (arr : Array Keyed) (base i : Nat) : StateT SortSt Sem (Option Bool) := do
  let x ← elem' arr (base + i); if left then lt' x key else return (← lt' key x).map (!·)
theorem gallop_eq (left : Bool) (key : Keyed) (arr : Array Keyed) (base n hint : Nat) : gallop' left key arr base n hint = (do
    let mut lastofs := 0; let mut ofs := 1; let mut lo := 0; let mut hi := 0
    let some right ← bey left key arr base hint | return none
    if right then
      let maxofs := n - hint
      for _ in [0:n] do
        if ofs ≥ maxofs then break
        let some more ← bey left key arr base (hint + ofs) | return none
        if !more then break
        lastofs := ofs; ofs := 2 * ofs + 1
      lo := hint + lastofs + 1; hi := hint + min ofs maxofs
    else
      let maxofs := hint + 1
      for _ in [0:n] do
        if ofs ≥ maxofs then break
        let some found ← bey left key arr base (hint - ofs) | return none
        if found then break
        lastofs := ofs; ofs := 2 * ofs + 1
      lo := hint + 1 - min ofs maxofs; hi := hint - lastofs
    for _ in [0:n] do
      if lo ≥ hi then break
      let m := lo + (hi - lo) / 2
      let some more ← bey left key arr base m | return none
      if more then lo := m + 1 else hi := m
    return some hi) := rfl
section
variable {prog : Program} {w : World} {A : Around} {E : Value → Shared → Prop} {s : Shared} {κ : SortKind} {a₀ : Array Keyed} {less : Keyed → Keyed → Bool}
/-- the order that the comparisons tell -/
structure Ord (prog : Program) (w : World) (A : Around) (E : Value → Shared → Prop) (s : Shared) (κ : SortKind) (a₀ : Array Keyed) (less : Keyed → Keyed → Bool) : Prop where
  tell : ∀ x y, x ∈ a₀ → y ∈ a₀ → ∀ (st : SortSt) (Q : Option Bool → SortSt → Prop), kindOf st = κ → Q (some (less x y)) st → wpS (model prog w) A E s (lt' x y) Q st
  trans : ∀ x y z, x ∈ a₀ → y ∈ a₀ → z ∈ a₀ → less y x = false → less z y = false → less z x = false
  asym : ∀ x y, x ∈ a₀ → y ∈ a₀ → less x y = true → less y x = false
def beyB (less : Keyed → Keyed → Bool) (left : Bool) (key x : Keyed) : Bool := if left = true then less x key else !less key x
theorem wp_bey (O : Ord prog w A E s κ a₀ less) {left : Bool} {key x : Keyed} {arr : Array Keyed} {base i : Nat} {st : SortSt} {Q : Option Bool → SortSt → Prop} (hk : key ∈ a₀) (hx : arr[base + i]? = some x) (hxm : x ∈ a₀) (hκ : kindOf st = κ) (h : Q (some (beyB less left key x)) st) : wpS (model prog w) A E s (bey left key arr base i) Q st := by
  unfold bey
  rw [elem'_eq, hx]
  refine wpS_bind (wpS_pure ?_)
  unfold beyB at h
  cases left with
  | true => exact O.tell _ _ hxm hk st Q hκ h
  | false => exact wpS_bind (O.tell _ _ hk hxm st _ hκ (wpS_pure h))
/-- where the row turns -/
structure Turns (p : Nat → Bool) (n : Nat) : Prop where
  mono : ∀ i j, i ≤ j → j < n → p j = true → p i = true
/-- the search by halves -/
def binL (left : Bool) (key : Keyed) (arr : Array Keyed) (base n lo hi : Nat) : StateT SortSt Sem (Option (Option Nat) × Nat × Nat) :=
  forIn [0:n] ((none : Option (Option Nat)), lo, hi) fun _ c => if c.2.1 ≥ c.2.2 then pure (.done (none, c.2.1, c.2.2)) else do
    let r ← bey left key arr base (c.2.1 + (c.2.2 - c.2.1) / 2)
    match r with
    | some more => if more = true then pure (.yield (none, c.2.1 + (c.2.2 - c.2.1) / 2 + 1, c.2.2)) else pure (.yield (none, c.2.1, c.2.1 + (c.2.2 - c.2.1) / 2))
    | _ => pure (.done (some none, c.2.1, c.2.2))
theorem wp_binL {p : Nat → Bool} {left : Bool} {key : Keyed} {arr : Array Keyed} {base n lo hi : Nat} {st : SortSt} {Q : Option (Option Nat) × Nat × Nat → SortSt → Prop}
    (ask : ∀ {i : Nat} {R : Option Bool → SortSt → Prop}, i < n → R (some (p i)) st → wpS (model prog w) A E s (bey left key arr base i) R st) (T : Turns p n) (h1 : lo ≤ hi) (h2 : hi ≤ n) (hlo : ∀ i, i < lo → p i = true) (hhi : ∀ i, hi ≤ i → i < n → p i = false)
    (h : ∀ k, k ≤ n → (∀ i, i < k → p i = true) → (∀ i, k ≤ i → i < n → p i = false) → Q (none, k, k) st) : wpS (model prog w) A E s (binL left key arr base n lo hi) Q st := by
  unfold binL
  refine wpS_forRange (fun j c st' => st' = st ∧ ∃ lo hi, c = (none, lo, hi) ∧ lo ≤ hi ∧ hi ≤ n ∧ hi - lo ≤ n - j ∧ (∀ i, i < lo → p i = true) ∧ ∀ i, hi ≤ i → i < n → p i = false) ?_ ?_ ⟨rfl, lo, hi, rfl, h1, h2, by omega, hlo, hhi⟩
  · rintro j c st' _ hj ⟨rfl, lo, hi, rfl, a1, a2, a3, a4, a5⟩
    by_cases z : lo ≥ hi
    · dsimp only
      rw [if_pos z]
      have e : lo = hi := by omega
      subst e
      exact wpS_pure (h lo a2 a4 a5)
    · dsimp only
      rw [if_neg z]
      refine wpS_bind (ask (by omega) ?_)
      dsimp only
      cases hb : p (lo + (hi - lo) / 2) with
      | true =>
        rw [if_pos rfl]
        refine wpS_pure ⟨rfl, _, hi, rfl, by omega, a2, by omega, fun i hi' => ?_, a5⟩
        exact T.mono i _ (by omega) (by omega) hb
      | false =>
        rw [if_neg Bool.false_ne_true]
        refine wpS_pure ⟨rfl, lo, _, rfl, by omega, by omega, by omega, a4, fun i hi' hn => ?_⟩
        cases hp : p i with
        | false => rfl
        | true =>
          rw [T.mono _ i hi' hn hp] at hb
          cases hb
  · rintro c st' ⟨rfl, lo, hi, rfl, a1, a2, a3, a4, a5⟩
    have e : lo = hi := by
      have : max 0 n = n := by omega
      rw [this] at a3
      omega
    subst e
    exact h lo a2 a4 a5
set_option maxHeartbeats 4000000 in
theorem wp_gallop (O : Ord prog w A E s κ a₀ less) {left : Bool} {key : Keyed} {arr : Array Keyed} {base n hint : Nat} {st : SortSt} {Q : Option Nat → SortSt → Prop} (hk : key ∈ a₀) (hκ : kindOf st = κ) (hh : hint < n) (row : Nat → Keyed) (hrow : ∀ i, i < n → arr[base + i]? = some (row i) ∧ row i ∈ a₀)
    (T : Turns (fun i => beyB less left key (row i)) n) (h : ∀ k, k ≤ n → (∀ i, i < k → beyB less left key (row i) = true) → (∀ i, k ≤ i → i < n → beyB less left key (row i) = false) → Q (some k) st) : wpS (model prog w) A E s (gallop' left key arr base n hint) Q st := by
  rw [gallop_eq]
  generalize hp : (fun i => beyB less left key (row i)) = p at T
  have hpi : ∀ i, beyB less left key (row i) = p i := fun i => congrFun hp i
  simp only [hpi] at h
  have ask : ∀ {i : Nat} {R : Option Bool → SortSt → Prop}, i < n → R (some (p i)) st → wpS (model prog w) A E s (bey left key arr base i) R st := fun {i R} hi hR => wp_bey O hk (hrow i hi).1 (hrow i hi).2 hκ (by rw [hpi]; exact hR)
  have up : ∀ {m : Nat}, m < n → p m = true → ∀ i, i < m + 1 → p i = true := fun {m} hm hb i hi => T.mono i m (by omega) hm hb
  have down : ∀ {m : Nat}, p m = false → ∀ i, m ≤ i → i < n → p i = false := fun {m} hb i hi hn => by
    cases hq : p i with
    | false => rfl
    | true =>
      rw [T.mono m i hi hn hq] at hb
      cases hb
  refine wpS_bind (ask hh ?_)
  dsimp only
  cases hb : p hint with
  | true =>
    simp only [if_true]
    have fin2 : ∀ la of, la < of → hint + la < n → p (hint + la) = true → (of ≥ n - hint ∨ p (hint + of) = false) → hint + la + 1 ≤ hint + min of (n - hint) ∧ hint + min of (n - hint) ≤ n ∧ (∀ i, i < hint + la + 1 → p i = true) ∧ ∀ i, hint + min of (n - hint) ≤ i → i < n → p i = false := fun la of a1 a3 a4 a5 => by
      refine ⟨by omega, by omega, fun i hi => up a3 a4 i (by omega), fun i hi hn => ?_⟩
      rcases a5 with z | z
      · omega
      · by_cases y : of < n - hint
        · exact down z i (by omega) hn
        · omega
    refine wpS_bind (wpS_forRange (fun j c st' => st' = st ∧ ∃ la of, c = (none, la, of) ∧ la < of ∧ j + 1 ≤ of ∧ hint + la < n ∧ p (hint + la) = true) ?_ ?_ ⟨rfl, 0, 1, rfl, by omega, by omega, by omega, by rw [Nat.add_zero]; exact hb⟩)
    · rintro j c st' _ hj ⟨rfl, la, of, rfl, a1, a2, a3, a4⟩
      dsimp only
      by_cases z : of ≥ n - hint
      · rw [if_pos z]
        refine wpS_pure ?_
        dsimp only
        obtain ⟨b1, b2, b3, b4⟩ := fin2 la of a1 a3 a4 (.inl z)
        exact wpS_bind (wp_binL (p := p) ask T b1 b2 b3 b4 fun k k1 k2 k3 => wpS_pure (h k k1 k2 k3))
      · rw [if_neg z]
        refine wpS_bind (ask (i := hint + of) (by omega) ?_)
        dsimp only
        cases hm : p (hint + of) with
        | false =>
          rw [if_pos (show (!false) = true from rfl)]
          refine wpS_pure ?_
          dsimp only
          obtain ⟨b1, b2, b3, b4⟩ := fin2 la of a1 a3 a4 (.inr hm)
          exact wpS_bind (wp_binL (p := p) ask T b1 b2 b3 b4 fun k k1 k2 k3 => wpS_pure (h k k1 k2 k3))
        | true =>
          rw [if_neg (by decide)]
          exact wpS_pure ⟨rfl, of, 2 * of + 1, rfl, by omega, by omega, by omega, hm⟩
    · rintro c st' ⟨rfl, la, of, rfl, a1, a2, a3, a4⟩
      have e : max 0 n = n := by omega
      rw [e] at a2
      dsimp only
      obtain ⟨b1, b2, b3, b4⟩ := fin2 la of a1 a3 a4 (.inl (by omega))
      exact wpS_bind (wp_binL (p := p) ask T b1 b2 b3 b4 fun k k1 k2 k3 => wpS_pure (h k k1 k2 k3))
  | false =>
    simp only [Bool.false_eq_true, if_false]
    have fin2 : ∀ la of, la < of → la ≤ hint → p (hint - la) = false → (of ≥ hint + 1 ∨ p (hint - of) = true) → hint + 1 - min of (hint + 1) ≤ hint - la ∧ hint - la ≤ n ∧ (∀ i, i < hint + 1 - min of (hint + 1) → p i = true) ∧ ∀ i, hint - la ≤ i → i < n → p i = false := fun la of a1 a3 a4 a5 => by
      refine ⟨by omega, by omega, fun i hi => ?_, fun i hi hn => down a4 i hi hn⟩
      rcases a5 with z | z
      · omega
      · by_cases y : of < hint + 1
        · exact up (m := hint - of) (by omega) z i (by omega)
        · omega
    refine wpS_bind (wpS_forRange (fun j c st' => st' = st ∧ ∃ la of, c = (none, la, of) ∧ la < of ∧ j + 1 ≤ of ∧ la ≤ hint ∧ p (hint - la) = false) ?_ ?_ ⟨rfl, 0, 1, rfl, by omega, by omega, by omega, by rw [Nat.sub_zero]; exact hb⟩)
    · rintro j c st' _ hj ⟨rfl, la, of, rfl, a1, a2, a3, a4⟩
      dsimp only
      by_cases z : of ≥ hint + 1
      · rw [if_pos z]
        refine wpS_pure ?_
        dsimp only
        obtain ⟨b1, b2, b3, b4⟩ := fin2 la of a1 a3 a4 (.inl z)
        exact wpS_bind (wp_binL (p := p) ask T b1 b2 b3 b4 fun k k1 k2 k3 => wpS_pure (h k k1 k2 k3))
      · rw [if_neg z]
        refine wpS_bind (ask (i := hint - of) (by omega) ?_)
        dsimp only
        cases hm : p (hint - of) with
        | true =>
          rw [if_pos rfl]
          refine wpS_pure ?_
          dsimp only
          obtain ⟨b1, b2, b3, b4⟩ := fin2 la of a1 a3 a4 (.inr hm)
          exact wpS_bind (wp_binL (p := p) ask T b1 b2 b3 b4 fun k k1 k2 k3 => wpS_pure (h k k1 k2 k3))
        | false =>
          rw [if_neg (by decide)]
          exact wpS_pure ⟨rfl, of, 2 * of + 1, rfl, by omega, by omega, by omega, hm⟩
    · rintro c st' ⟨rfl, la, of, rfl, a1, a2, a3, a4⟩
      have e : max 0 n = n := by omega
      rw [e] at a2
      dsimp only
      obtain ⟨b1, b2, b3, b4⟩ := fin2 la of a1 a3 a4 (.inl (by omega))
      exact wpS_bind (wp_binL (p := p) ask T b1 b2 b3 b4 fun k k1 k2 k3 => wpS_pure (h k k1 k2 k3))
end
end L2.Tim

set_option Elab.async false
set_option linter.all false
set_option maxRecDepth 100000
namespace L2.Tim
open PySem PyProof.Rows
/-! ### sorting of any length: rows told by numbers -/
/-- the number at a place -/
def Kr (rk : Keyed → Int) (xs : Array Keyed) (i : Nat) : Int := match xs[i]? with
  | some p => rk p
  | none => 0
section
variable {rk : Keyed → Int}
theorem Kr_congr {xs ys : Array Keyed} {i j : Nat} (h : xs[i]? = ys[j]?) : Kr rk xs i = Kr rk ys j := by unfold Kr; rw [h]
theorem Kr_at {xs : Array Keyed} {i : Nat} {p : Keyed} (h : xs[i]? = some p) : Kr rk xs i = rk p := by unfold Kr; rw [h]
/-- rising from lo to hi -/
def Up (rk : Keyed → Int) (xs : Array Keyed) (lo hi : Nat) : Prop := ∀ i j, lo ≤ i → i ≤ j → j < hi → Kr rk xs i ≤ Kr rk xs j
def Down (rk : Keyed → Int) (xs : Array Keyed) (lo hi : Nat) : Prop := ∀ i j, lo ≤ i → i ≤ j → j < hi → Kr rk xs j ≤ Kr rk xs i
/-- only between lo and hi another one -/
def Off (b xs : Array Keyed) (lo hi : Nat) : Prop := ∀ i, i < lo ∨ hi ≤ i → xs[i]? = b[i]?
theorem Off.refl (b : Array Keyed) (lo hi : Nat) : Off b b lo hi := fun _ _ => rfl
theorem Off.trans {b c d : Array Keyed} {lo hi : Nat} (h : Off b c lo hi) (g : Off c d lo hi) : Off b d lo hi := fun i z => (g i z).trans (h i z)
theorem Off.wide {b c : Array Keyed} {lo hi lo' hi' : Nat} (h : Off b c lo hi) (h1 : lo' ≤ lo) (h2 : hi ≤ hi') : Off b c lo' hi' := fun i z => h i (by omega)
theorem Off.up {b c : Array Keyed} {lo hi u v : Nat} (h : Off b c lo hi) (g : Up rk b u v) (z : v ≤ lo ∨ hi ≤ u) : Up rk c u v := fun i j h1 h2 h3 => by
  rw [Kr_congr (h i (by omega)), Kr_congr (h j (by omega))]
  exact g i j h1 h2 h3
theorem Kr_mirror {xs : Array Keyed} {i j : Nat} (hj : j ≤ xs.size) (k : Nat) : Kr rk (mirror xs i j ((j - i) / 2)) k = if i ≤ k ∧ k < j then Kr rk xs (i + j - 1 - k) else Kr rk xs k := by
  have e := getElem?_mirror_all (i := i) hj k
  by_cases z : i ≤ k ∧ k < j
  · rw [if_pos z] at e ⊢
    exact Kr_congr e
  · rw [if_neg z] at e ⊢
    exact Kr_congr e
theorem off_mirror {xs : Array Keyed} {i j lo hi : Nat} (hj : j ≤ xs.size) (h1 : lo ≤ i) (h2 : j ≤ hi) : Off xs (mirror xs i j ((j - i) / 2)) lo hi := fun k z => by
  rw [getElem?_mirror_all hj, if_neg (by omega)]
theorem Kr_flat {xs : Array Keyed} {i j : Nat} (hj : j ≤ xs.size) (e : ∀ k, i ≤ k → k < j → Kr rk xs k = Kr rk xs (j - 1)) (k : Nat) : Kr rk (mirror xs i j ((j - i) / 2)) k = Kr rk xs k := by
  rw [Kr_mirror hj]
  split
  · rw [e _ (by omega) (by omega), e k (by omega) (by omega)]
  · rfl
theorem Kr_bubble {xs : Array Keyed} {src d : Nat} (hs : src < xs.size) (hd : d ≤ src) (k : Nat) : Kr rk (bubble xs src d) k = if k = src - d then Kr rk xs src else if src - d < k ∧ k ≤ src then Kr rk xs (k - 1) else Kr rk xs k := by
  have e := getElem?_bubble hs d hd k
  by_cases z : k = src - d
  · rw [if_pos z] at e ⊢
    exact Kr_congr e
  · rw [if_neg z] at e ⊢
    by_cases y : src - d < k ∧ k ≤ src
    · rw [if_pos y] at e ⊢
      exact Kr_congr e
    · rw [if_neg y] at e ⊢
      exact Kr_congr e
theorem off_bubble {xs : Array Keyed} {src d lo hi : Nat} (hs : src < xs.size) (hd : d ≤ src) (h1 : lo ≤ src - d) (h2 : src < hi) : Off xs (bubble xs src d) lo hi := fun k z => by
  rw [getElem?_bubble hs d hd, if_neg (by omega), if_neg (by omega)]
end
section
variable {prog : Program} {w : World} {A : Around} {E : Value → Shared → Prop} {s : Shared} {κ : SortKind} {a₀ : Array Keyed} {rk : Keyed → Int}
/-- the comparisons tell the numbers' order -/
structure Ask (prog : Program) (w : World) (A : Around) (E : Value → Shared → Prop) (s : Shared) (κ : SortKind) (a₀ : Array Keyed) (rk : Keyed → Int) : Prop where
  tell : ∀ x y, x ∈ a₀ → y ∈ a₀ → ∀ (st : SortSt) (Q : Option Bool → SortSt → Prop), kindOf st = κ → Q (some (decide (rk x < rk y))) st → wpS (model prog w) A E s (lt' x y) Q st
theorem Ask.ord (Y : Ask prog w A E s κ a₀ rk) : Ord prog w A E s κ a₀ fun x y => decide (rk x < rk y) where
  tell := Y.tell
  trans := fun x y z _ _ _ h1 h2 => by
    have h1 := of_decide_eq_false h1
    have h2 := of_decide_eq_false h2
    exact decide_eq_false (by omega)
  asym := fun x y _ _ h => by
    have h := of_decide_eq_true h
    exact decide_eq_false (by omega)
structure SB (κ : SortKind) (a₀ : Array Keyed) (st : SortSt) : Prop where
  perm : (arrOf st).Perm a₀
  kind : kindOf st = κ
  fine : failedOf st = none
theorem SB.size {st : SortSt} (h : SB κ a₀ st) : (arrOf st).size = a₀.size := h.perm.size_eq
theorem SB.put {st : SortSt} (h : SB κ a₀ st) {xs : Array Keyed} (p : xs.Perm (arrOf st)) : SB κ a₀ (setArr st xs) := ⟨p.trans h.perm, h.kind, h.fine⟩
theorem SB.at {st : SortSt} (h : SB κ a₀ st) {i : Nat} (hi : i < a₀.size) : ∃ p, (arrOf st)[i]? = some p ∧ p ∈ a₀ := by
  have hi' : i < (arrOf st).size := by rw [h.size]; exact hi
  exact ⟨(arrOf st)[i], getElem?_pos _ i hi', h.perm.mem_iff.mp (Array.getElem_mem hi')⟩
theorem wp_ltAt (Y : Ask prog w A E s κ a₀ rk) {st : SortSt} {i j : Nat} {Q : Option Bool → SortSt → Prop} (hB : SB κ a₀ st) (hi : i < a₀.size) (hj : j < a₀.size)
    (h : Q (some (decide (Kr rk (arrOf st) i < Kr rk (arrOf st) j))) st) : wpS (model prog w) A E s (ltAt' i j) Q st := by
  obtain ⟨p, e1, m1⟩ := hB.at hi
  obtain ⟨q, e2, m2⟩ := hB.at hj
  rw [ltAt'_eq]
  refine wpS_bind (wpS_get ?_)
  dsimp only
  rw [elem'_eq, elem'_eq, e1, e2]
  refine wpS_bind (wpS_pure (wpS_bind (wpS_pure ?_)))
  refine Y.tell p q m1 m2 st Q hB.kind ?_
  rw [Kr_at e1, Kr_at e2] at h
  exact h
theorem wp_rev {st : SortSt} {i j : Nat} {Q : Unit → SortSt → Prop} (h : Q () (setArr st (mirror (arrOf st) i j ((j - i) / 2)))) : wpS (model prog w) A E s (reverseSlice' i j) Q st := by
  rw [reverseSlice'_eq]
  exact wpS_modify h
/-- as far as it rises -/
def ascL (lo a nrem : Nat) : StateT SortSt Sem (Option (Option Nat) × Nat) :=
  forIn [a:nrem] ((none : Option (Option Nat)), a) fun _ c => do
    let r ← ltAt' (lo + c.2) (lo + c.2 - 1)
    match r with
    | some sm => if sm = true then pure (.done (none, c.2)) else pure (.yield (none, c.2 + 1))
    | _ => pure (.done (some none, c.2))
theorem wp_ascL (Y : Ask prog w A E s κ a₀ rk) {st : SortSt} {lo a nrem : Nat} {Q : Option (Option Nat) × Nat → SortSt → Prop} (hn : lo + nrem ≤ a₀.size) (ha : 1 ≤ a) (han : a ≤ nrem) (hB : SB κ a₀ st) (hs : Up rk (arrOf st) lo (lo + a))
    (h : ∀ n, a ≤ n → n ≤ nrem → Up rk (arrOf st) lo (lo + n) → (n = nrem ∨ Kr rk (arrOf st) (lo + n) < Kr rk (arrOf st) (lo + n - 1)) → Q (none, n) st) : wpS (model prog w) A E s (ascL lo a nrem) Q st := by
  unfold ascL
  refine wpS_forRange (fun x c st' => st' = st ∧ c = (none, x) ∧ Up rk (arrOf st) lo (lo + x)) ?_ ?_ ⟨rfl, rfl, hs⟩
  · rintro x c st' h1 h2 ⟨rfl, rfl, hu⟩
    dsimp only
    refine wpS_bind (wp_ltAt Y hB (by omega) (by omega) ?_)
    dsimp only
    by_cases z : Kr rk (arrOf st') (lo + x) < Kr rk (arrOf st') (lo + x - 1)
    · rw [decide_eq_true z, if_pos rfl]
      exact wpS_pure (h x h1 (by omega) hu (.inr z))
    · rw [decide_eq_false z, if_neg Bool.false_ne_true]
      refine wpS_pure ⟨rfl, rfl, fun i j b1 b2 b3 => ?_⟩
      by_cases y : j < lo + x
      · exact hu i j b1 b2 y
      · have e : j = lo + x := by omega
        subst e
        by_cases y' : i = lo + x
        · subst y'; exact Int.le_refl _
        · have := hu i (lo + x - 1) b1 (by omega) (by omega)
          omega
  · rintro c st' ⟨rfl, rfl, hu⟩
    rw [show max a nrem = nrem by omega] at hu ⊢
    exact h nrem han (Nat.le_refl _) hu (.inl rfl)
/-- what is turned round when it falls -/
def descP (lo n nrem : Nat) : StateT SortSt Sem (Option Nat) := do
  let _u ← (liftM (rule "list.sort.descending-run") : StateT SortSt Sem Unit); let mut m := n + 1; let mut q := 0
  for _ in [m:nrem] do
    let some sm ← ltAt' (lo + m) (lo + m - 1) | return none
    if sm then
      if q > 0 then reverseSlice' (lo + m - (q + 1)) (lo + m)
      q := 0
    else
      let some la ← ltAt' (lo + m - 1) (lo + m) | return none
      if la then break
      q := q + 1
    m := m + 1
  if q > 0 then reverseSlice' (lo + m - (q + 1)) (lo + m)
  reverseSlice' lo (lo + m)
  for _ in [m:nrem] do
    let some sm ← ltAt' (lo + m) (lo + m - 1) | return none
    if sm then break
    m := m + 1
  return some m
/-- the end of it -/
def tailP (lo m nrem : Nat) : StateT SortSt Sem (Option Nat) := do
  let mut m := m
  reverseSlice' lo (lo + m)
  for _ in [m:nrem] do
    let some sm ← ltAt' (lo + m) (lo + m - 1) | return none
    if sm then break
    m := m + 1
  return some m
theorem wp_tailP (Y : Ask prog w A E s κ a₀ rk) {st : SortSt} {b : Array Keyed} {lo m nrem : Nat} {Q : Option Nat → SortSt → Prop} (hn : lo + nrem ≤ a₀.size) (h1 : 1 ≤ m) (hm : m ≤ nrem) (hB : SB κ a₀ st) (hO : Off b (arrOf st) lo (lo + nrem)) (hd : Down rk (arrOf st) lo (lo + m))
    (h : ∀ k st', SB κ a₀ st' → pendingOf st' = pendingOf st → 1 ≤ k → k ≤ nrem → Off b (arrOf st') lo (lo + nrem) → Up rk (arrOf st') lo (lo + k) → Q (some k) st') : wpS (model prog w) A E s (tailP lo m nrem) Q st := by
  unfold tailP
  refine wpS_bind (wp_rev ?_)
  have hz : lo + m ≤ (arrOf st).size := by rw [hB.size]; omega
  have hB' : SB κ a₀ (setArr st (mirror (arrOf st) lo (lo + m) ((lo + m - lo) / 2))) := hB.put (mirror_perm _ _ _ _)
  refine wpS_bind (wp_ascL Y hn h1 hm hB' (fun i j c1 c2 c3 => ?_) fun n b1 b2 b3 b4 => ?_)
  · show Kr rk (mirror (arrOf st) lo (lo + m) ((lo + m - lo) / 2)) i ≤ Kr rk (mirror (arrOf st) lo (lo + m) ((lo + m - lo) / 2)) j
    rw [Kr_mirror hz, Kr_mirror hz, if_pos (by omega), if_pos (by omega)]
    exact hd _ _ (by omega) (by omega) (by omega)
  · exact wpS_pure (h n _ hB' rfl (by omega) b2 (hO.trans (off_mirror hz (Nat.le_refl _) (by omega))) b3)
set_option maxHeartbeats 2000000 in
theorem wp_descP (Y : Ask prog w A E s κ a₀ rk) {st : SortSt} {b : Array Keyed} {lo n nrem : Nat} {Q : Option Nat → SortSt → Prop} (hn : lo + nrem ≤ a₀.size) (hm : n + 1 ≤ nrem) (hB : SB κ a₀ st) (hO : Off b (arrOf st) lo (lo + nrem)) (hd : Down rk (arrOf st) lo (lo + (n + 1)))
    (h : ∀ k st', SB κ a₀ st' → pendingOf st' = pendingOf st → 1 ≤ k → k ≤ nrem → Off b (arrOf st') lo (lo + nrem) → Up rk (arrOf st') lo (lo + k) → Q (some k) st') : wpS (model prog w) A E s (descP lo n nrem) Q st := by
  unfold descP
  refine wpS_bind (wpS_lift (wpAny_rule ⟨rfl, ?_⟩))
  dsimp only
  -- the end, where the last equal ones are turned first
  have fin : ∀ (m q : Nat) (st' : SortSt), SB κ a₀ st' → pendingOf st' = pendingOf st → n + 1 ≤ m → m ≤ nrem → q + 1 ≤ m → Off b (arrOf st') lo (lo + nrem) → Down rk (arrOf st') lo (lo + m) → (∀ i, lo + m - (q + 1) ≤ i → i < lo + m → Kr rk (arrOf st') i = Kr rk (arrOf st') (lo + m - 1)) →
      wpS (model prog w) A E s (if q > 0 then (do reverseSlice' (lo + m - (q + 1)) (lo + m); tailP lo m nrem) else tailP lo m nrem) Q st' := by
    intro m q st' hB' hp a1 a2 a3 a4 a5 a6
    have hz : lo + m ≤ (arrOf st').size := by rw [hB'.size]; omega
    have h' : ∀ k st'', SB κ a₀ st'' → pendingOf st'' = pendingOf st' → 1 ≤ k → k ≤ nrem → Off b (arrOf st'') lo (lo + nrem) → Up rk (arrOf st'') lo (lo + k) → Q (some k) st'' := fun k st'' c1 c2 => h k st'' c1 (c2.trans hp)
    split
    · refine wpS_bind (wp_rev ?_)
      refine wp_tailP Y hn (by omega) a2 (hB'.put (mirror_perm _ _ _ _)) (a4.trans (off_mirror hz (by omega) (by omega))) (fun i j c1 c2 c3 => ?_) h'
      show Kr rk (mirror (arrOf st') _ _ _) j ≤ Kr rk (mirror (arrOf st') _ _ _) i
      rw [Kr_flat hz a6, Kr_flat hz a6]
      exact a5 i j c1 c2 c3
    · exact wp_tailP Y hn (by omega) a2 hB' a4 a5 h'
  refine wpS_bind (wpS_forRange (fun x c st' => ∃ q, c = (none, x, q) ∧ SB κ a₀ st' ∧ pendingOf st' = pendingOf st ∧ q + 1 ≤ x ∧ Off b (arrOf st') lo (lo + nrem) ∧ Down rk (arrOf st') lo (lo + x) ∧ ∀ i, lo + x - (q + 1) ≤ i → i < lo + x → Kr rk (arrOf st') i = Kr rk (arrOf st') (lo + x - 1)) ?_ ?_
    ⟨0, rfl, hB, rfl, by omega, hO, hd, fun i c1 c2 => by rw [show i = lo + (n + 1) - 1 by omega]⟩)
  · rintro x c st' h1 h2 ⟨q, rfl, hB', hp, a3, a4, a5, a6⟩
    dsimp only
    have hz : lo + x ≤ (arrOf st').size := by rw [hB'.size]; omega
    refine wpS_bind (wp_ltAt Y hB' (by omega) (by omega) ?_)
    dsimp only
    by_cases z : Kr rk (arrOf st') (lo + x) < Kr rk (arrOf st') (lo + x - 1)
    · rw [decide_eq_true z]
      simp only [if_true]
      have one : ∀ xs : Array Keyed, (∀ k, Kr rk xs k = Kr rk (arrOf st') k) → Down rk xs lo (lo + (x + 1)) := fun xs e i j c1 c2 c3 => by
        rw [e, e]
        by_cases y : j < lo + x
        · exact a5 i j c1 c2 y
        · have e : j = lo + x := by omega
          subst e
          by_cases y' : i = lo + x
          · subst y'; exact Int.le_refl _
          · have := a5 i (lo + x - 1) c1 (by omega) (by omega)
            omega
      split
      · refine wpS_bind (wp_rev (wpS_pure ⟨0, rfl, hB'.put (mirror_perm _ _ _ _), hp, by omega, a4.trans (off_mirror hz (by omega) (by omega)), one _ (Kr_flat hz a6), fun i c1 c2 => ?_⟩))
        rw [show i = lo + (x + 1) - 1 by omega]
      · refine wpS_pure ⟨0, rfl, hB', hp, by omega, a4, one _ (fun _ => rfl), fun i c1 c2 => ?_⟩
        rw [show i = lo + (x + 1) - 1 by omega]
    · rw [decide_eq_false z]
      simp only [Bool.false_eq_true, if_false]
      refine wpS_bind (wp_ltAt Y hB' (by omega) (by omega) ?_)
      dsimp only
      by_cases y : Kr rk (arrOf st') (lo + x - 1) < Kr rk (arrOf st') (lo + x)
      · rw [decide_eq_true y]
        simp only [if_true]
        exact wpS_pure (fin x q st' hB' hp (by omega) (by omega) a3 a4 a5 a6)
      · rw [decide_eq_false y]
        simp only [Bool.false_eq_true, if_false]
        have e : Kr rk (arrOf st') (lo + x) = Kr rk (arrOf st') (lo + x - 1) := by omega
        refine wpS_pure ⟨q + 1, rfl, hB', hp, by omega, a4, fun i j c1 c2 c3 => ?_, fun i c1 c2 => ?_⟩
        · by_cases y : j < lo + x
          · exact a5 i j c1 c2 y
          · have e' : j = lo + x := by omega
            subst e'
            by_cases y' : i = lo + x
            · subst y'; exact Int.le_refl _
            · have := a5 i (lo + x - 1) c1 (by omega) (by omega)
              omega
        · rw [show lo + (x + 1) - 1 = lo + x by omega]
          by_cases y' : i = lo + x
          · rw [y']
          · rw [e]; exact a6 i (by omega) (by omega)
  · rintro c st' ⟨q, rfl, hB', hp, a3, a4, a5, a6⟩
    rw [show max (n + 1) nrem = nrem by omega] at a3 a5 a6 ⊢
    exact fin nrem q st' hB' hp (by omega) (Nat.le_refl _) a3 a4 a5 a6
set_option maxHeartbeats 2000000 in
theorem wp_countRun (Y : Ask prog w A E s κ a₀ rk) {st : SortSt} {lo nrem : Nat} {Q : Option Nat → SortSt → Prop} (hn : lo + nrem ≤ a₀.size) (h1 : 1 ≤ nrem) (hB : SB κ a₀ st)
    (h : ∀ k st', SB κ a₀ st' → pendingOf st' = pendingOf st → 1 ≤ k → k ≤ nrem → Off (arrOf st) (arrOf st') lo (lo + nrem) → Up rk (arrOf st') lo (lo + k) → Q (some k) st') : wpS (model prog w) A E s (countRun' lo nrem) Q st := by
  rw [countRun'_eq]
  refine wpS_bind (wp_ascL Y hn (Nat.le_refl 1) h1 hB (fun i j c1 c2 c3 => by rw [show i = j by omega]; exact Int.le_refl _) fun n b1 b2 b3 b4 => ?_)
  dsimp only
  by_cases z : n = nrem
  · rw [if_pos (by simpa using z)]
    exact wpS_pure (h n st hB rfl b1 b2 (Off.refl _ _ _) b3)
  · rw [if_neg (by simpa using z)]
    have b5 := b4.resolve_left z
    by_cases y : n > 1
    · rw [if_pos y]
      refine wpS_bind (wp_ltAt Y hB (by omega) (by omega) ?_)
      dsimp only
      by_cases x : Kr rk (arrOf st) lo < Kr rk (arrOf st) (lo + n - 1)
      · rw [decide_eq_true x]
        simp only [if_true]
        exact wpS_pure (h n st hB rfl b1 b2 (Off.refl _ _ _) b3)
      · rw [decide_eq_false x]
        simp only [Bool.false_eq_true, if_false]
        have hz : lo + n ≤ (arrOf st).size := by rw [hB.size]; omega
        have all : ∀ k, lo ≤ k → k < lo + n → Kr rk (arrOf st) k = Kr rk (arrOf st) (lo + n - 1) := fun k c1 c2 => by
          have d1 := b3 lo k (Nat.le_refl _) c1 c2
          have d2 := b3 k (lo + n - 1) c1 (by omega) (by omega)
          omega
        refine wpS_bind (wp_rev (wp_descP (n := n) Y hn (by omega) (hB.put (mirror_perm _ _ _ _)) (off_mirror hz (Nat.le_refl _) (by omega)) (fun i j c1 c2 c3 => ?_) h))
        show Kr rk (mirror (arrOf st) _ _ _) j ≤ Kr rk (mirror (arrOf st) _ _ _) i
        rw [Kr_flat hz all, Kr_flat hz all]
        by_cases v : j < lo + n
        · rw [all i c1 (by omega), all j (by omega) v]; exact Int.le_refl _
        · have e : j = lo + n := by omega
          subst e
          by_cases v' : i = lo + n
          · subst v'; exact Int.le_refl _
          · rw [all i c1 (by omega)]
            omega
    · rw [if_neg y]
      have e : n = 1 := by omega
      subst e
      refine wp_descP (n := 1) Y hn (by omega) hB (Off.refl _ _ _) (fun i j c1 c2 c3 => ?_) h
      by_cases v : i = j
      · subst v; exact Int.le_refl _
      · have e1 : i = lo := by omega
        have e2 : j = lo + 1 := by omega
        subst e1
        subst e2
        rw [show i + 1 - 1 = i by omega] at b5
        omega
set_option maxHeartbeats 2000000 in
theorem wp_binarySort (Y : Ask prog w A E s κ a₀ rk) {st : SortSt} {lo n ok : Nat} {Q : Bool → SortSt → Prop} (hn : lo + n ≤ a₀.size) (hok : ok ≤ n) (hB : SB κ a₀ st) (hs : Up rk (arrOf st) lo (lo + ok))
    (h : ∀ st', SB κ a₀ st' → pendingOf st' = pendingOf st → Off (arrOf st) (arrOf st') lo (lo + n) → Up rk (arrOf st') lo (lo + n) → Q true st') : wpS (model prog w) A E s (binarySort' lo n ok) Q st := by
  rw [binarySort'_eq]
  refine wpS_bind (wpS_forRange (fun k c st' => c = (none, ()) ∧ SB κ a₀ st' ∧ pendingOf st' = pendingOf st ∧ Off (arrOf st) (arrOf st') lo (lo + n) ∧ Up rk (arrOf st') lo (lo + min k n)) ?_ ?_ ⟨rfl, hB, rfl, Off.refl _ _ _, fun i j c1 c2 c3 => ?_⟩)
  · rintro k c st' d1 d2 ⟨rfl, hB', hp, a4, a5⟩
    rw [show min k n = k by omega] at a5
    dsimp only
    have hk : lo + k < a₀.size := by omega
    refine wpS_bind (wpS_mono (wpS_forRange (fun x c st'' => st'' = st' ∧ ∃ l r, c = ((none : Option Bool), l, r) ∧ l ≤ r ∧ r ≤ k ∧ r - l ≤ k - x ∧ (∀ i, i < l → Kr rk (arrOf st') (lo + i) ≤ Kr rk (arrOf st') (lo + k)) ∧ ∀ i, r ≤ i → i < k → Kr rk (arrOf st') (lo + k) < Kr rk (arrOf st') (lo + i))
      (Q := fun c st'' => st'' = st' ∧ ∃ l r, c = ((none : Option Bool), l, r) ∧ l ≤ k ∧ (∀ i, i < l → Kr rk (arrOf st') (lo + i) ≤ Kr rk (arrOf st') (lo + k)) ∧ ∀ i, l ≤ i → i < k → Kr rk (arrOf st') (lo + k) < Kr rk (arrOf st') (lo + i)) ?_ ?_ ⟨rfl, 0, k, rfl, by omega, by omega, by omega, fun i hi => by omega, fun i c1 c2 => by omega⟩) ?_)
    · rintro x c st'' _ hx ⟨rfl, l, r, rfl, e1, e2, e3, e4, e5⟩
      dsimp only
      by_cases z : l ≥ r
      · rw [if_pos z]
        have e : l = r := by omega
        subst e
        exact wpS_pure ⟨rfl, l, l, rfl, e2, e4, e5⟩
      · rw [if_neg z]
        refine wpS_bind (wp_ltAt Y hB' hk (by omega) ?_)
        dsimp only
        by_cases y : Kr rk (arrOf st'') (lo + k) < Kr rk (arrOf st'') (lo + (l + r) / 2)
        · rw [decide_eq_true y, if_pos rfl]
          refine wpS_pure ⟨rfl, l, (l + r) / 2, rfl, by omega, by omega, by omega, e4, fun i c1 c2 => ?_⟩
          have := a5 (lo + (l + r) / 2) (lo + i) (by omega) (by omega) (by omega)
          omega
        · rw [decide_eq_false y, if_neg Bool.false_ne_true]
          refine wpS_pure ⟨rfl, (l + r) / 2 + 1, r, rfl, by omega, by omega, by omega, fun i c1 => ?_, e5⟩
          have := a5 (lo + i) (lo + (l + r) / 2) (by omega) (by omega) (by omega)
          omega
    · rintro c st'' ⟨rfl, l, r, rfl, e1, e2, e3, e4, e5⟩
      have e : l = r := by omega
      subst e
      exact ⟨rfl, l, l, rfl, e2, e4, e5⟩
    · rintro c st'' ⟨rfl, l, r, rfl, e2, e4, e5⟩
      dsimp only
      rw [moveDown'_eq]
      have hz : lo + k < (arrOf st'').size := by rw [hB'.size]; exact hk
      refine wpS_bind (wpS_modify (wpS_pure ⟨rfl, hB'.put (bubble_perm _ _ _), hp, a4.trans (off_bubble hz (by omega) (by omega) (by omega)), ?_⟩))
      rw [show min (k + 1) n = k + 1 by omega]
      intro i j c1 c2 c3
      show Kr rk (bubble (arrOf st'') (lo + k) (lo + k - (lo + l))) i ≤ Kr rk (bubble (arrOf st'') (lo + k) (lo + k - (lo + l))) j
      rw [Kr_bubble hz (by omega), Kr_bubble hz (by omega), show lo + k - (lo + k - (lo + l)) = lo + l by omega]
      have lo1 : ∀ u, lo ≤ u → u < lo + l → Kr rk (arrOf st'') u ≤ Kr rk (arrOf st'') (lo + k) := fun u f1 f2 => by
        have := e4 (u - lo) (by omega)
        rwa [show lo + (u - lo) = u by omega] at this
      have hi1 : ∀ u, lo + l ≤ u → u < lo + k → Kr rk (arrOf st'') (lo + k) < Kr rk (arrOf st'') u := fun u f1 f2 => by
        have := e5 (u - lo) (by omega) (by omega)
        rwa [show lo + (u - lo) = u by omega] at this
      repeat' split
      all_goals first
        | (exfalso; omega)
        | exact Int.le_refl _
        | exact lo1 _ (by omega) (by omega)
        | exact Int.le_of_lt (hi1 _ (by omega) (by omega))
        | exact a5 _ _ (by omega) (by omega) (by omega)
  · rintro c st' ⟨rfl, hB', hp, a4, a5⟩
    rw [show min (max (max ok 1) n) n = n by omega] at a5
    exact wpS_pure (h st' hB' hp a4 a5)
  · by_cases z : ok = 0
    · rw [show i = j by omega]
      exact Int.le_refl _
    · exact hs i j c1 c2 (by omega)
end
end L2.Tim

set_option Elab.async false
set_option linter.all false
set_option maxRecDepth 100000
namespace L2.Tim
open PySem PyProof.Rows
def mergeLo' : Array Keyed → Array Keyed → StateT SortSt Sem (Array Keyed) := sortPriv% PySem.Builtin.mergeLo
def mergeHi' : Array Keyed → Array Keyed → StateT SortSt Sem (Array Keyed) := sortPriv% PySem.Builtin.mergeHi
abbrev setMin (st : SortSt) (g : Nat) : SortSt := SortSt.mk' (kindOf st) (arrOf st) (pendingOf st) g (failedOf st)
def dnLo (a b out : Array Keyed) (i j : Nat) : Array Keyed := out ++ a.extract i a.size ++ b.extract j b.size
def laLo (a b out : Array Keyed) (i j : Nat) : Array Keyed := out ++ b.extract j b.size ++ a.extract i a.size
theorem mergeLo_eq (a b : Array Keyed) : mergeLo' a b = (do
    let _u ← (liftM (rule "list.sort.merge-lo") : StateT SortSt Sem Unit)
    let tot := a.size + b.size
    let mut out : Array Keyed := #[← elem' b 0]; let mut i := 0; let mut j := 1
    if j == b.size then return dnLo a b out i j
    if i + 1 == a.size then return laLo a b out i j
    let mut mg := gallopOf (← get)
    for _ in [0:tot] do
      let mut ac := 0; let mut bc := 0
      for _ in [0:tot] do
        let some bw ← lt' (← elem' b j) (← elem' a i) | return dnLo a b out i j
        if bw then
          out := out.push (← elem' b j); j := j + 1; bc := bc + 1; ac := 0
          if j == b.size then return dnLo a b out i j
          if bc ≥ mg then break
        else
          out := out.push (← elem' a i); i := i + 1; ac := ac + 1; bc := 0
          if i + 1 == a.size then return laLo a b out i j
          if ac ≥ mg then break
      let _v ← (liftM (rule "list.sort.gallop") : StateT SortSt Sem Unit)
      mg := mg + 1
      for _ in [0:tot] do
        if mg > 1 then mg := mg - 1
        modify fun s => setMin s mg
        let some k ← gallop' false (← elem' b j) a i (a.size - i) 0 | return dnLo a b out i j
        ac := k
        if k > 0 then
          out := out ++ a.extract i (i + k); i := i + k
          if i + 1 == a.size then return laLo a b out i j
          if i == a.size then return dnLo a b out i j
        out := out.push (← elem' b j); j := j + 1
        if j == b.size then return dnLo a b out i j
        let some k ← gallop' true (← elem' a i) b j (b.size - j) 0 | return dnLo a b out i j
        bc := k
        if k > 0 then
          out := out ++ b.extract j (j + k); j := j + k
          if j == b.size then return dnLo a b out i j
        out := out.push (← elem' a i); i := i + 1
        if i + 1 == a.size then return laLo a b out i j
        if ac < 7 && bc < 7 then break
      mg := mg + 1
      modify fun s => setMin s mg
    unsupported "internal:list.sort.merge-bound") := rfl
def dnHi (a b out : Array Keyed) (i j : Nat) : Array Keyed := a.extract 0 i ++ b.extract 0 j ++ out.reverse
def fiHi (a b out : Array Keyed) (i j : Nat) : Array Keyed := b.extract 0 j ++ a.extract 0 i ++ out.reverse
theorem mergeHi_eq (a b : Array Keyed) : mergeHi' a b = (do
    let _u ← (liftM (rule "list.sort.merge-hi") : StateT SortSt Sem Unit)
    let tot := a.size + b.size
    let mut i := a.size - 1; let mut j := b.size; let mut out : Array Keyed := #[← elem' a i]
    if i == 0 then return dnHi a b out i j
    if j == 1 then return fiHi a b out i j
    let mut mg := gallopOf (← get)
    for _ in [0:tot] do
      let mut ac := 0; let mut bc := 0
      for _ in [0:tot] do
        let some aw ← lt' (← elem' b (j - 1)) (← elem' a (i - 1)) | return dnHi a b out i j
        if aw then
          i := i - 1; out := out.push (← elem' a i); ac := ac + 1; bc := 0
          if i == 0 then return dnHi a b out i j
          if ac ≥ mg then break
        else
          j := j - 1; out := out.push (← elem' b j); bc := bc + 1; ac := 0
          if j == 1 then return fiHi a b out i j
          if bc ≥ mg then break
      let _v ← (liftM (rule "list.sort.gallop") : StateT SortSt Sem Unit)
      mg := mg + 1
      for _ in [0:tot] do
        if mg > 1 then mg := mg - 1
        modify fun s => setMin s mg
        let some k' ← gallop' false (← elem' b (j - 1)) a 0 i (i - 1) | return dnHi a b out i j
        let k := i - k'
        ac := k
        if k > 0 then
          out := out ++ (a.extract k' i).reverse; i := k'
          if i == 0 then return dnHi a b out i j
        j := j - 1; out := out.push (← elem' b j)
        if j == 1 then return fiHi a b out i j
        let some k' ← gallop' true (← elem' a (i - 1)) b 0 j (j - 1) | return dnHi a b out i j
        let k := j - k'
        bc := k
        if k > 0 then
          out := out ++ (b.extract k' j).reverse; j := k'
          if j == 1 then return fiHi a b out i j
          if j == 0 then return dnHi a b out i j
        i := i - 1; out := out.push (← elem' a i)
        if i == 0 then return dnHi a b out i j
        if ac < 7 && bc < 7 then break
      mg := mg + 1
      modify fun s => setMin s mg
    unsupported "internal:list.sort.merge-bound") := rfl
end L2.Tim

set_option Elab.async false
set_option linter.all false
set_option maxRecDepth 100000
namespace L2.Tim
open PySem PyProof.Rows
section
variable {rk : Keyed → Int} {a b out : Array Keyed} {i j : Nat}
/-- what has been taken of both, the lesser ones first -/
structure ML (rk : Keyed → Int) (a b out : Array Keyed) (i j : Nat) : Prop where
  perm : out.toList.Perm (a.toList.take i ++ b.toList.take j)
  up : out.toList.Pairwise fun x y => rk x ≤ rk y
  la : ∀ x ∈ out.toList, ∀ u, i ≤ u → u < a.size → rk x ≤ Kr rk a u
  lb : ∀ x ∈ out.toList, ∀ u, j ≤ u → u < b.size → rk x ≤ Kr rk b u
theorem take_one {xs : Array Keyed} {i : Nat} {p : Keyed} (e : xs[i]? = some p) : xs.toList.take (i + 1) = xs.toList.take i ++ [p] := by
  rw [List.take_add_one, Array.getElem?_toList, e]
  rfl
theorem ML.pushA {p : Keyed} (h : ML rk a b out i j) (e : a[i]? = some p) (ua : Up rk a 0 a.size) (hb : ∀ u, j ≤ u → u < b.size → Kr rk a i ≤ Kr rk b u) : ML rk a b (out.push p) (i + 1) j := by
  have hi : i < a.size := (Array.getElem?_eq_some_iff.mp e).1
  refine ⟨?_, ?_, fun x hx u h1 h2 => ?_, fun x hx u h1 h2 => ?_⟩
  · rw [Array.toList_push, take_one e, List.append_assoc]
    refine (h.perm.append_right [p]).trans ?_
    rw [List.append_assoc]
    exact (List.perm_append_comm (l₁ := b.toList.take j) (l₂ := [p])).append_left _
  · rw [Array.toList_push, List.pairwise_append]
    refine ⟨h.up, List.pairwise_singleton _ _, fun x hx y hy => ?_⟩
    rw [List.mem_singleton.mp hy, ← Kr_at (rk := rk) e]
    exact h.la x hx i (Nat.le_refl _) hi
  · rw [Array.toList_push] at hx
    rcases List.mem_append.mp hx with z | z
    · exact h.la x z u (by omega) h2
    · rw [List.mem_singleton.mp z, ← Kr_at (rk := rk) e]
      exact ua i u (Nat.zero_le _) (by omega) h2
  · rw [Array.toList_push] at hx
    rcases List.mem_append.mp hx with z | z
    · exact h.lb x z u h1 h2
    · rw [List.mem_singleton.mp z, ← Kr_at (rk := rk) e]
      exact hb u h1 h2
theorem ML.swap (h : ML rk a b out i j) : ML rk b a out j i := ⟨h.perm.trans List.perm_append_comm, h.up, h.lb, h.la⟩
theorem ML.pushB {p : Keyed} (h : ML rk a b out i j) (e : b[j]? = some p) (ub : Up rk b 0 b.size) (ha : ∀ u, i ≤ u → u < a.size → Kr rk b j ≤ Kr rk a u) : ML rk a b (out.push p) i (j + 1) := (h.swap.pushA e ub ha).swap
theorem ext_succ {xs : Array Keyed} {i k : Nat} {p : Keyed} (e : xs[i + k]? = some p) : xs.extract i (i + (k + 1)) = (xs.extract i (i + k)).push p := by
  obtain ⟨h1, h2⟩ := Array.getElem?_eq_some_iff.mp e
  have := Array.push_extract_getElem (as := xs) (i := i) (j := i + k) h1
  rw [h2, show min i (i + k) = i by omega] at this
  rw [this]
  congr 1
theorem ML.blockA (h : ML rk a b out i j) (ua : Up rk a 0 a.size) : ∀ k, i + k ≤ a.size → (∀ v, i ≤ v → v < i + k → ∀ u, j ≤ u → u < b.size → Kr rk a v ≤ Kr rk b u) → ML rk a b (out ++ a.extract i (i + k)) (i + k) j
  | 0, _, _ => by
    have e : a.extract i (i + 0) = #[] := by simp; omega
    rw [e, Array.append_empty]
    exact h
  | k + 1, h1, h2 => by
    have h3 := ML.blockA h ua k (by omega) fun v c1 c2 => h2 v c1 (by omega)
    have e : a[i + k]? = some (a[i + k]'(by omega)) := getElem?_pos _ _ _
    have h4 := h3.pushA e ua fun u c1 c2 => h2 (i + k) (by omega) (by omega) u c1 c2
    rw [ext_succ e, Array.append_push]
    exact h4
theorem ML.blockB (h : ML rk a b out i j) (ub : Up rk b 0 b.size) (k : Nat) (h1 : j + k ≤ b.size) (h2 : ∀ v, j ≤ v → v < j + k → ∀ u, i ≤ u → u < a.size → Kr rk b v ≤ Kr rk a u) : ML rk a b (out ++ b.extract j (j + k)) i (j + k) := (h.swap.blockA ub k h1 h2).swap
theorem ML.whole (h : ML rk a b out a.size b.size) : out.toList.Perm (a.toList ++ b.toList) ∧ out.toList.Pairwise fun x y => rk x ≤ rk y := by
  have := h.perm
  rw [← Array.length_toList (xs := a), ← Array.length_toList (xs := b), List.take_length, List.take_length] at this
  exact ⟨this, h.up⟩
theorem ML.dn (h : ML rk a b out i j) (ua : Up rk a 0 a.size) (ub : Up rk b 0 b.size) (hi : i ≤ a.size) (hj : j ≤ b.size) (z : j = b.size ∨ i = a.size) : ML rk a b (dnLo a b out i j) a.size b.size := by
  unfold dnLo
  have h1 := h.blockA ua (a.size - i) (by omega) fun v c1 c2 u c3 c4 => by omega
  rw [show i + (a.size - i) = a.size by omega] at h1
  have h2 := h1.blockB ub (b.size - j) (by omega) fun v c1 c2 u c3 c4 => by omega
  rw [show j + (b.size - j) = b.size by omega] at h2
  exact h2
theorem ML.last (h : ML rk a b out i j) (ua : Up rk a 0 a.size) (ub : Up rk b 0 b.size) (hi : i + 1 = a.size) (hj : j ≤ b.size) (hl : ∀ u, u < b.size → Kr rk b u ≤ Kr rk a i) : ML rk a b (laLo a b out i j) a.size b.size := by
  unfold laLo
  have h1 := h.blockB ub (b.size - j) (by omega) fun v c1 c2 u c3 c4 => by rw [show u = i by omega]; exact hl v (by omega)
  rw [show j + (b.size - j) = b.size by omega] at h1
  have h2 := h1.blockA ua (a.size - i) (by omega) fun v c1 c2 u c3 c4 => by omega
  rw [show i + (a.size - i) = a.size by omega] at h2
  exact h2
/-- what has been taken of both, the greater ones first -/
structure MH (rk : Keyed → Int) (a b out : Array Keyed) (i j : Nat) : Prop where
  perm : out.toList.reverse.Perm (a.toList.drop i ++ b.toList.drop j)
  up : out.toList.reverse.Pairwise fun x y => rk x ≤ rk y
  la : ∀ x ∈ out.toList, ∀ u, u < i → Kr rk a u ≤ rk x
  lb : ∀ x ∈ out.toList, ∀ u, u < j → Kr rk b u ≤ rk x
theorem drop_one {xs : Array Keyed} {i : Nat} {p : Keyed} (e : xs[i]? = some p) : xs.toList.drop i = p :: xs.toList.drop (i + 1) := by
  obtain ⟨h1, h2⟩ := Array.getElem?_eq_some_iff.mp e
  rw [← h2, ← Array.getElem_toList h1]
  exact List.drop_eq_getElem_cons (by simpa using h1)
theorem MH.pushA {p : Keyed} (h : MH rk a b out (i + 1) j) (e : a[i]? = some p) (ua : Up rk a 0 a.size) (hb : ∀ u, u < j → Kr rk b u ≤ Kr rk a i) : MH rk a b (out.push p) i j := by
  have hi : i < a.size := (Array.getElem?_eq_some_iff.mp e).1
  refine ⟨?_, ?_, fun x hx u h1 => ?_, fun x hx u h1 => ?_⟩
  · rw [Array.toList_push, List.reverse_append, drop_one e]
    exact h.perm.cons p
  · rw [Array.toList_push, List.reverse_append]
    refine List.pairwise_cons.mpr ⟨fun y hy => ?_, h.up⟩
    rw [← Kr_at (rk := rk) e]
    exact h.la y (List.mem_reverse.mp hy) i (by omega)
  · rw [Array.toList_push] at hx
    rcases List.mem_append.mp hx with z | z
    · exact h.la x z u (by omega)
    · rw [List.mem_singleton.mp z, ← Kr_at (rk := rk) e]
      exact ua u i (Nat.zero_le _) (by omega) hi
  · rw [Array.toList_push] at hx
    rcases List.mem_append.mp hx with z | z
    · exact h.lb x z u h1
    · rw [List.mem_singleton.mp z, ← Kr_at (rk := rk) e]
      exact hb u h1
theorem MH.swap (h : MH rk a b out i j) : MH rk b a out j i := ⟨h.perm.trans List.perm_append_comm, h.up, h.lb, h.la⟩
theorem MH.pushB {p : Keyed} (h : MH rk a b out i (j + 1)) (e : b[j]? = some p) (ub : Up rk b 0 b.size) (ha : ∀ u, u < i → Kr rk a u ≤ Kr rk b j) : MH rk a b (out.push p) i j := (h.swap.pushA e ub ha).swap
theorem ext_head {xs : Array Keyed} {i k : Nat} {p : Keyed} (hk : i < k) (hz : k ≤ xs.size) (e : xs[i]? = some p) : xs.extract i k = #[p] ++ xs.extract (i + 1) k := by
  refine Array.ext_getElem? fun u => ?_
  rw [Array.getElem?_extract, Array.getElem?_append, Array.getElem?_extract]
  cases u with
  | zero =>
    simp [e]
    omega
  | succ u =>
    have e1 : i + 1 + (u + 1 - 1) = i + (u + 1) := by omega
    have e2 : (u + 1 < min k xs.size - i) = (u < min k xs.size - (i + 1)) := by
      apply propext
      omega
    simp [e1, e2]
    rw [show i + 1 + u = i + (u + 1) by omega]
theorem MH.blockA {k : Nat} : ∀ (n i : Nat), i + n = k → k ≤ a.size → MH rk a b out k j → Up rk a 0 a.size → (∀ v, i ≤ v → v < k → ∀ u, u < j → Kr rk b u ≤ Kr rk a v) → MH rk a b (out ++ (a.extract i k).reverse) i j
  | 0, i, e, hz, h, ua, _ => by
    have e1 : i = k := by omega
    subst e1
    have e : a.extract i i = #[] := by simp; omega
    rw [e]
    simpa using h
  | n + 1, i, e, hz, h, ua, h2 => by
    have h3 := MH.blockA n (i + 1) (by omega) hz h ua fun v c1 c2 => h2 v (by omega) c2
    have e1 : a[i]? = some (a[i]'(by omega)) := getElem?_pos _ _ _
    have h4 := h3.pushA e1 ua fun u c1 => h2 i (by omega) (by omega) u c1
    rw [ext_head (by omega) hz e1, Array.reverse_append]
    have e2 : out ++ ((a.extract (i + 1) k).reverse ++ (#[a[i]'(by omega)] : Array Keyed).reverse) = (out ++ (a.extract (i + 1) k).reverse).push (a[i]'(by omega)) := by
      rw [← Array.append_assoc]
      simp
    rw [e2]
    exact h4
theorem MH.blockB {k : Nat} (n j : Nat) (e : j + n = k) (hz : k ≤ b.size) (h : MH rk a b out i k) (ub : Up rk b 0 b.size) (h2 : ∀ v, j ≤ v → v < k → ∀ u, u < i → Kr rk a u ≤ Kr rk b v) : MH rk a b (out ++ (b.extract j k).reverse) i j := (MH.blockA n j e hz h.swap ub h2).swap
theorem MH.whole (h : MH rk a b out 0 0) : out.reverse.toList.Perm (a.toList ++ b.toList) ∧ out.reverse.toList.Pairwise fun x y => rk x ≤ rk y := by
  rw [Array.toList_reverse]
  exact ⟨h.perm, h.up⟩
theorem dn_rev (i j : Nat) : ((out ++ (b.extract 0 j).reverse) ++ (a.extract 0 i).reverse).reverse = dnHi a b out i j := by
  unfold dnHi
  rw [Array.reverse_append, Array.reverse_append, Array.reverse_reverse, Array.reverse_reverse, ← Array.append_assoc]
theorem fi_rev (i j : Nat) : ((out ++ (a.extract 0 i).reverse) ++ (b.extract 0 j).reverse).reverse = fiHi a b out i j := by
  unfold fiHi
  rw [Array.reverse_append, Array.reverse_append, Array.reverse_reverse, Array.reverse_reverse, ← Array.append_assoc]
abbrev Mrg (rk : Keyed → Int) (a b out : Array Keyed) : Prop := out.toList.Perm (a.toList ++ b.toList) ∧ out.toList.Pairwise fun x y => rk x ≤ rk y
theorem MH.dn (h : MH rk a b out i j) (ua : Up rk a 0 a.size) (ub : Up rk b 0 b.size) (hi : i ≤ a.size) (hj : j ≤ b.size) (z : i = 0 ∨ j = 0) : Mrg rk a b (dnHi a b out i j) := by
  have h1 := MH.blockB j 0 (by omega) hj h ub fun v c1 c2 u c3 => by omega
  have h2 := MH.blockA i 0 (by omega) hi h1 ua fun v c1 c2 u c3 => by omega
  have := h2.whole
  rw [dn_rev] at this
  exact this
theorem MH.first (h : MH rk a b out i 1) (ua : Up rk a 0 a.size) (ub : Up rk b 0 b.size) (hi : i ≤ a.size) (hj : 1 ≤ b.size) (hl : ∀ u, u < a.size → Kr rk b 0 ≤ Kr rk a u) : Mrg rk a b (fiHi a b out i 1) := by
  have h1 := MH.blockA i 0 (by omega) hi h ua fun v c1 c2 u c3 => by rw [show u = 0 by omega]; exact hl v (by omega)
  have h2 := MH.blockB 1 0 (by omega) hj h1 ub fun v c1 c2 u c3 => by omega
  have := h2.whole
  rw [fi_rev] at this
  exact this
end
section
variable {prog : Program} {w : World} {A : Around} {E : Value → Shared → Prop} {s : Shared} {κ : SortKind} {a₀ : Array Keyed} {rk : Keyed → Int} {a b : Array Keyed}
/-- two rows that may be merged -/
structure Two (rk : Keyed → Int) (a₀ a b : Array Keyed) : Prop where
  ina : ∀ p ∈ a, p ∈ a₀
  inb : ∀ p ∈ b, p ∈ a₀
  ua : Up rk a 0 a.size
  ub : Up rk b 0 b.size
  na : 1 ≤ a.size
  nb : 1 ≤ b.size
  first : ∀ u, u < a.size → Kr rk b 0 ≤ Kr rk a u
  last : ∀ u, u < b.size → Kr rk b u ≤ Kr rk a (a.size - 1)
theorem wp_elem {st : SortSt} {xs : Array Keyed} {i : Nat} {Q : Keyed → SortSt → Prop} (hi : i < xs.size) (h : ∀ p, xs[i]? = some p → p ∈ xs → Q p st) : wpS (model prog w) A E s (elem' xs i) Q st := by
  have e : xs[i]? = some xs[i] := getElem?_pos _ i hi
  rw [elem'_eq, e]
  exact wpS_pure (h _ e (Array.getElem_mem hi))
/-- galloping over a part of a rising row -/
theorem wp_gal (Y : Ask prog w A E s κ a₀ rk) {left : Bool} {key : Keyed} {arr : Array Keyed} {base n hint : Nat} {st : SortSt} {Q : Option Nat → SortSt → Prop} (hk : key ∈ a₀) (hκ : kindOf st = κ) (hh : hint < n) (hz : base + n ≤ arr.size) (hin : ∀ p ∈ arr, p ∈ a₀) (hu : Up rk arr base (base + n))
    (h : ∀ k, k ≤ n → (∀ u, base ≤ u → u < base + k → if left = true then Kr rk arr u < rk key else Kr rk arr u ≤ rk key) → (∀ u, base + k ≤ u → u < base + n → if left = true then rk key ≤ Kr rk arr u else rk key < Kr rk arr u) → Q (some k) st) : wpS (model prog w) A E s (gallop' left key arr base n hint) Q st := by
  have ht : ∀ i, i < n → Kr rk arr (base + i) = rk (arr.getD (base + i) key) := fun i hi => by
    rw [Kr_at (p := arr[base + i]'(by omega)) (getElem?_pos _ _ _)]
    congr 1
    simp [Array.getD, show base + i < arr.size by omega]
  have hb : ∀ i, i < n → beyB (fun x y => decide (rk x < rk y)) left key (arr.getD (base + i) key) = if left = true then decide (Kr rk arr (base + i) < rk key) else decide (Kr rk arr (base + i) ≤ rk key) := fun i hi => by
    unfold beyB
    rw [ht i hi]
    cases left with
    | true => rfl
    | false =>
      simp only [Bool.false_eq_true, if_false]
      rw [← decide_not, decide_eq_decide]
      omega
  refine wp_gallop Y.ord hk hκ hh (fun i => arr.getD (base + i) key) (fun i hi => ?_) ⟨fun i j h1 h2 h3 => ?_⟩ fun k k1 k2 k3 => h k k1 (fun u c1 c2 => ?_) fun u c1 c2 => ?_
  · have hi' : base + i < arr.size := by omega
    have e : arr.getD (base + i) key = arr[base + i] := by simp [Array.getD, hi']
    rw [e]
    exact ⟨getElem?_pos _ _ _, hin _ (Array.getElem_mem hi')⟩
  · rw [hb j h2] at h3
    rw [hb i (by omega)]
    have h4 := hu (base + i) (base + j) (by omega) (by omega) (by omega)
    cases left with
    | true =>
      simp only [if_true] at h3 ⊢
      have := of_decide_eq_true h3
      exact decide_eq_true (by omega)
    | false =>
      simp only [Bool.false_eq_true, if_false] at h3 ⊢
      have := of_decide_eq_true h3
      exact decide_eq_true (by omega)
  · have := k2 (u - base) (by omega)
    rw [hb _ (by omega), show base + (u - base) = u by omega] at this
    cases left with
    | true => simpa using this
    | false => simpa using this
  · have := k3 (u - base) (by omega) (by omega)
    rw [hb _ (by omega), show base + (u - base) = u by omega] at this
    cases left with
    | true => simpa using this
    | false => simpa using this
end
end L2.Tim

set_option Elab.async false
set_option linter.all false
set_option maxRecDepth 100000
namespace L2.Tim
open PySem PyProof.Rows
theorem wp_ite {M : Model} {A : Around} {E : Value → Shared → Prop} {s : Shared} {α : Type} {c : Prop} [Decidable c] {X Z : StateT SortSt Sem α} {Q : α → SortSt → Prop} {st : SortSt} (h1 : c → wpS M A E s X Q st) (h2 : ¬ c → wpS M A E s Z Q st) : wpS M A E s (if c then X else Z) Q st := by
  by_cases z : c
  · rw [if_pos z]; exact h1 z
  · rw [if_neg z]; exact h2 z
section
variable {prog : Program} {w : World} {A : Around} {E : Value → Shared → Prop} {s : Shared} {κ : SortKind} {a₀ : Array Keyed} {rk : Keyed → Int} {a b : Array Keyed}
abbrev LoSt := Option (Array Keyed) × Array Keyed × Nat × Nat × Nat × Nat × Nat
/-- the last part of a galloping turn -/
def loB (a b : Array Keyed) (mg ac bc : Nat) (o : Array Keyed) (i j : Nat) : StateT SortSt Sem (ForInStep LoSt) := do
  let y ← elem' a i
  if (i + 1 + 1 == a.size) = true then pure (.done (some (laLo a b (o.push y) (i + 1) j), o.push y, i + 1, j, mg, ac, bc))
  else if (decide (ac < 7) && decide (bc < 7)) = true then pure (.done (none, o.push y, i + 1, j, mg, ac, bc)) else pure (.yield (none, o.push y, i + 1, j, mg, ac, bc))
/-- the part before it -/
def loA (a b : Array Keyed) (mg ac bc : Nat) (o : Array Keyed) (i j : Nat) : StateT SortSt Sem (ForInStep LoSt) := do
  let y ← elem' b j
  if (j + 1 == b.size) = true then pure (.done (some (dnLo a b (o.push y) i (j + 1)), o.push y, i, j + 1, mg, ac, bc))
  else do
    let z ← elem' a i
    let r ← gallop' true z b (j + 1) (b.size - (j + 1)) 0
    match r with
    | some n => if n > 0 then (if (j + 1 + n == b.size) = true then pure (.done (some (dnLo a b (o.push y ++ b.extract (j + 1) (j + 1 + n)) i (j + 1 + n)), o.push y ++ b.extract (j + 1) (j + 1 + n), i, j + 1 + n, mg, ac, n)) else loB a b mg ac n (o.push y ++ b.extract (j + 1) (j + 1 + n)) i (j + 1 + n)) else loB a b mg ac n (o.push y) i (j + 1)
    | _ => pure (.done (some (dnLo a b (o.push y) i (j + 1)), o.push y, i, j + 1, mg, ac, bc))
/-- what a turn may end with -/
structure LoEnd (rk : Keyed → Int) (a b : Array Keyed) (x : Nat) (R : ForInStep LoSt → SortSt → Prop) (st : SortSt) : Prop where
  ret : ∀ r t, Mrg rk a b r → R (.done (some r, t)) st
  brk : ∀ o i j mg ac bc, ML rk a b o i j → i + 1 < a.size → j < b.size → x ≤ i + j → R (.done (none, o, i, j, mg, ac, bc)) st
  nxt : ∀ o i j mg ac bc, ML rk a b o i j → i + 1 < a.size → j < b.size → x ≤ i + j → R (.yield (none, o, i, j, mg, ac, bc)) st
theorem wp_loB (W : Two rk a₀ a b) {st : SortSt} {R : ForInStep LoSt → SortSt → Prop} {x mg ac bc i j : Nat} {o : Array Keyed} (h : LoEnd rk a b x R st) (m : ML rk a b o i j) (hi : i + 1 < a.size) (hj : j < b.size) (hx : x ≤ i + j) (kge : ∀ u, j ≤ u → u < b.size → Kr rk a i ≤ Kr rk b u) : wpS (model prog w) A E s (loB a b mg ac bc o i j) R st := by
  unfold loB
  refine wpS_bind (wp_elem (by omega) fun y ey _ => ?_)
  have m6 := m.pushA ey W.ua kge
  have fin : i + 1 + 1 = a.size → Mrg rk a b (laLo a b (o.push y) (i + 1) j) := fun z => (m6.last W.ua W.ub z (by omega) fun u hu => by
    have := W.last u hu
    rw [show a.size - 1 = i + 1 by omega] at this
    exact this).whole
  refine wp_ite (fun z => wpS_pure (h.ret _ _ (fin (by simpa using z)))) fun z2 => ?_
  have z2 : ¬ i + 1 + 1 = a.size := by simpa using z2
  refine wp_ite (fun z => wpS_pure (h.brk _ _ _ _ _ _ m6 (by omega) hj (by omega))) fun z3 => ?_
  exact wpS_pure (h.nxt _ _ _ _ _ _ m6 (by omega) hj (by omega))
theorem wp_loA (Y : Ask prog w A E s κ a₀ rk) (W : Two rk a₀ a b) {st : SortSt} (hκ : kindOf st = κ) {R : ForInStep LoSt → SortSt → Prop} {x mg ac bc i j : Nat} {o : Array Keyed} (h : LoEnd rk a b x R st) (m : ML rk a b o i j) (hi : i + 1 < a.size) (hj : j < b.size) (hx : x ≤ i + j) (kgt : ∀ u, i ≤ u → u < a.size → Kr rk b j ≤ Kr rk a u) : wpS (model prog w) A E s (loA a b mg ac bc o i j) R st := by
  unfold loA
  refine wpS_bind (wp_elem hj fun y ey _ => ?_)
  have m3 := m.pushB ey W.ub kgt
  refine wp_ite (fun z => wpS_pure (h.ret _ _ (m3.dn W.ua W.ub (by omega) (by omega) (.inl (by simpa using z))).whole)) fun z1 => ?_
  have z1 : ¬ j + 1 = b.size := by simpa using z1
  refine wpS_bind (wp_elem (by omega) fun q eq qq => ?_)
  have kq : Kr rk a i = rk q := Kr_at eq
  refine wpS_bind (wp_gal Y (W.ina q qq) hκ (by omega) (by omega) W.inb (fun u v c1 c2 c3 => W.ub u v (Nat.zero_le _) c2 (by omega)) fun n n1 n2 n3 => ?_)
  simp only [if_true] at n2 n3 ⊢
  refine wp_ite (fun hn => ?_) fun hn => ?_
  · have m4 := m3.blockB W.ub n (by omega) fun v c1 c2 u c3 c4 => by
      have := n2 v c1 c2
      have := W.ua i u (Nat.zero_le _) c3 c4
      omega
    refine wp_ite (fun z => wpS_pure (h.ret _ _ (m4.dn W.ua W.ub (by omega) (by omega) (.inl (by simpa using z))).whole)) fun z2 => ?_
    have z2 : ¬ j + 1 + n = b.size := by simpa using z2
    exact wp_loB W h m4 hi (by omega) (by omega) fun u c1 c2 => by rw [kq]; exact n3 u c1 (by omega)
  · exact wp_loB W h m3 hi (by omega) (by omega) fun u c1 c2 => by rw [kq]; exact n3 u (by omega) (by omega)
set_option maxHeartbeats 8000000 in
theorem wp_mergeLo (Y : Ask prog w A E s κ a₀ rk) (W : Two rk a₀ a b) {st : SortSt} {Q : Array Keyed → SortSt → Prop} (hκ : kindOf st = κ) (h : ∀ out g, Mrg rk a b out → Q out (setMin st g)) : wpS (model prog w) A E s (mergeLo' a b) Q st := by
  rw [mergeLo_eq]
  have ua := W.ua
  have ub := W.ub
  have na := W.na
  have nb := W.nb
  have retD : ∀ (out : Array Keyed) (i j : Nat), ML rk a b out i j → i ≤ a.size → j ≤ b.size → (j = b.size ∨ i = a.size) → Mrg rk a b (dnLo a b out i j) := fun out i j m h1 h2 z => (m.dn ua ub h1 h2 z).whole
  have retL : ∀ (out : Array Keyed) (i j : Nat), ML rk a b out i j → i + 1 = a.size → j ≤ b.size → Mrg rk a b (laLo a b out i j) := fun out i j m h1 h2 => (m.last ua ub h1 h2 fun u hu => by rw [show i = a.size - 1 by omega]; exact W.last u hu).whole
  refine wpS_bind (wpS_lift (wpAny_rule ⟨rfl, ?_⟩))
  dsimp only
  refine wpS_bind (wp_elem (by omega) fun p e0 p0 => ?_)
  have est : st = setMin st (gallopOf st) := by cases st; rfl
  have m0 : ML rk a b #[p] 0 1 := by
    have m := (ML.mk (rk := rk) (a := a) (b := b) (out := #[]) (i := 0) (j := 0) (by simp) (by simp) (by simp) (by simp)).pushB e0 ub fun u _ hu => W.first u hu
    exact m
  refine wp_ite (fun z => ?_) fun z1 => ?_
  · rw [est]
    exact wpS_pure (h _ _ (retD _ _ _ m0 (by omega) (by simp at z; omega) (.inl (by simpa using z))))
  refine wp_ite (fun z => ?_) fun z2 => ?_
  · rw [est]
    exact wpS_pure (h _ _ (retL _ _ _ m0 (by simpa using z) (by omega)))
  have z1 : ¬ 1 = b.size := by simpa using z1
  have z2 : ¬ 0 + 1 = a.size := by simpa using z2
  refine wpS_bind (wpS_get ?_)
  refine wpS_bind (wpS_mono (wpS_forRange (fun x c st' => ∃ out i j mg g, c = (none, out, i, j, mg) ∧ st' = setMin st g ∧ ML rk a b out i j ∧ i + 1 < a.size ∧ j < b.size ∧ x + 1 ≤ i + j)
    (Q := fun c st' => ∃ r t g, c = (some r, t) ∧ Mrg rk a b r ∧ st' = setMin st g) ?_ ?_ ⟨#[p], 0, 1, gallopOf st, gallopOf st, rfl, est, m0, by omega, by omega, by omega⟩) ?_)
  · rintro x c st' _ hx ⟨out, i, j, mg, g, rfl, rfl, m, hi, hj, hij⟩
    dsimp only
    refine wpS_bind (wpS_mono (wpS_forRange (fun y c st' => ∃ out i j ac bc g, c = (none, out, i, j, ac, bc) ∧ st' = setMin st g ∧ ML rk a b out i j ∧ i + 1 < a.size ∧ j < b.size ∧ x + 1 + y ≤ i + j)
      (Q := fun c st' => (∃ r t g, c = (some r, t) ∧ Mrg rk a b r ∧ st' = setMin st g) ∨ ∃ out i j ac bc g, c = (none, out, i, j, ac, bc) ∧ st' = setMin st g ∧ ML rk a b out i j ∧ i + 1 < a.size ∧ j < b.size ∧ x + 2 ≤ i + j) ?_ ?_ ⟨out, i, j, 0, 0, g, rfl, rfl, m, hi, hj, by omega⟩) ?_)
    · clear hij m hi hj
      rintro y c st' _ hy ⟨out, i, j, ac, bc, g, rfl, rfl, m, hi, hj, hij⟩
      dsimp only
      refine wpS_bind (wp_elem hj fun p ep pp => ?_)
      refine wpS_bind (wp_elem (by omega) fun q eq qq => ?_)
      refine wpS_bind (Y.tell p q (W.inb p pp) (W.ina q qq) _ _ hκ ?_)
      dsimp only
      have kp : Kr rk b j = rk p := Kr_at ep
      have kq : Kr rk a i = rk q := Kr_at eq
      by_cases z : rk p < rk q
      · rw [decide_eq_true z]
        simp only [if_true]
        refine wpS_bind (wp_elem hj fun p' ep' _ => ?_)
        have m' := m.pushB ep' ub fun u h1 h2 => by
          have := ua i u (Nat.zero_le _) h1 h2
          omega
        refine wp_ite (fun z => ?_) fun z1 => ?_
        · exact wpS_pure (.inl ⟨_, _, g, rfl, retD _ _ _ m' (by omega) (by omega) (.inl (by simpa using z)), rfl⟩)
        have z1 : ¬ j + 1 = b.size := by simpa using z1
        refine wp_ite (fun z => ?_) fun z2 => ?_
        · exact wpS_pure (.inr ⟨_, _, _, _, _, g, rfl, rfl, m', hi, by omega, by omega⟩)
        · exact wpS_pure ⟨_, _, _, _, _, g, rfl, rfl, m', hi, by omega, by omega⟩
      · rw [decide_eq_false z]
        simp only [Bool.false_eq_true, if_false]
        refine wpS_bind (wp_elem (by omega) fun q' eq' _ => ?_)
        have m' := m.pushA eq' ua fun u h1 h2 => by
          have := ub j u (Nat.zero_le _) h1 h2
          omega
        refine wp_ite (fun z => ?_) fun z1 => ?_
        · exact wpS_pure (.inl ⟨_, _, g, rfl, retL _ _ _ m' (by simpa using z) (by omega), rfl⟩)
        have z1 : ¬ i + 1 + 1 = a.size := by simpa using z1
        refine wp_ite (fun z => ?_) fun z2 => ?_
        · exact wpS_pure (.inr ⟨_, _, _, _, _, g, rfl, rfl, m', by omega, hj, by omega⟩)
        · exact wpS_pure ⟨_, _, _, _, _, g, rfl, rfl, m', by omega, hj, by omega⟩
    · rintro c st' ⟨out, i, j, ac, bc, g, rfl, rfl, m, hi, hj, hij⟩
      exact .inr ⟨_, _, _, _, _, g, rfl, rfl, m, hi, hj, by omega⟩
    · clear hij m hi hj
      rintro c st' (⟨r, t, g, rfl, hr, rfl⟩ | ⟨out, i, j, ac, bc, g, rfl, rfl, m, hi, hj, hij⟩)
      · exact wpS_pure ⟨_, _, g, rfl, hr, rfl⟩
      · dsimp only
        refine wpS_bind (wpS_lift (wpAny_rule ⟨rfl, ?_⟩))
        refine wpS_bind (wpS_mono (wpS_forRange (fun y c st' => ∃ out i j mg ac bc g, c = (none, out, i, j, mg, ac, bc) ∧ st' = setMin st g ∧ ML rk a b out i j ∧ i + 1 < a.size ∧ j < b.size ∧ x + 2 ≤ i + j)
          (Q := fun c st' => (∃ r t g, c = (some r, t) ∧ Mrg rk a b r ∧ st' = setMin st g) ∨ ∃ out i j mg ac bc g, c = (none, out, i, j, mg, ac, bc) ∧ st' = setMin st g ∧ ML rk a b out i j ∧ i + 1 < a.size ∧ j < b.size ∧ x + 2 ≤ i + j) ?_ ?_ ⟨out, i, j, mg + 1, ac, bc, g, rfl, rfl, m, hi, hj, by omega⟩) ?_)
        · clear hij m hi hj
          rintro y c st' _ hy ⟨out, i, j, mg, ac, bc, g, rfl, rfl, m, hi, hj, hij⟩
          dsimp only
          refine wp_ite (fun z => ?_) fun z => ?_
          · refine wpS_bind (wpS_modify ?_)
            refine wpS_bind (wp_elem hj fun p ep pp => ?_)
            have kp : Kr rk b j = rk p := Kr_at ep
            refine wpS_bind (wp_gal Y (W.inb p pp) hκ (by omega) (by omega) W.ina (fun u v c1 c2 c3 => ua u v (Nat.zero_le _) c2 (by omega)) fun k k1 k2 k3 => ?_)
            simp only [Bool.false_eq_true, if_false] at k2 k3 ⊢
            have m2 := m.blockA ua k (by omega) fun v c1 c2 u c3 c4 => by
              have := k2 v c1 c2
              have := ub j u (Nat.zero_le _) c3 c4
              omega
            refine wp_ite (fun hk => ?_) fun hk => ?_
            · refine wp_ite (fun z => wpS_pure (.inl ⟨_, _, _, rfl, retL _ _ _ m2 (by simpa using z) (by omega), rfl⟩)) fun z1 => ?_
              have z1 : ¬ i + k + 1 = a.size := by simpa using z1
              refine wp_ite (fun z => wpS_pure (.inl ⟨_, _, _, rfl, retD _ _ _ m2 (by omega) (by omega) (.inr (by simpa using z)), rfl⟩)) fun z2 => ?_
              have z2 : ¬ i + k = a.size := by simpa using z2
              have kk : ∀ u, i + k ≤ u → u < a.size → Kr rk b j ≤ Kr rk a u := fun u c1 c2 => by rw [kp]; exact Int.le_of_lt (k3 u c1 (by omega))
              have hi2 : i + k + 1 < a.size := by omega
              have hx2 : x + 2 ≤ i + k + j := by omega
              exact wp_loA (st := setMin st (mg - 1)) (x := x + 2) (mg := mg - 1) (ac := k) (bc := bc) Y W hκ ⟨fun r t hr => .inl ⟨r, t, _, rfl, hr, rfl⟩, fun o i j mg ac bc m h1 h2 h3 => .inr ⟨o, i, j, mg, ac, bc, _, rfl, rfl, m, h1, h2, h3⟩, fun o i j mg ac bc m h1 h2 h3 => ⟨o, i, j, mg, ac, bc, _, rfl, rfl, m, h1, h2, h3⟩⟩ m2 hi2 hj hx2 kk
            · have kk : ∀ u, i ≤ u → u < a.size → Kr rk b j ≤ Kr rk a u := fun u c1 c2 => by rw [kp]; exact Int.le_of_lt (k3 u (by omega) (by omega))
              exact wp_loA (st := setMin st (mg - 1)) (x := x + 2) (mg := mg - 1) (ac := k) (bc := bc) Y W hκ ⟨fun r t hr => .inl ⟨r, t, _, rfl, hr, rfl⟩, fun o i j mg ac bc m h1 h2 h3 => .inr ⟨o, i, j, mg, ac, bc, _, rfl, rfl, m, h1, h2, h3⟩, fun o i j mg ac bc m h1 h2 h3 => ⟨o, i, j, mg, ac, bc, _, rfl, rfl, m, h1, h2, h3⟩⟩ m hi hj hij kk
          · refine wpS_bind (wpS_modify ?_)
            refine wpS_bind (wp_elem hj fun p ep pp => ?_)
            have kp : Kr rk b j = rk p := Kr_at ep
            refine wpS_bind (wp_gal Y (W.inb p pp) hκ (by omega) (by omega) W.ina (fun u v c1 c2 c3 => ua u v (Nat.zero_le _) c2 (by omega)) fun k k1 k2 k3 => ?_)
            simp only [Bool.false_eq_true, if_false] at k2 k3 ⊢
            have m2 := m.blockA ua k (by omega) fun v c1 c2 u c3 c4 => by
              have := k2 v c1 c2
              have := ub j u (Nat.zero_le _) c3 c4
              omega
            refine wp_ite (fun hk => ?_) fun hk => ?_
            · refine wp_ite (fun z => wpS_pure (.inl ⟨_, _, _, rfl, retL _ _ _ m2 (by simpa using z) (by omega), rfl⟩)) fun z1 => ?_
              have z1 : ¬ i + k + 1 = a.size := by simpa using z1
              refine wp_ite (fun z => wpS_pure (.inl ⟨_, _, _, rfl, retD _ _ _ m2 (by omega) (by omega) (.inr (by simpa using z)), rfl⟩)) fun z2 => ?_
              have z2 : ¬ i + k = a.size := by simpa using z2
              have kk : ∀ u, i + k ≤ u → u < a.size → Kr rk b j ≤ Kr rk a u := fun u c1 c2 => by rw [kp]; exact Int.le_of_lt (k3 u c1 (by omega))
              have hi2 : i + k + 1 < a.size := by omega
              have hx2 : x + 2 ≤ i + k + j := by omega
              exact wp_loA (st := setMin st mg) (x := x + 2) (mg := mg) (ac := k) (bc := bc) Y W hκ ⟨fun r t hr => .inl ⟨r, t, _, rfl, hr, rfl⟩, fun o i j mg ac bc m h1 h2 h3 => .inr ⟨o, i, j, mg, ac, bc, _, rfl, rfl, m, h1, h2, h3⟩, fun o i j mg ac bc m h1 h2 h3 => ⟨o, i, j, mg, ac, bc, _, rfl, rfl, m, h1, h2, h3⟩⟩ m2 hi2 hj hx2 kk
            · have kk : ∀ u, i ≤ u → u < a.size → Kr rk b j ≤ Kr rk a u := fun u c1 c2 => by rw [kp]; exact Int.le_of_lt (k3 u (by omega) (by omega))
              exact wp_loA (st := setMin st mg) (x := x + 2) (mg := mg) (ac := k) (bc := bc) Y W hκ ⟨fun r t hr => .inl ⟨r, t, _, rfl, hr, rfl⟩, fun o i j mg ac bc m h1 h2 h3 => .inr ⟨o, i, j, mg, ac, bc, _, rfl, rfl, m, h1, h2, h3⟩, fun o i j mg ac bc m h1 h2 h3 => ⟨o, i, j, mg, ac, bc, _, rfl, rfl, m, h1, h2, h3⟩⟩ m hi hj hij kk
        · rintro c st' ⟨out, i, j, mg, ac, bc, g, rfl, rfl, m, hi, hj, hij⟩
          exact .inr ⟨_, _, _, _, _, _, g, rfl, rfl, m, hi, hj, hij⟩
        · clear hij m hi hj
          rintro c st' (⟨r, t, g, rfl, hr, rfl⟩ | ⟨out, i, j, mg, ac, bc, g, rfl, rfl, m, hi, hj, hij⟩)
          · exact wpS_pure ⟨_, _, g, rfl, hr, rfl⟩
          · dsimp only
            exact wpS_bind (wpS_modify (wpS_pure ⟨_, _, _, _, _, rfl, rfl, m, hi, hj, by omega⟩))
  · rintro c st' ⟨out, i, j, mg, g, rfl, rfl, m, hi, hj, hij⟩
    exfalso
    omega
  · rintro c st' ⟨r, t, g, rfl, hr, rfl⟩
    exact wpS_pure (h r g hr)
end
end L2.Tim

set_option Elab.async false
set_option linter.all false
set_option maxRecDepth 100000
namespace L2.Tim
open PySem PyProof.Rows
section
variable {prog : Program} {w : World} {A : Around} {E : Value → Shared → Prop} {s : Shared} {κ : SortKind} {a₀ : Array Keyed} {rk : Keyed → Int} {a b : Array Keyed}
abbrev HiSt := Option (Array Keyed) × Nat × Nat × Array Keyed × Nat × Nat × Nat
/-- the last part of a galloping turn -/
def hiB (a b : Array Keyed) (mg ac bc : Nat) (o : Array Keyed) (i j : Nat) : StateT SortSt Sem (ForInStep HiSt) := do
  let y ← elem' a (i - 1)
  if (i - 1 == 0) = true then pure (.done (some (dnHi a b (o.push y) (i - 1) j), i - 1, j, o.push y, mg, ac, bc))
  else if (decide (ac < 7) && decide (bc < 7)) = true then pure (.done (none, i - 1, j, o.push y, mg, ac, bc)) else pure (.yield (none, i - 1, j, o.push y, mg, ac, bc))
/-- the part before it -/
def hiA (a b : Array Keyed) (mg ac bc : Nat) (o : Array Keyed) (i j : Nat) : StateT SortSt Sem (ForInStep HiSt) := do
  let y ← elem' b (j - 1)
  if (j - 1 == 1) = true then pure (.done (some (fiHi a b (o.push y) i (j - 1)), i, j - 1, o.push y, mg, ac, bc))
  else do
    let z ← elem' a (i - 1)
    let r ← gallop' true z b 0 (j - 1) (j - 1 - 1)
    match r with
    | some n => if j - 1 - n > 0 then (if (n == 1) = true then pure (.done (some (fiHi a b (o.push y ++ (b.extract n (j - 1)).reverse) i n), i, n, o.push y ++ (b.extract n (j - 1)).reverse, mg, ac, j - 1 - n)) else if (n == 0) = true then pure (.done (some (dnHi a b (o.push y ++ (b.extract n (j - 1)).reverse) i n), i, n, o.push y ++ (b.extract n (j - 1)).reverse, mg, ac, j - 1 - n)) else hiB a b mg ac (j - 1 - n) (o.push y ++ (b.extract n (j - 1)).reverse) i n) else hiB a b mg ac (j - 1 - n) (o.push y) i (j - 1)
    | _ => pure (.done (some (dnHi a b (o.push y) i (j - 1)), i, j - 1, o.push y, mg, ac, bc))
/-- what a turn may end with -/
structure HiEnd (rk : Keyed → Int) (a b : Array Keyed) (x : Nat) (R : ForInStep HiSt → SortSt → Prop) (st : SortSt) : Prop where
  ret : ∀ r t, Mrg rk a b r → R (.done (some r, t)) st
  brk : ∀ o i j mg ac bc, MH rk a b o i j → 1 ≤ i → 2 ≤ j → i < a.size → j ≤ b.size → i + j + x ≤ a.size + b.size → R (.done (none, i, j, o, mg, ac, bc)) st
  nxt : ∀ o i j mg ac bc, MH rk a b o i j → 1 ≤ i → 2 ≤ j → i < a.size → j ≤ b.size → i + j + x ≤ a.size + b.size → R (.yield (none, i, j, o, mg, ac, bc)) st
theorem wp_hiB (W : Two rk a₀ a b) {st : SortSt} {R : ForInStep HiSt → SortSt → Prop} {x mg ac bc i j : Nat} {o : Array Keyed} (h : HiEnd rk a b x R st) (m : MH rk a b o (i + 1) j) (hi : i < a.size) (hj : 2 ≤ j) (hjb : j ≤ b.size) (hx : i + j + x ≤ a.size + b.size) (kge : ∀ u, u < j → Kr rk b u < Kr rk a i) : wpS (model prog w) A E s (hiB a b mg ac bc o (i + 1) j) R st := by
  unfold hiB
  rw [show i + 1 - 1 = i from rfl]
  refine wpS_bind (wp_elem hi fun y ey _ => ?_)
  have ky : Kr rk a i = rk y := Kr_at ey
  have m6 := MH.pushA (i := i) m ey W.ua fun u h1 => by
    have := kge u h1
    omega
  refine wp_ite (fun z => wpS_pure (h.ret _ _ (m6.dn W.ua W.ub (Nat.le_of_lt hi) hjb (.inl (by simpa using z))))) fun z2 => ?_
  have z2 : 1 ≤ i := Nat.one_le_iff_ne_zero.2 (by simpa using z2)
  refine wp_ite (fun z => wpS_pure (h.brk _ _ _ _ _ _ m6 z2 hj hi hjb hx)) fun z3 => ?_
  exact wpS_pure (h.nxt _ _ _ _ _ _ m6 z2 hj hi hjb hx)
theorem wp_hiA (Y : Ask prog w A E s κ a₀ rk) (W : Two rk a₀ a b) {st : SortSt} (hκ : kindOf st = κ) {R : ForInStep HiSt → SortSt → Prop} {x mg ac bc i j : Nat} {o : Array Keyed} (h : HiEnd rk a b x R st) (m : MH rk a b o (i + 1) (j + 1)) (hi : i < a.size) (hj : 1 ≤ j) (hjb : j < b.size) (hx : i + j + x ≤ a.size + b.size) (kgt : ∀ u, u < i + 1 → Kr rk a u ≤ Kr rk b j) : wpS (model prog w) A E s (hiA a b mg ac bc o (i + 1) (j + 1)) R st := by
  unfold hiA
  rw [show j + 1 - 1 = j from rfl, show i + 1 - 1 = i from rfl]
  refine wpS_bind (wp_elem hjb fun y ey _ => ?_)
  have ky : Kr rk b j = rk y := Kr_at ey
  have m3 := MH.pushB (j := j) m ey W.ub fun u h1 => by
    have := kgt u h1
    omega
  refine wp_ite (fun z => wpS_pure (h.ret _ _ (by
    have e : j = 1 := by simpa using z
    subst e
    exact m3.first W.ua W.ub (by omega) W.nb W.first))) fun z1 => ?_
  have z1 : ¬ j = 1 := by simpa using z1
  refine wpS_bind (wp_elem hi fun q eq qq => ?_)
  have kq : Kr rk a i = rk q := Kr_at eq
  refine wpS_bind (wp_gal Y (W.ina q qq) hκ (by omega) (by omega) W.inb (fun u v c1 c2 c3 => W.ub u v (Nat.zero_le _) c2 (by omega)) fun n n1 n2 n3 => ?_)
  simp only [if_true] at n2 n3 ⊢
  refine wp_ite (fun hn => ?_) fun hn => ?_
  · have m4 := MH.blockB (j - n) n (by omega) (by omega) m3 W.ub fun v c1 c2 u c3 => by
      have := n3 v (by omega) (by omega)
      have := W.ua u i (Nat.zero_le _) (by omega) hi
      omega
    refine wp_ite (fun z => wpS_pure (h.ret _ _ (by
      have e : n = 1 := by simpa using z
      subst e
      exact m4.first W.ua W.ub (by omega) W.nb W.first))) fun z2 => ?_
    have z2 : ¬ n = 1 := by simpa using z2
    refine wp_ite (fun z => wpS_pure (h.ret _ _ (m4.dn W.ua W.ub (by omega) (by omega) (.inr (by simpa using z))))) fun z3 => ?_
    have z3 : ¬ n = 0 := by simpa using z3
    exact wp_hiB W h m4 hi (by omega) (by omega) (by omega) fun u c1 => by rw [kq]; exact n2 u (by omega) (by omega)
  · have e0 : n = j := by omega
    exact wp_hiB W h m3 hi (by omega) (by omega) hx fun u c1 => by rw [kq]; exact n2 u (by omega) (by omega)
set_option maxHeartbeats 8000000 in
theorem wp_mergeHi (Y : Ask prog w A E s κ a₀ rk) (W : Two rk a₀ a b) {st : SortSt} {Q : Array Keyed → SortSt → Prop} (hκ : kindOf st = κ) (h : ∀ out g, Mrg rk a b out → Q out (setMin st g)) : wpS (model prog w) A E s (mergeHi' a b) Q st := by
  rw [mergeHi_eq]
  have ua := W.ua
  have ub := W.ub
  have na := W.na
  have nb := W.nb
  have retD : ∀ (out : Array Keyed) (i j : Nat), MH rk a b out i j → i ≤ a.size → j ≤ b.size → (i = 0 ∨ j = 0) → Mrg rk a b (dnHi a b out i j) := fun out i j m h1 h2 z => m.dn ua ub h1 h2 z
  have retL : ∀ (out : Array Keyed) (i j : Nat), MH rk a b out i j → i ≤ a.size → j = 1 → Mrg rk a b (fiHi a b out i j) := fun out i j m h1 h2 => by subst h2; exact m.first ua ub h1 nb W.first
  refine wpS_bind (wpS_lift (wpAny_rule ⟨rfl, ?_⟩))
  dsimp only
  refine wpS_bind (wp_elem (by omega) fun p e0 p0 => ?_)
  have est : st = setMin st (gallopOf st) := by cases st; rfl
  have m0 : MH rk a b #[p] (a.size - 1) b.size := by
    have m1 : MH rk a b #[] (a.size - 1 + 1) b.size := ⟨by
      rw [show a.size - 1 + 1 = a.toList.length by simp; omega, show b.size = b.toList.length by simp, List.drop_length, List.drop_length]
      exact List.Perm.refl _, by simp, by simp, by simp⟩
    exact m1.pushA e0 ua fun u hu => W.last u hu
  refine wp_ite (fun z => ?_) fun z1 => ?_
  · rw [est]
    exact wpS_pure (h _ _ (retD _ _ _ m0 (by omega) (by omega) (.inl (by simpa using z))))
  refine wp_ite (fun z => ?_) fun z2 => ?_
  · rw [est]
    exact wpS_pure (h _ _ (retL _ _ _ m0 (by omega) (by simpa using z)))
  have z1 : ¬ a.size - 1 = 0 := by simpa using z1
  have z2 : ¬ b.size = 1 := by simpa using z2
  refine wpS_bind (wpS_get ?_)
  refine wpS_bind (wpS_mono (wpS_forRange (fun x c st' => ∃ out i j mg g, c = (none, i, j, out, mg) ∧ st' = setMin st g ∧ MH rk a b out i j ∧ 1 ≤ i ∧ 2 ≤ j ∧ i < a.size ∧ j ≤ b.size ∧ i + j + x + 1 ≤ a.size + b.size)
    (Q := fun c st' => ∃ r t g, c = (some r, t) ∧ Mrg rk a b r ∧ st' = setMin st g) ?_ ?_ ⟨#[p], a.size - 1, b.size, gallopOf st, gallopOf st, rfl, est, m0, by omega, by omega, by omega, by omega, by omega⟩) ?_)
  · rintro x c st' _ hx ⟨out, i, j, mg, g, rfl, rfl, m, hi, hj, hia, hjb, hij⟩
    dsimp only
    refine wpS_bind (wpS_mono (wpS_forRange (fun y c st' => ∃ out i j ac bc g, c = (none, i, j, out, ac, bc) ∧ st' = setMin st g ∧ MH rk a b out i j ∧ 1 ≤ i ∧ 2 ≤ j ∧ i < a.size ∧ j ≤ b.size ∧ i + j + x + 1 + y ≤ a.size + b.size)
      (Q := fun c st' => (∃ r t g, c = (some r, t) ∧ Mrg rk a b r ∧ st' = setMin st g) ∨ ∃ out i j ac bc g, c = (none, i, j, out, ac, bc) ∧ st' = setMin st g ∧ MH rk a b out i j ∧ 1 ≤ i ∧ 2 ≤ j ∧ i < a.size ∧ j ≤ b.size ∧ i + j + x + 2 ≤ a.size + b.size) ?_ ?_ ⟨out, i, j, 0, 0, g, rfl, rfl, m, hi, hj, hia, hjb, by omega⟩) ?_)
    · clear hij m hi hj hia hjb
      rintro y c st' _ hy ⟨out, i, j, ac, bc, g, rfl, rfl, m, hi, hj, hia, hjb, hij⟩
      dsimp only
      refine wpS_bind (wp_elem (by omega) fun p ep pp => ?_)
      refine wpS_bind (wp_elem (by omega) fun q eq qq => ?_)
      refine wpS_bind (Y.tell p q (W.inb p pp) (W.ina q qq) _ _ hκ ?_)
      dsimp only
      have kp : Kr rk b (j - 1) = rk p := Kr_at ep
      have kq : Kr rk a (i - 1) = rk q := Kr_at eq
      by_cases z : rk p < rk q
      · rw [decide_eq_true z]
        simp only [if_true]
        refine wpS_bind (wp_elem (by omega) fun q' eq' _ => ?_)
        have m' := MH.pushA (i := i - 1) (by rw [show i - 1 + 1 = i by omega]; exact m) eq' ua fun u h1 => by
          have := ub u (j - 1) (Nat.zero_le _) (by omega) (by omega)
          omega
        refine wp_ite (fun z => ?_) fun z1 => ?_
        · exact wpS_pure (.inl ⟨_, _, g, rfl, retD _ _ _ m' (by omega) (by omega) (.inl (by simpa using z)), rfl⟩)
        have z1 : ¬ i - 1 = 0 := by simpa using z1
        refine wp_ite (fun z => ?_) fun z2 => ?_
        · exact wpS_pure (.inr ⟨_, _, _, _, _, g, rfl, rfl, m', by omega, by omega, by omega, by omega, by omega⟩)
        · exact wpS_pure ⟨_, _, _, _, _, g, rfl, rfl, m', by omega, by omega, by omega, by omega, by omega⟩
      · rw [decide_eq_false z]
        simp only [Bool.false_eq_true, if_false]
        refine wpS_bind (wp_elem (by omega) fun p' ep' _ => ?_)
        have m' := MH.pushB (j := j - 1) (by rw [show j - 1 + 1 = j by omega]; exact m) ep' ub fun u h1 => by
          have := ua u (i - 1) (Nat.zero_le _) (by omega) (by omega)
          omega
        refine wp_ite (fun z => ?_) fun z1 => ?_
        · exact wpS_pure (.inl ⟨_, _, g, rfl, retL _ _ _ m' (by omega) (by simpa using z), rfl⟩)
        have z1 : ¬ j - 1 = 1 := by simpa using z1
        refine wp_ite (fun z => ?_) fun z2 => ?_
        · exact wpS_pure (.inr ⟨_, _, _, _, _, g, rfl, rfl, m', by omega, by omega, by omega, by omega, by omega⟩)
        · exact wpS_pure ⟨_, _, _, _, _, g, rfl, rfl, m', by omega, by omega, by omega, by omega, by omega⟩
    · rintro c st' ⟨out, i, j, ac, bc, g, rfl, rfl, m, hi, hj, hia, hjb, hij⟩
      exact .inr ⟨_, _, _, _, _, g, rfl, rfl, m, hi, hj, hia, hjb, by omega⟩
    · clear hij m hi hj hia hjb
      rintro c st' (⟨r, t, g, rfl, hr, rfl⟩ | ⟨out, i, j, ac, bc, g, rfl, rfl, m, hi, hj, hia, hjb, hij⟩)
      · exact wpS_pure ⟨_, _, g, rfl, hr, rfl⟩
      · dsimp only
        refine wpS_bind (wpS_lift (wpAny_rule ⟨rfl, ?_⟩))
        refine wpS_bind (wpS_mono (wpS_forRange (fun y c st' => ∃ out i j mg ac bc g, c = (none, i, j, out, mg, ac, bc) ∧ st' = setMin st g ∧ MH rk a b out i j ∧ 1 ≤ i ∧ 2 ≤ j ∧ i < a.size ∧ j ≤ b.size ∧ i + j + x + 2 ≤ a.size + b.size)
          (Q := fun c st' => (∃ r t g, c = (some r, t) ∧ Mrg rk a b r ∧ st' = setMin st g) ∨ ∃ out i j mg ac bc g, c = (none, i, j, out, mg, ac, bc) ∧ st' = setMin st g ∧ MH rk a b out i j ∧ 1 ≤ i ∧ 2 ≤ j ∧ i < a.size ∧ j ≤ b.size ∧ i + j + x + 2 ≤ a.size + b.size) ?_ ?_ ⟨out, i, j, mg + 1, ac, bc, g, rfl, rfl, m, hi, hj, hia, hjb, by omega⟩) ?_)
        · clear hij m hi hj hia hjb
          rintro y c st' _ hy ⟨out, i, j, mg, ac, bc, g, rfl, rfl, m, hi, hj, hia, hjb, hij⟩
          dsimp only
          obtain ⟨i, rfl⟩ : ∃ i', i = i' + 1 := ⟨i - 1, by omega⟩
          obtain ⟨j, rfl⟩ : ∃ j', j = j' + 1 := ⟨j - 1, by omega⟩
          have hij2 : i + j + (x + 2) ≤ a.size + b.size := by omega
          have hj1 : 1 ≤ j := Nat.le_of_succ_le_succ hj
          have hiS : i < a.size := Nat.lt_of_succ_lt hia
          refine wp_ite (fun z => ?_) fun z => ?_
          · refine wpS_bind (wpS_modify ?_)
            refine wpS_bind (wp_elem hjb fun p ep pp => ?_)
            have kp : Kr rk b j = rk p := Kr_at ep
            refine wpS_bind (wp_gal Y (W.inb p pp) hκ (by omega) (by omega) W.ina (fun u v c1 c2 c3 => ua u v (Nat.zero_le _) c2 (by omega)) fun k k1 k2 k3 => ?_)
            simp only [Bool.false_eq_true, if_false] at k2 k3 ⊢
            refine wp_ite (fun hk => ?_) fun hk => ?_
            · have m2 := MH.blockA (i + 1 - k) k (by omega) (by omega) m ua fun v c1 c2 u c3 => by
                have := k3 v (by omega) (by omega)
                have := ub u j (Nat.zero_le _) (by omega) (by omega)
                omega
              refine wp_ite (fun z => wpS_pure (.inl ⟨_, _, _, rfl, retD _ _ _ m2 (by omega) (by omega) (.inl (by simpa using z)), rfl⟩)) fun z1 => ?_
              have z1 : ¬ k = 0 := by simpa using z1
              obtain ⟨k, rfl⟩ : ∃ k', k = k' + 1 := ⟨k - 1, by omega⟩
              exact wp_hiA (st := setMin st (mg - 1)) (x := x + 2) (mg := mg - 1) (ac := i + 1 - (k + 1)) (bc := bc) (i := k) (j := j) Y W hκ ⟨fun r t hr => .inl ⟨r, t, _, rfl, hr, rfl⟩, fun o i j mg ac bc m h1 h2 h3 h4 h5 => .inr ⟨o, i, j, mg, ac, bc, _, rfl, rfl, m, h1, h2, h3, h4, by omega⟩, fun o i j mg ac bc m h1 h2 h3 h4 h5 => ⟨o, i, j, mg, ac, bc, _, rfl, rfl, m, h1, h2, h3, h4, by omega⟩⟩ m2 (by omega) hj1 hjb (by omega) fun u c1 => by rw [kp]; exact k2 u (Nat.zero_le _) (by omega)
            · exact wp_hiA (st := setMin st (mg - 1)) (x := x + 2) (mg := mg - 1) (ac := i + 1 - k) (bc := bc) (i := i) (j := j) Y W hκ ⟨fun r t hr => .inl ⟨r, t, _, rfl, hr, rfl⟩, fun o i j mg ac bc m h1 h2 h3 h4 h5 => .inr ⟨o, i, j, mg, ac, bc, _, rfl, rfl, m, h1, h2, h3, h4, by omega⟩, fun o i j mg ac bc m h1 h2 h3 h4 h5 => ⟨o, i, j, mg, ac, bc, _, rfl, rfl, m, h1, h2, h3, h4, by omega⟩⟩ m hiS hj1 hjb hij2 fun u c1 => by rw [kp]; exact k2 u (Nat.zero_le _) (by omega)
          · refine wpS_bind (wpS_modify ?_)
            refine wpS_bind (wp_elem hjb fun p ep pp => ?_)
            have kp : Kr rk b j = rk p := Kr_at ep
            refine wpS_bind (wp_gal Y (W.inb p pp) hκ (by omega) (by omega) W.ina (fun u v c1 c2 c3 => ua u v (Nat.zero_le _) c2 (by omega)) fun k k1 k2 k3 => ?_)
            simp only [Bool.false_eq_true, if_false] at k2 k3 ⊢
            refine wp_ite (fun hk => ?_) fun hk => ?_
            · have m2 := MH.blockA (i + 1 - k) k (by omega) (by omega) m ua fun v c1 c2 u c3 => by
                have := k3 v (by omega) (by omega)
                have := ub u j (Nat.zero_le _) (by omega) (by omega)
                omega
              refine wp_ite (fun z => wpS_pure (.inl ⟨_, _, _, rfl, retD _ _ _ m2 (by omega) (by omega) (.inl (by simpa using z)), rfl⟩)) fun z1 => ?_
              have z1 : ¬ k = 0 := by simpa using z1
              obtain ⟨k, rfl⟩ : ∃ k', k = k' + 1 := ⟨k - 1, by omega⟩
              exact wp_hiA (st := setMin st (mg)) (x := x + 2) (mg := mg) (ac := i + 1 - (k + 1)) (bc := bc) (i := k) (j := j) Y W hκ ⟨fun r t hr => .inl ⟨r, t, _, rfl, hr, rfl⟩, fun o i j mg ac bc m h1 h2 h3 h4 h5 => .inr ⟨o, i, j, mg, ac, bc, _, rfl, rfl, m, h1, h2, h3, h4, by omega⟩, fun o i j mg ac bc m h1 h2 h3 h4 h5 => ⟨o, i, j, mg, ac, bc, _, rfl, rfl, m, h1, h2, h3, h4, by omega⟩⟩ m2 (by omega) hj1 hjb (by omega) fun u c1 => by rw [kp]; exact k2 u (Nat.zero_le _) (by omega)
            · exact wp_hiA (st := setMin st (mg)) (x := x + 2) (mg := mg) (ac := i + 1 - k) (bc := bc) (i := i) (j := j) Y W hκ ⟨fun r t hr => .inl ⟨r, t, _, rfl, hr, rfl⟩, fun o i j mg ac bc m h1 h2 h3 h4 h5 => .inr ⟨o, i, j, mg, ac, bc, _, rfl, rfl, m, h1, h2, h3, h4, by omega⟩, fun o i j mg ac bc m h1 h2 h3 h4 h5 => ⟨o, i, j, mg, ac, bc, _, rfl, rfl, m, h1, h2, h3, h4, by omega⟩⟩ m hiS hj1 hjb hij2 fun u c1 => by rw [kp]; exact k2 u (Nat.zero_le _) (by omega)
        · rintro c st' ⟨out, i, j, mg, ac, bc, g, rfl, rfl, m, hi, hj, hia, hjb, hij⟩
          exact .inr ⟨_, _, _, _, _, _, g, rfl, rfl, m, hi, hj, hia, hjb, hij⟩
        · clear hij m hi hj hia hjb
          rintro c st' (⟨r, t, g, rfl, hr, rfl⟩ | ⟨out, i, j, mg, ac, bc, g, rfl, rfl, m, hi, hj, hia, hjb, hij⟩)
          · exact wpS_pure ⟨_, _, g, rfl, hr, rfl⟩
          · dsimp only
            exact wpS_bind (wpS_modify (wpS_pure ⟨_, _, _, _, _, rfl, rfl, m, hi, hj, hia, hjb, by omega⟩))
  · rintro c st' ⟨out, i, j, mg, g, rfl, rfl, m, hi, hj, hia, hjb, hij⟩
    exfalso
    omega
  · rintro c st' ⟨r, t, g, rfl, hr, rfl⟩
    exact wpS_pure (h r g hr)
end
end L2.Tim

set_option Elab.async false
set_option linter.all false
set_option maxRecDepth 100000
namespace L2.Tim
open PySem PyProof.Rows
theorem mergeAt_eq (n : Nat) : mergeAt' n = (do
    let t ← get
    let (some (sa, na, pw), some (sb, nb, _)) := ((pendingOf t)[n]?, (pendingOf t)[n + 1]?) | unsupported "internal:list.sort.pending"
    set (setPending t (((pendingOf t).setIfInBounds n (sa, na + nb, pw)).eraseIdxIfInBounds (n + 1)))
    let some k ← gallop' false (← elem' (arrOf t) sb) (arrOf t) sa na 0 | return false
    let (sa, na) := (sa + k, na - k)
    if na == 0 then return true
    let some nb ← gallop' true (← elem' (arrOf t) (sa + na - 1)) (arrOf t) sb nb (nb - 1) | return false
    if nb == 0 then return true
    let x := (arrOf t).extract sa sb; let y := (arrOf t).extract sb (sb + nb)
    let m ← if na ≤ nb then mergeLo' x y else mergeHi' x y
    modify fun u => setArr u (m.toList.zipIdx.foldl (fun v (p, j) => v.setIfInBounds (sa + j) p) (arrOf u))
    return (failedOf (← get)).isNone) := rfl
def wback (xs : Array Keyed) (sa n : Nat) (l : List Keyed) : Array Keyed := (l.zipIdx n).foldl (fun v (p, j) => v.setIfInBounds (sa + j) p) xs
theorem wback_at {sa : Nat} : ∀ (l : List Keyed) (n : Nat) (xs : Array Keyed), sa + n + l.length ≤ xs.size → ∀ u : Nat, (wback xs sa n l)[u]? = if sa + n ≤ u ∧ u < sa + n + l.length then l[u - (sa + n)]? else xs[u]?
  | [], n, xs, _, u => by
    rw [if_neg (by rw [List.length_nil]; omega)]
    rfl
  | p :: r, n, xs, h, u => by
    have h' : sa + n + (r.length + 1) ≤ xs.size := h
    have ih := wback_at (sa := sa) r (n + 1) (xs.setIfInBounds (sa + n) p) (by rw [Array.size_setIfInBounds]; omega) u
    have e : wback xs sa n (p :: r) = wback (xs.setIfInBounds (sa + n) p) sa (n + 1) r := rfl
    rw [e, ih, Array.getElem?_setIfInBounds]
    simp only [List.length_cons]
    by_cases z : u = sa + n
    · subst z
      rw [if_neg (by omega), if_pos rfl, if_pos (by omega), if_pos (by omega), Nat.sub_self]
      rfl
    · by_cases y : sa + (n + 1) ≤ u ∧ u < sa + (n + 1) + r.length
      · rw [if_pos y, if_pos (by omega), show u - (sa + n) = (u - (sa + (n + 1))) + 1 by omega, List.getElem?_cons_succ]
      · rw [if_neg y, if_neg (fun e => z e.symm), if_neg (by omega)]
theorem wback_list {sa : Nat} (l : List Keyed) (xs : Array Keyed) (h : sa + l.length ≤ xs.size) : (wback xs sa 0 l).toList = xs.toList.take sa ++ l ++ xs.toList.drop (sa + l.length) := by
  refine List.ext_getElem? fun u => ?_
  rw [Array.getElem?_toList, wback_at l 0 xs (by omega), List.append_assoc, List.getElem?_append, List.getElem?_append, List.length_take, Nat.add_zero, show min sa xs.toList.length = sa by rw [Array.length_toList]; omega]
  by_cases z : u < sa
  · rw [if_neg (by omega), if_pos z, List.getElem?_take, if_pos z, Array.getElem?_toList]
  · rw [if_neg z]
    by_cases y : u < sa + l.length
    · rw [if_pos (by omega), if_pos (by omega)]
    · rw [if_neg (by omega), if_neg (by omega), List.getElem?_drop, Array.getElem?_toList]
      congr 1
      omega
theorem wback_perm {sa e : Nat} {l : List Keyed} {xs : Array Keyed} (h : e ≤ xs.size) (hs : sa ≤ e) (p : l.Perm (xs.extract sa e).toList) : (wback xs sa 0 l).Perm xs := by
  have hl : l.length = e - sa := by
    rw [p.length_eq, Array.length_toList, Array.size_extract]
    omega
  refine Array.perm_iff_toList_perm.mpr ?_
  rw [wback_list l xs (by omega)]
  have e1 : xs.toList = xs.toList.take sa ++ (xs.extract sa e).toList ++ xs.toList.drop (sa + l.length) := by
    rw [Array.toList_extract, List.append_assoc, hl]
    have e2 : List.extract xs.toList sa e ++ xs.toList.drop (sa + (e - sa)) = xs.toList.drop sa := by
      rw [List.extract_eq_take_drop, ← List.drop_drop]
      exact List.take_append_drop _ _
    rw [e2, List.take_append_drop]
  conv => rhs; rw [e1]
  exact (p.append_left _).append_right _
section
variable {prog : Program} {w : World} {A : Around} {E : Value → Shared → Prop} {s : Shared} {κ : SortKind} {a₀ : Array Keyed} {rk : Keyed → Int}
theorem wpS_set {st st' : SortSt} {Q : PUnit → SortSt → Prop} (h : Q ⟨⟩ st') : wpS (model prog w) A E s (set st' : StateT SortSt Sem PUnit) Q st := by
  unfold wpS
  rw [StateT.run_set]
  exact wpAny_pure ⟨rfl, h⟩
theorem Kr_extract {xs : Array Keyed} {i k u : Nat} (hk : k ≤ xs.size) (hu : i + u < k) : Kr rk (xs.extract i k) u = Kr rk xs (i + u) := by
  refine Kr_congr ?_
  rw [Array.getElem?_extract, if_pos (by omega)]
theorem mem_extract_at {xs : Array Keyed} {i k : Nat} {p : Keyed} (hk : k ≤ xs.size) (h : p ∈ (xs.extract i k).toList) : ∃ u, i ≤ u ∧ u < k ∧ Kr rk xs u = rk p ∧ p ∈ xs := by
  obtain ⟨n, hn, e⟩ := List.getElem_of_mem h
  have hn' : n < (xs.extract i k).size := by rw [← Array.length_toList]; exact hn
  have hz : i + n < k := by rw [Array.size_extract] at hn'; omega
  have e2 : (xs.extract i k)[n]? = some p := by rw [← Array.getElem?_toList, List.getElem?_eq_getElem hn, e]
  rw [Array.getElem?_extract, if_pos (by omega)] at e2
  exact ⟨i + n, by omega, hz, Kr_at e2, Array.mem_of_getElem? e2⟩
theorem two_of {xs : Array Keyed} {b m e : Nat} (hin : ∀ p ∈ xs, p ∈ a₀) (he : e ≤ xs.size) (h1 : b < m) (h2 : m < e) (u1 : Up rk xs b m) (u2 : Up rk xs m e) (hk : ∀ u, b ≤ u → u < m → Kr rk xs m < Kr rk xs u) (hl : ∀ u, m ≤ u → u < e → Kr rk xs u < Kr rk xs (m - 1)) : Two rk a₀ (xs.extract b m) (xs.extract m e) := by
  have hm : m ≤ xs.size := Nat.le_trans (Nat.le_of_lt h2) he
  obtain ⟨x, rfl⟩ : ∃ x, m = b + x := ⟨m - b, by clear hk hl u1 u2; omega⟩
  obtain ⟨y, rfl⟩ : ∃ y, e = b + x + y := ⟨e - (b + x), by clear hk hl u1 u2; omega⟩
  have x1 : 0 < x := Nat.lt_add_right_iff_pos.mp h1
  have y1 : 0 < y := Nat.lt_add_right_iff_pos.mp h2
  have sx : (xs.extract b (b + x)).size = x := by rw [Array.size_extract, Nat.min_eq_left hm, Nat.add_sub_cancel_left]
  have sy : (xs.extract (b + x) (b + x + y)).size = y := by rw [Array.size_extract, Nat.min_eq_left he, Nat.add_sub_cancel_left]
  have ax : ∀ u, u < x → Kr rk (xs.extract b (b + x)) u = Kr rk xs (b + u) := fun u hu => Kr_extract hm (Nat.add_lt_add_left hu b)
  have ay : ∀ u, u < y → Kr rk (xs.extract (b + x) (b + x + y)) u = Kr rk xs (b + x + u) := fun u hu => Kr_extract he (Nat.add_lt_add_left hu (b + x))
  refine ⟨fun p hp => ?_, fun p hp => ?_, fun i j c1 c2 c3 => ?_, fun i j c1 c2 c3 => ?_, by rw [sx]; exact x1, by rw [sy]; exact y1, fun u hu => ?_, fun u hu => ?_⟩
  · obtain ⟨_, _, _, _, q⟩ := mem_extract_at (rk := rk) hm (Array.mem_toList_iff.mpr hp)
    exact hin p q
  · obtain ⟨_, _, _, _, q⟩ := mem_extract_at (rk := rk) he (Array.mem_toList_iff.mpr hp)
    exact hin p q
  · rw [sx] at c3
    rw [ax i (Nat.lt_of_le_of_lt c2 c3), ax j c3]
    exact u1 _ _ (Nat.le_add_right _ _) (Nat.add_le_add_left c2 b) (Nat.add_lt_add_left c3 b)
  · rw [sy] at c3
    rw [ay i (Nat.lt_of_le_of_lt c2 c3), ay j c3]
    exact u2 _ _ (Nat.le_add_right _ _) (Nat.add_le_add_left c2 (b + x)) (Nat.add_lt_add_left c3 (b + x))
  · rw [sx] at hu
    rw [ay 0 y1, ax u hu, Nat.add_zero]
    exact Int.le_of_lt (hk _ (Nat.le_add_right _ _) (Nat.add_lt_add_left hu b))
  · rw [sy] at hu
    rw [sx, ay u hu, ax (x - 1) (Nat.sub_one_lt_of_lt x1), ← Nat.add_sub_assoc x1]
    exact Int.le_of_lt (hl _ (Nat.le_add_right _ _) (Nat.add_lt_add_left hu (b + x)))
theorem ext_app {xs : Array Keyed} {b m e : Nat} (h1 : b ≤ m) (h2 : m ≤ e) : (xs.extract b m).toList ++ (xs.extract m e).toList = (xs.extract b e).toList := by
  rw [Array.toList_extract, Array.toList_extract, Array.toList_extract, List.extract_eq_take_drop, List.extract_eq_take_drop, List.extract_eq_take_drop]
  obtain ⟨x, rfl⟩ : ∃ x, m = b + x := ⟨m - b, (Nat.add_sub_cancel' h1).symm⟩
  obtain ⟨y, rfl⟩ : ∃ y, e = b + x + y := ⟨e - (b + x), (Nat.add_sub_cancel' h2).symm⟩
  rw [Nat.add_sub_cancel_left, Nat.add_sub_cancel_left, Nat.add_assoc b x y, Nat.add_sub_cancel_left, ← List.drop_drop]
  exact List.take_add.symm
theorem back_up {xs out : Array Keyed} {sa b m e f : Nat} (hf : f ≤ xs.size) (h0 : sa ≤ b) (h1 : b ≤ m) (h2 : m ≤ e) (h3 : e ≤ f) (hm : Mrg rk (xs.extract b m) (xs.extract m e) out)
    (lowB : ∀ u v, sa ≤ u → u < b → u ≤ v → v < f → Kr rk xs u ≤ Kr rk xs v) (highB : ∀ u v, sa ≤ u → u ≤ v → e ≤ v → v < f → Kr rk xs u ≤ Kr rk xs v) : (wback xs b 0 out.toList).Perm xs ∧ Off xs (wback xs b 0 out.toList) sa f ∧ Up rk (wback xs b 0 out.toList) sa f := by
  have hbe := Nat.le_trans h1 h2
  have hes := Nat.le_trans h3 hf
  have hp := hm.1
  have srt := hm.2
  rw [ext_app h1 h2] at hp
  clear hm h1 h2
  have hl : out.toList.length = e - b := by
    rw [hp.length_eq, Array.length_toList, Array.size_extract, Nat.min_eq_left hes]
  have hbl : b + out.toList.length = e := by rw [hl]; exact Nat.add_sub_cancel' hbe
  have hat := wback_at (sa := b) out.toList 0 xs (by rw [Nat.add_zero, hbl]; exact hes)
  rw [Nat.add_zero, hbl] at hat
  have hoff : Off xs (wback xs b 0 out.toList) b e := fun u hu => by
    rw [hat, if_neg]
    rintro ⟨z1, z2⟩
    rcases hu with y | y
    · exact Nat.lt_irrefl _ (Nat.lt_of_lt_of_le y z1)
    · exact Nat.lt_irrefl _ (Nat.lt_of_lt_of_le z2 y)
  have inn : ∀ u, b ≤ u → u < e → u - b < out.toList.length := fun u c1 c2 => by rw [hl]; exact Nat.sub_lt_sub_right c1 c2
  have put : ∀ u (c1 : b ≤ u) (c2 : u < e), Kr rk (wback xs b 0 out.toList) u = rk (out.toList[u - b]'(inn u c1 c2)) := fun u c1 c2 => by
    refine Kr_at ?_
    rw [hat, if_pos ⟨c1, c2⟩]
    exact List.getElem?_eq_getElem (inn u c1 c2)
  have hmid : ∀ u, b ≤ u → u < e → ∃ v, b ≤ v ∧ v < e ∧ Kr rk (wback xs b 0 out.toList) u = Kr rk xs v := fun u c1 c2 => by
    obtain ⟨v, v1, v2, v3, _⟩ := mem_extract_at (rk := rk) hes (hp.mem_iff.mp (List.getElem_mem (inn u c1 c2)))
    exact ⟨v, v1, v2, by rw [put u c1 c2, v3]⟩
  have lowE : ∀ u, u < b → Kr rk (wback xs b 0 out.toList) u = Kr rk xs u := fun u hu => Kr_congr (hoff u (.inl hu))
  have highE : ∀ u, e ≤ u → Kr rk (wback xs b 0 out.toList) u = Kr rk xs u := fun u hu => Kr_congr (hoff u (.inr hu))
  refine ⟨wback_perm (e := e) hes hbe hp, hoff.wide h0 h3, fun i j c1 c2 c3 => ?_⟩
  by_cases i1 : i < b
  · rw [lowE i i1]
    by_cases j1 : j < b
    · rw [lowE j j1]
      exact lowB i j c1 i1 c2 c3
    · have j1 := Nat.le_of_not_lt j1
      by_cases j2 : j < e
      · obtain ⟨v, v1, v2, v3⟩ := hmid j j1 j2
        rw [v3]
        exact lowB i v c1 i1 (Nat.le_trans (Nat.le_of_lt i1) v1) (Nat.lt_of_lt_of_le v2 h3)
      · rw [highE j (Nat.le_of_not_lt j2)]
        exact lowB i j c1 i1 c2 c3
  · have i1 := Nat.le_of_not_lt i1
    by_cases i2 : i < e
    · by_cases j2 : j < e
      · have j1 := Nat.le_trans i1 c2
        rw [put i i1 i2, put j j1 j2]
        rcases Nat.lt_or_eq_of_le c2 with ij | ij
        · exact List.pairwise_iff_getElem.mp srt _ _ (inn i i1 i2) (inn j j1 j2) (Nat.sub_lt_sub_right i1 ij)
        · subst ij
          exact Int.le_refl _
      · have j2 := Nat.le_of_not_lt j2
        obtain ⟨v, v1, v2, v3⟩ := hmid i i1 i2
        rw [v3, highE j j2]
        exact highB v j (Nat.le_trans h0 v1) (Nat.le_trans (Nat.le_of_lt v2) j2) j2 c3
    · have i2 := Nat.le_of_not_lt i2
      have j2 := Nat.le_trans i2 c2
      rw [highE i i2, highE j j2]
      exact highB i j c1 c2 j2 c3
theorem low_up {xs : Array Keyed} {sa b m f : Nat} (h1 : b ≤ m) (u1 : Up rk xs sa m) (u2 : Up rk xs m f) (k2 : ∀ u, sa ≤ u → u < b → Kr rk xs u ≤ Kr rk xs m) : ∀ u v, sa ≤ u → u < b → u ≤ v → v < f → Kr rk xs u ≤ Kr rk xs v := fun u v d1 d2 d3 d4 => by
  by_cases x1 : v < m
  · exact u1 u v d1 d3 x1
  · have x1 := Nat.le_of_not_lt x1
    exact Int.le_trans (k2 u d1 d2) (u2 m v (Nat.le_refl _) x1 d4)
theorem high_up {xs : Array Keyed} {sa m e f : Nat} (u1 : Up rk xs sa m) (u2 : Up rk xs m f) (l3 : ∀ v, e ≤ v → v < f → Kr rk xs (m - 1) ≤ Kr rk xs v) : ∀ u v, sa ≤ u → u ≤ v → e ≤ v → v < f → Kr rk xs u ≤ Kr rk xs v := fun u v d1 d2 d3 d4 => by
  by_cases x1 : u < m
  · exact Int.le_trans (u1 u (m - 1) d1 (Nat.le_sub_one_of_lt x1) (Nat.sub_one_lt_of_lt x1)) (l3 v d3 d4)
  · exact u2 u v (Nat.le_of_not_lt x1) d2 d4
set_option maxHeartbeats 4000000 in
theorem wp_mergeAt (Y : Ask prog w A E s κ a₀ rk) {st : SortSt} {n sa na pw nb qw : Nat} {Q : Bool → SortSt → Prop} (hB : SB κ a₀ st) (e1 : (pendingOf st)[n]? = some (sa, na, pw)) (e2 : (pendingOf st)[n + 1]? = some (sa + na, nb, qw)) (h1 : 1 ≤ na) (h2 : 1 ≤ nb) (hz : sa + na + nb ≤ a₀.size)
    (u1 : Up rk (arrOf st) sa (sa + na)) (u2 : Up rk (arrOf st) (sa + na) (sa + na + nb))
    (h : ∀ st', SB κ a₀ st' → pendingOf st' = ((pendingOf st).setIfInBounds n (sa, na + nb, pw)).eraseIdxIfInBounds (n + 1) → Off (arrOf st) (arrOf st') sa (sa + na + nb) → Up rk (arrOf st') sa (sa + na + nb) → Q true st') : wpS (model prog w) A E s (mergeAt' n) Q st := by
  rw [mergeAt_eq]
  refine wpS_bind (wpS_get ?_)
  dsimp only
  rw [e1, e2]
  dsimp only
  refine wpS_bind (wpS_set ?_)
  generalize hpn : ((pendingOf st).setIfInBounds n (sa, na + nb, pw)).eraseIdxIfInBounds (n + 1) = pn at h ⊢
  clear hpn e1 e2
  have hB1 : SB κ a₀ (setPending st pn) := ⟨hB.perm, hB.kind, hB.fine⟩
  have hin : ∀ p ∈ arrOf st, p ∈ a₀ := fun p hp => hB.perm.mem_iff.mp hp
  have hf : sa + na + nb ≤ (arrOf st).size := by rw [show (arrOf st).size = a₀.size from hB.size]; exact hz
  have hm : sa + na < (arrOf st).size := Nat.lt_of_lt_of_le (Nat.lt_add_of_pos_right h2) hf
  refine wpS_bind (wp_elem hm fun kb eb mb => ?_)
  have kkb : Kr rk (arrOf st) (sa + na) = rk kb := Kr_at eb
  refine wpS_bind (wp_gal Y (hin kb mb) hB.kind h1 (Nat.le_of_lt hm) hin u1 fun k k1 k2 k3 => ?_)
  simp only [Bool.false_eq_true, if_false] at k2 k3 ⊢
  rw [← kkb] at k2 k3
  obtain ⟨d, rfl⟩ : ∃ d, na = k + d := ⟨na - k, (Nat.add_sub_cancel' k1).symm⟩
  rw [Nat.add_sub_cancel_left]
  refine wp_ite (fun z => ?_) fun z => ?_
  · have z : d = 0 := by simpa using z
    subst z
    refine wpS_pure (h _ hB1 rfl (Off.refl _ _ _) fun i j c1 c2 c3 => ?_)
    show Kr rk (arrOf st) i ≤ Kr rk (arrOf st) j
    by_cases y2 : i < sa + (k + 0)
    · exact low_up (b := sa + (k + 0)) (Nat.le_refl _) u1 u2 k2 i j c1 y2 c2 c3
    · exact u2 i j (Nat.le_of_not_lt y2) c2 c3
  have z : 0 < d := Nat.pos_of_ne_zero (by simpa using z)
  have em : sa + k + d = sa + (k + d) := Nat.add_assoc sa k d
  refine wpS_bind (wp_elem (Nat.lt_of_le_of_lt (Nat.sub_le _ _) (by rw [em]; exact hm)) fun ka ea ma => ?_)
  have kka : Kr rk (arrOf st) (sa + (k + d) - 1) = rk ka := by rw [← em]; exact Kr_at ea
  refine wpS_bind (wp_gal Y (hin ka ma) hB.kind (Nat.sub_one_lt_of_lt h2) hf hin u2 fun l l1 l2 l3 => ?_)
  simp only [if_true] at l2 l3 ⊢
  rw [← kka] at l2 l3
  refine wp_ite (fun y => ?_) fun y => ?_
  · have y : l = 0 := by simpa using y
    subst y
    refine wpS_pure (h _ hB1 rfl (Off.refl _ _ _) fun i j c1 c2 c3 => ?_)
    show Kr rk (arrOf st) i ≤ Kr rk (arrOf st) j
    by_cases y1 : j < sa + (k + d)
    · exact u1 i j c1 c2 y1
    · exact high_up u1 u2 l3 i j c1 c2 (Nat.le_of_not_lt y1) c3
  have y : 0 < l := Nat.pos_of_ne_zero (by simpa using y)
  have h3 : sa + (k + d) + l ≤ sa + (k + d) + nb := Nat.add_le_add_left l1 _
  have hbm : sa + k < sa + (k + d) := Nat.add_lt_add_left (Nat.lt_add_of_pos_right z) sa
  have hme : sa + (k + d) < sa + (k + d) + l := Nat.lt_add_of_pos_right y
  have T : Two rk a₀ ((arrOf st).extract (sa + k) (sa + (k + d))) ((arrOf st).extract (sa + (k + d)) (sa + (k + d) + l)) := two_of hin (Nat.le_trans h3 hf) hbm hme (fun i j c1 c2 c3 => u1 i j (Nat.le_trans (Nat.le_add_right sa k) c1) c2 c3) (fun i j c1 c2 c3 => u2 i j c1 c2 (Nat.lt_of_lt_of_le c3 h3)) k3 l2
  have fin : ∀ (out : Array Keyed) (g : Nat), Mrg rk ((arrOf st).extract (sa + k) (sa + (k + d))) ((arrOf st).extract (sa + (k + d)) (sa + (k + d) + l)) out → Q (failedOf (setArr (setMin (setPending st pn) g) (wback (arrOf st) (sa + k) 0 out.toList))).isNone (setArr (setMin (setPending st pn) g) (wback (arrOf st) (sa + k) 0 out.toList)) := fun out g hm => by
    obtain ⟨p1, p2, p3⟩ := back_up (sa := sa) hf (Nat.le_add_right sa k) (Nat.le_of_lt hbm) (Nat.le_of_lt hme) h3 hm (low_up (Nat.le_of_lt hbm) u1 u2 k2) (high_up u1 u2 l3)
    have hB2 : SB κ a₀ (setMin (setPending st pn) g) := ⟨hB.perm, hB.kind, hB.fine⟩
    have e : (failedOf (setArr (setMin (setPending st pn) g) (wback (arrOf st) (sa + k) 0 out.toList))).isNone = true := by
      show (failedOf st).isNone = true
      rw [show failedOf st = none from hB.fine]
      rfl
    rw [e]
    exact h _ (hB2.put p1) rfl p2 p3
  refine wp_ite (fun v => ?_) fun v => ?_
  · exact wpS_bind (wp_mergeLo Y T hB.kind fun out g hm => wpS_bind (wpS_modify (wpS_bind (wpS_get (wpS_pure (fin out g hm))))))
  · exact wpS_bind (wp_mergeHi Y T hB.kind fun out g hm => wpS_bind (wpS_modify (wpS_bind (wpS_get (wpS_pure (fin out g hm))))))
end
end L2.Tim

set_option Elab.async false
set_option linter.all false
set_option maxRecDepth 100000
namespace L2.Tim
open PySem PyProof.Rows
abbrev Run := Nat × Nat × Nat
/-- runs side by side, each rising -/
def Runs (rk : Keyed → Int) (xs : Array Keyed) : Nat → List Run → Nat → Prop
  | lo, [], hi => lo = hi
  | lo, r :: rs, hi => r.1 = lo ∧ 1 ≤ r.2.1 ∧ Up rk xs lo (lo + r.2.1) ∧ Runs rk xs (lo + r.2.1) rs hi
section
variable {rk : Keyed → Int}
theorem Runs.le {xs : Array Keyed} : ∀ {l : List Run} {lo hi : Nat}, Runs rk xs lo l hi → lo + l.length ≤ hi
  | [], lo, hi, h => by
    have h : lo = hi := h
    rw [List.length_nil]
    omega
  | r :: rs, lo, hi, h => by
    have := Runs.le h.2.2.2
    have := h.2.1
    rw [List.length_cons]
    omega
theorem Runs.app {xs : Array Keyed} : ∀ {l k : List Run} {lo hi : Nat}, Runs rk xs lo (l ++ k) hi ↔ ∃ m, Runs rk xs lo l m ∧ Runs rk xs m k hi
  | [], k, lo, hi => ⟨fun h => ⟨lo, rfl, h⟩, fun ⟨m, e, h⟩ => by
      have e : lo = m := e
      subst e
      exact h⟩
  | r :: rs, k, lo, hi => by
    show (r.1 = lo ∧ 1 ≤ r.2.1 ∧ Up rk xs lo (lo + r.2.1) ∧ Runs rk xs (lo + r.2.1) (rs ++ k) hi) ↔ _
    rw [Runs.app]
    constructor
    · rintro ⟨h1, h2, h3, m, h4, h5⟩
      exact ⟨m, ⟨h1, h2, h3, h4⟩, h5⟩
    · rintro ⟨m, ⟨h1, h2, h3, h4⟩, h5⟩
      exact ⟨h1, h2, h3, m, h4, h5⟩
theorem Runs.off {xs ys : Array Keyed} {u v : Nat} (o : Off xs ys u v) : ∀ {l : List Run} {lo hi : Nat}, Runs rk xs lo l hi → (hi ≤ u ∨ v ≤ lo) → Runs rk ys lo l hi
  | [], lo, hi, h, _ => h
  | r :: rs, lo, hi, h, z => by
    have hl := Runs.le h.2.2.2
    exact ⟨h.1, h.2.1, o.up h.2.2.1 (by omega), Runs.off o h.2.2.2 (by omega)⟩
theorem Runs.same {xs : Array Keyed} : ∀ {l k : List Run} {lo hi : Nat}, l.map (fun r => (r.1, r.2.1)) = k.map (fun r => (r.1, r.2.1)) → Runs rk xs lo l hi → Runs rk xs lo k hi
  | [], [], lo, hi, _, h => h
  | [], _ :: _, _, _, e, _ => by cases e
  | _ :: _, [], _, _, e, _ => by cases e
  | r :: rs, q :: qs, lo, hi, e, h => by
    rw [List.map_cons, List.map_cons] at e
    obtain ⟨e1, e2⟩ := List.cons.inj e
    obtain ⟨e3, e4⟩ := Prod.mk.inj e1
    refine ⟨by rw [← e3]; exact h.1, by rw [← e4]; exact h.2.1, by rw [← e4]; exact h.2.2.1, ?_⟩
    rw [← e4]
    exact Runs.same e2 h.2.2.2
theorem cut_two {α : Type} {l : List α} {n : Nat} {r q : α} (e1 : l[n]? = some r) (e2 : l[n + 1]? = some q) : ∃ l1 l2, l = l1 ++ r :: q :: l2 ∧ l1.length = n := by
  obtain ⟨h1, g1⟩ := List.getElem?_eq_some_iff.mp e1
  obtain ⟨h2, g2⟩ := List.getElem?_eq_some_iff.mp e2
  refine ⟨l.take n, l.drop (n + 2), ?_, by rw [List.length_take]; omega⟩
  conv => lhs; rw [← List.take_append_drop n l]
  congr 1
  rw [List.drop_eq_getElem_cons h1, List.drop_eq_getElem_cons h2, g1, g2]
theorem Runs.two {xs : Array Keyed} {p : Array Run} {n sa na pw sb nb qw hi : Nat} (h : Runs rk xs 0 p.toList hi) (e1 : p[n]? = some (sa, na, pw)) (e2 : p[n + 1]? = some (sb, nb, qw)) :
    sb = sa + na ∧ 1 ≤ na ∧ 1 ≤ nb ∧ sa + na + nb ≤ hi ∧ Up rk xs sa (sa + na) ∧ Up rk xs (sa + na) (sa + na + nb) ∧
      ∀ ys, Off xs ys sa (sa + na + nb) → Up rk ys sa (sa + na + nb) → Runs rk ys 0 ((p.setIfInBounds n (sa, na + nb, pw)).eraseIdxIfInBounds (n + 1)).toList hi ∧ ((p.setIfInBounds n (sa, na + nb, pw)).eraseIdxIfInBounds (n + 1)).size + 1 = p.size := by
  rw [← Array.getElem?_toList] at e1 e2
  obtain ⟨l1, l2, el, hl⟩ := cut_two e1 e2
  have hn : n + 1 < p.toList.length := (List.getElem?_eq_some_iff.mp e2).1
  have hn' : n + 1 < p.size := by simpa using hn
  rw [el] at h
  obtain ⟨m, h1, h2⟩ := Runs.app.mp h
  obtain ⟨a1, a2, a3, b1, b2, b3, b4⟩ := h2
  dsimp only at a1 a2 a3 b1 b2 b3 b4
  subst a1
  have hle := Runs.le b4
  refine ⟨b1, a2, b2, by omega, a3, b3, fun ys o u => ⟨?_, ?_⟩⟩
  · have ep : ((p.setIfInBounds n (sa, na + nb, pw)).eraseIdxIfInBounds (n + 1)).toList = l1 ++ (sa, na + nb, pw) :: l2 := by
      have hz : n + 1 < (p.setIfInBounds n (sa, na + nb, pw)).size := by rw [Array.size_setIfInBounds]; exact hn'
      rw [Array.eraseIdxIfInBounds, dif_pos hz, Array.toList_eraseIdx, Array.toList_setIfInBounds, el]
      rw [List.set_append_right _ _ (by omega), hl, Nat.sub_self, List.set_cons_zero, List.eraseIdx_append_of_length_le (by omega), hl]
      rw [show n + 1 - n = 1 by omega]
      rfl
    rw [ep]
    refine Runs.app.mpr ⟨sa, Runs.off o h1 (.inl (Nat.le_refl _)), rfl, by show 1 ≤ na + nb; omega, by show Up rk ys sa (sa + (na + nb)); rw [← Nat.add_assoc]; exact u, ?_⟩
    show Runs rk ys (sa + (na + nb)) l2 hi
    rw [← Nat.add_assoc]
    exact Runs.off o b4 (.inr (Nat.le_refl _))
  · have hz : n + 1 < (p.setIfInBounds n (sa, na + nb, pw)).size := by rw [Array.size_setIfInBounds]; exact hn'
    rw [Array.eraseIdxIfInBounds, dif_pos hz, Array.size_eraseIdx, Array.size_setIfInBounds]
    omega
end
section
variable {prog : Program} {w : World} {A : Around} {E : Value → Shared → Prop} {s : Shared} {κ : SortKind} {a₀ : Array Keyed} {rk : Keyed → Int}
theorem wp_mergeRuns (Y : Ask prog w A E s κ a₀ rk) {st : SortSt} {n hi : Nat} {Q : Bool → SortSt → Prop} (hB : SB κ a₀ st) (hR : Runs rk (arrOf st) 0 (pendingOf st).toList hi) (hhi : hi ≤ a₀.size) (hn : n + 1 < (pendingOf st).size)
    (h : ∀ st', SB κ a₀ st' → Runs rk (arrOf st') 0 (pendingOf st').toList hi → (pendingOf st').size + 1 = (pendingOf st).size → (∀ u, hi ≤ u → (arrOf st')[u]? = (arrOf st)[u]?) → Q true st') : wpS (model prog w) A E s (mergeAt' n) Q st := by
  obtain ⟨⟨sa, na, pw⟩, e1⟩ : ∃ r, (pendingOf st)[n]? = some r := ⟨_, getElem?_pos _ n (by omega)⟩
  obtain ⟨⟨sb, nb, qw⟩, e2⟩ : ∃ r, (pendingOf st)[n + 1]? = some r := ⟨_, getElem?_pos _ (n + 1) hn⟩
  obtain ⟨rfl, h1, h2, h3, u1, u2, k⟩ := hR.two e1 e2
  refine wp_mergeAt Y hB e1 e2 h1 h2 (by omega) u1 u2 fun st' b1 b2 b3 b4 => ?_
  obtain ⟨k1, k2⟩ := k _ b3 b4
  refine h st' b1 (by rw [b2]; exact k1) (by rw [b2]; exact k2) fun u hu => b3 u (.inr (by omega))
theorem mod_same (p : Array Run) (n pw : Nat) : (p.modify n fun (a, b, _) => (a, b, pw)).toList.map (fun r => (r.1, r.2.1)) = p.toList.map fun r => (r.1, r.2.1) := by
  refine List.ext_getElem? fun i => ?_
  rw [List.getElem?_map, List.getElem?_map, Array.getElem?_toList, Array.getElem?_toList, Array.getElem?_modify]
  split
  · cases p[i]? <;> rfl
  · rfl
set_option maxHeartbeats 4000000 in
/-- sorting, of any length -/
theorem wp_sortRuns (Y : Ask prog w A E s κ a₀ rk) {st : SortSt} {Q : Unit → SortSt → Prop} (hB : SB κ a₀ st) (hp : pendingOf st = #[]) (h : ∀ st', SB κ a₀ st' → Up rk (arrOf st') 0 a₀.size → Q () st') : wpS (model prog w) A E s sortRuns' Q st := by
  rw [sortRuns'_eq]
  refine wpS_bind (wpS_get ?_)
  dsimp only
  rw [hB.size]
  generalize minRun' a₀.size a₀.size 0 = mr
  refine wpS_bind (wpS_mono (wpS_forRange (fun x c st' => ∃ lo, c = (none, lo) ∧ SB κ a₀ st' ∧ x ≤ lo ∧ lo ≤ a₀.size ∧ Runs rk (arrOf st') 0 (pendingOf st').toList lo) (Q := fun c st' => c = (none, a₀.size) ∧ SB κ a₀ st' ∧ Runs rk (arrOf st') 0 (pendingOf st').toList a₀.size) ?_ ?_ ⟨0, rfl, hB, Nat.le_refl _, Nat.zero_le _, by rw [hp]; rfl⟩) ?_)
  · rintro x c st' _ hx ⟨lo, rfl, hB', a1, a2, a3⟩
    dsimp only
    refine wp_ite (fun z => ?_) fun z => ?_
    · have e : lo = a₀.size := by omega
      subst e
      exact wpS_pure ⟨rfl, hB', a3⟩
    refine wpS_bind (wp_countRun Y (by omega) (by omega) hB' fun k st2 hB2 p2 k1 k2 o2 u2 => ?_)
    dsimp only
    have r2 : Runs rk (arrOf st2) 0 (pendingOf st2).toList lo := by rw [p2]; exact Runs.off o2 a3 (.inl (Nat.le_refl _))
    -- from the run on
    have rest : ∀ (n : Nat) (st3 : SortSt), SB κ a₀ st3 → Runs rk (arrOf st3) 0 (pendingOf st3).toList lo → 1 ≤ n → lo + n ≤ a₀.size → Up rk (arrOf st3) lo (lo + n) →
        SB κ a₀ (setPending st3 ((pendingOf st3).push (lo, n, 0))) ∧ Runs rk (arrOf st3) 0 ((pendingOf st3).push (lo, n, 0)).toList (lo + n) := fun n st3 b1 b2 b3 b4 b5 => by
      refine ⟨⟨b1.perm, b1.kind, b1.fine⟩, ?_⟩
      rw [Array.toList_push]
      exact Runs.app.mpr ⟨lo, b2, rfl, b3, b5, rfl⟩
    have fin : ∀ (n : Nat) (st3 : SortSt), SB κ a₀ st3 → Runs rk (arrOf st3) 0 (pendingOf st3).toList lo → 1 ≤ n → lo + n ≤ a₀.size → Up rk (arrOf st3) lo (lo + n) → ∃ lo', (none, lo + n) = ((none : Option Unit), lo') ∧ SB κ a₀ (setPending st3 ((pendingOf st3).push (lo, n, 0))) ∧ x + 1 ≤ lo' ∧ lo' ≤ a₀.size ∧ Runs rk (arrOf st3) 0 ((pendingOf st3).push (lo, n, 0)).toList lo' := fun n st3 b1 b2 b3 b4 b5 => by
      obtain ⟨c1, c2⟩ := rest n st3 b1 b2 b3 b4 b5
      exact ⟨_, rfl, c1, by omega, b4, c2⟩
    refine wp_ite (fun y => ?_) fun y => ?_
    all_goals first
      | (obtain ⟨st3, est3⟩ : ∃ st3, st3 = st2 := ⟨_, rfl⟩
         obtain ⟨n3, en3⟩ : ∃ n3, n3 = k := ⟨_, rfl⟩
         have hge : ¬ n3 < mr := by omega
         have hB3 : SB κ a₀ st3 := by rw [est3]; exact hB2
         have r3 : Runs rk (arrOf st3) 0 (pendingOf st3).toList lo := by rw [est3]; exact r2
         have u3 : Up rk (arrOf st3) lo (lo + n3) := by rw [est3, en3]; exact u2
         have n31 : 1 ≤ n3 := by omega
         have n32 : lo + n3 ≤ a₀.size := by omega
         rw [← est3, ← en3])
      | (refine wpS_bind (wpS_lift (wpAny_rule ⟨rfl, ?_⟩))
         refine wpS_bind (wp_binarySort Y (by omega) (by omega) hB2 u2 fun st3 hB3 p3 o3 u3 => ?_)
         simp only [Bool.not_true, Bool.false_eq_true, if_false]
         have r3 : Runs rk (arrOf st3) 0 (pendingOf st3).toList lo := by rw [p3]; exact Runs.off o3 r2 (.inl (Nat.le_refl _))
         obtain ⟨n3, en3⟩ : ∃ n3, n3 = min (a₀.size - lo) mr := ⟨_, rfl⟩
         have n31 : 1 ≤ n3 := by omega
         have n32 : lo + n3 ≤ a₀.size := by omega
         rw [← en3] at u3 ⊢)
    all_goals
      refine wpS_bind (wpS_get ?_)
      cases hb : (pendingOf st3).back? with
      | none =>
        dsimp only
        exact wpS_bind (wpS_modify (wpS_pure (fin n3 st3 hB3 r3 n31 n32 u3)))
      | some q =>
        obtain ⟨s1, n1, q1⟩ := q
        dsimp only
        generalize power' a₀.size (2 * s1 + n1) (2 * s1 + n1 + n1 + n3) a₀.size = pw
        refine wpS_bind (wpS_mono (wpS_forRange (fun y c st4 => c = (none, ()) ∧ SB κ a₀ st4 ∧ Runs rk (arrOf st4) 0 (pendingOf st4).toList lo ∧ Up rk (arrOf st4) lo (lo + n3)) (Q := fun c st4 => c = (none, ()) ∧ SB κ a₀ st4 ∧ Runs rk (arrOf st4) 0 (pendingOf st4).toList lo ∧ Up rk (arrOf st4) lo (lo + n3)) ?_ (fun c st4 hh => hh) ⟨rfl, hB3, r3, u3⟩) ?_)
        · rintro y c st4 _ _ ⟨rfl, hB4, r4, u4⟩
          refine wpS_bind (wpS_get ?_)
          by_cases z1 : (pendingOf st4).size > 1
          · rw [if_pos z1]
            obtain ⟨⟨f1, f2, old⟩, ef⟩ : ∃ r, (pendingOf st4)[(pendingOf st4).size - 2]? = some r := ⟨_, getElem?_pos _ _ (by omega)⟩
            rw [ef]
            dsimp only
            refine wp_ite (fun z => wpS_pure ⟨rfl, hB4, r4, u4⟩) fun z2 => ?_
            refine wpS_bind (wp_mergeRuns Y hB4 r4 (by omega) (by omega) fun st5 hB5 r5 s5 o5 => ?_)
            simp only [Bool.not_true, Bool.false_eq_true, if_false]
            refine wpS_pure ⟨rfl, hB5, r5, fun i j c1 c2 c3 => ?_⟩
            rw [Kr_congr (o5 i (by omega)), Kr_congr (o5 j (by omega))]
            exact u4 i j c1 c2 c3
          · rw [if_neg z1]
            exact wpS_pure ⟨rfl, hB4, r4, u4⟩
        · rintro c st4 ⟨rfl, hB4, r4, u4⟩
          dsimp only
          refine wpS_bind (wpS_modify ?_)
          refine wpS_bind (wpS_modify (wpS_pure ?_))
          exact fin n3 (setPending st4 ((pendingOf st4).modify ((pendingOf st4).size - 1) fun (a, b, _) => (a, b, pw))) ⟨hB4.perm, hB4.kind, hB4.fine⟩ (Runs.same (mod_same _ _ _).symm r4) n31 n32 u4
  · rintro c st' ⟨lo, rfl, hB', a1, a2, a3⟩
    have e : lo = a₀.size := by omega
    subst e
    exact ⟨rfl, hB', a3⟩
  · rintro c st' ⟨rfl, hB', a3⟩
    dsimp only
    refine wpS_bind (wpS_mono (wpS_forRange (fun y c st4 => c = (none, ()) ∧ SB κ a₀ st4 ∧ Runs rk (arrOf st4) 0 (pendingOf st4).toList a₀.size ∧ (pendingOf st4).size + y ≤ a₀.size + 1) (Q := fun c st4 => c = (none, ()) ∧ SB κ a₀ st4 ∧ Runs rk (arrOf st4) 0 (pendingOf st4).toList a₀.size ∧ (pendingOf st4).size ≤ 1) ?_ (fun c st4 ⟨e1, e2, e3, e4⟩ => ⟨e1, e2, e3, by omega⟩) ⟨rfl, hB', a3, by have := a3.le; rw [Array.length_toList] at this; omega⟩) ?_)
    · rintro y c st4 _ hy ⟨rfl, hB4, r4, l4⟩
      refine wpS_bind (wpS_get ?_)
      refine wp_ite (fun z => wpS_pure ⟨rfl, hB4, r4, z⟩) fun z => ?_
      have key : ∀ n, n + 1 < (pendingOf st4).size → ∀ {R : Bool → SortSt → Prop}, (∀ st5, SB κ a₀ st5 → Runs rk (arrOf st5) 0 (pendingOf st5).toList a₀.size → (pendingOf st5).size + (y + 1) ≤ a₀.size + 1 → R true st5) → wpS (model prog w) A E s (mergeAt' n) R st4 := fun n hn R hR => wp_mergeRuns Y hB4 r4 (Nat.le_refl _) hn fun st5 b1 b2 b3 b4 => hR st5 b1 b2 (by omega)
      refine wpS_bind (key _ ?_ fun st5 b1 b2 b3 => ?_)
      · have less : ∀ (c : Prop) [Decidable c] (n : Nat), (if c then n - 1 else n) ≤ n := fun c _ n => by split <;> omega
        exact Nat.lt_of_le_of_lt (Nat.succ_le_succ (less _ _)) (by omega)
      · simp only [Bool.not_true, Bool.false_eq_true, if_false]
        exact wpS_pure ⟨rfl, b1, b2, b3⟩
    · rintro c st4 ⟨rfl, hB4, r4, l4⟩
      refine wpS_pure (h st4 hB4 ?_)
      cases hl : (pendingOf st4).toList with
      | nil =>
        rw [hl] at r4
        have e : 0 = a₀.size := r4
        exact fun i j c1 c2 c3 => by omega
      | cons r rs =>
        have hz : (pendingOf st4).toList.length ≤ 1 := by rw [Array.length_toList]; exact l4
        rw [hl] at r4 hz
        have hz' : rs.length = 0 := by
          rw [List.length_cons] at hz
          omega
        have e : rs = [] := List.eq_nil_of_length_eq_zero hz'
        subst e
        obtain ⟨_, _, c3, c4⟩ := r4
        have c4 : 0 + r.2.1 = a₀.size := c4
        rw [c4] at c3
        exact c3
end
end L2.Tim

set_option Elab.async false
set_option linter.all false
set_option maxRecDepth 100000
namespace L2.Tim
open PySem PyProof.Rows
section
variable {prog : Program} {w : World} {A : Around} {E : Value → Shared → Prop} {s : Shared} {rk : Keyed → Int}
/-- numbers tell their order -/
theorem ask_ints {vs : List Value} {ns : List Int} (hI : IntsAre vs ns) : Ask prog w A E s oneType' (pairsOf vs) fun p => numOf p.1 where
  tell := fun x y hx hy st Q hk h => by
    obtain ⟨a, t, ea⟩ := hI.intKeys x (Array.mem_toList_iff.mpr hx)
    obtain ⟨b, u, eb⟩ := hI.intKeys y (Array.mem_toList_iff.mpr hy)
    rw [lt'_eq]
    refine wpS_bind (wpS_get ?_)
    rw [hk, keyLt'_oneType, ea, eb]
    refine wpS_bind (wpS_lift (wpAny_attempt (oneLt_int ⟨rfl, ?_⟩)))
    refine wpS_pure ?_
    rw [ea, eb] at h
    exact h
set_option maxHeartbeats 2000000 in
/-- list.sort with the keys' kind and their order given -/
theorem sort_shell {a : Addr} {vs : List Value} {n : Nat} {κ : SortKind} {P : PySem.Fin → Shared → Prop} (ho : s.heap.get? a = some (seqObj "list" vs.toArray n)) (hz : vs.length ≤ sizeLine)
    (hk : ∀ h' : Heap, (∀ b o, b ≠ a → s.heap.get? b = some o → h'.get? b = some o) → 2 ≤ vs.length → ∀ Q : SortKind → Shared → Prop, Q κ { s with heap := h' } → wpAny (model prog w) A (keyKind' vs.toArray) Q E { s with heap := h' })
    (hY : ∀ h' : Heap, (∀ b o, b ≠ a → s.heap.get? b = some o → h'.get? b = some o) → 2 ≤ vs.length → Ask prog w A E { s with heap := h' } κ (pairsOf vs) rk)
    (h : ∀ xs : Array Keyed, xs.Perm (pairsOf vs) → Up rk xs 0 vs.length → P (.done (.ret .none)) { s with heap := sortedHeap s.heap a vs (xs.map (·.2)) }) :
    wpAny (model prog w) A (Builtin.«list.sort» ⟨[.ref a], []⟩) P E s := by
  rw [list_sort_plain]
  have hsz : vs.toArray.size = vs.length := by simp
  have ha : a < s.heap.objs.size := Heap.lt_size ho
  refine wpAny_bind (listItems_at ho rfl ?_)
  refine wpAny_bind (listUpdate_at ho rfl ?_ (by rw [hsz]; exact hz) (Nat.zero_le _))
  obtain ⟨e1, ho1⟩ : ∃ e1, (s.heap.update a (Obj.mapSeq fun _ => #[])).get? a = some (seqObj "list" #[] e1) := ⟨_, get?_update_seq ho (fun _ => #[])⟩
  refine wpAny_bind (seqEpoch_at ho1 rfl ?_)
  refine wpAny_bind (wpAny_newTuple ?_ hz)
  refine wpAny_bind (wpAny_newList ?_ (Nat.zero_le _))
  refine wpAny_holding ?_
  generalize hh : ((s.heap.update a (Obj.mapSeq fun _ => #[])).push (seqObj "tuple" vs.toArray 0)).push (seqObj "list" #[] 0) = h6
  have ho6 : h6.get? a = some (seqObj "list" #[] e1) := by
    rw [← hh, Heap.get?_push_ne _ _ _ (by rw [size_push', Heap.size_update]; exact Nat.ne_of_lt (Nat.lt_succ_of_lt ha)), Heap.get?_push_ne _ _ _ (by rw [Heap.size_update]; exact Nat.ne_of_lt ha)]
    exact ho1
  have keep : ∀ b o, b ≠ a → s.heap.get? b = some o → h6.get? b = some o := fun b o nb e => by
    have hb := Heap.lt_size e
    rw [← hh, Heap.get?_push_ne _ _ _ (by rw [size_push', Heap.size_update]; exact Nat.ne_of_lt (Nat.lt_succ_of_lt hb)), Heap.get?_push_ne _ _ _ (by rw [Heap.size_update]; exact Nat.ne_of_lt hb), Heap.get?_update_other _ _ (Ne.symm nb)]
    exact e
  have out6 : ∀ xs : Array Value, sortedHeap s.heap a vs xs = h6.update a (Obj.mapSeq fun _ => xs) := fun xs => by rw [← hh]; rfl
  show wpAny (model prog w) A _ P E { s with heap := h6 }
  dsimp only
  by_cases h2 : vs.toArray.size < 2
  · rw [if_pos h2, if_pos h2]
    refine wpAny_bind (wpAny_pure ?_)
    rw [StateT.run_pure]
    refine wpAny_bind (wpAny_pure ?_)
    dsimp only
    refine wpAny_bind (seqEpoch_at ho6 rfl ?_)
    refine wpAny_bind (listUpdate_at ho6 rfl ?_ (Nat.zero_le _) (by rw [Array.size_map]; show (pairsOf vs).size ≤ _; rw [pairsOf_size]; omega))
    simp only [bne_self_eq_false, Bool.false_eq_true, if_false]
    have := h (pairsOf vs) (Array.Perm.refl _) fun i j c1 c2 c3 => by rw [show i = j by omega]; exact Int.le_refl _
    rw [out6] at this
    exact wpAny_pure this
  · rw [if_neg h2, if_neg h2]
    have h2' : 2 ≤ vs.length := by omega
    refine wpAny_bind (hk h6 keep h2' _ ?_)
    refine wpAny_bind (wpAny_mono (wp_sortRuns (st := SortSt.mk' κ (pairsOf vs) #[] 7 none) (Q := fun _ st' => SB κ (pairsOf vs) st' ∧ Up rk (arrOf st') 0 (pairsOf vs).size) (hY h6 keep h2') ⟨Array.Perm.refl _, rfl, rfl⟩ rfl fun st' b1 b2 => ⟨b1, b2⟩) ?_ fun _ _ e => e)
    rintro ⟨⟨⟩, st'⟩ s' ⟨rfl, hB, hs⟩
    dsimp only
    refine wpAny_bind (seqEpoch_at ho6 rfl ?_)
    refine wpAny_bind (listUpdate_at ho6 rfl ?_ (Nat.zero_le _) (by refine Nat.le_trans (Nat.le_of_eq ((Array.size_map ..).trans (hB.size.trans (pairsOf_size _)))) ?_; omega))
    rw [hB.fine]
    simp only [bne_self_eq_false, Bool.false_eq_true, if_false]
    have := h (arrOf st') hB.perm (by rw [← pairsOf_size vs]; exact hs)
    rw [out6] at this
    exact wpAny_pure this
/-- numbers, any many -/
theorem sort_ints {a : Addr} {vs : List Value} {ns : List Int} {n : Nat} {P : PySem.Fin → Shared → Prop} (ho : s.heap.get? a = some (seqObj "list" vs.toArray n)) (hI : IntsAre vs ns) (hz : vs.length ≤ sizeLine)
    (h : ∀ (out : Array Value) (ns' : List Int), IntsAre out.toList ns' → ns'.Perm ns → ns'.Pairwise (· ≤ ·) → P (.done (.ret .none)) { s with heap := sortedHeap s.heap a vs out }) :
    wpAny (model prog w) A (Builtin.«list.sort» ⟨[.ref a], []⟩) P E s := by
  refine sort_shell (κ := oneType') (rk := fun p => numOf p.1) ho hz (fun h' k h2 Q q => ?_) (fun h' k h2 => ask_ints hI) fun xs hp hu => ?_
  · obtain ⟨v1, v2, rest, rfl⟩ : ∃ v1 v2 rest, vs = v1 :: v2 :: rest := by
      match vs, h2 with
      | [], h2 => simp at h2
      | [_], h2 => simp at h2
      | v1 :: v2 :: rest, _ => exact ⟨v1, v2, rest, rfl⟩
    rw [keyKind_ints hI]
    exact wpAny_pure q
  · obtain ⟨ns', h1, h2, h3⟩ := sorted_out hI hp (fun i j hij hj => by
      rw [pairsOf_size] at hj
      exact hu i j (Nat.zero_le _) hij hj)
    exact h _ ns' h1 h2 h3
end
end L2.Tim

set_option Elab.async false
set_option linter.all false
set_option maxRecDepth 100000
namespace L2.Tim
open PySem PyProof.Rows
/-! ### the order of tuples of ints -/
def lexB : List Int → List Int → Bool
  | _, [] => false
  | [], _ :: _ => true
  | a :: x, b :: y => if a = b then lexB x y else decide (a < b)
theorem lexB_irr : ∀ x, lexB x x = false
  | [] => rfl
  | a :: x => by
    unfold lexB
    rw [if_pos rfl]
    exact lexB_irr x
theorem lexB_trans : ∀ {x y z : List Int}, lexB x y = true → lexB y z = true → lexB x z = true
  | _, [], _, h, _ => by
    unfold lexB at h
    cases h
  | _, b :: y, [], _, h => by
    unfold lexB at h
    cases h
  | [], b :: y, c :: z, _, _ => rfl
  | a :: x, b :: y, c :: z, h, g => by
    unfold lexB at h g ⊢
    by_cases e1 : a = b
    · rw [if_pos e1] at h
      by_cases e2 : b = c
      · rw [if_pos e2] at g
        rw [if_pos (by omega)]
        exact lexB_trans h g
      · rw [if_neg e2] at g
        have := of_decide_eq_true g
        rw [if_neg (by omega)]
        exact decide_eq_true (by omega)
    · rw [if_neg e1] at h
      have h := of_decide_eq_true h
      by_cases e2 : b = c
      · rw [if_neg (by omega)]
        exact decide_eq_true (by omega)
      · rw [if_neg e2] at g
        have := of_decide_eq_true g
        rw [if_neg (by omega)]
        exact decide_eq_true (by omega)
theorem lexB_tot : ∀ {x y : List Int}, lexB x y = false → lexB y x = true ∨ x = y
  | [], [], _ => .inr rfl
  | [], b :: y, h => by
    unfold lexB at h
    cases h
  | a :: x, [], _ => .inl rfl
  | a :: x, b :: y, h => by
    unfold lexB at h ⊢
    by_cases e : a = b
    · rw [if_pos e] at h
      rw [if_pos e.symm]
      rcases lexB_tot h with z | z
      · exact .inl z
      · exact .inr (by rw [e, z])
    · rw [if_neg e] at h
      have := of_decide_eq_false h
      rw [if_neg (fun z => e z.symm)]
      exact .inl (decide_eq_true (by omega))
/-- how many come before -/
def rank (l : List (List Int)) (x : List Int) : Nat := l.countP fun y => lexB y x
theorem rank_lt {l : List (List Int)} {x y : List Int} (hx : x ∈ l) : decide (rank l x < rank l y) = lexB x y := by
  have mono : ∀ {u v : List Int}, (∀ z, lexB z u = true → lexB z v = true) → rank l u ≤ rank l v := fun {u v} h => List.countP_mono_left fun z _ hz => h z hz
  have strict : ∀ (k : List (List Int)) {u v : List Int}, u ∈ k → lexB u v = true → (∀ z, lexB z u = true → lexB z v = true) → k.countP (fun y => lexB y u) < k.countP (fun y => lexB y v) := by
    intro k
    induction k with
    | nil => intro u v hu; cases hu
    | cons a k ih =>
      intro u v hu huv h
      rw [List.countP_cons, List.countP_cons]
      rcases List.mem_cons.mp hu with e | hu
      · rw [← e, lexB_irr, huv]
        have : k.countP (fun y => lexB y u) ≤ k.countP fun y => lexB y v := List.countP_mono_left fun z _ hz => h z hz
        simp
        omega
      · have := ih hu huv h
        by_cases z : lexB a u = true
        · rw [z, h a z]
          simp
          omega
        · rw [Bool.eq_false_iff.mpr z]
          have e0 : (if (false = true) then 1 else 0) = 0 := rfl
          rw [e0]
          omega
  cases h : lexB x y with
  | true => exact decide_eq_true (strict l hx h fun z hz => lexB_trans hz h)
  | false =>
    refine decide_eq_false ?_
    rcases lexB_tot h with z | z
    · have := mono (u := y) (v := x) fun w hw => lexB_trans hw z
      omega
    · rw [z]
      omega
/-- a tuple of ints at a value -/
def TupAt (h : Heap) (v : Value) (ws : List Int) : Prop := ∃ a o its n, v = .ref a ∧ h.get? a = some o ∧ o.cls = .type "tuple" ∧ o.data = .seq its n ∧ IntsAre its.toList ws
section
variable {prog : Program} {w : World} {A : Around} {E : Value → Shared → Prop} {s : Shared}
theorem lex_ask {b : Bool} {Q : Bool → Shared → Prop} : ∀ {xs ys : List Value} {ms ns : List Int}, IntsAre xs ms → IntsAre ys ns → ∀ (i : Nat) (fin : Bool), (ms.length < ns.length → fin = true) → (¬ ms.length < ns.length → fin = false) → Q (lexB ms ns) s → PySem.W.KatLex prog w A b fin Q (xs.zip ys) i s
  | _, _, _, _, .nil, .nil, i, fin, h1, h2, q => by
    rw [h2 (by simp)]
    exact PySem.W.kat_nil q
  | _, _, _, _, .nil, .cons n t r, i, fin, h1, h2, q => by
    rw [h1 (by simp)]
    exact PySem.W.kat_nil q
  | _, _, _, _, .cons m t r, .nil, i, fin, h1, h2, q => by
    rw [h2 (by simp)]
    exact PySem.W.kat_nil q
  | _, _, _, _, .cons m t r, .cons n u r', i, fin, h1, h2, q => by
    rw [List.zip_cons_cons]
    refine PySem.W.kat_cons (wpAny_eqBool_int ?_)
    unfold lexB at q
    by_cases e : m = n
    · rw [if_pos e] at q
      rw [show (m == n) = true by simpa using e]
      refine PySem.W.kat_yes (lex_ask r r' (i + 1) fin (fun z => h1 (by simpa using z)) (fun z => h2 (by simpa using z)) q)
    · rw [if_neg e] at q
      rw [show (m == n) = false by simpa using e]
      refine PySem.W.kat_no ?_
      cases hb : (b && i == 0) with
      | true => exact oneLt_int q
      | false => exact PySem.W.kat_one _ _ (wpAny_lt_int q)
theorem ask_tups {vs : List Value} {f : Value → List Int} (hT : ∀ v ∈ vs, TupAt s.heap v (f v)) (b : Bool) : Ask prog w A E s (tuples' b) (pairsOf vs) fun p => ((rank (vs.map f) (f p.1) : Nat) : Int) where
  tell := fun x y hx hy st Q hk h => by
    have mx := (mem_zip_self (by rw [← pairsOf_toList]; exact Array.mem_toList_iff.mpr hx)).2
    have my := (mem_zip_self (by rw [← pairsOf_toList]; exact Array.mem_toList_iff.mpr hy)).2
    obtain ⟨a, o, its, n, ea, ho, hc, hd, hi⟩ := hT _ mx
    obtain ⟨a', o', its', n', ea', ho', hc', hd', hi'⟩ := hT _ my
    have hr : decide (((rank (vs.map f) (f x.1) : Nat) : Int) < ((rank (vs.map f) (f y.1) : Nat) : Int)) = lexB (f x.1) (f y.1) := by
      rw [← rank_lt (l := vs.map f) (List.mem_map.mpr ⟨_, mx, rfl⟩), decide_eq_decide]
      omega
    rw [hr] at h
    have l1 : its.toList.length = (f x.1).length := hi.length
    have l2 : its'.toList.length = (f y.1).length := hi'.length
    rw [Array.length_toList] at l1 l2
    rw [lt'_eq]
    refine wpS_bind (wpS_get ?_)
    rw [hk, ea, ea']
    refine wpS_bind (wpS_lift (wpAny_attempt (PySem.W.kat_lt ho hd ho' hd' (lex_ask hi hi' 0 _ (fun z => decide_eq_true (by omega)) (fun z => decide_eq_false (by omega)) ⟨rfl, ?_⟩))))
    exact wpS_pure h
theorem tups_first {h : Heap} {f : Value → List Int} : ∀ {vs : List Value}, (∀ v ∈ vs, TupAt h v (f v)) → (∀ v ∈ vs, f v ≠ []) → ∃ fs, PySem.W.KatTups h vs fs ∧ fs.length = vs.length ∧ ∀ v ∈ fs, ∃ n t, v = .int n t
  | [], _, _ => ⟨[], PySem.W.KatTups.nil, rfl, fun v hv => by cases hv⟩
  | v :: vs, hT, hn => by
    obtain ⟨fs, k, l, i⟩ := tups_first (fun v hv => hT v (List.mem_cons_of_mem _ hv)) (fun v hv => hn v (List.mem_cons_of_mem _ hv))
    obtain ⟨a, o, its, n, rfl, ho, hc, hd, hi⟩ := hT v List.mem_cons_self
    have hne := hn _ List.mem_cons_self
    cases hw : f (Value.ref a) with
    | nil => exact absurd hw hne
    | cons m ms =>
      rw [hw] at hi
      cases hl : its.toList with
      | nil =>
        have := hi.length
        rw [hl] at this
        cases this
      | cons u us =>
        rw [hl] at hi
        obtain ⟨z, t, ez⟩ := hi.all u List.mem_cons_self
        have h0 : its[0]? = some u := by rw [← Array.getElem?_toList, hl]; rfl
        refine ⟨u :: fs, PySem.W.KatTups.cons ho hc hd h0 k, by rw [List.length_cons, List.length_cons, l], fun v hv => ?_⟩
        rcases List.mem_cons.mp hv with e | hv
        · exact ⟨z, t, e.trans ez⟩
        · exact i v hv
/-- tuples of ints, any many -/
theorem sort_tups {a : Addr} {vs : List Value} {f : Value → List Int} {n : Nat} {P : PySem.Fin → Shared → Prop} (ho : s.heap.get? a = some (seqObj "list" vs.toArray n)) (hz : vs.length ≤ sizeLine) (hT : ∀ v ∈ vs, TupAt s.heap v (f v)) (hne : ∀ v ∈ vs, f v ≠ [])
    (h : ∀ (out : List Value), out.Perm vs → (out.map f).Pairwise (fun x y => lexB y x = false) → P (.done (.ret .none)) { s with heap := sortedHeap s.heap a vs out.toArray }) :
    wpAny (model prog w) A (Builtin.«list.sort» ⟨[.ref a], []⟩) P E s := by
  have keepT : ∀ h' : Heap, (∀ b o, b ≠ a → s.heap.get? b = some o → h'.get? b = some o) → ∀ v ∈ vs, TupAt h' v (f v) := fun h' k v hv => by
    obtain ⟨b, o, its, m, e, hb, hc, hd, hi⟩ := hT v hv
    refine ⟨b, o, its, m, e, k b o (fun z => ?_) hb, hc, hd, hi⟩
    rw [z, ho] at hb
    cases hb
    exact absurd (show Value.type "list" = Value.type "tuple" from hc) (by decide)
  refine sort_shell (κ := tuples' true) (rk := fun p => ((rank (vs.map f) (f p.1) : Nat) : Int)) ho hz (fun h' k h2 Q q => ?_) (fun h' k h2 => ask_tups (s := { s with heap := h' }) (keepT h' k) true) fun xs hp hu => ?_
  · obtain ⟨fs, kt, l, ki⟩ := tups_first (keepT h' k) hne
    refine PySem.W.kat_kind (T := .type "int") kt (by omega) (fun v hv => ?_) rfl q
    obtain ⟨m, t, rfl⟩ := ki v hv
    exact PySem.W.Looks.now
  · have hl : xs.toList.Perm (vs.zip vs) := by rw [← pairsOf_toList]; exact Array.perm_iff_toList_perm.mp hp
    have hmem : ∀ p, p ∈ xs.toList → p.1 = p.2 ∧ p.1 ∈ vs := fun p hp' => mem_zip_self (hl.mem_iff.mp hp')
    have e1 : (xs.map (·.2)) = (xs.toList.map (·.2)).toArray := by
      apply Array.toList_inj.mp
      rw [Array.toList_map]
    have := h (xs.toList.map (·.2)) ?_ ?_
    · rw [← e1] at this
      exact this
    · have := hl.map (·.2)
      rwa [List.map_snd_zip (Nat.le_refl _)] at this
    · rw [List.map_map, List.pairwise_map, List.pairwise_iff_getElem]
      intro i j hi hj hij
      have hsz : xs.size = vs.length := by rw [hp.size_eq, pairsOf_size]
      have hi' : i < xs.size := by simpa using hi
      have hj' : j < xs.size := by simpa using hj
      have h1 := hu i j (Nat.zero_le _) (Nat.le_of_lt hij) (by omega)
      rw [Kr_at (getElem?_pos xs i hi'), Kr_at (getElem?_pos xs j hj')] at h1
      have m1 := hmem xs.toList[i] (List.getElem_mem hi)
      have m2 := hmem xs.toList[j] (List.getElem_mem hj)
      have e2 : xs.toList[i] = xs[i] := by simp
      have e3 : xs.toList[j] = xs[j] := by simp
      show lexB (f xs.toList[j].2) (f xs.toList[i].2) = false
      rw [← m1.1, ← m2.1, ← rank_lt (l := vs.map f) (List.mem_map.mpr ⟨_, m2.2, rfl⟩), e2, e3]
      exact decide_eq_false (by omega)
end
end L2.Tim

set_option Elab.async false
set_option linter.all false
set_option maxRecDepth 100000
namespace L2
open PySem PySem.Spec PyProof.Rows L2.Tim
section
variable {prog : Program} {w : World} {A : Around} {E : Value → Shared → Prop} {s : Shared}
set_option maxHeartbeats 2000000 in
/-- sorted of a list, any long: what is sorted is a new list with the same items -/
theorem sorted_via {a : Addr} {vs : List Value} {Q : Value → Shared → Prop} {R : List Value → Prop} (hL : s.heap.IsList a vs.toArray) (hz : vs.length ≤ sizeLine)
    (run : ∀ (h1 : Heap) (A' : Around) (P : PySem.Fin → Shared → Prop) (E' : Value → Shared → Prop), (∀ b o, s.heap.get? b = some o → h1.get? b = some o) → h1.get? h1.objs.size = none → (∀ out : List Value, R out → P (.done (.ret .none)) { s with heap := sortedHeap (h1.push (seqObj "list" vs.toArray 0)) h1.objs.size vs out.toArray }) →
      wpAny (model prog w) A' (Builtin.«list.sort» ⟨[.ref h1.objs.size], []⟩) P E' { s with heap := h1.push (seqObj "list" vs.toArray 0) })
    (h : ∀ (s' : Shared) (l : Addr) (out : List Value) (e : Nat), (∀ b o, s.heap.get? b = some o → s'.heap.get? b = some o) → s'.gens = s.gens → s'.os = s.os → s.heap.get? l = none →
      s'.heap.get? l = some { cls := .type "list", data := .seq out.toArray e } → R out → Q (.ref l) s') : wpAny (model prog w) A (call (.builtin "sorted") [.ref a]) Q E s := by
  refine Calls.call_function_entry kind_sorted plain_sorted entry_sorted (args_sorted1 _) ?_
  unfold Builtin.«sorted»
  refine wpAny_bind (m := checkCount "sorted" 1 1 _) (wpAny_pure ?_)
  refine wpAny_bind (collect_list (A := A.in1) hL ?_ hz)
  generalize hh1 : (s.heap.push (seqObj "list" #[] 0)).update s.heap.objs.size (Obj.mapSeq (· ++ vs.toArray)) = h1
  have k : ∀ b o, s.heap.get? b = some o → h1.get? b = some o := fun b o e => by
    rw [← hh1, Heap.get?_update_other _ _ (Nat.ne_of_gt (Heap.lt_size e))]
    exact Heap.get?_push_of_some _ e
  clear hh1
  refine wpAny_bind (wpAny_newList ?_ hz)
  have oL : (h1.push (seqObj "list" vs.toArray 0)).get? h1.objs.size = some (seqObj "list" vs.toArray 0) := Heap.get?_push_size _ rfl
  have hn1 : h1.get? h1.objs.size = none := Heap.get?_none_of_le (Nat.le_refl _)
  have hnew : s.heap.get? h1.objs.size = none := by
    cases hq : s.heap.get? h1.objs.size with
    | some ob => exact absurd (Heap.lt_size (k _ _ hq)) (Nat.lt_irrefl _)
    | none => rfl
  refine wpAny_bind (wpAny_holding (wpAny_call_entry slot_list_sort ⟨_, oL, rfl⟩ entry_list_sort (run h1 _ _ _ k hn1 fun out hR => ⟨_, rfl, ?_⟩) (args_list_sort _)))
  obtain ⟨e, he⟩ := sortedHeap_at (out := out.toArray) oL
  refine wpAny_pure ⟨_, rfl, h _ _ out e (fun b ob z => ?_) rfl rfl hnew he hR⟩
  have hb := Heap.lt_size (k b ob z)
  show (sortedHeap _ _ _ _).get? b = some ob
  rw [sortedHeap_old (Nat.ne_of_lt hb) (by rw [size_push']; exact Nat.lt_succ_of_lt hb), Heap.get?_push_ne _ _ _ (Nat.ne_of_lt hb)]
  exact k b ob z
end
section
variable {X : Cx}
theorem call_sorted_big : CallR X (.builtin "sorted") (fun xs H Q => ∃ p ns0, xs = [.ref p] ∧ SqL X.K H p (ns0.map V.int) ∧ ∀ (l : Addr) (ns : List Int), H l = none → ns.Perm ns0 → ns.Pairwise (· ≤ ·) → Q (.ref l) (upd H l (.lst (ns.map V.int)))) := by
  intro pins s σ H xs us Q I rv h
  obtain ⟨p, ns0, rfl, hp, q⟩ := h
  obtain ⟨u, rfl, r⟩ := vals1 rv
  cases r
  obtain ⟨its, ri, pl, hz⟩ := I.list hp
  have hlen : its.length = ns0.length := by rw [← ri.length, List.length_map]
  rw [List.length_map] at hz
  refine sorted_via (R := fun out => ∃ ns, IntsAre out ns ∧ ns.Perm ns0 ∧ ns.Pairwise (· ≤ ·)) pl.isList (by omega) (fun h1 A' P E' k hn hP => ?_) fun s' l out e k hg ho hn he hR => ?_
  · exact sort_ints (s := { s with heap := h1.push (seqObj "list" its.toArray 0) }) (Heap.get?_push_size _ rfl) (intsAre_of ri) (by omega) fun out ns' a1 a2 a3 => by
      have := hP out.toList ⟨ns', a1, a2, a3⟩
      rw [Array.toArray_toList] at this
      exact this
  · obtain ⟨ns, a1, a2, a3⟩ := hR
    have hl2 := a2.length_eq
    refine ⟨.ref l, _, I.newAt (o := .lst (ns.map V.int)) k hg ho hn ⟨?_, out, e, vals_ints a1, he⟩, rfl, q l ns (I.none_of hn) a2 a3⟩
    rw [List.length_map, hl2]
    exact hz
theorem sortedBK {K : PySem.W.Frag} (h : X.K = K) : CallR X (.builtin "sorted") (fun xs H Q => ∃ p ns0, xs = [.ref p] ∧ SqL K H p (ns0.map V.int) ∧ ∀ (l : Addr) (ns : List Int), H l = none → ns.Perm ns0 → ns.Pairwise (· ≤ ·) → Q (.ref l) (upd H l (.lst (ns.map V.int)))) := h ▸ call_sorted_big
theorem vals_refs : ∀ {ps : List Addr} {its : List Value}, Vals (ps.map V.ref) its → its = ps.map Value.ref
  | [], _, h => by cases h; rfl
  | p :: ps, _, h => by
    cases h with
    | cons r t => rw [List.map_cons, ← vals_refs t]; cases r; rfl
theorem refs_vals : ∀ (ps : List Addr), Vals (ps.map V.ref) (ps.map Value.ref)
  | [] => .nil
  | p :: ps => .cons rfl (refs_vals ps)
/-- the ints of a tuple of ints at a place -/
def atRef (g : Addr → List Int) : Value → List Int
  | .ref a => g a
  | _ => []
theorem call_sorted_tups : CallR X (.builtin "sorted") (fun xs H Q => ∃ p ps g, xs = [.ref p] ∧ SqL X.K H p (ps.map V.ref) ∧ (∀ a ∈ ps, g a ≠ [] ∧ SqT X.K H a ((g a).map V.int)) ∧ ∀ (l : Addr) (qs : List Addr), H l = none → qs.Perm ps → (qs.map g).Pairwise (fun x y => lexB y x = false) → Q (.ref l) (upd H l (.lst (qs.map V.ref)))) := by
  intro pins s σ H xs us Q I rv h
  obtain ⟨p, ps, g, rfl, hp, hg, q⟩ := h
  obtain ⟨u, rfl, r⟩ := vals1 rv
  cases r
  obtain ⟨its, ri, pl, hz⟩ := I.list hp
  have e := vals_refs ri
  subst e
  rw [List.length_map] at hz
  have hT : ∀ (h' : Heap), (∀ b o, s.heap.get? b = some o → h'.get? b = some o) → ∀ v ∈ ps.map Value.ref, TupAt h' v (atRef g v) := fun h' k v hv => by
    obtain ⟨a, ha, rfl⟩ := List.mem_map.mp hv
    obtain ⟨its, ri, ⟨o, ho, hc, n, hd⟩, _⟩ := I.tuple (hg a ha).2
    exact ⟨a, o, its.toArray, n, rfl, k a o ho, hc, hd, intsAre_of ri⟩
  have hne : ∀ v ∈ ps.map Value.ref, atRef g v ≠ [] := fun v hv => by
    obtain ⟨a, ha, rfl⟩ := List.mem_map.mp hv
    exact (hg a ha).1
  refine sorted_via (R := fun out => out.Perm (ps.map Value.ref) ∧ (out.map (atRef g)).Pairwise (fun x y => lexB y x = false)) pl.isList (by rw [List.length_map]; exact hz) (fun h1 A' P E' k hn hP => ?_) fun s' l out e k hgn ho hn he hR => ?_
  · refine sort_tups (f := atRef g) (s := { s with heap := h1.push (seqObj "list" (ps.map Value.ref).toArray 0) }) (Heap.get?_push_size _ rfl) (by rw [List.length_map]; exact hz) (hT _ fun b o e => Heap.get?_push_of_some _ (k b o e)) hne fun out a1 a2 => hP out ⟨a1, a2⟩
  · obtain ⟨a1, a2⟩ := hR
    have hall : ∀ v ∈ out, ∃ a, v = .ref a := fun v hv => by
      obtain ⟨a, _, rfl⟩ := List.mem_map.mp (a1.mem_iff.mp hv)
      exact ⟨a, rfl⟩
    obtain ⟨qs, eq⟩ : ∃ qs : List Addr, out = qs.map Value.ref := by
      clear he a1 a2
      induction out with
      | nil => exact ⟨[], rfl⟩
      | cons v out ih =>
        obtain ⟨qs, eq⟩ := ih fun v hv => hall v (List.mem_cons_of_mem _ hv)
        obtain ⟨a, ea⟩ := hall v List.mem_cons_self
        exact ⟨a :: qs, by rw [eq, ea]; rfl⟩
    subst eq
    have pq : qs.Perm ps := by
      have h1 := a1.map fun v => match v with | Value.ref a => a | _ => 0
      rw [List.map_map, List.map_map] at h1
      have e1 : ∀ l : List Addr, l.map ((fun v => match v with | Value.ref a => a | _ => 0) ∘ Value.ref) = l := fun l => by
        induction l with
        | nil => rfl
        | cons a l ih => rw [List.map_cons, ih]; rfl
      rw [e1, e1] at h1
      exact h1
    rw [List.map_map] at a2
    refine ⟨.ref l, _, I.newAt (o := .lst (qs.map V.ref)) k hgn ho hn ⟨?_, _, e, refs_vals qs, he⟩, rfl, q l qs (I.none_of hn) pq a2⟩
    rw [List.length_map, pq.length_eq]
    exact hz
theorem sortedTK {K : PySem.W.Frag} (h : X.K = K) : CallR X (.builtin "sorted") (fun xs H Q => ∃ p ps g, xs = [.ref p] ∧ SqL K H p (ps.map V.ref) ∧ (∀ a ∈ ps, g a ≠ [] ∧ SqT K H a ((g a).map V.int)) ∧ ∀ (l : Addr) (qs : List Addr), H l = none → qs.Perm ps → (qs.map g).Pairwise (fun x y => lexB y x = false) → Q (.ref l) (upd H l (.lst (qs.map V.ref)))) := h ▸ call_sorted_tups
end
end L2

set_option Elab.async false
set_option linter.all false
set_option maxRecDepth 100000
namespace L2
open PySem PySem.Spec PyProof.Rows L2.Tim
/-! ### comprehensions whose items are made on the way -/
theorem comp_anyG {J : It} {xs : List V} {tc : TT} {te : TE} {σ : St} {H : Hp} {Q : VK} (Pv : Nat → List V → Hp → Prop) (hz : xs.length < sizeLine) (h0 : Pv 0 [] H) (hn : ∀ i ys H, Pv i ys H → ys.length ≤ i)
    (hst : ∀ ys H, Pv xs.length ys H → J.stop xs.length H) (hgo : ∀ i ys H, i < xs.length → Pv i ys H → J.go i H) (hy : ∀ i ys H x H', i < xs.length → Pv i ys H → J.yld i H x H' → H' = H ∧ xs[i]? = some x)
    (hs : ∀ i x ys H (R : V → Hp → Prop) (R' : Hp → Prop), xs[i]? = some x → Pv i ys H → (∀ y H3, Pv (i + 1) (ys ++ [y]) H3 → R y H3) → (∀ H2, Pv (i + 1) ys H2 → R' H2) → tc (some x :: σ) H fun c H2 => if c = true then te (some x :: σ) H2 R else R' H2)
    (hd : ∀ ys H l, Pv xs.length ys H → H l = none → Q (.ref l) (upd H l (.lst ys))) : CompW J tc te σ H Q := by
  refine ⟨fun i m ys H => m = xs.length - i ∧ i ≤ xs.length ∧ Pv i ys H, ⟨xs.length, by simp, Nat.zero_le _, h0⟩, ?_⟩
  rintro i m ys H1 ⟨rfl, hi, pv⟩
  refine ⟨by have := hn i ys H1 pv; omega, ?_⟩
  by_cases hlt : i < xs.length
  · refine .inr ⟨hgo i ys H1 hlt pv, fun v H' y => ?_⟩
    obtain ⟨e, hx⟩ := hy i ys H1 v H' hlt pv y
    subst e
    exact hs i v ys _ _ _ hx pv (fun y H3 q => ⟨xs.length - (i + 1), by omega, rfl, hlt, q⟩) fun H2 q => ⟨xs.length - (i + 1), by omega, rfl, hlt, q⟩
  · have e : i = xs.length := by omega
    subst e
    exact .inl ⟨hst ys H1 pv, fun l hl => hd ys H1 l pv hl⟩
theorem comp_seqG {K : PySem.W.Frag} {a : Addr} {xs : List V} {tc : TT} {te : TE} {σ : St} {H : Hp} {Q : VK} (Pv : Nat → List V → Hp → Prop) (hz : xs.length < sizeLine) (h0 : Pv 0 [] H) (hn : ∀ i ys H, Pv i ys H → ys.length ≤ i) (hP : ∀ i ys H', Pv i ys H' → Same H H') (h : SqA K H a xs)
    (hs : ∀ i x ys H (R : V → Hp → Prop) (R' : Hp → Prop), xs[i]? = some x → Pv i ys H → (∀ y H3, Pv (i + 1) (ys ++ [y]) H3 → R y H3) → (∀ H2, Pv (i + 1) ys H2 → R' H2) → tc (some x :: σ) H fun c H2 => if c = true then te (some x :: σ) H2 R else R' H2)
    (hd : ∀ ys H l, Pv xs.length ys H → H l = none → Q (.ref l) (upd H l (.lst ys))) :
    ((∃ xs, SqL K H a xs) ∧ CompW (Itl K a) tc te σ H Q) ∨ ((∃ xs, SqT K H a xs) ∧ CompW (Itt K a) tc te σ H Q) := by
  rcases h with h | h
  · exact .inl ⟨⟨xs, h⟩, comp_anyG Pv hz h0 hn (fun ys H' pv => ⟨xs, (hP _ _ H' pv).seq h, Nat.le_refl _⟩) (fun i ys H' hi pv => ⟨xs, xs[i], (hP _ _ H' pv).seq h, by simp [hi]⟩) (fun i ys H' x H2 hi pv y => ⟨y.1, y.2 xs ((hP _ _ H' pv).seq h)⟩) hs hd⟩
  · exact .inr ⟨⟨xs, h⟩, comp_anyG Pv hz h0 hn (fun ys H' pv => ⟨xs, (hP _ _ H' pv).tup h, Nat.le_refl _⟩) (fun i ys H' hi pv => ⟨xs, xs[i], (hP _ _ H' pv).tup h, by simp [hi]⟩) (fun i ys H' x H2 hi pv y => ⟨y.1, y.2 xs ((hP _ _ H' pv).tup h)⟩) hs hd⟩
end L2

set_option Elab.async false
set_option linter.all false
set_option maxRecDepth 100000
namespace CY
open PySem PySem.Spec PyProof.Rows L2

/-! ### the mathematics: what a purse makes -/
inductive Made (cs : List Int) : Int → Prop where
  | zero : Made cs 0
  | add {n c : Int} : Made cs n → c ∈ cs → Made cs (n + c)
open Classical in
noncomputable def mk (cs : List Int) (n : Int) : Bool := decide (Made cs n)
theorem mk_iff {cs : List Int} {n : Int} : mk cs n = true ↔ Made cs n := by
  unfold mk
  exact @decide_eq_true_iff _ (Classical.propDecidable _)
def Pos (cs : List Int) : Prop := ∀ c ∈ cs, 0 < c
theorem Made.nonneg {cs : List Int} (h : Pos cs) {n : Int} (m : Made cs n) : 0 ≤ n := by
  induction m with
  | zero => exact Int.le_refl _
  | add _ hc ih => have := h _ hc; omega
theorem Made.mono {cs ds : List Int} (h : ∀ c ∈ cs, c ∈ ds) {n : Int} (m : Made cs n) : Made ds n := by
  induction m with
  | zero => exact .zero
  | add _ hc ih => exact .add ih (h _ hc)
theorem Made.plus {cs : List Int} {a b : Int} (h : Made cs a) (g : Made cs b) : Made cs (a + b) := by
  induction g with
  | zero => rw [Int.add_zero]; exact h
  | add _ hc ih => rw [← Int.add_assoc]; exact .add ih hc
theorem Made.one {cs : List Int} {c : Int} (h : c ∈ cs) : Made cs c := by
  have := Made.add (cs := cs) .zero h
  rwa [Int.zero_add] at this
/-- coins that others make bring nothing -/
theorem Made.trans {cs ds : List Int} (h : ∀ c ∈ cs, Made ds c) {n : Int} (m : Made cs n) : Made ds n := by
  induction m with
  | zero => exact .zero
  | add _ hc ih => exact ih.plus (h _ hc)
theorem mk_zero (cs : List Int) : mk cs 0 = true := mk_iff.mpr .zero
/-- a purse of the laws: rising, not empty, few coins, from 1 to m -/
structure Purse (m : Int) (cs : List Int) : Prop where
  rise : cs.Pairwise (· < ·)
  ne : cs ≠ []
  few : cs.length ≤ 40
  lo : ∀ c ∈ cs, 1 ≤ c
  hi : ∀ c ∈ cs, c ≤ m
theorem Purse.pos {m : Int} {cs : List Int} (p : Purse m cs) : Pos cs := fun c hc => by have := p.lo c hc; omega

/-! ### the laws' own helpers: what they promise -/
def cell (ns : List Int) (k : Int) : Int := if k < ns.length then ns.getD k.toNat 0 else 0
abbrev ivs (ns : List Int) : List V := ns.map V.int
theorem ivs_get {ns : List Int} {i : Nat} (h : i < ns.length) : (ivs ns)[i]? = some (.int (ns.getD i 0)) := by
  simp [List.getD_eq_getElem?_getD, h]
def sp_cell (K : PySem.W.Frag) : Sp := fun vs H Q _ => ∃ (a : Addr) (ns : List Int) (k : Int), vs = [.ref a, .int k] ∧ SqL K H a (ivs ns) ∧ 0 ≤ k ∧ Q (.int (cell ns k)) H
/-- the table up to n -/
noncomputable def tab (cs : List Int) (n : Nat) : List V := (List.range (n + 1)).map fun (i : Nat) => V.bl (mk cs i)
/-- the built-ins that the texts name -/
structure Tx (mg : Str → Option Value) : Prop where
  b_len : mg "len" = none
  b_isinstance : mg "isinstance" = none
  b_max : mg "max" = none
  b_sorted : mg "sorted" = none
  b_set : mg "set" = none
  b_tuple : mg "tuple" = none
  b_list : mg "list" = none
  b_int : mg "int" = none
  b_bool : mg "bool" = none
  b_range : mg "range" = none
  b_min : mg "min" = none
  b_sum : mg "sum" = none
  b_zip : mg "zip" = none
  b_str : mg "str" = none
  b_ValueError : mg "ValueError" = none
  b_reversed : mg "reversed" = none
  b_enumerate : mg "enumerate" = none
end CY

set_option Elab.async false
set_option linter.all false
set_option maxRecDepth 100000
namespace CY
open PySem PySem.Spec PyProof.Rows L2

/-! ### more mathematics -/
theorem made_nil {n : Int} (m : Made [] n) : n = 0 := by
  cases m with
  | zero => rfl
  | add _ hc => cases hc
theorem mk_congr {cs ds : List Int} (h : ∀ n, Made cs n ↔ Made ds n) (n : Int) : mk cs n = mk ds n := by
  rw [Bool.eq_iff_iff, mk_iff, mk_iff]
  exact h n
/-- only coins that are no greater come to a sum -/
theorem Made.le {cs : List Int} (h : Pos cs) {n : Int} (m : Made cs n) : Made (cs.filter fun c => decide (c ≤ n)) n := by
  have key : ∀ k, n ≤ k → Made (cs.filter fun c => decide (c ≤ k)) n := by
    induction m with
    | zero => exact fun _ _ => .zero
    | @add a c m hc ih =>
      intro k hk
      have h0 := m.nonneg h
      exact .add (ih k (by have := h c hc; omega)) (List.mem_filter.mpr ⟨hc, decide_eq_true (by omega)⟩)
  exact key n (Int.le_refl _)
theorem pos_sub {cs ds : List Int} (h : Pos cs) (s : ∀ c ∈ ds, c ∈ cs) : Pos ds := fun c hc => h c (s c hc)
/-- one coin more -/
theorem mk_snoc {ds : List Int} {c : Int} (h : Pos ds) (hc : 0 < c) {n : Int} : mk (ds ++ [c]) n = (mk ds n || (decide (c ≤ n) && mk (ds ++ [c]) (n - c))) := by
  have hp : Pos (ds ++ [c]) := fun x hx => (List.mem_append.mp hx).elim (h x) fun z => by rw [List.mem_singleton.mp z]; exact hc
  rw [Bool.eq_iff_iff, Bool.or_eq_true, Bool.and_eq_true, mk_iff, mk_iff, mk_iff, decide_eq_true_iff]
  constructor
  · intro m
    -- taken out: a coin c, if there is one
    have key : ∀ {k : Int}, Made (ds ++ [c]) k → Made ds k ∨ Made (ds ++ [c]) (k - c) := by
      intro k m
      induction m with
      | zero => exact .inl .zero
      | @add a b m hb ih =>
        rcases List.mem_append.mp hb with hb' | hb'
        · rcases ih with ih | ih
          · exact .inl (ih.add hb')
          · exact .inr (by rw [show a + b - c = a - c + b by omega]; exact ih.add hb)
        · rw [List.mem_singleton.mp hb']
          exact .inr (by rw [show a + c - c = a by omega]; exact m)
    rcases key m with z | z
    · exact .inl z
    · exact .inr ⟨by have := z.nonneg hp; omega, z⟩
  · rintro (z | ⟨_, z⟩)
    · exact z.mono fun x hx => List.mem_append_left _ hx
    · have := z.add (c := c) (List.mem_append_right _ List.mem_cons_self)
      rwa [show n - c + c = n by omega] at this
/-- the needless coins, the least purse -/
noncomputable def nl (cs : List Int) : List Int := cs.filter fun c => mk (cs.filter fun d => decide (d < c)) c
noncomputable def lp (cs : List Int) : List Int := cs.filter fun c => !mk (cs.filter fun d => decide (d < c)) c
/-- what is kept of a purse's first coins -/
noncomputable def kept : List Int → List Int → List Int
  | ks, [] => ks
  | ks, c :: r => kept (if mk ks c = true then ks else ks ++ [c]) r
theorem made_snoc_of {ks : List Int} {c : Int} (h : Made ks c) (n : Int) : Made (ks ++ [c]) n ↔ Made ks n :=
  ⟨fun m => m.trans fun x hx => (List.mem_append.mp hx).elim .one fun z => by rw [List.mem_singleton.mp z]; exact h, fun m => m.mono fun x hx => List.mem_append_left _ hx⟩
theorem made_snoc_congr {ks ps : List Int} (e : ∀ n, Made ks n ↔ Made ps n) (c n : Int) : Made (ks ++ [c]) n ↔ Made (ps ++ [c]) n := by
  have one : ∀ {as bs : List Int}, (∀ n, Made as n → Made bs n) → Made (as ++ [c]) n → Made (bs ++ [c]) n := fun {as bs} f m =>
    m.trans fun x hx => (List.mem_append.mp hx).elim (fun z => (f x (.one z)).mono fun y hy => List.mem_append_left _ hy) fun z => .one (List.mem_append_right _ z)
  exact ⟨one fun n => (e n).mp, one fun n => (e n).mpr⟩
theorem kept_same : ∀ (r ks ps : List Int), (∀ n, Made ks n ↔ Made ps n) → ∀ n, Made (kept ks r) n ↔ Made (ps ++ r) n
  | [], ks, ps, e, n => by rw [List.append_nil]; exact e n
  | c :: r, ks, ps, e, n => by
    unfold kept
    have a : ps ++ c :: r = (ps ++ [c]) ++ r := by simp
    rw [a]
    split
    · rename_i h
      refine kept_same r ks (ps ++ [c]) (fun m => ?_) n
      rw [made_snoc_of ((e c).mp (mk_iff.mp h))]
      exact e m
    · exact kept_same r _ _ (fun m => made_snoc_congr e c m) n
/-- of rising coins the lesser ones stand ahead -/
theorem filter_lt_prefix {ps r : List Int} {c : Int} (h : (ps ++ c :: r).Pairwise (· < ·)) : (ps ++ c :: r).filter (fun d => decide (d < c)) = ps := by
  obtain ⟨_, h2, h3⟩ := List.pairwise_append.mp h
  have h4 := (List.pairwise_cons.mp h2).1
  rw [List.filter_append, List.filter_eq_self.mpr (fun x hx => decide_eq_true (h3 x hx c List.mem_cons_self)), List.filter_eq_nil_iff.mpr (fun x hx => ?_), List.append_nil]
  rw [decide_eq_true_iff]
  rcases List.mem_cons.mp hx with z | z
  · omega
  · have := h4 x z; omega
theorem lp_sub (cs : List Int) : ∀ c ∈ lp cs, c ∈ cs := fun c hc => (List.mem_filter.mp hc).1
theorem lp_purse {m : Int} {cs : List Int} (h : Purse m cs) : Purse m (lp cs) := by
  refine ⟨h.rise.sublist List.filter_sublist, fun z => ?_, Nat.le_trans (List.length_filter_le _ _) h.few, fun c hc => h.lo c (lp_sub cs c hc), fun c hc => h.hi c (lp_sub cs c hc)⟩
  cases hcs : cs with
  | nil => exact h.ne hcs
  | cons c r =>
    have hc : c ∈ lp cs := by
      unfold lp
      refine List.mem_filter.mpr ⟨by rw [hcs]; exact List.mem_cons_self, ?_⟩
      have e : cs.filter (fun d => decide (d < c)) = [] := by
        have := h.rise
        rw [hcs] at this ⊢
        exact filter_lt_prefix (ps := []) this
      rw [e]
      have hp := h.lo c (by rw [hcs]; exact List.mem_cons_self)
      cases q : mk [] c with
      | false => rfl
      | true =>
        have := made_nil (mk_iff.mp q)
        omega
    rw [z] at hc
    cases hc
/-- the greatest common divisor -/
def gcdL (cs : List Int) : Nat := cs.foldl (fun g c => Nat.gcd g c.toNat) 0
theorem gcdL_go : ∀ (cs : List Int) (g : Nat), cs.foldl (fun g c => Nat.gcd g c.toNat) g = Nat.gcd g (gcdL cs)
  | [], g => by unfold gcdL; simp
  | c :: r, g => by
    unfold gcdL
    rw [List.foldl_cons, List.foldl_cons, gcdL_go r, gcdL_go r, Nat.gcd_zero_left, Nat.gcd_assoc]
theorem gcdL_cons (c : Int) (r : List Int) : gcdL (c :: r) = Nat.gcd c.toNat (gcdL r) := by
  show (c :: r).foldl _ 0 = _
  rw [List.foldl_cons, gcdL_go, Nat.gcd_zero_left]
theorem gcdL_dvd : ∀ (cs : List Int), ∀ c ∈ cs, gcdL cs ∣ c.toNat
  | [], _, h => by cases h
  | c :: r, d, h => by
    rw [gcdL_cons]
    rcases List.mem_cons.mp h with e | h
    · rw [e]; exact Nat.gcd_dvd_left _ _
    · exact Nat.dvd_trans (Nat.gcd_dvd_right _ _) (gcdL_dvd r d h)
/-! ### promises of the program -/
def sp_whole : Sp := fun vs H Q _ => ∃ i : Int, vs = [.int i] ∧ Q (.bl true) H
def sp_checked (K : PySem.W.Frag) : Sp := fun vs H Q _ => ∃ (t : Addr) (cs : List Int), vs = [.ref t] ∧ H t = some (.tup (ivs cs)) ∧ Purse 400 cs ∧ Q (.ref t) H
def sp_gcd : Sp := fun vs H Q _ => ∃ a b : Int, vs = [.int a, .int b] ∧ 0 ≤ a ∧ 0 ≤ b ∧ Q (.int (Nat.gcd a.toNat b.toNat : Nat)) H
def sp_divisor (K : PySem.W.Frag) : Sp := fun vs H Q _ => ∃ (t : Addr) (cs : List Int), vs = [.ref t] ∧ H t = some (.tup (ivs cs)) ∧ Purse 400 cs ∧ Q (.int (gcdL cs : Nat)) H
def sp_addcoin : Sp := fun vs H Q _ => ∃ (l : Addr) (ds : List Int) (n : Nat) (c : Int), vs = [.ref l, .int c] ∧ H l = some (.lst (tab ds n)) ∧ Pos ds ∧ 0 < c ∧ n ≤ 200000 ∧ c ≤ 200000 ∧ Q .non (upd H l (.lst (tab (ds ++ [c]) n)))
def sp_least : Sp := fun vs H Q _ => ∃ (t : Addr) (cs : List Int), vs = [.ref t] ∧ H t = some (.tup (ivs cs)) ∧ Purse 400 cs ∧ ∀ (l : Addr) (H' : Hp), Same H H' → H' l = some (.tup (ivs (lp cs))) → Q (.ref l) H'
end CY

set_option Elab.async false
set_option linter.all false
set_option maxRecDepth 100000
namespace CY
open PySem PySem.Spec PyProof.Rows L2
/-- rising lists with the same members are one -/
theorem rise_ext : ∀ {xs ys : List Int}, xs.Pairwise (· < ·) → ys.Pairwise (· < ·) → (∀ x, x ∈ xs ↔ x ∈ ys) → xs = ys
  | [], [], _, _, _ => rfl
  | [], y :: ys, _, _, h => absurd ((h y).mpr List.mem_cons_self) (by simp)
  | x :: xs, [], _, _, h => absurd ((h x).mp List.mem_cons_self) (by simp)
  | x :: xs, y :: ys, hx, hy, h => by
    obtain ⟨x1, x2⟩ := List.pairwise_cons.mp hx
    obtain ⟨y1, y2⟩ := List.pairwise_cons.mp hy
    have e : x = y := by
      rcases List.mem_cons.mp ((h x).mp List.mem_cons_self) with z | z
      · exact z
      · rcases List.mem_cons.mp ((h y).mpr List.mem_cons_self) with u | u
        · exact u.symm
        · have := x1 y u
          have := y1 x z
          omega
    subst e
    congr 1
    refine rise_ext x2 y2 fun z => ?_
    constructor
    · intro hz
      rcases List.mem_cons.mp ((h z).mp (List.mem_cons_of_mem _ hz)) with u | u
      · have := x1 z hz; omega
      · exact u
    · intro hz
      rcases List.mem_cons.mp ((h z).mpr (List.mem_cons_of_mem _ hz)) with u | u
      · have := y1 z hz; omega
      · exact u
/-- a made sum that is no two made sums together -/
def Prime (cs : List Int) (c : Int) : Prop := 0 < c ∧ Made cs c ∧ ∀ a b : Int, 0 < a → 0 < b → Made cs a → Made cs b → a + b ≠ c
theorem lp_prime {cs : List Int} (h : Pos cs) (c : Int) : c ∈ lp cs ↔ Prime cs c := by
  unfold lp
  rw [List.mem_filter]
  constructor
  · rintro ⟨hc, hm⟩
    refine ⟨h c hc, .one hc, fun a b ha hb ma mb e => ?_⟩
    have less : ∀ {k : Int}, k < c → Made cs k → Made (cs.filter fun d => decide (d < c)) k := fun {k} hk m =>
      (m.le h).mono fun d hd => by
        obtain ⟨h1, h2⟩ := List.mem_filter.mp hd
        exact List.mem_filter.mpr ⟨h1, decide_eq_true (by have := of_decide_eq_true h2; omega)⟩
    have := (less (by omega) ma).plus (less (by omega) mb)
    rw [e] at this
    rw [mk_iff.mpr this] at hm
    cases hm
  · rintro ⟨hc, hm, hp⟩
    have key : ∀ {ds : List Int}, (∀ d ∈ ds, d ∈ cs) → Made ds c → c ∈ ds := fun {ds} hs m => by
      cases m with
      | zero => omega
      | @add n d m hd =>
        have hpd : Pos ds := pos_sub h hs
        have n0 := m.nonneg hpd
        rcases Int.lt_or_le 0 n with z | z
        · exact absurd rfl (hp n d z (hpd d hd) (m.mono hs) (.one (hs d hd)))
        · have : n = 0 := by omega
          subst this
          rw [Int.zero_add]
          exact hd
    refine ⟨key (fun d hd => hd) hm, ?_⟩
    cases q : mk (cs.filter fun d => decide (d < c)) c with
    | false => rfl
    | true =>
      have := key (fun d hd => (List.mem_filter.mp hd).1) (mk_iff.mp q)
      have := of_decide_eq_true (List.mem_filter.mp this).2
      omega
theorem made_lp {m : Int} {cs : List Int} (h : Purse m cs) : ∀ c ∈ cs, Made (lp cs) c := by
  have key : ∀ (n : Nat) (c : Int), c.toNat ≤ n → c ∈ cs → Made (lp cs) c := by
    intro n
    induction n with
    | zero =>
      intro c hc hm
      have := h.lo c hm
      omega
    | succ n ih =>
      intro c hc hm
      by_cases z : c ∈ lp cs
      · exact .one z
      · have hmk : mk (cs.filter fun d => decide (d < c)) c = true := by
          cases q : mk (cs.filter fun d => decide (d < c)) c with
          | true => rfl
          | false => exact absurd (List.mem_filter.mpr ⟨hm, by rw [q]; rfl⟩) z
        refine (mk_iff.mp hmk).trans fun d hd => ?_
        obtain ⟨h1, h2⟩ := List.mem_filter.mp hd
        have h3 := of_decide_eq_true h2
        have h4 := h.lo d h1
        exact ih d (by omega) h1
  exact fun c hc => key c.toNat c (Nat.le_refl _) hc
end CY

set_option Elab.async false
set_option linter.all false
set_option maxRecDepth 100000
namespace CY
open PySem PySem.Spec PyProof.Rows L2

/-! ### one coin more in the table of least sums -/
abbrev Tb := List (Option Nat)
abbrev gv (L : Tb) (r : Nat) : Option Nat := L.getD r none
def relax (m c : Nat) (L : Tb) (r : Nat) : Tb :=
  match gv L r with
  | none => L
  | some x => match gv L ((r + c) % m) with
    | none => L.set ((r + c) % m) (some (x + c))
    | some y => if x + c < y then L.set ((r + c) % m) (some (x + c)) else L
def Rel (m c : Nat) (L : Tb) (r : Nat) : Prop := ∀ x, gv L r = some x → ∃ y, gv L ((r + c) % m) = some y ∧ y ≤ x + c
theorem gv_set {L : Tb} {i j : Nat} {v : Option Nat} (hi : i < L.length) : gv (L.set i v) j = if j = i then v else gv L j := by
  unfold gv
  rw [List.getD_eq_getElem?_getD, List.getElem?_set, List.getD_eq_getElem?_getD]
  by_cases e : i = j
  · subst e
    rw [if_pos rfl, if_pos hi, if_pos rfl]
    rfl
  · rw [if_neg e, if_neg (fun z => e z.symm)]
theorem relax_len (m c : Nat) (L : Tb) (r : Nat) : (relax m c L r).length = L.length := by
  unfold relax
  split
  · rfl
  · split
    · rw [List.length_set]
    · split
      · rw [List.length_set]
      · rfl
/-- what a step changes -/
theorem relax_at {m c : Nat} {L : Tb} {r : Nat} (hm : 0 < m) (hL : L.length = m) (j : Nat) : gv (relax m c L r) j = gv L j ∨ (j = (r + c) % m ∧ ∃ x, gv L r = some x ∧ gv (relax m c L r) j = some (x + c) ∧ ∀ y, gv L j = some y → x + c < y) := by
  have ho : (r + c) % m < L.length := by rw [hL]; exact Nat.mod_lt _ hm
  unfold relax
  split
  · exact .inl rfl
  · rename_i x hx
    split
    · rename_i hy
      rw [gv_set ho]
      by_cases e : j = (r + c) % m
      · rw [if_pos e]
        exact .inr ⟨e, x, hx, rfl, fun y h => by rw [e, hy] at h; cases h⟩
      · rw [if_neg e]
        exact .inl rfl
    · rename_i y hy
      split
      · rename_i hlt
        rw [gv_set ho]
        by_cases e : j = (r + c) % m
        · rw [if_pos e]
          exact .inr ⟨e, x, hx, rfl, fun z h => by rw [e, hy] at h; cases h; exact hlt⟩
        · rw [if_neg e]
          exact .inl rfl
      · exact .inl rfl
theorem relax_dec {m c : Nat} {L : Tb} {r : Nat} (hm : 0 < m) (hL : L.length = m) {j x : Nat} (h : gv L j = some x) : ∃ y, gv (relax m c L r) j = some y ∧ y ≤ x := by
  rcases relax_at hm hL (c := c) (r := r) j with e | ⟨_, z, _, e, k⟩
  · exact ⟨x, by rw [e]; exact h, Nat.le_refl _⟩
  · exact ⟨z + c, e, Nat.le_of_lt (k x h)⟩
theorem relax_rel {m c : Nat} {L : Tb} {r : Nat} (hm : 0 < m) (hL : L.length = m) : Rel m c (relax m c L r) r := by
  intro x hx
  have ho : (r + c) % m < L.length := by rw [hL]; exact Nat.mod_lt _ hm
  -- the source is as it was
  have src : gv L r = some x := by
    rcases relax_at hm hL (c := c) (r := r) r with e | ⟨_, z, hz, e, k⟩
    · rw [← e]; exact hx
    · have := k z hz
      omega
  unfold relax
  rw [src]
  dsimp only
  split
  · rw [gv_set ho, if_pos rfl]
    exact ⟨_, rfl, Nat.le_refl _⟩
  · rename_i y hy
    split
    · rw [gv_set ho, if_pos rfl]
      exact ⟨_, rfl, Nat.le_refl _⟩
    · exact ⟨y, hy, by omega⟩
theorem relax_id {m c : Nat} {L : Tb} {r : Nat} (h : Rel m c L r) : relax m c L r = L := by
  unfold relax
  split
  · rfl
  · rename_i x hx
    obtain ⟨y, hy, hle⟩ := h x hx
    rw [hy]
    dsimp only
    rw [if_neg (by omega)]

/-! ### a walk along one circle -/
def pos (m c start k : Nat) : Nat := (start + k * c) % m
def runs (m c start : Nat) (L : Tb) : Nat → Tb
  | 0 => L
  | k + 1 => relax m c (runs m c start L k) (pos m c start k)
theorem pos_succ (m c start k : Nat) : (pos m c start k + c) % m = pos m c start (k + 1) := by
  unfold pos
  rw [Nat.mod_add_mod, Nat.add_mul, Nat.one_mul, Nat.add_assoc]
theorem runs_len (m c start : Nat) (L : Tb) : ∀ k, (runs m c start L k).length = L.length
  | 0 => rfl
  | k + 1 => by
    show (relax _ _ _ _).length = _
    rw [relax_len]
    exact runs_len m c start L k
theorem least_nat (P : Nat → Prop) (h : ∃ n, P n) : ∃ n, P n ∧ ∀ k, P k → n ≤ k := by
  obtain ⟨n, hn⟩ := h
  induction n using Nat.strongRecOn with
  | ind n ih =>
    by_cases z : ∃ k, k < n ∧ P k
    · obtain ⟨k, hk, pk⟩ := z
      exact ih k hk pk
    · exact ⟨n, hn, fun k pk => Nat.le_of_not_lt fun hk => z ⟨k, hk, pk⟩⟩
section
variable {m c start T : Nat} {L : Tb}
theorem circle (hm : 0 < m) (hL : L.length = m) (hc : 0 < c) (hT : 0 < T) (per : ∀ i, pos m c start (i + T) = pos m c start i) (inj : ∀ i j, i < j → j < i + T → pos m c start i ≠ pos m c start j) (k : Nat) : Rel m c (runs m c start L (2 * T)) (pos m c start k) := by
  have len : ∀ k, (runs m c start L k).length = m := fun k => by rw [runs_len, hL]
  have perN : ∀ i n, pos m c start (i + n * T) = pos m c start i := by
    intro i n
    induction n with
    | zero => rw [Nat.zero_mul, Nat.add_zero]
    | succ n ih => rw [Nat.add_mul, Nat.one_mul, ← Nat.add_assoc, per, ih]
  by_cases hz : ∃ n, ∃ i, gv L (pos m c start i) = some n
  · obtain ⟨u, ⟨i0, hi0⟩, hmin⟩ := least_nat _ hz
    -- i0 may be taken below T
    have red : pos m c start (i0 % T) = pos m c start i0 := by
      have e := perN (i0 % T) (i0 / T)
      rw [Nat.mul_comm, Nat.mod_add_div] at e
      exact e.symm
    rw [← red] at hi0
    have hlt : i0 % T < T := Nat.mod_lt _ hT
    generalize i0 % T = b at hi0 hlt
    have A : ∀ k, (∀ i x, gv (runs m c start L k) (pos m c start i) = some x → u ≤ x) ∧ gv (runs m c start L k) (pos m c start b) = some u := by
      intro k
      induction k with
      | zero => exact ⟨fun i x h => hmin x ⟨i, h⟩, hi0⟩
      | succ k ih =>
        refine ⟨fun i x h => ?_, ?_⟩
        · rcases relax_at hm (len k) (c := c) (r := pos m c start k) (pos m c start i) with e | ⟨_, z, hz, e, _⟩
          · exact ih.1 i x (by rw [← e]; exact h)
          · have h2 : some (z + c) = some x := e.symm.trans h
            have := ih.1 k z hz
            cases h2
            omega
        · rcases relax_at hm (len k) (c := c) (r := pos m c start k) (pos m c start b) with e | ⟨_, z, hz, e, kk⟩
          · exact e.trans ih.2
          · have := kk u ih.2
            have := ih.1 k z hz
            omega
    have B : ∀ t, t ≤ T → ∀ s, s < t → Rel m c (runs m c start L (b + t)) (pos m c start (b + s)) := by
      intro t
      induction t with
      | zero => exact fun _ s hs => absurd hs (Nat.not_lt_zero _)
      | succ t ih =>
        intro ht s hs
        show Rel m c (relax m c (runs m c start L (b + t)) (pos m c start (b + t))) _
        rcases Nat.lt_or_ge s t with hst | hst
        · have old := ih (by omega) s hst
          intro x hx
          -- the source of an elder edge has not changed
          have src : gv (runs m c start L (b + t)) (pos m c start (b + s)) = some x := by
            rcases relax_at hm (len (b + t)) (c := c) (r := pos m c start (b + t)) (pos m c start (b + s)) with e | ⟨e1, z, hz, e, kk⟩
            · rw [← e]; exact hx
            · rw [pos_succ] at e1
              have hT2 : t + 1 = T ∧ s = 0 := by
                rcases Nat.lt_or_ge (t + 1 - s) T with y | y
                · exact absurd e1 (inj (b + s) (b + t + 1) (by omega) (by omega))
                · omega
              obtain ⟨_, rfl⟩ := hT2
              have h1 := (A (b + t)).2
              have h2 := kk u h1
              have h3 := (A (b + t)).1 (b + t) z hz
              omega
          obtain ⟨y, hy, hle⟩ := old x src
          obtain ⟨y', hy', hle'⟩ := relax_dec hm (len (b + t)) (c := c) (r := pos m c start (b + t)) hy
          exact ⟨y', hy', by omega⟩
        · have e : s = t := by omega
          subst e
          exact relax_rel hm (len (b + s))
    have all : ∀ i, Rel m c (runs m c start L (b + T)) (pos m c start i) := fun i => by
      -- i is b + s by the period
      have h1 := B T (Nat.le_refl _) ((i + (T - b % T)) % T) (Nat.mod_lt _ hT)
      have e : pos m c start (b + (i + (T - b % T)) % T) = pos m c start i := by
        have e1 := perN (b + (i + (T - b % T)) % T) ((i + (T - b % T)) / T)
        have hbT : b % T = b := Nat.mod_eq_of_lt hlt
        have e2 : b + (i + (T - b % T)) % T + (i + (T - b % T)) / T * T = i + 1 * T := by
          have := Nat.mod_add_div (i + (T - b % T)) T
          rw [Nat.mul_comm] at this
          rw [hbT] at this ⊢
          omega
        rw [e2, perN] at e1
        exact e1.symm
      rw [e] at h1
      exact h1
    have stay : ∀ d, runs m c start L (b + T + d) = runs m c start L (b + T) := by
      intro d
      induction d with
      | zero => rfl
      | succ d ih =>
        show relax m c (runs m c start L (b + T + d)) _ = _
        rw [ih, relax_id (all _)]
    have e : 2 * T = b + T + (T - b) := by omega
    rw [e, stay]
    exact all k
  · have none_ : ∀ i, gv L (pos m c start i) = none := fun i => by
      cases e : gv L (pos m c start i) with
      | none => rfl
      | some x => exact absurd ⟨x, i, e⟩ hz
    have stay : ∀ d, runs m c start L d = L := by
      intro d
      induction d with
      | zero => rfl
      | succ d ih =>
        show relax m c (runs m c start L d) _ = _
        rw [ih]
        refine relax_id fun x hx => ?_
        rw [none_] at hx
        cases hx
    rw [stay]
    intro x hx
    rw [none_] at hx
    cases hx
end
/-! ### numbers: the circles -/
theorem bezout (a b : Nat) : ∃ x y : Int, (a : Int) * x + (b : Int) * y = (Nat.gcd a b : Nat) := by
  induction a, b using Nat.gcd.induction with
  | H0 n => exact ⟨0, 1, by simp⟩
  | H1 m n hm ih =>
    obtain ⟨x, y, e⟩ := ih
    refine ⟨y - (n / m : Nat) * x, x, ?_⟩
    rw [Nat.gcd_rec, ← e]
    have h := Nat.mod_add_div n m
    have h2 : ((n % m : Nat) : Int) = (n : Int) - (m : Int) * ((n / m : Nat) : Int) := by
      have : (n : Int) = ((n % m + m * (n / m) : Nat) : Int) := by rw [h]
      rw [this]
      push_cast
      omega
    rw [h2]
    simp only [Int.mul_sub, Int.sub_mul, Int.mul_assoc]
    omega
end CY

set_option Elab.async false
set_option linter.all false
set_option maxRecDepth 100000
namespace CY
open PySem PySem.Spec PyProof.Rows L2
section
variable {m c : Nat}
theorem per_ok (start i : Nat) : pos m c start (i + m / Nat.gcd m c) = pos m c start i := by
  unfold pos
  have h1 : m / Nat.gcd m c * c = m * (c / Nat.gcd m c) := by
    obtain ⟨a, ha⟩ := Nat.gcd_dvd_left m c
    obtain ⟨b, hb⟩ := Nat.gcd_dvd_right m c
    rcases Nat.eq_zero_or_pos (Nat.gcd m c) with z | z
    · rw [z] at ha hb
      rw [ha, hb]
      simp
    · have e1 : m / Nat.gcd m c = a := by
        conv => lhs; rw [ha]
        conv => lhs; arg 2; rw [← ha]
        exact Nat.mul_div_cancel_left _ z
      have e2 : c / Nat.gcd m c = b := by
        conv => lhs; rw [hb]
        conv => lhs; arg 2; rw [← hb]
        exact Nat.mul_div_cancel_left _ z
      rw [e1, e2]
      conv => lhs; rw [hb]
      conv => rhs; rw [ha]
      rw [← Nat.mul_assoc, Nat.mul_comm a, Nat.mul_assoc]
  rw [Nat.add_mul, h1, ← Nat.add_assoc, Nat.add_mul_mod_self_left]
theorem inj_ok (hm : 0 < m) (start : Nat) (i j : Nat) (hij : i < j) (hj : j < i + m / Nat.gcd m c) : pos m c start i ≠ pos m c start j := by
  unfold pos
  intro e
  have hg : 0 < Nat.gcd m c := Nat.gcd_pos_of_pos_left _ hm
  have hd : m ∣ (j - i) * c := by
    have h2 : start + j * c = start + i * c + (j - i) * c := by
      have : j = i + (j - i) := by omega
      conv => lhs; rw [this, Nat.add_mul]
      omega
    rw [h2] at e
    have h3 : (start + i * c + (j - i) * c) % m = (start + i * c + 0) % m := by rw [Nat.add_zero]; exact e.symm
    have h4 : (start + i * c + (j - i) * c) - (start + i * c) = (j - i) * c := by omega
    have h5 := (Nat.sub_mod_eq_zero_of_mod_eq h3)
    rw [Nat.add_zero, h4] at h5
    exact Nat.dvd_of_mod_eq_zero h5
  have hc1 : m / Nat.gcd m c ∣ (j - i) * (c / Nat.gcd m c) := by
    have h6 : Nat.gcd m c * (m / Nat.gcd m c) = m := Nat.mul_div_cancel' (Nat.gcd_dvd_left m c)
    have h7 : Nat.gcd m c * (c / Nat.gcd m c) = c := Nat.mul_div_cancel' (Nat.gcd_dvd_right m c)
    refine Nat.dvd_of_mul_dvd_mul_left hg ?_
    rw [h6, ← Nat.mul_assoc, Nat.mul_comm (Nat.gcd m c), Nat.mul_assoc, h7]
    exact hd
  have hco : Nat.Coprime (m / Nat.gcd m c) (c / Nat.gcd m c) := Nat.coprime_div_gcd_div_gcd hg
  rw [Nat.mul_comm] at hc1
  have := Nat.le_of_dvd (by omega) (hco.dvd_of_dvd_mul_left hc1)
  omega
theorem pos_mod (start k : Nat) : pos m c start k % Nat.gcd m c = start % Nat.gcd m c := by
  unfold pos
  rw [Nat.mod_mod_of_dvd _ (Nat.gcd_dvd_left m c)]
  obtain ⟨b, hb⟩ := Nat.gcd_dvd_right m c
  have : k * c = Nat.gcd m c * (b * k) := by
    conv => lhs; rw [hb]
    rw [Nat.mul_comm k, Nat.mul_assoc]
  rw [this, Nat.add_mul_mod_self_left]
theorem surj_ok (hm : 0 < m) {r start : Nat} (hr : r < m) (hs : r % Nat.gcd m c = start) : ∃ k, pos m c start k = r := by
  obtain ⟨x, y, e⟩ := bezout m c
  have hmi : (m : Int) ≠ 0 := by omega
  have hr2 := Nat.mod_add_div r (Nat.gcd m c)
  rw [hs] at hr2
  generalize r / Nat.gcd m c = q at hr2
  generalize Nat.gcd m c = g at e hr2
  have hk0 := Int.emod_nonneg ((q : Int) * y) hmi
  obtain ⟨k, hk⟩ := Int.eq_ofNat_of_zero_le hk0
  refine ⟨k, ?_⟩
  unfold pos
  have key : ((start : Int) + (k : Int) * (c : Int)) % (m : Int) = (r : Int) := by
    rw [← hk]
    have h1 : ((start : Int) + (q : Int) * y % (m : Int) * (c : Int)) % (m : Int) = ((start : Int) + (q : Int) * y * (c : Int)) % (m : Int) := by
      rw [Int.add_emod, Int.mul_emod, Int.emod_emod_of_dvd _ (Int.dvd_refl _), ← Int.mul_emod, ← Int.add_emod]
    rw [h1]
    have h2 : (q : Int) * y * (c : Int) = (q : Int) * (g : Int) + (m : Int) * (-(x * (q : Int))) := by
      rw [← e]
      simp only [Int.mul_add, Int.mul_neg]
      have a1 : (q : Int) * y * (c : Int) = (q : Int) * ((c : Int) * y) := by rw [Int.mul_assoc, Int.mul_comm y]
      have a2 : (q : Int) * ((m : Int) * x) = (m : Int) * (x * (q : Int)) := by rw [← Int.mul_assoc, Int.mul_comm (q : Int), Int.mul_assoc, Int.mul_comm (q : Int)]
      rw [a1, a2]
      omega
    rw [h2, ← Int.add_assoc, Int.add_mul_emod_self_left]
    have h3 : (start : Int) + (q : Int) * (g : Int) = (r : Int) := by
      have : ((start + g * q : Nat) : Int) = (r : Int) := by rw [hr2]
      rw [← this]
      push_cast
      rw [Int.mul_comm]
    rw [h3]
    exact Int.emod_eq_of_lt (by omega) (by omega)
  have h4 : (((start + k * c) % m : Nat) : Int) = (r : Int) := by
    push_cast
    exact key
  exact Int.ofNat.inj h4
end

/-! ### the table of least sums -/
structure LT (ks : List Int) (m : Nat) (L : Tb) : Prop where
  len : L.length = m
  sound : ∀ r x, gv L r = some x → Made ks (x : Int) ∧ x % m = r
  best : ∀ n : Nat, Made ks (n : Int) → ∃ y, gv L (n % m) = some y ∧ y ≤ n
def outer (m c N : Nat) (L : Tb) : Nat → Tb
  | 0 => L
  | s + 1 => runs m c s (outer m c N L s) N
/-- a made sum, the coin c taken out -/
theorem made_split {ks : List Int} {c : Int} {n : Int} (m : Made (ks ++ [c]) n) : ∃ (j : Nat) (a : Int), Made ks a ∧ n = a + j * c := by
  induction m with
  | zero => exact ⟨0, 0, .zero, by simp⟩
  | @add a b m hb ih =>
    obtain ⟨j, d, hd, e⟩ := ih
    rcases List.mem_append.mp hb with z | z
    · exact ⟨j, d + b, hd.add z, by rw [e]; omega⟩
    · refine ⟨j + 1, d, hd, ?_⟩
      rw [e, List.mem_singleton.mp z]
      push_cast
      rw [Int.add_mul]
      omega
theorem LT.add {ks : List Int} {m c : Nat} {L : Tb} (h : LT ks m L) (hp : Pos ks) (hm : 0 < m) (hc : 0 < c) : LT (ks ++ [(c : Int)]) m (outer m c (2 * (m / Nat.gcd m c)) L (Nat.gcd m c)) := by
  have hg : 0 < Nat.gcd m c := Nat.gcd_pos_of_pos_left _ hm
  have hT : 0 < m / Nat.gcd m c := Nat.div_pos (Nat.le_of_dvd hm (Nat.gcd_dvd_left m c)) hg
  -- one walk
  have walk : ∀ (s : Nat) (M : Tb), M.length = m → (∀ r x, gv M r = some x → Made (ks ++ [(c : Int)]) (x : Int) ∧ x % m = r) → ∀ k,
      (∀ r x, gv (runs m c s M k) r = some x → Made (ks ++ [(c : Int)]) (x : Int) ∧ x % m = r) ∧ (∀ r x, gv M r = some x → ∃ y, gv (runs m c s M k) r = some y ∧ y ≤ x) ∧ (∀ r, r % Nat.gcd m c ≠ s % Nat.gcd m c → gv (runs m c s M k) r = gv M r) := by
    intro s M hl hs k
    induction k with
    | zero => exact ⟨hs, fun r x e => ⟨x, e, Nat.le_refl _⟩, fun _ _ => rfl⟩
    | succ k ih =>
      have lk : (runs m c s M k).length = m := by rw [runs_len, hl]
      refine ⟨fun r x e => ?_, fun r x e => ?_, fun r hr => ?_⟩
      · rcases relax_at hm lk (c := c) (r := pos m c s k) r with z | ⟨e1, x0, hx0, e2, _⟩
        · exact ih.1 r x (z.symm.trans e)
        · have e3 : some (x0 + c) = some x := e2.symm.trans e
          cases e3
          obtain ⟨a1, a2⟩ := ih.1 _ _ hx0
          refine ⟨?_, ?_⟩
          · have := a1.add (c := (c : Int)) (List.mem_append_right _ List.mem_cons_self)
            push_cast
            exact this
          · rw [e1, ← a2, Nat.mod_add_mod]
      · obtain ⟨y, e1, h1⟩ := ih.2.1 r x e
        obtain ⟨y', e2, h2⟩ := relax_dec hm lk (c := c) (r := pos m c s k) e1
        exact ⟨y', e2, by omega⟩
      · rcases relax_at hm lk (c := c) (r := pos m c s k) r with z | ⟨e1, _⟩
        · exact z.trans (ih.2.2 r hr)
        · rw [pos_succ] at e1
          rw [e1, pos_mod] at hr
          exact absurd rfl hr
  have inv : ∀ s, s ≤ Nat.gcd m c → (outer m c (2 * (m / Nat.gcd m c)) L s).length = m ∧ (∀ r x, gv (outer m c (2 * (m / Nat.gcd m c)) L s) r = some x → Made (ks ++ [(c : Int)]) (x : Int) ∧ x % m = r) ∧
      (∀ r x, gv L r = some x → ∃ y, gv (outer m c (2 * (m / Nat.gcd m c)) L s) r = some y ∧ y ≤ x) ∧ ∀ r, r < m → r % Nat.gcd m c < s → Rel m c (outer m c (2 * (m / Nat.gcd m c)) L s) r := by
    intro s
    induction s with
    | zero => exact fun _ => ⟨h.len, fun r x e => ⟨(h.sound r x e).1.mono fun y hy => List.mem_append_left _ hy, (h.sound r x e).2⟩, fun r x e => ⟨x, e, Nat.le_refl _⟩, fun r _ z => absurd z (Nat.not_lt_zero _)⟩
    | succ s ih =>
      intro hs
      obtain ⟨i1, i2, i3, i4⟩ := ih (by omega)
      obtain ⟨w1, w2, w3⟩ := walk s _ i1 i2 (2 * (m / Nat.gcd m c))
      refine ⟨by show (runs _ _ _ _ _).length = m; rw [runs_len]; exact i1, w1, fun r x e => ?_, fun r hr z => ?_⟩
      · obtain ⟨y, e1, h1⟩ := i3 r x e
        obtain ⟨y', e2, h2⟩ := w2 r y e1
        exact ⟨y', e2, by omega⟩
      · rcases Nat.lt_or_ge (r % Nat.gcd m c) s with y | y
        · -- another circle: as it was
          have ss : s % Nat.gcd m c = s := Nat.mod_eq_of_lt (by omega)
          have a1 : gv (runs m c s (outer m c (2 * (m / Nat.gcd m c)) L s) (2 * (m / Nat.gcd m c))) r = gv (outer m c (2 * (m / Nat.gcd m c)) L s) r := w3 r (by rw [ss]; omega)
          have a2 : gv (runs m c s (outer m c (2 * (m / Nat.gcd m c)) L s) (2 * (m / Nat.gcd m c))) ((r + c) % m) = gv (outer m c (2 * (m / Nat.gcd m c)) L s) ((r + c) % m) := by
            refine w3 _ ?_
            have : (r + c) % m % Nat.gcd m c = r % Nat.gcd m c := by
              have := pos_mod (m := m) (c := c) r 1
              unfold pos at this
              rw [Nat.one_mul] at this
              exact this
            rw [this, ss]
            omega
          intro x hx
          show ∃ y, gv (runs _ _ _ _ _) _ = some y ∧ _
          rw [a2]
          exact i4 r hr y x (a1.symm.trans hx)
        · have e : r % Nat.gcd m c = s := by omega
          obtain ⟨k, hk⟩ := surj_ok hm hr e
          rw [← hk]
          exact circle hm i1 hc hT (per_ok s) (inj_ok hm s) k
  obtain ⟨i1, i2, i3, i4⟩ := inv _ (Nat.le_refl _)
  refine ⟨i1, i2, fun n mn => ?_⟩
  have hpc : Pos (ks ++ [(c : Int)]) := fun x hx => (List.mem_append.mp hx).elim (hp x) fun z => by rw [List.mem_singleton.mp z]; omega
  obtain ⟨j, a, ha, e⟩ := made_split mn
  have a0 := ha.nonneg hp
  -- up the circle, j times
  have up : ∀ j : Nat, ∃ y, gv (outer m c (2 * (m / Nat.gcd m c)) L (Nat.gcd m c)) ((a.toNat + j * c) % m) = some y ∧ y ≤ a.toNat + j * c := by
    intro j
    induction j with
    | zero =>
      rw [Nat.zero_mul, Nat.add_zero]
      obtain ⟨y, e1, h1⟩ := h.best a.toNat (by rw [Int.toNat_of_nonneg a0]; exact ha)
      obtain ⟨y', e2, h2⟩ := i3 _ _ e1
      exact ⟨y', e2, by omega⟩
    | succ j ih =>
      obtain ⟨y, e1, h1⟩ := ih
      obtain ⟨y', e2, h2⟩ := i4 ((a.toNat + j * c) % m) (Nat.mod_lt _ hm) (Nat.mod_lt _ hg) y e1
      have e3 : ((a.toNat + j * c) % m + c) % m = (a.toNat + (j + 1) * c) % m := by
        rw [Nat.mod_add_mod, Nat.add_mul, Nat.one_mul, Nat.add_assoc]
      rw [e3] at e2
      refine ⟨y', e2, ?_⟩
      rw [Nat.add_mul, Nat.one_mul]
      omega
  obtain ⟨y, e1, h1⟩ := up j
  have en : a.toNat + j * c = n := by
    have : ((a.toNat + j * c : Nat) : Int) = (n : Int) := by
      push_cast
      rw [Int.toNat_of_nonneg a0]
      exact e.symm
    omega
  rw [en] at e1 h1
  exact ⟨y, e1, h1⟩
end CY

set_option Elab.async false
set_option linter.all false
set_option maxRecDepth 100000
namespace CY
open PySem PySem.Spec PyProof.Rows L2

/-! ### least sums as a list of the program -/
def ov : Option Nat → V
  | none => .non
  | some s => .int (s : Int)
abbrev ovs (L : Tb) : List V := L.map ov
theorem ov_at {L : Tb} {r : Nat} (h : r < L.length) : atI (ovs L) (r : Int) = some (ov (gv L r)) := by
  refine atI_nat ?_
  unfold ovs gv
  rw [List.getElem?_map, List.getD_eq_getElem?_getD, List.getElem?_eq_getElem h]
  rfl
theorem ovs_len (L : Tb) : (ovs L).length = L.length := List.length_map ..
theorem ixN_nat {n o : Nat} (h : o < n) : ixN n (o : Int) = some o := by
  unfold ixN
  rw [if_pos (by omega), if_pos (by omega)]
  congr 1
theorem upd_id {H : Hp} {l : Addr} {o : HO} (h : H l = some o) : upd H l o = H := by
  funext b
  by_cases e : b = l
  · rw [e, upd_same, h]
  · rw [upd_ne e]
/-- the least coin -/
def m0 (cs : List Int) : Nat := (cs.headD 0).toNat
def sp_addonce : Sp := fun vs H Q _ => ∃ (l : Addr) (L : Tb) (m c r : Nat), vs = [.ref l, .int (r : Int), .int (c : Int)] ∧ H l = some (.lst (ovs L)) ∧ L.length = m ∧ 0 < m ∧ r < m ∧ Q (.int (((r + c) % m : Nat) : Int)) (upd H l (.lst (ovs (relax m c L r))))
def sp_addleast : Sp := fun vs H Q _ => ∃ (l : Addr) (L : Tb) (m c : Nat), vs = [.ref l, .int (c : Int)] ∧ H l = some (.lst (ovs L)) ∧ L.length = m ∧ 0 < m ∧ m ≤ 8000 ∧ 0 < c ∧ c ≤ 400 ∧ Q .non (upd H l (.lst (ovs (outer m c (2 * (m / Nat.gcd m c)) L (Nat.gcd m c)))))
def sp_lsums : Sp := fun vs H Q _ => ∃ (t : Addr) (cs : List Int), vs = [.ref t] ∧ H t = some (.tup (ivs cs)) ∧ Purse 400 cs ∧ ∀ (l : Addr) (L : Tb) (H' : Hp), Same H H' → H l = none → H' l = some (.lst (ovs L)) → LT cs (m0 cs) L → Q (.ref l) H'
theorem outer_len (m c N : Nat) (L : Tb) : ∀ s, (outer m c N L s).length = L.length
  | 0 => rfl
  | s + 1 => by
    show (runs _ _ _ _ _).length = _
    rw [runs_len]
    exact outer_len m c N L s
/-- the table of the least coin alone -/
theorem LT.first {c : Int} (hc : 1 ≤ c) : LT [c] c.toNat ((List.replicate c.toNat none).set 0 (some 0)) := by
  have h0 : 0 < c.toNat := by omega
  have g : ∀ r, gv ((List.replicate c.toNat none).set 0 (some 0)) r = if r = 0 then some 0 else none := fun r => by
    rw [gv_set (by rw [List.length_replicate]; exact h0)]
    split
    · rfl
    · unfold gv
      rw [List.getD_eq_getElem?_getD, List.getElem?_replicate]
      split <;> rfl
  refine ⟨by rw [List.length_set, List.length_replicate], fun r x e => ?_, fun n mn => ?_⟩
  · rw [g] at e
    split at e
    · cases e
      rename_i hr
      rw [hr]
      exact ⟨.zero, Nat.zero_mod _⟩
    · cases e
  · have : n % c.toNat = 0 := by
      have key : ∀ a : Int, Made [c] a → ∃ k : Nat, a = k * c := fun a ma => by
        induction ma with
        | zero => exact ⟨0, by simp⟩
        | @add a b m hb ih =>
          obtain ⟨k, e⟩ := ih
          refine ⟨k + 1, ?_⟩
          rw [List.mem_singleton.mp hb, e]
          push_cast
          rw [Int.add_mul]
          omega
      obtain ⟨k, e⟩ := key _ mn
      have e2 : n = k * c.toNat := by
        have : (n : Int) = ((k * c.toNat : Nat) : Int) := by
          push_cast
          rw [e, Int.toNat_of_nonneg (by omega)]
        omega
      rw [e2, Nat.mul_mod_left]
    rw [this, g]
    exact ⟨0, rfl, Nat.zero_le _⟩
/-- whether a sum is made, by the table -/
theorem lt_made {cs : List Int} {m : Nat} {L : Tb} (h : LT cs m L) (hm : (m : Int) ∈ cs) (h0 : 0 < m) (n : Nat) : mk cs (n : Int) = (match gv L (n % m) with | none => false | some s => decide (s ≤ n)) := by
  rw [Bool.eq_iff_iff, mk_iff]
  constructor
  · intro mn
    obtain ⟨y, e, hle⟩ := h.best n mn
    rw [e]
    exact decide_eq_true hle
  · intro z
    cases e : gv L (n % m) with
    | none => rw [e] at z; cases z
    | some s =>
      rw [e] at z
      have hle : s ≤ n := of_decide_eq_true z
      obtain ⟨ms, er⟩ := h.sound _ _ e
      have hd : m ∣ n - s := Nat.dvd_of_mod_eq_zero (Nat.sub_mod_eq_zero_of_mod_eq er.symm)
      obtain ⟨k, ek⟩ := hd
      have up : ∀ k : Nat, Made cs ((s + m * k : Nat) : Int) := fun k => by
        induction k with
        | zero => simpa using ms
        | succ k ih =>
          have := ih.add hm
          have e : ((s + m * (k + 1) : Nat) : Int) = ((s + m * k : Nat) : Int) + (m : Int) := by
            rw [Nat.mul_add]
            omega
          rw [e]
          exact this
      have := up k
      rw [← ek, show s + (n - s) = n by omega] at this
      exact this
end CY

set_option Elab.async false
set_option linter.all false
set_option maxRecDepth 100000
namespace CY
open PySem PySem.Spec PyProof.Rows L2

/-! ### how far the least sums go -/
def mx (cs : List Int) : Nat := (cs.getLastD 0).toNat
def far (cs : List Int) : Nat := m0 cs * mx cs
theorem cnt_lt {α : Type} {p q : α → Bool} : ∀ {l : List α}, (∀ x ∈ l, p x = true → q x = true) → (∃ x ∈ l, p x = false ∧ q x = true) → l.countP p + 1 ≤ l.countP q
  | [], _, h => by obtain ⟨x, hx, _⟩ := h; cases hx
  | y :: r, h, ⟨x, hx, h1, h2⟩ => by
    have le : r.countP p ≤ r.countP q := List.countP_mono_left fun z hz => h z (List.mem_cons_of_mem _ hz)
    rw [List.countP_cons, List.countP_cons]
    rcases List.mem_cons.mp hx with e | hx
    · subst e
      rw [if_neg (by rw [h1]; exact Bool.false_ne_true), if_pos h2]
      omega
    · have := cnt_lt (l := r) (fun z hz => h z (List.mem_cons_of_mem _ hz)) ⟨x, hx, h1, h2⟩
      have hy := h y List.mem_cons_self
      split
      · rw [if_pos (hy ‹_›)]
        omega
      · split <;> omega
def below (L : Tb) (s : Nat) (r : Nat) : Bool := match gv L r with
  | none => false
  | some y => decide (y < s)
theorem LT.bound {cs : List Int} {m : Nat} {L : Tb} {M : Nat} (h : LT cs m L) (hm : 0 < m) (hp : Pos cs) (hM : ∀ c ∈ cs, c ≤ (M : Int)) : ∀ n : Int, Made cs n → ∀ s : Nat, n = (s : Int) → gv L (s % m) = some s → s ≤ M * (List.range m).countP (below L s) := by
  intro n mn
  induction mn with
  | zero =>
    intro s e _
    have : s = 0 := by omega
    subst this
    exact Nat.zero_le _
  | @add a c ma hc ih =>
    intro s e hs
    have a0 := ma.nonneg hp
    have c0 := hp c hc
    have cM := hM c hc
    -- what is before is least, too
    have ea : a = ((a.toNat : Nat) : Int) := by omega
    obtain ⟨y, ey, hy⟩ := h.best a.toNat (by rw [← ea]; exact ma)
    obtain ⟨my, ry⟩ := h.sound _ _ ey
    have hy2 : y = a.toNat := by
      rcases Nat.lt_or_ge y a.toNat with z | z
      · exfalso
        have m1 := my.add hc
        have e1 : (y : Int) + c = ((y + c.toNat : Nat) : Int) := by omega
        rw [e1] at m1
        obtain ⟨u, eu, hu⟩ := h.best _ m1
        have e2 : (y + c.toNat) % m = s % m := by
          have e3 : s = a.toNat + c.toNat := by omega
          rw [e3, Nat.add_mod, ry, ← Nat.add_mod]
        rw [e2, hs] at eu
        cases eu
        omega
      · omega
    rw [hy2] at ey
    have := ih a.toNat ea ey
    have step : (List.range m).countP (below L a.toNat) + 1 ≤ (List.range m).countP (below L s) := by
      refine cnt_lt (fun r _ hr => ?_) ⟨a.toNat % m, List.mem_range.mpr (Nat.mod_lt _ hm), ?_, ?_⟩
      · unfold below at hr ⊢
        split at hr
        · cases hr
        · rename_i z ez
          have := of_decide_eq_true hr
          exact decide_eq_true (by omega)
      · unfold below
        rw [ey]
        exact decide_eq_false (by omega)
      · unfold below
        rw [ey]
        exact decide_eq_true (by omega)
    have h3 := Nat.mul_le_mul_left M step
    rw [Nat.mul_add, Nat.mul_one] at h3
    omega
theorem LT.far {cs : List Int} {m : Nat} {L : Tb} {M : Nat} (h : LT cs m L) (hm : 0 < m) (hp : Pos cs) (hM : ∀ c ∈ cs, c ≤ (M : Int)) {r x : Nat} (e : gv L r = some x) : x ≤ m * M := by
  obtain ⟨mx, er⟩ := h.sound _ _ e
  have h1 := h.bound hm hp hM _ mx x rfl (by rw [er]; exact e)
  have h2 : (List.range m).countP (below L x) ≤ m := by
    have := List.countP_le_length (p := below L x) (l := List.range m)
    rwa [List.length_range] at this
  have := Nat.mul_le_mul_left M h2
  rw [Nat.mul_comm m]
  omega
/-! ### a walk by steps -/
/-! ### the purse's ends -/
theorem le_last {cs : List Int} (h : cs.Pairwise (· < ·)) (hn : cs ≠ []) : ∀ c ∈ cs, c ≤ cs.getLast hn := by
  intro c hc
  have e := List.dropLast_concat_getLast hn
  rw [← e] at hc h
  rcases List.mem_append.mp hc with z | z
  · have := (List.pairwise_append.mp h).2.2 c z _ (List.mem_singleton.mpr rfl)
    omega
  · rw [List.mem_singleton.mp z]
    exact Int.le_refl _
theorem Purse.mx {m : Int} {cs : List Int} (p : Purse m cs) : ((mx cs : Nat) : Int) = cs.getLast p.ne ∧ ∀ c ∈ cs, c ≤ ((CY.mx cs : Nat) : Int) := by
  have e : cs.getLastD 0 = cs.getLast p.ne := by
    rw [List.getLastD_eq_getLast?, List.getLast?_eq_some_getLast p.ne]
    rfl
  have h1 := p.lo _ (List.getLast_mem p.ne)
  have e2 : ((CY.mx cs : Nat) : Int) = cs.getLast p.ne := by
    unfold CY.mx
    rw [e]
    omega
  exact ⟨e2, fun c hc => by rw [e2]; exact le_last p.rise p.ne c hc⟩
theorem Purse.m0 {m : Int} {cs : List Int} (p : Purse m cs) : ((m0 cs : Nat) : Int) ∈ cs ∧ atI (ivs cs) 0 = some (.int ((CY.m0 cs : Nat) : Int)) := by
  cases h : cs with
  | nil => exact absurd h p.ne
  | cons c r =>
    have h1 := p.lo c (by rw [h]; exact List.mem_cons_self)
    have e : ((CY.m0 (c :: r) : Nat) : Int) = c := by
      unfold CY.m0
      show ((c.toNat : Nat) : Int) = c
      omega
    rw [e]
    exact ⟨List.mem_cons_self, atI_nat (j := 0) rfl⟩
end CY

set_option Elab.async false
set_option linter.all false
set_option maxRecDepth 100000
namespace CY
open PySem PySem.Spec PyProof.Rows L2

/-! ### beyond the product of the ends -/
theorem made_dvd {cs : List Int} (hp : Pos cs) {n : Int} (m : Made cs n) : ((gcdL cs : Nat) : Int) ∣ n := by
  induction m with
  | zero => exact Int.dvd_zero _
  | @add a c ma hc ih =>
    refine Int.dvd_add ih ?_
    have h := gcdL_dvd cs c hc
    have := hp c hc
    have e : c = ((c.toNat : Nat) : Int) := by omega
    rw [e]
    exact Int.natCast_dvd_natCast.mpr h
theorem made_times {cs : List Int} {c : Int} (hc : c ∈ cs) : ∀ k : Nat, Made cs (k * c)
  | 0 => by simpa using Made.zero
  | k + 1 => by
    have := (made_times hc k).add hc
    have e : ((k + 1 : Nat) : Int) * c = (k : Int) * c + c := by
      push_cast
      rw [Int.add_mul]
      omega
    rw [e]
    exact this
/-- each multiple of the divisor has the rest of a made sum -/
theorem made_rest {m : Nat} (hm : 0 < m) : ∀ {cs : List Int}, Pos cs → ∀ z : Int, ((gcdL cs : Nat) : Int) ∣ z → ∃ s : Int, Made cs s ∧ s % (m : Int) = z % (m : Int)
  | [], _, z, h => by
    have : z = 0 := by
      have h2 : ((0 : Nat) : Int) ∣ z := h
      exact Int.zero_dvd.mp h2
    subst this
    exact ⟨0, .zero, rfl⟩
  | c :: r, hp, z, ⟨k, hk⟩ => by
    have c0 := hp c List.mem_cons_self
    have ec : c = ((c.toNat : Nat) : Int) := by omega
    obtain ⟨x, y, e⟩ := bezout c.toNat (gcdL r)
    rw [← ec, ← gcdL_cons] at e
    obtain ⟨s, ms, es⟩ := made_rest hm (cs := r) (fun d hd => hp d (List.mem_cons_of_mem _ hd)) (((gcdL r : Nat) : Int) * (y * k)) (Int.dvd_mul_right _ _)
    have hmi : (m : Int) ≠ 0 := by omega
    have hk0 := Int.emod_nonneg (x * k) hmi
    obtain ⟨j, hj⟩ := Int.eq_ofNat_of_zero_le hk0
    refine ⟨s + (j : Int) * c, (ms.mono fun d hd => List.mem_cons_of_mem _ hd).plus (made_times List.mem_cons_self j), ?_⟩
    have e1 : z = ((gcdL r : Nat) : Int) * (y * k) + x * k * c := by
      rw [hk, ← e, Int.add_mul]
      have a1 : c * x * k = x * k * c := by rw [Int.mul_comm c x, Int.mul_assoc, Int.mul_comm c k, Int.mul_assoc]
      rw [a1, Int.mul_assoc ((gcdL r : Nat) : Int) y k]
      omega
    rw [e1]
    generalize ((gcdL r : Nat) : Int) * (y * k) = u at es
    rw [← hj, Int.add_emod, es, Int.mul_emod, Int.emod_emod_of_dvd _ (Int.dvd_refl _), ← Int.mul_emod, ← Int.add_emod]
theorem mk_far {cs : List Int} {m : Nat} {L : Tb} {M : Nat} (h : LT cs m L) (hm : 0 < m) (hmc : (m : Int) ∈ cs) (hp : Pos cs) (hM : ∀ c ∈ cs, c ≤ (M : Int)) (hg : 0 < gcdL cs) {n : Int} (hn : ((m * M : Nat) : Int) ≤ n) : mk cs n = decide (n % ((gcdL cs : Nat) : Int) = 0) := by
  rw [Bool.eq_iff_iff, mk_iff, decide_eq_true_iff]
  have en : n = ((n.toNat : Nat) : Int) := by omega
  constructor
  · exact fun z => Int.emod_eq_zero_of_dvd (made_dvd hp z)
  · intro z
    obtain ⟨s, ms, es⟩ := made_rest hm hp n (Int.dvd_of_emod_eq_zero z)
    have s0 := ms.nonneg hp
    have ess : s = ((s.toNat : Nat) : Int) := by omega
    obtain ⟨y, ey, _⟩ := h.best s.toNat (by rw [← ess]; exact ms)
    have er : s.toNat % m = n.toNat % m := by
      have : ((s.toNat % m : Nat) : Int) = ((n.toNat % m : Nat) : Int) := by
        push_cast
        rw [← ess, ← en]
        exact es
      exact Int.ofNat.inj this
    rw [er] at ey
    have hy := h.far hm hp hM ey
    have hle : y ≤ n.toNat := by omega
    have q := lt_made h hmc hm n.toNat
    rw [ey] at q
    have q2 : mk cs ((n.toNat : Nat) : Int) = true := q.trans (decide_eq_true hle)
    rw [← en] at q2
    exact mk_iff.mp q2
/-- a table of least sums there is -/
theorem LT.ex {c : Int} (hc : 1 ≤ c) : ∀ r : List Int, (∀ d ∈ r, 1 ≤ d) → ∀ ks : List Int, Pos (c :: ks) → (∃ L, LT (c :: ks) c.toNat L) → ∃ L, LT (c :: (ks ++ r)) c.toNat L
  | [], _, ks, _, h => by rw [List.append_nil]; exact h
  | d :: r, hr, ks, hp, ⟨L, h⟩ => by
    have d1 := hr d List.mem_cons_self
    have ed : d = ((d.toNat : Nat) : Int) := by omega
    have h2 := h.add (c := d.toNat) hp (by omega) (by omega)
    rw [← ed] at h2
    have := LT.ex hc r (fun z hz => hr z (List.mem_cons_of_mem _ hz)) (ks ++ [d]) (fun z hz => ?_) ⟨_, h2⟩
    · rw [List.append_assoc] at this
      exact this
    · rcases List.mem_cons.mp hz with y | y
      · rw [y]; omega
      · rcases List.mem_append.mp y with y | y
        · exact hp z (List.mem_cons_of_mem _ y)
        · rw [List.mem_singleton.mp y]; omega
theorem Purse.table {m : Int} {cs : List Int} (p : Purse m cs) : ∃ L, LT cs (CY.m0 cs) L := by
  cases h : cs with
  | nil => exact absurd h p.ne
  | cons c r =>
    have c1 := p.lo c (by rw [h]; exact List.mem_cons_self)
    exact LT.ex c1 r (fun d hd => p.lo d (by rw [h]; exact List.mem_cons_of_mem _ hd)) [] (fun z hz => by rw [List.mem_singleton.mp hz]; omega) ⟨_, LT.first c1⟩
end CY

set_option Elab.async false
set_option linter.all false
set_option maxRecDepth 100000
namespace CY
open PySem PySem.Spec PyProof.Rows L2

/-! ### gaps -/
abbrev ints0 (n : Nat) : List Int := (List.range n).map fun (i : Nat) => (i : Int)
theorem mem_ints0 {n : Nat} {x : Int} : x ∈ ints0 n ↔ 0 ≤ x ∧ x < n := by
  constructor
  · intro h
    obtain ⟨i, hi, rfl⟩ := List.mem_map.mp h
    have := List.mem_range.mp hi
    omega
  · rintro ⟨h0, h1⟩
    exact List.mem_map.mpr ⟨x.toNat, List.mem_range.mpr (by omega), by omega⟩
theorem ints0_rise (n : Nat) : (ints0 n).Pairwise (· < ·) := by
  rw [List.pairwise_map]
  exact (List.pairwise_lt_range (n := n)).imp fun h => by omega
noncomputable def gaps (cs : List Int) : List Int := (ints0 (far cs)).filter fun n => !mk cs n
theorem beyond_far {m : Int} {cs : List Int} (p : Purse m cs) (hg : gcdL cs = 1) {n : Int} (hn : ((far cs : Nat) : Int) ≤ n) : mk cs n = true := by
  obtain ⟨L, hL⟩ := p.table
  have h1 := p.lo _ p.m0.1
  have hm : 0 < m0 cs := by omega
  rw [mk_far hL hm p.m0.1 p.pos p.mx.2 (by omega) hn, hg]
  simp [Int.emod_one]
theorem mem_gaps {m : Int} {cs : List Int} (p : Purse m cs) (hg : gcdL cs = 1) {x : Int} : x ∈ gaps cs ↔ 0 ≤ x ∧ mk cs x = false := by
  unfold gaps
  rw [List.mem_filter, mem_ints0]
  constructor
  · rintro ⟨⟨h0, _⟩, h⟩
    exact ⟨h0, by simpa using h⟩
  · rintro ⟨h0, h⟩
    refine ⟨⟨h0, ?_⟩, by simpa using h⟩
    by_cases z : x < ((far cs : Nat) : Int)
    · exact z
    · rw [beyond_far p hg (by omega)] at h
      cases h
theorem gaps_rise (cs : List Int) : (gaps cs).Pairwise (· < ·) := (ints0_rise _).filter _
/-- the greatest gap, or -1 -/
noncomputable def fr (cs : List Int) : Int := (gaps cs).getLastD (-1)
theorem fr_nil {cs : List Int} (h : gaps cs = []) : fr cs = -1 := by unfold fr; rw [h]; rfl
theorem fr_last {cs : List Int} (h : gaps cs ≠ []) : fr cs = (gaps cs).getLast h := by
  unfold fr
  rw [List.getLastD_eq_getLast?, List.getLast?_eq_some_getLast h]
  rfl
theorem fr_mem {cs : List Int} (h : gaps cs ≠ []) : fr cs ∈ gaps cs := by rw [fr_last h]; exact List.getLast_mem h
theorem le_fr {cs : List Int} {x : Int} (h : x ∈ gaps cs) : x ≤ fr cs := by
  have hn : gaps cs ≠ [] := fun z => by rw [z] at h; cases h
  rw [fr_last hn]
  exact le_last (gaps_rise cs) hn x h
section
variable {m : Int} {cs : List Int}
theorem beyond_fr (p : Purse m cs) (hg : gcdL cs = 1) {n : Int} (hn : fr cs < n) (h0 : 0 ≤ n) : mk cs n = true := by
  cases e : mk cs n with
  | true => rfl
  | false =>
    have := le_fr ((mem_gaps p hg).mpr ⟨h0, e⟩)
    omega
theorem mk_add {n : Int} {c : Int} (h : mk cs n = true) (g : mk cs c = true) : mk cs (n + c) = true := mk_iff.mpr ((mk_iff.mp h).plus (mk_iff.mp g))
theorem mk_coin {c : Int} (h : c ∈ cs) : mk cs c = true := mk_iff.mpr (Made.one h)
end
/-! ### counting -/
section
variable {m : Int} {cs : List Int}
/-! ### ends -/
theorem nodup_len {l : List Int} (h : l.Nodup) : ∀ {k : List Int}, (∀ x ∈ l, x ∈ k) → l.length ≤ k.length := by
  induction l with
  | nil => intro k _; exact Nat.zero_le _
  | cons x r ih =>
    intro k hk
    have hx := hk x List.mem_cons_self
    have hn := List.nodup_cons.mp h
    have := ih hn.2 (k := k.erase x) fun y hy => by
      have hyx : y ≠ x := fun z => hn.1 (z ▸ hy)
      exact (List.mem_erase_of_ne hyx).mpr (hk y (List.mem_cons_of_mem _ hy))
    rw [List.length_erase_of_mem hx] at this
    have hp := List.length_pos_of_mem hx
    rw [List.length_cons]
    omega
theorem rise_nodup {l : List Int} (h : l.Pairwise (· < ·)) : l.Nodup := h.imp fun a => by omega
end
end CY

set_option Elab.async false
set_option linter.all false
set_option maxRecDepth 100000
namespace CY
open PySem PySem.Spec PyProof.Rows L2

/-! ### gaps by the table of least sums -/
section
variable {w : Int} {cs : List Int} {L : Tb}
/-- the numbers of the table -/
def nums (L : Tb) : List Nat := L.map fun o => o.getD 0
theorem tab_some (p : Purse w cs) (hg : gcdL cs = 1) (h : LT cs (m0 cs) L) {r : Nat} (hr : r < m0 cs) : ∃ x, gv L r = some x := by
  have h1 := p.lo _ p.m0.1
  have hm : 0 < m0 cs := by omega
  obtain ⟨s, ms, es⟩ := made_rest hm p.pos (r : Int) (by rw [hg]; exact Int.one_dvd _)
  have s0 := ms.nonneg p.pos
  have ess : s = ((s.toNat : Nat) : Int) := by omega
  obtain ⟨y, ey, _⟩ := h.best s.toNat (by rw [← ess]; exact ms)
  have er : s.toNat % m0 cs = r := by
    have : ((s.toNat % m0 cs : Nat) : Int) = ((r % m0 cs : Nat) : Int) := by
      push_cast
      rw [← ess]
      exact es
    have := Int.ofNat.inj this
    rw [this, Nat.mod_eq_of_lt hr]
  rw [er] at ey
  exact ⟨y, ey⟩
theorem nums_at (h : LT cs (m0 cs) L) {r x : Nat} (e : gv L r = some x) : (nums L)[r]? = some x ∧ r < m0 cs := by
  unfold gv at e
  rw [List.getD_eq_getElem?_getD] at e
  cases q : L[r]? with
  | none => rw [q] at e; cases e
  | some o =>
    rw [q] at e
    have e2 : o = some x := e
    have := (List.getElem?_eq_some_iff.mp q).1
    rw [h.len] at this
    refine ⟨?_, this⟩
    unfold nums
    rw [List.getElem?_map, q, e2]
    rfl
theorem ovs_nums (p : Purse w cs) (hg : gcdL cs = 1) (h : LT cs (m0 cs) L) : ovs L = ivs ((nums L).map fun (n : Nat) => (n : Int)) := by
  unfold ovs ivs nums
  rw [List.map_map, List.map_map]
  refine List.map_congr_left fun o ho => ?_
  obtain ⟨r, hr⟩ := List.getElem?_of_mem ho
  have hl := (List.getElem?_eq_some_iff.mp hr).1
  rw [h.len] at hl
  obtain ⟨x, ex⟩ := tab_some p hg h hl
  unfold gv at ex
  rw [List.getD_eq_getElem?_getD, hr] at ex
  have e2 : o = some x := ex
  rw [e2]
  rfl
theorem mk_tab (p : Purse w cs) (h : LT cs (m0 cs) L) {n x : Nat} (e : gv L (n % m0 cs) = some x) : mk cs (n : Int) = decide (x ≤ n) := by
  have h1 := p.lo _ p.m0.1
  have := lt_made h p.m0.1 (by omega) n
  rw [e] at this
  exact this
/-- the greatest gap by the greatest of them -/
theorem fr_max (p : Purse w cs) (hg : gcdL cs = 1) (h : LT cs (m0 cs) L) {M : Nat} (hM : M ∈ nums L) (hle : ∀ a ∈ nums L, a ≤ M) : (gaps cs = [] ↔ M < m0 cs) ∧ (gaps cs ≠ [] → fr cs = (M : Int) - (m0 cs : Nat)) := by
  have h1 := p.lo _ p.m0.1
  have hm : 0 < m0 cs := by omega
  have val : ∀ n : Nat, ∃ x, gv L (n % m0 cs) = some x ∧ x ∈ nums L ∧ mk cs (n : Int) = decide (x ≤ n) := fun n => by
    obtain ⟨x, ex⟩ := tab_some p hg h (Nat.mod_lt n hm)
    exact ⟨x, ex, List.mem_of_getElem? (nums_at h ex).1, mk_tab p h ex⟩
  -- M itself
  obtain ⟨r, hr⟩ := List.getElem?_of_mem hM
  have hrl : r < m0 cs := by
    have := (List.getElem?_eq_some_iff.mp hr).1
    unfold nums at this
    rw [List.length_map, h.len] at this
    exact this
  obtain ⟨x, ex⟩ := tab_some p hg h hrl
  have exM : x = M := by
    have := (nums_at h ex).1
    rw [hr] at this
    exact (Option.some.inj this).symm
  subst exM
  have hres := (h.sound _ _ ex).2
  -- below the least coin: a gap
  have big : m0 cs ≤ x → (x : Int) - (m0 cs : Nat) ∈ gaps cs := fun hx => by
    refine (mem_gaps p hg).mpr ⟨by omega, ?_⟩
    have e : (x : Int) - (m0 cs : Nat) = ((x - m0 cs : Nat) : Int) := by omega
    have er : (x - m0 cs) % m0 cs = r := by
      rw [← hres]
      exact (Nat.mod_eq_sub_mod hx).symm
    rw [e, mk_tab p h (n := x - m0 cs) (x := x) (by rw [er]; exact ex)]
    exact decide_eq_false (by omega)
  -- no gap beyond
  have top : ∀ g ∈ gaps cs, g ≤ (x : Int) - (m0 cs : Nat) := fun g hgp => by
    obtain ⟨g0, g1⟩ := (mem_gaps p hg).mp hgp
    have eg : g = ((g.toNat : Nat) : Int) := by omega
    obtain ⟨y, ey, hy, em⟩ := val g.toNat
    rw [← eg, g1] at em
    have lt : g.toNat < y := by
      have := of_decide_eq_false em.symm
      omega
    have hyx := hle y hy
    have hyr := (h.sound _ _ ey).2
    -- y and g leave the same rest
    have hd : m0 cs ∣ y - g.toNat := Nat.dvd_of_mod_eq_zero (Nat.sub_mod_eq_zero_of_mod_eq hyr)
    have := Nat.le_of_dvd (by omega) hd
    omega
  refine ⟨⟨fun z => ?_, fun z => ?_⟩, fun z => ?_⟩
  · by_cases hx : m0 cs ≤ x
    · have := big hx
      rw [z] at this
      cases this
    · omega
  · cases e : gaps cs with
    | nil => rfl
    | cons g t =>
      have := top g (by rw [e]; exact List.mem_cons_self)
      have g0 := ((mem_gaps p hg).mp (by rw [e]; exact List.mem_cons_self : g ∈ gaps cs)).1
      omega
  · have h2 := top _ (fr_mem z)
    have h3 := ((mem_gaps p hg).mp (fr_mem z)).1
    have h4 := le_fr (big (by omega))
    omega
end
/-- a number or None -/
def oi : Option Int → V
  | none => .non
  | some n => .int n
/-! ### what the functions of coinyard.gaps promise: C is the class Endless -/
noncomputable def sp_gaps (C : Addr) : Sp := fun vs H Q E => ∃ (t : Addr) (cs : List Int), vs = [.ref t] ∧ H t = some (.tup (ivs cs)) ∧ Purse 400 cs ∧ (gcdL cs = 1 → ∀ (l : Addr) (H' : Hp), Same H H' → H l = none → H' l = some (.lst (ivs (gaps cs))) → Q (.ref l) H') ∧ (gcdL cs ≠ 1 → ∀ H', Same H H' → E (.ref C) none H')
noncomputable def sp_greatest (C : Addr) : Sp := fun vs H Q E => ∃ (t : Addr) (cs : List Int), vs = [.ref t] ∧ H t = some (.tup (ivs cs)) ∧ Purse 400 cs ∧ (gcdL cs = 1 → ∀ H', Same H H' → Q (oi (gaps cs).getLast?) H') ∧ (gcdL cs ≠ 1 → ∀ H', Same H H' → E (.ref C) none H')
theorem gaps_last {cs : List Int} : oi (gaps cs).getLast? = if gaps cs = [] then .non else .int (fr cs) := by
  by_cases h : gaps cs = []
  · rw [if_pos h, h]
    rfl
  · rw [if_neg h, List.getLast?_eq_some_getLast h, fr_last h]
    rfl
end CY

set_option Elab.async false
set_option linter.all false
set_option maxRecDepth 100000
namespace CY
open PySem PySem.Spec PyProof.Rows L2
section
variable {w : Int} {cs : List Int} {L : Tb}
theorem tab_val (p : Purse w cs) (hg : gcdL cs = 1) (h : LT cs (m0 cs) L) (n : Nat) : ∃ x, gv L (n % m0 cs) = some x ∧ x ∈ nums L ∧ mk cs (n : Int) = decide (x ≤ n) := by
  have h1 := p.lo _ p.m0.1
  have hm : 0 < m0 cs := by omega
  obtain ⟨x, ex⟩ := tab_some p hg h (Nat.mod_lt n hm)
  exact ⟨x, ex, List.mem_of_getElem? (nums_at h ex).1, mk_tab p h ex⟩
theorem nums_nth (p : Purse w cs) (hg : gcdL cs = 1) (h : LT cs (m0 cs) L) {x : Nat} (hx : x ∈ nums L) : ∃ r, r < m0 cs ∧ gv L r = some x := by
  obtain ⟨r, hr⟩ := List.getElem?_of_mem hx
  have hrl : r < m0 cs := by
    have := (List.getElem?_eq_some_iff.mp hr).1
    unfold nums at this
    rw [List.length_map, h.len] at this
    exact this
  obtain ⟨y, ey⟩ := tab_some p hg h hrl
  have := (nums_at h ey).1
  rw [hr] at this
  have e := Option.some.inj this
  subst e
  exact ⟨r, hrl, ey⟩
/-- seen up to the greatest of the least sums -/
theorem gaps_upto (p : Purse w cs) (hg : gcdL cs = 1) (h : LT cs (m0 cs) L) {M : Nat} (hM : M ∈ nums L) (hle : ∀ a ∈ nums L, a ≤ M) : (ints0 M).filter (fun n => !mk cs n) = gaps cs := by
  have h1 := p.lo _ p.m0.1
  have hm : 0 < m0 cs := by omega
  obtain ⟨r, hr, er⟩ := nums_nth p hg h hM
  have hf : M ≤ far cs := h.far hm p.pos p.mx.2 er
  have e : far cs = M + (far cs - M) := by omega
  unfold gaps ints0
  rw [e, List.range_add, List.map_append, List.filter_append]
  have : (((List.range (far cs - M)).map fun x => M + x).map fun (i : Nat) => (i : Int)).filter (fun n => !mk cs n) = [] := by
    rw [List.filter_eq_nil_iff]
    intro a ha z
    obtain ⟨b, hb, rfl⟩ := List.mem_map.mp ha
    obtain ⟨c, _, rfl⟩ := List.mem_map.mp hb
    obtain ⟨x, _, hx, ex⟩ := tab_val p hg h (M + c)
    have := hle x hx
    rw [ex, decide_eq_true (by omega)] at z
    cases z
  rw [this, List.append_nil]
theorem m0_le (p : Purse w cs) : ∀ c ∈ cs, ((m0 cs : Nat) : Int) ≤ c := by
  have hr := p.rise
  have hl := p.lo
  cases cs with
  | nil => intro c hc; cases hc
  | cons a r =>
    have ha := hl a List.mem_cons_self
    have e : ((m0 (a :: r) : Nat) : Int) = a := by
      show ((a.toNat : Nat) : Int) = a
      omega
    intro c hc
    rw [e]
    rcases List.mem_cons.mp hc with z | z
    · rw [z]; exact Int.le_refl _
    · exact Int.le_of_lt ((List.pairwise_cons.mp hr).1 c z)
theorem made_m0 (p : Purse w cs) {n : Int} (h : Made cs n) : n = 0 ∨ ((m0 cs : Nat) : Int) ≤ n := by
  induction h with
  | zero => exact .inl rfl
  | @add k c hk hc ih =>
    have := m0_le p c hc
    have := hk.nonneg p.pos
    right
    omega
theorem one_gaps (p : Purse w cs) (hg : gcdL cs = 1) (h : m0 cs = 1) : gaps cs = [] := by
  have h1 : (1 : Int) ∈ cs := by have := p.m0.1; rw [h] at this; exact this
  rw [List.eq_nil_iff_forall_not_mem]
  intro x hx
  obtain ⟨a, b⟩ := (mem_gaps p hg).mp hx
  have y := made_times h1 x.toNat
  rw [Int.toNat_of_nonneg a, Int.mul_one] at y
  rw [mk_iff.mpr y] at b
  cases b
theorem more_gaps (p : Purse w cs) (hg : gcdL cs = 1) (h : m0 cs ≠ 1) : gaps cs ≠ [] := by
  have h1 := p.lo _ p.m0.1
  intro z
  have : (1 : Int) ∈ gaps cs := (mem_gaps p hg).mpr ⟨by decide, by
    cases e : mk cs 1 with
    | false => rfl
    | true =>
      rcases made_m0 p (mk_iff.mp e) with y | y
      · omega
      · omega⟩
  rw [z] at this
  cases this
end
/-! ### promises of the helpers -/
def sp_every (C : Addr) : Sp := fun vs H Q E => ∃ (t : Addr) (cs : List Int), vs = [.ref t] ∧ H t = some (.tup (ivs cs)) ∧ Purse 400 cs ∧ (gcdL cs = 1 → ∀ (l : Addr) (L : Tb) (H' : Hp), Same H H' → H l = none → H' l = some (.lst (ovs L)) → LT cs (m0 cs) L → Q (.ref l) H') ∧ (gcdL cs ≠ 1 → ∀ H', Same H H' → E (.ref C) none H')
end CY

set_option Elab.async false
set_option linter.all false
set_option maxRecDepth 100000
namespace CY
open PySem PySem.Spec PyProof.Rows L2

/-! ### paying: with so many coins -/
section
variable {cs : List Int}
/-! ### ways -/
def dot (ws cs : List Int) : Int := (List.zipWith (· * ·) ws cs).sum
end
/-! ### the greatest coin first -/
def ol (w : Option (List Int)) (t : Addr) : V := match w with
  | none => .non
  | some _ => .ref t
/-! ### what coinyard.paying and coinyard.greedy promise: B is BadSum -/
end CY

set_option Elab.async false
set_option linter.all false
set_option maxRecDepth 100000
namespace CY
open PySem PySem.Spec PyProof.Rows L2

/-! ### how many ways -/
def cw : List Int → Int → Nat
  | [], n => if n = 0 then 1 else 0
  | c :: cs, n => ((List.range (if n < 0 then 0 else (n / c).toNat + 1)).map fun (i : Nat) => cw cs (n - (i : Int) * c)).sum
/-! ### the fewest, with and without a coin -/
end CY

set_option Elab.async false
set_option linter.all false
set_option maxRecDepth 100000
namespace CY
open PySem PySem.Spec PyProof.Rows L2
/-! ### the fewest, coin by coin -/
/-! ### the ways, coin by coin -/
/-! ### the greatest first, coin by coin -/
/-! ### a way: what no best way of the rest has -/
/-! ### the two greatest coins -/
def two (cs : List Int) : List Int := cs.drop (cs.length - 2)
end CY

set_option Elab.async false
set_option linter.all false
set_option maxRecDepth 100000
namespace CY
open PySem PySem.Spec PyProof.Rows L2

/-! ### sets of sums -/
structure Sg (S : Int → Bool) : Prop where
  zero : S 0 = true
  add : ∀ {a b : Int}, S a = true → S b = true → S (a + b) = true
  neg : ∀ {a : Int}, a < 0 → S a = false
/-- not put together of two others -/
def Gn (S : Int → Bool) (n : Int) : Prop := S n = true ∧ 0 < n ∧ ∀ a, 0 < a → a < n → S a = true → S (n - a) = false
/-- the least purse -/
structure Lst (S : Int → Bool) (ds : List Int) : Prop where
  rise : ds.Pairwise (· < ·)
  mem : ∀ n, n ∈ ds ↔ Gn S n
section
variable {S : Int → Bool} {ds es : List Int}
theorem Lst.uniq (a : Lst S ds) (b : Lst S es) : ds = es := rise_ext a.rise b.rise fun x => (a.mem x).trans (b.mem x).symm
theorem Lst.pos (a : Lst S ds) : Pos ds := fun c hc => ((a.mem c).mp hc).2.1
theorem sg_mk {cs : List Int} (h : Pos cs) : Sg (mk cs) where
  zero := mk_zero cs
  add := fun a b => mk_add a b
  neg := fun {a} h0 => by
    cases e : mk cs a with
    | false => rfl
    | true => have := (mk_iff.mp e).nonneg h; omega
theorem Sg.made (g : Sg S) (h : ∀ c ∈ ds, S c = true) {n : Int} (m : Made ds n) : S n = true := by
  induction m with
  | zero => exact g.zero
  | add _ hc ih => exact g.add ih (h _ hc)
/-- they make all -/
theorem lst_made (g : Sg S) (l : Lst S ds) (n : Int) : mk ds n = S n := by
  have up : ∀ m : Nat, ∀ n : Int, n.toNat = m → S n = true → Made ds n := by
    intro m
    induction m using Nat.strongRecOn with
    | ind m ih =>
      intro n hn hs
      by_cases z : n < 0
      · rw [g.neg z] at hs; cases hs
      by_cases z0 : n = 0
      · rw [z0]; exact .zero
      by_cases p : ∃ a, 0 < a ∧ a < n ∧ S a = true ∧ S (n - a) = true
      · obtain ⟨a, a0, a1, a2, a3⟩ := p
        have h1 := ih a.toNat (by omega) a rfl a2
        have h2 := ih (n - a).toNat (by omega) (n - a) rfl a3
        have := h1.plus h2
        rwa [show a + (n - a) = n by omega] at this
      · refine Made.one ((l.mem n).mpr ⟨hs, by omega, fun a a0 a1 a2 => ?_⟩)
        cases e : S (n - a) with
        | false => rfl
        | true => exact absurd ⟨a, a0, a1, a2, e⟩ p
  cases e : S n with
  | true => exact mk_iff.mpr (up _ n rfl e)
  | false =>
    cases e' : mk ds n with
    | false => rfl
    | true =>
      have := g.made (fun c hc => ((l.mem c).mp hc).1) (mk_iff.mp e')
      rw [e] at this
      cases this
theorem gn_prime {cs : List Int} (h : Pos cs) (n : Int) : Prime cs n ↔ Gn (mk cs) n := by
  constructor
  · rintro ⟨h0, h1, h2⟩
    refine ⟨mk_iff.mpr h1, h0, fun a a0 a1 a2 => ?_⟩
    cases e : mk cs (n - a) with
    | false => rfl
    | true => exact absurd (by omega) (h2 a (n - a) a0 (by omega) (mk_iff.mp a2) (mk_iff.mp e))
  · rintro ⟨h1, h0, h2⟩
    refine ⟨h0, mk_iff.mp h1, fun a b a0 b0 ma mb e => ?_⟩
    have := h2 a a0 (by omega) (mk_iff.mpr ma)
    rw [show n - a = b by omega, mk_iff.mpr mb] at this
    cases this
theorem lp_lst {m : Int} {cs : List Int} (p : Purse m cs) : Lst (mk cs) (lp cs) := ⟨p.rise.filter _, fun n => (lp_prime p.pos n).trans (gn_prime p.pos n)⟩
theorem lst_lp {cs : List Int} (h : Pos cs) (r : cs.Pairwise (· < ·)) : Lst (mk cs) (lp cs) := ⟨r.filter _, fun n => (lp_prime h n).trans (gn_prime h n)⟩
noncomputable def gnB (S : Int → Bool) (n : Int) : Bool := open Classical in decide (Gn S n)
theorem gnB_iff {n : Int} : gnB S n = true ↔ Gn S n := by unfold gnB; simp
noncomputable def gensUp (S : Int → Bool) (N : Nat) : List Int := (ints0 (N + 1)).filter (gnB S)
theorem gens_mem {N : Nat} {n : Int} : n ∈ gensUp S N ↔ n ≤ N ∧ Gn S n := by
  unfold gensUp
  rw [List.mem_filter, mem_ints0, gnB_iff]
  constructor
  · rintro ⟨⟨_, h⟩, g⟩
    exact ⟨by omega, g⟩
  · rintro ⟨h, g⟩
    have := g.2.1
    exact ⟨⟨by omega, by omega⟩, g⟩
theorem gens_lst {N : Nat} (h : ∀ n : Int, (N : Int) < n → ¬ Gn S n) : Lst S (gensUp S N) := by
  refine ⟨(ints0_rise _).filter _, fun n => gens_mem.trans ⟨fun z => z.2, fun z => ⟨?_, z⟩⟩⟩
  by_cases y : (N : Int) < n
  · exact absurd z (h n y)
  · omega
theorem gens_succ (S : Int → Bool) (N : Nat) : gensUp S (N + 1) = gensUp S N ++ (if gnB S ((N : Int) + 1) = true then [(N : Int) + 1] else []) := by
  unfold gensUp ints0
  rw [List.range_succ (n := N + 1), List.map_append, List.filter_append]
  congr 1
  show List.filter (gnB S) [((N + 1 : Nat) : Int)] = _
  rw [List.filter_cons, List.filter_nil]
  push_cast
  rfl
theorem gn_far {B m : Int} (hB : ∀ n, B ≤ n → S n = true) (m0 : 0 < m) (hm : S m = true) {n : Int} (h : Gn S n) : n ≤ m ∨ n < B + m := by
  by_cases z : n ≤ m
  · exact .inl z
  · right
    by_cases y : n < B + m
    · exact y
    · have := h.2.2 m m0 (by omega) hm
      rw [hB (n - m) (by omega)] at this
      cases this
/-- whether a number is one of them, by the lesser ones -/
theorem gn_step (g : Sg S) {N : Nat} : gnB S ((N : Int) + 1) = (S ((N : Int) + 1) && (gensUp S N).all fun c => !S ((N : Int) + 1 - c)) := by
  rw [Bool.eq_iff_iff, gnB_iff, Bool.and_eq_true, List.all_eq_true]
  constructor
  · rintro ⟨h1, h2, h3⟩
    refine ⟨h1, fun c hc => ?_⟩
    obtain ⟨c1, c2⟩ := gens_mem.mp hc
    rw [h3 c c2.2.1 (by omega) c2.1]
    rfl
  · rintro ⟨h1, h2⟩
    refine ⟨h1, by omega, fun a a0 a1 a2 => ?_⟩
    cases e : S ((N : Int) + 1 - a) with
    | false => rfl
    | true =>
      -- a has a generator at most a
      have key : ∀ m : Nat, ∀ a : Int, a.toNat = m → 0 < a → S a = true → ∃ c, Gn S c ∧ c ≤ a ∧ S (a - c) = true := by
        intro m
        induction m using Nat.strongRecOn with
        | ind m ih =>
          intro a ha a0 a2
          by_cases p : ∃ b, 0 < b ∧ b < a ∧ S b = true ∧ S (a - b) = true
          · obtain ⟨b, b0, b1, b2, b3⟩ := p
            obtain ⟨c, c1, c2, c3⟩ := ih b.toNat (by omega) b rfl b0 b2
            refine ⟨c, c1, by omega, ?_⟩
            have := g.add c3 b3
            rwa [show b - c + (a - b) = a - c by omega] at this
          · refine ⟨a, ⟨a2, a0, fun b b0 b1 b2 => ?_⟩, Int.le_refl _, by rw [Int.sub_self]; exact g.zero⟩
            cases e : S (a - b) with
            | false => rfl
            | true => exact absurd ⟨b, b0, b1, b2, e⟩ p
      obtain ⟨c, c1, c2, c3⟩ := key _ a rfl a0 a2
      have h4 := h2 c (gens_mem.mpr ⟨by omega, c1⟩)
      have := g.add c3 e
      rw [show a - c + ((N : Int) + 1 - a) = (N : Int) + 1 - c by omega] at this
      rw [this] at h4
      cases h4
end
/-! ### what coinyard.joins and coinyard.tree promise -/
def fits (ws : List Int) : Prop := ws.length ≤ 40 ∧ ∀ w ∈ ws, w ≤ 400
instance (ws : List Int) : Decidable (fits ws) := inferInstanceAs (Decidable (_ ∧ _))
/-- TB is TooBig -/
def outc (TB : Addr) (ws : List Int) (H : Hp) (Q : VK) (E : XK) : Prop := (fits ws → ∀ (p : Addr) (H' : Hp), Same H H' → H' p = some (.tup (ivs ws)) → Q (.ref p) H') ∧ (¬ fits ws → ∀ H', Same H H' → E (.ref TB) none H')
/-- lists of purses: their places -/
def Tups (H : Hp) : List Addr → List (List Int) → Prop
  | [], [] => True
  | p :: ps, ws :: wss => H p = some (.tup (ivs ws)) ∧ Tups H ps wss
  | _, _ => False
theorem Tups.keep {H H' : Hp} (s : Same H H') : ∀ {ps : List Addr} {wss : List (List Int)}, Tups H ps wss → Tups H' ps wss
  | [], [], _ => trivial
  | _ :: _, _ :: _, h => ⟨s _ _ h.1, Tups.keep s h.2⟩
  | [], _ :: _, h => h.elim
  | _ :: _, [], h => h.elim
theorem Tups.len {H : Hp} : ∀ {ps : List Addr} {wss : List (List Int)}, Tups H ps wss → ps.length = wss.length
  | [], [], _ => rfl
  | _ :: _, _ :: _, h => by rw [List.length_cons, List.length_cons, Tups.len h.2]
  | [], _ :: _, h => h.elim
  | _ :: _, [], h => h.elim
end CY

set_option Elab.async false
set_option linter.all false
set_option maxRecDepth 100000
namespace CY
open PySem PySem.Spec PyProof.Rows L2

/-! ### all ways -/
/-! ### texts -/
/-! ### figures -/
def wordN (n : Nat) : List Nat := (Nat.toDigits 10 n).map Char.toNat
/-- the figures ahead of a number's last one -/
def ahead (n : Nat) : List Nat := if n = 0 then [] else wordN n
end CY

set_option Elab.async false
set_option linter.all false
set_option maxRecDepth 100000
namespace CY
open PySem PySem.Spec PyProof.Rows L2
/-! ### ways begun, coin by coin -/
abbrev Bg := List (List Int × Int)
/-- one coin more, of which only so many as the later ones can end -/
def one (ds : List Int) (c : Int) (b : List Int × Int) : Bg := ((List.range ((b.2 / c).toNat + 1)).filter fun (i : Nat) => decide (0 < cw ds (b.2 - (i : Int) * c))).map fun (i : Nat) => (b.1 ++ [(i : Int)], b.2 - (i : Int) * c)
end CY

set_option Elab.async false
set_option linter.all false
set_option maxRecDepth 100000
namespace CY
open PySem PySem.Spec PyProof.Rows L2

/-! ### the least purse of coins in any order -/
structure Kp (ks : List Int) : Prop where
  rise : ks.Pairwise (· < ·)
  need : ∀ c ∈ ks, mk (ks.filter fun d => decide (d < c)) c = false
theorem kp_snoc {ks : List Int} {c : Int} (h : Kp ks) (hle : ∀ d ∈ ks, d ≤ c) (hm : mk ks c = false) : Kp (ks ++ [c]) := by
  have hlt : ∀ d ∈ ks, d < c := fun d hd => by
    have h1 := hle d hd
    by_cases z : d = c
    · rw [z] at hd
      rw [mk_coin hd] at hm
      cases hm
    · omega
  refine ⟨List.pairwise_append.mpr ⟨h.rise, List.pairwise_singleton _ _, fun a ha b hb => by rw [List.mem_singleton.mp hb]; exact hlt a ha⟩, fun d hd => ?_⟩
  have key : ∀ e, e ≤ c → (ks ++ [c]).filter (fun d => decide (d < e)) = ks.filter fun d => decide (d < e) := fun e he => by
    rw [List.filter_append]
    have : [c].filter (fun d => decide (d < e)) = [] := by
      rw [List.filter_cons, if_neg (by simp; omega)]
      rfl
    rw [this, List.append_nil]
  rcases List.mem_append.mp hd with z | z
  · rw [key d (hle d z)]
    exact h.need d z
  · rw [List.mem_singleton.mp z, key c (Int.le_refl _), List.filter_eq_self.mpr (fun d hd => decide_eq_true (hlt d hd))]
    exact hm
theorem kept_kp : ∀ (r ks : List Int), Kp ks → (∀ d ∈ ks, ∀ c ∈ r, d ≤ c) → r.Pairwise (· ≤ ·) → Kp (kept ks r)
  | [], ks, h, _, _ => h
  | c :: r, ks, h, hl, hr => by
    obtain ⟨r1, r2⟩ := List.pairwise_cons.mp hr
    unfold kept
    by_cases z : mk ks c = true
    · rw [if_pos z]
      exact kept_kp r ks h (fun d hd e he => hl d hd e (List.mem_cons_of_mem _ he)) r2
    · rw [if_neg z]
      refine kept_kp r _ (kp_snoc h (fun d hd => hl d hd c List.mem_cons_self) (Bool.eq_false_iff.mpr z)) (fun d hd e he => ?_) r2
      rcases List.mem_append.mp hd with y | y
      · exact hl d y e (List.mem_cons_of_mem _ he)
      · rw [List.mem_singleton.mp y]
        exact r1 e he
theorem kept_sub : ∀ (r ks : List Int), ∀ c ∈ kept ks r, c ∈ ks ∨ c ∈ r
  | [], ks, c, h => .inl h
  | d :: r, ks, c, h => by
    unfold kept at h
    by_cases z : mk ks d = true
    · rw [if_pos z] at h
      exact (kept_sub r ks c h).imp id (List.mem_cons_of_mem _)
    · rw [if_neg z] at h
      rcases kept_sub r _ c h with y | y
      · rcases List.mem_append.mp y with y | y
        · exact .inl y
        · rw [List.mem_singleton.mp y]
          exact .inr List.mem_cons_self
      · exact .inr (List.mem_cons_of_mem _ y)
theorem kp_lp {ks : List Int} (h : Kp ks) : lp ks = ks := by
  unfold lp
  exact List.filter_eq_self.mpr fun c hc => by rw [h.need c hc]; rfl
theorem kept_mk (cs : List Int) (n : Int) : mk (kept [] cs) n = mk cs n := mk_congr (fun n => by
  have := kept_same cs [] [] (fun _ => Iff.rfl) n
  rwa [List.nil_append] at this) n
theorem kept_lst {cs : List Int} (hp : Pos cs) (hr : cs.Pairwise (· ≤ ·)) : Lst (mk cs) (kept [] cs) := by
  have hk : Kp (kept [] cs) := kept_kp cs [] ⟨List.Pairwise.nil, fun c hc => by cases hc⟩ (fun d hd => by cases hd) hr
  have hs : Pos (kept [] cs) := fun c hc => hp c ((kept_sub cs [] c hc).elim (fun z => by cases z) id)
  have h := lst_lp hs hk.rise
  rw [kp_lp hk] at h
  have e : mk (kept [] cs) = mk cs := funext (kept_mk cs)
  rw [e] at h
  exact h
theorem lst_ne {S : Int → Bool} {ws : List Int} (g : Sg S) (h : Lst S ws) {n : Int} (hn : 0 < n) (hs : S n = true) : ws ≠ [] := by
  intro z
  have := lst_made g h n
  rw [z, hs] at this
  have := made_nil (mk_iff.mp this)
  omega
theorem kept_ne {cs : List Int} (hp : Pos cs) (hr : cs.Pairwise (· ≤ ·)) (hn : cs ≠ []) : kept [] cs ≠ [] := by
  cases cs with
  | nil => exact absurd rfl hn
  | cons c r => exact lst_ne (sg_mk hp) (kept_lst hp hr) (hp c List.mem_cons_self) (mk_coin List.mem_cons_self)
theorem rise_le {l : List Int} (h : l.Pairwise (· < ·)) : l.Pairwise (· ≤ ·) := h.imp fun z => by omega
theorem kept_purse {m : Int} {cs : List Int} (p : Purse m cs) : kept [] cs = lp cs := (kept_lst p.pos (rise_le p.rise)).uniq (lp_lst p)
/-- coins in another order, or some twice -/
theorem mk_mem {cs ds : List Int} (h : ∀ c, c ∈ cs ↔ c ∈ ds) (n : Int) : mk cs n = mk ds n := mk_congr (fun n => ⟨fun m => m.mono fun c hc => (h c).mp hc, fun m => m.mono fun c hc => (h c).mpr hc⟩) n
theorem fits_last {ws : List Int} (h : ws.Pairwise (· < ·)) (hn : ws ≠ []) : fits ws ↔ ws.length ≤ 40 ∧ ws.getLast hn ≤ 400 := by
  unfold fits
  constructor
  · rintro ⟨h1, h2⟩
    exact ⟨h1, h2 _ (List.getLast_mem hn)⟩
  · rintro ⟨h1, h2⟩
    exact ⟨h1, fun w hw => by have := le_last h hn w hw; omega⟩

/-! ### a set of sums by its least ones -/
theorem sg_times {S : Int → Bool} (g : Sg S) {m : Int} (hm : S m = true) : ∀ k : Nat, S ((k : Int) * m) = true
  | 0 => by
    rw [show ((0 : Nat) : Int) * m = 0 by simp]
    exact g.zero
  | k + 1 => by
    have := g.add (sg_times g hm k) hm
    have e : (k : Int) * m + m = ((k + 1 : Nat) : Int) * m := by
      push_cast
      rw [Int.add_mul]
      omega
    rwa [e] at this
section
variable {S : Int → Bool} {m : Nat} {M : List Nat} {ps ws : List Int}
end
end CY

set_option Elab.async false
set_option linter.all false
set_option maxRecDepth 100000
namespace CY
open PySem PySem.Spec PyProof.Rows L2

/-! ### tables of both, and of a divided purse -/
/-! ### parent and children -/
/-- the coins of a child -/
def kid (cs : List Int) (c : Int) : List Int := (cs.filter fun d => !decide (d = c)) ++ (cs.map fun d => c + d) ++ [3 * c]
theorem mk_kid {cs : List Int} (hp : Pos cs) {c : Int} (hc : Gn (mk cs) c) (hm : c ∈ cs) (n : Int) : mk (kid cs c) n = (mk cs n && decide (n ≠ c)) := by
  have c0 := hc.2.1
  rw [Bool.eq_iff_iff, Bool.and_eq_true, decide_eq_true_iff, mk_iff, mk_iff]
  constructor
  · intro z
    have one : ∀ d ∈ kid cs c, Made cs d ∧ 0 < d ∧ d ≠ c := fun d hd => by
      unfold kid at hd
      rcases List.mem_append.mp hd with hd | hd
      · rcases List.mem_append.mp hd with hd | hd
        · obtain ⟨a, b⟩ := List.mem_filter.mp hd
          exact ⟨.one a, hp d a, by simpa using b⟩
        · obtain ⟨e, he, rfl⟩ := List.mem_map.mp hd
          have := hp e he
          exact ⟨(Made.one hm).plus (.one he), by omega, by omega⟩
      · rw [List.mem_singleton.mp hd]
        have := made_times hm 3
        exact ⟨this, by omega, by omega⟩
    have hpk : Pos (kid cs c) := fun d hd => (one d hd).2.1
    have hs : Made cs n := z.trans fun d hd => (one d hd).1
    refine ⟨hs, fun e => ?_⟩
    subst e
    cases z with
    | zero => omega
    | @add a d ma hd =>
      have a0 := ma.nonneg hpk
      obtain ⟨d1, d2, d3⟩ := one d hd
      have ha : Made cs a := ma.trans fun d hd => (one d hd).1
      by_cases y : a = 0
      · subst y
        omega
      · have := hc.2.2 a (by omega) (by omega) (mk_iff.mpr ha)
        rw [show a + d - a = d by omega, mk_iff.mpr d1] at this
        cases this
  · rintro ⟨z, hne⟩
    -- the coin taken out
    have e1 : ∀ k, Made cs k → Made ((cs.filter fun d => !decide (d = c)) ++ [c]) k := fun k hk => hk.mono fun d hd => by
      by_cases y : d = c
      · rw [y]; exact List.mem_append_right _ List.mem_cons_self
      · exact List.mem_append_left _ (List.mem_filter.mpr ⟨hd, by simpa using y⟩)
    obtain ⟨j, a, ha, e⟩ := made_split (e1 n z)
    have inO : ∀ d ∈ cs.filter (fun d => !decide (d = c)), d ∈ kid cs c := fun d hd => List.mem_append_left _ (List.mem_append_left _ hd)
    have two : Made (kid cs c) (2 * c) := by
      have : c + c ∈ kid cs c := List.mem_append_left _ (List.mem_append_right _ (List.mem_map.mpr ⟨c, hm, rfl⟩))
      rw [show 2 * c = c + c by omega]
      exact .one this
    have three : Made (kid cs c) (3 * c) := .one (List.mem_append_right _ List.mem_cons_self)
    have many : ∀ j : Nat, Made (kid cs c) (((j + 2 : Nat) : Int) * c) := by
      intro j
      induction j using Nat.strongRecOn with
      | ind j ih =>
        match j with
        | 0 => exact two
        | 1 => exact three
        | k + 2 =>
          have := (ih k (by omega)).plus two
          have e3 : ((k + 2 : Nat) : Int) * c + 2 * c = ((k + 2 + 2 : Nat) : Int) * c := by
            rw [← Int.add_mul]
            congr 1
          rwa [e3] at this
    match j, e with
    | 0, e =>
      rw [show n = a by rw [e]; simp]
      exact ha.mono inO
    | 1, e =>
      have e : n = a + c := by rw [e]; simp
      cases ha with
      | zero => omega
      | @add b d hb hd =>
        have : c + d ∈ kid cs c := List.mem_append_left _ (List.mem_append_right _ (List.mem_map.mpr ⟨d, (List.mem_filter.mp hd).1, rfl⟩))
        rw [e, show b + d + c = b + (c + d) by omega]
        exact (hb.mono inO).add this
    | k + 2, e =>
      rw [e]
      exact (ha.mono inO).plus (many k)
theorem sg_kid {cs : List Int} (hp : Pos cs) {c : Int} (hc : Gn (mk cs) c) : Sg fun n => mk cs n && decide (n ≠ c) where
  zero := by
    have := hc.2.1
    rw [mk_zero, decide_eq_true (by omega)]
    rfl
  add := fun {a b} x y => by
    rw [Bool.and_eq_true, decide_eq_true_iff] at x y ⊢
    refine ⟨mk_add x.1 y.1, fun e => ?_⟩
    have a0 := (mk_iff.mp x.1).nonneg hp
    have b0 := (mk_iff.mp y.1).nonneg hp
    have c0 := hc.2.1
    by_cases z : a = 0
    · exact y.2 (by omega)
    by_cases z' : b = 0
    · exact x.2 (by omega)
    have := hc.2.2 a (by omega) (by omega) x.1
    rw [show c - a = b by omega, y.1] at this
    cases this
  neg := fun {a} z => by rw [(sg_mk hp).neg z]; rfl

/-! ### promises -/
def sp_needed (K : PySem.W.Frag) : Sp := fun vs H Q _ => ∃ (t : Addr) (cs : List Int), vs = [.ref t] ∧ (H t = some (.lst (ivs cs)) ∨ H t = some (.tup (ivs cs))) ∧ cs ≠ [] ∧ Pos cs ∧ cs.Pairwise (· ≤ ·) ∧ cs.length ≤ 1000 ∧ (∀ c ∈ cs, c ≤ 200000) ∧ ∀ (l : Addr) (H' : Hp), Same H H' → H l = none → H' l = some (.lst (ivs (kept [] cs))) → Q (.ref l) H'
/-- TB is TooBig -/
def sp_lpof (K : PySem.W.Frag) (TB : Addr) : Sp := fun vs H Q E => ∃ (t : Addr) (cs : List Int), vs = [.ref t] ∧ H t = some (.lst (ivs cs)) ∧ cs ≠ [] ∧ Pos cs ∧ cs.length ≤ 1000 ∧ (∀ c ∈ cs, c ≤ 200000) ∧ ∀ ws, Lst (mk cs) ws → outc TB ws H Q E
def sp_lsby : Sp := fun vs H Q _ => ∃ (t : Addr) (m : Int) (cs : List Int), vs = [.int m, .ref t] ∧ H t = some (.tup (ivs cs)) ∧ 1 ≤ m ∧ m ≤ 8000 ∧ (∀ c ∈ cs, 1 ≤ c ∧ c ≤ 400) ∧ ∀ (l : Addr) (L : Tb) (H' : Hp), Same H H' → H l = none → H' l = some (.lst (ovs L)) → LT (m :: cs) m.toNat L → Q (.ref l) H'
def sp_endcheck (EN : Addr) : Sp := fun vs H Q E => ∃ (t : Addr) (cs : List Int), vs = [.ref t] ∧ H t = some (.tup (ivs cs)) ∧ Purse 400 cs ∧ (gcdL cs = 1 → Q .non H) ∧ (gcdL cs ≠ 1 → ∀ H', Same H H' → E (.ref EN) none H')
end CY

set_option Elab.async false
set_option linter.all false
set_option maxRecDepth 100000
namespace CY
open PySem PySem.Spec PyProof.Rows L2 L2.Tim

/-! ### children, and all with so many gaps -/
noncomputable abbrev kidS (cs : List Int) (c : Int) : Int → Bool := fun n => mk cs n && decide (n ≠ c)
/-- rising lists of lists -/
abbrev LexR (kss : List (List Int)) : Prop := kss.Pairwise fun x y => lexB x y = true
theorem lexr_ext {xs ys : List (List Int)} (hx : LexR xs) (hy : LexR ys) (h : ∀ a, a ∈ xs ↔ a ∈ ys) : xs = ys := by
  induction xs generalizing ys with
  | nil =>
    cases ys with
    | nil => rfl
    | cons y ys => have := (h y).mpr List.mem_cons_self; cases this
  | cons x xs ih =>
    cases ys with
    | nil => have := (h x).mp List.mem_cons_self; cases this
    | cons y ys =>
      obtain ⟨x1, x2⟩ := List.pairwise_cons.mp hx
      obtain ⟨y1, y2⟩ := List.pairwise_cons.mp hy
      have e : x = y := by
        rcases List.mem_cons.mp ((h x).mp List.mem_cons_self) with z | z
        · exact z
        · rcases List.mem_cons.mp ((h y).mpr List.mem_cons_self) with u | u
          · exact u.symm
          · have := lexB_trans (x1 y u) (y1 x z)
            rw [lexB_irr] at this
            cases this
      subst e
      congr 1
      refine ih x2 y2 fun a => ?_
      constructor
      · intro ha
        rcases List.mem_cons.mp ((h a).mp (List.mem_cons_of_mem _ ha)) with u | u
        · have := x1 a ha
          rw [u, lexB_irr] at this
          cases this
        · exact u
      · intro ha
        rcases List.mem_cons.mp ((h a).mpr (List.mem_cons_of_mem _ ha)) with u | u
        · have := y1 a ha
          rw [u, lexB_irr] at this
          cases this
        · exact u
/-- sorted, and none twice -/
theorem lexr_of {xs : List (List Int)} (h : xs.Pairwise fun x y => lexB y x = false) (nd : xs.Nodup) : LexR xs := by
  refine (h.and nd).imp fun {a b} z => ?_
  rcases lexB_tot z.1 with u | u
  · exact u
  · exact absurd u.symm z.2
theorem lexr_nodup {xs : List (List Int)} (h : LexR xs) : xs.Nodup := h.imp fun {a b} z e => by rw [e, lexB_irr] at z; cases z
structure KidsR (cs : List Int) (kss : List (List Int)) : Prop where
  rise : LexR kss
  mem : ∀ ks, ks ∈ kss ↔ ∃ c, Gn (mk cs) c ∧ fr cs < c ∧ Lst (kidS cs c) ks
/-- EN is Endless -/
def sp_kids (EN : Addr) : Sp := fun vs H Q E => ∃ (t : Addr) (cs : List Int), vs = [.ref t] ∧ H t = some (.tup (ivs cs)) ∧ Purse 400 cs ∧ (gcdL cs ≠ 1 → ∀ H', Same H H' → E (.ref EN) none H') ∧
  (gcdL cs = 1 → (∀ c ks, Gn (mk cs) c → fr cs < c → Lst (kidS cs c) ks → fits ks) ∧ ∀ kss, KidsR cs kss → ∀ (l : Addr) (ps : List Addr) (H' : Hp), Same H H' → H l = none → H' l = some (.lst (ps.map V.ref)) → Tups H' ps kss → Q (.ref l) H')
/-- the least purse of a set, where it has one -/
noncomputable def theL (S : Int → Bool) : List Int := open Classical in if h : ∃ ws, Lst S ws then h.choose else []
theorem theL_eq {S : Int → Bool} {ws : List Int} (h : Lst S ws) : theL S = ws := by
  unfold theL
  have e : ∃ ws, Lst S ws := ⟨ws, h⟩
  rw [dif_pos e]
  exact (Exists.choose_spec e).uniq h
theorem kid_lst {m : Int} {cs : List Int} (p : Purse m cs) {c : Int} (hc : Gn (mk cs) c) (hm : c ∈ cs) : Lst (kidS cs c) (theL (kidS cs c)) := by
  obtain ⟨ks, h⟩ : ∃ ks, Lst (kidS cs c) ks := by
    have hp : Pos (kid cs c) := fun d hd => by
      have c0 := hc.2.1
      unfold kid at hd
      rcases List.mem_append.mp hd with hd | hd
      · rcases List.mem_append.mp hd with hd | hd
        · exact p.pos d (List.mem_filter.mp hd).1
        · obtain ⟨e, he, rfl⟩ := List.mem_map.mp hd
          have := p.pos e he
          omega
      · rw [List.mem_singleton.mp hd]; omega
    have e : mk (kid cs c) = kidS cs c := funext fun n => mk_kid p.pos hc hm n
    refine ⟨gensUp (kidS cs c) (3 * c.toNat + (mx cs) + c.toNat), ?_⟩
    rw [← e]
    refine gens_lst fun n hn hg => ?_
    -- what is not put together is one of the coins
    have hmade := mk_iff.mp hg.1
    have n0 := hg.2.1
    cases hmade with
    | zero => omega
    | @add k d m' hd =>
      have k0 := m'.nonneg hp
      have hd4 : d ≤ 3 * c + ((mx cs : Nat) : Int) + c := by
        have c0 := hc.2.1
        unfold kid at hd
        rcases List.mem_append.mp hd with hd | hd
        · rcases List.mem_append.mp hd with hd | hd
          · have := p.mx.2 d (List.mem_filter.mp hd).1
            omega
          · obtain ⟨e, he, rfl⟩ := List.mem_map.mp hd
            have := p.mx.2 e he
            omega
        · rw [List.mem_singleton.mp hd]; omega
      have c0 := hc.2.1
      by_cases z : k = 0
      · omega
      · have := hg.2.2 k (by omega) (by have := hp d hd; omega) (mk_iff.mpr m')
        rw [show k + d - k = d by omega, mk_coin hd] at this
        cases this
  rw [theL_eq h]
  exact h
/-- children of one purse are not the same -/
theorem kid_inj {cs : List Int} (hp : Pos cs) {c d : Int} (hc : Gn (mk cs) c) (hd : Gn (mk cs) d) {ks : List Int} (h1 : Lst (kidS cs c) ks) (h2 : Lst (kidS cs d) ks) : c = d := by
  by_cases e : c = d
  · exact e
  · exfalso
    have g1 := lst_made (sg_kid hp hc) h1 c
    have g2 := lst_made (sg_kid hp hd) h2 c
    rw [g1] at g2
    have a : kidS cs c c = false := by show (mk cs c && decide (c ≠ c)) = false; simp
    have b : kidS cs d c = true := by show (mk cs c && decide (c ≠ d)) = true; rw [hc.1, decide_eq_true e]; rfl
    have g3 : kidS cs c c = kidS cs d c := g2
    rw [a, b] at g3
    cases g3
def tupI (H : Hp) (a : Addr) : List Int := match H a with
  | some (.tup xs) => xs.map fun v => match v with | .int i => i | _ => 0
  | _ => []
theorem tupI_at {H : Hp} {a : Addr} {ws : List Int} (h : H a = some (.tup (ivs ws))) : tupI H a = ws := by
  unfold tupI
  rw [h]
  show (ivs ws).map _ = ws
  unfold ivs
  rw [List.map_map]
  conv => rhs; rw [← List.map_id ws]
  exact List.map_congr_left fun _ _ => rfl
theorem tups_at : ∀ {H : Hp} {ps : List Addr} {wss : List (List Int)}, Tups H ps wss → ∀ a ∈ ps, H a = some (.tup (ivs (tupI H a))) ∧ tupI H a ∈ wss
  | H, [], [], _, a, ha => by cases ha
  | H, p :: ps, ws :: wss, h, a, ha => by
    rcases List.mem_cons.mp ha with e | ha
    · subst e
      rw [tupI_at h.1]
      exact ⟨h.1, List.mem_cons_self⟩
    · obtain ⟨x, y⟩ := tups_at h.2 a ha
      exact ⟨x, List.mem_cons_of_mem _ y⟩
  | H, [], _ :: _, h, _, _ => h.elim
  | H, _ :: _, [], h, _, _ => h.elim
theorem tups_map : ∀ {H : Hp} {ps : List Addr} {wss : List (List Int)}, Tups H ps wss → ps.map (tupI H) = wss
  | H, [], [], _ => rfl
  | H, p :: ps, ws :: wss, h => by rw [List.map_cons, tupI_at h.1, tups_map h.2]
  | H, [], _ :: _, h => h.elim
  | H, _ :: _, [], h => h.elim
theorem tups_of {H : Hp} : ∀ {ps : List Addr}, (∀ a ∈ ps, H a = some (.tup (ivs (tupI H a)))) → Tups H ps (ps.map (tupI H))
  | [], _ => trivial
  | p :: ps, h => ⟨h p List.mem_cons_self, tups_of fun a ha => h a (List.mem_cons_of_mem _ ha)⟩
theorem tups_snoc {H : Hp} : ∀ {ps : List Addr} {wss : List (List Int)} {p : Addr} {ws : List Int}, Tups H ps wss → H p = some (.tup (ivs ws)) → Tups H (ps ++ [p]) (wss ++ [ws])
  | [], [], _, _, _, h => ⟨h, trivial⟩
  | _ :: _, _ :: _, _, _, t, h => ⟨t.1, tups_snoc t.2 h⟩
  | [], _ :: _, _, _, t, _ => t.elim
  | _ :: _, [], _, _, t, _ => t.elim
theorem tups_app {H : Hp} : ∀ {ps qs : List Addr} {wss vss : List (List Int)}, Tups H ps wss → Tups H qs vss → Tups H (ps ++ qs) (wss ++ vss)
  | [], _, [], _, _, h => h
  | _ :: _, _, _ :: _, _, t, h => ⟨t.1, tups_app t.2 h⟩
  | [], _, _ :: _, _, t, _ => t.elim
  | _ :: _, _, [], _, t, _ => t.elim
end CY

set_option Elab.async false
set_option linter.all false
set_option maxRecDepth 100000
namespace CY
open PySem PySem.Spec PyProof.Rows L2 L2.Tim
/-- no more than the least of them -/
theorem gens_count {S : Int → Bool} {ws : List Int} (g : Sg S) (h : Lst S ws) {m : Int} (m0 : 0 < m) (hm : S m = true) : (ws.length : Int) ≤ m := by
  have nd : (ws.map fun x => x % m).Nodup := by
    refine List.pairwise_map.mpr (h.rise.imp_of_mem fun {a b} ha hb lt e => ?_)
    have ga := (h.mem a).mp ha
    have gb := (h.mem b).mp hb
    obtain ⟨k, hk⟩ : ∃ k : Int, b - a = m * k := by
      have : (b - a) % m = 0 := Int.emod_eq_emod_iff_emod_sub_eq_zero.mp e.symm
      exact ⟨(b - a) / m, by rw [Int.mul_comm]; exact (Int.ediv_mul_cancel (Int.dvd_of_emod_eq_zero this)).symm⟩
    have k0 : 0 < k := by
      by_cases z : 0 < k
      · exact z
      · have := Int.mul_nonpos_of_nonneg_of_nonpos (Int.le_of_lt m0) (show k ≤ 0 by omega)
        omega
    have hs : S (b - a) = true := by
      have := sg_times g hm k.toNat
      rw [show ((k.toNat : Nat) : Int) = k by omega, Int.mul_comm, ← hk] at this
      exact this
    have := gb.2.2 a ga.2.1 lt ga.1
    rw [hs] at this
    cases this
  have sub : ∀ x ∈ ws.map (fun x => x % m), x ∈ ints0 m.toNat := fun x hx => by
    obtain ⟨y, _, rfl⟩ := List.mem_map.mp hx
    have a := Int.emod_nonneg y (show m ≠ 0 by omega)
    have b := Int.emod_lt_of_pos y m0
    exact mem_ints0.mpr ⟨a, by omega⟩
  have := nodup_len nd sub
  rw [List.length_map] at this
  have e : (ints0 m.toNat).length = m.toNat := by simp
  omega
theorem kid_far {m : Int} {cs : List Int} (p : Purse m cs) (hg : gcdL cs = 1) {c : Int} (hc : Gn (mk cs) c) (hf : fr cs < c) (n : Int) (hn : c + 1 ≤ n) : kidS cs c n = true := by
  have c0 := hc.2.1
  show (mk cs n && decide (n ≠ c)) = true
  rw [beyond_fr p hg (by omega) (by omega), decide_eq_true (by omega)]
  rfl
theorem kid_bound {m : Int} {cs : List Int} (p : Purse m cs) (hg : gcdL cs = 1) {c : Int} (hc : Gn (mk cs) c) (hf : fr cs < c) {ks : List Int} (hk : Lst (kidS cs c) ks) : ∀ x ∈ ks, x ≤ 2 * c + 2 := fun x hx => by
  have c0 := hc.2.1
  rcases gn_far (B := c + 1) (m := c + 1) (kid_far p hg hc hf) (by omega) (kid_far p hg hc hf _ (Int.le_refl _)) ((hk.mem x).mp hx) with z | z <;> omega
theorem kid_fits {m : Int} {cs : List Int} (p : Purse m cs) (hm : m ≤ 39) (hg : gcdL cs = 1) {c : Int} (hc : Gn (mk cs) c) (hf : fr cs < c) {ks : List Int} (hk : Lst (kidS cs c) ks) : fits ks := by
  have hcs : c ∈ cs := lp_sub cs c (((lp_lst p).mem c).mpr hc)
  have c1 := p.lo c hcs
  have c2 := p.hi c hcs
  refine ⟨?_, fun x hx => by have := kid_bound p hg hc hf hk x hx; omega⟩
  have := gens_count (sg_kid p.pos hc) hk (m := c + 1) (by omega) (kid_far p hg hc hf _ (Int.le_refl _))
  omega
/-- a child's coins make a purse -/
theorem kid_purse {m : Int} {cs : List Int} (p : Purse m cs) (hm : m ≤ 39) (hg : gcdL cs = 1) {c : Int} (hc : Gn (mk cs) c) (hf : fr cs < c) {ks : List Int} (hk : Lst (kidS cs c) ks) : Purse 400 ks := by
  have c0 := hc.2.1
  have f := kid_fits p hm hg hc hf hk
  exact ⟨hk.rise, lst_ne (sg_kid p.pos hc) hk (n := c + 1) (by omega) (kid_far p hg hc hf _ (Int.le_refl _)), f.1, fun x hx => by have := ((hk.mem x).mp hx).2.1; omega, f.2⟩
theorem kid_mk {cs : List Int} (hp : Pos cs) {c : Int} (hc : Gn (mk cs) c) {ks : List Int} (hk : Lst (kidS cs c) ks) (n : Int) : mk ks n = (mk cs n && decide (n ≠ c)) := lst_made (sg_kid hp hc) hk n
theorem Tups.dr {K : PySem.W.Frag} {H : Hp} : ∀ {ps : List Addr} {wss : List (List Int)}, Tups H ps wss → DrAll K H (ps.map V.ref) (dTups wss)
  | [], [], _ => .nil
  | p :: ps, ws :: wss, h => .cons (.tup (.of h.1) (rd_ints K H ws)) (Tups.dr h.2)
  | [], _ :: _, h => h.elim
  | _ :: _, [], h => h.elim
theorem lay_ints : ∀ ns : List Int, PyData.canLayAll0 (dInts ns) = true ∧ PyData.depthAll (dInts ns) ≤ 1
  | [] => ⟨by simp [dInts, PyData.canLayAll0], by simp [dInts, PyData.depthAll]⟩
  | n :: r => by
    obtain ⟨a, b⟩ := lay_ints r
    have e : dInts (n :: r) = PyData.int n :: dInts r := rfl
    rw [e]
    refine ⟨by simp [PyData.canLayAll0, PyData.canLay0, a], ?_⟩
    simp only [PyData.depthAll, PyData.depth]
    omega
theorem lay_tups : ∀ wss : List (List Int), PyData.canLayAll0 (dTups wss) = true ∧ PyData.depthAll (dTups wss) ≤ 2
  | [] => ⟨by simp [dTups, PyData.canLayAll0], by simp [dTups, PyData.depthAll]⟩
  | ws :: r => by
    obtain ⟨a, b⟩ := lay_tups r
    obtain ⟨c, d⟩ := lay_ints ws
    have e : dTups (ws :: r) = PyData.tuple (dInts ws) :: dTups r := rfl
    rw [e]
    refine ⟨by simp [PyData.canLayAll0, PyData.canLay0, a, c], ?_⟩
    simp only [PyData.depthAll, PyData.depth]
    omega
theorem shaped_tups (wss : List (List Int)) : PySem.SeqAt.shaped (.list (dTups wss)) = true := by
  obtain ⟨a, b⟩ := lay_tups wss
  unfold PySem.SeqAt.shaped
  rw [Bool.and_eq_true]
  refine ⟨by simpa [PyData.canLay0] using a, decide_eq_true ?_⟩
  simp only [PyData.depth]
  omega
end CY

set_option Elab.async false
set_option linter.all false
set_option maxRecDepth 100000
namespace CY
open PySem PySem.Spec PyProof.Rows L2 L2.Tim
/-! ### all least purses with so many gaps: by their gaps -/
/-- the sum c is of no two beside the gaps G -/
def isG (G : List Nat) (c : Nat) : Bool := (List.range c).all fun a => decide (a = 0) || decide (a ∈ G) || decide (c - a ∈ G)
def lastG (G : List Nat) : Nat := G.getLastD 0
def candG (G : List Nat) : List Nat := ((List.range (lastG G + 2)).map fun i => lastG G + 1 + i).filter (isG G)
def kidsG (G : List Nat) : List (List Nat) := (candG G).map fun c => G ++ [c]
def Gs : Nat → List (List Nat)
  | 0 => [[]]
  | j + 1 => (Gs j).flatMap kidsG
def gI (G : List Nat) : List Int := G.map fun (x : Nat) => (x : Int)
theorem isG_iff {G : List Nat} {c : Nat} : isG G c = true ↔ ∀ a, 0 < a → a < c → a ∈ G ∨ c - a ∈ G := by
  unfold isG
  rw [List.all_eq_true]
  constructor
  · intro h a a0 ac
    have := h a (List.mem_range.mpr ac)
    rw [Bool.or_eq_true, Bool.or_eq_true, decide_eq_true_iff, decide_eq_true_iff, decide_eq_true_iff] at this
    rcases this with (z | z) | z
    · omega
    · exact .inl z
    · exact .inr z
  · intro h a ha
    rw [Bool.or_eq_true, Bool.or_eq_true, decide_eq_true_iff, decide_eq_true_iff, decide_eq_true_iff]
    by_cases a0 : a = 0
    · exact .inl (.inl a0)
    · rcases h a (by omega) (List.mem_range.mp ha) with z | z
      · exact .inl (.inr z)
      · exact .inr z
theorem mem_gI {G : List Nat} {n : Nat} : ((n : Nat) : Int) ∈ gI G ↔ n ∈ G := by
  unfold gI
  rw [List.mem_map]
  constructor
  · rintro ⟨a, ha, e⟩
    rw [show n = a by omega]
    exact ha
  · intro h
    exact ⟨n, h, rfl⟩
theorem gI_app (G : List Nat) (c : Nat) : gI (G ++ [c]) = gI G ++ [(c : Int)] := by
  unfold gI
  rw [List.map_append]
  rfl
theorem gI_inj {G G' : List Nat} (h : gI G = gI G') : G = G' := by
  have := congrArg (List.map Int.toNat) h
  unfold gI at this
  rw [List.map_map, List.map_map] at this
  have e : (Int.toNat ∘ fun (x : Nat) => (x : Int)) = id := funext fun x => by simp
  rwa [e, List.map_id, List.map_id] at this
/-- a purse with few gaps, its own least purse -/
structure OkP (ws : List Int) : Prop where
  purse : Purse 39 ws
  gcd : gcdL ws = 1
  lst : Lst (mk ws) ws
theorem gcd_far {S : Int → Bool} {ws : List Int} (g : Sg S) (h : Lst S ws) {B : Int} (hB : ∀ n, B ≤ n → S n = true) : gcdL ws = 1 := by
  have h1 := made_dvd h.pos (mk_iff.mp ((lst_made g h (max B 1)).trans (hB _ (by omega))))
  have h2 := made_dvd h.pos (mk_iff.mp ((lst_made g h (max B 1 + 1)).trans (hB _ (by omega))))
  have h3 := Int.dvd_sub h2 h1
  rw [show max B 1 + 1 - max B 1 = 1 by omega] at h3
  have := Int.le_of_dvd (by decide) h3
  have h0 : gcdL ws ≠ 0 := fun z => by
    rw [z] at h3
    obtain ⟨k, hk⟩ := h3
    simp at hk
  omega
section
variable {ws ks : List Int} {G : List Nat} {c : Int}
theorem kid_gapsP (o : OkP ws) (hc : Gn (mk ws) c) (hf : fr ws < c) (hk : Lst (kidS ws c) ks) : gaps ks = gaps ws ++ [c] := by
  have p := o.purse
  have hK := kid_purse p (by decide) o.gcd hc hf hk
  have hG := gcd_far (sg_kid p.pos hc) hk (kid_far p o.gcd hc hf)
  refine rise_ext (gaps_rise ks) (List.pairwise_append.mpr ⟨gaps_rise ws, List.pairwise_singleton _ _, fun x hx y hy => ?_⟩) fun x => ?_
  · rw [List.mem_singleton.mp hy]
    have := le_fr hx
    omega
  · rw [mem_gaps hK hG, List.mem_append, mem_gaps p o.gcd, List.mem_singleton, kid_mk p.pos hc hk]
    have c0 := hc.2.1
    by_cases e : x = c
    · subst e
      simp
      omega
    · simp [e]
theorem kid_okP (o : OkP ws) (hc : Gn (mk ws) c) (hf : fr ws < c) (hk : Lst (kidS ws c) ks) (h18 : c ≤ 18) : OkP ks := by
  have p := o.purse
  have hK := kid_purse p (by decide) o.gcd hc hf hk
  refine ⟨⟨hK.rise, hK.ne, hK.few, hK.lo, fun x hx => by have := kid_bound p o.gcd hc hf hk x hx; omega⟩, gcd_far (sg_kid p.pos hc) hk (kid_far p o.gcd hc hf), ?_⟩
  have e : mk ks = kidS ws c := funext fun n => kid_mk p.pos hc hk n
  rw [e]
  exact hk
theorem mk_G (o : OkP ws) (hG : gaps ws = gI G) (n : Nat) : mk ws (n : Int) = true ↔ n ∉ G := by
  have h := mem_gaps o.purse o.gcd (x := (n : Int))
  rw [hG, mem_gI] at h
  cases e : mk ws (n : Int) with
  | true =>
    refine ⟨fun _ z => ?_, fun _ => rfl⟩
    have := (h.mp z).2
    rw [e] at this
    cases this
  | false =>
    exact ⟨(fun z => by cases z), fun z => absurd (h.mpr ⟨by omega, e⟩) z⟩
theorem le_lastG (o : OkP ws) (hG : gaps ws = gI G) : ∀ x ∈ G, x ≤ lastG G := fun x hx => by
  have h1 := le_fr (cs := ws) (x := (x : Int)) (by rw [hG]; exact mem_gI.mpr hx)
  have hne : gaps ws ≠ [] := fun z => by
    rw [hG] at z
    have := mem_gI.mpr hx
    rw [z] at this
    cases this
  have h2 : fr ws = ((lastG G : Nat) : Int) := by
    unfold fr lastG
    rw [hG]
    unfold gI
    cases hg : G with
    | nil => rw [hg] at hx; cases hx
    | cons a r =>
      rw [List.getLastD_eq_getLast?, List.getLastD_eq_getLast?, List.getLast?_map]
      cases hl : (a :: r).getLast? with
      | none => simp at hl
      | some y => rfl
  omega
theorem fr_G (o : OkP ws) (hG : gaps ws = gI G) {c : Int} (c0 : 0 < c) : fr ws < c ↔ ((lastG G : Nat) : Int) < c := by
  cases hg : G with
  | nil =>
    have : gaps ws = [] := by rw [hG, hg]; rfl
    rw [fr_nil this]
    show _ ↔ ((0 : Nat) : Int) < c
    omega
  | cons a r =>
    have h2 : fr ws = ((lastG (a :: r) : Nat) : Int) := by
      unfold fr lastG
      rw [hG, hg]
      unfold gI
      rw [List.getLastD_eq_getLast?, List.getLastD_eq_getLast?, List.getLast?_map]
      cases hl : (a :: r).getLast? with
      | none => simp at hl
      | some y => rfl
    rw [h2]
theorem cand_iff (o : OkP ws) (hG : gaps ws = gI G) (c : Int) : (Gn (mk ws) c ∧ fr ws < c) ↔ ∃ n ∈ candG G, c = ((n : Nat) : Int) := by
  have lg := le_lastG o hG
  unfold candG
  constructor
  · rintro ⟨hc, hf⟩
    have c0 := hc.2.1
    obtain ⟨n, rfl⟩ : ∃ n : Nat, c = (n : Int) := ⟨c.toNat, by omega⟩
    have hf := (fr_G o hG c0).mp hf
    have hi : isG G n = true := isG_iff.mpr fun a a0 an => by
      by_cases h1 : a ∈ G
      · exact .inl h1
      · have := hc.2.2 (a : Int) (by omega) (by omega) ((mk_G o hG a).mpr h1)
        rw [show (n : Int) - (a : Int) = ((n - a : Nat) : Int) by omega] at this
        by_cases h2 : n - a ∈ G
        · exact .inr h2
        · rw [(mk_G o hG _).mpr h2] at this
          cases this
    refine ⟨n, List.mem_filter.mpr ⟨List.mem_map.mpr ⟨n - (lastG G + 1), List.mem_range.mpr ?_, by omega⟩, hi⟩, rfl⟩
    by_cases z : n - (lastG G + 1) < lastG G + 2
    · exact z
    · exfalso
      rcases isG_iff.mp hi (lastG G + 1) (by omega) (by omega) with y | y
      · have := lg _ y
        omega
      · have := lg _ y
        omega
  · rintro ⟨n, hn, rfl⟩
    obtain ⟨h1, hi⟩ := List.mem_filter.mp hn
    obtain ⟨i, _, rfl⟩ := List.mem_map.mp h1
    have ng : lastG G + 1 + i ∉ G := fun z => by have := lg _ z; omega
    refine ⟨⟨(mk_G o hG _).mpr ng, by omega, fun a a0 an ha => ?_⟩, (fr_G o hG (by omega)).mpr (by omega)⟩
    obtain ⟨b, rfl⟩ : ∃ b : Nat, a = (b : Int) := ⟨a.toNat, by omega⟩
    have hb := (mk_G o hG b).mp ha
    rw [show ((lastG G + 1 + i : Nat) : Int) - (b : Int) = ((lastG G + 1 + i - b : Nat) : Int) by omega]
    rcases isG_iff.mp hi b (by omega) (by omega) with y | y
    · exact absurd y hb
    · cases e : mk ws ((lastG G + 1 + i - b : Nat) : Int) with
      | false => rfl
      | true => exact absurd y ((mk_G o hG _).mp e)
theorem cand_nodup (G : List Nat) : (candG G).Nodup := by
  unfold candG
  refine List.Nodup.sublist List.filter_sublist ?_
  exact List.pairwise_map.mpr (List.nodup_range.imp fun {a b} ne e => ne (by omega))
/-- the children's gaps -/
theorem kids_perm (o : OkP ws) (hG : gaps ws = gI G) {kss : List (List Int)} (hk : KidsR ws kss) : (kss.map gaps).Perm ((kidsG G).map gI) := by
  have p := o.purse
  have gn : ∀ n ∈ candG G, Gn (mk ws) ((n : Nat) : Int) ∧ fr ws < ((n : Nat) : Int) := fun n hn => (cand_iff o hG _).mpr ⟨n, hn, rfl⟩
  have kl : ∀ n ∈ candG G, Lst (kidS ws ((n : Nat) : Int)) (theL (kidS ws ((n : Nat) : Int))) := fun n hn => kid_lst p (gn n hn).1 ((o.lst.mem _).mpr (gn n hn).1)
  have pm : kss.Perm ((candG G).map fun n => theL (kidS ws ((n : Nat) : Int))) := by
    refine (List.perm_ext_iff_of_nodup (lexr_nodup hk.rise) ?_).mpr fun ks => ?_
    · refine List.pairwise_map.mpr ((cand_nodup G).imp_of_mem fun {a b} ha hb ne e => ne ?_)
      have k2 := kl b hb
      rw [← e] at k2
      have := kid_inj p.pos (gn a ha).1 (gn b hb).1 (kl a ha) k2
      omega
    · rw [hk.mem, List.mem_map]
      constructor
      · rintro ⟨c, h1, h2, h3⟩
        obtain ⟨n, hn, rfl⟩ := (cand_iff o hG c).mp ⟨h1, h2⟩
        exact ⟨n, hn, theL_eq h3⟩
      · rintro ⟨n, hn, rfl⟩
        exact ⟨_, (gn n hn).1, (gn n hn).2, kl n hn⟩
  refine (pm.map gaps).trans ?_
  unfold kidsG
  rw [List.map_map, List.map_map]
  refine List.Perm.of_eq (List.map_congr_left fun n hn => ?_)
  show gaps (theL (kidS ws ((n : Nat) : Int))) = gI (G ++ [n])
  rw [kid_gapsP o (gn n hn).1 (gn n hn).2 (kl n hn), hG, gI_app]
theorem kids_ok (o : OkP ws) (hG : gaps ws = gI G) (h18 : ∀ n ∈ candG G, n ≤ 18) {kss : List (List Int)} (hk : KidsR ws kss) : ∀ ks ∈ kss, OkP ks := fun ks h => by
  obtain ⟨c, h1, h2, h3⟩ := (hk.mem ks).mp h
  obtain ⟨n, hn, rfl⟩ := (cand_iff o hG c).mp ⟨h1, h2⟩
  have := h18 n hn
  exact kid_okP o h1 h2 h3 (by omega)
end
def KG (g : List Int) : List (List Int) := (kidsG (g.map Int.toNat)).map gI
theorem KG_gI (G : List Nat) : KG (gI G) = (kidsG G).map gI := by
  unfold KG gI
  rw [List.map_map]
  have e : (Int.toNat ∘ fun (x : Nat) => (x : Int)) = id := funext fun x => by simp
  rw [e, List.map_id]
theorem Gs_step (j : Nat) : ((Gs j).map gI).flatMap KG = (Gs (j + 1)).map gI := by
  show _ = ((Gs j).flatMap kidsG).map gI
  rw [List.flatMap_map, List.map_flatMap]
  congr 1
  funext G
  exact KG_gI G
/-- all with j gaps, in any order -/
structure AWs (j : Nat) (wss : List (List Int)) : Prop where
  all : ∀ ws ∈ wss, OkP ws
  perm : (wss.map gaps).Perm ((Gs j).map gI)
theorem Gs_small : ∀ j : Fin 8, (Gs j.val).Nodup ∧ (Gs j.val).length ≤ 39 ∧ ∀ G ∈ Gs j.val, lastG G ≤ 13 ∧ G.length = j.val := by decide +kernel
theorem Gs_cand : ∀ j : Fin 7, ∀ G ∈ Gs j.val, ∀ n ∈ candG G, n ≤ 18 := by decide +kernel
theorem okP_one : OkP [1] := by
  have p : Purse 39 [1] := ⟨by decide, by decide, by decide, by decide, by decide⟩
  refine ⟨p, by decide, ?_⟩
  have e : lp [1] = [1] := by
    have q := lp_purse p
    have sub := lp_sub [1]
    cases hl : lp [1] with
    | nil => exact absurd hl q.ne
    | cons x r =>
      have hx : x = 1 := by simpa using sub x (by rw [hl]; exact List.mem_cons_self)
      cases r with
      | nil => rw [hx]
      | cons y r =>
        have hy : y = 1 := by simpa using sub y (by rw [hl]; exact List.mem_cons_of_mem _ List.mem_cons_self)
        have rs := q.rise
        rw [hl] at rs
        have := (List.pairwise_cons.mp rs).1 y List.mem_cons_self
        omega
  have := lp_lst p
  rw [e] at this
  exact this
theorem gaps_one : gaps [1] = [] := by
  refine List.eq_nil_iff_forall_not_mem.mpr fun x hx => ?_
  have h := (mem_gaps okP_one.purse okP_one.gcd).mp hx
  by_cases z : x = 0
  · rw [z, mk_zero] at h
    cases h.2
  · rw [beyond_far okP_one.purse okP_one.gcd (show ((far [1] : Nat) : Int) ≤ x from by show ((1 : Nat) : Int) ≤ x; omega)] at h
    cases h.2
theorem aws_one : AWs 0 [[1]] := by
  refine ⟨fun ws h => ?_, ?_⟩
  · rw [List.mem_singleton.mp h]
    exact okP_one
  · show [gaps [1]].Perm [gI []]
    rw [gaps_one]
    exact List.Perm.refl _
theorem AWs.gap {j : Nat} {wss : List (List Int)} (h : AWs j wss) {ws : List Int} (hw : ws ∈ wss) : ∃ G ∈ Gs j, gaps ws = gI G := by
  have := h.perm.mem_iff.mp (List.mem_map.mpr ⟨ws, hw, rfl⟩)
  obtain ⟨G, hG, e⟩ := List.mem_map.mp this
  exact ⟨G, hG, e.symm⟩
theorem AWs.nodup {j : Nat} (hj : j ≤ 7) {wss : List (List Int)} (h : AWs j wss) : wss.Nodup := by
  have nd : (wss.map gaps).Nodup := by
    refine h.perm.nodup_iff.mpr ?_
    exact List.pairwise_map.mpr ((Gs_small ⟨j, by omega⟩).1.imp fun {a b} ne e => ne (gI_inj e))
  exact (List.pairwise_map.mp nd).imp fun {a b} ne e => ne (by rw [e])
theorem AWs.len {j : Nat} {wss : List (List Int)} (h : AWs j wss) : wss.length = (Gs j).length := by
  have := h.perm.length_eq
  rwa [List.length_map, List.length_map] at this
theorem aws_step {j : Nat} {wss vss : List (List Int)} (h : AWs j wss) (ok : ∀ ws ∈ vss, OkP ws) (pm : (vss.map gaps).Perm ((wss.map gaps).flatMap KG)) : AWs (j + 1) vss :=
  ⟨ok, by rw [← Gs_step]; exact pm.trans (h.perm.flatMap_right KG)⟩
theorem flat_take {α β γ : Type} (f : α → β) (g : β → List γ) (l : List α) (k : Nat) : (((l.take k).map f).flatMap g).length ≤ ((l.map f).flatMap g).length := by
  have e : l.map f = (l.take k).map f ++ (l.drop k).map f := by rw [← List.map_append, List.take_append_drop]
  rw [e, List.flatMap_append, List.length_append]
  exact Nat.le_add_right _ _
theorem aws_few {j : Nat} (hj : j < 7) {wss vss : List (List Int)} (h : AWs j wss) (k : Nat) (pm : (vss.map gaps).Perm (((wss.take k).map gaps).flatMap KG)) : vss.length ≤ 39 := by
  have h1 := pm.length_eq
  rw [List.length_map] at h1
  have h2 := flat_take gaps KG wss k
  have h3 := (h.perm.flatMap_right KG).length_eq
  rw [Gs_step, List.length_map] at h3
  have h4 := (Gs_small ⟨j + 1, by omega⟩).2.1
  have h4' : (Gs (j + 1)).length ≤ 39 := h4
  omega
theorem tups_nth {H : Hp} : ∀ {ps : List Addr} {wss : List (List Int)}, Tups H ps wss → ∀ {k : Nat} {p : Addr}, ps[k]? = some p → ∃ ws, wss[k]? = some ws ∧ H p = some (.tup (ivs ws))
  | [], [], _, k, p, h => by simp at h
  | q :: ps, ws :: wss, ht, 0, p, h => by
    have e : q = p := Option.some.inj h
    subst e
    exact ⟨ws, rfl, ht.1⟩
  | q :: ps, ws :: wss, ht, k + 1, p, h => tups_nth ht.2 (k := k) h
theorem tups_upd {H : Hp} {l : Addr} {xs : List V} {o : HO} (hl : H l = some (.lst xs)) : ∀ {ps : List Addr} {wss : List (List Int)}, Tups H ps wss → Tups (upd H l o) ps wss
  | [], [], _ => trivial
  | p :: ps, ws :: wss, ht => ⟨by
    have h1 : H p = some (.tup (ivs ws)) := ht.1
    rw [upd_ne (fun z => by rw [z, hl] at h1; cases h1)]
    exact h1, tups_upd hl ht.2⟩
theorem refs_at {ps : List Addr} {i : Nat} {v : V} (h : (ps.map V.ref)[i]? = some v) : ∃ p, v = .ref p ∧ ps[i]? = some p := by
  rw [List.getElem?_map] at h
  cases e : ps[i]? with
  | none => rw [e] at h; cases h
  | some p =>
    rw [e] at h
    exact ⟨p, (Option.some.inj h).symm, rfl⟩
end CY

set_option Elab.async false
set_option linter.all false
set_option maxRecDepth 100000
namespace CY
open PySem PySem.Spec PyProof.Rows L2 L2.Tim
/-! ### the law's choices -/
def chStep (m : Nat) (rows : List (List Nat)) (n : Nat) : List (List Nat) := rows ++ (rows.filter fun r => decide (r.length < m)).map fun r => r ++ [n]
def chUp (m : Nat) : Nat → List (List Nat)
  | 0 => [[]]
  | i + 1 => chStep m (chUp m i) (i + 1)
def chs (m : Nat) : List (List Nat) := (chUp m (2 * m - 1)).filter fun r => decide (r.length = m)
def othG (m : Nat) (r : List Nat) : List Nat := ((List.range (2 * m - 1)).map fun i => i + 1).filter fun n => decide (n ∉ r)
def hB (m : Nat) (r : List Nat) : Bool := (othG m r).all fun a => (othG m r).all fun b => decide (a + b ∉ r)
theorem ch_perm : ∀ j : Fin 8, ((chs j.val).filter (hB j.val)).isPerm (Gs j.val) = true := by decide +kernel
theorem chUp_len (m : Nat) : ∀ i, (chUp m i).length ≤ 2 ^ i
  | 0 => by show 1 ≤ 1; omega
  | i + 1 => by
    have ih := chUp_len m i
    show ((chUp m i) ++ _).length ≤ _
    rw [List.length_append, List.length_map, Nat.pow_succ]
    have := List.length_filter_le (fun r : List Nat => decide (r.length < m)) (chUp m i)
    omega
theorem chUp_row (m : Nat) : ∀ i, ∀ r ∈ chUp m i, r.length ≤ m
  | 0, r, h => by
    rw [List.mem_singleton.mp h]
    exact Nat.zero_le _
  | i + 1, r, h => by
    have h' : r ∈ chUp m i ++ ((chUp m i).filter fun r => decide (r.length < m)).map fun r => r ++ [i + 1] := h
    rcases List.mem_append.mp h' with z | z
    · exact chUp_row m i r z
    · obtain ⟨s, hs, rfl⟩ := List.mem_map.mp z
      have := of_decide_eq_true (List.mem_filter.mp hs).2
      rw [List.length_append]
      show s.length + 1 ≤ m
      omega
/-- the sums beside the gaps g -/
def SI (g : List Int) : Int → Bool := fun n => decide (0 ≤ n) && decide (n ∉ g)
noncomputable def back (m : Nat) (g : List Int) : List Int := gensUp (SI g) (4 * m + 2)
theorem mk_SI {ws : List Int} (o : OkP ws) : mk ws = SI (gaps ws) := funext fun n => by
  show _ = (decide (0 ≤ n) && decide (n ∉ gaps ws))
  by_cases h : 0 ≤ n
  · rw [decide_eq_true h, Bool.true_and]
    have hm := mem_gaps o.purse o.gcd (x := n)
    cases e : mk ws n with
    | true => rw [decide_eq_true (show n ∉ gaps ws from fun z => by have := (hm.mp z).2; rw [e] at this; cases this)]
    | false => rw [decide_eq_false (show ¬ n ∉ gaps ws from fun z => z (hm.mpr ⟨h, e⟩))]
  · rw [decide_eq_false h, Bool.false_and]
    exact (sg_mk o.purse.pos).neg (by omega)
theorem back_ok {ws : List Int} {G : List Nat} {m : Nat} (o : OkP ws) (hG : gaps ws = gI G) (hl : lastG G ≤ 2 * m) : back m (gaps ws) = ws := by
  unfold back
  rw [← mk_SI o]
  refine (gens_lst fun n hn hg => ?_).uniq o.lst
  have lg := le_lastG o hG
  have n0 := hg.2.1
  obtain ⟨k, rfl⟩ : ∃ k : Nat, n = (k : Int) := ⟨n.toNat, by omega⟩
  have h1 := hg.2.2 ((lastG G + 1 : Nat) : Int) (by omega) (by omega) ((mk_G o hG _).mpr fun z => by have := lg _ z; omega)
  rw [show (k : Int) - ((lastG G + 1 : Nat) : Int) = ((k - (lastG G + 1) : Nat) : Int) by omega, (mk_G o hG _).mpr (fun z => by have := lg _ z; omega)] at h1
  cases h1
theorem aws_ex : ∀ j : Nat, j ≤ 7 → ∃ wss, AWs j wss
  | 0, _ => ⟨_, aws_one⟩
  | j + 1, hj => by
    obtain ⟨wss, aw⟩ := aws_ex j (by omega)
    have one : ∀ ws ∈ wss, ∃ kss : List (List Int), (kss.map gaps).Perm (KG (gaps ws)) ∧ ∀ ks ∈ kss, OkP ks := fun ws hw => by
      have o := aw.all ws hw
      obtain ⟨G, hGm, hG⟩ := aw.gap hw
      have gn : ∀ n ∈ candG G, Gn (mk ws) ((n : Nat) : Int) ∧ fr ws < ((n : Nat) : Int) := fun n hn => (cand_iff o hG _).mpr ⟨n, hn, rfl⟩
      have kl : ∀ n ∈ candG G, Lst (kidS ws ((n : Nat) : Int)) (theL (kidS ws ((n : Nat) : Int))) := fun n hn => kid_lst o.purse (gn n hn).1 ((o.lst.mem _).mpr (gn n hn).1)
      refine ⟨(candG G).map fun n => theL (kidS ws ((n : Nat) : Int)), ?_, fun ks h => ?_⟩
      · rw [hG, KG_gI]
        unfold kidsG
        rw [List.map_map, List.map_map]
        refine List.Perm.of_eq (List.map_congr_left fun n hn => ?_)
        show gaps (theL (kidS ws ((n : Nat) : Int))) = gI (G ++ [n])
        rw [kid_gapsP o (gn n hn).1 (gn n hn).2 (kl n hn), hG, gI_app]
      · obtain ⟨n, hn, rfl⟩ := List.mem_map.mp h
        have h18 : n ≤ 18 := Gs_cand ⟨j, by omega⟩ G hGm n hn
        exact kid_okP o (gn n hn).1 (gn n hn).2 (kl n hn) (by omega)
    have all : ∀ l : List (List Int), (∀ ws ∈ l, ws ∈ wss) → ∃ vss : List (List Int), (vss.map gaps).Perm ((l.map gaps).flatMap KG) ∧ ∀ ks ∈ vss, OkP ks := by
      intro l
      induction l with
      | nil => exact fun _ => ⟨[], List.Perm.refl _, fun ks h => by cases h⟩
      | cons ws l ih =>
        intro h
        obtain ⟨vss, p1, k1⟩ := ih fun x hx => h x (List.mem_cons_of_mem _ hx)
        obtain ⟨kss, p2, k2⟩ := one ws (h ws List.mem_cons_self)
        refine ⟨kss ++ vss, ?_, fun ks hk => ?_⟩
        · rw [List.map_append, List.map_cons, List.flatMap_cons]
          exact p2.append p1
        · rcases List.mem_append.mp hk with z | z
          · exact k2 ks z
          · exact k1 ks z
    obtain ⟨vss, p, k⟩ := all wss fun _ h => h
    exact ⟨vss, aws_step aw k p⟩
theorem row_ok {m : Nat} (hm : m ≤ 7) {r : List Nat} (hr : r ∈ Gs m) : ∃ ws, OkP ws ∧ gaps ws = gI r := by
  obtain ⟨wss, aw⟩ := aws_ex m hm
  have := aw.perm.mem_iff.mpr (List.mem_map.mpr ⟨r, hr, rfl⟩)
  obtain ⟨ws, hw, e⟩ := List.mem_map.mp this
  exact ⟨ws, aw.all ws hw, e⟩
theorem row_sg {m : Nat} (hm : m ≤ 7) {r : List Nat} (hr : r ∈ Gs m) : Sg (SI (gI r)) := by
  obtain ⟨ws, o, e⟩ := row_ok hm hr
  rw [← e, ← mk_SI o]
  exact sg_mk o.purse.pos
theorem last_le : ∀ j : Fin 8, ∀ G ∈ Gs j.val, lastG G ≤ 2 * j.val := by decide +kernel
/-- what the law finds is what is told, in another order -/
theorem due_perm {m : Nat} (hm : m ≤ 7) {wss : List (List Int)} (aw : AWs m wss) : (((chs m).filter (hB m)).map fun r => back m (gI r)).Perm wss := by
  have h1 : ((chs m).filter (hB m)).Perm (Gs m) := List.isPerm_iff.mp (ch_perm ⟨m, by omega⟩)
  have h2 : wss = (wss.map gaps).map (back m) := by
    rw [List.map_map]
    symm
    refine (List.map_congr_left fun ws hw => ?_).trans (List.map_id _)
    obtain ⟨G, hGm, hG⟩ := aw.gap hw
    exact back_ok (aw.all ws hw) hG (last_le ⟨m, by omega⟩ G hGm)
  rw [h2]
  have h3 := (h1.map fun r => back m (gI r))
  have h4 : ((Gs m).map fun r => back m (gI r)) = ((Gs m).map gI).map (back m) := by rw [List.map_map]; rfl
  rw [h4] at h3
  exact h3.trans (aw.perm.symm.map _)
theorem rows_in {m : Nat} (hm : m ≤ 7) {r : List Nat} (hr : r ∈ chs m) (hb : hB m r = true) : r ∈ Gs m := by
  have h1 : ((chs m).filter (hB m)).Perm (Gs m) := List.isPerm_iff.mp (ch_perm ⟨m, by omega⟩)
  exact h1.mem_iff.mp (List.mem_filter.mpr ⟨hr, hb⟩)
end CY

set_option Elab.async false
set_option linter.all false
set_option maxRecDepth 100000
namespace CY
open PySem L2

abbrev prog : Program := PySem.Challenge.pw_coinyard_k22_whole_all_with_so_many_gaps
def top (i : Nat) : Stmt := prog.main.body.getD i (.Pass ⟨0, 0, 0, 0⟩)
abbrev s_is_whole : Stmt := top 9
theorem sc_is_whole : FnScope ["thing"] ["thing"] (defScope s_is_whole) := ⟨rfl, rfl, rfl, by decide +kernel, rfl, by decide +kernel, by decide +kernel⟩
abbrev s_common_divisor : Stmt := top 10
theorem sc_common_divisor : FnScope ["one", "other", "rest"] ["one", "other"] (defScope s_common_divisor) := ⟨rfl, rfl, rfl, by decide +kernel, rfl, by decide +kernel, by decide +kernel⟩
abbrev s_checked : Stmt := top 11
theorem sc_checked : FnScope ["purse", "before", "coin"] ["purse"] (defScope s_checked) := ⟨rfl, rfl, rfl, by decide +kernel, rfl, by decide +kernel, by decide +kernel⟩
abbrev s_divisor_of : Stmt := top 12
theorem sc_divisor_of : FnScope ["purse", "divisor", "coin"] ["purse"] (defScope s_divisor_of) := ⟨rfl, rfl, rfl, by decide +kernel, rfl, by decide +kernel, by decide +kernel⟩
abbrev s_add_coin : Stmt := top 13
theorem sc_add_coin : FnScope ["made", "coin", "number"] ["made", "coin"] (defScope s_add_coin) := ⟨rfl, rfl, rfl, by decide +kernel, rfl, by decide +kernel, by decide +kernel⟩
abbrev s_needed_of : Stmt := top 14
theorem sc_needed_of : FnScope ["coins", "made", "found", "coin"] ["coins"] (defScope s_needed_of) := ⟨rfl, rfl, rfl, by decide +kernel, rfl, by decide +kernel, by decide +kernel⟩
abbrev s_least_purse : Stmt := top 15
theorem sc_least_purse : FnScope ["purse"] ["purse"] (defScope s_least_purse) := ⟨rfl, rfl, rfl, by decide +kernel, rfl, by decide +kernel, by decide +kernel⟩
abbrev s_least_purse_of : Stmt := top 16
theorem sc_least_purse_of : FnScope ["coins", "needed"] ["coins"] (defScope s_least_purse_of) := ⟨rfl, rfl, rfl, by decide +kernel, rfl, by decide +kernel, by decide +kernel⟩
abbrev s_add_once : Stmt := top 18
theorem sc_add_once : FnScope ["least", "rest", "coin", "onward", "reached"] ["least", "rest", "coin"] (defScope s_add_once) := ⟨rfl, rfl, rfl, by decide +kernel, rfl, by decide +kernel, by decide +kernel⟩
abbrev s_add_coin_to_least : Stmt := top 19
theorem sc_add_coin_to_least : FnScope ["least", "coin", "circles", "steps", "start", "rest", "step"] ["least", "coin"] (defScope s_add_coin_to_least) := ⟨rfl, rfl, rfl, by decide +kernel, rfl, by decide +kernel, by decide +kernel⟩
abbrev s_least_sums_by : Stmt := top 20
theorem sc_least_sums_by : FnScope ["number", "coins", "least", "coin"] ["number", "coins"] (defScope s_least_sums_by) := ⟨rfl, rfl, rfl, by decide +kernel, rfl, by decide +kernel, by decide +kernel⟩
abbrev s_least_sums : Stmt := top 21
theorem sc_least_sums : FnScope ["purse"] ["purse"] (defScope s_least_sums) := ⟨rfl, rfl, rfl, by decide +kernel, rfl, by decide +kernel, by decide +kernel⟩
abbrev s_is_reached : Stmt := top 22
theorem sc_is_reached : FnScope ["least", "number", "start"] ["least", "number"] (defScope s_is_reached) := ⟨rfl, rfl, rfl, by decide +kernel, rfl, by decide +kernel, by decide +kernel⟩
abbrev s_check_gaps_end : Stmt := top 24
theorem sc_check_gaps_end : FnScope ["purse"] ["purse"] (defScope s_check_gaps_end) := ⟨rfl, rfl, rfl, by decide +kernel, rfl, by decide +kernel, by decide +kernel⟩
abbrev s_least_sums_of_every_rest : Stmt := top 25
theorem sc_least_sums_of_every_rest : FnScope ["purse"] ["purse"] (defScope s_least_sums_of_every_rest) := ⟨rfl, rfl, rfl, by decide +kernel, rfl, by decide +kernel, by decide +kernel⟩
abbrev s_gaps_of : Stmt := top 26
theorem sc_gaps_of : FnScope ["purse", "least"] ["purse"] (defScope s_gaps_of) := ⟨rfl, rfl, rfl, by decide +kernel, rfl, by decide +kernel, by decide +kernel⟩
abbrev s_greatest_gap : Stmt := top 27
theorem sc_greatest_gap : FnScope ["purse", "least"] ["purse"] (defScope s_greatest_gap) := ⟨rfl, rfl, rfl, by decide +kernel, rfl, by decide +kernel, by decide +kernel⟩
abbrev s_without_sum : Stmt := top 30
theorem sc_without_sum : FnScope ["purse", "coin", "others"] ["purse", "coin"] (defScope s_without_sum) := ⟨rfl, rfl, rfl, by decide +kernel, rfl, by decide +kernel, by decide +kernel⟩
abbrev s_children_of : Stmt := top 31
theorem sc_children_of : FnScope ["purse", "greatest", "coins"] ["purse"] (defScope s_children_of) := ⟨rfl, rfl, rfl, by decide +kernel, rfl, by decide +kernel, by decide +kernel⟩
abbrev s_all_with : Stmt := top 32
theorem sc_all_with : FnScope ["many", "found", "step", "before", "purse"] ["many"] (defScope s_all_with) := ⟨rfl, rfl, rfl, by decide +kernel, rfl, by decide +kernel, by decide +kernel⟩
abbrev s__law_cell : Stmt := top 34
theorem sc__law_cell : FnScope ["_law_script", "_law_k"] ["_law_script", "_law_k"] (defScope s__law_cell) := ⟨rfl, rfl, rfl, by decide +kernel, rfl, by decide +kernel, by decide +kernel⟩
abbrev s__law_least : Stmt := top 35
theorem sc__law_least : FnScope ["_law_table", "_law_found", "_law_number"] ["_law_table"] (defScope s__law_least) := ⟨rfl, rfl, rfl, by decide +kernel, rfl, by decide +kernel, by decide +kernel⟩
abbrev s__law_choices : Stmt := top 36
theorem sc__law_choices : FnScope ["_law_many", "_law_found", "_law_number"] ["_law_many"] (defScope s__law_choices) := ⟨rfl, rfl, rfl, by decide +kernel, rfl, by decide +kernel, by decide +kernel⟩
abbrev s__law_holds : Stmt := top 37
theorem sc__law_holds : FnScope ["_law_row", "_law_many", "_law_others", "_law_one"] ["_law_row", "_law_many"] (defScope s__law_holds) := ⟨rfl, rfl, rfl, by decide +kernel, rfl, by decide +kernel, by decide +kernel⟩
abbrev s_law : Stmt := top 38
theorem sc_law : FnScope ["_law_script", "_law_many", "_law_due", "_law_row", "_law_found"] ["_law_script"] (defScope s_law) := ⟨rfl, rfl, rfl, by decide +kernel, rfl, by decide +kernel, by decide +kernel⟩
end CY

set_option Elab.async false
set_option linter.all false
set_option maxRecDepth 100000
set_option maxHeartbeats 4000000
namespace CY
open PySem PySem.Spec PyProof.Rows L2
section
variable {P : Program} {w : World} {K : PySem.W.Frag} {mg : Str → Option Value} {base : Heap}
theorem ok__law_cell {f : Addr} {fd : FuncData} (F : Fun K "_law_cell" "_law_cell" s__law_cell f fd) (T : Tx mg) : FnOk P w K mg base CX0 1 f fd ["_law_script", "_law_k"] (sp_cell K) := by
  refine F.ok sc__law_cell (fun vs H Q E h => ?_) (fun cdv A outer s H vs Q E hr h => ?_)
  · obtain ⟨a, ns, k, rfl, _⟩ := h
    rfl
  · obtain ⟨a, ns, k, rfl, hS, hk, q⟩ := h
    refine ⟨_, (pss_cons (ps_if (pt_cmpR op_lt (pv 1) (pe_callB call_len_seq (gl_of (by kernel_rfl)) T.b_len boot_len (pa_cons (pv 0) pa_nil)) (nomark _)) (pss_one (ps_ret (pe_ix ix_any (pv 0) (pv 1) (fun _ _ => rfl)))) pss_nil)
      (pss_one (ps_ret pe_int))), ?_⟩
    refine ⟨_, rfl, _, rfl, a, ivs ns, rfl, .inl hS, _, _, rfl, rfl, _, rfl, ?_⟩
    have hl : (ivs ns).length = ns.length := List.length_map ..
    rw [hl]
    refine ite2 (fun h1 => ?_) (fun h1 => ?_)
    · have h2 : k < (ns.length : Int) := of_decide_eq_true h1
      refine ⟨_, rfl, _, rfl, a, ivs ns, k, _, rfl, rfl, .inl hS, ?_, q⟩
      have e : k = ((k.toNat : Nat) : Int) := by omega
      unfold cell
      rw [if_pos h2]
      conv => lhs; rw [e]
      exact atI_nat (ivs_get (by omega))
    · have h2 : ¬ k < (ns.length : Int) := fun z => h1 (decide_eq_true z)
      unfold cell at q
      rw [if_neg h2] at q
      exact q
end
end CY

set_option Elab.async false
set_option linter.all false
set_option maxRecDepth 100000
set_option maxHeartbeats 4000000
namespace CY
open PySem PySem.Spec PyProof.Rows L2
theorem true_then {σ : L2.St} {H : Hp} {A B : Hp → Prop} (h : A H) : tTrue σ H fun c H2 => if c = true then A H2 else B H2 := by
  show if true = true then A H else B H
  rw [if_pos rfl]
  exact h
section
variable {P : Program} {w : World} {K : PySem.W.Frag} {mg : Str → Option Value} {base : Heap}
end
end CY

set_option Elab.async false
set_option linter.all false
set_option maxRecDepth 100000
set_option maxHeartbeats 4000000
namespace CY
open PySem PySem.Spec PyProof.Rows L2
theorem tab_succ (cs : List Int) (i : Nat) : tab cs (i + 1) = tab cs i ++ [V.bl (mk cs ((i : Int) + 1))] := by
  unfold tab
  rw [List.range_succ (n := i + 1), List.map_append]
  simp
theorem tab_len (cs : List Int) (i : Nat) : (tab cs i).length = i + 1 := by unfold tab; simp
theorem tab_at (cs : List Int) {i j : Nat} (h : j ≤ i) : (tab cs i)[j]? = some (.bl (mk cs j)) := by
  unfold tab
  simp [show j < i + 1 by omega]
theorem tab_atI (cs : List Int) {i : Nat} {z : Int} (h0 : 0 ≤ z) (h : z ≤ i) : atI (tab cs i) z = some (.bl (mk cs z)) := by
  have e : z = ((z.toNat : Nat) : Int) := by omega
  rw [e]
  exact atI_nat (tab_at cs (by omega))
section
variable {P : Program} {w : World} {K : PySem.W.Frag} {mg : Str → Option Value} {base : Heap}
end
end CY

set_option Elab.async false
set_option linter.all false
set_option maxRecDepth 100000
set_option maxHeartbeats 4000000
namespace CY
open PySem PySem.Spec PyProof.Rows L2
theorem ifT {c : Bool} {A B : Prop} (hc : c = true) (h : A) : if c = true then A else B := by
  rw [if_pos hc]
  exact h
theorem ifF {c : Bool} {A B : Prop} (hc : c = false) (h : B) : if c = true then A else B := by
  rw [hc, if_neg Bool.false_ne_true]
  exact h
theorem ifN {c : Bool} {A B : Prop} (hc : c = true) (h : B) : if (!c) = true then A else B := by
  rw [hc, if_neg (by decide)]
  exact h
theorem kit_ii (K : PySem.W.Frag) : PySem.W.kitOne K (.type "int") (.type "int") = some true := rfl
theorem kit_ib (K : PySem.W.Frag) : PySem.W.kitOne K (.type "int") (.type "bool") = some false := by kernel_rfl
theorem kit_tt (K : PySem.W.Frag) : PySem.W.kitOne K (.type "tuple") (.type "tuple") = some true := rfl
theorem kit_ll (K : PySem.W.Frag) : PySem.W.kitOne K (.type "list") (.type "list") = some true := rfl
section
variable {P : Program} {w : World} {K : PySem.W.Frag} {mg : Str → Option Value} {base : Heap}
theorem ok_is_whole {f : Addr} {fd : FuncData} (F : Fun K "is_whole" "is_whole" s_is_whole f fd) (T : Tx mg) : FnOk P w K mg base CX0 1 f fd ["thing"] sp_whole := by
  refine F.ok sc_is_whole (fun vs H Q E h => ?_) (fun cdv A outer s H vs Q E hr h => ?_)
  · obtain ⟨i, rfl, _⟩ := h
    rfl
  · obtain ⟨i, rfl, q⟩ := h
    refine ⟨_, (pss_one (ps_ret (pe_and (pe_callB (isinstK (K := K) rfl) (gl_of (by kernel_rfl)) T.b_isinstance boot_isinstance (pa_cons (pv 0) (pa_cons (pe_ty T.b_int boot_int) pa_nil))) (pe_one (pe_un (notK (K := K) rfl) (pe_callB (isinstK (K := K) rfl) (gl_of (by kernel_rfl)) T.b_isinstance boot_isinstance (pa_cons (pv 0) (pa_cons (pe_ty T.b_bool boot_bool) pa_nil)))))))), ?_⟩
    refine ⟨_, rfl, _, _, _, _, rfl, .int i, kit_ii K, _, rfl, ?_⟩
    refine iteT ?_
    refine ⟨_, rfl, _, _, _, _, rfl, .int i, kit_ib K, false, rfl, q⟩
theorem ok_common_divisor {f : Addr} {fd : FuncData} (F : Fun K "common_divisor" "common_divisor" s_common_divisor f fd) : FnOk P w K mg base CX0 1 f fd ["one", "other"] sp_gcd := by
  refine F.ok sc_common_divisor (fun vs H Q E h => ?_) (fun cdv A outer s H vs Q E hr h => ?_)
  · obtain ⟨a, b, rfl, _⟩ := h
    rfl
  · obtain ⟨a, b, rfl, ha, hb, q⟩ := h
    refine ⟨_, (pss_cons (ps_while PassesOwn.never (pt_cmpR op_ne (pv 1) pe_int (nomark _)) (pss_cons (ps_set (i := 2) sc_common_divisor.nd rfl (Or.inl (by kernel_rfl)) (pe_op op_mod (pv 0) (pv 1)))
      (pss_cons (ps_set (i := 0) sc_common_divisor.nd rfl (Or.inl (by kernel_rfl)) (pv 1))
      (pss_one (ps_set (i := 1) sc_common_divisor.nd rfl (Or.inl (by kernel_rfl)) (pv 2))))))
      (pss_one (ps_ret (pv 0)))), ?_⟩
    refine ⟨fun m σ H' => ∃ (x y : Int) (z : Option V), σ = [some (.int x), some (.int y), z] ∧ H' = H ∧ 0 ≤ x ∧ 0 ≤ y ∧ m = y.toNat ∧ Nat.gcd x.toNat y.toNat = Nat.gcd a.toNat b.toNat, ⟨b.toNat, a, b, none, rfl, rfl, ha, hb, rfl, rfl⟩, ?_⟩
    rintro m σ H' ⟨x, y, z, rfl, rfl, hx, hy, rfl, hg⟩
    refine ⟨_, rfl, rfl, _, rfl, ?_⟩
    refine ite2 (fun h1 => ?_) (fun h1 => ?_)
    · have h2 : y ≠ 0 := fun e => by subst e; simp at h1
      have hy' : 0 < y := by omega
      refine ⟨fun σ' H2 => ∃ z, σ' = [some (.int y), some (.int (x % y)), z] ∧ H2 = H', ?_, ?_⟩
      · rintro σ' H2 ⟨z, rfl, rfl⟩
        have m0 := Int.emod_nonneg x h2
        have m1 := Int.emod_lt_of_pos x hy'
        refine ⟨(x % y).toNat, by omega, y, x % y, z, rfl, rfl, hy, m0, rfl, ?_⟩
        rw [← hg, Int.toNat_emod hx hy, Nat.gcd_comm y.toNat, ← Nat.gcd_rec, Nat.gcd_comm]
      · exact ⟨_, rfl, _, rfl, _, _, rfl, rfl, hy', _, rfl, _, rfl, _, rfl, rfl⟩
    · have h2 : y = 0 := by
        cases Decidable.em (y = 0) with
        | inl e => exact e
        | inr e => exact absurd (by simp [e]) h1
      subst h2
      refine ⟨_, rfl, ?_⟩
      have e : x = ((Nat.gcd a.toNat b.toNat : Nat) : Int) := by
        rw [← hg]
        simp
        omega
      rw [e]
      exact q
theorem getI_last {cs : List Int} (h : cs ≠ []) : atI (ivs cs) (-1) = some (.int (cs.getLast h)) := by
  have e := List.dropLast_concat_getLast h
  have e2 : ivs cs = ivs cs.dropLast ++ [.int (cs.getLast h)] := by
    conv => lhs; rw [← e]
    unfold ivs
    rw [List.map_append]
    rfl
  rw [e2]
  exact atI_last _ _
theorem ivs_nth {cs : List Int} {i : Nat} {v : V} (h : (ivs cs)[i]? = some v) : ∃ c, v = .int c ∧ cs[i]? = some c := by
  unfold ivs at h
  rw [List.getElem?_map] at h
  cases e : cs[i]? with
  | none => rw [e] at h; cases h
  | some c => rw [e] at h; cases h; exact ⟨c, rfl, rfl⟩
theorem _root_.L2.SqL.keep {K : PySem.W.Frag} {H H' : Hp} {a : Addr} {xs : List V} (h : SqL K H a xs) (k : ∀ o, H a = some o → H' a = some o) : SqL K H' a xs := by
  rcases h with (h | ⟨o, h⟩) | h
  · exact .inl (.inl (k _ h))
  · exact .inl (.inr ⟨o, k _ h⟩)
  · exact .inr h
theorem _root_.L2.SqT.keep {K : PySem.W.Frag} {H H' : Hp} {a : Addr} {xs : List V} (h : SqT K H a xs) (k : ∀ o, H a = some o → H' a = some o) : SqT K H' a xs := by
  rcases h with (h | ⟨o, h⟩) | h
  · exact .inl (.inl (k _ h))
  · exact .inl (.inr ⟨o, k _ h⟩)
  · exact .inr h
/-- a loop over a tuple or a list that stays -/
theorem for_seq {K : PySem.W.Frag} {a : Addr} {xs : List V} {g : TG} {tb : TS} {D : Ends} {σ : L2.St} {H : Hp} (Pv : Nat → L2.St → Hp → Prop) (h : SqA K H a xs) (h0 : Pv 0 σ H) (hl : ∀ i σ' H', Pv i σ' H' → ∀ o, H a = some o → H' a = some o)
    (hs : ∀ i x σ H, xs[i]? = some x → Pv i σ H → g x σ H fun σ2 H2 => tb { D with nx := Pv (i + 1), ct := Pv (i + 1), bk := D.nx } σ2 H2) (hd : ∀ σ H, Pv xs.length σ H → D.nx σ H) :
    ((∃ xs, SqL K H a xs) ∧ ∃ W : Nat → Nat → L2.St → Hp → Prop, (∃ m, W 0 m σ H) ∧ ∀ i m σ H, W i m σ H →
      ((Itl K a).stop i H ∧ D.nx σ H) ∨ ((Itl K a).go i H ∧ ∃ N : L2.St → Hp → Prop, (∀ σ' H', N σ' H' → ∃ m', m' < m ∧ W (i + 1) m' σ' H') ∧ ∀ x H', (Itl K a).yld i H x H' → g x σ H' fun σ2 H2 => tb { D with nx := N, ct := N, bk := D.nx } σ2 H2)) ∨
    ((∃ xs, SqT K H a xs) ∧ ∃ W : Nat → Nat → L2.St → Hp → Prop, (∃ m, W 0 m σ H) ∧ ∀ i m σ H, W i m σ H →
      ((Itt K a).stop i H ∧ D.nx σ H) ∨ ((Itt K a).go i H ∧ ∃ N : L2.St → Hp → Prop, (∀ σ' H', N σ' H' → ∃ m', m' < m ∧ W (i + 1) m' σ' H') ∧ ∀ x H', (Itt K a).yld i H x H' → g x σ H' fun σ2 H2 => tb { D with nx := N, ct := N, bk := D.nx } σ2 H2)) := by
  rcases h with h | h
  · exact .inl ⟨⟨xs, h⟩, for_list Pv h0 (fun i σ' H' _ pv => h.keep (hl i σ' H' pv)) hs hd⟩
  · exact .inr ⟨⟨xs, h⟩, for_tup Pv h0 (fun i σ' H' _ pv => h.keep (hl i σ' H' pv)) hs hd⟩
theorem ok_checked {f : Addr} {fd : FuncData} {t1 t2 : Tok} (F : Fun K "checked" "checked" s_checked f fd) (T : Tx mg) (h_MOST_COINS : mg "MOST_COINS" = some (.int 40 t1)) (h_GREATEST_COIN : mg "GREATEST_COIN" = some (.int 400 t2))
    (C_is_whole : Fn P w K mg base "is_whole" ["thing"] 1 sp_whole) : FnOk P w K mg base CX0 2 f fd ["purse"] (sp_checked K) := by
  refine F.ok sc_checked (fun vs H Q E h => ?_) (fun cdv A outer s H vs Q E hr h => ?_)
  · obtain ⟨t, cs, rfl, _⟩ := h
    rfl
  · obtain ⟨t, cs, rfl, ht, hP, q⟩ := h
    have hS : SqA K H t (ivs cs) := .tpl ht
    refine ⟨_, (pss_cons (ps_if (pt_not (pt_val (pe_callB (isinstK (K := K) rfl) (gl_of (by kernel_rfl)) T.b_isinstance boot_isinstance (pa_cons (pv 0) (pa_cons (pe_ty T.b_tuple boot_tuple) pa_nil))))) pss_never pss_nil)
      (pss_cons (ps_if (pt_not (pt_chain op_le op_le pe_int (pe_callB (lenK (K := K) rfl) (gl_of (by kernel_rfl)) T.b_len boot_len (pa_cons (pv 0) pa_nil)) (pe_num h_MOST_COINS))) pss_never pss_nil)
      (pss_cons (ps_set (i := 1) sc_checked.nd rfl (Or.inl (by kernel_rfl)) pe_int)
      (pss_cons (ps_for PassesOwn.never rfl (pi_seqK (K := K) rfl (pv 0)) (pg_name (i := 2) sc_checked.nd rfl (Or.inl (by kernel_rfl))) (pss_cons (ps_if (pt_not (pt_val (pe_fn C_is_whole (hr.mono (by decide)) (pa_cons (pv 2) pa_nil)))) pss_never pss_nil)
      (pss_cons (ps_if (pt_not (pt_chain op_lt op_le (pv 1) (pv 2) (pe_num h_GREATEST_COIN))) pss_never pss_nil)
      (pss_one (ps_set (i := 1) sc_checked.nd rfl (Or.inl (by kernel_rfl)) (pv 2))))))
      (pss_one (ps_ret (pv 0))))))), ?_⟩
    refine ⟨_, rfl, _, _, _, _, rfl, .tup ht, kit_tt K, _, rfl, ?_⟩
    refine iteF ?_
    have hl : (ivs cs).length = cs.length := List.length_map ..
    have h1 : 1 ≤ cs.length := by
      cases hc : cs with
      | nil => exact absurd hc hP.ne
      | cons => simp
    have h40 := hP.few
    refine ⟨_, rfl, t, ivs cs, rfl, hS, _, _, rfl, rfl, _, rfl, ?_⟩
    rw [hl]
    refine ifT (by simp; omega) ?_
    refine ⟨_, _, rfl, rfl, _, rfl, ?_⟩
    refine ifN (by simp; omega) ?_
    refine ⟨_, rfl, t, rfl, ?_⟩
    refine for_seq (xs := ivs cs) (fun i σ H' => ∃ (b : Int) (x : Option V), σ = [some (.ref t), some (.int b), x] ∧ H' = H ∧ ∀ c, cs[i]? = some c → b < c) hS ⟨0, none, rfl, rfl, fun c hc => ?_⟩ (fun i σ' H' ⟨_, _, _, e, _⟩ => by rw [e]; exact fun _ z => z) ?_ ?_
    · have := hP.lo c (List.mem_of_getElem? hc)
      omega
    · rintro i v σ H' hv ⟨b, x, rfl, rfl, hb⟩
      obtain ⟨c, rfl, hc⟩ := ivs_nth hv
      have c1 := hb c hc
      have c2 := hP.hi c (List.mem_of_getElem? hc)
      refine ⟨_, rfl, c, rfl, _, rfl, ?_⟩
      refine iteF ?_
      refine ⟨_, rfl, _, rfl, _, _, rfl, rfl, _, rfl, ?_⟩
      refine ifT (by simpa using c1) ?_
      refine ⟨_, _, rfl, rfl, _, rfl, ?_⟩
      refine ifN (by simp; omega) ?_
      refine ⟨_, rfl, c, _, rfl, rfl, fun d hd => ?_⟩
      have h2 := (List.getElem?_eq_some_iff.mp hc)
      have h3 := (List.getElem?_eq_some_iff.mp hd)
      obtain ⟨a1, a2⟩ := h2
      obtain ⟨b1, b2⟩ := h3
      have := List.pairwise_iff_getElem.mp hP.rise i (i + 1) a1 b1 (by omega)
      rw [a2, b2] at this
      exact this
    · rintro σ H' ⟨b, x, rfl, rfl, _⟩
      exact ⟨_, rfl, q⟩
end
end CY

set_option Elab.async false
set_option linter.all false
set_option maxRecDepth 100000
set_option maxHeartbeats 4000000
namespace CY
open PySem PySem.Spec PyProof.Rows L2
theorem kept_cons (ks r : List Int) (c : Int) : kept ks (c :: r) = kept (if mk ks c = true then ks else ks ++ [c]) r := by rw [kept]
theorem upd_eta {H H' : Hp} {l : Addr} {o : HO} (h1 : H' l = some o) (h2 : ∀ b, b ≠ l → H' b = H b) : H' = upd H l o := by
  funext b
  by_cases e : b = l
  · rw [e, h1, upd_same]
  · rw [h2 b e, upd_ne e]
noncomputable def mixT (ds : List Int) (c k : Int) (n : Nat) : List V := (List.range (n + 1)).map fun (j : Nat) => V.bl (if (j : Int) < k then mk (ds ++ [c]) j else mk ds j)
theorem mixT_len (ds : List Int) (c k : Int) (n : Nat) : (mixT ds c k n).length = n + 1 := by unfold mixT; simp
theorem mixT_at (ds : List Int) (c k : Int) {n j : Nat} (h : j ≤ n) : (mixT ds c k n)[j]? = some (.bl (if (j : Int) < k then mk (ds ++ [c]) j else mk ds j)) := by
  unfold mixT
  simp [show j < n + 1 by omega]
theorem mixT_first {ds : List Int} {c : Int} (h : Pos ds) (hc : 0 < c) (n : Nat) : mixT ds c c n = tab ds n := by
  unfold mixT tab
  refine List.map_congr_left fun j _ => ?_
  split
  · rename_i hj
    rw [mk_snoc h hc, decide_eq_false (by omega)]
    simp
  · rfl
theorem mixT_last {ds : List Int} {c k : Int} {n : Nat} (h : (n : Int) < k) : mixT ds c k n = tab (ds ++ [c]) n := by
  unfold mixT tab
  refine List.map_congr_left fun j hj => ?_
  rw [if_pos (by have := List.mem_range.mp hj; omega)]
theorem mixT_yes {ds : List Int} {c : Int} {k n : Nat} (h : mk (ds ++ [c]) k = true) : (mixT ds c k n).set k (.bl true) = mixT ds c (k + 1) n := by
  refine List.ext_getElem? fun j => ?_
  rw [List.getElem?_set]
  by_cases hj : j ≤ n
  · rw [mixT_at _ _ _ hj, mixT_at _ _ _ hj, mixT_len]
    by_cases e : k = j
    · subst e
      rw [if_pos rfl, if_pos (by omega), if_pos (by omega), h]
    · rw [if_neg e]
      by_cases z : (j : Int) < k
      · rw [if_pos z, if_pos (by omega)]
      · rw [if_neg z, if_neg (by omega)]
  · have e1 : (mixT ds c k n)[j]? = none := List.getElem?_eq_none (by rw [mixT_len]; omega)
    have e2 : (mixT ds c (k + 1) n)[j]? = none := List.getElem?_eq_none (by rw [mixT_len]; omega)
    rw [e1, e2, mixT_len]
    split
    · rw [if_neg (by omega)]
    · rfl
theorem mixT_no {ds : List Int} {c : Int} {k n : Nat} (h : mk (ds ++ [c]) k = mk ds k) : mixT ds c k n = mixT ds c (k + 1) n := by
  unfold mixT
  refine List.map_congr_left fun j _ => ?_
  by_cases e : j = k
  · subst e
    rw [if_neg (by omega), if_pos (by omega), h]
  · by_cases z : (j : Int) < k
    · rw [if_pos z, if_pos (by omega)]
    · rw [if_neg z, if_neg (by omega)]
theorem tab_nil (n : Nat) : [V.bl true] ++ (List.replicate n [V.bl false]).flatten = tab [] n := by
  induction n with
  | zero => unfold tab; simp [mk_zero]
  | succ n ih =>
    rw [tab_succ, ← ih, List.replicate_succ', List.flatten_append]
    have e : mk [] ((n : Int) + 1) = false := by
      cases q : mk [] ((n : Int) + 1) with
      | false => rfl
      | true =>
        have := made_nil (mk_iff.mp q)
        omega
    rw [e]
    simp
theorem inV_ints (c : Int) : ∀ ns : List Int, inV (.int c) (ivs ns) = decide (c ∈ ns)
  | [] => rfl
  | n :: r => by
    have ih := inV_ints c r
    unfold inV ivs at ih ⊢
    rw [List.map_cons, List.any_cons, ih]
    show ((n == c) || decide (c ∈ r)) = _
    by_cases e : n = c
    · subst e; simp
    · have e' : ¬ c = n := fun z => e z.symm
      simp [e, e']
theorem flat_ivs (ns : List Int) : (ivs ns).all flatV = true := flat_plain (plain_ints ns)
section
variable {P : Program} {w : World} {K : PySem.W.Frag} {mg : Str → Option Value} {base : Heap}
theorem ok_divisor_of {f : Addr} {fd : FuncData} (F : Fun K "divisor_of" "divisor_of" s_divisor_of f fd) (C_checked : Fn P w K mg base "checked" ["purse"] 2 (sp_checked K)) (C_common_divisor : Fn P w K mg base "common_divisor" ["one", "other"] 1 sp_gcd) :
    FnOk P w K mg base CX0 3 f fd ["purse"] (sp_divisor K) := by
  refine F.ok sc_divisor_of (fun vs H Q E h => ?_) (fun cdv A outer s H vs Q E hr h => ?_)
  · obtain ⟨t, cs, rfl, _⟩ := h
    rfl
  · obtain ⟨t, cs, rfl, ht, hP, q⟩ := h
    refine ⟨_, (pss_cons (ps_set (i := 1) sc_divisor_of.nd rfl (Or.inl (by kernel_rfl)) pe_int)
      (pss_cons (ps_for PassesOwn.never rfl (pi_seqK (K := K) rfl (pe_fn C_checked (hr.mono (by decide)) (pa_cons (pv 0) pa_nil))) (pg_name (i := 2) sc_divisor_of.nd rfl (Or.inl (by kernel_rfl))) (pss_one (ps_set (i := 1) sc_divisor_of.nd rfl (Or.inl (by kernel_rfl)) (pe_fn C_common_divisor (hr.mono (by decide)) (pa_cons (pv 1) (pa_cons (pv 2) pa_nil))))))
      (pss_one (ps_ret (pv 1))))), ?_⟩
    refine ⟨_, rfl, t, cs, rfl, ht, hP, t, rfl, ?_⟩
    refine for_seq (xs := ivs cs) (fun i σ H' => ∃ x, σ = [some (.ref t), some (.int (gcdL (cs.take i) : Nat)), x] ∧ H' = H) (.tpl ht) ⟨none, rfl, rfl⟩ (fun i σ' H' ⟨_, _, e⟩ => by rw [e]; exact fun _ z => z) ?_ ?_
    · rintro i v σ H' hv ⟨x, rfl, rfl⟩
      obtain ⟨c, rfl, hc⟩ := ivs_nth hv
      have c1 := hP.lo c (List.mem_of_getElem? hc)
      refine ⟨_, rfl, _, rfl, _, c, rfl, by omega, by omega, some (.int c), ?_, rfl⟩
      have e : gcdL (cs.take (i + 1)) = Nat.gcd (gcdL (cs.take i)) c.toNat := by
        rw [List.take_add_one, hc]
        show List.foldl _ 0 (cs.take i ++ [c]) = _
        rw [List.foldl_append]
        rfl
      rw [e]
      rfl
    · rintro σ H' ⟨x, rfl, rfl⟩
      have e : cs.take (ivs cs).length = cs := by rw [show (ivs cs).length = cs.length from List.length_map .., List.take_length]
      rw [e]
      exact ⟨_, rfl, q⟩
theorem ok_add_coin {f : Addr} {fd : FuncData} (F : Fun K "add_coin" "add_coin" s_add_coin f fd) (T : Tx mg) : FnOk P w K mg base CX0 1 f fd ["made", "coin"] sp_addcoin := by
  refine F.ok sc_add_coin (fun vs H Q E h => ?_) (fun cdv A outer s H vs Q E hr h => ?_)
  · obtain ⟨l, ds, n, c, rfl, _⟩ := h
    rfl
  · obtain ⟨l, ds, n, c, rfl, hl, hp, hc, hn, hc2, q⟩ := h
    refine ⟨_, (pss_one (ps_for PassesOwn.never rfl (pi_range2 (gl_of (by kernel_rfl)) T.b_range (pa_cons (pv 1) (pa_cons (pe_callB (lenK (K := K) rfl) (gl_of (by kernel_rfl)) T.b_len boot_len (pa_cons (pv 0) pa_nil)) pa_nil))) (pg_name (i := 2) sc_add_coin.nd rfl (Or.inl (by kernel_rfl))) (pss_one (ps_if (pt_val (pe_ix (ix_anyK (K := K) rfl) (pv 0) (pe_op op_sub (pv 2) (pv 1)) (fun _ _ => rfl))) (pss_one (ps_asg pe_bl (pg_sub (pv 0) (pv 2) set_list))) pss_nil)))), ?_⟩
    refine ⟨_, rfl, _, rfl, l, _, rfl, .inl (.of hl), c, _, rfl, ⟨by omega, by omega, by omega, by rw [tab_len]; omega⟩, ?_⟩
    rw [tab_len]
    generalize hN : (((n + 1 : Nat) : Int) - c).toNat = N
    refine for_range (lo := c) (n := N) (fun i σ H' => ∃ x, σ = [some (.ref l), some (.int c), x] ∧ H' l = some (.lst (mixT ds c (c + i) n)) ∧ ∀ b, b ≠ l → H' b = H b) ⟨none, rfl, ?_, fun _ _ => rfl⟩ ?_ ?_
    · rw [show c + ((0 : Nat) : Int) = c by simp, mixT_first hp hc]
      exact hl
    · rintro i σ H1 hi ⟨x, rfl, h1, h2⟩
      have ek : c + (i : Int) = (((c.toNat + i : Nat)) : Int) := by omega
      have hk : c.toNat + i ≤ n := by omega
      have hm : mk (ds ++ [c]) ((c.toNat + i : Nat) : Int) = (mk ds ((c.toNat + i : Nat) : Int) || mk (ds ++ [c]) (i : Int)) := by
        rw [mk_snoc hp hc, decide_eq_true (by omega), show (((c.toNat + i : Nat)) : Int) - c = (i : Int) by omega]
        simp
      refine ⟨_, rfl, _, rfl, _, rfl, _, _, rfl, rfl, l, _, _, .bl (mk (ds ++ [c]) (i : Int)), rfl, rfl, .lst h1, ?_, _, rfl, ?_⟩
      · rw [show c + (i : Int) - c = ((i : Nat) : Int) by omega]
        rw [atI_nat (mixT_at ds c (c + i) (show i ≤ n by omega)), if_pos (by omega)]
      · refine ite2 (fun h3 => ?_) (fun h3 => ?_)
        · refine ⟨_, rfl, _, rfl, l, _, _, c.toNat + i, rfl, rfl, h1, ?_, ⟨_, rfl, ?_, fun b hb => by rw [upd_ne hb]; exact h2 b hb⟩⟩
          · rw [mixT_len]
            unfold ixN
            rw [if_pos (by omega), if_pos (by omega)]
            congr 1
            omega
          · rw [upd_same, ek, mixT_yes (by rw [hm, h3]; simp)]
            congr 3
            omega
        · refine ⟨_, rfl, ?_, h2⟩
          rw [h1, ek, mixT_no (by rw [hm, Bool.eq_false_iff.mpr h3]; simp)]
          congr 3
          omega
    · rintro σ H1 ⟨x, rfl, h1, h2⟩
      have e := upd_eta h1 h2
      rw [mixT_last (by omega)] at e
      show Q .non H1
      rw [e]
      exact q
theorem ok_needed_of {f : Addr} {fd : FuncData} (F : Fun K "needed_of" "needed_of" s_needed_of f fd) (C_add_coin : Fn P w K mg base "add_coin" ["made", "coin"] 1 sp_addcoin) :
    FnOk P w K mg base CX0 2 f fd ["coins"] (sp_needed K) := by
  refine F.ok sc_needed_of (fun vs H Q E h => ?_) (fun cdv A outer s H vs Q E hr h => ?_)
  · obtain ⟨t, cs, rfl, _⟩ := h
    rfl
  · obtain ⟨t, cs, rfl, ht, hne, hpos, hrise, hlen, hmax, q⟩ := h
    refine ⟨_, (pss_cons (ps_set (i := 1) sc_needed_of.nd rfl (Or.inl (by kernel_rfl)) (pe_op op_cat (pe_lst (pa_cons pe_bl pa_nil)) (pe_op op_rep (pe_lst (pa_cons pe_bl pa_nil)) (pe_ix (ix_anyK (K := K) rfl) (pv 0) (pe_un un_neg pe_int) (fun _ _ => rfl)))))
      (pss_cons (ps_set (i := 2) sc_needed_of.nd rfl (Or.inl (by kernel_rfl)) (pe_lst pa_nil))
      (pss_cons (ps_for PassesOwn.never rfl (pi_seqK (K := K) rfl (pv 0)) (pg_name (i := 3) sc_needed_of.nd rfl (Or.inl (by kernel_rfl))) (pss_one (ps_if (pt_not (pt_val (pe_ix (ix_anyK (K := K) rfl) (pv 1) (pv 3) (fun _ _ => rfl)))) (pss_cons (ps_expr (pe_bm PySem.F.plainAttrs_list PySem.F.slot_list_append PySem.F.type_list_append mt_append (pv 2) (pa_cons (pv 3) pa_nil)))
      (pss_one (ps_expr (pe_fn C_add_coin (hr.mono (by decide)) (pa_cons (pv 1) (pa_cons (pv 3) pa_nil)))))) pss_nil)))
      (pss_one (ps_ret (pv 2)))))), ?_⟩
    have hS : SqA K H t (ivs cs) := ht.elim .lst .tpl
    have hlast := List.getLast_mem hne
    have l1 := hpos _ hlast
    have l2 := hmax _ hlast
    have hle : ∀ c ∈ cs, c ≤ cs.getLast hne := fun c hc => by
      have e := List.dropLast_concat_getLast hne
      rw [← e] at hc
      rcases List.mem_append.mp hc with z | z
      · have := hrise
        rw [← e] at this
        exact (List.pairwise_append.mp this).2.2 c z _ List.mem_cons_self
      · rw [List.mem_singleton.mp z]
        exact Int.le_refl _
    generalize hg : cs.getLast hne = g at l1 l2 hle
    have hgI : atI (ivs cs) (-1) = some (.int g) := by rw [getI_last hne, hg]
    refine ⟨by decide, fun p1 hp1 => ⟨by decide, fun p2 hp2 => ?_⟩⟩
    have s1 : Same H (upd H p1 (.lst [V.bl true])) := (Same.refl H).put hp1
    have s2 := s1.put (o := .lst [V.bl false]) hp2
    have n12 : p1 ≠ p2 := fun z => by rw [← z, upd_same] at hp2; cases hp2
    refine ⟨_, rfl, 1, rfl, t, _, _, _, rfl, rfl, s2.any hS, hgI, p2, _, _, rfl, rfl, upd_same, by omega, by omega, ?_, fun p3 hp3 => ?_⟩
    · show 1 * g.toNat ≤ sizeLine
      rw [sizeLine_eq]
      omega
    have s3 := s2.put (o := .lst (List.replicate g.toNat [V.bl false]).flatten) hp3
    have n13 : p1 ≠ p3 := fun z => by
      rw [← z, upd_ne n12, upd_same] at hp3
      cases hp3
    refine ⟨p1, p3, [V.bl true], _, rfl, rfl, by rw [upd_ne n13, upd_ne n12, upd_same], upd_same, ?_, fun lm hlm => ?_⟩
    · have e : ((List.replicate g.toNat [V.bl false]).flatten).length = g.toNat := by simp
      rw [e, sizeLine_eq]
      show 1 + g.toNat ≤ _
      omega
    rw [tab_nil]
    have s4 := s3.put (o := .lst (tab [] g.toNat)) hlm
    have hlmH : H lm = none := s3.free hlm
    refine ⟨by decide, fun lf hlf => ?_⟩
    have s5 := s4.put (o := .lst []) hlf
    have nlm : lm ≠ lf := fun z => by rw [← z, upd_same] at hlf; cases hlf
    have hlfH : H lf = none := s4.free hlf
    refine ⟨_, rfl, t, rfl, ?_⟩
    generalize hH0 : upd (upd (upd (upd (upd H p1 (.lst [V.bl true])) p2 (.lst [V.bl false])) p3 (.lst (List.replicate g.toNat [V.bl false]).flatten)) lm (.lst (tab [] g.toNat))) lf (.lst []) = H0 at s5
    have hm0 : H0 lm = some (.lst (tab [] g.toNat)) := by rw [← hH0, upd_ne nlm, upd_same]
    have hf0 : H0 lf = some (.lst []) := by rw [← hH0, upd_same]
    refine for_seq (xs := ivs cs) (fun i σ H' => ∃ (x : Option V) (ks : List Int), σ = [some (.ref t), some (.ref lm), some (.ref lf), x] ∧ (∀ b, b ≠ lm → b ≠ lf → ∀ o, H0 b = some o → H' b = some o) ∧ H' lm = some (.lst (tab ks g.toNat)) ∧ H' lf = some (.lst (ivs ks)) ∧ Pos ks ∧ ks.length ≤ i ∧
      kept [] cs = kept ks (cs.drop i) ∧ t ≠ lm ∧ t ≠ lf) (s5.any hS) ⟨none, [], rfl, fun _ _ _ _ e => e, hm0, hf0, fun c hc => (by cases hc), Nat.le_refl _, rfl, ?_, ?_⟩ ?_ ?_ ?_
    · exact ht.elim (fun z => ne_of_none z hlmH) fun z => ne_of_none z hlmH
    · exact ht.elim (fun z => ne_of_none z hlfH) fun z => ne_of_none z hlfH
    · rintro i σ' H' ⟨x, ks, _, k, _, _, _, _, _, n1, n2⟩ o e
      exact k t n1 n2 o e
    · rintro i v σ H' hv ⟨x, ks, rfl, k, h1, h2, hk, hdl, hd, n1, n2⟩
      obtain ⟨c, rfl, hc⟩ := ivs_nth hv
      have hcm := List.mem_of_getElem? hc
      have c1 := hpos c hcm
      have c2 := hle c hcm
      have e1 : cs.drop i = c :: cs.drop (i + 1) := by
        obtain ⟨a1, a2⟩ := List.getElem?_eq_some_iff.mp hc
        rw [← a2]
        exact List.drop_eq_getElem_cons a1
      rw [e1, kept_cons] at hd
      have hi : i < cs.length := (List.getElem?_eq_some_iff.mp hc).1
      refine ⟨_, rfl, _, rfl, lm, _, c, .bl (mk ks c), rfl, rfl, .lst h1, tab_atI ks (by omega) (by omega), _, rfl, ?_⟩
      by_cases h3 : mk ks c = true
      · rw [if_pos h3] at hd
        refine ifN h3 ?_
        exact ⟨some (.int c), ks, rfl, k, h1, h2, hk, by omega, hd, n1, n2⟩
      · rw [if_neg h3] at hd
        have h3' := Bool.eq_false_iff.mpr h3
        refine ifT (by rw [h3']; rfl) ?_
        refine ⟨_, rfl, .inl ⟨rfl, _, .of h2⟩, _, rfl, lf, ivs ks, .int c, rfl, rfl, h2, ?_, ?_⟩
        · rw [List.length_map, sizeLine_eq]
          omega
        have hn : (upd H' lf (.lst (ivs ks ++ [V.int c]))) lm = some (.lst (tab ks g.toNat)) := by rw [upd_ne nlm]; exact h1
        refine ⟨_, rfl, _, rfl, lm, ks, g.toNat, c, rfl, hn, hk, by omega, by omega, by omega, some (.int c), ks ++ [c], rfl, fun b b1 b2 o e => ?_, upd_same, ?_, ?_, ?_, hd, n1, n2⟩
        · rw [upd_ne b1, upd_ne b2]
          exact k b b1 b2 o e
        · rw [upd_ne (Ne.symm nlm), upd_same]
          unfold ivs
          rw [List.map_append]
          rfl
        · intro x hx
          rcases List.mem_append.mp hx with z | z
          · exact hk x z
          · rw [List.mem_singleton.mp z]
            omega
        · rw [List.length_append]
          simp
          omega
    · rintro σ H' ⟨x, ks, rfl, k, h1, h2, hk, hdl, hd, n1, n2⟩
      have e1 : cs.drop (ivs cs).length = [] := by
        rw [show (ivs cs).length = cs.length from List.length_map .., List.drop_length]
      rw [e1] at hd
      have e2 : kept [] cs = ks := by
        rw [hd]
        rfl
      refine ⟨_, rfl, q lf H' (fun b o e => ?_) hlfH (by rw [h2, e2])⟩
      exact k b (ne_of_none e hlmH) (ne_of_none e hlfH) o (s5 b o e)
theorem ok_least_purse {f : Addr} {fd : FuncData} (F : Fun K "least_purse" "least_purse" s_least_purse f fd) (T : Tx mg) (C_checked : Fn P w K mg base "checked" ["purse"] 2 (sp_checked K)) (C_needed_of : Fn P w K mg base "needed_of" ["coins"] 2 (sp_needed K)) : FnOk P w K mg base CX0 4 f fd ["purse"] sp_least := by
  refine F.ok sc_least_purse (fun vs H Q E h => ?_) (fun cdv A outer s H vs Q E hr h => ?_)
  · obtain ⟨t, cs, rfl, _⟩ := h
    rfl
  · obtain ⟨t, cs, rfl, ht, hP, q⟩ := h
    refine ⟨_, (pss_one (ps_ret (pe_callTy (tupleK (K := K) rfl) (gl_of (by kernel_rfl)) T.b_tuple boot_tuple (pa_cons (pe_fn C_needed_of (hr.mono (by decide)) (pa_cons (pe_fn C_checked (hr.mono (by decide)) (pa_cons (pv 0) pa_nil)) pa_nil)) pa_nil)))), ?_⟩
    refine ⟨_, rfl, t, cs, rfl, ht, hP, t, cs, rfl, .inr ht, hP.ne, hP.pos, rise_le hP.rise, by have := hP.few; omega, fun c hc => by have := hP.hi c hc; omega, fun l H1 s1 hn hl => ?_⟩
    rw [kept_purse hP] at hl
    refine ⟨l, _, rfl, .inl ⟨.of hl, fun t' ht' => ?_⟩⟩
    exact q t' _ (s1.put ht') upd_same
end
end CY

set_option Elab.async false
set_option linter.all false
set_option maxRecDepth 100000
set_option maxHeartbeats 4000000
namespace CY
open PySem PySem.Spec PyProof.Rows L2
theorem rngV_nth {lo : Int} {n i : Nat} {v : V} (h : (rngV lo n)[i]? = some v) : i < n ∧ v = .int (lo + i) := by
  have hi : i < n := by
    have := (List.getElem?_eq_some_iff.mp h).1
    rw [rngV_len] at this
    exact this
  refine ⟨hi, ?_⟩
  unfold rngV at h
  simp [hi] at h
  exact h.symm
section
variable {P : Program} {w : World} {K : PySem.W.Frag} {mg : Str → Option Value} {base : Heap}
def sp_law (K : PySem.W.Frag) : Sp := fun vs H Q _ => ∃ (a : Addr) (ns : List Int), vs = [.ref a] ∧ SqL K H a (ivs ns) ∧ ns.length ≤ 63 ∧ ∀ H', Q (.bl true) H'
theorem ivs_filter (cs : List Int) (p : V → Bool) : ((ivs cs).filter p).map id = ivs (cs.filter fun c => p (.int c)) := by
  rw [List.map_id]
  unfold ivs
  rw [List.filter_map]
  rfl
end
end CY

set_option Elab.async false
set_option linter.all false
set_option maxRecDepth 100000
set_option maxHeartbeats 4000000
namespace CY
open PySem PySem.Spec PyProof.Rows L2
theorem cutD (xs : List V) (k : Nat) : cutV xs (some (k : Int)) none = xs.drop k := by
  unfold cutV
  rw [HT.sIx_nat, HT.sIx_none]
  by_cases h : k ≤ xs.length
  · rw [Nat.min_eq_left h, List.take_of_length_le (by rw [List.length_drop]; omega)]
  · rw [Nat.min_eq_right (by omega), List.drop_length, List.drop_of_length_le (by omega)]
    simp
section
variable {P : Program} {w : World} {K : PySem.W.Frag} {mg : Str → Option Value} {base : Heap}
theorem ok_add_once {f : Addr} {fd : FuncData} (F : Fun K "add_once" "add_once" s_add_once f fd) (T : Tx mg) : FnOk P w K mg base CX0 1 f fd ["least", "rest", "coin"] sp_addonce := by
  refine F.ok sc_add_once (fun vs H Q E h => ?_) (fun cdv A outer s H vs Q E hr h => ?_)
  · obtain ⟨l, L, m, c, r, rfl, _⟩ := h
    rfl
  · obtain ⟨l, L, m, c, r, rfl, hl, hm, h0, hrm, q⟩ := h
    refine ⟨_, (pss_cons (ps_set (i := 3) sc_add_once.nd rfl (Or.inl (by kernel_rfl)) (pe_op op_mod (pe_op op_add (pv 1) (pv 2)) (pe_callB (lenK (K := K) rfl) (gl_of (by kernel_rfl)) T.b_len boot_len (pa_cons (pv 0) pa_nil))))
      (pss_cons (ps_if (pt_cmp (pc_notN (pe_ix (ix_anyK (K := K) rfl) (pv 0) (pv 1) (fun _ _ => rfl)))) (pss_cons (ps_set (i := 4) sc_add_once.nd rfl (Or.inl (by kernel_rfl)) (pe_op op_add (pe_ix (ix_anyK (K := K) rfl) (pv 0) (pv 1) (fun _ _ => rfl)) (pv 2)))
      (pss_one (ps_if (PW.pt (pw_or (pt_cmp (pc_isN (pe_ix (ix_anyK (K := K) rfl) (pv 0) (pv 3) (fun _ _ => rfl)))) (pw_or1 (pt_cmpR op_lt (pv 4) (pe_ix (ix_anyK (K := K) rfl) (pv 0) (pv 3) (fun _ _ => rfl)) (nomark _))))) (pss_one (ps_asg (pv 4) (pg_sub (pv 0) (pv 3) set_list))) pss_nil))) pss_nil)
      (pss_one (ps_ret (pv 3))))), ?_⟩
    have ho : (r + c) % m < L.length := by rw [hm]; exact Nat.mod_lt _ h0
    have hrl : r < L.length := by omega
    have eo : ((r : Int) + (c : Int)) % ((ovs L).length : Int) = (((r + c) % m : Nat) : Int) := by
      rw [ovs_len, hm]
      push_cast
      rfl
    refine ⟨_, rfl, _, rfl, _, _, rfl, rfl, _, rfl, l, _, rfl, .inl (.of hl), _, _, rfl, rfl, by rw [ovs_len]; omega, ?_⟩
    dsimp only
    rw [eo]
    refine ⟨_, rfl, _, rfl, l, _, _, _, rfl, rfl, .lst hl, ov_at hrl, _, rfl, ?_⟩
    unfold relax at q
    cases e1 : gv L r with
    | none =>
      rw [e1] at q
      dsimp only at q
      rw [upd_id hl] at q
      refine iteF ?_
      exact ⟨_, rfl, q⟩
    | some x =>
      rw [e1] at q
      dsimp only at q
      refine iteT ?_
      refine ⟨_, rfl, _, rfl, l, _, _, _, rfl, rfl, .lst hl, (ov_at hrl).trans (by rw [e1]; rfl), _, rfl, _, _, rfl, rfl, ?_⟩
      refine ⟨_, rfl, _, rfl, l, _, _, _, rfl, rfl, .lst hl, ov_at ho, _, rfl, ?_⟩
      have st : ∀ y : Nat, (ovs L).set ((r + c) % m) (.int (y : Int)) = ovs (L.set ((r + c) % m) (some y)) := fun y => by
        unfold ovs
        rw [List.map_set]
        rfl
      have ec : (x : Int) + (c : Int) = ((x + c : Nat) : Int) := by push_cast; rfl
      cases e2 : gv L ((r + c) % m) with
      | none =>
        rw [e2] at q
        dsimp only at q
        refine iteT ?_
        refine ⟨_, rfl, _, rfl, _, rfl, l, _, _, _, rfl, rfl, hl, ixN_nat (by rw [ovs_len]; exact ho), ?_⟩
        rw [← st, ← ec] at q
        exact ⟨_, rfl, q⟩
      | some y =>
        rw [e2] at q
        dsimp only at q
        refine iteF ?_
        refine ⟨_, rfl, _, rfl, _, rfl, l, _, _, _, rfl, rfl, .lst hl, (ov_at ho).trans (by rw [e2]; rfl), _, _, rfl, rfl, _, rfl, ?_⟩
        refine ite2 (fun h1 => ?_) (fun h1 => ?_)
        · have h2 : x + c < y := by
            have := of_decide_eq_true h1
            omega
          rw [if_pos h2] at q
          refine ⟨_, rfl, _, rfl, _, rfl, l, _, _, _, rfl, rfl, hl, ixN_nat (by rw [ovs_len]; exact ho), ?_⟩
          rw [← st, ← ec] at q
          exact ⟨_, rfl, q⟩
        · have h2 : ¬ x + c < y := fun z => h1 (decide_eq_true (by omega))
          rw [if_neg h2, upd_id hl] at q
          exact ⟨_, rfl, q⟩
theorem ok_add_coin_to_least {f : Addr} {fd : FuncData} (F : Fun K "add_coin_to_least" "add_coin_to_least" s_add_coin_to_least f fd) (T : Tx mg) (C_common_divisor : Fn P w K mg base "common_divisor" ["one", "other"] 1 sp_gcd) (C_add_once : Fn P w K mg base "add_once" ["least", "rest", "coin"] 1 sp_addonce) :
    FnOk P w K mg base CX0 2 f fd ["least", "coin"] sp_addleast := by
  refine F.ok sc_add_coin_to_least (fun vs H Q E h => ?_) (fun cdv A outr s H vs Q E hr h => ?_)
  · obtain ⟨l, L, m, c, rfl, _⟩ := h
    rfl
  · obtain ⟨l, L, m, c, rfl, hl, hm, h0, hm4, hc0, hc4, q⟩ := h
    refine ⟨_, (pss_cons (ps_set (i := 2) sc_add_coin_to_least.nd rfl (Or.inl (by kernel_rfl)) (pe_fn C_common_divisor (hr.mono (by decide)) (pa_cons (pe_callB (lenK (K := K) rfl) (gl_of (by kernel_rfl)) T.b_len boot_len (pa_cons (pv 0) pa_nil)) (pa_cons (pv 1) pa_nil))))
      (pss_cons (ps_set (i := 3) sc_add_coin_to_least.nd rfl (Or.inl (by kernel_rfl)) (pe_op op_mul pe_int (pe_op op_fdiv (pe_callB (lenK (K := K) rfl) (gl_of (by kernel_rfl)) T.b_len boot_len (pa_cons (pv 0) pa_nil)) (pv 2))))
      (pss_one (ps_for PassesOwn.never rfl (pi_range1 (gl_of (by kernel_rfl)) T.b_range (pa_cons (pv 2) pa_nil)) (pg_name (i := 4) sc_add_coin_to_least.nd rfl (Or.inl (by kernel_rfl))) (pss_cons (ps_set (i := 5) sc_add_coin_to_least.nd rfl (Or.inl (by kernel_rfl)) (pv 4))
      (pss_one (ps_for PassesOwn.never rfl (pi_range1 (gl_of (by kernel_rfl)) T.b_range (pa_cons (pv 3) pa_nil)) (pg_name (i := 6) sc_add_coin_to_least.nd rfl (Or.inl (by kernel_rfl))) (pss_one (ps_set (i := 5) sc_add_coin_to_least.nd rfl (Or.inl (by kernel_rfl)) (pe_fn C_add_once (hr.mono (by decide)) (pa_cons (pv 0) (pa_cons (pv 5) (pa_cons (pv 1) pa_nil))))))))))))), ?_⟩
    have hg : 0 < Nat.gcd m c := Nat.gcd_pos_of_pos_left _ h0
    have hgm : Nat.gcd m c ≤ m := Nat.le_of_dvd h0 (Nat.gcd_dvd_left m c)
    have el : (ovs L).length = m := by rw [ovs_len, hm]
    refine ⟨_, rfl, l, _, rfl, .inl (.of hl), _, rfl, _, _, rfl, by rw [el]; omega, by omega, ?_⟩
    dsimp only
    rw [el, Int.toNat_natCast, Int.toNat_natCast]
    refine ⟨_, rfl, l, _, rfl, .inl (.of hl), _, rfl, _, _, rfl, rfl, ⟨by omega, by omega⟩, _, _, rfl, rfl, ?_, ?_⟩
    · exact .inl ⟨by decide, by decide⟩
    have e2 : 2 * ((m : Int) / ((Nat.gcd m c : Nat) : Int)) = ((2 * (m / Nat.gcd m c) : Nat) : Int) := by
      rw [← Int.natCast_ediv, Int.natCast_mul]
      rfl
    have hq : m / Nat.gcd m c ≤ m := Nat.div_le_self _ _
    dsimp only
    rw [el, e2]
    generalize hN : 2 * (m / Nat.gcd m c) = N at q ⊢
    have hNb : N ≤ 16000 := by omega
    generalize hG : Nat.gcd m c = G at q hg hgm ⊢
    refine ⟨_, rfl, (G : Int), rfl, by omega, by omega, ?_⟩
    rw [show ((G : Int)).toNat = G by omega]
    refine for_range (lo := 0) (n := G) (fun i σ H' => ∃ x y z, σ = [some (.ref l), some (.int (c : Int)), some (.int (G : Int)), some (.int (N : Int)), x, y, z] ∧ H' = upd H l (.lst (ovs (outer m c N L i)))) ⟨none, none, none, rfl, (upd_id hl).symm⟩ ?_ ?_
    · rintro i σ H1 hi ⟨x, y, z, rfl, rfl⟩
      refine ⟨_, rfl, _, rfl, (N : Int), rfl, by omega, by omega, ?_⟩
      rw [show ((N : Int)).toNat = N by omega, show (0 : Int) + (i : Int) = (i : Int) by omega]
      have lo : (outer m c N L i).length = m := by rw [outer_len, hm]
      refine for_range (lo := 0) (n := N) (fun k σ H' => ∃ x z, σ = [some (.ref l), some (.int (c : Int)), some (.int (G : Int)), some (.int (N : Int)), x, some (.int ((pos m c i k : Nat) : Int)), z] ∧ H' = upd H l (.lst (ovs (runs m c i (outer m c N L i) k)))) ⟨some (.int (i : Int)), z, ?_, rfl⟩ ?_ ?_
      · have e0 : pos m c i 0 = i := by
          unfold pos
          rw [Nat.zero_mul, Nat.add_zero, Nat.mod_eq_of_lt (by omega)]
        rw [e0]
        rfl
      · rintro k σ H1 hk ⟨x, z, rfl, rfl⟩
        have lr : (runs m c i (outer m c N L i) k).length = m := by rw [runs_len, lo]
        refine ⟨_, rfl, _, rfl, _, rfl, l, runs m c i (outer m c N L i) k, m, c, pos m c i k, rfl, upd_same, lr, h0, Nat.mod_lt _ h0, x, some (.int ((0 : Int) + (k : Int))), ?_, ?_⟩
        · rw [pos_succ]
          rfl
        · rw [upd_upd]
          rfl
      · rintro σ H1 ⟨x, z, rfl, rfl⟩
        exact ⟨_, _, _, rfl, rfl⟩
    · rintro σ H1 ⟨x, y, z, rfl, rfl⟩
      exact q
theorem ok_least_sums_by {f : Addr} {fd : FuncData} (F : Fun K "least_sums_by" "least_sums_by" s_least_sums_by f fd) (C_add_coin_to_least : Fn P w K mg base "add_coin_to_least" ["least", "coin"] 2 sp_addleast) :
    FnOk P w K mg base CX0 3 f fd ["number", "coins"] sp_lsby := by
  refine F.ok sc_least_sums_by (fun vs H Q E h => ?_) (fun cdv A outr s H vs Q E hr h => ?_)
  · obtain ⟨t, m, cs, rfl, _⟩ := h
    rfl
  · obtain ⟨t, c0, r0, rfl, ht, c1, c4, hcs, q⟩ := h
    refine ⟨_, (pss_cons (ps_set (i := 2) sc_least_sums_by.nd rfl (Or.inl (by kernel_rfl)) (pe_op op_rep (pe_lst (pa_cons pe_non pa_nil)) (pv 0)))
      (pss_cons (ps_asg pe_int (pg_sub (pv 2) pe_int set_list))
      (pss_cons (ps_for PassesOwn.never rfl (pi_seqK (K := K) rfl (pv 1)) (pg_name (i := 3) sc_least_sums_by.nd rfl (Or.inl (by kernel_rfl))) (pss_one (ps_expr (pe_fn C_add_coin_to_least (hr.mono (by decide)) (pa_cons (pv 2) (pa_cons (pv 3) pa_nil))))))
      (pss_one (ps_ret (pv 2)))))), ?_⟩
    refine ⟨by show 1 ≤ sizeLine; decide, fun l1 hl1 => ?_⟩
    have s1 := (Same.refl H).put (o := .lst [.non]) hl1
    refine ⟨_, rfl, l1, c0, [.non], rfl, rfl, upd_same, by omega, by omega, ?_, fun l2 hl2 => ?_⟩
    · show 1 * c0.toNat ≤ sizeLine
      rw [sizeLine_eq]
      omega
    have el : (List.replicate c0.toNat [V.non]).flatten = ovs (List.replicate c0.toNat none) := by
      unfold ovs
      rw [List.map_replicate]
      induction c0.toNat with
      | zero => rfl
      | succ n ih => rw [List.replicate_succ, List.flatten_cons, ih, List.replicate_succ]; rfl
    rw [el]
    have s2 := s1.put (o := .lst (ovs (List.replicate c0.toNat none))) hl2
    refine ⟨_, rfl, l2, ovs (List.replicate c0.toNat none), 0, 0, rfl, rfl, upd_same, ixN_nat (o := 0) (by rw [ovs_len, List.length_replicate]; omega), ?_⟩
    have e3 : (ovs (List.replicate c0.toNat none)).set 0 (.int 0) = ovs ((List.replicate c0.toNat none).set 0 (some 0)) := by
      unfold ovs
      rw [List.map_set]
      rfl
    rw [e3, upd_upd]
    have hl2' := s1.free hl2
    have s3 := s1.put (o := .lst (ovs ((List.replicate c0.toNat none).set 0 (some 0)))) hl2
    have npl : t ≠ l2 := ne_of_none ht hl2'
    refine ⟨_, rfl, t, rfl, ?_⟩
    refine for_seq (xs := ivs r0) (fun i σ H' => ∃ x L, σ = [some (.int c0), some (.ref t), some (.ref l2), x] ∧ H' l2 = some (.lst (ovs L)) ∧ LT (c0 :: r0.take i) c0.toNat L ∧ ∀ b, b ≠ l2 → H' b = (upd (upd H l1 (.lst [.non])) l2 (.lst (ovs ((List.replicate c0.toNat none).set 0 (some 0))))) b) (.tpl (s3 _ _ ht)) ⟨none, _, rfl, upd_same, LT.first c1, fun _ _ => rfl⟩ (fun i σ' H' ⟨_, _, _, _, _, z⟩ => fun o' e => by rw [z _ npl]; exact e) ?_ ?_
    · rintro i v σ H1 hv ⟨x, L, rfl, h1, hT, hb⟩
      obtain ⟨c, rfl, hc⟩ := ivs_nth hv
      obtain ⟨k1, k4⟩ := hcs c (List.mem_of_getElem? hc)
      have ec : c = ((c.toNat : Nat) : Int) := by omega
      refine ⟨_, rfl, _, rfl, l2, L, c0.toNat, c.toNat, by rw [← ec]; rfl, h1, hT.len, by omega, by omega, by omega, by omega, ?_⟩
      refine ⟨some (.int c), _, rfl, upd_same, ?_, fun b nb => by rw [upd_ne nb]; exact hb b nb⟩
      have := hT.add (c := c.toNat) (fun d hd => ?_) (by omega) (by omega)
      · have e4 : c0 :: r0.take (i + 1) = (c0 :: r0.take i) ++ [((c.toNat : Nat) : Int)] := by
          rw [List.take_add_one, hc, ← ec]
          rfl
        rw [e4]
        exact this
      · rcases List.mem_cons.mp hd with z | z
        · omega
        · have := (hcs d (List.mem_of_mem_take z)).1
          omega
    · rintro σ H1 ⟨x, L, rfl, h1, hT, hb⟩
      refine ⟨_, rfl, q l2 L H1 (fun b o e => ?_) (s1.free hl2) h1 ?_⟩
      · rw [hb b (ne_of_none e hl2'), s3 _ _ e]
      · have e5 : r0.take (ivs r0).length = r0 := by rw [show (ivs r0).length = r0.length from List.length_map .., List.take_length]
        rw [e5] at hT
        exact hT
theorem ok_least_sums {f : Addr} {fd : FuncData} (F : Fun K "least_sums" "least_sums" s_least_sums f fd) (C_checked : Fn P w K mg base "checked" ["purse"] 2 (sp_checked K)) (C_least_sums_by : Fn P w K mg base "least_sums_by" ["number", "coins"] 3 sp_lsby) :
    FnOk P w K mg base CX0 4 f fd ["purse"] sp_lsums := by
  refine F.ok sc_least_sums (fun vs H Q E h => ?_) (fun cdv A outr s H vs Q E hr h => ?_)
  · obtain ⟨t, cs, rfl, _⟩ := h
    rfl
  · obtain ⟨t, cs, rfl, ht, hP, q⟩ := h
    refine ⟨_, (pss_cons (ps_expr (pe_fn C_checked (hr.mono (by decide)) (pa_cons (pv 0) pa_nil)))
      (pss_one (ps_ret (pe_fn C_least_sums_by (hr.mono (by decide)) (pa_cons (pe_ix (ix_anyK (K := K) rfl) (pv 0) pe_int (fun _ _ => rfl)) (pa_cons (pe_slice (sl_tupK (K := K) rfl) (pv 0) (po_some pe_int) po_none) pa_nil)))))), ?_⟩
    obtain ⟨c0, r0, ecs⟩ : ∃ c r, cs = c :: r := by
      cases h : cs with
      | nil => exact absurd h hP.ne
      | cons c r => exact ⟨c, r, rfl⟩
    have c1 := hP.lo c0 (by rw [ecs]; exact List.mem_cons_self)
    have c4 := hP.hi c0 (by rw [ecs]; exact List.mem_cons_self)
    have a0 : atI (ivs cs) 0 = some (.int c0) := by rw [ecs]; exact atI_nat (j := 0) rfl
    refine ⟨_, rfl, t, cs, rfl, ht, hP, _, rfl, t, ivs cs, 0, .int c0, rfl, rfl, .tpl ht, a0, _, rfl, _, rfl, t, ivs cs, rfl, .of ht, ?_, fun p hp => ?_⟩
    · rw [ecs, show (1 : Int) = ((1 : Nat) : Int) from rfl, HT.sIx_nat]
      rintro ⟨z, _⟩
      have : 1 ≤ (ivs (c0 :: r0)).length := by simp
      omega
    have ed : cutV (ivs cs) (some 1) none = ivs r0 := by
      rw [show (1 : Int) = ((1 : Nat) : Int) from rfl, cutD, ecs]
      rfl
    rw [ed]
    refine ⟨p, c0, r0, rfl, upd_same, c1, by omega, fun c hc => ?_, fun l L H' s' hl h' hT => ?_⟩
    · have hc : c ∈ cs := by rw [ecs]; exact List.mem_cons_of_mem _ hc
      exact ⟨hP.lo c hc, hP.hi c hc⟩
    · have s0 : Same H (upd H p (.tup (ivs r0))) := (Same.refl H).put hp
      have em : m0 cs = c0.toNat := by rw [ecs]; rfl
      refine q l L H' (s0.trans s') (s0.free hl) h' ?_
      rw [em, ecs]
      exact hT
end
end CY

set_option Elab.async false
set_option linter.all false
set_option maxRecDepth 100000
set_option maxHeartbeats 4000000
namespace CY
open PySem PySem.Spec PyProof.Rows L2
theorem Purse.bounds {m : Int} {cs : List Int} (h : Purse m cs) : 1 ≤ CY.m0 cs ∧ ((CY.m0 cs : Nat) : Int) ≤ m ∧ 1 ≤ CY.mx cs ∧ ((CY.mx cs : Nat) : Int) ≤ m := by
  have h1 := h.lo _ h.m0.1
  have h2 := h.hi _ h.m0.1
  have e := h.mx.1
  have h3 := h.lo _ (List.getLast_mem h.ne)
  have h4 := h.hi _ (List.getLast_mem h.ne)
  rw [← e] at h3 h4
  omega
theorem Purse.far {m : Nat} {cs : List Int} (h : Purse (m : Int) cs) : 1 ≤ CY.far cs ∧ CY.far cs ≤ m * m := by
  obtain ⟨a, b, c, d⟩ := h.bounds
  refine ⟨Nat.mul_pos a c, Nat.mul_le_mul (by omega) (by omega)⟩
section
variable {P : Program} {w : World} {K : PySem.W.Frag} {mg : Str → Option Value} {base : Heap}
end
end CY

set_option Elab.async false
set_option linter.all false
set_option maxRecDepth 100000
set_option maxHeartbeats 4000000
namespace CY
open PySem PySem.Spec PyProof.Rows L2
def sp_reached : Sp := fun vs H Q _ => ∃ (l : Addr) (L : Tb) (cs : List Int) (n : Int), vs = [.ref l, .int n] ∧ H l = some (.lst (ovs L)) ∧ Purse 400 cs ∧ LT cs (m0 cs) L ∧ 0 ≤ n ∧ Q (.bl (mk cs n)) H
section
variable {P : Program} {w : World} {K : PySem.W.Frag} {mg : Str → Option Value} {base : Heap}
theorem ok_is_reached {f : Addr} {fd : FuncData} (F : Fun K "is_reached" "is_reached" s_is_reached f fd) (T : Tx mg) : FnOk P w K mg base CX0 1 f fd ["least", "number"] sp_reached := by
  refine F.ok sc_is_reached (fun vs H Q E h => ?_) (fun cdv A outr s H vs Q E hr h => ?_)
  · obtain ⟨l, L, cs, n, rfl, _⟩ := h
    rfl
  · obtain ⟨l, L, cs, n, rfl, h1, hP, hT, hn, q⟩ := h
    refine ⟨_, (pss_cons (ps_set (i := 2) sc_is_reached.nd rfl (Or.inl (by kernel_rfl)) (pe_ix (ix_anyK (K := K) rfl) (pv 0) (pe_op op_mod (pv 1) (pe_callB (lenK (K := K) rfl) (gl_of (by kernel_rfl)) T.b_len boot_len (pa_cons (pv 0) pa_nil))) (fun _ _ => rfl)))
      (pss_one (ps_ret (pe_and (pe_cmp (pc_notN (pv 2))) (pe_one (pe_cmpR op_ge (pv 1) (pv 2) (nomark _))))))), ?_⟩
    obtain ⟨b1, b2, b3, b4⟩ := hP.bounds
    have el : (ovs L).length = m0 cs := by rw [ovs_len, hT.len]
    have er : n % ((m0 cs : Nat) : Int) = ((n.toNat % m0 cs : Nat) : Int) := by
      push_cast
      rw [Int.toNat_of_nonneg hn]
    have hlt : n.toNat % m0 cs < L.length := by rw [hT.len]; exact Nat.mod_lt _ b1
    refine ⟨_, rfl, _, rfl, _, rfl, l, _, rfl, .inl (.of h1), _, _, rfl, rfl, by rw [el]; omega, ?_⟩
    dsimp only
    rw [el, er]
    refine ⟨l, _, _, _, rfl, rfl, .lst h1, ov_at hlt, ?_⟩
    have em := lt_made hT hP.m0.1 b1 n.toNat
    rw [show ((n.toNat : Nat) : Int) = n by omega] at em
    refine ⟨_, rfl, _, rfl, ?_⟩
    cases e : gv L (n.toNat % m0 cs) with
    | none =>
      rw [e] at em
      refine iteF ?_
      rw [em] at q
      exact q
    | some x =>
      rw [e] at em
      refine iteT ?_
      refine ⟨_, rfl, _, rfl, _, _, rfl, rfl, ?_⟩
      rw [em] at q
      have e2 : decide (n ≥ (x : Int)) = decide (x ≤ n.toNat) := by
        rw [decide_eq_decide]
        omega
      dsimp only
      rw [e2]
      exact q
end
end CY

set_option Elab.async false
set_option linter.all false
set_option maxRecDepth 100000
set_option maxHeartbeats 4000000
namespace CY
open PySem PySem.Spec PyProof.Rows L2
def onV (p : Int → Bool) : V → Bool
  | .int n => p n
  | _ => false
theorem rng_filter (p : Int → Bool) (n : Nat) : ((rngV 0 n).filter (onV p)).map id = ivs ((ints0 n).filter p) := by
  rw [List.map_id]
  unfold rngV ivs ints0
  rw [List.filter_map, List.filter_map, List.map_map]
  have e : ((onV p) ∘ fun (i : Nat) => V.int (0 + (i : Int))) = p ∘ fun (i : Nat) => (i : Int) := by
    funext i
    show p (0 + (i : Int)) = p (i : Int)
    rw [Int.zero_add]
  rw [e]
  refine List.map_congr_left fun i _ => ?_
  show V.int (0 + (i : Int)) = V.int (i : Int)
  rw [Int.zero_add]
theorem ivs_on (cs : List Int) (p : Int → Bool) : ((ivs cs).filter (onV p)).map id = ivs (cs.filter p) := by
  rw [ivs_filter]
  rfl
section
variable {P : Program} {w : World} {K : PySem.W.Frag} {mg : Str → Option Value} {base : Heap}
end
end CY

set_option Elab.async false
set_option linter.all false
set_option maxRecDepth 100000
set_option maxHeartbeats 4000000
namespace CY
open PySem PySem.Spec PyProof.Rows L2
theorem ne_dec {a b : Int} : (!decide (V.int a = V.int b)) = !decide (a = b) := by
  congr 1
  rw [decide_eq_decide]
  exact ⟨fun h => by injection h, fun h => by rw [h]⟩
theorem eq_dec {a b : Int} : decide (V.int a = V.int b) = decide (a = b) := by
  rw [decide_eq_decide]
  exact ⟨fun h => by injection h, fun h => by rw [h]⟩
theorem Tb.small {cs : List Int} {L : Tb} (hP : Purse 400 cs) (hT : LT cs (m0 cs) L) : L.length ≤ 400 ∧ 0 < L.length := by
  obtain ⟨b1, b2, b3, b4⟩ := hP.bounds
  rw [hT.len]
  omega
def mapN (g : Int → Int) : V → V
  | .int n => .int (g n)
  | v => v
/-- the table as numbers -/
theorem tab_ints {cs : List Int} {L : Tb} (hP : Purse 400 cs) (hg : gcdL cs = 1) (hT : LT cs (m0 cs) L) : ovs L = ((nums L).map fun (n : Nat) => (n : Int)).map V.int := ovs_nums hP hg hT
section
variable {P : Program} {w : World} {K : PySem.W.Frag} {mg : Str → Option Value} {base : Heap} {c_Endless c_CoinError : Addr}
theorem ok_check_gaps_end {f : Addr} {fd : FuncData} (F : Fun K "check_gaps_end" "check_gaps_end" s_check_gaps_end f fd) (X_Endless : Err K mg "Endless" c_Endless c_CoinError) (C_divisor_of : Fn P w K mg base "divisor_of" ["purse"] 3 (sp_divisor K)) :
    FnOk P w K mg base (CX1 P w) 4 f fd ["purse"] (sp_endcheck c_Endless) := by
  refine F.okX sc_check_gaps_end (fun vs H Q E h => ?_) (fun cdv A outer s H vs Q E hr h => ?_)
  · obtain ⟨t, cs, rfl, _⟩ := h
    rfl
  · obtain ⟨t, cs, rfl, ht, hP, q1, q2⟩ := h
    refine ⟨_, (pss_one (ps_if (pt_cmpR op_ne (pe_fn C_divisor_of (hr.mono (by decide)) (pa_cons (pv 0) pa_nil)) pe_int (nomark _)) (pss_one (ps_raise (throw1 fun _ _ _ z => z) rfl X_Endless.toExc (pa_cons pe_str pa_nil))) pss_nil)), ?_⟩
    refine ⟨_, rfl, t, cs, rfl, ht, hP, rfl, _, rfl, ?_⟩
    rw [ne_dec]
    by_cases hg : gcdL cs = 1
    · refine ifF (by rw [decide_eq_true (by omega)]; rfl) ?_
      exact q1 hg
    · refine ifT (by rw [decide_eq_false (by omega)]; rfl) ?_
      exact ⟨by show 1 ≤ sizeLine; decide, q2 hg _ (Same.refl _)⟩
theorem ok_least_sums_of_every_rest {f : Addr} {fd : FuncData} (F : Fun K "least_sums_of_every_rest" "least_sums_of_every_rest" s_least_sums_of_every_rest f fd) (D_check_gaps_end : FnX P w K mg base "check_gaps_end" ["purse"] 4 (sp_endcheck c_Endless)) (C_least_sums : Fn P w K mg base "least_sums" ["purse"] 4 sp_lsums) :
    FnOk P w K mg base (CX1 P w) 5 f fd ["purse"] (sp_every c_Endless) := by
  refine F.okX sc_least_sums_of_every_rest (fun vs H Q E h => ?_) (fun cdv A outer s H vs Q E hr h => ?_)
  · obtain ⟨t, cs, rfl, _⟩ := h
    rfl
  · obtain ⟨t, cs, rfl, ht, hP, q1, q2⟩ := h
    refine ⟨_, (pss_cons (ps_expr (pe_fnX D_check_gaps_end (pass1 fun _ _ _ z => z) (hr.mono (by decide)) (pa_cons (pv 0) pa_nil)))
      (pss_one (ps_ret (pe_fn C_least_sums (hr.mono (by decide)) (pa_cons (pv 0) pa_nil))))), ?_⟩
    refine ⟨_, rfl, t, cs, rfl, ht, hP, fun hg => ?_, q2⟩
    exact ⟨_, rfl, t, cs, rfl, ht, hP, fun l L H' s' hl h' hT => q1 hg l L H' s' hl h' hT⟩
theorem ok_gaps_of {f : Addr} {fd : FuncData} (F : Fun K "gaps_of" "gaps_of" s_gaps_of f fd) (T : Tx mg) (D_least_sums_of_every_rest : FnX P w K mg base "least_sums_of_every_rest" ["purse"] 5 (sp_every c_Endless)) (C_is_reached : Fn P w K mg base "is_reached" ["least", "number"] 1 sp_reached) :
    FnOk P w K mg base (CX1 P w) 8 f fd ["purse"] (sp_gaps c_Endless) := by
  refine F.okX sc_gaps_of (fun vs H Q E h => ?_) (fun cdv A outer s H vs Q E hr h => ?_)
  · obtain ⟨t, cs, rfl, _⟩ := h
    rfl
  · obtain ⟨t, cs, rfl, ht, hP, q1, q2⟩ := h
    refine ⟨_, (pss_cons (ps_set (i := 1) sc_gaps_of.nd rfl (Or.inr (by kernel_rfl)) (pe_fnX D_least_sums_of_every_rest (pass1 fun _ _ _ z => z) (hr.mono (by decide)) (pa_cons (pv 0) pa_nil)))
      (pss_one (ps_ret (pe_comp (x := "number") (M := ["purse", "least"]) rfl (CompScope.of (by kernel_rfl)) (pi_range1 (gl_of (by kernel_rfl)) T.b_range (pa_cons (pe_callB (maxK (K := K) rfl rfl) (gl_of (by kernel_rfl)) T.b_max boot_max (pa_cons (pv 1) pa_nil)) pa_nil)) (fun _ _ _ _ _ => (pts_one (pt_not (pt_val (pe_fn C_is_reached (hr.mono (by decide)) (pa_cons (pv 2) (pa_cons (pv 0) pa_nil))))))) (fun _ _ _ _ _ => (pv 0)))))), ?_⟩
    refine ⟨_, rfl, t, cs, rfl, ht, hP, fun hg l L H1 s1 hl h1 hT => ?_, q2⟩
    have e := tab_ints hP hg hT
    obtain ⟨z1, z2⟩ := Tb.small hP hT
    obtain ⟨b1, b2, b3, b4⟩ := hP.bounds
    obtain ⟨f1, f2⟩ := Purse.far (m := 400) hP
    refine ⟨_, rfl, l, _, rfl, .of (by rw [h1, e]), ?_, fun m hm hle => ?_⟩
    · intro z
      have e2 : ((nums L).map fun (n : Nat) => (n : Int)).length = L.length := by unfold nums; rw [List.length_map, List.length_map]
      rw [z, List.length_nil] at e2
      omega
    · obtain ⟨M, hM, rfl⟩ := List.mem_map.mp hm
      have hle' : ∀ a ∈ nums L, a ≤ M := fun a ha => by
        have := hle (a : Int) (List.mem_map.mpr ⟨a, ha, rfl⟩)
        omega
      have hf : M ≤ far cs := by
        obtain ⟨r, _, er⟩ := nums_nth hP hg hT hM
        exact hT.far b1 hP.pos hP.mx.2 er
      refine ⟨_, rfl, by omega, by omega, ?_⟩
      refine comp_range (fun _ H' => H' = H1) (onV fun n => !mk cs n) id (Nat.lt_of_le_of_lt (show _ ≤ 160000 by omega) (by decide)) rfl ?_ ?_
      · rintro i x H3 R R' hx rfl hR hR'
        obtain ⟨hi, rfl⟩ := rngV_nth hx
        refine ⟨_, rfl, _, rfl, l, L, cs, _, rfl, h1, hP, hT, by omega, _, rfl, ?_⟩
        refine ite2 (fun z => ?_) (fun z => ?_)
        · exact ⟨_, rfl, hR H3 z rfl⟩
        · exact hR' H3 (Bool.eq_false_iff.mpr z) rfl
      · rintro H3 lg rfl hlg
        rw [rng_filter, Int.toNat_natCast, gaps_upto hP hg hT hM hle']
        exact q1 hg lg _ (s1.put hlg) (s1.free hlg) upd_same
theorem ok_greatest_gap {f : Addr} {fd : FuncData} (F : Fun K "greatest_gap" "greatest_gap" s_greatest_gap f fd) (T : Tx mg) (D_least_sums_of_every_rest : FnX P w K mg base "least_sums_of_every_rest" ["purse"] 5 (sp_every c_Endless)) :
    FnOk P w K mg base (CX1 P w) 8 f fd ["purse"] (sp_greatest c_Endless) := by
  refine F.okX sc_greatest_gap (fun vs H Q E h => ?_) (fun cdv A outer s H vs Q E hr h => ?_)
  · obtain ⟨t, cs, rfl, _⟩ := h
    rfl
  · obtain ⟨t, cs, rfl, ht, hP, q1, q2⟩ := h
    refine ⟨_, (pss_cons (ps_set (i := 1) sc_greatest_gap.nd rfl (Or.inl (by kernel_rfl)) (pe_fnX D_least_sums_of_every_rest (pass1 fun _ _ _ z => z) (hr.mono (by decide)) (pa_cons (pv 0) pa_nil)))
      (pss_cons (ps_if (pt_cmpR op_eq (pe_callB (lenK (K := K) rfl) (gl_of (by kernel_rfl)) T.b_len boot_len (pa_cons (pv 1) pa_nil)) pe_int (nomark _)) (pss_one (ps_ret pe_non)) pss_nil)
      (pss_one (ps_ret (pe_op op_sub (pe_callB (maxK (K := K) rfl rfl) (gl_of (by kernel_rfl)) T.b_max boot_max (pa_cons (pv 1) pa_nil)) (pe_callB (lenK (K := K) rfl) (gl_of (by kernel_rfl)) T.b_len boot_len (pa_cons (pv 1) pa_nil))))))), ?_⟩
    refine ⟨_, rfl, t, cs, rfl, ht, hP, fun hg l L H1 s1 hl h1 hT => ?_, q2⟩
    have e := tab_ints hP hg hT
    obtain ⟨z1, z2⟩ := Tb.small hP hT
    have hq := q1 hg H1 s1
    refine ⟨_, rfl, l, _, rfl, .inl (.of h1), rfl, _, rfl, ?_⟩
    rw [eq_dec]
    by_cases hm : m0 cs = 1
    · refine ifT (decide_eq_true (by rw [ovs_len, hT.len, hm]; rfl)) ?_
      rw [one_gaps hP hg hm] at hq
      exact hq
    · refine ifF (decide_eq_false (by rw [ovs_len, hT.len]; omega)) ?_
      refine ⟨_, rfl, l, _, rfl, .of (by rw [h1, e]), ?_, fun m hm1 hle => ?_⟩
      · intro z
        have e2 : ((nums L).map fun (n : Nat) => (n : Int)).length = L.length := by unfold nums; rw [List.length_map, List.length_map]
        rw [z, List.length_nil] at e2
        omega
      · obtain ⟨M, hM, rfl⟩ := List.mem_map.mp hm1
        have hle' : ∀ a ∈ nums L, a ≤ M := fun a ha => by
          have := hle (a : Int) (List.mem_map.mpr ⟨a, ha, rfl⟩)
          omega
        have hne := more_gaps hP hg hm
        have hfr := (fr_max hP hg hT hM hle').2 hne
        refine ⟨_, rfl, l, _, rfl, .inl (.of h1), _, _, rfl, rfl, ?_⟩
        rw [gaps_last, if_neg hne, hfr] at hq
        dsimp only
        rw [ovs_len, hT.len]
        exact hq
end
end CY

set_option Elab.async false
set_option linter.all false
set_option maxRecDepth 100000
set_option maxHeartbeats 4000000
namespace CY
open PySem PySem.Spec PyProof.Rows L2
section
variable {P : Program} {w : World} {K : PySem.W.Frag} {mg : Str → Option Value} {base : Heap} {c_TooBig c_Endless c_BadSum c_CoinError : Addr}
theorem ok_least_purse_of {f : Addr} {fd : FuncData} {t1 t2 : Tok} (F : Fun K "least_purse_of" "least_purse_of" s_least_purse_of f fd) (T : Tx mg) (h_MOST_COINS : mg "MOST_COINS" = some (.int 40 t1)) (h_GREATEST_COIN : mg "GREATEST_COIN" = some (.int 400 t2)) (X_TooBig : Err K mg "TooBig" c_TooBig c_CoinError)
    (C_needed_of : Fn P w K mg base "needed_of" ["coins"] 2 (sp_needed K)) : FnOk P w K mg base (CX1 P w) 3 f fd ["coins"] (sp_lpof K c_TooBig) := by
  refine F.okX sc_least_purse_of (fun vs H Q E h => ?_) (fun cdv A outer s H vs Q E hr h => ?_)
  · obtain ⟨t, cs, rfl, _⟩ := h
    rfl
  · obtain ⟨t, cs, rfl, ht, hne, hpos, hlen, hmax, q⟩ := h
    refine ⟨_, (pss_cons (ps_set (i := 1) sc_least_purse_of.nd rfl (Or.inl (by kernel_rfl)) (pe_fn C_needed_of (hr.mono (by decide)) (pa_cons (pe_callB (sortedBK (K := K) rfl) (gl_of (by kernel_rfl)) T.b_sorted boot_sorted (pa_cons (pv 0) pa_nil)) pa_nil)))
      (pss_cons (ps_if (PW.pt (pw_or (pt_cmpR op_gt (pe_callB (lenK (K := K) rfl) (gl_of (by kernel_rfl)) T.b_len boot_len (pa_cons (pv 1) pa_nil)) (pe_num h_MOST_COINS) (nomark _)) (pw_or1 (pt_cmpR op_gt (pe_ix (ix_anyK (K := K) rfl) (pv 1) (pe_un un_neg pe_int) (fun _ _ => rfl)) (pe_num h_GREATEST_COIN) (nomark _))))) (pss_one (ps_raise (throw1 fun _ _ _ z => z) rfl X_TooBig.toExc (pa_cons (pe_fstr (pj_cons pp_str (pj_cons (pp_int (pe_num h_MOST_COINS)) (pj_cons pp_str (pj_cons (pp_int (pe_num h_GREATEST_COIN)) pj_nil))))) pa_nil))) pss_nil)
      (pss_one (ps_ret (pe_callTy (tupleK (K := K) rfl) (gl_of (by kernel_rfl)) T.b_tuple boot_tuple (pa_cons (pv 1) pa_nil)))))), ?_⟩
    refine ⟨_, rfl, t, cs, rfl, .of ht, fun l ns hl pm pw => ?_⟩
    have hp2 : Pos ns := fun c hc => hpos c (pm.mem_iff.mp hc)
    have hne2 : ns ≠ [] := fun z => by
      rw [z] at pm
      exact hne pm.symm.eq_nil
    refine ⟨l, ns, rfl, .inl upd_same, hne2, hp2, pw, by rw [pm.length_eq]; exact hlen, fun c hc => hmax c (pm.mem_iff.mp hc), fun lf H1 s1 hn hl1 => ?_⟩
    have hL := kept_lst hp2 pw
    have em : mk ns = mk cs := funext fun n => mk_mem (fun c => pm.mem_iff) n
    rw [em] at hL
    obtain ⟨q1, q2⟩ := q _ hL
    have s0 : Same H H1 := ((Same.refl H).put hl).trans s1
    have hk := kept_ne hp2 pw hne2
    generalize kept [] ns = ws at hL q1 q2 hl1 hk
    have hf := fits_last hL.rise hk
    have el : (ivs ws).length = ws.length := List.length_map ..
    refine ⟨_, rfl, lf, ivs ws, rfl, .inl (.of hl1), _, _, rfl, rfl, _, rfl, ?_⟩
    rw [el]
    by_cases z1 : 40 < (ws.length : Int)
    · refine ifT (decide_eq_true z1) ?_
      refine iteT ?_
      exact ⟨by decide +kernel, _, rfl, by decide +kernel, by decide +kernel, by decide +kernel, _, rfl, by decide +kernel, by decide +kernel, by decide +kernel, by show 1 ≤ sizeLine; decide, q2 (fun z => by have := z.1; omega) _ s0⟩
    · refine ifF (decide_eq_false z1) ?_
      refine ⟨_, rfl, 1, rfl, lf, ivs ws, -1, _, rfl, rfl, .lst hl1, getI_last hk, _, _, rfl, rfl, _, rfl, ?_⟩
      by_cases z2 : 400 < ws.getLast hk
      · refine ifT (decide_eq_true z2) ?_
        exact ⟨by decide +kernel, _, rfl, by decide +kernel, by decide +kernel, by decide +kernel, _, rfl, by decide +kernel, by decide +kernel, by decide +kernel, by show 1 ≤ sizeLine; decide, q2 (fun z => by have := (hf.mp z).2; omega) _ s0⟩
      · refine ifF (decide_eq_false z2) ?_
        refine ⟨_, rfl, lf, _, rfl, .inl ⟨.of hl1, fun t' ht' => ?_⟩⟩
        exact q1 (hf.mpr ⟨by omega, by omega⟩) t' _ (s0.put ht') upd_same
end
end CY

set_option Elab.async false
set_option linter.all false
set_option maxRecDepth 100000
set_option maxHeartbeats 4000000
namespace CY
open PySem PySem.Spec PyProof.Rows L2
section
variable {P : Program} {w : World} {K : PySem.W.Frag} {mg : Str → Option Value} {base : Heap} {c_TooBig c_Endless c_BadSum c_CoinError : Addr}
def sp_wo (TB : Addr) : Sp := fun vs H Q E => ∃ (t : Addr) (cs : List Int) (c : Int), vs = [.ref t, .int c] ∧ H t = some (.tup (ivs cs)) ∧ Purse 400 cs ∧ Gn (mk cs) c ∧ c ∈ cs ∧ ∀ ws, Lst (kidS cs c) ws → outc TB ws H Q E
theorem ok_without_sum {f : Addr} {fd : FuncData} (F : Fun K "without_sum" "without_sum" s_without_sum f fd) (D_least_purse_of : FnX P w K mg base "least_purse_of" ["coins"] 3 (sp_lpof K c_TooBig)) :
    FnOk P w K mg base (CX1 P w) 4 f fd ["purse", "coin"] (sp_wo c_TooBig) := by
  refine F.okX sc_without_sum (fun vs H Q E h => ?_) (fun cdv A outer s H vs Q E hr h => ?_)
  · obtain ⟨t, cs, c, rfl, _⟩ := h
    rfl
  · obtain ⟨t, cs, c, rfl, ht, hP, hc, hm, q⟩ := h
    refine ⟨_, (pss_cons (ps_setComp (i := 2) (x := "other") (M := ["purse", "coin", "others"]) sc_without_sum.nd rfl (Or.inl (by kernel_rfl)) rfl (CompScope.of (by kernel_rfl)) (pi_seqK (K := K) rfl (pv 0)) (fun _ _ _ _ _ => (pts_one (pt_cmpR op_ne (pv 0) (pv 2) (nomark _)))) (fun _ _ _ _ _ => (pv 0)))
      (pss_one (ps_ret (pe_fnX D_least_purse_of (pass1 fun _ _ _ z => z) (hr.mono (by decide)) (pa_cons (pe_op op_cat (pe_op op_cat (pv 2) (pe_comp (x := "other") (M := ["purse", "coin", "others"]) rfl (CompScope.of (by kernel_rfl)) (pi_seqK (K := K) rfl (pv 0)) (fun _ _ _ _ _ => pts_nil) (fun _ _ _ _ _ => (pe_op op_add (pv 2) (pv 0))))) (pe_lst (pa_cons (pe_op op_mul pe_int (pv 1)) pa_nil))) pa_nil))))), ?_⟩
    have few := hP.few
    have c1 := hP.lo c hm
    have c4 := hP.hi c hm
    have hz : (ivs cs).length < sizeLine := by rw [List.length_map, sizeLine_eq]; omega
    refine ⟨_, rfl, t, rfl, ?_⟩
    refine comp_seq (fun _ H' => H' = H) (onV fun d => !decide (d = c)) id hz rfl (fun _ _ e => by rw [e]; exact Same.refl _) (.tpl ht) ?_ ?_
    · rintro j v H2 R R' hv rfl hR hR'
      obtain ⟨d, rfl, hd⟩ := ivs_nth hv
      refine ⟨_, rfl, _, rfl, rfl, _, rfl, ?_⟩
      rw [ne_dec]
      by_cases z : d = c
      · refine ifF (by rw [decide_eq_true z]; rfl) ?_
        exact hR' _ (by show (!decide (d = c)) = false; rw [decide_eq_true z]; rfl) rfl
      · refine ifT (by rw [decide_eq_false z]; rfl) ?_
        exact ⟨_, rfl, hR _ (by show (!decide (d = c)) = true; rw [decide_eq_false z]; rfl) rfl⟩
    · rintro H2 l1 rfl hl1
      rw [ivs_on]
      have s1 := (Same.refl H2).put (o := .lst (ivs (cs.filter fun d => !decide (d = c)))) hl1
      generalize hH1 : upd H2 l1 (.lst (ivs (cs.filter fun d => !decide (d = c)))) = H1 at s1 ⊢
      have hl1' : H1 l1 = some (.lst (ivs (cs.filter fun d => !decide (d = c)))) := by rw [← hH1, upd_same]
      refine ⟨_, rfl, _, rfl, t, rfl, ?_⟩
      refine comp_seq (fun _ H' => H' = H1) (fun _ => true) (mapN fun d => c + d) hz rfl (fun _ _ e => by rw [e]; exact Same.refl _) (.tpl (s1 _ _ ht)) ?_ ?_
      · rintro j v H3 R R' hv rfl hR hR'
        obtain ⟨d, rfl, hd⟩ := ivs_nth hv
        refine true_then ?_
        exact ⟨_, rfl, _, rfl, _, _, rfl, rfl, hR _ rfl rfl⟩
      · rintro H3 l2 rfl hl2
        have em : ((ivs cs).filter fun _ => true).map (mapN fun d => c + d) = ivs (cs.map fun d => c + d) := by
          rw [List.filter_eq_self.mpr (fun _ _ => rfl)]
          unfold ivs
          rw [List.map_map, List.map_map]
          rfl
        rw [em]
        have s2 := s1.put (o := .lst (ivs (cs.map fun d => c + d))) hl2
        have n12 : l1 ≠ l2 := ne_of_none hl1' hl2
        have lf : (cs.filter fun d => !decide (d = c)).length ≤ 40 := Nat.le_trans (List.length_filter_le _ _) few
        refine ⟨l1, l2, _, _, rfl, rfl, by rw [upd_ne n12]; exact hl1', upd_same, ?_, fun l3 hl3 => ?_⟩
        · rw [List.length_map, List.length_map, List.length_map, sizeLine_eq]
          omega
        have e1 : ivs (cs.filter fun d => !decide (d = c)) ++ ivs (cs.map fun d => c + d) = ivs ((cs.filter fun d => !decide (d = c)) ++ (cs.map fun d => c + d)) := by unfold ivs; rw [List.map_append]
        rw [e1]
        have s3 := s2.put (o := .lst (ivs ((cs.filter fun d => !decide (d = c)) ++ (cs.map fun d => c + d)))) hl3
        refine ⟨_, rfl, _, _, rfl, rfl, .inl ⟨by decide, by decide⟩, by show 1 ≤ sizeLine; decide, fun l4 hl4 => ?_⟩
        have s4 := s3.put (o := .lst [V.int (3 * c)]) hl4
        have n34 : l3 ≠ l4 := fun z => by rw [← z, upd_same] at hl4; cases hl4
        refine ⟨l3, l4, _, _, rfl, rfl, by rw [upd_ne n34, upd_same], upd_same, ?_, fun l5 hl5 => ?_⟩
        · rw [List.length_map, List.length_append, List.length_map, sizeLine_eq]
          show _ + 1 ≤ _
          omega
        have e2 : ivs ((cs.filter fun d => !decide (d = c)) ++ (cs.map fun d => c + d)) ++ [V.int (3 * c)] = ivs (kid cs c) := by unfold ivs kid; rw [List.map_append, List.map_append, List.map_append]; rfl
        rw [e2]
        have s5 := s4.put (o := .lst (ivs (kid cs c))) hl5
        have bd : ∀ d ∈ kid cs c, 0 < d ∧ d ≤ 1200 := fun d hd => by
          unfold kid at hd
          rcases List.mem_append.mp hd with hd | hd
          · rcases List.mem_append.mp hd with hd | hd
            · have a := (List.mem_filter.mp hd).1
              have := hP.lo d a
              have := hP.hi d a
              omega
            · obtain ⟨e, he, rfl⟩ := List.mem_map.mp hd
              have := hP.lo e he
              have := hP.hi e he
              omega
          · rw [List.mem_singleton.mp hd]; omega
        refine ⟨l5, kid cs c, rfl, upd_same, ?_, fun d hd => (bd d hd).1, ?_, fun d hd => by have := (bd d hd).2; omega, fun ws hw => ?_⟩
        · intro z
          have : 3 * c ∈ kid cs c := List.mem_append_right _ List.mem_cons_self
          rw [z] at this
          cases this
        · unfold kid
          rw [List.length_append, List.length_append, List.length_map]
          show _ + 1 ≤ _
          omega
        · have ek : mk (kid cs c) = kidS cs c := funext fun n => mk_kid hP.pos hc hm n
          rw [ek] at hw
          obtain ⟨r1, r2⟩ := q ws hw
          exact ⟨fun hf t' H' s' ht' => r1 hf t' H' (s5.trans s') ht', fun hf H' s' => r2 hf H' (s5.trans s')⟩
theorem ok_children_of {f : Addr} {fd : FuncData} (F : Fun K "children_of" "children_of" s_children_of f fd) (T : Tx mg) (D_greatest_gap : FnX P w K mg base "greatest_gap" ["purse"] 8 (sp_greatest c_Endless)) (C_least_purse : Fn P w K mg base "least_purse" ["purse"] 4 sp_least) (C_without_sum : Fn P w K mg base "without_sum" ["purse", "coin"] 4 (sp0 (sp_wo c_TooBig))) :
    FnOk P w K mg base (CX1 P w) 12 f fd ["purse"] (sp_kids c_Endless) := by
  refine F.okX sc_children_of (fun vs H Q E h => ?_) (fun cdv A outer s H vs Q E hr h => ?_)
  · obtain ⟨t, cs, rfl, _⟩ := h
    rfl
  · obtain ⟨t, cs, rfl, ht, hP, q1, q2⟩ := h
    refine ⟨_, (pss_cons (ps_set (i := 1) sc_children_of.nd rfl (Or.inr (by kernel_rfl)) (pe_fnX D_greatest_gap (pass1 fun _ _ _ z => z) (hr.mono (by decide)) (pa_cons (pv 0) pa_nil)))
      (pss_cons (ps_set (i := 2) sc_children_of.nd rfl (Or.inr (by kernel_rfl)) (pe_fn C_least_purse (hr.mono (by decide)) (pa_cons (pv 0) pa_nil)))
      (pss_one (ps_ret (pe_callB (sortedTK (K := K) rfl) (gl_of (by kernel_rfl)) T.b_sorted boot_sorted (pa_cons (pe_comp (x := "coin") (M := ["purse", "greatest", "coins"]) rfl (CompScope.of (by kernel_rfl)) (pi_seqK (K := K) rfl (pv 2)) (fun _ _ _ _ _ => (pts_one (PW.pt (pw_or (pt_cmp (pc_isN (pv 2))) (pw_or1 (pt_cmpR op_gt (pv 0) (pv 2) (nomark _))))))) (fun _ _ _ _ _ => (pe_fn C_without_sum (hr.mono (by decide)) (pa_cons (pv 3) (pa_cons (pv 0) pa_nil))))) pa_nil)))))), ?_⟩
    refine ⟨_, rfl, t, cs, rfl, ht, hP, fun hg H1 s1 => ?_, q1⟩
    obtain ⟨hfit, q2⟩ := q2 hg
    refine ⟨_, rfl, t, cs, rfl, s1 _ _ ht, hP, fun t2 H2 s2 ht2 => ?_⟩
    have s12 := s1.trans s2
    have hL := lp_purse hP
    have eM : mk (lp cs) = mk cs := funext fun n => mk_congr (fun n => ⟨fun z => z.mono (lp_sub cs), fun z => z.trans (made_lp hP)⟩) n
    have gn : ∀ c ∈ lp cs, Gn (mk cs) c := fun c hc => ((lp_lst hP).mem c).mp hc
    have hz : (ivs (lp cs)).length < sizeLine := by rw [List.length_map, sizeLine_eq]; have := hL.few; omega
    refine ⟨_, rfl, t2, rfl, ?_⟩
    refine comp_seqG (fun i ys H' => Same H2 H' ∧ ∃ ps, ys = ps.map V.ref ∧ Tups H' ps ((((lp cs).take i).filter fun c => decide (fr cs < c)).map fun c => theL (kidS cs c))) hz ⟨Same.refl _, [], rfl, trivial⟩ ?_ (fun i ys H' pv => pv.1) (.tpl ht2) ?_ ?_
    · rintro i ys H' ⟨_, ps, rfl, tp⟩
      rw [List.length_map, tp.len, List.length_map]
      refine Nat.le_trans (List.length_filter_le _ _) ?_
      rw [List.length_take]
      omega
    · rintro i x ys H3 R R' hx ⟨s3, ps, rfl, tp⟩ hR hR'
      obtain ⟨c, rfl, hc⟩ := ivs_nth hx
      have hcm := List.mem_of_getElem? hc
      have tk : (lp cs).take (i + 1) = (lp cs).take i ++ [c] := by rw [List.take_add_one, hc]; rfl
      have c1 := hL.lo c hcm
      have eo : oi (gaps cs).getLast? = if gaps cs = [] then .non else .int (fr cs) := gaps_last
      have fin : fr cs < c → ∀ (p : Addr) (H4 : Hp), Same H3 H4 → H4 p = some (.tup (ivs (theL (kidS cs c)))) → R (.ref p) H4 := fun z p H4 s4 hp => by
        refine hR (.ref p) H4 ⟨s3.trans s4, ps ++ [p], by rw [List.map_append]; rfl, ?_⟩
        rw [tk, List.filter_append, List.map_append]
        have e1 : [c].filter (fun c => decide (fr cs < c)) = [c] := by rw [List.filter_cons, if_pos (decide_eq_true z)]; rfl
        rw [e1]
        exact tups_snoc (tp.keep s4) hp
      have fin' : ¬ fr cs < c → R' H3 := fun z => by
        refine hR' H3 ⟨s3, ps, rfl, ?_⟩
        rw [tk, List.filter_append]
        have e1 : [c].filter (fun c => decide (fr cs < c)) = [] := by rw [List.filter_cons, if_neg (by rw [decide_eq_false z]; exact Bool.false_ne_true)]; rfl
        rw [e1, List.append_nil]
        exact tp
      have hcs : c ∈ cs := lp_sub cs c hcm
      have call : fr cs < c → sp0 (sp_wo c_TooBig) [.ref t2, .int c] H3 R E0 := fun z => by
        refine ⟨t2, lp cs, c, rfl, s3 _ _ ht2, hL, by rw [eM]; exact gn c hcm, hcm, fun ws hw => ?_⟩
        have hw' : Lst (kidS cs c) ws := by
          have e2 : kidS (lp cs) c = kidS cs c := funext fun n => by show (mk (lp cs) n && _) = _; rw [eM]
          rw [← e2]
          exact hw
        refine ⟨fun _ p H4 s4 hp => fin z p H4 s4 (by rw [theL_eq hw']; exact hp), fun nf => absurd (hfit c ws (gn c hcm) z hw') nf⟩
      by_cases hn : gaps cs = []
      · rw [if_pos hn] at eo
        have z : fr cs < c := by rw [fr_nil hn]; omega
        refine ⟨_, rfl, _, rfl, ?_⟩
        rw [eo]
        refine iteT ?_
        refine iteT ?_
        exact ⟨_, rfl, _, rfl, call z⟩
      · rw [if_neg hn] at eo
        refine ⟨_, rfl, _, rfl, ?_⟩
        rw [eo]
        refine iteF ?_
        refine ⟨_, rfl, _, rfl, c, fr cs, rfl, rfl, _, rfl, ?_⟩
        by_cases z : fr cs < c
        · refine ifT (decide_eq_true z) ?_
          exact ⟨_, rfl, _, rfl, call z⟩
        · refine ifF (decide_eq_false z) ?_
          exact fin' z
    · rintro ys H3 l ⟨s3, ps, rfl, tp⟩ hl
      rw [show (lp cs).take (ivs (lp cs)).length = lp cs by rw [show (ivs (lp cs)).length = (lp cs).length from List.length_map .., List.take_length]] at tp
      have s4 := s3.put (o := .lst (ps.map V.ref)) hl
      generalize hH4 : upd H3 l (.lst (ps.map V.ref)) = H4 at s4 ⊢
      have hl4 : H4 l = some (.lst (ps.map V.ref)) := by rw [← hH4, upd_same]
      have s34 : Same H3 H4 := by rw [← hH4]; exact (Same.refl H3).put hl
      have tp4 := tp.keep s34
      have hat := tups_at tp4
      have kl : ∀ c ∈ lp cs, Lst (kidS cs c) (theL (kidS cs c)) := fun c hc => kid_lst hP (gn c hc) (lp_sub cs c hc)
      refine ⟨l, ps, tupI H4, rfl, .of hl4, fun a ha => ⟨fun z => ?_, .of (hat a ha).1⟩, fun l5 qs hl5 pm pw => ?_⟩
      · have := (hat a ha).2
        rw [z] at this
        obtain ⟨c, hc, e⟩ := List.mem_map.mp this
        have hc' := (List.mem_filter.mp hc).1
        have g := sg_kid hP.pos (gn c hc')
        have l0 := kl c hc'
        rw [e] at l0
        have hb : kidS cs c (c + c) = true := by
          have c0 := (gn c hc').2.1
          show (mk cs (c + c) && decide (c + c ≠ c)) = true
          rw [mk_add (gn c hc').1 (gn c hc').1, decide_eq_true (by omega)]
          rfl
        exact lst_ne g l0 (by have := (gn c hc').2.1; omega) hb rfl
      · have hqa : ∀ a ∈ qs, H4 a = some (.tup (ivs (tupI H4 a))) := fun a ha => (hat a (pm.mem_iff.mp ha)).1
        have s5 : Same H4 (upd H4 l5 (.lst (qs.map V.ref))) := (Same.refl H4).put hl5
        have em := tups_map tp4
        have pmk : (qs.map (tupI H4)).Perm (((lp cs).filter fun c => decide (fr cs < c)).map fun c => theL (kidS cs c)) := by rw [← em]; exact pm.map _
        have sH : Same H H4 := s12.trans s4
        refine q2 (qs.map (tupI H4)) ⟨lexr_of pw ?_, fun ks => ?_⟩ l5 qs _ (sH.trans s5) (sH.free hl5) upd_same ((tups_of hqa).keep s5)
        · refine pmk.nodup_iff.mpr ?_
          have nd : ((lp cs).filter fun c => decide (fr cs < c)).Nodup := (rise_nodup hL.rise).sublist List.filter_sublist
          refine List.pairwise_map.mpr (nd.imp_of_mem fun {a b} ha hb ne e => ne ?_)
          have ha' := (List.mem_filter.mp ha).1
          have hb' := (List.mem_filter.mp hb).1
          have k1 := kl a ha'
          have k2 := kl b hb'
          rw [← e] at k2
          exact kid_inj hP.pos (gn a ha') (gn b hb') k1 k2
        · rw [pmk.mem_iff, List.mem_map]
          constructor
          · rintro ⟨c, hc, rfl⟩
            obtain ⟨c1, c2⟩ := List.mem_filter.mp hc
            exact ⟨c, gn c c1, of_decide_eq_true c2, kl c c1⟩
          · rintro ⟨c, c1, c2, c3⟩
            exact ⟨c, List.mem_filter.mpr ⟨((lp_lst hP).mem c).mpr c1, decide_eq_true c2⟩, theL_eq c3⟩
end
end CY

set_option Elab.async false
set_option linter.all false
set_option maxRecDepth 100000
set_option maxHeartbeats 4000000
namespace CY
open PySem PySem.Spec PyProof.Rows L2 L2.Tim
def sp_allwith (BS : Addr) : Sp := fun vs H Q E => ∃ j : Nat, vs = [.int (j : Int)] ∧ j ≤ 7 ∧ ∀ wss, AWs j wss → LexR wss → ∀ (l : Addr) (ps : List Addr) (H' : Hp), Same H H' → H l = none → H' l = some (.lst (ps.map V.ref)) → Tups H' ps wss → Q (.ref l) H'
section
variable {P : Program} {w : World} {K : PySem.W.Frag} {mg : Str → Option Value} {base : Heap} {c_TooBig c_Endless c_BadSum c_CoinError : Addr}
theorem ok_all_with {f : Addr} {fd : FuncData} {t7 : Tok} (F : Fun K "all_with" "all_with" s_all_with f fd) (T : Tx mg) (h_MOST_GAPS : mg "MOST_GAPS" = some (.int 7 t7)) (X_BadSum : Err K mg "BadSum" c_BadSum c_CoinError) (C_is_whole : Fn P w K mg base "is_whole" ["thing"] 1 sp_whole) (D_children_of : FnX P w K mg base "children_of" ["purse"] 12 (sp_kids c_Endless)) :
    FnOk P w K mg base (CX1 P w) 13 f fd ["many"] (sp_allwith c_BadSum) := by
  refine F.okX sc_all_with (fun vs H Q E h => ?_) (fun cdv A outer s H vs Q E hr h => ?_)
  · obtain ⟨j, rfl, _⟩ := h
    rfl
  · obtain ⟨j, rfl, hj, q⟩ := h
    refine ⟨_, (pss_cons (ps_if (PW.pt (pw_or (pt_not (pt_val (pe_fn C_is_whole (hr.mono (by decide)) (pa_cons (pv 0) pa_nil)))) (pw_or1 (pt_not (pt_chain op_le op_le pe_int (pv 0) (pe_num h_MOST_GAPS)))))) (pss_one (ps_raise (throw1 fun _ _ _ z => z) rfl X_BadSum.toExc (pa_cons (pe_fstr (pj_cons pp_str (pj_cons (pp_int (pe_num h_MOST_GAPS)) (pj_cons pp_str pj_nil)))) pa_nil))) pss_nil)
      (pss_cons (ps_set (i := 1) sc_all_with.nd rfl (Or.inl (by kernel_rfl)) (pe_lst (pa_cons (pe_tup (pa_cons pe_int pa_nil)) pa_nil)))
      (pss_cons (ps_for (by passes_own) rfl (pi_range1 (gl_of (by kernel_rfl)) T.b_range (pa_cons (pv 0) pa_nil)) (pg_name (i := 2) sc_all_with.nd rfl (Or.inl (by kernel_rfl))) (pss_cons (ps_set (i := 3) sc_all_with.nd rfl (Or.inl (by kernel_rfl)) (pv 1))
      (pss_cons (ps_set (i := 1) sc_all_with.nd rfl (Or.inl (by kernel_rfl)) (pe_lst pa_nil))
      (pss_one (ps_for (by passes_own) rfl (pi_seqK (K := K) rfl (pv 3)) (pg_name (i := 4) sc_all_with.nd rfl (Or.inl (by kernel_rfl))) (pss_one (ps_expr (pe_bm PySem.F.plainAttrs_list PySem.F.slot_list_extend PySem.F.type_list_extend mt_extend (pv 1) (pa_cons (pe_fnX D_children_of (pass1 fun _ _ _ z => z) (hr.mono (by decide)) (pa_cons (pv 4) pa_nil)) pa_nil)))))))))
      (pss_one (ps_ret (pe_callB (sortedTK (K := K) rfl) (gl_of (by kernel_rfl)) T.b_sorted boot_sorted (pa_cons (pv 1) pa_nil))))))), ?_⟩
    refine ⟨_, rfl, (j : Int), rfl, _, rfl, ?_⟩
    refine iteF ?_
    refine ⟨_, rfl, _, _, rfl, rfl, _, rfl, ?_⟩
    refine ifT (decide_eq_true (by omega)) ?_
    refine ⟨_, _, rfl, rfl, _, rfl, ?_⟩
    refine ifN (decide_eq_true (by omega)) ?_
    refine ⟨by show 1 ≤ sizeLine; decide, fun p0 hp0 => ⟨by show 1 ≤ sizeLine; decide, fun l0 hl0 => ?_⟩⟩
    have s0 := ((Same.refl H).put (o := .tup [V.int 1]) hp0).put (o := .lst [V.ref p0]) hl0
    have hl0H : H l0 = none := ((Same.refl H).put (o := .tup [V.int 1]) hp0).free hl0
    have n0 : p0 ≠ l0 := ne_of_none upd_same hl0
    refine ⟨_, rfl, (j : Int), rfl, by omega, by omega, ?_⟩
    rw [Int.toNat_natCast]
    refine for_range (lo := 0) (n := j) (fun i σ H' => ∃ (lf : Addr) (ps : List Addr) (wss : List (List Int)) (x2 x3 x4 : Option V), σ = [some (.int (j : Int)), some (.ref lf), x2, x3, x4] ∧ Same H H' ∧ H lf = none ∧ H' lf = some (.lst (ps.map V.ref)) ∧ Tups H' ps wss ∧ AWs i wss) ⟨l0, [p0], [[1]], none, none, none, rfl, s0, hl0H, upd_same, ⟨by rw [upd_ne n0, upd_same]; rfl, trivial⟩, aws_one⟩ ?_ ?_
    · rintro i σ H1 hi ⟨lf, ps, wss, x2, x3, x4, rfl, s1, hn1, hlf, tp, aw⟩
      have hpl := tp.len
      refine ⟨_, rfl, by show 0 ≤ sizeLine; decide, fun l1 hl1 => ?_⟩
      have s2 := (Same.refl H1).put (o := .lst []) hl1
      refine ⟨_, rfl, lf, rfl, ?_⟩
      refine for_seq (xs := ps.map V.ref) (fun k σ H' => ∃ (x : Option V) (qs : List Addr) (vss : List (List Int)), σ = [some (.int (j : Int)), some (.ref l1), some (.int (0 + (i : Int))), some (.ref lf), x] ∧ Same H1 H' ∧ H' l1 = some (.lst (qs.map V.ref)) ∧ Tups H' qs vss ∧ (vss.map gaps).Perm (((wss.take k).map gaps).flatMap KG) ∧ ∀ ws ∈ vss, OkP ws) (.lst (s2 _ _ hlf)) ⟨_, [], [], rfl, s2, upd_same, trivial, by rw [List.take_zero]; exact List.Perm.refl _, fun ws h => by cases h⟩ (fun k σ' H' ⟨_, _, _, _, s', _⟩ o e => by rw [s2 _ _ hlf] at e; cases e; exact s' _ _ hlf) ?_ ?_
      · rintro k v σ H2 hv ⟨x, qs, vss, rfl, s3, hl3, tq, pm, ok⟩
        obtain ⟨p, rfl, hp⟩ := refs_at hv
        obtain ⟨ws, hw, hpw⟩ := tups_nth tp hp
        have hwm := List.mem_of_getElem? hw
        have o := aw.all ws hwm
        obtain ⟨G, hGm, hG⟩ := aw.gap hwm
        have P4 : Purse 400 ws := ⟨o.purse.rise, o.purse.ne, o.purse.few, o.purse.lo, fun c hc => by have := o.purse.hi c hc; omega⟩
        refine ⟨_, rfl, .inl ⟨rfl, _, .of hl3⟩, _, rfl, p, ws, rfl, s3 _ _ hpw, P4, fun z => absurd o.gcd z, fun _ => ⟨fun c ks hc hf hk => kid_fits o.purse (by decide) o.gcd hc hf hk, fun kss hk lk pk H3 s4 hn3 hlk tk => ?_⟩⟩
        have pm2 : ((vss ++ kss).map gaps).Perm (((wss.take (k + 1)).map gaps).flatMap KG) := by
          rw [List.take_add_one, hw, List.map_append, List.map_append, List.flatMap_append]
          refine pm.append ?_
          show (kss.map gaps).Perm (KG (gaps ws) ++ [])
          rw [List.append_nil, hG, KG_gI]
          exact kids_perm o hG hk
        have few := aws_few (by omega) aw (k + 1) pm2
        have hl4 := s4 _ _ hl3
        refine ⟨l1, lk, _, _, rfl, rfl, hl4, hlk, ?_, ?_⟩
        · rw [List.length_map, List.length_map, tq.len, tk.len, ← List.length_append, sizeLine_eq]
          omega
        · refine ⟨_, qs ++ pk, vss ++ kss, rfl, fun a o e => by rw [upd_ne (ne_of_none e hl1)]; exact s4 _ _ (s3 _ _ e), by rw [upd_same, List.map_append], tups_upd hl4 (tups_app (tq.keep s4) tk), pm2, fun ws' h => ?_⟩
          rcases List.mem_append.mp h with z | z
          · exact ok ws' z
          · exact kids_ok o hG (fun n hn => Gs_cand ⟨i, by omega⟩ G hGm n hn) hk ws' z
      · rintro σ H2 ⟨x, qs, vss, rfl, s3, hl3, tq, pm, ok⟩
        rw [List.length_map, hpl, List.take_length] at pm
        exact ⟨l1, qs, vss, _, _, _, rfl, s1.trans s3, s1.free hl1, hl3, tq, aws_step aw ok pm⟩
    · rintro σ H1 ⟨lf, ps, wss, x2, x3, x4, rfl, s1, hn1, hlf, tp, aw⟩
      have hat := tups_at tp
      refine ⟨_, rfl, lf, ps, tupI H1, rfl, .of hlf, fun a ha => ⟨fun z => ?_, .of (hat a ha).1⟩, fun l5 qs hl5 pm pw => ?_⟩
      · have := (hat a ha).2
        rw [z] at this
        exact (aw.all _ this).purse.ne rfl
      · have em := tups_map tp
        have pmk : (qs.map (tupI H1)).Perm wss := by rw [← em]; exact pm.map _
        have hqa : ∀ a ∈ qs, H1 a = some (.tup (ivs (tupI H1 a))) := fun a ha => (hat a (pm.mem_iff.mp ha)).1
        have s5 : Same H1 (upd H1 l5 (.lst (qs.map V.ref))) := (Same.refl H1).put hl5
        exact q _ ⟨fun ws h => aw.all ws (pmk.mem_iff.mp h), (pmk.map gaps).trans aw.perm⟩ (lexr_of pw (pmk.nodup_iff.mpr (aw.nodup hj))) l5 qs _ (s1.trans s5) (s1.free hl5) upd_same ((tups_of hqa).keep s5)
end
end CY

set_option Elab.async false
set_option linter.all false
set_option maxRecDepth 100000
set_option maxHeartbeats 4000000
namespace CY
open PySem PySem.Spec PyProof.Rows L2
def tabS (S : Int → Bool) (N : Nat) : List V := (List.range (N + 1)).map fun (i : Nat) => V.bl (S i)
theorem tabS_len (S : Int → Bool) (N : Nat) : (tabS S N).length = N + 1 := by unfold tabS; simp
theorem tabS_atI (S : Int → Bool) {N : Nat} {z : Int} (h0 : 0 ≤ z) (h : z ≤ N) : atI (tabS S N) z = some (.bl (S z)) := by
  have e : z = ((z.toNat : Nat) : Int) := by omega
  rw [e]
  refine atI_nat ?_
  unfold tabS
  rw [List.getElem?_map, List.getElem?_range (by omega)]
  rfl
def sp_leastS : Sp := fun vs H Q _ => ∃ (l : Addr) (S : Int → Bool) (N : Nat), vs = [.ref l] ∧ H l = some (.lst (tabS S N)) ∧ Sg S ∧ N ≤ 100000 ∧ ∀ (t : Addr) (H' : Hp), Same H H' → H' t = some (.tup (ivs (gensUp S N))) → Q (.ref t) H'
theorem gens_len (S : Int → Bool) (N : Nat) : (gensUp S N).length ≤ N + 1 := by
  unfold gensUp
  have := List.length_filter_le (gnB S) (ints0 (N + 1))
  have e : (ints0 (N + 1)).length = N + 1 := by simp
  omega
section
variable {P : Program} {w : World} {K : PySem.W.Frag} {mg : Str → Option Value} {base : Heap}
theorem ok__law_least {f : Addr} {fd : FuncData} (F : Fun K "_law_least" "_law_least" s__law_least f fd) (T : Tx mg) : FnOk P w K mg base CX0 1 f fd ["_law_table"] sp_leastS := by
  refine F.ok sc__law_least (fun vs H Q E h => ?_) (fun cdv A outer s H vs Q E hr h => ?_)
  · obtain ⟨l, S, N, rfl, _⟩ := h
    rfl
  · obtain ⟨l, S, N, rfl, hl, g, hN, q⟩ := h
    refine ⟨_, (pss_cons (ps_set (i := 1) sc__law_least.nd rfl (Or.inl (by kernel_rfl)) (pe_lst pa_nil))
      (pss_cons (ps_for PassesOwn.never rfl (pi_range2 (gl_of (by kernel_rfl)) T.b_range (pa_cons pe_int (pa_cons (pe_callB (lenK (K := K) rfl) (gl_of (by kernel_rfl)) T.b_len boot_len (pa_cons (pv 0) pa_nil)) pa_nil))) (pg_name (i := 2) sc__law_least.nd rfl (Or.inr (by kernel_rfl))) (pss_one (ps_if (PW.pt (pw_and (pt_val (pe_ix (ix_anyK (K := K) rfl) (pv 0) (pv 2) (fun _ _ => rfl))) (pw_and1 (pt_not (truthK (K := K) rfl (pe_comp (x := "_law_coin") (M := ["_law_table", "_law_found", "_law_number"]) rfl (CompScope.of (by kernel_rfl)) (pi_seqK (K := K) rfl (pv 1)) (fun _ _ _ _ _ => (pts_one (pt_val (pe_ix (ix_anyK (K := K) rfl) (pv 1) (pe_op op_sub (pv 3) (pv 0)) (fun _ _ => rfl))))) (fun _ _ _ _ _ => (pv 0))) (fun _ => rfl)))))) (pss_one (ps_expr (pe_bm PySem.F.plainAttrs_list PySem.F.slot_list_append PySem.F.type_list_append mt_append (pv 1) (pa_cons (pv 2) pa_nil)))) pss_nil)))
      (pss_one (ps_ret (pe_callTy (tupleK (K := K) rfl) (gl_of (by kernel_rfl)) T.b_tuple boot_tuple (pa_cons (pv 1) pa_nil)))))), ?_⟩
    refine ⟨by show 0 ≤ sizeLine; decide, fun lf hlf => ?_⟩
    have s0 := (Same.refl H).put (o := .lst []) hlf
    have hll : (upd H lf (.lst [])) l = some (.lst (tabS S N)) := s0 _ _ hl
    have nl : l ≠ lf := ne_of_none hl hlf
    refine ⟨_, rfl, l, _, rfl, .inl (.of hll), 1, _, rfl, ⟨by decide, by decide, by rw [tabS_len]; omega, by rw [tabS_len]; omega⟩, ?_⟩
    rw [tabS_len, show (((N + 1 : Nat) : Int) - 1).toNat = N by omega]
    have g0 : gensUp S 0 = [] := by
      unfold gensUp
      rw [List.filter_eq_nil_iff]
      intro a ha hb
      have h1 := mem_ints0.mp ha
      have h2 := (gnB_iff.mp hb).2.1
      omega
    refine for_range (lo := 1) (n := N) (fun i σ H' => ∃ x, σ = [some (.ref l), some (.ref lf), x] ∧ Same H H' ∧ H' lf = some (.lst (ivs (gensUp S i)))) ⟨none, rfl, s0, by rw [upd_same, g0]; rfl⟩ ?_ ?_
    · rintro i σ H1 hi ⟨x, rfl, s1, h1⟩
      have hl1 := s1 _ _ hl
      refine ⟨_, rfl, _, rfl, l, _, _, _, rfl, rfl, .lst hl1, tabS_atI S (by omega) (by omega), _, rfl, ?_⟩
      have e1 : (1 : Int) + (i : Int) = (i : Int) + 1 := by omega
      have st := gn_step g (N := i)
      rw [← e1] at st
      have fin : ∀ H2, Same H H2 → H2 lf = some (.lst (ivs (gensUp S i))) → gnB S (1 + (i : Int)) = false → ∃ x', ([some (V.ref l), some (V.ref lf), x].set 2 (some (V.int (1 + (i : Int))))) = [some (V.ref l), some (V.ref lf), x'] ∧ Same H H2 ∧ H2 lf = some (.lst (ivs (gensUp S (i + 1)))) := fun H2 s2 h2 hb => by
        refine ⟨_, rfl, s2, ?_⟩
        rw [gens_succ, ← e1, hb, if_neg Bool.false_ne_true, List.append_nil]
        exact h2
      refine ite2 (fun hs => ?_) (fun hs => ?_)
      · refine ⟨_, rfl, lf, rfl, ?_⟩
        refine comp_seq (fun _ H' => H' = H1) (onV fun c => S (1 + (i : Int) - c)) id ?_ rfl (fun _ _ e => by rw [e]; exact Same.refl _) (.lst h1) ?_ ?_
        · rw [show (ivs (gensUp S i)).length = (gensUp S i).length from List.length_map ..]
          exact Nat.lt_of_le_of_lt (Nat.le_trans (gens_len S i) (show _ ≤ 100001 by omega)) (by decide)
        · rintro j v H2 R R' hv rfl hR hR'
          obtain ⟨c, rfl, hc⟩ := ivs_nth hv
          obtain ⟨c1, c2⟩ := gens_mem.mp (List.mem_of_getElem? hc)
          have c3 := c2.2.1
          refine ⟨_, rfl, _, rfl, _, rfl, _, _, rfl, rfl, l, _, _, _, rfl, rfl, .lst hl1, tabS_atI S (by omega) (by omega), _, rfl, ?_⟩
          refine ite2 (fun h2 => ?_) (fun h2 => ?_)
          · exact ⟨_, rfl, hR H2 h2 rfl⟩
          · exact hR' H2 (Bool.eq_false_iff.mpr h2) rfl
        · rintro H2 l2 rfl hl2
          rw [ivs_on]
          have s2 := s1.put (o := .lst (ivs ((gensUp S i).filter fun c => S (1 + (i : Int) - c)))) hl2
          have h2 : (upd H2 l2 (.lst (ivs ((gensUp S i).filter fun c => S (1 + (i : Int) - c))))) lf = some (.lst (ivs (gensUp S i))) := by rw [upd_ne (ne_of_none h1 hl2)]; exact h1
          have ea : ((gensUp S i).all fun c => !S (1 + (i : Int) - c)) = (ivs ((gensUp S i).filter fun c => S (1 + (i : Int) - c))).isEmpty := by
            rw [Bool.eq_iff_iff, List.all_eq_true, List.isEmpty_iff]
            unfold ivs
            rw [List.map_eq_nil_iff, List.filter_eq_nil_iff]
            exact ⟨fun z c hc => by have := z c hc; simpa using this, fun z c hc => by have := z c hc; simpa using this⟩
          refine ⟨_, .inl ⟨_, .of upd_same, rfl⟩, ?_⟩
          rw [← ea]
          refine ite2 (fun h3 => ?_) (fun h3 => ?_)
          · have hb : gnB S (1 + (i : Int)) = true := by
              rw [st, hs]
              simpa using h3
            refine ⟨_, rfl, .inl ⟨rfl, _, .of h2⟩, _, rfl, lf, _, _, rfl, rfl, h2, ?_, _, rfl, fun b o e => ?_, ?_⟩
            · rw [show (ivs (gensUp S i)).length = (gensUp S i).length from List.length_map ..]
              exact Nat.lt_of_le_of_lt (Nat.le_trans (gens_len S i) (show _ ≤ 100001 by omega)) (by decide)
            · rw [upd_ne (ne_of_none e hlf)]
              exact s2 _ _ e
            · rw [upd_same, gens_succ, ← e1, hb, if_pos rfl]
              unfold ivs
              rw [List.map_append]
              rfl
          · refine fin _ s2 h2 ?_
            rw [st, hs, Bool.true_and]
            simpa using h3
      · refine fin H1 s1 h1 ?_
        rw [st, Bool.eq_false_iff.mpr hs, Bool.false_and]
    · rintro σ H1 ⟨x, rfl, s1, h1⟩
      refine ⟨_, rfl, lf, _, rfl, .inl ⟨.of h1, fun t ht => ?_⟩⟩
      exact q t _ (s1.put ht) upd_same
end
end CY

set_option Elab.async false
set_option linter.all false
set_option maxRecDepth 100000
set_option maxHeartbeats 4000000
namespace CY
open PySem PySem.Spec PyProof.Rows L2 L2.Tim
def sp_choices : Sp := fun vs H Q _ => ∃ m : Nat, vs = [.int (m : Int)] ∧ m ≤ 7 ∧ ∀ (l : Addr) (ps : List Addr) (H' : Hp), Same H H' → H l = none → H' l = some (.lst (ps.map V.ref)) → Tups H' ps ((chs m).map gI) → Q (.ref l) H'
def sp_holds : Sp := fun vs H Q _ => ∃ (t : Addr) (r : List Nat) (m : Nat), vs = [.ref t, .int (m : Int)] ∧ H t = some (.tup (ivs (gI r))) ∧ m ≤ 7 ∧ r.length ≤ 7 ∧ ∀ H', Same H H' → Q (.bl (hB m r)) H'
theorem inV_gI (n : Nat) (r : List Nat) : inV (.int ((n : Nat) : Int)) (ivs (gI r)) = decide (n ∈ r) := by
  rw [inV_ints, decide_eq_decide]
  exact mem_gI
theorem pow13 {m : Nat} (hm : m ≤ 7) {i : Nat} (hi : i ≤ 2 * m - 1) : 2 ^ i ≤ 8192 := Nat.le_trans (Nat.pow_le_pow_right (by decide) (show i ≤ 13 by omega)) (by decide)
section
variable {P : Program} {w : World} {K : PySem.W.Frag} {mg : Str → Option Value} {base : Heap} {c_TooBig c_Endless c_BadSum c_CoinError : Addr}
theorem ok__law_choices {f : Addr} {fd : FuncData} (F : Fun K "_law_choices" "_law_choices" s__law_choices f fd) (T : Tx mg) : FnOk P w K mg base CX0 1 f fd ["_law_many"] sp_choices := by
  refine F.ok sc__law_choices (fun vs H Q E h => ?_) (fun cdv A outer s H vs Q E hr h => ?_)
  · obtain ⟨m, rfl, _⟩ := h
    rfl
  · obtain ⟨m, rfl, hm, q⟩ := h
    refine ⟨_, (pss_cons (ps_set (i := 1) sc__law_choices.nd rfl (Or.inl (by kernel_rfl)) (pe_lst (pa_cons (pe_tup pa_nil) pa_nil)))
      (pss_cons (ps_for PassesOwn.never rfl (pi_range2 (gl_of (by kernel_rfl)) T.b_range (pa_cons pe_int (pa_cons (pe_op op_mul pe_int (pv 0)) pa_nil))) (pg_name (i := 2) sc__law_choices.nd rfl (Or.inr (by kernel_rfl))) (pss_one (ps_set (i := 1) sc__law_choices.nd rfl (Or.inl (by kernel_rfl)) (pe_op op_cat (pv 1) (pe_comp (x := "_law_row") (M := ["_law_many", "_law_found", "_law_number"]) rfl (CompScope.of (by kernel_rfl)) (pi_seqK (K := K) rfl (pv 1)) (fun _ _ _ _ _ => (pts_one (pt_cmpR op_lt (pe_callB (lenK (K := K) rfl) (gl_of (by kernel_rfl)) T.b_len boot_len (pa_cons (pv 0) pa_nil)) (pv 1) (nomark _)))) (fun _ _ _ _ _ => (pe_op op_catH (pv 0) (pe_tup (pa_cons (pv 3) pa_nil)))))))))
      (pss_one (ps_ret (pe_comp (x := "_law_row") (M := ["_law_many", "_law_found", "_law_number"]) rfl (CompScope.of (by kernel_rfl)) (pi_seqK (K := K) rfl (pv 1)) (fun _ _ _ _ _ => (pts_one (pt_cmpR op_eq (pe_callB (lenK (K := K) rfl) (gl_of (by kernel_rfl)) T.b_len boot_len (pa_cons (pv 0) pa_nil)) (pv 1) (nomark _)))) (fun _ _ _ _ _ => (pv 0))))))), ?_⟩
    refine ⟨by show 0 ≤ sizeLine; decide, fun p0 hp0 => ⟨by show 1 ≤ sizeLine; decide, fun l0 hl0 => ?_⟩⟩
    have s0 := ((Same.refl H).put (o := .tup []) hp0).put (o := .lst [V.ref p0]) hl0
    have n0 : p0 ≠ l0 := ne_of_none upd_same hl0
    refine ⟨_, rfl, _, _, rfl, rfl, .inl ⟨by decide, by decide⟩, 1, 2 * (m : Int), rfl, ⟨by decide, by decide, by omega, by omega⟩, ?_⟩
    rw [show (2 * (m : Int) - 1).toNat = 2 * m - 1 by omega]
    refine for_range (lo := 1) (n := 2 * m - 1) (fun i σ H' => ∃ (lf : Addr) (ps : List Addr) (x : Option V), σ = [some (.int (m : Int)), some (.ref lf), x] ∧ Same H H' ∧ H' lf = some (.lst (ps.map V.ref)) ∧ Tups H' ps ((chUp m i).map gI)) ⟨l0, [p0], none, rfl, s0, upd_same, ⟨by rw [upd_ne n0, upd_same]; rfl, trivial⟩⟩ ?_ ?_
    · rintro i σ H1 hi ⟨lf, ps, x, rfl, s1, hlf, tp⟩
      have hpl : ps.length = (chUp m i).length := by rw [tp.len, List.length_map]
      have hup := chUp_len m i
      have h13 := pow13 hm (Nat.le_of_lt hi)
      have row : ∀ {k : Nat} {p : Addr}, ps[k]? = some p → ∃ r, (chUp m i)[k]? = some r ∧ H1 p = some (.tup (ivs (gI r))) := fun {k p} h => by
        obtain ⟨g, hg, hpg⟩ := tups_nth tp h
        rw [List.getElem?_map] at hg
        cases e : (chUp m i)[k]? with
        | none => rw [e] at hg; cases hg
        | some r => rw [e] at hg; exact ⟨r, rfl, by rw [hpg, ← Option.some.inj hg]⟩
      refine ⟨_, rfl, _, rfl, lf, rfl, ?_⟩
      refine comp_seqG (xs := ps.map V.ref) (fun k ys H' => Same H1 H' ∧ ∃ qs, ys = qs.map V.ref ∧ qs.length ≤ k ∧ Tups H' qs ((((chUp m i).take k).filter fun r => decide (r.length < m)).map fun r => gI (r ++ [i + 1]))) (by rw [List.length_map, sizeLine_eq]; omega) ⟨Same.refl _, [], rfl, Nat.le_refl _, trivial⟩ (fun k ys H' ⟨_, qs, e, h, _⟩ => by rw [e, List.length_map]; exact h) (fun k ys H' pv => pv.1) (.lst hlf) ?_ ?_
      · rintro k v ys H2 R R' hv ⟨s2, qs, rfl, hqk, tq⟩ hR hR'
        obtain ⟨p, rfl, hp⟩ := refs_at hv
        obtain ⟨r, hr, hpr⟩ := row hp
        have hrl := chUp_row m i r (List.mem_of_getElem? hr)
        have el : (ivs (gI r)).length = r.length := by unfold ivs gI; rw [List.length_map, List.length_map]
        have tk : (chUp m i).take (k + 1) = (chUp m i).take k ++ [r] := by rw [List.take_add_one, hr]; rfl
        refine ⟨_, rfl, p, ivs (gI r), rfl, .inr (.of (s2 _ _ hpr)), _, rfl, _, _, rfl, rfl, _, rfl, ?_⟩
        rw [el]
        by_cases z : r.length < m
        · refine ifT (decide_eq_true (by omega)) ?_
          refine ⟨_, rfl, _, rfl, by show 1 ≤ sizeLine; decide, fun p1 hp1 => ?_⟩
          have s3 := (Same.refl H2).put (o := .tup [V.int (1 + (i : Int))]) hp1
          refine ⟨p, p1, ivs (gI r), [V.int (1 + (i : Int))], rfl, rfl, s3 _ _ (s2 _ _ hpr), upd_same, ?_, fun p2 H3 s4 h3 => ?_⟩
          · rw [el, sizeLine_eq]
            show _ + 1 ≤ _
            omega
          · refine hR _ H3 ⟨(s2.trans s3).trans s4, qs ++ [p2], by rw [List.map_append]; rfl, by rw [List.length_append]; show _ + 1 ≤ _; omega, ?_⟩
            rw [tk, List.filter_append, List.map_append]
            have e1 : [r].filter (fun r => decide (r.length < m)) = [r] := by rw [List.filter_cons, if_pos (decide_eq_true z)]; rfl
            rw [e1]
            refine tups_snoc ((tq.keep s3).keep s4) ?_
            rw [h3]
            show some (HO.tup (ivs (gI r) ++ [V.int (1 + (i : Int))])) = some (HO.tup (ivs (gI (r ++ [i + 1]))))
            rw [gI_app]
            unfold ivs
            rw [List.map_append]
            show some (HO.tup (_ ++ [V.int (1 + (i : Int))])) = some (HO.tup (_ ++ [V.int ((i + 1 : Nat) : Int)]))
            rw [show (1 + (i : Int)) = ((i + 1 : Nat) : Int) by omega]
        · refine ifF (decide_eq_false (by omega)) ?_
          refine hR' H2 ⟨s2, qs, rfl, by omega, ?_⟩
          rw [tk, List.filter_append]
          have e1 : [r].filter (fun r => decide (r.length < m)) = [] := by rw [List.filter_cons, if_neg (by rw [decide_eq_false z]; exact Bool.false_ne_true)]; rfl
          rw [e1, List.append_nil]
          exact tq
      · rintro ys H2 lm ⟨s2, qs, rfl, hqk, tq⟩ hlm
        rw [List.length_map] at hqk
        rw [show (chUp m i).take (ps.map V.ref).length = chUp m i by rw [List.length_map, hpl, List.take_length]] at tq
        have s3 := (Same.refl H2).put (o := .lst (qs.map V.ref)) hlm
        refine ⟨lf, lm, ps.map V.ref, qs.map V.ref, rfl, rfl, s3 _ _ (s2 _ _ hlf), upd_same, ?_, fun l3 hl3 => ?_⟩
        · rw [List.length_map, List.length_map, sizeLine_eq]
          omega
        · have s4 := s3.put (o := .lst (ps.map V.ref ++ qs.map V.ref)) hl3
          refine ⟨l3, ps ++ qs, _, rfl, (s1.trans s2).trans s4, by rw [upd_same, List.map_append], ?_⟩
          have ec : (chUp m (i + 1)).map gI = (chUp m i).map gI ++ (((chUp m i).filter fun r => decide (r.length < m)).map fun r => gI (r ++ [i + 1])) := by
            show ((chUp m i) ++ ((chUp m i).filter fun r => decide (r.length < m)).map fun r => r ++ [i + 1]).map gI = _
            rw [List.map_append, List.map_map]
            rfl
          rw [ec]
          exact tups_app ((tp.keep s2).keep s4) (tq.keep s4)
    · rintro σ H1 ⟨lf, ps, x, rfl, s1, hlf, tp⟩
      have hpl : ps.length = (chUp m (2 * m - 1)).length := by rw [tp.len, List.length_map]
      have hup := chUp_len m (2 * m - 1)
      have h13 := pow13 hm (Nat.le_refl _)
      have row : ∀ {k : Nat} {p : Addr}, ps[k]? = some p → ∃ r, (chUp m (2 * m - 1))[k]? = some r ∧ H1 p = some (.tup (ivs (gI r))) := fun {k p} h => by
        obtain ⟨g, hg, hpg⟩ := tups_nth tp h
        rw [List.getElem?_map] at hg
        cases e : (chUp m (2 * m - 1))[k]? with
        | none => rw [e] at hg; cases hg
        | some r => rw [e] at hg; exact ⟨r, rfl, by rw [hpg, ← Option.some.inj hg]⟩
      refine ⟨_, rfl, lf, rfl, ?_⟩
      refine comp_seqG (xs := ps.map V.ref) (fun k ys H' => H' = H1 ∧ ∃ qs, ys = qs.map V.ref ∧ qs.length ≤ k ∧ Tups H1 qs ((((chUp m (2 * m - 1)).take k).filter fun r => decide (r.length = m)).map gI)) (by rw [List.length_map, sizeLine_eq]; omega) ⟨rfl, [], rfl, Nat.le_refl _, trivial⟩ (fun k ys H' ⟨_, qs, e, h, _⟩ => by rw [e, List.length_map]; exact h) (fun k ys H' pv => by rw [pv.1]; exact Same.refl _) (.lst hlf) ?_ ?_
      · rintro k v ys H2 R R' hv ⟨rfl, qs, rfl, hqk, tq⟩ hR hR'
        obtain ⟨p, rfl, hp⟩ := refs_at hv
        obtain ⟨r, hr, hpr⟩ := row hp
        have el : (ivs (gI r)).length = r.length := by unfold ivs gI; rw [List.length_map, List.length_map]
        have tk : (chUp m (2 * m - 1)).take (k + 1) = (chUp m (2 * m - 1)).take k ++ [r] := by rw [List.take_add_one, hr]; rfl
        refine ⟨_, rfl, p, ivs (gI r), rfl, .inr (.of hpr), _, rfl, rfl, _, rfl, ?_⟩
        rw [el, eq_dec]
        by_cases z : r.length = m
        · refine ifT (decide_eq_true (by omega)) ?_
          refine ⟨_, rfl, hR _ H2 ⟨rfl, qs ++ [p], by rw [List.map_append]; rfl, by rw [List.length_append]; show _ + 1 ≤ _; omega, ?_⟩⟩
          rw [tk, List.filter_append, List.map_append]
          have e1 : [r].filter (fun r => decide (r.length = m)) = [r] := by rw [List.filter_cons, if_pos (decide_eq_true z)]; rfl
          rw [e1]
          exact tups_snoc tq hpr
        · refine ifF (decide_eq_false (by omega)) ?_
          refine hR' H2 ⟨rfl, qs, rfl, by omega, ?_⟩
          rw [tk, List.filter_append]
          have e1 : [r].filter (fun r => decide (r.length = m)) = [] := by rw [List.filter_cons, if_neg (by rw [decide_eq_false z]; exact Bool.false_ne_true)]; rfl
          rw [e1, List.append_nil]
          exact tq
      · rintro ys H2 l ⟨rfl, qs, rfl, hqk, tq⟩ hl
        rw [show (chUp m (2 * m - 1)).take (ps.map V.ref).length = chUp m (2 * m - 1) by rw [List.length_map, hpl, List.take_length]] at tq
        exact q l qs _ (s1.put hl) (s1.free hl) upd_same (tq.keep ((Same.refl _).put hl))
theorem ok__law_holds {f : Addr} {fd : FuncData} (F : Fun K "_law_holds" "_law_holds" s__law_holds f fd) (T : Tx mg) : FnOk P w K mg base CX0 1 f fd ["_law_row", "_law_many"] sp_holds := by
  refine F.ok sc__law_holds (fun vs H Q E h => ?_) (fun cdv A outer s H vs Q E hr h => ?_)
  · obtain ⟨t, r, m, rfl, _⟩ := h
    rfl
  · obtain ⟨t, r, m, rfl, ht, hm, hr7, q⟩ := h
    refine ⟨_, (pss_cons (ps_setComp (i := 2) (x := "_law_number") (M := ["_law_row", "_law_many", "_law_others", "_law_one"]) sc__law_holds.nd rfl (Or.inl (by kernel_rfl)) rfl (CompScope.of (by kernel_rfl)) (pi_range2 (gl_of (by kernel_rfl)) T.b_range (pa_cons pe_int (pa_cons (pe_op op_mul pe_int (pv 1)) pa_nil))) (fun _ _ _ _ _ => (pts_one (pt_cmpR (notInK (K := K) rfl) (pv 0) (pv 1) (by with_unfolding_all rfl)))) (fun _ _ _ _ _ => (pv 0)))
      (pss_cons (ps_for PassesOwn.never rfl (pi_seqK (K := K) rfl (pv 2)) (pg_name (i := 3) sc__law_holds.nd rfl (Or.inr (by kernel_rfl))) (pss_one (ps_if (truthK (K := K) rfl (pe_comp (x := "_law_two") (M := ["_law_row", "_law_many", "_law_others", "_law_one"]) rfl (CompScope.of (by kernel_rfl)) (pi_seqK (K := K) rfl (pv 2)) (fun _ _ _ _ _ => (pts_one (pt_cmpR (inK (K := K) rfl) (pe_op op_add (pv 4) (pv 0)) (pv 1) (by with_unfolding_all rfl)))) (fun _ _ _ _ _ => (pv 0))) (fun _ => rfl)) (pss_one (ps_ret pe_bl)) pss_nil)))
      (pss_one (ps_ret pe_bl)))), ?_⟩
    refine ⟨_, rfl, _, _, rfl, rfl, .inl ⟨by decide, by decide⟩, 1, 2 * (m : Int), rfl, ⟨by decide, by decide, by omega, by omega⟩, ?_⟩
    rw [show (2 * (m : Int) - 1).toNat = 2 * m - 1 by omega]
    refine comp_range (lo := 1) (n := 2 * m - 1) (fun _ H' => H' = H) (fun v => !inV v (ivs (gI r))) id (by rw [sizeLine_eq]; omega) rfl ?_ ?_
    · rintro i x H1 R R' hx rfl hR hR'
      obtain ⟨hi, rfl⟩ := rngV_nth hx
      refine ⟨_, rfl, _, rfl, t, ivs (gI r), rfl, .inr (.of ht), rfl, flat_ivs _, _, rfl, ?_⟩
      refine ite2 (fun h3 => ?_) (fun h3 => ?_)
      · exact ⟨_, rfl, hR H1 h3 rfl⟩
      · exact hR' H1 (Bool.eq_false_iff.mpr h3) rfl
    · rintro H1 lo rfl hlo
      have e1 : ((fun v => !inV v (ivs (gI r))) ∘ fun (i : Nat) => V.int (1 + (i : Int))) = ((fun n => decide (n ∉ r)) ∘ fun i => i + 1) := funext fun i => by
        show (!inV (.int (1 + (i : Int))) (ivs (gI r))) = decide (i + 1 ∉ r)
        rw [show (1 + (i : Int)) = ((i + 1 : Nat) : Int) by omega, inV_gI]
        simp
      have eo : ((rngV 1 (2 * m - 1)).filter fun v => !inV v (ivs (gI r))).map id = ivs (gI (othG m r)) := by
        unfold rngV othG
        rw [List.map_id, List.filter_map, e1, List.filter_map]
        unfold gI ivs
        rw [List.map_map, List.map_map]
        refine List.map_congr_left fun i _ => ?_
        show V.int (1 + (i : Int)) = V.int ((i + 1 : Nat) : Int)
        rw [show (1 + (i : Int)) = ((i + 1 : Nat) : Int) by omega]
      rw [eo]
      have s1 := (Same.refl H1).put (o := .lst (ivs (gI (othG m r)))) hlo
      have h1 : (upd H1 lo (.lst (ivs (gI (othG m r))))) lo = some (.lst (ivs (gI (othG m r)))) := upd_same
      have ht1 := s1 _ _ ht
      generalize upd H1 lo (.lst (ivs (gI (othG m r)))) = H2 at s1 h1 ht1 ⊢
      have ol : (othG m r).length ≤ 13 := by
        unfold othG
        refine Nat.le_trans (List.length_filter_le _ _) ?_
        rw [List.length_map, List.length_range]
        omega
      have oz : (ivs (gI (othG m r))).length < sizeLine := by
        rw [show (ivs (gI (othG m r))).length = (othG m r).length from by unfold ivs gI; rw [List.length_map, List.length_map], sizeLine_eq]
        omega
      have nth : ∀ {i : Nat} {v : V}, (ivs (gI (othG m r)))[i]? = some v → ∃ n, v = .int ((n : Nat) : Int) ∧ (othG m r)[i]? = some n := fun {i v} h => by
        unfold ivs gI at h
        rw [List.getElem?_map, List.getElem?_map] at h
        cases e : (othG m r)[i]? with
        | none => rw [e] at h; cases h
        | some n => rw [e] at h; exact ⟨n, (Option.some.inj h).symm, rfl⟩
      refine ⟨_, rfl, lo, rfl, ?_⟩
      refine for_seq (xs := ivs (gI (othG m r))) (fun i σ H' => ∃ x, σ = [some (.ref t), some (.int (m : Int)), some (.ref lo), x] ∧ Same H2 H' ∧ ((othG m r).take i).all (fun a => (othG m r).all fun b => decide (a + b ∉ r)) = true) (.lst h1) ⟨none, rfl, Same.refl _, rfl⟩ (fun i σ' H' ⟨_, _, s', _⟩ o e => by rw [h1] at e; cases e; exact s' _ _ h1) ?_ ?_
      · rintro i v σ H3 hv ⟨x, rfl, s3, ha⟩
        obtain ⟨a, rfl, hai⟩ := nth hv
        refine ⟨_, rfl, lo, rfl, ?_⟩
        refine comp_seq (fun _ H' => H' = H3) (fun v => match v with | .int b => inV (.int ((a : Int) + b)) (ivs (gI r)) | _ => false) id oz rfl (fun _ _ e => by rw [e]; exact Same.refl _) (.lst (s3 _ _ h1)) ?_ ?_
        · rintro k u H4 R R' hu rfl hR hR'
          obtain ⟨b, rfl, hbi⟩ := nth hu
          refine ⟨_, rfl, _, rfl, _, _, rfl, rfl, _, rfl, t, ivs (gI r), rfl, .inr (.of (s3 _ _ ht1)), rfl, flat_ivs _, _, rfl, ?_⟩
          refine ite2 (fun h3 => ?_) (fun h3 => ?_)
          · exact ⟨_, rfl, hR H4 h3 rfl⟩
          · exact hR' H4 (Bool.eq_false_iff.mpr h3) rfl
        · rintro H4 lt rfl hlt
          have key : ∀ b : Nat, (match V.int ((b : Nat) : Int) with | .int b => inV (.int ((a : Int) + b)) (ivs (gI r)) | _ => false) = decide (a + b ∈ r) := fun b => by
            show inV (.int ((a : Int) + (b : Int))) (ivs (gI r)) = _
            rw [show (a : Int) + (b : Int) = ((a + b : Nat) : Int) by omega, inV_gI]
          by_cases hall : (othG m r).all (fun b => decide (a + b ∉ r)) = true
          · have ee : ((ivs (gI (othG m r))).filter fun v => match v with | .int b => inV (.int ((a : Int) + b)) (ivs (gI r)) | _ => false) = [] := by
              rw [List.filter_eq_nil_iff]
              intro v hv' z
              unfold ivs gI at hv'
              rw [List.map_map] at hv'
              obtain ⟨b, hb, rfl⟩ := List.mem_map.mp hv'
              have := List.all_eq_true.mp hall b hb
              have k := key b
              rw [show (V.int ∘ fun (x : Nat) => (x : Int)) b = V.int ((b : Nat) : Int) from rfl, k] at z
              exact of_decide_eq_true this (of_decide_eq_true z)
            rw [ee]
            refine ⟨false, .inl ⟨[], .of upd_same, rfl⟩, ?_⟩
            refine iteF ?_
            refine ⟨_, rfl, s3.put hlt, ?_⟩
            rw [List.take_add_one, hai, List.all_append, ha]
            show (true && ((othG m r).all (fun b => decide (a + b ∉ r)) && true)) = true
            rw [hall]
            rfl
          · have hne : ∃ z zs, (((ivs (gI (othG m r))).filter fun v => match v with | .int b => inV (.int ((a : Int) + b)) (ivs (gI r)) | _ => false).map id) = z :: zs := by
              cases hc : (((ivs (gI (othG m r))).filter fun v => match v with | .int b => inV (.int ((a : Int) + b)) (ivs (gI r)) | _ => false).map id) with
              | cons z zs => exact ⟨z, zs, rfl⟩
              | nil =>
                exfalso
                refine hall (List.all_eq_true.mpr fun b hb => ?_)
                rw [List.map_id, List.filter_eq_nil_iff] at hc
                have := hc (V.int ((b : Nat) : Int)) (by unfold ivs gI; rw [List.map_map]; exact List.mem_map.mpr ⟨b, hb, rfl⟩)
                have k := key b
                rw [k] at this
                exact decide_eq_true fun z => this (decide_eq_true z)
            obtain ⟨z, zs, hzz⟩ := hne
            rw [hzz]
            refine ⟨true, .inl ⟨z :: zs, .of upd_same, rfl⟩, ?_⟩
            refine iteT ?_
            have e : hB m r = false := by
              unfold hB
              rw [List.all_eq_false]
              exact ⟨a, List.mem_of_getElem? hai, hall⟩
            have hq := q _ ((s1.trans s3).put (o := .lst (z :: zs)) hlt)
            rw [e] at hq
            exact hq
      · rintro σ H3 ⟨x, rfl, s3, ha⟩
        have e : hB m r = true := by
          unfold hB
          rw [show (ivs (gI (othG m r))).length = (othG m r).length from by unfold ivs gI; rw [List.length_map, List.length_map], List.take_length] at ha
          exact ha
        have hq := q _ (s1.trans s3)
        rw [e] at hq
        exact hq
theorem tab_SI (m : Nat) (r : List Nat) : (((rngV 0 (4 * m + 3)).filter fun _ => true).map fun v => V.bl (!inV v (ivs (gI r)))) = tabS (SI (gI r)) (4 * m + 2) := by
  rw [List.filter_eq_self.mpr fun _ _ => rfl]
  unfold rngV tabS
  rw [List.map_map]
  refine List.map_congr_left fun i _ => ?_
  show V.bl (!inV (.int (0 + (i : Int))) (ivs (gI r))) = V.bl (decide (0 ≤ (i : Int)) && decide ((i : Int) ∉ gI r))
  rw [Int.zero_add, inV_gI, decide_eq_true (show (0 : Int) ≤ (i : Int) by omega), Bool.true_and]
  congr 1
  by_cases h : i ∈ r
  · rw [decide_eq_true h, decide_eq_false (show ¬ (i : Int) ∉ gI r from fun z => z (mem_gI.mpr h))]
    rfl
  · rw [decide_eq_false h, decide_eq_true (show (i : Int) ∉ gI r from fun z => h (mem_gI.mp z))]
    rfl
theorem ok_law {f : Addr} {fd : FuncData} (F : Fun K "law" "law" s_law f fd) (T : Tx mg) (C__law_cell : Fn P w K mg base "_law_cell" ["_law_script", "_law_k"] 1 (sp_cell K)) (C__law_least : Fn P w K mg base "_law_least" ["_law_table"] 1 sp_leastS) (C__law_choices : Fn P w K mg base "_law_choices" ["_law_many"] 1 sp_choices) (C__law_holds : Fn P w K mg base "_law_holds" ["_law_row", "_law_many"] 1 sp_holds)
    (C_all_with : Fn P w K mg base "all_with" ["many"] 13 (sp0 (sp_allwith c_BadSum))) (C_gaps_of : Fn P w K mg base "gaps_of" ["purse"] 8 (sp0 (sp_gaps c_Endless))) (C_least_purse : Fn P w K mg base "least_purse" ["purse"] 4 sp_least) : FnOk P w K mg base CX0 14 f fd ["_law_script"] (sp_law K) := by
  refine F.ok sc_law (fun vs H Q E h => ?_) (fun cdv A outer s H vs Q E hr h => ?_)
  · obtain ⟨a, ns, rfl, _⟩ := h
    rfl
  · obtain ⟨a, ns, rfl, hS, hlen, q⟩ := h
    have hu0 := hr.units0
    have hu64 : (A.deeper (envOfC "law" (defScope s_law) s.heap.objs.size f cdv)).units + 64 < cLine := by have := hr.un; omega
    refine ⟨_, (pss_cons (ps_set (i := 1) sc_law.nd rfl (Or.inr (by kernel_rfl)) (pe_op op_mod (pe_fn C__law_cell (hr.mono (by decide)) (pa_cons (pv 0) (pa_cons pe_int pa_nil))) pe_int))
      (pss_cons (ps_set (i := 2) sc_law.nd rfl (Or.inl (by kernel_rfl)) (pe_lst pa_nil))
      (pss_cons (ps_for PassesOwn.never rfl (pi_seqK (K := K) rfl (pe_fn C__law_choices (hr.mono (by decide)) (pa_cons (pv 1) pa_nil))) (pg_name (i := 3) sc_law.nd rfl (Or.inr (by kernel_rfl))) (pss_one (ps_if (pt_val (pe_fn C__law_holds (hr.mono (by decide)) (pa_cons (pv 3) (pa_cons (pv 1) pa_nil)))) (pss_one (ps_expr (pe_bm PySem.F.plainAttrs_list PySem.F.slot_list_append PySem.F.type_list_append mt_append (pv 2) (pa_cons (pe_fn C__law_least (hr.mono (by decide)) (pa_cons (pe_comp (x := "_law_number") (M := ["_law_script", "_law_many", "_law_due", "_law_row", "_law_found"]) rfl (CompScope.of (by kernel_rfl)) (pi_range1 (gl_of (by kernel_rfl)) T.b_range (pa_cons (pe_op op_add (pe_op op_mul pe_int (pv 1)) pe_int) pa_nil)) (fun _ _ _ _ _ => pts_nil) (fun _ _ _ _ _ => (pe_cmpR (notInK (K := K) rfl) (pv 0) (pv 4) (by with_unfolding_all rfl)))) pa_nil)) pa_nil)))) pss_nil)))
      (pss_cons (ps_set (i := 4) sc_law.nd rfl (Or.inl (by kernel_rfl)) (pe_fn C_all_with (hr.mono (by decide)) (pa_cons (pv 1) pa_nil)))
      (pss_cons (ps_if (PW.pt (pw_or (pt_not (pt_val (pe_callB (isinstK (K := K) rfl) (gl_of (by kernel_rfl)) T.b_isinstance boot_isinstance (pa_cons (pv 4) (pa_cons (pe_ty T.b_list boot_list) pa_nil))))) (pw_or1 (pt_cmpR (neDK (K := K) rfl hu64) (pv 4) (pe_callB (sortedTK (K := K) rfl) (gl_of (by kernel_rfl)) T.b_sorted boot_sorted (pa_cons (pv 2) pa_nil)) (nomark _))))) (pss_one (ps_ret pe_bl)) pss_nil)
      (pss_one (ps_ret (pe_cmpR (eqLK (K := K) rfl hu0) (pe_comp (x := "_law_one") (M := ["_law_script", "_law_many", "_law_due", "_law_row", "_law_found"]) rfl (CompScope.of (by kernel_rfl)) (pi_seqK (K := K) rfl (pv 4)) (fun _ _ _ _ _ => (pts_one (PW.pt (pw_or (pt_cmpR op_ne (pe_callB (lenK (K := K) rfl) (gl_of (by kernel_rfl)) T.b_len boot_len (pa_cons (pe_fn C_gaps_of (hr.mono (by decide)) (pa_cons (pv 0) pa_nil)) pa_nil)) (pv 2) (nomark _)) (pw_or1 (pt_cmpR (neTK (K := K) rfl hu0) (pe_fn C_least_purse (hr.mono (by decide)) (pa_cons (pv 0) pa_nil)) (pv 0) (nomark _))))))) (fun _ _ _ _ _ => (pv 0))) (pe_lst pa_nil) (nomark _))))))))), ?_⟩
    refine ⟨_, rfl, a, ns, 0, rfl, hS, by decide, _, _, rfl, rfl, by show (0 : Int) < 8; decide, ?_⟩
    have z0 := Int.emod_nonneg (cell ns 0) (show (8 : Int) ≠ 0 by decide)
    have z1 := Int.emod_lt_of_pos (cell ns 0) (show 0 < (8 : Int) by decide)
    dsimp only
    obtain ⟨m, hme⟩ : ∃ m : Nat, cell ns 0 % 8 = (m : Int) := ⟨(cell ns 0 % 8).toNat, by omega⟩
    rw [hme] at z0 z1 ⊢
    have hm : m ≤ 7 := by omega
    refine ⟨by show 0 ≤ sizeLine; decide, fun ld hld => ?_⟩
    refine ⟨_, rfl, m, rfl, hm, fun lc ps H1 s1 hcn hlc tp => ⟨lc, rfl, ?_⟩⟩
    have hld1 : H1 ld = some (.lst []) := s1 _ _ upd_same
    have hpl : ps.length = (chs m).length := by rw [tp.len, List.length_map]
    have hcl : (chs m).length ≤ 8192 := by
      unfold chs
      exact Nat.le_trans (List.length_filter_le _ _) (Nat.le_trans (chUp_len m _) (pow13 hm (Nat.le_refl _)))
    have row : ∀ {k : Nat} {p : Addr}, ps[k]? = some p → ∃ r, (chs m)[k]? = some r ∧ H1 p = some (.tup (ivs (gI r))) := fun {k p} h => by
      obtain ⟨g, hg, hpg⟩ := tups_nth tp h
      rw [List.getElem?_map] at hg
      cases e : (chs m)[k]? with
      | none => rw [e] at hg; cases hg
      | some r => rw [e] at hg; exact ⟨r, rfl, by rw [hpg, ← Option.some.inj hg]⟩
    have nlc : lc ≠ ld := fun z => by rw [z, upd_same] at hcn; cases hcn
    have s0 : Same H H1 := ((Same.refl H).put hld).trans s1
    refine for_seq (xs := ps.map V.ref) (fun k σ H' => ∃ (x : Option V) (qs : List Addr), σ = [some (.ref a), some (.int (m : Int)), some (.ref ld), x, none] ∧ (∀ b o, b ≠ ld → H1 b = some o → H' b = some o) ∧ H' ld = some (.lst (qs.map V.ref)) ∧ qs.length ≤ k ∧ Tups H' qs ((((chs m).take k).filter (hB m)).map fun r => back m (gI r))) (.lst hlc) ⟨none, [], rfl, fun _ _ _ e => e, hld1, Nat.le_refl _, trivial⟩ (fun k σ' H' ⟨_, _, _, s', _⟩ o e => by rw [hlc] at e; cases e; exact s' _ _ nlc hlc) ?_ ?_
    · rintro k v σ H2 hv ⟨x, qs, rfl, s2, hld2, hqk, tq⟩
      obtain ⟨p, rfl, hp⟩ := refs_at hv
      obtain ⟨r, hr, hpr⟩ := row hp
      have hkl : k < ps.length := (List.getElem?_eq_some_iff.mp hp).1
      have npd : p ≠ ld := fun z => by rw [z, hld1] at hpr; cases hpr
      have hpr2 := s2 _ _ npd hpr
      have hrm := List.mem_of_getElem? hr
      have hr7 : r.length ≤ 7 := by
        have := of_decide_eq_true (List.mem_filter.mp hrm).2
        omega
      have tk : (chs m).take (k + 1) = (chs m).take k ++ [r] := by rw [List.take_add_one, hr]; rfl
      refine ⟨_, rfl, _, rfl, p, r, m, rfl, hpr2, hm, hr7, fun H3 s3 => ?_⟩
      refine ⟨_, rfl, ?_⟩
      have hld3 := s3 _ _ hld2
      have hpr3 := s3 _ _ hpr2
      by_cases hb : hB m r = true
      · refine ifT hb ?_
        refine ⟨_, rfl, .inl ⟨rfl, _, .of hld3⟩, ?_⟩
        refine ⟨_, rfl, _, _, rfl, rfl, .inl ⟨by decide, by decide⟩, _, _, rfl, rfl, 4 * (m : Int) + 3, rfl, by omega, by omega, ?_⟩
        rw [show (4 * (m : Int) + 3).toNat = 4 * m + 3 by omega]
        refine comp_range (lo := 0) (n := 4 * m + 3) (fun _ H' => H' = H3) (fun _ => true) (fun v => V.bl (!inV v (ivs (gI r)))) (by rw [sizeLine_eq]; omega) rfl ?_ ?_
        · rintro i y H4 R R' hy rfl hR hR'
          obtain ⟨hi, rfl⟩ := rngV_nth hy
          refine true_then ?_
          exact ⟨_, rfl, _, rfl, p, ivs (gI r), rfl, .inr (.of hpr3), rfl, flat_ivs _, hR _ rfl rfl⟩
        · rintro H4 lt rfl hlt
          rw [tab_SI]
          have nld : ld ≠ lt := ne_of_none hld3 hlt
          have hrG := rows_in hm hrm hb
          refine ⟨lt, SI (gI r), 4 * m + 2, rfl, upd_same, row_sg hm hrG, by omega, fun tt H5 s5 htt => ?_⟩
          have s45 := ((Same.refl H4).put (o := .lst (tabS (SI (gI r)) (4 * m + 2))) hlt).trans s5
          have hld5 := s45 _ _ hld3
          refine ⟨ld, qs.map V.ref, .ref tt, rfl, rfl, hld5, ?_, ?_⟩
          · rw [List.length_map, sizeLine_eq]
            omega
          · refine ⟨_, qs ++ [tt], rfl, fun b o nb e => by rw [upd_ne nb]; exact s45 _ _ (s3 _ _ (s2 _ _ nb e)), by rw [upd_same, List.map_append]; rfl, by rw [List.length_append]; show _ + 1 ≤ _; omega, ?_⟩
            rw [tk, List.filter_append, List.map_append]
            have e1 : [r].filter (hB m) = [r] := by rw [List.filter_cons, if_pos hb]; rfl
            rw [e1]
            exact tups_upd hld5 (tups_snoc ((tq.keep s3).keep s45) htt)
      · refine ifF (Bool.eq_false_iff.mpr hb) ?_
        refine ⟨_, qs, rfl, fun b o nb e => s3 _ _ (s2 _ _ nb e), hld3, by omega, ?_⟩
        rw [tk, List.filter_append]
        have e1 : [r].filter (hB m) = [] := by rw [List.filter_cons, if_neg hb]; rfl
        rw [e1, List.append_nil]
        exact tq.keep s3
    · rintro σ H2 ⟨x, qs, rfl, s2, hld2, hqk, tq⟩
      rw [List.length_map] at hqk
      rw [show (chs m).take (ps.map V.ref).length = chs m by rw [List.length_map, hpl, List.take_length]] at tq
      refine ⟨_, rfl, m, rfl, hm, fun wss aw lx lf fs H3 s3 hfn hlf tf => ?_⟩
      have dp := due_perm hm aw
      have tq3 := tq.keep s3
      have hat := tups_at tq3
      refine ⟨_, rfl, _, _, _, _, rfl, .lst hlf, kit_ll K, true, rfl, ?_⟩
      refine ifF rfl ?_
      refine ⟨_, rfl, _, rfl, ld, qs, tupI H3, rfl, .of (s3 _ _ hld2), fun b hb => ⟨fun z => ?_, .of (hat b hb).1⟩, fun ls rs hls pm pw => ?_⟩
      · have := (hat b hb).2
        rw [z] at this
        exact (aw.all _ (dp.mem_iff.mp this)).purse.ne rfl
      · have em := tups_map tq3
        have pmk : (rs.map (tupI H3)).Perm wss := (by rw [← em]; exact pm.map _ : (rs.map (tupI H3)).Perm _).trans dp
        have ek : wss = rs.map (tupI H3) := lexr_ext lx (lexr_of pw (pmk.nodup_iff.mpr (aw.nodup hm))) fun ks => (pmk.mem_iff).symm
        have hra : ∀ b ∈ rs, H3 b = some (.tup (ivs (tupI H3 b))) := fun b hb => (hat b (pm.mem_iff.mp hb)).1
        have s4 : Same H3 (upd H3 ls (.lst (rs.map V.ref))) := (Same.refl H3).put hls
        have hls4 : (upd H3 ls (.lst (rs.map V.ref))) ls = some (.lst (rs.map V.ref)) := upd_same
        generalize upd H3 ls (.lst (rs.map V.ref)) = H4 at s4 hls4 ⊢
        have tf4 := tf.keep s4
        have hlf4 := s4 _ _ hlf
        refine ⟨.list (dTups wss), .list (dTups (rs.map (tupI H3))), .lst (.of hlf4) tf4.dr, .lst (.of hls4) ((tups_of hra).keep s4).dr, shaped_tups _, shaped_tups _, _, rfl, ?_⟩
        have ev : (if true = true then !PyData.eqv (.list (dTups wss)) (.list (dTups (rs.map (tupI H3)))) else PyData.eqv (.list (dTups wss)) (.list (dTups (rs.map (tupI H3))))) = false := by
          rw [if_pos rfl]
          show (!PyData.eqvAll (dTups wss) (dTups (rs.map (tupI H3)))) = false
          rw [eqv_tups, decide_eq_true ek]
          rfl
        rw [ev]
        refine iteF ?_
        have fl : fs.length ≤ 39 := by rw [tf.len, aw.len]; exact (Gs_small ⟨m, by omega⟩).2.1
        refine ⟨_, rfl, lf, rfl, ?_⟩
        refine comp_seq (fun _ H' => Same H4 H') (fun _ => false) id (by rw [List.length_map, sizeLine_eq]; omega) (Same.refl _) (fun _ _ e => e) (.lst hlf4) ?_ ?_
        · rintro k v H5 R R' hv s5 hR hR'
          obtain ⟨p, rfl, hp⟩ := refs_at hv
          obtain ⟨ws, hw, hpw⟩ := tups_nth tf4 hp
          have hwm := List.mem_of_getElem? hw
          have o := aw.all ws hwm
          obtain ⟨G, hGm, hG⟩ := aw.gap hwm
          have hGl : G.length = m := ((Gs_small ⟨m, by omega⟩).2.2 G hGm).2
          have P4 : Purse 400 ws := ⟨o.purse.rise, o.purse.ne, o.purse.few, o.purse.lo, fun c hc => by have := o.purse.hi c hc; omega⟩
          refine ⟨_, rfl, p, ws, rfl, s5 _ _ hpw, P4, fun _ lg H6 s6 hgn hlg => ?_, fun z => absurd o.gcd z⟩
          have el : (ivs (gaps ws)).length = m := by rw [hG]; unfold ivs gI; rw [List.length_map, List.length_map, hGl]
          refine ⟨lg, ivs (gaps ws), rfl, .inl (.of hlg), _, rfl, rfl, _, rfl, ?_⟩
          rw [el, ne_dec, decide_eq_true rfl]
          refine iteF ?_
          refine ⟨_, rfl, p, ws, rfl, s6 _ _ (s5 _ _ hpw), P4, fun tl H7 s7 htl => ?_⟩
          have elp : lp ws = ws := (lp_lst o.purse).uniq o.lst
          rw [elp] at htl
          refine ⟨_, rfl, tl, p, _, _, rfl, rfl, .of htl, .of (s7 _ _ (s6 _ _ (s5 _ _ hpw))), flat_ivs _, flat_ivs _, _, rfl, ?_⟩
          refine ifF (by rw [if_pos rfl, eqVs_ints, decide_eq_true rfl]; rfl) ?_
          exact hR' _ rfl ((s5.trans s6).trans s7)
        · rintro H5 l s5 hl5
          rw [List.filter_eq_nil_iff.mpr fun _ _ z => Bool.noConfusion z]
          refine ⟨by show 0 ≤ sizeLine; decide, fun l7 hl7 => ?_⟩
          refine ⟨l, l7, [], [], rfl, rfl, .of (by rw [upd_ne (ne_of_none upd_same hl7)]; exact upd_same), .of upd_same, rfl, rfl, ?_⟩
          exact q _
end
end CY

set_option Elab.async false
set_option linter.all false
set_option maxRecDepth 100000
namespace L2
open PySem PySem.Spec PyProof.Rows
/-- the same end behind the other head -/
theorem walkZ_of {l : PySem.W.OpenLaw} {n k : Nat} {q : Program} {loose : List Str} {XP : (Str → Option Value) → Heap → Prop} {d : DefRec} {K : Params → PySem.W.Frag} {CX : World → CXT} {sp : World → Sp} {x : Str} {as : List Addr} {m t : Nat}
    (e : ∀ P, as = (K P).map (·.1)) (hn : l.most = some n) (hn2 : n ≤ sizeLine) (hdf : d.params.defaults = []) (hr : Room k callerA)
    (F : ∀ (w : World) (mg : Str → Option Value) (fa : Addr) (h : Heap), (K w.params).In h → h.Ns mainGlobals mg → mg d.name = some (.ref fa) →
      ∃ fd : FuncData, (∀ (s : Shared) (u : Value), BindsTo s fd ⟨[u], []⟩ [(x, u)]) ∧
        ∀ base : Heap, (K w.params).In base → base.Ns mainGlobals mg → FnOk l.prog w (K w.params) mg base (CX w) k fa fd [x] (sp w))
    (hsp : ∀ (w : World) (H : Hp) (a : Addr) (ns : List Int), ns.length ≤ n → Only H → SqL (K w.params) H a (ns.map V.int) → sp w [.ref a] H (fun v _ => v = .bl true) fun _ _ _ => False)
    (hCX : ∀ (w : World) (H : Hp) (s : Shared) (e : Value) (s' : Shared), CX w [] H s (fun _ _ _ => False) e s' → False) :
    PySem.W.WalkX q loose XP (PySem.W.X.obsZ as) (PySem.W.X.valZ K m t) l.row.toRowW d [] (fun f vs => PySem.call f vs) := by
  have W := walk_of (l := l) (q := q) (loose := loose) (XP := XP) (YP := fun w h => (K w.params).In h) (d := d) (K := K) (CX := CX) (sp := sp) (x := x) hn hn2 hdf hr (fun _ _ z => z) F hsp hCX
  intro w s₀ s₁ mg mb G y a o pm cd doc dV kV ho hd hcd hD hmg hg args vals as' L hpre hlay hrd hwl hlo
  have hin : (K w.params).In s₀.heap := (PySem.W.X.z_facts e y).2.1
  exact W w s₀ s₁ mg mb G (PySem.W.Frag.In.keeps hin L.keeps) a o pm cd doc dV kV ho hd hcd hD hmg hg args vals as' hpre hlay hrd hwl hlo
end L2

set_option Elab.async false
set_option linter.all false
set_option maxRecDepth 100000
set_option maxHeartbeats 4000000
namespace CY
open PySem PySem.Spec PyProof.Rows L2
theorem all_mk {l : PySem.W.OpenLaw} {w : World} {K : PySem.W.Frag} {h : Heap} {mg : Str → Option Value} {fa x_is_whole x_common_divisor x_checked x_divisor_of x_add_coin x_needed_of x_least_purse x_least_purse_of x_add_once x_add_coin_to_least x_least_sums_by x_least_sums x_is_reached x_check_gaps_end x_least_sums_of_every_rest x_gaps_of x_greatest_gap x_without_sum x_children_of x_all_with x__law_cell x__law_least x__law_choices x__law_holds x_law : Addr} {od_is_whole an_is_whole od_common_divisor an_common_divisor od_checked an_checked od_divisor_of an_divisor_of od_add_coin an_add_coin od_needed_of an_needed_of od_least_purse an_least_purse od_least_purse_of an_least_purse_of od_add_once an_add_once od_add_coin_to_least an_add_coin_to_least od_least_sums_by an_least_sums_by od_least_sums an_least_sums od_is_reached an_is_reached od_check_gaps_end an_check_gaps_end od_least_sums_of_every_rest an_least_sums_of_every_rest od_gaps_of an_gaps_of od_greatest_gap an_greatest_gap od_without_sum an_without_sum od_children_of an_children_of od_all_with an_all_with od__law_cell an__law_cell od__law_least an__law_least od__law_choices an__law_choices od__law_holds an__law_holds od_law an_law : Option Addr} {sl_is_whole sl_common_divisor sl_checked sl_divisor_of sl_add_coin sl_needed_of sl_least_purse sl_least_purse_of sl_add_once sl_add_coin_to_least sl_least_sums_by sl_least_sums sl_is_reached sl_check_gaps_end sl_least_sums_of_every_rest sl_gaps_of sl_greatest_gap sl_without_sum sl_children_of sl_all_with sl__law_cell sl__law_least sl__law_choices sl__law_holds sl_law : Array (Option Value)} {oc_is_whole kV_is_whole dc_is_whole pm_is_whole cd_is_whole ct_is_whole oc_common_divisor kV_common_divisor dc_common_divisor pm_common_divisor cd_common_divisor ct_common_divisor oc_checked kV_checked dc_checked pm_checked cd_checked ct_checked oc_divisor_of kV_divisor_of dc_divisor_of pm_divisor_of cd_divisor_of ct_divisor_of oc_add_coin kV_add_coin dc_add_coin pm_add_coin cd_add_coin ct_add_coin oc_needed_of kV_needed_of dc_needed_of pm_needed_of cd_needed_of ct_needed_of oc_least_purse kV_least_purse dc_least_purse pm_least_purse cd_least_purse ct_least_purse oc_least_purse_of kV_least_purse_of dc_least_purse_of pm_least_purse_of cd_least_purse_of ct_least_purse_of oc_add_once kV_add_once dc_add_once pm_add_once cd_add_once ct_add_once oc_add_coin_to_least kV_add_coin_to_least dc_add_coin_to_least pm_add_coin_to_least cd_add_coin_to_least ct_add_coin_to_least oc_least_sums_by kV_least_sums_by dc_least_sums_by pm_least_sums_by cd_least_sums_by ct_least_sums_by oc_least_sums kV_least_sums dc_least_sums pm_least_sums cd_least_sums ct_least_sums oc_is_reached kV_is_reached dc_is_reached pm_is_reached cd_is_reached ct_is_reached oc_check_gaps_end kV_check_gaps_end dc_check_gaps_end pm_check_gaps_end cd_check_gaps_end ct_check_gaps_end oc_least_sums_of_every_rest kV_least_sums_of_every_rest dc_least_sums_of_every_rest pm_least_sums_of_every_rest cd_least_sums_of_every_rest ct_least_sums_of_every_rest oc_gaps_of kV_gaps_of dc_gaps_of pm_gaps_of cd_gaps_of ct_gaps_of oc_greatest_gap kV_greatest_gap dc_greatest_gap pm_greatest_gap cd_greatest_gap ct_greatest_gap oc_without_sum kV_without_sum dc_without_sum pm_without_sum cd_without_sum ct_without_sum oc_children_of kV_children_of dc_children_of pm_children_of cd_children_of ct_children_of oc_all_with kV_all_with dc_all_with pm_all_with cd_all_with ct_all_with oc__law_cell kV__law_cell dc__law_cell pm__law_cell cd__law_cell ct__law_cell oc__law_least kV__law_least dc__law_least pm__law_least cd__law_least ct__law_least oc__law_choices kV__law_choices dc__law_choices pm__law_choices cd__law_choices ct__law_choices oc__law_holds kV__law_holds dc__law_holds pm__law_holds cd__law_holds ct__law_holds oc_law kV_law dc_law pm_law cd_law ct_law : Value} {t_MOST_COINS t_GREATEST_COIN t_MOST_GAPS : Tok} {c_CoinError c_BadSum c_Endless c_TooBig : Addr} (X : K.In h) (G : h.Ns mainGlobals mg) (hfa : mg "law" = some (.ref fa))
    (a_is_whole : PySem.W.nsIn K mainGlobals "is_whole" = some (some (.ref x_is_whole)))
    (l_is_whole : K.lookup x_is_whole = some ⟨oc_is_whole, od_is_whole, .func (PySem.W.fnOf "is_whole" "is_whole" (defArgs s_is_whole) (defBody s_is_whole) (defScope s_is_whole) .none kV_is_whole dc_is_whole pm_is_whole an_is_whole cd_is_whole ct_is_whole), sl_is_whole⟩)
    (c_is_whole : PySem.W.codeIn K cd_is_whole "is_whole" = true)
    (k_is_whole : PySem.W.keepIn K (.ref x_is_whole) = true)
    (a_common_divisor : PySem.W.nsIn K mainGlobals "common_divisor" = some (some (.ref x_common_divisor)))
    (l_common_divisor : K.lookup x_common_divisor = some ⟨oc_common_divisor, od_common_divisor, .func (PySem.W.fnOf "common_divisor" "common_divisor" (defArgs s_common_divisor) (defBody s_common_divisor) (defScope s_common_divisor) .none kV_common_divisor dc_common_divisor pm_common_divisor an_common_divisor cd_common_divisor ct_common_divisor), sl_common_divisor⟩)
    (c_common_divisor : PySem.W.codeIn K cd_common_divisor "common_divisor" = true)
    (k_common_divisor : PySem.W.keepIn K (.ref x_common_divisor) = true)
    (a_checked : PySem.W.nsIn K mainGlobals "checked" = some (some (.ref x_checked)))
    (l_checked : K.lookup x_checked = some ⟨oc_checked, od_checked, .func (PySem.W.fnOf "checked" "checked" (defArgs s_checked) (defBody s_checked) (defScope s_checked) .none kV_checked dc_checked pm_checked an_checked cd_checked ct_checked), sl_checked⟩)
    (c_checked : PySem.W.codeIn K cd_checked "checked" = true)
    (k_checked : PySem.W.keepIn K (.ref x_checked) = true)
    (a_divisor_of : PySem.W.nsIn K mainGlobals "divisor_of" = some (some (.ref x_divisor_of)))
    (l_divisor_of : K.lookup x_divisor_of = some ⟨oc_divisor_of, od_divisor_of, .func (PySem.W.fnOf "divisor_of" "divisor_of" (defArgs s_divisor_of) (defBody s_divisor_of) (defScope s_divisor_of) .none kV_divisor_of dc_divisor_of pm_divisor_of an_divisor_of cd_divisor_of ct_divisor_of), sl_divisor_of⟩)
    (c_divisor_of : PySem.W.codeIn K cd_divisor_of "divisor_of" = true)
    (k_divisor_of : PySem.W.keepIn K (.ref x_divisor_of) = true)
    (a_add_coin : PySem.W.nsIn K mainGlobals "add_coin" = some (some (.ref x_add_coin)))
    (l_add_coin : K.lookup x_add_coin = some ⟨oc_add_coin, od_add_coin, .func (PySem.W.fnOf "add_coin" "add_coin" (defArgs s_add_coin) (defBody s_add_coin) (defScope s_add_coin) .none kV_add_coin dc_add_coin pm_add_coin an_add_coin cd_add_coin ct_add_coin), sl_add_coin⟩)
    (c_add_coin : PySem.W.codeIn K cd_add_coin "add_coin" = true)
    (k_add_coin : PySem.W.keepIn K (.ref x_add_coin) = true)
    (a_needed_of : PySem.W.nsIn K mainGlobals "needed_of" = some (some (.ref x_needed_of)))
    (l_needed_of : K.lookup x_needed_of = some ⟨oc_needed_of, od_needed_of, .func (PySem.W.fnOf "needed_of" "needed_of" (defArgs s_needed_of) (defBody s_needed_of) (defScope s_needed_of) .none kV_needed_of dc_needed_of pm_needed_of an_needed_of cd_needed_of ct_needed_of), sl_needed_of⟩)
    (c_needed_of : PySem.W.codeIn K cd_needed_of "needed_of" = true)
    (k_needed_of : PySem.W.keepIn K (.ref x_needed_of) = true)
    (a_least_purse : PySem.W.nsIn K mainGlobals "least_purse" = some (some (.ref x_least_purse)))
    (l_least_purse : K.lookup x_least_purse = some ⟨oc_least_purse, od_least_purse, .func (PySem.W.fnOf "least_purse" "least_purse" (defArgs s_least_purse) (defBody s_least_purse) (defScope s_least_purse) .none kV_least_purse dc_least_purse pm_least_purse an_least_purse cd_least_purse ct_least_purse), sl_least_purse⟩)
    (c_least_purse : PySem.W.codeIn K cd_least_purse "least_purse" = true)
    (k_least_purse : PySem.W.keepIn K (.ref x_least_purse) = true)
    (a_least_purse_of : PySem.W.nsIn K mainGlobals "least_purse_of" = some (some (.ref x_least_purse_of)))
    (l_least_purse_of : K.lookup x_least_purse_of = some ⟨oc_least_purse_of, od_least_purse_of, .func (PySem.W.fnOf "least_purse_of" "least_purse_of" (defArgs s_least_purse_of) (defBody s_least_purse_of) (defScope s_least_purse_of) .none kV_least_purse_of dc_least_purse_of pm_least_purse_of an_least_purse_of cd_least_purse_of ct_least_purse_of), sl_least_purse_of⟩)
    (c_least_purse_of : PySem.W.codeIn K cd_least_purse_of "least_purse_of" = true)
    (k_least_purse_of : PySem.W.keepIn K (.ref x_least_purse_of) = true)
    (a_add_once : PySem.W.nsIn K mainGlobals "add_once" = some (some (.ref x_add_once)))
    (l_add_once : K.lookup x_add_once = some ⟨oc_add_once, od_add_once, .func (PySem.W.fnOf "add_once" "add_once" (defArgs s_add_once) (defBody s_add_once) (defScope s_add_once) .none kV_add_once dc_add_once pm_add_once an_add_once cd_add_once ct_add_once), sl_add_once⟩)
    (c_add_once : PySem.W.codeIn K cd_add_once "add_once" = true)
    (k_add_once : PySem.W.keepIn K (.ref x_add_once) = true)
    (a_add_coin_to_least : PySem.W.nsIn K mainGlobals "add_coin_to_least" = some (some (.ref x_add_coin_to_least)))
    (l_add_coin_to_least : K.lookup x_add_coin_to_least = some ⟨oc_add_coin_to_least, od_add_coin_to_least, .func (PySem.W.fnOf "add_coin_to_least" "add_coin_to_least" (defArgs s_add_coin_to_least) (defBody s_add_coin_to_least) (defScope s_add_coin_to_least) .none kV_add_coin_to_least dc_add_coin_to_least pm_add_coin_to_least an_add_coin_to_least cd_add_coin_to_least ct_add_coin_to_least), sl_add_coin_to_least⟩)
    (c_add_coin_to_least : PySem.W.codeIn K cd_add_coin_to_least "add_coin_to_least" = true)
    (k_add_coin_to_least : PySem.W.keepIn K (.ref x_add_coin_to_least) = true)
    (a_least_sums_by : PySem.W.nsIn K mainGlobals "least_sums_by" = some (some (.ref x_least_sums_by)))
    (l_least_sums_by : K.lookup x_least_sums_by = some ⟨oc_least_sums_by, od_least_sums_by, .func (PySem.W.fnOf "least_sums_by" "least_sums_by" (defArgs s_least_sums_by) (defBody s_least_sums_by) (defScope s_least_sums_by) .none kV_least_sums_by dc_least_sums_by pm_least_sums_by an_least_sums_by cd_least_sums_by ct_least_sums_by), sl_least_sums_by⟩)
    (c_least_sums_by : PySem.W.codeIn K cd_least_sums_by "least_sums_by" = true)
    (k_least_sums_by : PySem.W.keepIn K (.ref x_least_sums_by) = true)
    (a_least_sums : PySem.W.nsIn K mainGlobals "least_sums" = some (some (.ref x_least_sums)))
    (l_least_sums : K.lookup x_least_sums = some ⟨oc_least_sums, od_least_sums, .func (PySem.W.fnOf "least_sums" "least_sums" (defArgs s_least_sums) (defBody s_least_sums) (defScope s_least_sums) .none kV_least_sums dc_least_sums pm_least_sums an_least_sums cd_least_sums ct_least_sums), sl_least_sums⟩)
    (c_least_sums : PySem.W.codeIn K cd_least_sums "least_sums" = true)
    (k_least_sums : PySem.W.keepIn K (.ref x_least_sums) = true)
    (a_is_reached : PySem.W.nsIn K mainGlobals "is_reached" = some (some (.ref x_is_reached)))
    (l_is_reached : K.lookup x_is_reached = some ⟨oc_is_reached, od_is_reached, .func (PySem.W.fnOf "is_reached" "is_reached" (defArgs s_is_reached) (defBody s_is_reached) (defScope s_is_reached) .none kV_is_reached dc_is_reached pm_is_reached an_is_reached cd_is_reached ct_is_reached), sl_is_reached⟩)
    (c_is_reached : PySem.W.codeIn K cd_is_reached "is_reached" = true)
    (k_is_reached : PySem.W.keepIn K (.ref x_is_reached) = true)
    (a_check_gaps_end : PySem.W.nsIn K mainGlobals "check_gaps_end" = some (some (.ref x_check_gaps_end)))
    (l_check_gaps_end : K.lookup x_check_gaps_end = some ⟨oc_check_gaps_end, od_check_gaps_end, .func (PySem.W.fnOf "check_gaps_end" "check_gaps_end" (defArgs s_check_gaps_end) (defBody s_check_gaps_end) (defScope s_check_gaps_end) .none kV_check_gaps_end dc_check_gaps_end pm_check_gaps_end an_check_gaps_end cd_check_gaps_end ct_check_gaps_end), sl_check_gaps_end⟩)
    (c_check_gaps_end : PySem.W.codeIn K cd_check_gaps_end "check_gaps_end" = true)
    (k_check_gaps_end : PySem.W.keepIn K (.ref x_check_gaps_end) = true)
    (a_least_sums_of_every_rest : PySem.W.nsIn K mainGlobals "least_sums_of_every_rest" = some (some (.ref x_least_sums_of_every_rest)))
    (l_least_sums_of_every_rest : K.lookup x_least_sums_of_every_rest = some ⟨oc_least_sums_of_every_rest, od_least_sums_of_every_rest, .func (PySem.W.fnOf "least_sums_of_every_rest" "least_sums_of_every_rest" (defArgs s_least_sums_of_every_rest) (defBody s_least_sums_of_every_rest) (defScope s_least_sums_of_every_rest) .none kV_least_sums_of_every_rest dc_least_sums_of_every_rest pm_least_sums_of_every_rest an_least_sums_of_every_rest cd_least_sums_of_every_rest ct_least_sums_of_every_rest), sl_least_sums_of_every_rest⟩)
    (c_least_sums_of_every_rest : PySem.W.codeIn K cd_least_sums_of_every_rest "least_sums_of_every_rest" = true)
    (k_least_sums_of_every_rest : PySem.W.keepIn K (.ref x_least_sums_of_every_rest) = true)
    (a_gaps_of : PySem.W.nsIn K mainGlobals "gaps_of" = some (some (.ref x_gaps_of)))
    (l_gaps_of : K.lookup x_gaps_of = some ⟨oc_gaps_of, od_gaps_of, .func (PySem.W.fnOf "gaps_of" "gaps_of" (defArgs s_gaps_of) (defBody s_gaps_of) (defScope s_gaps_of) .none kV_gaps_of dc_gaps_of pm_gaps_of an_gaps_of cd_gaps_of ct_gaps_of), sl_gaps_of⟩)
    (c_gaps_of : PySem.W.codeIn K cd_gaps_of "gaps_of" = true)
    (k_gaps_of : PySem.W.keepIn K (.ref x_gaps_of) = true)
    (a_greatest_gap : PySem.W.nsIn K mainGlobals "greatest_gap" = some (some (.ref x_greatest_gap)))
    (l_greatest_gap : K.lookup x_greatest_gap = some ⟨oc_greatest_gap, od_greatest_gap, .func (PySem.W.fnOf "greatest_gap" "greatest_gap" (defArgs s_greatest_gap) (defBody s_greatest_gap) (defScope s_greatest_gap) .none kV_greatest_gap dc_greatest_gap pm_greatest_gap an_greatest_gap cd_greatest_gap ct_greatest_gap), sl_greatest_gap⟩)
    (c_greatest_gap : PySem.W.codeIn K cd_greatest_gap "greatest_gap" = true)
    (k_greatest_gap : PySem.W.keepIn K (.ref x_greatest_gap) = true)
    (a_without_sum : PySem.W.nsIn K mainGlobals "without_sum" = some (some (.ref x_without_sum)))
    (l_without_sum : K.lookup x_without_sum = some ⟨oc_without_sum, od_without_sum, .func (PySem.W.fnOf "without_sum" "without_sum" (defArgs s_without_sum) (defBody s_without_sum) (defScope s_without_sum) .none kV_without_sum dc_without_sum pm_without_sum an_without_sum cd_without_sum ct_without_sum), sl_without_sum⟩)
    (c_without_sum : PySem.W.codeIn K cd_without_sum "without_sum" = true)
    (k_without_sum : PySem.W.keepIn K (.ref x_without_sum) = true)
    (a_children_of : PySem.W.nsIn K mainGlobals "children_of" = some (some (.ref x_children_of)))
    (l_children_of : K.lookup x_children_of = some ⟨oc_children_of, od_children_of, .func (PySem.W.fnOf "children_of" "children_of" (defArgs s_children_of) (defBody s_children_of) (defScope s_children_of) .none kV_children_of dc_children_of pm_children_of an_children_of cd_children_of ct_children_of), sl_children_of⟩)
    (c_children_of : PySem.W.codeIn K cd_children_of "children_of" = true)
    (k_children_of : PySem.W.keepIn K (.ref x_children_of) = true)
    (a_all_with : PySem.W.nsIn K mainGlobals "all_with" = some (some (.ref x_all_with)))
    (l_all_with : K.lookup x_all_with = some ⟨oc_all_with, od_all_with, .func (PySem.W.fnOf "all_with" "all_with" (defArgs s_all_with) (defBody s_all_with) (defScope s_all_with) .none kV_all_with dc_all_with pm_all_with an_all_with cd_all_with ct_all_with), sl_all_with⟩)
    (c_all_with : PySem.W.codeIn K cd_all_with "all_with" = true)
    (k_all_with : PySem.W.keepIn K (.ref x_all_with) = true)
    (a__law_cell : PySem.W.nsIn K mainGlobals "_law_cell" = some (some (.ref x__law_cell)))
    (l__law_cell : K.lookup x__law_cell = some ⟨oc__law_cell, od__law_cell, .func (PySem.W.fnOf "_law_cell" "_law_cell" (defArgs s__law_cell) (defBody s__law_cell) (defScope s__law_cell) .none kV__law_cell dc__law_cell pm__law_cell an__law_cell cd__law_cell ct__law_cell), sl__law_cell⟩)
    (c__law_cell : PySem.W.codeIn K cd__law_cell "_law_cell" = true)
    (k__law_cell : PySem.W.keepIn K (.ref x__law_cell) = true)
    (a__law_least : PySem.W.nsIn K mainGlobals "_law_least" = some (some (.ref x__law_least)))
    (l__law_least : K.lookup x__law_least = some ⟨oc__law_least, od__law_least, .func (PySem.W.fnOf "_law_least" "_law_least" (defArgs s__law_least) (defBody s__law_least) (defScope s__law_least) .none kV__law_least dc__law_least pm__law_least an__law_least cd__law_least ct__law_least), sl__law_least⟩)
    (c__law_least : PySem.W.codeIn K cd__law_least "_law_least" = true)
    (k__law_least : PySem.W.keepIn K (.ref x__law_least) = true)
    (a__law_choices : PySem.W.nsIn K mainGlobals "_law_choices" = some (some (.ref x__law_choices)))
    (l__law_choices : K.lookup x__law_choices = some ⟨oc__law_choices, od__law_choices, .func (PySem.W.fnOf "_law_choices" "_law_choices" (defArgs s__law_choices) (defBody s__law_choices) (defScope s__law_choices) .none kV__law_choices dc__law_choices pm__law_choices an__law_choices cd__law_choices ct__law_choices), sl__law_choices⟩)
    (c__law_choices : PySem.W.codeIn K cd__law_choices "_law_choices" = true)
    (k__law_choices : PySem.W.keepIn K (.ref x__law_choices) = true)
    (a__law_holds : PySem.W.nsIn K mainGlobals "_law_holds" = some (some (.ref x__law_holds)))
    (l__law_holds : K.lookup x__law_holds = some ⟨oc__law_holds, od__law_holds, .func (PySem.W.fnOf "_law_holds" "_law_holds" (defArgs s__law_holds) (defBody s__law_holds) (defScope s__law_holds) .none kV__law_holds dc__law_holds pm__law_holds an__law_holds cd__law_holds ct__law_holds), sl__law_holds⟩)
    (c__law_holds : PySem.W.codeIn K cd__law_holds "_law_holds" = true)
    (k__law_holds : PySem.W.keepIn K (.ref x__law_holds) = true)
    (a_law : PySem.W.nsIn K mainGlobals "law" = some (some (.ref x_law)))
    (l_law : K.lookup x_law = some ⟨oc_law, od_law, .func (PySem.W.fnOf "law" "law" (defArgs s_law) (defBody s_law) (defScope s_law) .none kV_law dc_law pm_law an_law cd_law ct_law), sl_law⟩)
    (c_law : PySem.W.codeIn K cd_law "law" = true)
    (k_law : PySem.W.keepIn K (.ref x_law) = true)
    (v_MOST_COINS : PySem.W.nsIn K mainGlobals "MOST_COINS" = some (some (.int 40 t_MOST_COINS)))
    (v_GREATEST_COIN : PySem.W.nsIn K mainGlobals "GREATEST_COIN" = some (some (.int 400 t_GREATEST_COIN)))
    (v_MOST_GAPS : PySem.W.nsIn K mainGlobals "MOST_GAPS" = some (some (.int 7 t_MOST_GAPS)))
    (z_len : PySem.W.nsIn K mainGlobals "len" = some none)
    (z_isinstance : PySem.W.nsIn K mainGlobals "isinstance" = some none)
    (z_max : PySem.W.nsIn K mainGlobals "max" = some none)
    (z_sorted : PySem.W.nsIn K mainGlobals "sorted" = some none)
    (z_set : PySem.W.nsIn K mainGlobals "set" = some none)
    (z_tuple : PySem.W.nsIn K mainGlobals "tuple" = some none)
    (z_list : PySem.W.nsIn K mainGlobals "list" = some none)
    (z_int : PySem.W.nsIn K mainGlobals "int" = some none)
    (z_bool : PySem.W.nsIn K mainGlobals "bool" = some none)
    (z_range : PySem.W.nsIn K mainGlobals "range" = some none)
    (z_min : PySem.W.nsIn K mainGlobals "min" = some none)
    (z_sum : PySem.W.nsIn K mainGlobals "sum" = some none)
    (z_zip : PySem.W.nsIn K mainGlobals "zip" = some none)
    (z_str : PySem.W.nsIn K mainGlobals "str" = some none)
    (z_ValueError : PySem.W.nsIn K mainGlobals "ValueError" = some none)
    (z_reversed : PySem.W.nsIn K mainGlobals "reversed" = some none)
    (z_enumerate : PySem.W.nsIn K mainGlobals "enumerate" = some none)
    (e_CoinError : PySem.W.nsIn K mainGlobals "CoinError" = some (some (.ref c_CoinError)))
    (f_CoinError : PySem.W.excIn K c_CoinError bmV "ValueError.__new__" = true)
    (e_BadSum : PySem.W.nsIn K mainGlobals "BadSum" = some (some (.ref c_BadSum)))
    (f_BadSum : PySem.W.excIn K c_BadSum bmV "ValueError.__new__" = true)
    (g_BadSum : PySem.W.mroIn K c_BadSum (.ref c_CoinError) = some true)
    (v_BadSum : PySem.W.kitOne K (.ref c_BadSum) (.type "ValueError") = some true)
    (e_Endless : PySem.W.nsIn K mainGlobals "Endless" = some (some (.ref c_Endless)))
    (f_Endless : PySem.W.excIn K c_Endless bmV "ValueError.__new__" = true)
    (g_Endless : PySem.W.mroIn K c_Endless (.ref c_CoinError) = some true)
    (v_Endless : PySem.W.kitOne K (.ref c_Endless) (.type "ValueError") = some true)
    (e_TooBig : PySem.W.nsIn K mainGlobals "TooBig" = some (some (.ref c_TooBig)))
    (f_TooBig : PySem.W.excIn K c_TooBig bmV "ValueError.__new__" = true)
    (g_TooBig : PySem.W.mroIn K c_TooBig (.ref c_CoinError) = some true)
    (v_TooBig : PySem.W.kitOne K (.ref c_TooBig) (.type "ValueError") = some true) :
    ∃ fd : FuncData, (∀ (s : Shared) (v : Value), BindsTo s fd ⟨[v], []⟩ [("_law_script", v)]) ∧ ∀ base : Heap, K.In base → base.Ns mainGlobals mg → FnOk l.prog w K mg base CX0 14 fa fd ["_law_script"] (sp_law K) := by
  have e := hfa.symm.trans (PySem.W.mg_of X G a_law)
  cases e
  have T : Tx mg := ⟨PySem.W.mg_none_of X G z_len, PySem.W.mg_none_of X G z_isinstance, PySem.W.mg_none_of X G z_max, PySem.W.mg_none_of X G z_sorted, PySem.W.mg_none_of X G z_set, PySem.W.mg_none_of X G z_tuple, PySem.W.mg_none_of X G z_list, PySem.W.mg_none_of X G z_int, PySem.W.mg_none_of X G z_bool, PySem.W.mg_none_of X G z_range, PySem.W.mg_none_of X G z_min, PySem.W.mg_none_of X G z_sum, PySem.W.mg_none_of X G z_zip, PySem.W.mg_none_of X G z_str, PySem.W.mg_none_of X G z_ValueError, PySem.W.mg_none_of X G z_reversed, PySem.W.mg_none_of X G z_enumerate⟩
  have h_MOST_COINS := PySem.W.mg_of X G v_MOST_COINS
  have h_GREATEST_COIN := PySem.W.mg_of X G v_GREATEST_COIN
  have h_MOST_GAPS := PySem.W.mg_of X G v_MOST_GAPS
  have X_CoinError : Exc K mg "CoinError" c_CoinError := ⟨PySem.W.mg_of X G e_CoinError, f_CoinError⟩
  have X_BadSum : Err K mg "BadSum" c_BadSum c_CoinError := ⟨⟨PySem.W.mg_of X G e_BadSum, f_BadSum⟩, g_BadSum, v_BadSum⟩
  have X_Endless : Err K mg "Endless" c_Endless c_CoinError := ⟨⟨PySem.W.mg_of X G e_Endless, f_Endless⟩, g_Endless, v_Endless⟩
  have X_TooBig : Err K mg "TooBig" c_TooBig c_CoinError := ⟨⟨PySem.W.mg_of X G e_TooBig, f_TooBig⟩, g_TooBig, v_TooBig⟩
  have F_is_whole := fun_mk (st := s_is_whole) l_is_whole c_is_whole k_is_whole
  have F_common_divisor := fun_mk (st := s_common_divisor) l_common_divisor c_common_divisor k_common_divisor
  have F_checked := fun_mk (st := s_checked) l_checked c_checked k_checked
  have F_divisor_of := fun_mk (st := s_divisor_of) l_divisor_of c_divisor_of k_divisor_of
  have F_add_coin := fun_mk (st := s_add_coin) l_add_coin c_add_coin k_add_coin
  have F_needed_of := fun_mk (st := s_needed_of) l_needed_of c_needed_of k_needed_of
  have F_least_purse := fun_mk (st := s_least_purse) l_least_purse c_least_purse k_least_purse
  have F_least_purse_of := fun_mk (st := s_least_purse_of) l_least_purse_of c_least_purse_of k_least_purse_of
  have F_add_once := fun_mk (st := s_add_once) l_add_once c_add_once k_add_once
  have F_add_coin_to_least := fun_mk (st := s_add_coin_to_least) l_add_coin_to_least c_add_coin_to_least k_add_coin_to_least
  have F_least_sums_by := fun_mk (st := s_least_sums_by) l_least_sums_by c_least_sums_by k_least_sums_by
  have F_least_sums := fun_mk (st := s_least_sums) l_least_sums c_least_sums k_least_sums
  have F_is_reached := fun_mk (st := s_is_reached) l_is_reached c_is_reached k_is_reached
  have F_check_gaps_end := fun_mk (st := s_check_gaps_end) l_check_gaps_end c_check_gaps_end k_check_gaps_end
  have F_least_sums_of_every_rest := fun_mk (st := s_least_sums_of_every_rest) l_least_sums_of_every_rest c_least_sums_of_every_rest k_least_sums_of_every_rest
  have F_gaps_of := fun_mk (st := s_gaps_of) l_gaps_of c_gaps_of k_gaps_of
  have F_greatest_gap := fun_mk (st := s_greatest_gap) l_greatest_gap c_greatest_gap k_greatest_gap
  have F_without_sum := fun_mk (st := s_without_sum) l_without_sum c_without_sum k_without_sum
  have F_children_of := fun_mk (st := s_children_of) l_children_of c_children_of k_children_of
  have F_all_with := fun_mk (st := s_all_with) l_all_with c_all_with k_all_with
  have F__law_cell := fun_mk (st := s__law_cell) l__law_cell c__law_cell k__law_cell
  have F__law_least := fun_mk (st := s__law_least) l__law_least c__law_least k__law_least
  have F__law_choices := fun_mk (st := s__law_choices) l__law_choices c__law_choices k__law_choices
  have F__law_holds := fun_mk (st := s__law_holds) l__law_holds c__law_holds k__law_holds
  have F_law := fun_mk (st := s_law) l_law c_law k_law
  refine ⟨PySem.W.fnOf "law" "law" (defArgs s_law) (defBody s_law) (defScope s_law) .none kV_law dc_law pm_law an_law cd_law ct_law, fun s v => .of_eq rfl, fun base _ _ => ?_⟩
  have C_is_whole : Fn l.prog w K mg base "is_whole" ["thing"] 1 sp_whole := ⟨x_is_whole, _, ok_is_whole F_is_whole T, PySem.W.mg_of X G a_is_whole, k_is_whole, F_is_whole.binds (ps := ["thing"]) fun _ _ _ _ _ _ us hl => match us, hl with | [_], _ => rfl⟩
  have C_common_divisor : Fn l.prog w K mg base "common_divisor" ["one", "other"] 1 sp_gcd := ⟨x_common_divisor, _, ok_common_divisor F_common_divisor, PySem.W.mg_of X G a_common_divisor, k_common_divisor, F_common_divisor.binds (ps := ["one", "other"]) fun _ _ _ _ _ _ us hl => match us, hl with | [_, _], _ => rfl⟩
  have C_checked : Fn l.prog w K mg base "checked" ["purse"] 2 (sp_checked K) := ⟨x_checked, _, ok_checked F_checked T h_MOST_COINS h_GREATEST_COIN C_is_whole, PySem.W.mg_of X G a_checked, k_checked, F_checked.binds (ps := ["purse"]) fun _ _ _ _ _ _ us hl => match us, hl with | [_], _ => rfl⟩
  have C_divisor_of : Fn l.prog w K mg base "divisor_of" ["purse"] 3 (sp_divisor K) := ⟨x_divisor_of, _, ok_divisor_of F_divisor_of C_checked C_common_divisor, PySem.W.mg_of X G a_divisor_of, k_divisor_of, F_divisor_of.binds (ps := ["purse"]) fun _ _ _ _ _ _ us hl => match us, hl with | [_], _ => rfl⟩
  have C_add_coin : Fn l.prog w K mg base "add_coin" ["made", "coin"] 1 sp_addcoin := ⟨x_add_coin, _, ok_add_coin F_add_coin T, PySem.W.mg_of X G a_add_coin, k_add_coin, F_add_coin.binds (ps := ["made", "coin"]) fun _ _ _ _ _ _ us hl => match us, hl with | [_, _], _ => rfl⟩
  have C_needed_of : Fn l.prog w K mg base "needed_of" ["coins"] 2 (sp_needed K) := ⟨x_needed_of, _, ok_needed_of F_needed_of C_add_coin, PySem.W.mg_of X G a_needed_of, k_needed_of, F_needed_of.binds (ps := ["coins"]) fun _ _ _ _ _ _ us hl => match us, hl with | [_], _ => rfl⟩
  have C_least_purse : Fn l.prog w K mg base "least_purse" ["purse"] 4 sp_least := ⟨x_least_purse, _, ok_least_purse F_least_purse T C_checked C_needed_of, PySem.W.mg_of X G a_least_purse, k_least_purse, F_least_purse.binds (ps := ["purse"]) fun _ _ _ _ _ _ us hl => match us, hl with | [_], _ => rfl⟩
  have D_least_purse_of : FnX l.prog w K mg base "least_purse_of" ["coins"] 3 (sp_lpof K c_TooBig) := ⟨x_least_purse_of, _, ok_least_purse_of F_least_purse_of T h_MOST_COINS h_GREATEST_COIN X_TooBig C_needed_of, PySem.W.mg_of X G a_least_purse_of, k_least_purse_of, F_least_purse_of.binds (ps := ["coins"]) fun _ _ _ _ _ _ us hl => match us, hl with | [_], _ => rfl⟩
  have C_least_purse_of := D_least_purse_of.plain
  have C_add_once : Fn l.prog w K mg base "add_once" ["least", "rest", "coin"] 1 sp_addonce := ⟨x_add_once, _, ok_add_once F_add_once T, PySem.W.mg_of X G a_add_once, k_add_once, F_add_once.binds (ps := ["least", "rest", "coin"]) fun _ _ _ _ _ _ us hl => match us, hl with | [_, _, _], _ => rfl⟩
  have C_add_coin_to_least : Fn l.prog w K mg base "add_coin_to_least" ["least", "coin"] 2 sp_addleast := ⟨x_add_coin_to_least, _, ok_add_coin_to_least F_add_coin_to_least T C_common_divisor C_add_once, PySem.W.mg_of X G a_add_coin_to_least, k_add_coin_to_least, F_add_coin_to_least.binds (ps := ["least", "coin"]) fun _ _ _ _ _ _ us hl => match us, hl with | [_, _], _ => rfl⟩
  have C_least_sums_by : Fn l.prog w K mg base "least_sums_by" ["number", "coins"] 3 sp_lsby := ⟨x_least_sums_by, _, ok_least_sums_by F_least_sums_by C_add_coin_to_least, PySem.W.mg_of X G a_least_sums_by, k_least_sums_by, F_least_sums_by.binds (ps := ["number", "coins"]) fun _ _ _ _ _ _ us hl => match us, hl with | [_, _], _ => rfl⟩
  have C_least_sums : Fn l.prog w K mg base "least_sums" ["purse"] 4 sp_lsums := ⟨x_least_sums, _, ok_least_sums F_least_sums C_checked C_least_sums_by, PySem.W.mg_of X G a_least_sums, k_least_sums, F_least_sums.binds (ps := ["purse"]) fun _ _ _ _ _ _ us hl => match us, hl with | [_], _ => rfl⟩
  have C_is_reached : Fn l.prog w K mg base "is_reached" ["least", "number"] 1 sp_reached := ⟨x_is_reached, _, ok_is_reached F_is_reached T, PySem.W.mg_of X G a_is_reached, k_is_reached, F_is_reached.binds (ps := ["least", "number"]) fun _ _ _ _ _ _ us hl => match us, hl with | [_, _], _ => rfl⟩
  have D_check_gaps_end : FnX l.prog w K mg base "check_gaps_end" ["purse"] 4 (sp_endcheck c_Endless) := ⟨x_check_gaps_end, _, ok_check_gaps_end F_check_gaps_end X_Endless C_divisor_of, PySem.W.mg_of X G a_check_gaps_end, k_check_gaps_end, F_check_gaps_end.binds (ps := ["purse"]) fun _ _ _ _ _ _ us hl => match us, hl with | [_], _ => rfl⟩
  have C_check_gaps_end := D_check_gaps_end.plain
  have D_least_sums_of_every_rest : FnX l.prog w K mg base "least_sums_of_every_rest" ["purse"] 5 (sp_every c_Endless) := ⟨x_least_sums_of_every_rest, _, ok_least_sums_of_every_rest F_least_sums_of_every_rest D_check_gaps_end C_least_sums, PySem.W.mg_of X G a_least_sums_of_every_rest, k_least_sums_of_every_rest, F_least_sums_of_every_rest.binds (ps := ["purse"]) fun _ _ _ _ _ _ us hl => match us, hl with | [_], _ => rfl⟩
  have C_least_sums_of_every_rest := D_least_sums_of_every_rest.plain
  have D_gaps_of : FnX l.prog w K mg base "gaps_of" ["purse"] 8 (sp_gaps c_Endless) := ⟨x_gaps_of, _, ok_gaps_of F_gaps_of T D_least_sums_of_every_rest C_is_reached, PySem.W.mg_of X G a_gaps_of, k_gaps_of, F_gaps_of.binds (ps := ["purse"]) fun _ _ _ _ _ _ us hl => match us, hl with | [_], _ => rfl⟩
  have C_gaps_of := D_gaps_of.plain
  have D_greatest_gap : FnX l.prog w K mg base "greatest_gap" ["purse"] 8 (sp_greatest c_Endless) := ⟨x_greatest_gap, _, ok_greatest_gap F_greatest_gap T D_least_sums_of_every_rest, PySem.W.mg_of X G a_greatest_gap, k_greatest_gap, F_greatest_gap.binds (ps := ["purse"]) fun _ _ _ _ _ _ us hl => match us, hl with | [_], _ => rfl⟩
  have C_greatest_gap := D_greatest_gap.plain
  have D_without_sum : FnX l.prog w K mg base "without_sum" ["purse", "coin"] 4 (sp_wo c_TooBig) := ⟨x_without_sum, _, ok_without_sum F_without_sum D_least_purse_of, PySem.W.mg_of X G a_without_sum, k_without_sum, F_without_sum.binds (ps := ["purse", "coin"]) fun _ _ _ _ _ _ us hl => match us, hl with | [_, _], _ => rfl⟩
  have C_without_sum := D_without_sum.plain
  have D_children_of : FnX l.prog w K mg base "children_of" ["purse"] 12 (sp_kids c_Endless) := ⟨x_children_of, _, ok_children_of F_children_of T D_greatest_gap C_least_purse C_without_sum, PySem.W.mg_of X G a_children_of, k_children_of, F_children_of.binds (ps := ["purse"]) fun _ _ _ _ _ _ us hl => match us, hl with | [_], _ => rfl⟩
  have C_children_of := D_children_of.plain
  have D_all_with : FnX l.prog w K mg base "all_with" ["many"] 13 (sp_allwith c_BadSum) := ⟨x_all_with, _, ok_all_with F_all_with T h_MOST_GAPS X_BadSum C_is_whole D_children_of, PySem.W.mg_of X G a_all_with, k_all_with, F_all_with.binds (ps := ["many"]) fun _ _ _ _ _ _ us hl => match us, hl with | [_], _ => rfl⟩
  have C_all_with := D_all_with.plain
  have C__law_cell : Fn l.prog w K mg base "_law_cell" ["_law_script", "_law_k"] 1 (sp_cell K) := ⟨x__law_cell, _, ok__law_cell F__law_cell T, PySem.W.mg_of X G a__law_cell, k__law_cell, F__law_cell.binds (ps := ["_law_script", "_law_k"]) fun _ _ _ _ _ _ us hl => match us, hl with | [_, _], _ => rfl⟩
  have C__law_least : Fn l.prog w K mg base "_law_least" ["_law_table"] 1 sp_leastS := ⟨x__law_least, _, ok__law_least F__law_least T, PySem.W.mg_of X G a__law_least, k__law_least, F__law_least.binds (ps := ["_law_table"]) fun _ _ _ _ _ _ us hl => match us, hl with | [_], _ => rfl⟩
  have C__law_choices : Fn l.prog w K mg base "_law_choices" ["_law_many"] 1 sp_choices := ⟨x__law_choices, _, ok__law_choices F__law_choices T, PySem.W.mg_of X G a__law_choices, k__law_choices, F__law_choices.binds (ps := ["_law_many"]) fun _ _ _ _ _ _ us hl => match us, hl with | [_], _ => rfl⟩
  have C__law_holds : Fn l.prog w K mg base "_law_holds" ["_law_row", "_law_many"] 1 sp_holds := ⟨x__law_holds, _, ok__law_holds F__law_holds T, PySem.W.mg_of X G a__law_holds, k__law_holds, F__law_holds.binds (ps := ["_law_row", "_law_many"]) fun _ _ _ _ _ _ us hl => match us, hl with | [_, _], _ => rfl⟩
  exact ok_law F_law T C__law_cell C__law_least C__law_choices C__law_holds C_all_with C_gaps_of C_least_purse
end CY
open PySem PySem.W PyProof.Rows
set_option maxRecDepth 100000 in
set_option maxHeartbeats 0 in
theorem PySem.Challenge.cw_coinyard_k22_whole_all_with_so_many_gaps_holds : PySem.Challenge.rw_coinyard_k22_whole_all_with_so_many_gaps.Holds := by
  w_on; o_law; z_head; (case hw => w_witness2)
  k_fill
  refine L2.walkZ_of (l := PySem.Challenge.rw_coinyard_k22_whole_all_with_so_many_gaps) (n := 63) (k := 14) (x := "_law_script") (CX := fun _ => L2.CX0) (sp := fun w => CY.sp_law _) (fun _ => by kernel_rfl) rfl (by decide) rfl ⟨rfl, by decide, by decide⟩ ?F (fun _ _ a ns hl _ hS => ⟨a, ns, rfl, hS, hl, fun _ => rfl⟩) fun _ _ _ _ _ z => z
  case F =>
    intro w mg fa h KX G hmg
    refine' CY.all_mk KX G hmg ?a_is_whole ?l_is_whole ?c_is_whole ?k_is_whole ?a_common_divisor ?l_common_divisor ?c_common_divisor ?k_common_divisor ?a_checked ?l_checked ?c_checked ?k_checked ?a_divisor_of ?l_divisor_of ?c_divisor_of ?k_divisor_of ?a_add_coin ?l_add_coin ?c_add_coin ?k_add_coin ?a_needed_of ?l_needed_of ?c_needed_of ?k_needed_of ?a_least_purse ?l_least_purse ?c_least_purse ?k_least_purse ?a_least_purse_of ?l_least_purse_of ?c_least_purse_of ?k_least_purse_of ?a_add_once ?l_add_once ?c_add_once ?k_add_once ?a_add_coin_to_least ?l_add_coin_to_least ?c_add_coin_to_least ?k_add_coin_to_least ?a_least_sums_by ?l_least_sums_by ?c_least_sums_by ?k_least_sums_by ?a_least_sums ?l_least_sums ?c_least_sums ?k_least_sums ?a_is_reached ?l_is_reached ?c_is_reached ?k_is_reached ?a_check_gaps_end ?l_check_gaps_end ?c_check_gaps_end ?k_check_gaps_end ?a_least_sums_of_every_rest ?l_least_sums_of_every_rest ?c_least_sums_of_every_rest ?k_least_sums_of_every_rest ?a_gaps_of ?l_gaps_of ?c_gaps_of ?k_gaps_of ?a_greatest_gap ?l_greatest_gap ?c_greatest_gap ?k_greatest_gap ?a_without_sum ?l_without_sum ?c_without_sum ?k_without_sum ?a_children_of ?l_children_of ?c_children_of ?k_children_of ?a_all_with ?l_all_with ?c_all_with ?k_all_with ?a__law_cell ?l__law_cell ?c__law_cell ?k__law_cell ?a__law_least ?l__law_least ?c__law_least ?k__law_least ?a__law_choices ?l__law_choices ?c__law_choices ?k__law_choices ?a__law_holds ?l__law_holds ?c__law_holds ?k__law_holds ?a_law ?l_law ?c_law ?k_law ?v_MOST_COINS ?v_GREATEST_COIN ?v_MOST_GAPS ?z_len ?z_isinstance ?z_max ?z_sorted ?z_set ?z_tuple ?z_list ?z_int ?z_bool ?z_range ?z_min ?z_sum ?z_zip ?z_str ?z_ValueError ?z_reversed ?z_enumerate ?e_CoinError ?f_CoinError ?e_BadSum ?f_BadSum ?g_BadSum ?v_BadSum ?e_Endless ?f_Endless ?g_Endless ?v_Endless ?e_TooBig ?f_TooBig ?g_TooBig ?v_TooBig
    (case a_is_whole => k_is)
    (case l_is_whole => k_is)
    (case c_is_whole => k_is)
    (case k_is_whole => k_is)
    (case a_common_divisor => k_is)
    (case l_common_divisor => k_is)
    (case c_common_divisor => k_is)
    (case k_common_divisor => k_is)
    (case a_checked => k_is)
    (case l_checked => k_is)
    (case c_checked => k_is)
    (case k_checked => k_is)
    (case a_divisor_of => k_is)
    (case l_divisor_of => k_is)
    (case c_divisor_of => k_is)
    (case k_divisor_of => k_is)
    (case a_add_coin => k_is)
    (case l_add_coin => k_is)
    (case c_add_coin => k_is)
    (case k_add_coin => k_is)
    (case a_needed_of => k_is)
    (case l_needed_of => k_is)
    (case c_needed_of => k_is)
    (case k_needed_of => k_is)
    (case a_least_purse => k_is)
    (case l_least_purse => k_is)
    (case c_least_purse => k_is)
    (case k_least_purse => k_is)
    (case a_least_purse_of => k_is)
    (case l_least_purse_of => k_is)
    (case c_least_purse_of => k_is)
    (case k_least_purse_of => k_is)
    (case a_add_once => k_is)
    (case l_add_once => k_is)
    (case c_add_once => k_is)
    (case k_add_once => k_is)
    (case a_add_coin_to_least => k_is)
    (case l_add_coin_to_least => k_is)
    (case c_add_coin_to_least => k_is)
    (case k_add_coin_to_least => k_is)
    (case a_least_sums_by => k_is)
    (case l_least_sums_by => k_is)
    (case c_least_sums_by => k_is)
    (case k_least_sums_by => k_is)
    (case a_least_sums => k_is)
    (case l_least_sums => k_is)
    (case c_least_sums => k_is)
    (case k_least_sums => k_is)
    (case a_is_reached => k_is)
    (case l_is_reached => k_is)
    (case c_is_reached => k_is)
    (case k_is_reached => k_is)
    (case a_check_gaps_end => k_is)
    (case l_check_gaps_end => k_is)
    (case c_check_gaps_end => k_is)
    (case k_check_gaps_end => k_is)
    (case a_least_sums_of_every_rest => k_is)
    (case l_least_sums_of_every_rest => k_is)
    (case c_least_sums_of_every_rest => k_is)
    (case k_least_sums_of_every_rest => k_is)
    (case a_gaps_of => k_is)
    (case l_gaps_of => k_is)
    (case c_gaps_of => k_is)
    (case k_gaps_of => k_is)
    (case a_greatest_gap => k_is)
    (case l_greatest_gap => k_is)
    (case c_greatest_gap => k_is)
    (case k_greatest_gap => k_is)
    (case a_without_sum => k_is)
    (case l_without_sum => k_is)
    (case c_without_sum => k_is)
    (case k_without_sum => k_is)
    (case a_children_of => k_is)
    (case l_children_of => k_is)
    (case c_children_of => k_is)
    (case k_children_of => k_is)
    (case a_all_with => k_is)
    (case l_all_with => k_is)
    (case c_all_with => k_is)
    (case k_all_with => k_is)
    (case a__law_cell => k_is)
    (case l__law_cell => k_is)
    (case c__law_cell => k_is)
    (case k__law_cell => k_is)
    (case a__law_least => k_is)
    (case l__law_least => k_is)
    (case c__law_least => k_is)
    (case k__law_least => k_is)
    (case a__law_choices => k_is)
    (case l__law_choices => k_is)
    (case c__law_choices => k_is)
    (case k__law_choices => k_is)
    (case a__law_holds => k_is)
    (case l__law_holds => k_is)
    (case c__law_holds => k_is)
    (case k__law_holds => k_is)
    (case a_law => k_is)
    (case l_law => k_is)
    (case c_law => k_is)
    (case k_law => k_is)
    (case v_MOST_COINS => k_is)
    (case v_GREATEST_COIN => k_is)
    (case v_MOST_GAPS => k_is)
    (case z_len => k_is)
    (case z_isinstance => k_is)
    (case z_max => k_is)
    (case z_sorted => k_is)
    (case z_set => k_is)
    (case z_tuple => k_is)
    (case z_list => k_is)
    (case z_int => k_is)
    (case z_bool => k_is)
    (case z_range => k_is)
    (case z_min => k_is)
    (case z_sum => k_is)
    (case z_zip => k_is)
    (case z_str => k_is)
    (case z_ValueError => k_is)
    (case z_reversed => k_is)
    (case z_enumerate => k_is)
    (case e_CoinError => first | k_is | k_exc | kernel_rfl)
    (case f_CoinError => first | k_is | k_exc | kernel_rfl)
    (case e_BadSum => first | k_is | k_exc | kernel_rfl)
    (case f_BadSum => first | k_is | k_exc | kernel_rfl)
    (case g_BadSum => first | k_is | k_exc | kernel_rfl)
    (case v_BadSum => first | k_is | k_exc | kernel_rfl)
    (case e_Endless => first | k_is | k_exc | kernel_rfl)
    (case f_Endless => first | k_is | k_exc | kernel_rfl)
    (case g_Endless => first | k_is | k_exc | kernel_rfl)
    (case v_Endless => first | k_is | k_exc | kernel_rfl)
    (case e_TooBig => first | k_is | k_exc | kernel_rfl)
    (case f_TooBig => first | k_is | k_exc | kernel_rfl)
    (case g_TooBig => first | k_is | k_exc | kernel_rfl)
    (case v_TooBig => first | k_is | k_exc | kernel_rfl)
#print axioms PySem.Challenge.cw_coinyard_k22_whole_all_with_so_many_gaps_holds
