import PyProof.Rows.All
import Wide.All
import OpenK.AllK
import Wide.FinOn
import Lean
import PyProof.EqAt
import PyProof.EqKinds
import PyProof.TupleCall
import PyProof.NeKinds
import PyProof.Rows.SetFrom
import PyProof.Rows.SortWalk
import PyProof.CollectWalk
import PyProof.ListNew
import PyProof.SetKind
import PyProof.ZipIter
import PyProof.Rows.ZipGen
import KE.KRevIter
import PyProof.TupleOfSeq
import PyProof.Rows.StrNews
import PyProof.Rows.StrWeight2
import PyProof.Rows.StrItems
import PyProof.StrWalks
import PyProof.StrLawsTight
import PyProof.StrLawsIn
import KE.KIntText
import PySem.Challenge.RW_coinyard_k29_refusals_stand_apart
set_option Elab.async false
set_option linter.all false
set_option maxRecDepth 100000
/-! THE HAND LAYER, for ints, bools, texts, own classes, LISTS and tuples (index, slices, in, append, pop ..), calls, loops. Paste it whole ahead of your own text; what your proof does not reach may be deleted. -/
namespace L2
open PySem PySem.Spec PyProof.Rows

/-- a key: an int or a str -/
abbrev Key := Sum Int Str
def keyIs : Key → Value → Bool
  | .inl k, v => Value.isInt k v
  | .inr x, v => Value.isStrOf x v
def keyH (w : World) : Key → Int
  | .inl k => hashInt k
  | .inr x => hashStr w x
theorem keyIs_shape : ∀ {k : Key} {v : Value}, keyIs k v = true → (∃ i t, k = Sum.inl i ∧ v = Value.int i t) ∨ (∃ x t, k = Sum.inr x ∧ v = Value.str x t)
  | .inl i, v, h => by
    obtain ⟨t, e⟩ := Value.isInt_shape (k := i) (v := v) h
    exact .inl ⟨i, t, rfl, e⟩
  | .inr x, v, h => by
    obtain ⟨t, e⟩ := Value.isStrOf_shape (x := x) (v := v) h
    exact .inr ⟨x, t, rfl, e⟩
theorem key_ll (a b : Int) : decide ((Sum.inl a : Key) = Sum.inl b) = (a == b) := by
  by_cases e : a = b
  · subst e; simp
  · have h : ¬ (Sum.inl a : Key) = Sum.inl b := fun q => e (Sum.inl.inj q)
    rw [decide_eq_false h]
    exact (beq_eq_false_iff_ne.mpr e).symm
theorem key_rr (a b : Str) : decide ((Sum.inr a : Key) = Sum.inr b) = decide (a = b) := by
  by_cases e : a = b
  · subst e; simp
  · have h : ¬ (Sum.inr a : Key) = Sum.inr b := fun q => e (Sum.inr.inj q)
    rw [decide_eq_false h, decide_eq_false e]
theorem key_lr (a : Int) (b : Str) : decide ((Sum.inl a : Key) = Sum.inr b) = false := decide_eq_false (fun q => nomatch q)
theorem key_rl (a : Str) (b : Int) : decide ((Sum.inr a : Key) = Sum.inl b) = false := decide_eq_false (fun q => nomatch q)

def mixKind (prog : Program) (w : World) : PySem.KeyKind prog w Key where
  is := keyIs
  hash := keyH w
  inj := fun v a b ha hb => by
    rcases keyIs_shape ha with ⟨i, t, rfl, rfl⟩ | ⟨x, t, rfl, rfl⟩
    · rcases keyIs_shape hb with ⟨j, u, rfl, e⟩ | ⟨y, u, rfl, e⟩
      · injection e with e1 _; rw [e1]
      · exact nomatch e
    · rcases keyIs_shape hb with ⟨j, u, rfl, e⟩ | ⟨y, u, rfl, e⟩
      · exact nomatch e
      · injection e with e1 _; rw [e1]
  byValue := fun k v h => by
    rcases keyIs_shape h with ⟨i, t, rfl, rfl⟩ | ⟨x, t, rfl, rfl⟩ <;> rfl
  pyHash := fun hv h => by
    rcases keyIs_shape hv with ⟨i, t, rfl, rfl⟩ | ⟨x, t, rfl, rfl⟩
    · exact wpAny_pyHash_int h
    · exact wpAny_pyHash_str h
  eqBool := fun hu hv h => by
    rcases keyIs_shape hu with ⟨i, t, rfl, rfl⟩ | ⟨x, t, rfl, rfl⟩
    · rcases keyIs_shape hv with ⟨j, u, rfl, rfl⟩ | ⟨y, u, rfl, rfl⟩
      · rw [key_ll] at h; exact wpAny_eqBool_int h
      · rw [key_lr] at h; exact SeqAt.EqAt.int_str i t y u _ _ _ _ h
    · rcases keyIs_shape hv with ⟨j, u, rfl, rfl⟩ | ⟨y, u, rfl, rfl⟩
      · rw [key_rl] at h; exact SeqAt.EqAt.str_int x t j u _ _ _ _ h
      · rw [key_rr] at h; exact wpAny_eqBool_str h
  «strs» := fun k x t v h => by
    rcases keyIs_shape h with ⟨i, u, rfl, e⟩ | ⟨y, u, rfl, e⟩
    · exact nomatch e
    · injection e with e1 _
      subst e1
      cases v <;> rfl

end L2

namespace L2
open PySem PySem.Spec PyProof.Rows

/-- a value, without the heap -/
inductive V where
  | non | bl (b : Bool) | int (i : Int) | str (x : Str) | byt (b : Array UInt8) | flt (b : UInt64) | ref (a : Addr) | ty (n : String)
  deriving DecidableEq

def RelV : V → Value → Prop
  | .non, u => u = Value.none
  | .bl b, u => u = Value.bool b
  | .int i, u => ∃ t, u = Value.int i t
  | .str x, u => ∃ t, u = Value.str x t
  | .byt b, u => ∃ t, u = Value.bytes b t
  | .flt b, u => ∃ t, u = Value.float b t
  | .ref a, u => u = Value.ref a
  | .ty n, u => u = Value.type n

abbrev Vals : List V → List Value → Prop := Paired RelV
theorem Vals.length {xs : List V} {us : List Value} (r : Vals xs us) : xs.length = us.length := Paired.length r
theorem Vals.get : ∀ {xs : List V} {us : List Value} {i : Nat} {x : V}, Vals xs us → xs[i]? = some x → ∃ u, us[i]? = some u ∧ RelV x u
  | _, _, _, _, .nil, e => by simp at e
  | _, _, 0, _, .cons r _, e => by simp at e; subst e; exact ⟨_, rfl, r⟩
  | _, _, i + 1, x, .cons _ t, e => by
    obtain ⟨u, h1, h2⟩ := Vals.get (i := i) (x := x) t (by simpa using e)
    exact ⟨u, by simpa using h1, h2⟩
theorem Vals.set {x : V} {u : Value} (r : RelV x u) : ∀ {xs : List V} {us : List Value} (i : Nat), Vals xs us → Vals (xs.set i x) (us.set i u)
  | _, _, _, .nil => .nil
  | _, _, 0, .cons _ t => .cons r t
  | _, _, i + 1, .cons q t => .cons q (Vals.set r i t)
theorem Vals.append : ∀ {xs ys : List V} {us ws : List Value}, Vals xs us → Vals ys ws → Vals (xs ++ ys) (us ++ ws)
  | _, _, _, _, .nil, s => s
  | _, _, _, _, .cons r t, s => .cons r (Vals.append t s)
theorem Vals.take : ∀ {xs : List V} {us : List Value} (n : Nat), Vals xs us → Vals (xs.take n) (us.take n)
  | _, _, 0, _ => .nil
  | _, _, _ + 1, .nil => .nil
  | _, _, n + 1, .cons r t => .cons r (Vals.take n t)
theorem Vals.drop : ∀ {xs : List V} {us : List Value} (n : Nat), Vals xs us → Vals (xs.drop n) (us.drop n)
  | _, _, 0, r => r
  | _, _, _ + 1, .nil => .nil
  | _, _, n + 1, .cons _ t => Vals.drop n t
def RelO : Option V → Option Value → Prop
  | some v, some u => RelV v u
  | none, none => True
  | _, _ => False
def KV {κ : Type} : List (κ × V) → List (κ × Value) → Prop := Paired fun (p : κ × V) (q : κ × Value) => p.1 = q.1 ∧ RelV p.2 q.2

/-- a key of a dict (00_mix): an int or a text -/
def kV : Key → V
  | .inl i => .int i
  | .inr x => .str x

/-- what stands at a tracked address -/
inductive HO where
  /-- a list -/
  | lst (xs : List V)
  /-- a tuple (never changes) -/
  | tup (xs : List V)
  /-- a dict whose keys are ints and texts; one whose keys are tuples of ints and texts (the empty one is both) -/
  | dK (kvs : List (Key × V)) | dT (kvs : List (List Key × V))
  /-- a set of ints: its members, its size -/
  | set (S : Int → Bool) (n : Nat)
  /-- an instance of the class at C, its dict at dx, its attributes -/
  | ins (C dx : Addr) (fs : List (Str × V))
  /-- the dict of the instance at x -/
  | own (x : Addr)
  /-- the dict of an exception -/
  | xd (fs : List (Str × V))
  /-- a bound method, f of x -/
  | met (f x : Addr)
  /-- a range object lo, lo + 1, .. below hi -/
  | rng (lo hi : Int)
  /-- a thing that is known to the object (the script; a dict while a loop walks it): read, never written while it is so -/
  | frz (o : Obj) (u : HO)
  /-- a code object's table -/
  | tbl (ps : Array Value)
  /-- any other thing, by what is true of its one object (a def of one's own: SetO a S n := HO.ext fun h => ..) -/
  | ext (φ : Heap → Prop)

abbrev Hp := Addr → Option HO
def upd (H : Hp) (a : Addr) (o : HO) : Hp := fun b => if b = a then some o else H b
theorem upd_same {H : Hp} {a : Addr} {o : HO} : upd H a o a = some o := by unfold upd; rw [if_pos rfl]
theorem upd_ne {H : Hp} {a b : Addr} {o : HO} (h : b ≠ a) : upd H a o b = H b := by unfold upd; rw [if_neg h]
theorem upd_upd {H : Hp} {a : Addr} {o u : HO} : upd (upd H a o) a u = upd H a u := by
  funext b; unfold upd; split <;> rfl
theorem ne_of_none {H : Hp} {a b : Addr} {o : HO} (h : H a = some o) (h' : H b = none) : a ≠ b := by
  intro e; subst e; rw [h] at h'; cases h'

section
variable (P : Program) (w : World)
def ObjOk (H : Hp) (h : Heap) (a : Addr) : HO → Prop
  | .lst xs => xs.length ≤ sizeLine ∧ ∃ (its : List Value) (n : Nat), Vals xs its ∧ h.get? a = some { cls := .type "list", data := .seq its.toArray n }
  | .tup xs => xs.length ≤ sizeLine ∧ ∃ its : List Value, Vals xs its ∧ IsTup h a its.toArray
  | .dK kvs => kvs.length ≤ sizeLine ∧ (a == sysModules) = false ∧ ∃ vs, KV kvs vs ∧ h.DictOf (mixKind P w) a vs
  | .dT kvs => kvs.length ≤ sizeLine ∧ (a == sysModules) = false ∧ ∃ xs : List (List Key × Addr × Value),
      Paired (fun (p : List Key × V) (q : List Key × Addr × Value) => p.1 = q.1 ∧ H q.2.1 = some (.tup (p.1.map kV)) ∧ RelV p.2 q.2.2) kvs xs ∧
      ∃ o es ep, h.get? a = some o ∧ o.ExactDict ∧ o.data = .dict es ep ∧ es.toList = xs.map (entryOfKey (tupleKind (mixKind P w))) ∧ (xs.map (·.1)).Nodup
  | .set S n => h.SetOf (intKind P w) a S n
  | .ins C dx fs => H dx = some (.own a) ∧ fs.length ≤ 1000 ∧ dx ≠ a ∧ h.get? a = some (PySem.W.instObj C dx) ∧
      ∃ mA, h.Ns1 dx mA ∧ (∀ f, RelO (fs.lookup f) (mA f)) ∧ PySem.Within mA (fs.map (·.1))
  | .own _ => ∃ o, h.get? a = some o
  | .xd fs => ∃ mA, h.Ns1 a mA ∧ ∀ f, RelO (fs.lookup f) (mA f)
  | .rng lo hi => ∃ t u v, h.get? a = some { cls := .type "range", data := .fields #[.int lo t, .int hi u, .int 1 v] }
  | .frz o u => h.get? a = some o ∧ ObjOk H h a u
  | .tbl ps => h.get? a = some { cls := .none, data := .fields ps }
  | .met f x => h.get? a = some (PySem.W.methodObj (.ref f) (.ref x))
  | .ext φ => φ h ∧ (∃ o, h.get? a = some o) ∧ ∀ h1 h2 : Heap, φ h1 → (∀ o, h1.get? a = some o → h2.get? a = some o) → φ h2
/-- the abstract heap is held -/
def HOk (H : Hp) (h : Heap) : Prop := ∀ a o, H a = some o → ObjOk P w H h a o
end

section
variable {P : Program} {w : World} {H H' : Hp} {h h' : Heap} {a : Addr} {o : HO}
theorem ObjOk.lt (x : ObjOk P w H h a o) : a < h.objs.size := by
  cases o with
  | lst xs => obtain ⟨_, _, _, _, e⟩ := x; exact Heap.lt_size e
  | tup xs => obtain ⟨_, _, _, p⟩ := x; exact p.lt
  | dK kvs => obtain ⟨_, _, _, _, o, _, _, e, _⟩ := x; exact Heap.lt_size e
  | dT kvs => obtain ⟨_, _, _, _, o, _, _, e, _⟩ := x; exact Heap.lt_size e
  | set S n => obtain ⟨o, _, _, _, e, _⟩ := x; exact Heap.lt_size e
  | ins C dx fs => obtain ⟨_, _, _, e, _⟩ := x; exact Heap.lt_size e
  | own y => obtain ⟨_, e⟩ := x; exact Heap.lt_size e
  | xd fs => obtain ⟨_, ⟨_, _, _, e, _⟩, _⟩ := x; exact Heap.lt_size e
  | rng lo hi => obtain ⟨_, _, _, e⟩ := x; exact Heap.lt_size e
  | frz ob u => obtain ⟨e, _⟩ := x; exact Heap.lt_size e
  | tbl ps => exact Heap.lt_size (show h.get? a = some _ from x)
  | met f y => exact Heap.lt_size (show h.get? a = some _ from x)
  | ext φ => obtain ⟨_, ⟨_, e⟩, _⟩ := x; exact Heap.lt_size e
theorem Paired.mapP {α β : Type} {F G : α → β → Prop} : ∀ {l₁ : List α} {l₂ : List β}, Paired F l₁ l₂ → (∀ a b, F a b → G a b) → Paired G l₁ l₂
  | _, _, .nil, _ => .nil
  | _, _, .cons r t, f => .cons (f _ _ r) (Paired.mapP t f)
/-- what an object's description leans on: its own object, its own dict, the tuples -/
theorem ObjOk.stay (x : ObjOk P w H h a o) (k : ∀ b u, (b = a ∨ H b = some (.own a)) → h.get? b = some u → h'.get? b = some u)
    (ho : ∀ b, H b = some (.own a) → H' b = some (.own a)) (ht : ∀ b xs, H b = some (.tup xs) → H' b = some (.tup xs)) : ObjOk P w H' h' a o := by
  induction o with
  | lst xs => obtain ⟨z, its, n, r, e⟩ := x; exact ⟨z, its, n, r, k _ _ (.inl rfl) e⟩
  | tup xs => obtain ⟨z, its, r, ob, e, c⟩ := x; exact ⟨z, its, r, ob, k _ _ (.inl rfl) e, c⟩
  | dK kvs => obtain ⟨z, y, vs, r, ob, es, ep, e, c⟩ := x; exact ⟨z, y, vs, r, ob, es, ep, k _ _ (.inl rfl) e, c⟩
  | dT kvs =>
    obtain ⟨z, y, xs, r, ob, es, ep, e, c⟩ := x
    exact ⟨z, y, xs, Paired.mapP r fun p q z => ⟨z.1, ht _ _ z.2.1, z.2.2⟩, ob, es, ep, k _ _ (.inl rfl) e, c⟩
  | set S n => obtain ⟨ob, es, ep, t, e, c⟩ := x; exact ⟨ob, es, ep, t, k _ _ (.inl rfl) e, c⟩
  | ins C dx fs =>
    obtain ⟨d, z, ne, e, mA, ⟨od, es, ep, e2, c⟩, r⟩ := x
    exact ⟨ho _ d, z, ne, k _ _ (.inl rfl) e, mA, ⟨od, es, ep, k _ _ (.inr d) e2, c⟩, r⟩
  | own y => obtain ⟨ob, e⟩ := x; exact ⟨ob, k _ _ (.inl rfl) e⟩
  | xd fs => obtain ⟨mA, ⟨od, es, ep, e, c⟩, r⟩ := x; exact ⟨mA, ⟨od, es, ep, k _ _ (.inl rfl) e, c⟩, r⟩
  | rng lo hi => obtain ⟨t, u, v, e⟩ := x; exact ⟨t, u, v, k _ _ (.inl rfl) e⟩
  | frz ob u ih => obtain ⟨e, q⟩ := x; exact ⟨k _ _ (.inl rfl) e, ih q⟩
  | tbl ps =>
    have e : h.get? a = some { cls := .none, data := .fields ps } := x
    show h'.get? a = some { cls := .none, data := .fields ps }
    exact k a _ (.inl rfl) e
  | met f y =>
    have e : h.get? a = some (PySem.W.methodObj (.ref f) (.ref y)) := x
    show h'.get? a = some (PySem.W.methodObj (.ref f) (.ref y))
    exact k a _ (.inl rfl) e
  | ext φ => obtain ⟨p, ⟨o, e⟩, st⟩ := x; exact ⟨st _ _ p fun o q => k _ _ (.inl rfl) q, ⟨o, k _ _ (.inl rfl) e⟩, st⟩
theorem HOk.lt (x : HOk P w H h) (e : H a = some o) : a < h.objs.size := (x a o e).lt
theorem HOk.fresh (x : HOk P w H h) (e : h.objs.size ≤ a) : H a = none := by
  cases q : H a with
  | none => rfl
  | some u => exact absurd (Nat.lt_of_lt_of_le (x.lt q) e) (Nat.lt_irrefl _)
/-- every object of the heap is kept -/
theorem HOk.kept (x : HOk P w H h) (k : ∀ b u, h.get? b = some u → h'.get? b = some u) : HOk P w H h' := fun a o e =>
  (x a o e).stay (fun b u _ q => k b u q) (fun _ q => q) fun _ _ q => q
/-- a new object is laid and tracked -/
theorem HOk.laid (x : HOk P w H h) (k : ∀ b u, h.get? b = some u → h'.get? b = some u) (hp : h.objs.size ≤ a) (new : ObjOk P w (upd H a o) h' a o) : HOk P w (upd H a o) h' := fun b u e => by
  have hn := x.fresh hp
  by_cases hb : b = a
  · subst hb; rw [upd_same] at e; cases e; exact new
  · rw [upd_ne hb] at e
    exact (x b u e).stay (fun c v _ q => k c v q) (fun c q => by rw [upd_ne (ne_of_none q hn)]; exact q) fun c xs q => by rw [upd_ne (ne_of_none q hn)]; exact q
end

/-- what may be read as u: it is u, or a known u -/
def Rd (H : Hp) (a : Addr) (u : HO) : Prop := H a = some u ∨ ∃ o, H a = some (.frz o u)
theorem Rd.ok {P : Program} {w : World} {H : Hp} {h : Heap} {a : Addr} {u : HO} (r : Rd H a u) (x : HOk P w H h) : ObjOk P w H h a u := by
  rcases r with r | ⟨o, r⟩
  · exact x a u r
  · obtain ⟨_, q⟩ := x a _ r
    exact q
/-- what may be written -/
def Mut : Option HO → Prop
  | some (.lst _) => True
  | some (.dK _) => True
  | some (.dT _) => True
  | some (.set _ _) => True
  | some (.ins _ _ _) => True
  | some (.ext _) => True
  | _ => False
section
variable {P : Program} {w : World} {H : Hp} {h h' : Heap} {x e : Addr} {o' : HO}
/-- the object at e is changed: x itself, or the dict of the instance x -/
theorem HOk.write (ok : HOk P w H h) (mu : Mut (H x)) (he : e = x ∨ H e = some (.own x)) (k : ∀ b u, b ≠ e → h.get? b = some u → h'.get? b = some u) (heo : ∃ u, h'.get? e = some u)
    (new : ObjOk P w (upd H x o') h' x o') : HOk P w (upd H x o') h' := fun b u q => by
  have nown : ∀ c y, H c = some (.own y) → c ≠ x := fun c y r z => by subst z; rw [r] at mu; exact mu
  have ntup : ∀ c xs, H c = some (.tup xs) → c ≠ x := fun c xs r z => by subst z; rw [r] at mu; exact mu
  by_cases hb : b = x
  · subst hb; rw [upd_same] at q; cases q; exact new
  · rw [upd_ne hb] at q
    by_cases hbe : b = e
    · have q' : H b = some (.own x) := by
        rcases he with z | z
        · exact absurd (hbe.trans z) hb
        · rw [hbe]; exact z
      rw [q] at q'; cases q'
      obtain ⟨v, hv⟩ := heo
      exact ⟨v, by rw [hbe]; exact hv⟩
    · refine (ok b u q).stay (fun c v hc r => k c v ?_ r) (fun c r => by rw [upd_ne (nown c b r)]; exact r) fun c xs r => by rw [upd_ne (ntup c xs r)]; exact r
      rcases hc with rfl | hc
      · exact hbe
      · rintro rfl
        rcases he with z | z
        · exact nown c b hc z
        · rw [hc] at z; cases z; exact hb rfl
end

/-! ### kept unless tracked; of the frames at fs (the callers') the slots may change (an exception that passes writes there); of the records at ex (iterators) nothing is said -/
structure Un (fs ex : List Addr) (H H' : Hp) (h h' : Heap) : Prop where
  keep : ∀ b o, h.get? b = some o → H b = none → b ∉ fs → b ∉ ex → h'.get? b = some o
  slot : ∀ b o, h.get? b = some o → H b = none → b ∈ fs → b ∉ ex → ∃ sl, h'.get? b = some { o with slots := sl }
  free : ∀ b o, h.get? b = some o → H b = none → b ∉ ex → H' b = none
  there : ∀ b o, h.get? b = some o → b ∉ ex → ∃ o', h'.get? b = some o'
  tups : ∀ b xs, H b = some (.tup xs) → H' b = some (.tup xs)
  frzs : ∀ b o u, H b = some (.frz o u) → H' b = some (.frz o u)
  tbls : ∀ b ps, H b = some (.tbl ps) → ∃ more, H' b = some (.tbl (ps ++ more))
section
variable {fs fs' ex ex' : List Addr} {H H1 H2 : Hp} {h h1 h2 h' : Heap} {a x e : Addr} {o : HO}
theorem Un.any (u : Un fs ex H H1 h h1) {b : Addr} {ob : Obj} (q : h.get? b = some ob) (n : H b = none) (hx : b ∉ ex) : ∃ sl, h1.get? b = some { ob with slots := sl } := by
  by_cases hb : b ∈ fs
  · exact u.slot b ob q n hb hx
  · exact ⟨ob.slots, u.keep b ob q n hb hx⟩
theorem Un.kept (k : ∀ b u, h.get? b = some u → h'.get? b = some u) : Un fs ex H H h h' :=
  ⟨fun b ob q _ _ _ => k b ob q, fun b ob q _ _ _ => ⟨ob.slots, k b ob q⟩, fun _ _ _ n _ => n, fun b ob q _ => ⟨ob, k b ob q⟩, fun _ _ q => q, fun _ _ _ q => q, fun _ ps q => ⟨#[], by rw [q]; simp⟩⟩
theorem Un.refl : Un fs ex H H h h := Un.kept fun _ _ q => q
theorem Un.laid (k : ∀ b u, h.get? b = some u → h'.get? b = some u) (hp : h.objs.size ≤ a) (hn : H a = none) : Un fs ex H (upd H a o) h h' where
  keep := fun b u q _ _ _ => k b u q
  slot := fun b u q _ _ _ => ⟨u.slots, k b u q⟩
  free := fun b u q n _ => by rw [upd_ne (Nat.ne_of_lt (Nat.lt_of_lt_of_le (Heap.lt_size q) hp))]; exact n
  there := fun b u q _ => ⟨u, k b u q⟩
  tups := fun b xs q => by rw [upd_ne (ne_of_none q hn)]; exact q
  frzs := fun b u xs q => by rw [upd_ne (ne_of_none q hn)]; exact q
  tbls := fun b ps q => ⟨#[], by rw [upd_ne (ne_of_none q hn), q]; simp⟩
theorem Un.write (mu : Mut (H x)) (he : e = x ∨ H e = some (.own x)) (k : ∀ b u, b ≠ e → h.get? b = some u → h'.get? b = some u) (heo : ∃ u, h'.get? e = some u) : Un fs ex H (upd H x o) h h' := by
  have hx : ∀ b, H b = none → b ≠ x := fun b n z => by subst z; rw [n] at mu; exact mu
  have hb : ∀ b, H b = none → b ≠ e := fun b n z => by
    subst z
    rcases he with r | r
    · exact hx b n r
    · rw [n] at r; cases r
  have hm : ∀ b u, H b = some u → ¬ Mut (some u) → b ≠ x := fun b u q nm z => by subst z; rw [q] at mu; exact nm mu
  refine ⟨fun b u q n _ _ => k b u (hb b n) q, fun b u q n _ _ => ⟨u.slots, k b u (hb b n) q⟩, fun b u q n _ => by rw [upd_ne (hx b n)]; exact n, fun b u q _ => ?_,
    fun b xs q => by rw [upd_ne (hm b _ q fun z => z)]; exact q, fun b u xs q => by rw [upd_ne (hm b _ q fun z => z)]; exact q, fun b ps q => ⟨#[], by rw [upd_ne (hm b _ q fun z => z), q]; simp⟩⟩
  by_cases hbe : b = e
  · subst hbe; exact heo
  · exact ⟨u, k b u hbe q⟩
end

/-! ### the heap without what is tracked -/
def trk (h : Heap) (H : Hp) : List Addr := (List.range h.objs.size).filter fun a => (H a).isSome
def hidT (h : Heap) (H : Hp) : Heap := PySem.W.hideAll h (trk h H)
theorem hidT_size (h : Heap) (H : Hp) : (hidT h H).objs.size = h.objs.size := PySem.W.hideAll_size _ _
theorem hidT_get {h : Heap} {H : Hp} {b : Addr} {o : Obj} (e : h.get? b = some o) (n : H b = none) : (hidT h H).get? b = some o :=
  PySem.W.hideAll_get _ e fun hm => by
    have q : (H b).isSome = true := (List.mem_filter.mp hm).2
    rw [n] at q; simp at q
theorem of_hidT {h : Heap} {H : Hp} {b : Addr} {o : Obj} (e : (hidT h H).get? b = some o) : h.get? b = some o ∧ H b = none := by
  have e' : h.get? b = some o := PySem.W.of_hideAll (trk h H) e
  refine ⟨e', ?_⟩
  cases q : H b with
  | none => rfl
  | some x =>
    have hm : b ∈ trk h H := List.mem_filter.mpr ⟨List.mem_range.mpr (Heap.lt_size e'), by simp [q]⟩
    have z : (hidT h H).get? b = none := PySem.W.hideAll_none (trk h H) hm
    rw [z] at e; cases e

/-! ### OpenK's ledger, filled with every new object but one -/
def allNews (g h : Heap) (L : Addr) : List (Addr × Obj) := (List.range h.objs.size).filterMap fun a => if a = L ∨ (g.get? a).isSome = true then none else (h.get? a).map fun o => (a, o)
def rest (g h : Heap) (L d : Addr) : List (Addr × Obj) := (allNews g h L).filter fun p => decide (p.1 ≠ d)
end L2

namespace L2
open PySem PySem.Spec PyProof.Rows

/-- the module's facts, over the base: the heap at the law's entry without what is tracked there -/
structure Mod (K : PySem.W.Frag) (mg : Str → Option Value) (base : Heap) : Prop where
  kin : K.In base
  glob : base.Ns mainGlobals mg
  blt : ∃ mb, base.Ns builtinsNs mb ∧ ∀ x : Str, x ≠ "__name__" → mb x = bootBuiltins x
  nolimit : base.NoLimit

/-- the context: a def's body (or a comprehension's block) running. base: fixed through the whole law; s₀, H₀: the entry; outer: the frames whose slots others may change (a def's callers); stack: all frames that run;
   ex: iterators that were made ahead of the entry and are walked here (a comprehension's); fn: the names whose cells were made at the entry (a def: all; a comprehension's block: its own); calm: not within an except suite; pn: pins that every state bears; xe: what is wanted of an exception that leaves the code -/
structure Cx where
  prog : Program
  w : World
  K : PySem.W.Frag
  mg : Str → Option Value
  base : Heap
  A : Around
  N : List Str
  s₀ : Shared
  H₀ : Hp
  env : Env
  outer : List Env
  stack : List Env
  ex : List Addr
  fn : Str → Bool
  calm : Bool
  pn : List (Addr × Obj)
  xe : Value → Shared → Prop
/-- the callers' frames -/
def frs (l : List Env) : List Addr := l.filterMap (·.frame)
abbrev Cx.fs (X : Cx) : List Addr := frs X.outer

def Vis (sc : Scope) (x : Str) : Prop := sc.names.lookup x = some .local ∨ sc.names.lookup x = some .cell ∨ sc.names.lookup x = some .free
def Loc (sc : Scope) (x : Str) : Prop := sc.names.lookup x = some .local ∨ sc.names.lookup x = some .cell
def Look (env : Env) (h : Heap) (m : Str → Option Value) (x : Str) (u : Value) : Prop :=
  (env.kindOf x = some .local ∧ m x = some u) ∨ ((env.kindOf x = some .cell ∨ env.kindOf x = some .free) ∧ ∃ c, env.cells.lookup x = some c ∧ h.IsCell c (some u))

structure Cx.Ok (X : Cx) : Prop where
  mod : Mod X.K X.mg X.base
  kind : X.env.scope.kind = .function
  glob : X.env.globals = mainGlobals
  blt : X.env.builtins = builtinsNs
  above : X.s₀.heap.objs.size ≤ X.env.locals
  inj : ∀ x y c, X.env.cells.lookup x = some c → X.env.cells.lookup y = some c → x = y
  has : ∀ x, (X.env.kindOf x = some .cell ∨ X.env.kindOf x = some .free) → ∃ c, X.env.cells.lookup x = some c
  cab : ∀ x c, X.fn x = true → X.env.cells.lookup x = some c → X.s₀.heap.objs.size ≤ c
  hd : X.calm = true → X.A.handled = none
  frames : X.A.frames = some X.stack
  stk : X.stack = X.outer ∨ (X.stack = X.env :: X.outer ∧ X.env.frame = some X.env.locals)
  exf : ∀ b ∈ X.ex, b ≠ X.env.locals ∧ ∀ x c, X.env.cells.lookup x = some c → c ≠ b
  bs : ∀ b o, X.base.get? b = some o → X.s₀.heap.get? b = some o ∧ X.H₀ b = none
  bsz : X.base.objs.size ≤ X.s₀.heap.objs.size
  noex : ∀ b o, X.base.get? b = some o → b ∉ X.ex
  exfs : ∀ b ∈ X.ex, b ∉ X.fs
  funs : X.s₀.heap.FunFrames X.base X.outer
  frf : ∀ b ∈ X.fs, X.H₀ b = none

structure Inv (X : Cx) (pins : List (Addr × Obj)) (σ : List (Option V)) (H : Hp) (s : Shared) : Prop where
  ok : X.Ok
  os : s.os = X.s₀.os
  bare : AllBare s.gens
  base : Un X.fs X.ex X.H₀ H X.s₀.heap s.heap
  loc : ∃ m, s.heap.Ns X.env.locals m ∧ ∀ (i : Nat) (x : Str) (v : V), X.N[i]? = some x → σ[i]? = some (some v) → Vis X.env.scope x → ∃ u, RelV v u ∧ Look X.env s.heap m x u
  cell : ∀ x c, X.env.cells.lookup x = some c → ∃ v, s.heap.IsCell c v
  free : H X.env.locals = none
  freeC : ∀ x c, X.env.cells.lookup x = some c → H c = none
  pin : ∀ p ∈ X.pn ++ pins, s.heap.get? p.1 = some p.2 ∧ H p.1 = none ∧ p.1 ≠ X.env.locals ∧ p.1 ∉ X.fs ∧ ∀ v, p.2.data ≠ .cell v
  hok : HOk X.prog X.w H s.heap
  len : σ.length = X.N.length

section
variable {X : Cx} {pins : List (Addr × Obj)} {σ : List (Option V)} {H H' : Hp} {s : Shared} {h' : Heap}

theorem Cx.Ok.nofr (ok : X.Ok) {b : Addr} {o : Obj} (e : X.base.get? b = some o) : b ∉ X.fs := fun hb => by
  have := (ok.funs.mem hb).1
  rw [e] at this; cases this
theorem Inv.bs (I : Inv X pins σ H s) : ∀ b o, X.base.get? b = some o → s.heap.get? b = some o ∧ H b = none := fun b o e =>
  ⟨I.base.keep b o (I.ok.bs b o e).1 (I.ok.bs b o e).2 (I.ok.nofr e) (I.ok.noex b o e), I.base.free b o (I.ok.bs b o e).1 (I.ok.bs b o e).2 (I.ok.noex b o e)⟩
theorem Inv.bk (I : Inv X pins σ H s) : ∀ b o, X.base.get? b = some o → s.heap.get? b = some o := fun b o e => (I.bs b o e).1
theorem Inv.mod (I : Inv X pins σ H s) : Mod X.K X.mg X.base := I.ok.mod
theorem Inv.kIn (I : Inv X pins σ H s) : X.K.In s.heap := I.ok.mod.kin.keeps I.bk
/-- the frame over the base: for OpenK's rules (K.In X.base is I.mod.kin) -/
theorem Inv.fr (I : Inv X pins σ H s) : ∃ m, Fr X.base X.env.locals s.heap m :=
  let ⟨m, hn, _⟩ := I.loc
  ⟨m, hn, I.bk, Nat.le_trans I.ok.bsz I.ok.above⟩
theorem Inv.lt (I : Inv X pins σ H s) : X.env.locals < s.heap.objs.size := let ⟨_, hn, _⟩ := I.loc; hn.lt
theorem Inv.sz (I : Inv X pins σ H s) : X.s₀.heap.objs.size ≤ s.heap.objs.size := Nat.le_trans I.ok.above (Nat.le_of_lt I.lt)
theorem Inv.nofs (I : Inv X pins σ H s) {a : Addr} (h : s.heap.objs.size ≤ a) : a ∉ X.fs := fun hb => by
  obtain ⟨_, o, ho, _⟩ := I.ok.funs.mem hb
  exact absurd (Nat.lt_of_lt_of_le (Heap.lt_size ho) (Nat.le_trans I.sz h)) (Nat.lt_irrefl _)
theorem Inv.cne (I : Inv X pins σ H s) : ∀ x c, X.env.cells.lookup x = some c → c ≠ X.env.locals := fun x c e z => by
  obtain ⟨v, o, ho, hd⟩ := I.cell x c e
  obtain ⟨m, ⟨o', es, ep, ho', hd', _⟩, _⟩ := I.loc
  rw [z, ho'] at ho; cases ho; rw [hd'] at hd; cases hd
theorem Inv.funs (I : Inv X pins σ H s) : s.heap.FunFrames X.base X.outer := by
  have all : ∀ (l : List Env), (∀ b ∈ frs l, b ∈ X.fs) → X.s₀.heap.FunFrames X.base l → s.heap.FunFrames X.base l := by
    intro l
    induction l with
    | nil => intro _ _; trivial
    | cons env r ih =>
      intro hs hl
      obtain ⟨hk, ⟨L, o, hf, hn, ho, hd⟩, hr⟩ := hl
      have hL : L ∈ X.fs := hs L (by unfold frs; rw [List.filterMap_cons, hf]; exact List.mem_cons_self)
      obtain ⟨sl, e⟩ := I.base.slot L o ho (I.ok.frf L hL) hL fun z => I.ok.exfs L z hL
      exact ⟨hk, ⟨L, _, hf, hn, e, hd⟩, ih (fun b hb => hs b (by unfold frs; rw [List.filterMap_cons, hf]; exact List.mem_cons_of_mem _ hb)) hr⟩
  exact all X.outer (fun _ hb => hb) I.ok.funs

/-- the frames that run, for a call -/
theorem Inv.stack (I : Inv X pins σ H s) : s.heap.FunFrames X.base X.stack := by
  rcases I.ok.stk with e | ⟨e, hf⟩
  · rw [e]; exact I.funs
  · rw [e]
    obtain ⟨m, hn, _⟩ := I.loc
    refine .cons (by rw [I.ok.kind]; decide) hf hn ?_ I.funs
    exact Heap.get?_none_of_le (Nat.le_trans I.ok.bsz I.ok.above)
theorem Inv.stkSub (I : Inv X pins σ H s) : ∀ b ∈ frs X.stack, b ∈ X.env.locals :: X.fs := fun b hb => by
  rcases I.ok.stk with e | ⟨e, hf⟩
  · rw [e] at hb; exact List.mem_cons_of_mem _ hb
  · rw [e] at hb
    unfold frs at hb
    rw [List.filterMap_cons, hf] at hb
    exact hb
theorem Inv.stkFree (I : Inv X pins σ H s) : ∀ b ∈ frs X.stack, H b = none := fun b hb => by
  rcases List.mem_cons.mp (I.stkSub b hb) with e | hb
  · rw [e]; exact I.free
  · obtain ⟨_, o, ho, _⟩ := I.ok.funs.mem hb
    exact I.base.free b o ho (I.ok.frf b hb) fun z => I.ok.exfs b z hb

/-- THE STEP: the untracked objects but the frame and the records at ch are kept (the callers' frames up to slots), the frame's map is kept, the new abstract heap is held -/
theorem Inv.step {g' : Array GenState} {t' : Nat} {d' : Drawn} {ch : List Addr} (I : Inv X pins σ H s)
    (hch : ∀ b ∈ ch, (b ∈ X.ex ∨ X.s₀.heap.objs.size ≤ b) ∧ b ≠ X.env.locals ∧ (∀ x c, X.env.cells.lookup x = some c → c ≠ b) ∧ ∀ p ∈ X.pn ++ pins, p.1 ≠ b)
    (keep : ∀ b o, b ≠ X.env.locals → b ∉ X.fs → b ∉ ch → s.heap.get? b = some o → H b = none → h'.get? b = some o)
    (slot : ∀ b o, b ≠ X.env.locals → b ∈ X.fs → b ∉ ch → s.heap.get? b = some o → H b = none → ∃ sl, h'.get? b = some { o with slots := sl }) (free : ∀ b o, b ∉ ch → s.heap.get? b = some o → H b = none → H' b = none)
    (there : ∀ b o, b ∉ ch → s.heap.get? b = some o → ∃ o', h'.get? b = some o')
    (tups : ∀ b xs, H b = some (.tup xs) → H' b = some (.tup xs)) (frzs : ∀ b o u, H b = some (.frz o u) → H' b = some (.frz o u)) (tbls : ∀ b ps, H b = some (.tbl ps) → ∃ more, H' b = some (.tbl (ps ++ more)))
    (ns : ∀ m, s.heap.Ns X.env.locals m → h'.Ns X.env.locals m) (hok : HOk X.prog X.w H' h') (hg : AllBare g') :
    Inv X pins σ H' { s with heap := h', gens := g', drawn := d', toks := t' } := by
  have neL : ∀ b o, X.s₀.heap.get? b = some o → b ≠ X.env.locals := fun b o e => Nat.ne_of_lt (Nat.lt_of_lt_of_le (Heap.lt_size e) I.ok.above)
  have neC : ∀ b o, X.s₀.heap.get? b = some o → b ∉ X.ex → b ∉ ch := fun b o e hx hb => by
    rcases (hch b hb).1 with z | z
    · exact hx z
    · exact absurd (Nat.lt_of_lt_of_le (Heap.lt_size e) z) (Nat.lt_irrefl _)
  have cellK : ∀ x c, X.env.cells.lookup x = some c → ∀ v, s.heap.IsCell c v → h'.IsCell c v := fun x c e v ⟨o, ho, hd⟩ => by
    have nch : c ∉ ch := fun z => (hch c z).2.2.1 x c e rfl
    by_cases hc : c ∈ X.fs
    · obtain ⟨sl, q⟩ := slot c o (I.cne x c e) hc nch ho (I.freeC x c e)
      exact ⟨_, q, hd⟩
    · exact ⟨o, keep c o (I.cne x c e) hc nch ho (I.freeC x c e), hd⟩
  refine ⟨I.ok, I.os, hg, ⟨fun b o e n hb hx => ?_, fun b o e n hb hx => ?_, fun b o e n hx => ?_, fun b o e hx => ?_, fun b xs e => tups b xs (I.base.tups b xs e), fun b o xs e => frzs b o xs (I.base.frzs b o xs e), fun b ps e => ?_⟩, ?_, fun x c e => ?_, ?_, fun x c e => ?_, fun p hp => ?_, hok, I.len⟩
  · exact keep b o (neL b o e) hb (neC b o e hx) (I.base.keep b o e n hb hx) (I.base.free b o e n hx)
  · obtain ⟨sl, e1⟩ := I.base.slot b o e n hb hx
    obtain ⟨sl', e2⟩ := slot b _ (neL b o e) hb (neC b o e hx) e1 (I.base.free b o e n hx)
    exact ⟨sl', e2⟩
  · obtain ⟨o', e1⟩ := I.base.there b o e hx
    exact free b o' (neC b o e hx) e1 (I.base.free b o e n hx)
  · obtain ⟨o', e1⟩ := I.base.there b o e hx
    exact there b o' (neC b o e hx) e1
  · obtain ⟨m1, e1⟩ := I.base.tbls b ps e
    obtain ⟨m2, e2⟩ := tbls b _ e1
    exact ⟨m1 ++ m2, by rw [e2, Array.append_assoc]⟩
  · obtain ⟨m, hn, hl⟩ := I.loc
    refine ⟨m, ns m hn, fun i x v e1 e2 e3 => ?_⟩
    obtain ⟨u, r, l⟩ := hl i x v e1 e2 e3
    refine ⟨u, r, ?_⟩
    rcases l with l | ⟨k, c, e, z⟩
    · exact .inl l
    · exact .inr ⟨k, c, e, cellK x c e _ z⟩
  · obtain ⟨v, z⟩ := I.cell x c e
    exact ⟨v, cellK x c e v z⟩
  · obtain ⟨m, ⟨o, _, _, ho, _⟩, _⟩ := I.loc
    exact free _ o (fun z => (hch _ z).2.1 rfl) ho I.free
  · obtain ⟨v, o, ho, hd⟩ := I.cell x c e
    exact free c o (fun z => (hch c z).2.2.1 x c e rfl) ho (I.freeC x c e)
  · obtain ⟨e, n, ne, nf, d⟩ := I.pin p hp
    have nch : p.1 ∉ ch := fun z => (hch p.1 z).2.2.2 p hp rfl
    exact ⟨keep p.1 p.2 ne nf nch e n, free p.1 p.2 nch e n, ne, nf, d⟩
/-- .. where the frame's own object is kept too -/
theorem Inv.un {t' : Nat} (I : Inv X pins σ H s) (u : Un X.fs [] H H' s.heap h') (hok : HOk X.prog X.w H' h') : Inv X pins σ H' { s with heap := h', toks := t' } := by
  obtain ⟨m, ⟨o, es, ep, ho, r⟩, _⟩ := id I.loc
  obtain ⟨sl, hL⟩ := u.any ho I.free (by simp)
  exact I.step (g' := s.gens) (d' := s.drawn) (ch := []) (fun _ z => nomatch z) (fun b o _ hb _ e n => u.keep b o e n hb (by simp)) (fun b o _ hb _ e n => u.slot b o e n hb (by simp)) (fun b o _ e n => u.free b o e n (by simp)) (fun b o _ e => u.there b o e (by simp)) u.tups u.frzs u.tbls (fun m' hm => by
    obtain ⟨o', es', ep', ho', r'⟩ := hm
    rw [ho] at ho'; cases ho'
    exact ⟨_, es', ep', hL, r'⟩) hok I.bare
/-- behind a call (or a comprehension's block): the slots of this frame may have changed too, the records at ch may have turned -/
theorem Inv.call {g' : Array GenState} {t' : Nat} {d' : Drawn} {ch : List Addr} (I : Inv X pins σ H s) (u : Un (frs X.stack) ch H H' s.heap h') (hok : HOk X.prog X.w H' h') (hg : AllBare g')
    (hch : ∀ b ∈ ch, (b ∈ X.ex ∨ X.s₀.heap.objs.size ≤ b) ∧ b ≠ X.env.locals ∧ (∀ x c, X.env.cells.lookup x = some c → c ≠ b) ∧ ∀ p ∈ X.pn ++ pins, p.1 ≠ b) :
    Inv X pins σ H' { s with heap := h', gens := g', drawn := d', toks := t' } := by
  obtain ⟨m, ⟨o, es, ep, ho, r⟩, _⟩ := id I.loc
  obtain ⟨sl, hL⟩ := u.any ho I.free fun z => (hch _ z).2.1 rfl
  exact I.step (ch := ch) hch (fun b o hL hb hc e n => u.keep b o e n (fun z => (List.mem_cons.mp (I.stkSub b z)).elim hL hb) hc) (fun b o _ _ hc e n => u.any e n hc) (fun b o hc e n => u.free b o e n hc) (fun b o hc e => u.there b o e hc) u.tups u.frzs u.tbls (fun m' hm => by
    obtain ⟨o', es', ep', ho', r'⟩ := hm
    rw [ho] at ho'; cases ho'
    exact ⟨_, es', ep', hL, r'⟩) hok hg
/-- an untracked record of ours (an iterator) has turned -/
theorem Inv.turned {t' : Nat} {it : Addr} (I : Inv X pins σ H s) (k : ∀ b o, b ≠ it → s.heap.get? b = some o → h'.get? b = some o) (hn : H it = none) (hL : it ≠ X.env.locals)
    (h1 : it ∈ X.ex ∨ X.s₀.heap.objs.size ≤ it) (h2 : ∀ x c, X.env.cells.lookup x = some c → c ≠ it) (h3 : ∀ p ∈ X.pn ++ pins, p.1 ≠ it) : Inv X pins σ H { s with heap := h', toks := t' } := by
  have nit : ∀ b u, H b = some u → b ≠ it := fun b u e z => by rw [z, hn] at e; cases e
  refine I.step (g' := s.gens) (d' := s.drawn) (ch := [it]) (fun b hb => ?_) (fun b o _ _ hc e _ => k b o (fun z => hc (by simp [z])) e) (fun b o _ _ hc e _ => ⟨o.slots, k b o (fun z => hc (by simp [z])) e⟩) (fun _ _ _ _ n => n)
    (fun b o hc e => ⟨o, k b o (fun z => hc (by simp [z])) e⟩) (fun _ _ e => e) (fun _ _ _ e => e) (fun b ps e => ⟨#[], by rw [e]; simp⟩) (fun m hm => ?_) (fun b u e => ?_) I.bare
  · have e : b = it := by simpa using hb
    subst e
    exact ⟨h1, hL, h2, h3⟩
  · obtain ⟨o, es, ep, ho, r⟩ := hm
    exact ⟨o, es, ep, k _ o (Ne.symm hL) ho, r⟩
  · refine (I.hok b u e).stay (fun c v hc q => k c v ?_ q) (fun _ q => q) fun _ _ q => q
    rcases hc with z | z
    · rw [z]; exact nit b u e
    · exact nit c _ z
theorem Inv.tok (I : Inv X pins σ H s) (t : Nat) : Inv X pins σ H { s with toks := t } := I.un (h' := s.heap) (t' := t) Un.refl I.hok
/-- all objects kept -/
theorem Inv.kept {t' : Nat} (I : Inv X pins σ H s) (k : ∀ b u, s.heap.get? b = some u → h'.get? b = some u) : Inv X pins σ H { s with heap := h', toks := t' } := I.un (Un.kept k) (I.hok.kept k)
/-- a new object laid and tracked -/
theorem Inv.laid {a : Addr} {o : HO} {t' : Nat} (I : Inv X pins σ H s) (k : ∀ b u, s.heap.get? b = some u → h'.get? b = some u) (hp : s.heap.objs.size ≤ a) (new : ObjOk X.prog X.w (upd H a o) h' a o) :
    Inv X pins σ (upd H a o) { s with heap := h', toks := t' } := I.un (Un.laid k hp (I.hok.fresh hp)) (I.hok.laid k hp new)
/-- an object written -/
theorem Inv.write {x e : Addr} {o : HO} {t' : Nat} (I : Inv X pins σ H s) (mu : Mut (H x)) (he : e = x ∨ H e = some (.own x)) (k : ∀ b u, b ≠ e → s.heap.get? b = some u → h'.get? b = some u) (heo : ∃ u, h'.get? e = some u)
    (new : ObjOk X.prog X.w (upd H x o) h' x o) : Inv X pins σ (upd H x o) { s with heap := h', toks := t' } := I.un (Un.write mu he k heo) (I.hok.write mu he k heo new)
/-- forgetting slots, pins -/
theorem Inv.weak {σ' : List (Option V)} (I : Inv X pins σ H s) (hl : σ'.length = σ.length) (w : ∀ (i : Nat) v, σ'[i]? = some (some v) → σ[i]? = some (some v)) : Inv X pins σ' H s :=
  ⟨I.ok, I.os, I.bare, I.base, let ⟨m, hn, hl'⟩ := I.loc; ⟨m, hn, fun i x v e1 e2 e3 => hl' i x v e1 (w i v e2) e3⟩, I.cell, I.free, I.freeC, I.pin, I.hok, hl.trans I.len⟩
theorem Inv.pins_of {pins' : List (Addr × Obj)} (I : Inv X pins σ H s) (h : ∀ p ∈ pins', s.heap.get? p.1 = some p.2 ∧ H p.1 = none ∧ p.1 ≠ X.env.locals ∧ p.1 ∉ X.fs ∧ ∀ v, p.2.data ≠ .cell v) : Inv X pins' σ H s :=
  ⟨I.ok, I.os, I.bare, I.base, I.loc, I.cell, I.free, I.freeC, fun p hp => (List.mem_append.mp hp).elim (fun z => I.pin p (List.mem_append_left _ z)) (h p), I.hok, I.len⟩

theorem nodup_ix {N : List Str} (hN : N.Nodup) {i j : Nat} {x : Str} (a : N[i]? = some x) (b : N[j]? = some x) : i = j := by
  obtain ⟨h1, e1⟩ := List.getElem?_eq_some_iff.mp a
  obtain ⟨h2, e2⟩ := List.getElem?_eq_some_iff.mp b
  exact (List.getElem_inj hN).mp (e1.trans e2.symm)

/-- a name is stored; what changed -/
theorem store_ok2 {M : Model} {A : Around} {E : Value → Shared → Prop} {i : Nat} {x : Str} {v : V} {u : Value} {Q : Unit → Shared → Prop} (I : Inv X pins σ H s) (hN : X.N.Nodup) (hi : X.N[i]? = some x) (hx : Loc X.env.scope x) (r : RelV v u)
    (h : ∀ s', Inv X pins (σ.set i (some v)) H s' → (∃ a, Heap.SameBut a s.heap s'.heap ∧ (a = X.env.locals ∨ X.env.cells.lookup x = some a)) → Q () s') (hf : X.fn x = true ∨ X.env.scope.names.lookup x = some .local := by first | exact .inl rfl | exact .inr rfl | assumption) : wpAny M A (storeName X.env x u) Q E s := by
  obtain ⟨m, hn, hl⟩ := id I.loc
  have hcls : (X.env.scope.kind == .class || (X.env.scope.kind == .module && X.env.locals != X.env.globals)) = false := by rw [I.ok.kind]; rfl
  have hiσ : i < σ.length := by rw [I.len]; exact (List.getElem?_eq_some_iff.mp hi).1
  have cne := I.cne
  have tracked : ∀ {a : Addr} {h' : Heap}, (∃ o, s.heap.get? a = some o ∧ H a = none) → Heap.SameBut a s.heap h' → HOk X.prog X.w H h' := fun {a h'} ha hs b ob e => by
    obtain ⟨_, _, hfree⟩ := ha
    refine (I.hok b ob e).stay (fun c w' hc q => (hs.2 c ?_).trans q) (fun _ q => q) fun _ _ q => q
    rintro rfl
    rcases hc with rfl | hc
    · rw [hfree] at e; cases e
    · rw [hfree] at hc; cases hc
  rcases hx with hk | hk
  · refine wpAny_storeName_local hk hn (fun h' hn' hs => ?_) hcls
    obtain ⟨oL, _, _, hoL, _⟩ := id hn
    refine h _ ⟨I.ok, I.os, I.bare, ⟨fun b o e n hb hx => ?_, fun b o e n hb hx => ?_, I.base.free, fun b o e hx => ?_, I.base.tups, I.base.frzs, I.base.tbls⟩, ⟨_, hn', fun j y v' e1 e2 e3 => ?_⟩, fun y c e => ?_, I.free, I.freeC, fun p hp => ?_, tracked ⟨oL, hoL, I.free⟩ hs, by simpa using I.len⟩ ⟨_, hs, .inl rfl⟩
    · exact (hs.2 b (Nat.ne_of_lt (Nat.lt_of_lt_of_le (Heap.lt_size e) I.ok.above))).trans (I.base.keep b o e n hb hx)
    · obtain ⟨sl, e1⟩ := I.base.slot b o e n hb hx
      exact ⟨sl, (hs.2 b (Nat.ne_of_lt (Nat.lt_of_lt_of_le (Heap.lt_size e) I.ok.above))).trans e1⟩
    · obtain ⟨o', e1⟩ := I.base.there b o e hx
      exact ⟨o', (hs.2 b (Nat.ne_of_lt (Nat.lt_of_lt_of_le (Heap.lt_size e) I.ok.above))).trans e1⟩
    · by_cases hj : j = i
      · subst hj
        rw [hi] at e1; cases e1
        rw [List.getElem?_set_self hiσ] at e2
        cases e2
        exact ⟨u, r, .inl ⟨hk, by simp⟩⟩
      · rw [List.getElem?_set_ne (Ne.symm hj)] at e2
        obtain ⟨u', r', q⟩ := hl j y v' e1 e2 e3
        refine ⟨u', r', ?_⟩
        rcases q with ⟨k, e⟩ | ⟨k, c, e, z⟩
        · refine .inl ⟨k, ?_⟩
          have : y ≠ x := fun e => hj (nodup_ix hN e1 (e ▸ hi))
          simp [this, e]
        · exact .inr ⟨k, c, e, z.sameBut hs (cne y c e)⟩
    · obtain ⟨w', z⟩ := I.cell y c e
      exact ⟨w', z.sameBut hs (cne y c e)⟩
    · obtain ⟨e, n, ne, nf, d⟩ := I.pin p hp
      exact ⟨(hs.2 p.1 ne).trans e, n, ne, nf, d⟩
  · have hfn : X.fn x = true := by
      rcases hf with z | z
      · exact z
      · rw [z] at hk; cases hk
    obtain ⟨c, hc⟩ := I.ok.has x (.inl hk)
    obtain ⟨w', z⟩ := I.cell x c hc
    refine wpAny_storeName_cell I.ok.kind hk hc z (fun h' hc' hs => ?_)
    obtain ⟨oc, hoc, hocd⟩ := id z
    refine h { s with heap := h' } ⟨I.ok, I.os, I.bare, ⟨fun b o e n hb hx => ?_, fun b o e n hb hx => ?_, I.base.free, fun b o e hx => ?_, I.base.tups, I.base.frzs, I.base.tbls⟩, ⟨m, hn.sameBut hs (Ne.symm (cne x c hc)), fun j y v' e1 e2 e3 => ?_⟩, fun y c' e => ?_, I.free, I.freeC, fun p hp => ?_, tracked ⟨oc, hoc, I.freeC x c hc⟩ hs, by simpa using I.len⟩ ⟨c, hs, .inr hc⟩
    · exact (hs.2 b (Nat.ne_of_lt (Nat.lt_of_lt_of_le (Heap.lt_size e) (I.ok.cab x c hfn hc)))).trans (I.base.keep b o e n hb hx)
    · obtain ⟨sl, e1⟩ := I.base.slot b o e n hb hx
      exact ⟨sl, (hs.2 b (Nat.ne_of_lt (Nat.lt_of_lt_of_le (Heap.lt_size e) (I.ok.cab x c hfn hc)))).trans e1⟩
    · obtain ⟨o', e1⟩ := I.base.there b o e hx
      exact ⟨o', (hs.2 b (Nat.ne_of_lt (Nat.lt_of_lt_of_le (Heap.lt_size e) (I.ok.cab x c hfn hc)))).trans e1⟩
    · by_cases hj : j = i
      · subst hj
        rw [hi] at e1; cases e1
        rw [List.getElem?_set_self hiσ] at e2
        cases e2
        exact ⟨u, r, .inr ⟨.inl hk, c, hc, hc'⟩⟩
      · rw [List.getElem?_set_ne (Ne.symm hj)] at e2
        obtain ⟨u', r', q⟩ := hl j y v' e1 e2 e3
        refine ⟨u', r', ?_⟩
        rcases q with q | ⟨k, c', e, z'⟩
        · exact .inl q
        · refine .inr ⟨k, c', e, z'.sameBut hs ?_⟩
          rintro rfl
          exact hj (nodup_ix hN e1 (I.ok.inj _ _ _ e hc ▸ hi))
    · by_cases hcc : c' = c
      · subst hcc; exact ⟨_, hc'⟩
      · obtain ⟨w2, z2⟩ := I.cell y c' e
        exact ⟨w2, z2.sameBut hs hcc⟩
    · obtain ⟨e, n, ne, nf, d⟩ := I.pin p hp
      refine ⟨(hs.2 p.1 ?_).trans e, n, ne, nf, d⟩
      intro q
      rw [q, hoc] at e
      have q' : oc = p.2 := Option.some.inj e
      exact d w' (by rw [← q']; exact hocd)
theorem store_ok {M : Model} {A : Around} {E : Value → Shared → Prop} {i : Nat} {x : Str} {v : V} {u : Value} {Q : Unit → Shared → Prop} (I : Inv X pins σ H s) (hN : X.N.Nodup) (hi : X.N[i]? = some x) (hx : Loc X.env.scope x) (r : RelV v u)
    (h : ∀ s', Inv X pins (σ.set i (some v)) H s' → Q () s') (hf : X.fn x = true ∨ X.env.scope.names.lookup x = some .local := by first | exact .inl rfl | exact .inr rfl | assumption) : wpAny M A (storeName X.env x u) Q E s :=
  store_ok2 I hN hi hx r (fun s' I' _ => h s' I') hf
/-- behind a call or a block, the state as it is -/
theorem Inv.call' {s' : Shared} {ch : List Addr} (I : Inv X pins σ H s) (ho : s'.os = s.os) (u : Un (frs X.stack) ch H H' s.heap s'.heap) (hok : HOk X.prog X.w H' s'.heap) (hg : AllBare s'.gens)
    (hch : ∀ b ∈ ch, (b ∈ X.ex ∨ X.s₀.heap.objs.size ≤ b) ∧ b ≠ X.env.locals ∧ (∀ x c, X.env.cells.lookup x = some c → c ≠ b) ∧ ∀ p ∈ X.pn ++ pins, p.1 ≠ b) : Inv X pins σ H' s' := by
  obtain ⟨h', g', d', t', o'⟩ := s'
  have e : o' = s.os := ho
  subst e
  exact I.call (g' := g') (t' := t') (d' := d') u hok hg hch
end

/-! ### the judgements -/
/-- an exception: its class, its own dict's address (where it has one), the abstract heap behind it -/
abbrev XK := Value → Option Addr → Hp → Prop
abbrev St := List (Option V)
abbrev VK := V → Hp → Prop
/-- an expression's reading; a test's; an argument list's -/
abbrev TE := St → Hp → VK → Prop
abbrev TT := St → Hp → (Bool → Hp → Prop) → Prop
abbrev TA := St → Hp → (List V → Hp → Prop) → Prop
/-- what is wanted behind a statement -/
structure Ends where
  nx : St → Hp → Prop
  rt : VK
  bk : St → Hp → Prop := fun _ _ => False
  ct : St → Hp → Prop := fun _ _ => False
abbrev TS := Ends → St → Hp → Prop

def EP (X : Cx) (pins : List (Addr × Obj)) (σ : St) (Q : VK) (u : Value) (s' : Shared) : Prop := ∃ v H', Inv X pins σ H' s' ∧ RelV v u ∧ Q v H'
def TP (X : Cx) (pins : List (Addr × Obj)) (σ : St) (Q : Bool → Hp → Prop) (b : Bool) (s' : Shared) : Prop := ∃ H', Inv X pins σ H' s' ∧ Q b H'
def AP (X : Cx) (pins : List (Addr × Obj)) (σ : St) (Q : List V → Hp → Prop) (us : List Value) (s' : Shared) : Prop := ∃ vs H', Inv X pins σ H' s' ∧ Vals vs us ∧ Q vs H'
def SP (X : Cx) (pins : List (Addr × Obj)) (D : Ends) (f : Flow) (s' : Shared) : Prop :=
  match f with
  | .next => ∃ σ' H', Inv X pins σ' H' s' ∧ D.nx σ' H'
  | .brk => ∃ σ' H', Inv X pins σ' H' s' ∧ D.bk σ' H'
  | .cont => ∃ σ' H', Inv X pins σ' H' s' ∧ D.ct σ' H'
  | .ret u => ∃ v σ' H', Inv X pins σ' H' s' ∧ RelV v u ∧ D.rt v H'

def PE (X : Cx) (e : Expr) (t : TE) : Prop :=
  ∀ (pins : List (Addr × Obj)) (s : Shared) (σ : St) (H : Hp) (Q : VK), Inv X pins σ H s → t σ H Q → wpAny (model X.prog X.w) X.A (eval e X.env) (EP X pins σ Q) X.xe s
def PT (X : Cx) (e : Expr) (t : TT) : Prop :=
  ∀ (pins : List (Addr × Obj)) (s : Shared) (σ : St) (H : Hp) (Q : Bool → Hp → Prop), Inv X pins σ H s → t σ H Q → wpAny (model X.prog X.w) X.A (isTrue e X.env (eval e X.env)) (TP X pins σ Q) X.xe s
/-- a test whatever its 'whole' is (and, or) -/
def PW (X : Cx) (e : Expr) (t : TT) : Prop :=
  ∀ (whole : Sem Value) (pins : List (Addr × Obj)) (s : Shared) (σ : St) (H : Hp) (Q : Bool → Hp → Prop), Inv X pins σ H s → t σ H Q → wpAny (model X.prog X.w) X.A (isTrue e X.env whole) (TP X pins σ Q) X.xe s
theorem PW.pt {X : Cx} {e : Expr} {t : TT} (h : PW X e t) : PT X e t := h _
/-- an argument list (no star), from the left -/
def PA (X : Cx) (es : List Expr) (t : TA) : Prop :=
  ∀ (pos : Pos) (pins : List (Addr × Obj)) (s : Shared) (σ : St) (H : Hp) (Q : List V → Hp → Prop), Inv X pins σ H s → t σ H Q → wpAny (model X.prog X.w) X.A (spliced (backTo pos (starEach es X.env))) (AP X pins σ Q) X.xe s
def PS (X : Cx) (st : Stmt) (t : TS) : Prop :=
  ∀ (pins : List (Addr × Obj)) (s : Shared) (σ : St) (H : Hp) (D : Ends), Inv X pins σ H s → t D σ H → wpAny (model X.prog X.w) X.A (exec st X.env) (SP X pins D) X.xe s
def PSs (X : Cx) (st : List Stmt) (t : TS) : Prop :=
  ∀ (pins : List (Addr × Obj)) (s : Shared) (σ : St) (H : Hp) (D : Ends), Inv X pins σ H s → t D σ H → wpAny (model X.prog X.w) X.A (execs st X.env) (SP X pins D) X.xe s
/-- weaken the end -/
theorem thn {α : Type} {t : Sem α} {Q Q' : α → Shared → Prop} {M : Model} {A : Around} {E : Value → Shared → Prop} {s : Shared} (h : wpAny M A t Q E s) (hQ : ∀ a s, Q a s → Q' a s) : wpAny M A t Q' E s := wpAny_mono h hQ fun _ _ x => x
end L2

namespace L2
open PySem PySem.Spec PyProof.Rows
section
variable {X : Cx}

/-- two expressions in a row -/
theorem bin {a b : Expr} {ta tb : TE} (ha : PE X a ta) (hb : PE X b tb) {pins : List (Addr × Obj)} {s : Shared} {σ : St} {H : Hp} {R : V → V → Hp → Prop} (I : Inv X pins σ H s) (h : ta σ H fun x H1 => tb σ H1 fun y H2 => R x y H2)
    {α : Type} {Q : α → Shared → Prop} {f : Value → Value → Sem α}
    (hf : ∀ v u s2 x y H2, Inv X pins σ H2 s2 → RelV x v → RelV y u → R x y H2 → wpAny (model X.prog X.w) X.A (f v u) Q X.xe s2) :
    wpAny (model X.prog X.w) X.A (eval a X.env) (fun v s₁ => wpAny (model X.prog X.w) X.A (eval b X.env) (fun u s₂ => wpAny (model X.prog X.w) X.A (f v u) Q X.xe s₂) X.xe s₁) X.xe s := by
  refine thn (ha pins s σ H _ I h) fun v s1 ⟨x, H1, I1, r1, q1⟩ => ?_
  refine thn (hb pins s1 σ H1 _ I1 q1) fun u s2 ⟨y, H2, I2, r2, q2⟩ => ?_
  exact hf v u s2 x y H2 I2 r1 r2 q2

/-! ### names and constants -/
def tVar (i : Nat) : TE := fun σ H Q => ∃ v, σ[i]? = some (some v) ∧ Q v H
def tC (v : V) : TE := fun _ H Q => Q v H
theorem pe_var {i : Nat} {x : Str} {pos : Pos} (hN : X.N[i]? = some x) (hv : Vis X.env.scope x) (hd : (x == ("__debug__" : Str)) = false := by decide) (hcd : (x == ("__classdict__" : Str)) = false := by decide) : PE X (.Name x pos) (tVar i) := by
  intro pins s σ H Q I h
  obtain ⟨v, e, h⟩ := h
  obtain ⟨m, hn, hl⟩ := I.loc
  obtain ⟨u, r, l⟩ := hl i x v hN e hv
  have fin : EP X pins σ Q u s := ⟨v, H, I, r, h⟩
  rcases l with ⟨hk, hm⟩ | ⟨hk, c, hc, hcell⟩
  · exact wpAny_Name (wpAny_loadName_local I.ok.kind hk hn hm fin) hd
  · rcases hk with hk | hk
    · exact wpAny_Name (wpAny_loadName_cell I.ok.kind hk hc hcell fin) hd
    · exact wpAny_Name (wpAny_loadName_free I.ok.kind hk hc hcell fin hcd) hd
theorem pe_int {i j pos} : PE X (.Constant (.int i) j pos) (tC (.int i)) := fun _ _ _ H _ I h => wpAny_Constant_int ⟨.int i, H, I.tok _, ⟨_, rfl⟩, h⟩
theorem pe_bl {b j pos} : PE X (.Constant (.bool b) j pos) (tC (.bl b)) := fun _ _ _ H _ I h => Constant_bool ⟨.bl b, H, I, rfl, h⟩
theorem pe_non {j pos} : PE X (.Constant .none j pos) (tC .non) := fun _ _ _ H _ I h => Constant_none ⟨.non, H, I, rfl, h⟩
theorem pe_str {x j pos} : PE X (.Constant (.str x) j pos) (tC (.str x)) := fun _ _ _ H _ I h => Calls.Constant_str ⟨.str x, H, I.tok _, ⟨_, rfl⟩, h⟩

/-- a global name of the def -/
def Gl (X : Cx) (x : Str) : Prop := X.env.kindOf x = some .globalImplicit
theorem ld_glob {E : Value → Shared → Prop} {pins : List (Addr × Obj)} {s : Shared} {σ : St} {H : Hp} {x : Str} {u : Value} {pos : Pos} {Q : Value → Shared → Prop} (I : Inv X pins σ H s) (hg : Gl X x) (hm : X.mg x = some u) (h : Q u s)
    (hd : (x == ("__debug__" : Str)) = false := by decide) : wpAny (model X.prog X.w) X.A (eval (.Name x pos) X.env) Q E s :=
  Calls.Name_function_global I.ok.kind hg (Calls.loadGlobal_global (by rw [I.ok.glob]; exact I.mod.glob.keeps I.bk) hm h) hd
theorem ld_blt {E : Value → Shared → Prop} {pins : List (Addr × Obj)} {s : Shared} {σ : St} {H : Hp} {x : Str} {u : Value} {pos : Pos} {Q : Value → Shared → Prop} (I : Inv X pins σ H s) (hg : Gl X x) (hm : X.mg x = none) (hv : bootBuiltins x = some u) (h : Q u s)
    (hn : x ≠ "__name__" := by decide) (hd : (x == ("__debug__" : Str)) = false := by decide) : wpAny (model X.prog X.w) X.A (eval (.Name x pos) X.env) Q E s := by
  obtain ⟨mb, h1, h2⟩ := I.mod.blt
  exact Calls.Name_function_global I.ok.kind hg (Calls.loadGlobal_builtin (by rw [I.ok.glob]; exact I.mod.glob.keeps I.bk) hm (by rw [I.ok.blt]; exact h1.keeps I.bk) ((h2 x hn).trans hv) h) hd
/-- a module's constant, a class, a function, as a value -/
theorem pe_glob {x : Str} {v : V} {u : Value} {pos : Pos} (hg : Gl X x) (hm : X.mg x = some u) (r : RelV v u) (hd : (x == ("__debug__" : Str)) = false := by decide) : PE X (.Name x pos) (tC v) :=
  fun _ _ _ H _ I h => ld_glob I hg hm ⟨v, H, I, r, h⟩ hd
theorem pe_bltn {x : Str} {v : V} {u : Value} {pos : Pos} (hg : Gl X x) (hm : X.mg x = none) (hv : bootBuiltins x = some u) (r : RelV v u) (hn : x ≠ "__name__" := by decide) (hd : (x == ("__debug__" : Str)) = false := by decide) : PE X (.Name x pos) (tC v) :=
  fun _ _ _ H _ I h => ld_blt I hg hm hv ⟨v, H, I, r, h⟩ hn hd

/-! ### arithmetic -/
variable {a b : Expr} {ta tb : TE} {pos : Pos}
/-! ### comparisons -/
def PC (X : Cx) (op : CmpOp) (a b : Expr) (t : TE) : Prop :=
  ∀ (pins : List (Addr × Obj)) (s : Shared) (σ : St) (H : Hp) (Q : VK), Inv X pins σ H s → t σ H Q →
    wpAny (model X.prog X.w) X.A (eval a X.env) (fun v s₁ => wpAny (model X.prog X.w) X.A (eval b X.env) (fun u s₂ => wpAny (model X.prog X.w) X.A (compareOp op v u) (EP X pins σ Q) X.xe s₂) X.xe s₁) X.xe s
theorem nobehind (b : Expr) {op : CmpOp} (h : op ≠ .In) (h2 : op ≠ .NotIn) : behindInMarks op b = false := by
  have e1 : (op == CmpOp.In) = false := by cases op <;> first | rfl | exact absurd rfl h
  have e2 : (op == CmpOp.NotIn) = false := by cases op <;> first | rfl | exact absurd rfl h2
  cases b <;> simp [behindInMarks, e1, e2]
/-- is None -/
def tIsN (ta : TE) : TE := fun σ H Q => ta σ H fun x H1 => Q (.bl (decide (x = .non))) H1
def tNotN (ta : TE) : TE := fun σ H Q => ta σ H fun x H1 => Q (.bl (!decide (x = .non))) H1
theorem RelV.none_iff {x : V} {v : Value} (r : RelV x v) : (v == Value.none) = decide (x = .non) := by
  cases x with
  | non => cases r; rfl
  | bl _ => cases r; rfl
  | int _ => obtain ⟨t, rfl⟩ := r; rfl
  | str _ => obtain ⟨t, rfl⟩ := r; rfl
  | byt _ => obtain ⟨t, rfl⟩ := r; rfl
  | flt _ => obtain ⟨t, rfl⟩ := r; rfl
  | ref _ => cases r; rfl
  | ty _ => cases r; rfl
theorem pc_isN {j pos'} (ha : PE X a ta) : PC X .Is a (.Constant .none j pos') (tIsN ta) := by
  intro pins s σ H Q I h
  refine thn (ha pins s σ H _ I h) fun v s1 ⟨x, H1, I1, r1, q1⟩ => ?_
  exact Constant_none (is_none_gen ⟨.bl _, H1, I1, by rw [r1.none_iff]; rfl, q1⟩)
theorem pc_notN {j pos'} (ha : PE X a ta) : PC X .IsNot a (.Constant .none j pos') (tNotN ta) := by
  intro pins s σ H Q I h
  refine thn (ha pins s σ H _ I h) fun v s1 ⟨x, H1, I1, r1, q1⟩ => ?_
  exact Constant_none (isnot_none_gen ⟨.bl _, H1, I1, by rw [r1.none_iff]; rfl, q1⟩)
/-- a comparison as a value, as a test -/
def tB (t : TE) : TT := fun σ H Q => t σ H fun x H1 => ∃ c, x = .bl c ∧ Q c H1
theorem pe_cmp {op : CmpOp} {t : TE} (h : PC X op a b t) (h1 : behindInMarks op b = false := by first | exact nobehind _ (by decide) (by decide) | rfl) : PE X (.Compare a [op] [b] pos) t := fun pins s σ H Q I hw => wpAny_Compare1 (h pins s σ H Q I hw) h1
theorem pt_cmp {op : CmpOp} {t : TE} (h : PC X op a b t) (h1 : behindInMarks op b = false := by first | exact nobehind _ (by decide) (by decide) | rfl) : PT X (.Compare a [op] [b] pos) (tB t) := by
  intro pins s σ H Q I hw
  refine wpAny_isTrue_Compare1 (thn (h pins s σ H _ I hw) fun v s1 h1 => thn h1 fun u s2 h2 => thn h2 fun c s3 ⟨x, H1, I1, r1, q1⟩ => ?_) h1
  obtain ⟨d, rfl, q⟩ := q1
  cases r1
  exact wpAny_truthy_bool ⟨H1, I1, q⟩
/-- an expression whose value is a bool, as a test -/
theorem pt_val {e : Expr} {t : TE} (h : PE X e t) (he : ∀ whole, isTrue e X.env whole = (do let v ← whole; standAt e.pos; holding [v] (truthy v)) := by intro _; rfl) : PT X e (tB t) := by
  intro pins s σ H Q I hw
  refine isTrue_plain (thn (h pins s σ H _ I hw) fun v s1 ⟨x, H1, I1, r1, q1⟩ => ?_) (he _)
  obtain ⟨d, rfl, q⟩ := q1
  cases r1
  exact wpAny_truthy_bool ⟨H1, I1, q⟩

/-! ### and, or, not -/
variable {tA tB' : TT} {rest : List Expr}
def tAnd (t u : TT) : TT := fun σ H Q => t σ H fun c H1 => if c = true then u σ H1 Q else Q false H1
def tOr (t u : TT) : TT := fun σ H Q => t σ H fun c H1 => if c = true then Q true H1 else u σ H1 Q
def tNot (t : TT) : TT := fun σ H Q => t σ H fun c H1 => Q (!c) H1
theorem pw_and1 (ha : PT X a tA) : PW X (.BoolOp .And [a] pos) tA := by
  intro wh pins s σ H Q I h
  refine isTrue_and (thn (ha pins s σ H Q I h) fun c s1 e => ?_)
  cases c with
  | true => exact isTrue_and_nil e
  | false => exact e
theorem pw_or1 (ha : PT X a tA) : PW X (.BoolOp .Or [a] pos) tA := by
  intro wh pins s σ H Q I h
  refine isTrue_or (thn (ha pins s σ H Q I h) fun c s1 e => ?_)
  cases c with
  | false => exact isTrue_or_nil e
  | true => exact e
theorem pw_and (ha : PT X a tA) (hb : PW X (.BoolOp .And (b :: rest) pos) tB') : PW X (.BoolOp .And (a :: b :: rest) pos) (tAnd tA tB') := by
  intro wh pins s σ H Q I h
  refine isTrue_and (thn (ha pins s σ H _ I h) fun c s1 ⟨H1, I1, q1⟩ => ?_)
  cases c with
  | true => exact hb wh pins s1 σ H1 Q I1 q1
  | false => exact ⟨H1, I1, q1⟩
theorem pw_or (ha : PT X a tA) (hb : PW X (.BoolOp .Or (b :: rest) pos) tB') : PW X (.BoolOp .Or (a :: b :: rest) pos) (tOr tA tB') := by
  intro wh pins s σ H Q I h
  refine isTrue_or (thn (ha pins s σ H _ I h) fun c s1 ⟨H1, I1, q1⟩ => ?_)
  cases c with
  | true => exact ⟨H1, I1, q1⟩
  | false => exact hb wh pins s1 σ H1 Q I1 q1
theorem pt_not (ha : PT X a tA) : PT X (.UnaryOp .Not a pos) (tNot tA) := by
  intro pins s σ H Q I h
  exact isTrue_not (ha pins s σ H (fun c H1 => Q (!c) H1) I h)
/-- .. as values (bools) -/
def tAndV (ta tb : TE) : TE := fun σ H Q => ta σ H fun x H1 => ∃ c, x = .bl c ∧ if c = true then tb σ H1 Q else Q (.bl false) H1
theorem pe_one {op} {t : TE} (h : PE X a t) : PE X (.BoolOp op [a] pos) t := fun pins s σ H Q I hw => BoolOp_one (h pins s σ H Q I hw)
theorem pe_and (ha : PE X a ta) (hb : PE X (.BoolOp .And (b :: rest) pos) tb) : PE X (.BoolOp .And (a :: b :: rest) pos) (tAndV ta tb) := by
  intro pins s σ H Q I h
  refine BoolOp_and (thn (ha pins s σ H _ I h) fun v s1 ⟨x, H1, I1, r1, q1⟩ => ?_)
  obtain ⟨c, rfl, q1⟩ := q1
  cases r1
  refine wpAny_truthy_bool ?_
  cases c with
  | true => exact hb pins s1 σ H1 Q I1 q1
  | false => exact ⟨.bl false, H1, I1, rfl, q1⟩
end
end L2

namespace L2
open PySem PySem.Spec PyProof.Rows

/-! ### a list, a tuple that is read: tracked, frozen, or an object of the module -/
def SqL (K : PySem.W.Frag) (H : Hp) (a : Addr) (xs : List V) : Prop :=
  Rd H a (.lst xs) ∨
    ∃ (o : Obj) (its : Array Value) (n : Nat), K.lookup a = some o ∧ o.cls = .type "list" ∧ o.dict = none ∧ o.data = .seq its n ∧ its.size ≤ sizeLine ∧ Vals xs its.toList
def SqT (K : PySem.W.Frag) (H : Hp) (a : Addr) (xs : List V) : Prop :=
  Rd H a (.tup xs) ∨
    ∃ (o : Obj) (its : Array Value) (n : Nat), K.lookup a = some o ∧ o.cls = .type "tuple" ∧ o.data = .seq its n ∧ its.size ≤ sizeLine ∧ Vals xs its.toList
def absV : Value → Option V
  | .none => some .non
  | .bool b => some (.bl b)
  | .int i _ => some (.int i)
  | .str x _ => some (.str x)
  | .bytes b _ => some (.byt b)
  | .float b _ => some (.flt b)
  | .ref a => some (.ref a)
  | .type n => some (.ty n)
  | _ => none
theorem RelV.abs {x : V} {u : Value} (r : RelV x u) : absV u = some x := by
  cases x with
  | non => cases r; rfl
  | bl _ => cases r; rfl
  | int _ => obtain ⟨t, rfl⟩ := r; rfl
  | str _ => obtain ⟨t, rfl⟩ := r; rfl
  | byt _ => obtain ⟨t, rfl⟩ := r; rfl
  | flt _ => obtain ⟨t, rfl⟩ := r; rfl
  | ref _ => cases r; rfl
  | ty _ => cases r; rfl
theorem RelV.inj {x y : V} {u : Value} (r : RelV x u) (q : RelV y u) : x = y := Option.some.inj (r.abs.symm.trans q.abs)
theorem Vals.inj : ∀ {xs ys : List V} {us : List Value}, Vals xs us → Vals ys us → xs = ys
  | _, _, _, .nil, .nil => rfl
  | _, _, _, .cons r t, .cons r' t' => by rw [r.inj r', Vals.inj t t']
section
variable {X : Cx} {pins : List (Addr × Obj)} {σ : St} {H : Hp} {s : Shared} {a : Addr} {xs ys : List V}
theorem SqL.of {K : PySem.W.Frag} (h : H a = some (.lst xs)) : SqL K H a xs := .inl (.inl h)
theorem SqT.of {K : PySem.W.Frag} (h : H a = some (.tup xs)) : SqT K H a xs := .inl (.inl h)
theorem Inv.list (I : Inv X pins σ H s) (h : SqL X.K H a xs) : ∃ its : List Value, Vals xs its ∧ PlainL s.heap a its.toArray ∧ xs.length ≤ sizeLine := by
  rcases h with h | ⟨o, its, n, hk, hc, hd, hs, hz, r⟩
  · obtain ⟨z, its, n, r, e⟩ := h.ok I.hok
    exact ⟨its, r, ⟨_, n, e, rfl, rfl, rfl⟩, z⟩
  · refine ⟨its.toList, r, ⟨o, n, I.kIn a o hk, hc, hd, by simpa using hs⟩, ?_⟩
    have e := r.length
    simp only [Array.length_toList] at e
    omega
theorem Inv.tuple (I : Inv X pins σ H s) (h : SqT X.K H a xs) : ∃ its : List Value, Vals xs its ∧ IsTup s.heap a its.toArray ∧ xs.length ≤ sizeLine := by
  rcases h with h | ⟨o, its, n, hk, hc, hs, hz, r⟩
  · obtain ⟨z, its, r, p⟩ := h.ok I.hok
    exact ⟨its, r, p, z⟩
  · refine ⟨its.toList, r, ⟨o, I.kIn a o hk, hc, n, by simpa using hs⟩, ?_⟩
    have e := r.length
    simp only [Array.length_toList] at e
    omega
theorem Inv.list_inj (I : Inv X pins σ H s) (h : SqL X.K H a xs) (h' : SqL X.K H a ys) : xs = ys := by
  obtain ⟨its, r, ⟨o, n, e, _, _, d⟩, _⟩ := I.list h
  obtain ⟨its', r', ⟨o', n', e', _, _, d'⟩, _⟩ := I.list h'
  rw [e] at e'; cases e'
  rw [d] at d'
  injection d' with d1 _
  have : its = its' := by simpa using congrArg Array.toList d1
  subst this
  exact r.inj r'
theorem Inv.tuple_inj (I : Inv X pins σ H s) (h : SqT X.K H a xs) (h' : SqT X.K H a ys) : xs = ys := by
  obtain ⟨its, r, ⟨o, e, _, n, d⟩, _⟩ := I.tuple h
  obtain ⟨its', r', ⟨o', e', _, n', d'⟩, _⟩ := I.tuple h'
  rw [e] at e'; cases e'
  rw [d] at d'
  injection d' with d1 _
  have : its = its' := by simpa using congrArg Array.toList d1
  subst this
  exact r.inj r'
end

/-! ### another wish about exceptions -/
abbrev Cx.wish (X : Cx) (E : Value → Shared → Prop) : Cx := { X with xe := E }
/-- no exception leaves -/
abbrev Cx.nox (X : Cx) : Cx := X.wish fun _ _ => False
theorem Cx.Ok.wish {X : Cx} (ok : X.Ok) (E : Value → Shared → Prop) : (X.wish E).Ok :=
  ⟨ok.mod, ok.kind, ok.glob, ok.blt, ok.above, ok.inj, ok.has, ok.cab, ok.hd, ok.frames, ok.stk, ok.exf, ok.bs, ok.bsz, ok.noex, ok.exfs, ok.funs, ok.frf⟩
theorem Cx.Ok.unwish {X : Cx} {E : Value → Shared → Prop} (ok : (X.wish E).Ok) : X.Ok :=
  ⟨ok.mod, ok.kind, ok.glob, ok.blt, ok.above, ok.inj, ok.has, ok.cab, ok.hd, ok.frames, ok.stk, ok.exf, ok.bs, ok.bsz, ok.noex, ok.exfs, ok.funs, ok.frf⟩
section
variable {X : Cx} {pins : List (Addr × Obj)} {σ : St} {H : Hp} {s : Shared} {E : Value → Shared → Prop}
theorem Inv.wish (I : Inv X pins σ H s) (E : Value → Shared → Prop) : Inv (X.wish E) pins σ H s := ⟨I.ok.wish E, I.os, I.bare, I.base, I.loc, I.cell, I.free, I.freeC, I.pin, I.hok, I.len⟩
theorem Inv.unwish (I : Inv (X.wish E) pins σ H s) : Inv X pins σ H s := ⟨I.ok.unwish, I.os, I.bare, I.base, I.loc, I.cell, I.free, I.freeC, I.pin, I.hok, I.len⟩
theorem SP.unwish {D : Ends} {f : Flow} {s' : Shared} (h : SP (X.wish E) pins D f s') : SP X pins D f s' := by
  cases f with
  | next => obtain ⟨σ', H', I, q⟩ := h; exact ⟨σ', H', I.unwish, q⟩
  | brk => obtain ⟨σ', H', I, q⟩ := h; exact ⟨σ', H', I.unwish, q⟩
  | cont => obtain ⟨σ', H', I, q⟩ := h; exact ⟨σ', H', I.unwish, q⟩
  | ret u => obtain ⟨v, σ', H', I, r, q⟩ := h; exact ⟨v, σ', H', I.unwish, r, q⟩
theorem PSs.nox {st : List Stmt} {t : TS} (h : PSs X.nox st t) : PSs X st t := fun pins s σ H D I hw =>
  wpAny_mono (h pins s σ H D (I.wish _) hw) (fun _ _ q => q.unwish) fun _ _ z => False.elim z
end

/-! ### blocks and small statements -/
section
variable {X : Cx} {st : Stmt} {rest : List Stmt} {t u : TS} {e : Expr} {te : TE} {pos : Pos}
def tNext : TS := fun D σ H => D.nx σ H
def tSeq (t u : TS) : TS := fun D σ H => t { D with nx := u D } σ H
theorem pss_nil : PSs X [] tNext := fun _ _ σ H _ I h => wpAny_execs_nil ⟨σ, H, I, h⟩
theorem pss_cons (h1 : PS X st t) (h2 : PSs X rest u) : PSs X (st :: rest) (tSeq t u) := by
  intro pins s σ H D I h
  refine wpAny_execs_cons (thn (h1 pins s σ H { D with nx := u D } I h) fun f s1 q => ?_)
  cases f with
  | next =>
    obtain ⟨σ', H', I', q⟩ := q
    exact h2 pins s1 σ' H' D I' q
  | ret v => exact q
  | brk => exact q
  | cont => exact q
theorem pss_one (h1 : PS X st t) : PSs X [st] t := by
  intro pins s σ H D I h
  refine wpAny_execs_cons (thn (h1 pins s σ H D I h) fun f s1 q => ?_)
  cases f with
  | next => exact wpAny_execs_nil q
  | ret v => exact q
  | brk => exact q
  | cont => exact q
/-- in a def's body nothing is shown -/
theorem Inv.quiet {pins : List (Addr × Obj)} {σ : St} {H : Hp} {s : Shared} (I : Inv X pins σ H s) : interactive X.env = false := by simp [interactive, I.ok.kind]
/-- an expression whose value is dropped -/
def tDrop (te : TE) : TS := fun D σ H => te σ H fun _ H1 => D.nx σ H1
theorem ps_expr (he : PE X e te) (hs : swapsWith e none pos.line X.env = pure false := by rfl) : PS X (.Expr e pos) (tDrop te) := by
  intro pins s σ H D I h
  exact wpAny_Expr_any (thn (he pins s σ H _ I h) fun v s1 ⟨x, H1, I1, r1, q1⟩ => ⟨σ, H1, I1, q1⟩) I.quiet hs
def tRet (te : TE) : TS := fun D σ H => te σ H D.rt
theorem ps_ret (he : PE X e te) : PS X (.Return (some e) pos) (tRet te) := by
  intro pins s σ H D I h
  exact wpAny_Return_some (thn (he pins s σ H _ I h) fun v s1 ⟨x, H1, I1, r1, q1⟩ => ⟨x, σ, H1, I1, r1, q1⟩)
def tIfS (c : TT) (t u : TS) : TS := fun D σ H => c σ H fun b H1 => if b = true then t D σ H1 else u D σ H1
theorem ps_if {c : Expr} {a b : List Stmt} {tc : TT} (hc : PT X c tc) (ha : PSs X a t) (hb : PSs X b u) : PS X (.If c a b pos) (tIfS tc t u) := by
  intro pins s σ H D I h
  refine wpAny_If (thn (hc pins s σ H _ I h) fun d s1 ⟨H1, I1, q1⟩ => ?_)
  cases d with
  | true => exact ha pins s1 σ H1 D I1 q1
  | false => exact hb pins s1 σ H1 D I1 q1
/-- code that the proof never comes to -/
def tNever : TS := fun _ _ _ => False
theorem pss_never {sts : List Stmt} : PSs X sts tNever := fun _ _ _ _ _ _ h => h.elim
end

/-! ### targets -/
abbrev TG := V → St → Hp → (St → Hp → Prop) → Prop
abbrev TGs := List V → St → Hp → (St → Hp → Prop) → Prop
def PG (X : Cx) (target : Expr) (t : TG) : Prop :=
  ∀ (pins : List (Addr × Obj)) (s : Shared) (σ : St) (H : Hp) (v : V) (u : Value) (Q : St → Hp → Prop), Inv X pins σ H s → RelV v u → t v σ H Q →
    wpAny (model X.prog X.w) X.A (assign target X.env u) (fun _ s' => ∃ σ' H', Inv X pins σ' H' s' ∧ Q σ' H') X.xe s
/-- several targets, one after another -/
def PGs (X : Cx) (ts : List Expr) (t : TGs) : Prop :=
  ∀ (pins : List (Addr × Obj)) (s : Shared) (σ : St) (H : Hp) (vs : List V) (us : List Value) (Q : St → Hp → Prop), Inv X pins σ H s → Vals vs us → t vs σ H Q →
    wpAny (model X.prog X.w) X.A (assignInOrder ((assignEach ts X.env).map (·.2)) us) (fun _ s' => ∃ σ' H', Inv X pins σ' H' s' ∧ Q σ' H') X.xe s
/-- o[i] = v, by values -/
abbrev TSet := V → V → V → Hp → (Hp → Prop) → Prop
def PSet (X : Cx) (t : TSet) : Prop :=
  ∀ (pins : List (Addr × Obj)) (s : Shared) (σ : St) (H : Hp) (o i v : V) (ov iv u : Value) (Q : Hp → Prop), Inv X pins σ H s → RelV o ov → RelV i iv → RelV v u → t o i v H Q →
    wpAny (model X.prog X.w) X.A (setItem ov iv u) (fun _ s' => ∃ H', Inv X pins σ H' s' ∧ Q H') X.xe s
section
variable {X : Cx} {pos : Pos}
def gName (i : Nat) : TG := fun v σ H Q => Q (σ.set i (some v)) H
theorem pg_name {i : Nat} {x : Str} (hN : X.N.Nodup) (hi : X.N[i]? = some x) (hx : Loc X.env.scope x) (hf : X.fn x = true ∨ X.env.scope.names.lookup x = some .local := by first | exact .inl rfl | exact .inr rfl | assumption) : PG X (.Name x pos) (gName i) := by
  intro pins s σ H v u Q I r h
  exact wpAny_assign_Name (store_ok I hN hi hx r (fun s' I' => ⟨_, H, I', h⟩) hf)
def gNil : TGs := fun vs σ H Q => vs = [] ∧ Q σ H
def gCons (t : TG) (u : TGs) : TGs := fun vs σ H Q => ∃ v r, vs = v :: r ∧ t v σ H fun σ' H' => u r σ' H' Q
theorem pgs_nil : PGs X [] gNil := by
  intro pins s σ H vs us Q I r h
  obtain ⟨e, h⟩ := h
  subst e
  cases r
  exact assignInOrder_nil ⟨σ, H, I, h⟩
theorem pgs_cons {e : Expr} {es : List Expr} {t : TG} {u : TGs} (h1 : PG X e t) (h2 : PGs X es u)
    (hs : (assignEach (e :: es) X.env).map (·.2) = assign e X.env :: (assignEach es X.env).map (·.2) := by rfl) : PGs X (e :: es) (gCons t u) := by
  intro pins s σ H vs us Q I r h
  obtain ⟨v, vr, e1, h⟩ := h
  subst e1
  cases r with
  | cons r rr =>
    rw [hs]
    refine assignInOrder_cons (thn (h1 pins s σ H _ _ _ I r h) fun _ s1 ⟨σ1, H1, I1, q1⟩ => ?_)
    exact h2 pins s1 σ1 H1 _ _ Q I1 rr q1
/-- (a, b, ..) = a tuple of that length -/
def gTup (K : PySem.W.Frag) (n : Nat) (t : TGs) : TG := fun v σ H Q => ∃ a xs, v = .ref a ∧ SqT K H a xs ∧ xs.length = n ∧ t xs σ H Q
theorem pg_tup {es : List Expr} {k : Nat} {t : TGs} {n : Nat} (hc : X.calm = true) (h : PGs X es t)
    (hn : (assignEach es X.env).length = n := by rfl) (hst : (assignEach es X.env).findIdx? (·.1) = none := by rfl) : PG X (.Tuple es k pos) (gTup X.K n t) := by
  intro pins s σ H v u Q I r hw
  obtain ⟨a, xs, e1, hq, hl, hw⟩ := hw
  subst e1
  cases r
  obtain ⟨its, rv, ht, hz⟩ := I.tuple hq
  refine assign_Tuple_tuple (I.ok.hd hc) ht (by simp [hn, ← hl, rv.length]) hst fun h' hx => ?_
  have I1 : Inv X pins σ H { s with heap := h' } := I.kept (t' := s.toks) fun b o e => hx b o (Nat.ne_of_lt (Heap.lt_size e)) e
  exact h pins _ σ H xs _ Q I1 (by simpa using rv) hw
/-- o[i] = .. -/
def gSub (to ti : TE) (t : TSet) : TG := fun v σ H Q => to σ H fun o H1 => ti σ H1 fun i H2 => t o i v H2 fun H3 => Q σ H3
theorem pg_sub {o i : Expr} {to ti : TE} {t : TSet} (ho : PE X o to) (hi : PE X i ti) (hs : PSet X t)
    (ha : ∀ v, assign (.Subscript o i pos) X.env v = (do
      let ov ← holding [v] (eval o X.env)
      let iv ← holding [v, ov] (eval i X.env)
      standAt pos
      holding [v, ov, iv] (setItem ov iv v)
      release [v, ov, iv] []) := by intro _; rfl) : PG X (.Subscript o i pos) (gSub to ti t) := by
  intro pins s σ H v u Q I r h
  rw [ha]
  refine wpAny_bind (wpAny_holding (thn (ho pins s σ H _ I h) fun ov s1 ⟨x, H1, I1, r1, q1⟩ => ?_))
  refine wpAny_bind (wpAny_holding (thn (hi pins s1 σ H1 _ I1 q1) fun iv s2 ⟨y, H2, I2, r2, q2⟩ => ?_))
  refine wpAny_bind (wpAny_standAt (wpAny_bind (wpAny_holding (thn (hs pins s2 σ H2 x y v ov iv u _ I2 r1 r2 r q2) fun _ s3 ⟨H3, I3, q3⟩ => ?_))))
  exact wpAny_release ⟨σ, H3, I3, q3⟩
/-- target = value -/
def tAsg (te : TE) (g : TG) : TS := fun D σ H => te σ H fun x H1 => g x σ H1 D.nx
theorem ps_asg {tg e : Expr} {te : TE} {g : TG} (he : PE X e te) (hg : PG X tg g) (hs : swapsWithSole [tg] e pos.line X.env = pure false := by rfl) (hw : swappedStores [tg] e X.env = pure none := by rfl)
    (h1 : (assignEach [tg] X.env).map (·.2) = [assign tg X.env] := by rfl) : PS X (.Assign [tg] e pos) (tAsg te g) := by
  intro pins s σ H D I h
  refine wpAny_Assign_stores (thn (he pins s σ H _ I h) fun v s1 ⟨x, H1, I1, r1, q1⟩ => ?_) hs hw
  rw [h1]
  exact thn (hg pins s1 σ H1 x v _ I1 r1 q1) fun _ s2 q => q
/-- name = value -/
theorem ps_set {i : Nat} {x : Str} {e : Expr} {te : TE} {pos' : Pos} (hN : X.N.Nodup) (hi : X.N[i]? = some x) (hx : Loc X.env.scope x) (he : PE X e te) (hs : swapsWith e (some (.Name x pos')) pos.line X.env = pure false := by rfl) (hf : X.fn x = true ∨ X.env.scope.names.lookup x = some .local := by first | exact .inl rfl | exact .inr rfl | assumption) :
    PS X (.Assign [.Name x pos'] e pos) (tAsg te (gName i)) := by
  intro pins s σ H D I h
  refine wpAny_Assign_Name (thn (he pins s σ H _ I h) fun v s1 ⟨y, H1, I1, r1, q1⟩ => ?_) hs
  exact store_ok I1 hN hi hx r1 (fun s2 I2 => ⟨_, H1, I2, q1⟩) hf
end

/-! ### while -/
section
variable {X : Cx} {pos : Pos}
/-- the invariant W with its measure -/
def tWhile (c : TT) (tb : TS) : TS := fun D σ H => ∃ W : Nat → St → Hp → Prop, (∃ m, W m σ H) ∧ ∀ m σ H, W m σ H →
  c σ H fun b H1 => if b = true then ∃ N : St → Hp → Prop, (∀ σ' H', N σ' H' → ∃ m', m' < m ∧ W m' σ' H') ∧ tb { D with nx := N, ct := N, bk := D.nx } σ H1 else D.nx σ H1
theorem ps_while {c : Expr} {body : List Stmt} {tc : TT} {tb : TS} (hp : PassesOwn (model X.prog X.w) X.A X.env X.xe) (hc : PT X c tc) (hb : PSs X body tb) : PS X (.While c body [] pos) (tWhile tc tb) := by
  intro pins s σ H D I h
  obtain ⟨W, ⟨m0, w0⟩, turn⟩ := h
  refine wpAny_While (codeAny_whileLoop (fun n s' => ∃ σ' H', Inv X pins σ' H' s' ∧ W n σ' H') ?_ m0 ⟨σ, H, I, w0⟩)
  rintro n s1 ⟨σ1, H1, I1, w1⟩
  refine wpAny_passesOwn hp (thn (hc pins s1 σ1 H1 _ I1 (turn n σ1 H1 w1)) fun b s2 ⟨H2, I2, q2⟩ => ?_)
  cases b with
  | true =>
    obtain ⟨N, hN, q2⟩ := q2
    rw [if_pos rfl]
    refine wpAny_passesOwn hp (thn (hb pins s2 σ1 H2 _ I2 q2) fun f s3 q3 => ?_)
    cases f with
    | next =>
      obtain ⟨σ3, H3, I3, n3⟩ := q3
      obtain ⟨m', hm, w3⟩ := hN σ3 H3 n3
      exact ⟨m', hm, σ3, H3, I3, w3⟩
    | cont =>
      obtain ⟨σ3, H3, I3, n3⟩ := q3
      obtain ⟨m', hm, w3⟩ := hN σ3 H3 n3
      exact ⟨m', hm, σ3, H3, I3, w3⟩
    | brk => exact q3
    | ret v => exact q3
  | false =>
    rw [if_neg Bool.false_ne_true]
    exact wpAny_execs_nil ⟨σ1, H2, I2, q2⟩
end

/-! ### what a loop or a comprehension walks -/
/-- at turn i: it yields x (the heap may grow), or it stops -/
structure It where
  go : Nat → Hp → Prop
  yld : Nat → Hp → V → Hp → Prop
  stop : Nat → Hp → Prop
/-- the iterator's own objects may turn: they are not the frame's, not pinned, younger than the entry (or a comprehension's own) -/
def FpOk (X : Cx) (pins : List (Addr × Obj)) (H : Hp) (b : Addr) : Prop :=
  H b = none ∧ b ≠ X.env.locals ∧ b ∉ X.fs ∧ (b ∈ X.ex ∨ X.s₀.heap.objs.size ≤ b) ∧ (∀ x c, X.env.cells.lookup x = some c → c ≠ b) ∧ ∀ p ∈ X.pn ++ pins, p.1 ≠ b
theorem Inv.fpOk {X : Cx} {pins : List (Addr × Obj)} {σ : St} {H H' : Hp} {s : Shared} {b : Addr} (I : Inv X pins σ H s) (hb : s.heap.objs.size ≤ b) (hn : H' b = none) : FpOk X pins H' b := by
  refine ⟨hn, Nat.ne_of_gt (Nat.lt_of_lt_of_le I.lt hb), I.nofs hb, .inr (Nat.le_trans I.sz hb), fun x c e z => ?_, fun p hp z => ?_⟩
  · obtain ⟨v, q⟩ := I.cell x c e
    exact absurd (Nat.lt_of_lt_of_le q.lt (by rw [z]; exact hb)) (Nat.lt_irrefl _)
  · exact absurd (Nat.lt_of_lt_of_le (Heap.lt_size (I.pin p hp).1) (by rw [z]; exact hb)) (Nat.lt_irrefl _)
structure Turn (P : Program) (w : World) (K : PySem.W.Frag) (tg : Expr) (J : It) (fp : List Addr) (it : Addr) (tn : Nat → Heap → Prop) : Prop where
  mem : it ∈ fp
  obj : ∀ i h, tn i h → ∀ b ∈ fp, ∃ o, h.get? b = some o ∧ ∀ v, o.data ≠ .cell v
  keep : ∀ i h h', tn i h → (∀ b ∈ fp, ∀ o, h.get? b = some o → h'.get? b = some o) → tn i h'
  item : ∀ (X : Cx), X.prog = P → X.w = w → X.K = K → X.calm = true → ∀ (i : Nat) (pins : List (Addr × Obj)) (s : Shared) (σ : St) (H : Hp) (E : Value → Shared → Prop), Inv X pins σ H s → (∀ b ∈ fp, FpOk X pins H b) → tn i s.heap → J.go i H →
    wpAny (model P w) X.A (pyNext (.ref it)) (fun r s1 => ∃ u, r = some u ∧
      wpAny (model P w) X.A (letOwnedTupleGo tg (.ref it) u) (fun _ s2 => ∃ x H', Inv X pins σ H' s2 ∧ RelV x u ∧ J.yld i H x H' ∧ tn (i + 1) s2.heap ∧ ∀ b ∈ fp, H' b = none) E s1) E s
  done : ∀ (X : Cx), X.prog = P → X.w = w → X.K = K → X.calm = true → ∀ (i : Nat) (pins : List (Addr × Obj)) (s : Shared) (σ : St) (H : Hp) (E : Value → Shared → Prop), Inv X pins σ H s → (∀ b ∈ fp, FpOk X pins H b) → tn i s.heap → J.stop i H →
    wpAny (model P w) X.A (pyNext (.ref it)) (fun r s1 => r = none ∧ Inv X pins σ H s1) E s
  self : ∀ (A : Around) (i : Nat) (s : Shared) (Q : Value → Shared → Prop) (E : Value → Shared → Prop), tn i s.heap → Q (.ref it) s → wpAny (model P w) A (pyIter (.ref it)) Q E s
abbrev TI := St → Hp → (It → Hp → Prop) → Prop
/-- an iterator has come -/
def PIE (X : Cx) (pins : List (Addr × Obj)) (σ : St) (tg : Expr) (R : It → Hp → Prop) (itv : Value) (s2 : Shared) : Prop :=
  ∃ (it : Addr) (fp : List Addr) (tn : Nat → Heap → Prop) (J : It) (H' : Hp), itv = .ref it ∧ Inv X pins σ H' s2 ∧ Turn X.prog X.w X.K tg J fp it tn ∧ tn 0 s2.heap ∧ (∀ b ∈ fp, FpOk X pins H' b) ∧ R J H'
def PI (X : Cx) (tg iter : Expr) (wi : TI) : Prop :=
  ∀ (pins : List (Addr × Obj)) (s : Shared) (σ : St) (H : Hp) (R : It → Hp → Prop), Inv X pins σ H s → wi σ H R →
    wpAny (model X.prog X.w) X.A (eval iter X.env) (fun v s1 => wpAny (model X.prog X.w) X.A (pyIter v) (PIE X pins σ tg R) X.xe s1) X.xe s

/-- the step ahead of the store is nothing for an iterator that keeps no tuple -/
theorem go_of {M : Model} {A : Around} {E : Value → Shared → Prop} {s : Shared} {tg : Expr} {it : Addr} {u : Value} {o : Obj} {n : String} {vs : Array Value} {Q : Unit → Shared → Prop} (ho : s.heap.get? it = some o) (hc : o.cls = .type n) (hd : o.data = .fields vs)
    (hn : ["enumerate", "zip", "dict_itemiterator", "dict_reverseitemiterator", "odict_iterator", "itertools.zip_longest", "itertools.pairwise"].contains n = false) (hQ : Q () s) : wpAny M A (letOwnedTupleGo tg (.ref it) u) Q E s := by
  unfold letOwnedTupleGo
  cases tg <;> first
    | exact wpAny_pure hQ
    | (cases u <;> first
        | exact wpAny_pure hQ
        | (refine wpAny_bind (wpAny_load ho ?_)
           rw [hc, hd]
           show wpAny M A (if (["enumerate", "zip", "dict_itemiterator", "dict_reverseitemiterator", "odict_iterator", "itertools.zip_longest", "itertools.pairwise"].contains n && vs[0]? == some (rawInt _)) = true then _ else _) Q E s
           rw [if_neg (by intro h; rw [hn, Bool.false_and] at h; cases h)]
           exact wpAny_pure hQ))

/-- the list at a, as it stands at each turn (a loop may append to it) -/
def Itl (K : PySem.W.Frag) (a : Addr) : It :=
  ⟨fun i H => ∃ xs x, SqL K H a xs ∧ xs[i]? = some x, fun i H x H' => H' = H ∧ ∀ xs, SqL K H a xs → xs[i]? = some x, fun i H => ∃ xs, SqL K H a xs ∧ xs.length ≤ i⟩
def Itt (K : PySem.W.Frag) (a : Addr) : It :=
  ⟨fun i H => ∃ xs x, SqT K H a xs ∧ xs[i]? = some x, fun i H x H' => H' = H ∧ ∀ xs, SqT K H a xs → xs[i]? = some x, fun i H => ∃ xs, SqT K H a xs ∧ xs.length ≤ i⟩
/-- lo, lo + 1, .. (n of them) -/
def Itr (lo : Int) (n : Nat) : It := ⟨fun i _ => i < n, fun i H x H' => H' = H ∧ x = .int (lo + i), fun i _ => n ≤ i⟩
theorem turn_list {P : Program} {w : World} {K : PySem.W.Frag} {tg : Expr} (a it : Addr) : Turn P w K tg (Itl K a) [it] it (fun i h => h.IsListIter it a i) where
  mem := by simp
  obj := fun i h st b hb => by
    have e : b = it := by simpa using hb
    subst e
    obtain ⟨o, e, c, d⟩ := st
    exact ⟨o, e, fun v z => by rw [d] at z; cases z⟩
  keep := fun i h h' st k => st.at fun o e => k it (by simp) o e
  item := by
    intro X hP hw hK hc i pins s σ H E I hf st hg
    subst hP hw hK
    obtain ⟨xs, x, hq, hx⟩ := hg
    obtain ⟨its, rv, p, hz⟩ := I.list hq
    obtain ⟨u, hu, ru⟩ := rv.get hx
    obtain ⟨f0, f1, f2, f3, f4, f5⟩ := hf it (by simp)
    refine wpAny_pyNext_list_item st p.isList (x := u) (by simpa using hu) fun h' st' sb => ?_
    have I1 : Inv X pins σ H { s with heap := h' } := I.turned (t' := s.toks) (fun b o hb e => (sb.2 b hb).trans e) f0 f1 f3 f4 f5
    obtain ⟨o, e, c, d⟩ := id st'
    exact ⟨u, rfl, go_of (s := { s with heap := h' }) e c d (by decide) ⟨x, H, I1, ru, ⟨rfl, fun ys hy => by rw [I.list_inj hy hq]; exact hx⟩, st', fun b hb => (hf b hb).1⟩⟩
  done := by
    intro X hP hw hK hc i pins s σ H E I hf st hg
    subst hP hw hK
    obtain ⟨xs, hq, hx⟩ := hg
    obtain ⟨its, rv, p, hz⟩ := I.list hq
    obtain ⟨f0, f1, f2, f3, f4, f5⟩ := hf it (by simp)
    have hl := rv.length
    exact wpAny_pyNext_list_end (I.ok.hd hc) st p.isList (by simp; omega) fun h' eb => ⟨rfl, I.turned (t' := s.toks) (fun b o hb e => eb b o hb e) f0 f1 f3 f4 f5⟩
  self := fun _ _ _ _ _ st h => wpAny_pyIter_listiter st h
theorem turn_tuple {P : Program} {w : World} {K : PySem.W.Frag} {tg : Expr} (a it : Addr) : Turn P w K tg (Itt K a) [it] it (fun i h => h.IsTupleIter it a i) where
  mem := by simp
  obj := fun i h st b hb => by
    have e : b = it := by simpa using hb
    subst e
    obtain ⟨o, e, c, d⟩ := st
    exact ⟨o, e, fun v z => by rw [d] at z; cases z⟩
  keep := fun i h h' st k => st.at fun o e => k it (by simp) o e
  item := by
    intro X hP hw hK hc i pins s σ H E I hf st hg
    subst hP hw hK
    obtain ⟨xs, x, hq, hx⟩ := hg
    obtain ⟨its, rv, p, hz⟩ := I.tuple hq
    obtain ⟨u, hu, ru⟩ := rv.get hx
    obtain ⟨f0, f1, f2, f3, f4, f5⟩ := hf it (by simp)
    refine wpAny_pyNext_tuple_item st (show s.heap.IsTuple a its.toArray from p) (x := u) (by simpa using hu) fun h' st' sb => ?_
    have I1 : Inv X pins σ H { s with heap := h' } := I.turned (t' := s.toks) (fun b o hb e => (sb.2 b hb).trans e) f0 f1 f3 f4 f5
    obtain ⟨o, e, c, d⟩ := id st'
    exact ⟨u, rfl, go_of (s := { s with heap := h' }) e c d (by decide) ⟨x, H, I1, ru, ⟨rfl, fun ys hy => by rw [I.tuple_inj hy hq]; exact hx⟩, st', fun b hb => (hf b hb).1⟩⟩
  done := by
    intro X hP hw hK hc i pins s σ H E I hf st hg
    subst hP hw hK
    obtain ⟨xs, hq, hx⟩ := hg
    obtain ⟨its, rv, p, hz⟩ := I.tuple hq
    obtain ⟨f0, f1, f2, f3, f4, f5⟩ := hf it (by simp)
    have hl := rv.length
    exact wpAny_pyNext_tuple_end (I.ok.hd hc) st (show s.heap.IsTuple a its.toArray from p) (by simp; omega) fun h' eb => ⟨rfl, I.turned (t' := s.toks) (fun b o hb e => eb b o hb e) f0 f1 f3 f4 f5⟩
  self := fun _ _ _ _ _ st h => wpAny_pyIter_tupleiter st h
theorem turn_range {P : Program} {w : World} {K : PySem.W.Frag} {tg : Expr} (it : Addr) (lo : Int) (n : Nat) : Turn P w K tg (Itr lo n) [it] it (fun i h => IsRangeIter h it (lo + (i : Nat) * 1) ((n : Int) - (i : Nat)) 1) where
  mem := by simp
  obj := fun i h st b hb => by
    have e : b = it := by simpa using hb
    subst e
    exact ⟨_, st, fun v z => by
      have z' : Data.fields _ = Data.cell v := z
      cases z'⟩
  keep := fun i h h' st k => k it (by simp) _ st
  item := by
    intro X hP hw hK hc i pins s σ H E I hf st hg
    subst hP hw hK
    obtain ⟨f0, f1, f2, f3, f4, f5⟩ := hf it (by simp)
    have W := Walks.range (prog := X.prog) (w := X.w) (I.ok.hd hc) it lo 1 n
    refine W.item i s _ _ hg st fun v h' tk hv st' kk => ?_
    obtain ⟨t, rfl⟩ := hv
    have I1 : Inv X pins σ H { s with heap := h', toks := tk } := I.turned (fun b o hb e => kk b o (by simpa using hb) e) f0 f1 f3 f4 f5
    refine ⟨_, rfl, go_of (s := { s with heap := h', toks := tk }) (n := "range_iterator") st' rfl rfl (by decide) ⟨.int (lo + i), H, I1, ⟨t, ?_⟩, ⟨rfl, rfl⟩, st', fun b hb => (hf b hb).1⟩⟩
    rw [Int.mul_one]
  done := by
    intro X hP hw hK hc i pins s σ H E I hf st hg
    subst hP hw hK
    obtain ⟨f0, f1, f2, f3, f4, f5⟩ := hf it (by simp)
    exact wpAny_pyNext_range_end (I.ok.hd hc) st (by have : n ≤ i := hg; omega) fun h' eb => ⟨rfl, I.turned (t' := s.toks) (fun b o hb e => eb b o hb e) f0 f1 f3 f4 f5⟩
  self := fun _ _ _ _ _ st h => wpAny_pyIter_rangeiter st h
end L2

namespace L2
open PySem PySem.Spec PyProof.Rows
section
variable {X : Cx} {tg : Expr}
/-- a range object just made, walked -/
theorem range_it {pins : List (Addr × Obj)} {σ : St} {H : Hp} {s : Shared} {R : It → Hp → Prop} {E : Value → Shared → Prop} {lo hi : Int} {t u v : Tok} {tk : Nat} (I : Inv X pins σ H s) (h1 : -(2 ^ 62) ≤ lo) (h2 : lo < 2 ^ 62) (h3 : -(2 ^ 62) ≤ hi) (h4 : hi < 2 ^ 62)
    (q : R (Itr lo (hi - lo).toNat) H) : wpAny (model X.prog X.w) X.A (pyIter (.ref s.heap.objs.size)) (PIE X pins σ tg R) E { s with heap := s.heap.push { cls := .type "range", data := .fields #[.int lo t, .int hi u, .int 1 v] }, toks := tk } := by
  refine wpAny_pyIter_range (IsRange.new ..) (small_one h1 h2 h3 h4) ?_
  have I1 : Inv X pins σ H { s with heap := s.heap.push { cls := .type "range", data := .fields #[.int lo t, .int hi u, .int 1 v] }, toks := tk } := I.kept fun b o e => Heap.get?_push_of_some _ e
  refine ⟨(s.heap.push { cls := .type "range", data := .fields #[.int lo t, .int hi u, .int 1 v] }).objs.size, [(s.heap.push { cls := .type "range", data := .fields #[.int lo t, .int hi u, .int 1 v] }).objs.size], _, _, H, rfl,
    I1.kept (t' := tk) fun b o e => Heap.get?_push_of_some _ e, turn_range _ lo (hi - lo).toNat, ?_, fun b hb => ?_, q⟩
  · have e1 : lo + ((0 : Nat) : Int) * 1 = lo := by simp
    have e2 : (((hi - lo).toNat : Nat) : Int) - ((0 : Nat) : Int) = Builtin.Range.rangeSize lo hi 1 := by rw [rangeSize_one]; split <;> omega
    show IsRangeIter _ _ (lo + ((0 : Nat) : Int) * 1) ((((hi - lo).toNat : Nat) : Int) - ((0 : Nat) : Int)) 1
    rw [e1, e2]
    exact Heap.get?_push_size _ rfl
  · have e : b = (s.heap.push { cls := .type "range", data := .fields #[.int lo t, .int hi u, .int 1 v] }).objs.size := by simpa using hb
    subst e
    exact I1.fpOk (Nat.le_refl _) (I1.hok.fresh (Nat.le_refl _))
def iRng1 (ta : TA) : TI := fun σ H R => ta σ H fun vs H1 => ∃ j : Int, vs = [.int j] ∧ -(2 ^ 62) ≤ j ∧ j < 2 ^ 62 ∧ R (Itr 0 j.toNat) H1
def iRng2 (ta : TA) : TI := fun σ H R => ta σ H fun vs H1 => ∃ i j : Int, vs = [.int i, .int j] ∧ (-(2 ^ 62) ≤ i ∧ i < 2 ^ 62 ∧ -(2 ^ 62) ≤ j ∧ j < 2 ^ 62) ∧ R (Itr i (j - i).toNat) H1
theorem pi_range1 {a : Expr} {ta : TA} {p pos : Pos} (hg : Gl X "range") (hm : X.mg "range" = none) (ha : PA X [a] ta) (hs : starEach [a] X.env = [(false, eval a X.env)] := by rfl) : PI X tg (.Call (.Name "range" p) [a] [] pos) (iRng1 ta) := by
  intro pins s σ H R I h
  refine Call_ (ld_blt I hg hm boot_range (PyProof.Rows.callWith_type1 (thn (ha pos pins s σ H _ I h) fun us s1 ⟨vs, H1, I1, r1, q1⟩ => ?_) hs rfl))
  obtain ⟨j, e, q1, q2, q⟩ := q1
  subst e
  cases r1 with
  | cons r rr =>
    cases rr
    obtain ⟨t, rfl⟩ := r
    exact call_range_1 (range_it I1 (by omega) (by omega) q1 q2 (by simpa using q))
theorem pi_range2 {a b : Expr} {ta : TA} {p pos : Pos} (hg : Gl X "range") (hm : X.mg "range" = none) (ha : PA X [a, b] ta) (hs : starEach [a, b] X.env = [(false, eval a X.env), (false, eval b X.env)] := by rfl) (hs2 : starEach [b] X.env = [(false, eval b X.env)] := by rfl) :
    PI X tg (.Call (.Name "range" p) [a, b] [] pos) (iRng2 ta) := by
  intro pins s σ H R I h
  refine Call_ (ld_blt I hg hm boot_range (PyProof.Rows.callWith_type1 (thn (ha pos pins s σ H _ I h) fun us s1 ⟨vs, H1, I1, r1, q1⟩ => ?_) (by rw [hs, hs2]) (by rw [hs2]; rfl)))
  obtain ⟨i, j, e, ⟨q1, q2, q3, q4⟩, q⟩ := q1
  subst e
  cases r1 with
  | cons r rr =>
    cases rr with
    | cons r' rr =>
      cases rr
      obtain ⟨t, rfl⟩ := r
      obtain ⟨t', rfl⟩ := r'
      exact call_range_2 (range_it I1 q1 q2 q3 q4 q)

/-! ### for -/
/-- W: the invariant by the turn and a measure; N: what the body is to reach -/
def tFor (wi : TI) (g : TG) (tb : TS) : TS := fun D σ H => wi σ H fun J H1 => ∃ W : Nat → Nat → St → Hp → Prop, (∃ m, W 0 m σ H1) ∧ ∀ i m σ H, W i m σ H →
  (J.stop i H ∧ D.nx σ H) ∨ (J.go i H ∧ ∃ N : St → Hp → Prop, (∀ σ' H', N σ' H' → ∃ m', m' < m ∧ W (i + 1) m' σ' H') ∧ ∀ x H', J.yld i H x H' → g x σ H' fun σ2 H2 => tb { D with nx := N, ct := N, bk := D.nx } σ2 H2)
/-- the records at fp as they stand -/
def pinsAt (fp : List Addr) (h : Heap) : List (Addr × Obj) := fp.filterMap fun b => (h.get? b).map fun o => (b, o)
theorem mem_pinsAt {fp : List Addr} {h : Heap} {b : Addr} {o : Obj} (hb : b ∈ fp) (e : h.get? b = some o) : (b, o) ∈ pinsAt fp h := List.mem_filterMap.mpr ⟨b, hb, by rw [e]; rfl⟩
theorem of_pinsAt {fp : List Addr} {h : Heap} {p : Addr × Obj} (hp : p ∈ pinsAt fp h) : p.1 ∈ fp ∧ h.get? p.1 = some p.2 := by
  obtain ⟨b, hb, e⟩ := List.mem_filterMap.mp hp
  cases q : h.get? b with
  | none => rw [q] at e; cases e
  | some o =>
    rw [q] at e
    have e' : (b, o) = p := Option.some.inj e
    subst e'
    exact ⟨hb, q⟩
theorem Inv.pinned {pins : List (Addr × Obj)} {σ : St} {H : Hp} {s : Shared} {fp : List Addr} (I : Inv X pins σ H s) (hf : ∀ b ∈ fp, FpOk X pins H b) (ho : ∀ b ∈ fp, ∃ o, s.heap.get? b = some o ∧ ∀ v, o.data ≠ .cell v) : Inv X (pins ++ pinsAt fp s.heap) σ H s :=
  I.pins_of fun p hp => (List.mem_append.mp hp).elim (fun z => I.pin p (List.mem_append_right _ z)) fun z => by
    obtain ⟨hb, e⟩ := of_pinsAt z
    obtain ⟨f0, f1, f2, _⟩ := hf p.1 hb
    obtain ⟨o, e', d⟩ := ho p.1 hb
    rw [e] at e'; cases e'
    exact ⟨e, f0, f1, f2, d⟩
theorem Inv.unpinned {pins pl : List (Addr × Obj)} {σ : St} {H : Hp} {s : Shared} (I : Inv X (pins ++ pl) σ H s) : Inv X pins σ H s := I.pins_of fun p hp => I.pin p (List.mem_append_right _ (List.mem_append_left _ hp))
theorem ps_for {iter : Expr} {body : List Stmt} {wi : TI} {g : TG} {tb : TS} {pos : Pos} (hp : PassesOwn (model X.prog X.w) X.A X.env X.xe) (hc : X.calm = true) (hi : PI X tg iter wi) (hg : PG X tg g) (hb : PSs X body tb)
    (hs : ∀ x, foldedSetIterable iter X.env x = pure x := by intro _; rfl) : PS X (.For tg iter body [] pos) (tFor wi g tb) := by
  intro pins s σ H D I h
  refine wpAny_For (thn (hi pins s σ H _ I h) fun v s1 h1 => thn h1 fun itv s2 h2 => ?_) hs
  obtain ⟨it, fp, tn, J, H2, e, I2, T, st2, f2, W, ⟨m0, w0⟩, turn⟩ := h2
  subst e
  -- what stays true of the iterator's objects through the loop
  have stat : ∀ {H' : Hp}, (∀ b ∈ fp, H' b = none) → ∀ b ∈ fp, FpOk X pins H' b := fun hn b hb => ⟨hn b hb, (f2 b hb).2⟩
  refine codeAny_forLoop_any (fun n s' => ∃ i σ' H', Inv X pins σ' H' s' ∧ tn i s'.heap ∧ (∀ b ∈ fp, H' b = none) ∧ W i n σ' H') ?_ m0 ⟨0, σ, H2, I2, st2, fun b hb => (f2 b hb).1, w0⟩
  rintro n s3 ⟨i, σ3, H3, I3, st3, fr3, w3⟩
  rcases turn i n σ3 H3 w3 with ⟨stop, qn⟩ | ⟨go, N, hN, step⟩
  · refine wpAny_passesOwn hp (thn (T.done X rfl rfl rfl hc i pins s3 σ3 H3 X.xe I3 (stat fr3) st3 stop) fun r s4 ⟨hr, I4⟩ => ?_)
    subst hr
    exact wpAny_execs_nil ⟨σ3, H3, I4, qn⟩
  · refine wpAny_passesOwn hp (thn (T.item X rfl rfl rfl hc i pins s3 σ3 H3 X.xe I3 (stat fr3) st3 go) fun r s4 ⟨u, hr, h4⟩ => ?_)
    subst hr
    refine wpAny_passesOwn hp (thn h4 fun _ s5 ⟨x, H5, I5, r5, y5, st5, fr5⟩ => ?_)
    have I5' := I5.pinned (stat fr5) (T.obj _ _ st5)
    refine wpAny_passesOwn hp (thn (hg _ s5 σ3 H5 x u _ I5' r5 (step x H5 y5)) fun _ s6 ⟨σ6, H6, I6, q6⟩ => ?_)
    refine wpAny_passesOwn hp (thn (hb _ s6 σ6 H6 _ I6 q6) fun f s7 q7 => ?_)
    have again : ∀ {σ7 : St} {H7 : Hp}, Inv X (pins ++ pinsAt fp s5.heap) σ7 H7 s7 → N σ7 H7 → ∃ m, m < n ∧ ∃ i σ' H', Inv X pins σ' H' s7 ∧ tn i s7.heap ∧ (∀ b ∈ fp, H' b = none) ∧ W i m σ' H' := fun {σ7 H7} I7 n7 => by
      obtain ⟨m', hm, w7⟩ := hN σ7 H7 n7
      refine ⟨m', hm, i + 1, σ7, H7, I7.unpinned, T.keep _ _ _ st5 fun b hb o e => (I7.pin (b, o) (List.mem_append_right _ (List.mem_append_right _ (mem_pinsAt hb e)))).1, fun b hb => ?_, w7⟩
      obtain ⟨o, e, d⟩ := T.obj _ _ st5 b hb
      exact (I7.pin (b, o) (List.mem_append_right _ (List.mem_append_right _ (mem_pinsAt hb e)))).2.1
    cases f with
    | next => obtain ⟨σ7, H7, I7, n7⟩ := q7; exact again I7 n7
    | cont => obtain ⟨σ7, H7, I7, n7⟩ := q7; exact again I7 n7
    | brk => obtain ⟨σ7, H7, I7, q7⟩ := q7; exact ⟨σ7, H7, I7.unpinned, q7⟩
    | ret v => obtain ⟨x7, σ7, H7, I7, r7, q7⟩ := q7; exact ⟨x7, σ7, H7, I7.unpinned, r7, q7⟩
end

/-! ### the forms one uses -/
/-- over a list that the body leaves as it is -/
theorem for_list {K : PySem.W.Frag} {a : Addr} {xs : List V} {g : TG} {tb : TS} {D : Ends} {σ : St} {H : Hp} (Pv : Nat → St → Hp → Prop) (h0 : Pv 0 σ H) (hl : ∀ i σ H, i ≤ xs.length → Pv i σ H → SqL K H a xs)
    (hs : ∀ i x σ H, xs[i]? = some x → Pv i σ H → g x σ H fun σ2 H2 => tb { D with nx := Pv (i + 1), ct := Pv (i + 1), bk := D.nx } σ2 H2) (hd : ∀ σ H, Pv xs.length σ H → D.nx σ H) :
    ∃ W : Nat → Nat → St → Hp → Prop, (∃ m, W 0 m σ H) ∧ ∀ i m σ H, W i m σ H →
      ((Itl K a).stop i H ∧ D.nx σ H) ∨ ((Itl K a).go i H ∧ ∃ N : St → Hp → Prop, (∀ σ' H', N σ' H' → ∃ m', m' < m ∧ W (i + 1) m' σ' H') ∧ ∀ x H', (Itl K a).yld i H x H' → g x σ H' fun σ2 H2 => tb { D with nx := N, ct := N, bk := D.nx } σ2 H2) := by
  refine ⟨fun i m σ H => m = xs.length - i ∧ i ≤ xs.length ∧ Pv i σ H, ⟨xs.length, by simp, Nat.zero_le _, h0⟩, ?_⟩
  rintro i m σ H ⟨rfl, hi, p⟩
  have q := hl i σ H hi p
  by_cases hlt : i < xs.length
  · refine .inr ⟨⟨xs, xs[i], q, by simp [hlt]⟩, Pv (i + 1), fun σ' H' p' => ⟨xs.length - (i + 1), by omega, rfl, hlt, p'⟩, fun x H' y => ?_⟩
    obtain ⟨e, y⟩ := y
    subst e
    exact hs i x σ _ (y xs q) p
  · have e : i = xs.length := by omega
    subst e
    exact .inl ⟨⟨xs, q, Nat.le_refl _⟩, hd σ H p⟩
theorem for_tup {K : PySem.W.Frag} {a : Addr} {xs : List V} {g : TG} {tb : TS} {D : Ends} {σ : St} {H : Hp} (Pv : Nat → St → Hp → Prop) (h0 : Pv 0 σ H) (hl : ∀ i σ H, i ≤ xs.length → Pv i σ H → SqT K H a xs)
    (hs : ∀ i x σ H, xs[i]? = some x → Pv i σ H → g x σ H fun σ2 H2 => tb { D with nx := Pv (i + 1), ct := Pv (i + 1), bk := D.nx } σ2 H2) (hd : ∀ σ H, Pv xs.length σ H → D.nx σ H) :
    ∃ W : Nat → Nat → St → Hp → Prop, (∃ m, W 0 m σ H) ∧ ∀ i m σ H, W i m σ H →
      ((Itt K a).stop i H ∧ D.nx σ H) ∨ ((Itt K a).go i H ∧ ∃ N : St → Hp → Prop, (∀ σ' H', N σ' H' → ∃ m', m' < m ∧ W (i + 1) m' σ' H') ∧ ∀ x H', (Itt K a).yld i H x H' → g x σ H' fun σ2 H2 => tb { D with nx := N, ct := N, bk := D.nx } σ2 H2) := by
  refine ⟨fun i m σ H => m = xs.length - i ∧ i ≤ xs.length ∧ Pv i σ H, ⟨xs.length, by simp, Nat.zero_le _, h0⟩, ?_⟩
  rintro i m σ H ⟨rfl, hi, p⟩
  have q := hl i σ H hi p
  by_cases hlt : i < xs.length
  · refine .inr ⟨⟨xs, xs[i], q, by simp [hlt]⟩, Pv (i + 1), fun σ' H' p' => ⟨xs.length - (i + 1), by omega, rfl, hlt, p'⟩, fun x H' y => ?_⟩
    obtain ⟨e, y⟩ := y
    subst e
    exact hs i x σ _ (y xs q) p
  · have e : i = xs.length := by omega
    subst e
    exact .inl ⟨⟨xs, q, Nat.le_refl _⟩, hd σ H p⟩
theorem for_range {lo : Int} {n : Nat} {g : TG} {tb : TS} {D : Ends} {σ : St} {H : Hp} (Pv : Nat → St → Hp → Prop) (h0 : Pv 0 σ H)
    (hs : ∀ i σ H, i < n → Pv i σ H → g (.int (lo + i)) σ H fun σ2 H2 => tb { D with nx := Pv (i + 1), ct := Pv (i + 1), bk := D.nx } σ2 H2) (hd : ∀ σ H, Pv n σ H → D.nx σ H) :
    ∃ W : Nat → Nat → St → Hp → Prop, (∃ m, W 0 m σ H) ∧ ∀ i m σ H, W i m σ H →
      ((Itr lo n).stop i H ∧ D.nx σ H) ∨ ((Itr lo n).go i H ∧ ∃ N : St → Hp → Prop, (∀ σ' H', N σ' H' → ∃ m', m' < m ∧ W (i + 1) m' σ' H') ∧ ∀ x H', (Itr lo n).yld i H x H' → g x σ H' fun σ2 H2 => tb { D with nx := N, ct := N, bk := D.nx } σ2 H2) := by
  refine ⟨fun i m σ H => m = n - i ∧ i ≤ n ∧ Pv i σ H, ⟨n, by simp, Nat.zero_le _, h0⟩, ?_⟩
  rintro i m σ H ⟨rfl, hi, p⟩
  by_cases hlt : i < n
  · refine .inr ⟨hlt, Pv (i + 1), fun σ' H' p' => ⟨n - (i + 1), by omega, rfl, hlt, p'⟩, fun x H' y => ?_⟩
    obtain ⟨e, y⟩ := y
    subst e y
    exact hs i σ _ hlt p
  · have e : i = n := by omega
    subst e
    exact .inl ⟨Nat.le_refl _, hd σ H p⟩
end L2

namespace L2
open PySem PySem.Spec PyProof.Rows

abbrev R2 := V → V → Hp → VK → Prop
/-- a two-place operation on values: f is binaryOp op, inplaceOp op or compareOp op -/
def OpR (X : Cx) (f : Value → Value → Sem Value) (r : R2) : Prop :=
  ∀ (pins : List (Addr × Obj)) (s : Shared) (σ : St) (H : Hp) (x y : V) (v u : Value) (Q : VK), Inv X pins σ H s → RelV x v → RelV y u → r x y H Q →
    wpAny (model X.prog X.w) X.A (f v u) (EP X pins σ Q) X.xe s
/-- a one-place operation -/
def UnR (X : Cx) (f : Value → Sem Value) (r : V → Hp → VK → Prop) : Prop :=
  ∀ (pins : List (Addr × Obj)) (s : Shared) (σ : St) (H : Hp) (x : V) (v : Value) (Q : VK), Inv X pins σ H s → RelV x v → r x H Q →
    wpAny (model X.prog X.w) X.A (f v) (EP X pins σ Q) X.xe s
/-- a call of a value that is known (a builtin, a type) with values -/
def CallR (X : Cx) (f : Value) (r : List V → Hp → VK → Prop) : Prop :=
  ∀ (pins : List (Addr × Obj)) (s : Shared) (σ : St) (H : Hp) (xs : List V) (us : List Value) (Q : VK), Inv X pins σ H s → Vals xs us → r xs H Q →
    wpAny (model X.prog X.w) X.A (call f us) (EP X pins σ Q) X.xe s
/-- a value's truth -/
def TruR (X : Cx) (r : V → Hp → (Bool → Hp → Prop) → Prop) : Prop :=
  ∀ (pins : List (Addr × Obj)) (s : Shared) (σ : St) (H : Hp) (x : V) (v : Value) (Q : Bool → Hp → Prop), Inv X pins σ H s → RelV x v → r x H Q →
    wpAny (model X.prog X.w) X.A (truthy v) (TP X pins σ Q) X.xe s

def tOp (r : R2) (ta tb : TE) : TE := fun σ H Q => ta σ H fun x H1 => tb σ H1 fun y H2 => r x y H2 Q
def tUn (r : V → Hp → VK → Prop) (ta : TE) : TE := fun σ H Q => ta σ H fun x H1 => r x H1 Q
/-- ints in, under C, and a value out -/
def rI (C : Int → Int → Prop) (g : Int → Int → V) : R2 := fun x y H Q => ∃ i j, x = .int i ∧ y = .int j ∧ C i j ∧ Q (g i j) H
def rI0 (g : Int → Int → V) : R2 := fun x y H Q => ∃ i j, x = .int i ∧ y = .int j ∧ Q (g i j) H
def rU (g : Int → V) : V → Hp → VK → Prop := fun x H Q => ∃ i, x = .int i ∧ Q (g i) H

section
variable {X : Cx} {a b c : Expr} {ta tb tc : TE} {pos : Pos}

theorem binT (ha : PE X a ta) (hb : PE X b tb) {pins : List (Addr × Obj)} {s : Shared} {σ : St} {H : Hp} {R : V → V → Hp → Prop} (I : Inv X pins σ H s)
    (h : ta σ H fun x H1 => tb σ H1 fun y H2 => R x y H2) {Q : Value → Shared → Prop} {f : Value → Value → Sem Value}
    (hf : ∀ v u s2 x y H2, Inv X pins σ H2 s2 → RelV x v → RelV y u → R x y H2 → wpAny (model X.prog X.w) X.A (f v u) Q X.xe s2) :
    wpAny (model X.prog X.w) X.A (eval a X.env) (fun v s₁ => wpAny (model X.prog X.w) X.A (eval b X.env) (fun u s₂ => wpAny (model X.prog X.w) X.A (f v u) Q X.xe s₂) X.xe s₁) X.xe s := by
  refine thn (ha pins s σ H _ I h) fun v s1 ⟨x, H1, I1, r1, q1⟩ => ?_
  refine thn (hb pins s1 σ H1 _ I1 q1) fun u s2 ⟨y, H2, I2, r2, q2⟩ => ?_
  exact hf v u s2 x y H2 I2 r1 r2 q2

theorem pe_op {op : Operator} {r : R2} (ho : OpR X (binaryOp op) r) (ha : PE X a ta) (hb : PE X b tb) : PE X (.BinOp a op b pos) (tOp r ta tb) := by
  intro pins s σ H Q I h
  exact wpAny_BinOp (binT ha hb I h fun v u s2 x y H2 I2 rx ry q => ho pins s2 σ H2 x y v u Q I2 rx ry q)
theorem pe_un {op : UnaryOp} {r : V → Hp → VK → Prop} (ho : UnR X (unaryOp op) r) (ha : PE X a ta) : PE X (.UnaryOp op a pos) (tUn r ta) := by
  intro pins s σ H Q I h
  exact UnaryOp_ (thn (ha pins s σ H _ I h) fun v s1 ⟨x, H1, I1, r1, q1⟩ => ho pins s1 σ H1 x v Q I1 r1 q1)
/-! ### ints -/
theorem opI {f : Value → Value → Sem Value} {C : Int → Int → Prop} {g : Int → Int → Int}
    (rule : ∀ (i j : Int) (t u : Tok) (s : Shared) (Q : Value → Shared → Prop) (E : Value → Shared → Prop), C i j → Q (.int (g i j) s.toks) { s with toks := s.toks + 1 } → wpAny (model X.prog X.w) X.A (f (.int i t) (.int j u)) Q E s) :
    OpR X f (rI C fun i j => .int (g i j)) := by
  intro pins s σ H x y v u Q I rx ry h
  obtain ⟨i, j, rfl, rfl, hc, q⟩ := h
  obtain ⟨t, rfl⟩ := rx
  obtain ⟨t', rfl⟩ := ry
  exact rule i j t t' s _ _ hc ⟨.int (g i j), H, I.tok _, ⟨_, rfl⟩, q⟩
theorem opI0 {f : Value → Value → Sem Value} {g : Int → Int → Int}
    (rule : ∀ (i j : Int) (t u : Tok) (s : Shared) (Q : Value → Shared → Prop) (E : Value → Shared → Prop), Q (.int (g i j) s.toks) { s with toks := s.toks + 1 } → wpAny (model X.prog X.w) X.A (f (.int i t) (.int j u)) Q E s) :
    OpR X f (rI0 fun i j => .int (g i j)) := by
  intro pins s σ H x y v u Q I rx ry h
  obtain ⟨i, j, rfl, rfl, q⟩ := h
  obtain ⟨t, rfl⟩ := rx
  obtain ⟨t', rfl⟩ := ry
  exact rule i j t t' s _ _ ⟨.int (g i j), H, I.tok _, ⟨_, rfl⟩, q⟩
theorem opB0 {f : Value → Value → Sem Value} {g : Int → Int → Bool}
    (rule : ∀ (i j : Int) (t u : Tok) (s : Shared) (Q : Value → Shared → Prop) (E : Value → Shared → Prop), Q (.bool (g i j)) s → wpAny (model X.prog X.w) X.A (f (.int i t) (.int j u)) Q E s) :
    OpR X f (rI0 fun i j => .bl (g i j)) := by
  intro pins s σ H x y v u Q I rx ry h
  obtain ⟨i, j, rfl, rfl, q⟩ := h
  obtain ⟨t, rfl⟩ := rx
  obtain ⟨t', rfl⟩ := ry
  exact rule i j t t' s _ _ ⟨.bl (g i j), H, I, rfl, q⟩

def CDiv (i j : Int) : Prop := 0 < j ∧ j < 1073741824
def CMul (i j : Int) : Prop := (-(2 ^ 64) < i ∧ i < 2 ^ 64) ∨ (-(2 ^ 64) < j ∧ j < 2 ^ 64)
theorem CMul.ok {i j : Int} (h : CMul i j) : IntMulOk i j := by
  rcases h with ⟨h1, h2⟩ | ⟨h1, h2⟩
  · exact .of_left (intBits_le_64 h1 h2)
  · exact .of_right (intBits_le_64 h1 h2)
theorem op_add : OpR X (binaryOp .Add) (rI0 fun i j => .int (i + j)) := opI0 fun _ _ _ _ _ _ _ q => add_int q
theorem op_sub : OpR X (binaryOp .Sub) (rI0 fun i j => .int (i - j)) := opI0 fun _ _ _ _ _ _ _ q => sub_int q
theorem op_mul : OpR X (binaryOp .Mult) (rI CMul fun i j => .int (i * j)) := opI fun _ _ _ _ _ _ _ hc q => mul_int q hc.ok
/-- // by a positive divisor -/
theorem op_fdiv : OpR X (binaryOp .FloorDiv) (rI CDiv fun i j => .int (i / j)) := opI fun i j _ _ _ _ _ hc q => by
  have h1 : (0 : Int) < j := hc.1
  have h2 : j < 1073741824 := hc.2
  exact floordiv_int (by omega) (by rw [Int.fdiv_eq_ediv_of_nonneg i (by omega)]; exact q) (.inl (PyProof.noPylong_small (by omega)))
/-- % by a positive divisor of any size -/
theorem op_mod : OpR X (binaryOp .Mod) (rI (fun _ j => 0 < j) fun i j => .int (i % j)) := opI fun i j _ _ _ _ _ hc q => by
  have h1 : (0 : Int) < j := hc
  exact mod_int' (by omega) (by rw [Int.fmod_eq_emod_of_nonneg i (by omega)]; exact q)
theorem unI {f : Value → Sem Value} {g : Int → Int}
    (rule : ∀ (i : Int) (t : Tok) (s : Shared) (Q : Value → Shared → Prop) (E : Value → Shared → Prop), Q (.int (g i) s.toks) { s with toks := s.toks + 1 } → wpAny (model X.prog X.w) X.A (f (.int i t)) Q E s) :
    UnR X f (rU fun i => .int (g i)) := by
  intro pins s σ H x v Q I rx h
  obtain ⟨i, rfl, q⟩ := h
  obtain ⟨t, rfl⟩ := rx
  exact rule i t s _ _ ⟨.int (g i), H, I.tok _, ⟨_, rfl⟩, q⟩
theorem un_neg : UnR X (unaryOp .USub) (rU fun i => .int (-i)) := unI fun _ _ _ _ _ q => neg_int q
/-! ### bools among ints: n += (a < b) -/
end

/-! ### comparisons -/
/-- the scalars that == tells apart as data does -/
def scal : V → V → Bool
  | .non, .non => true | .non, .int _ => true | .int _, .non => true | .non, .bl _ => true | .bl _, .non => true | .non, .str _ => true | .str _, .non => true
  | .int _, .int _ => true | .bl _, .bl _ => true | .str _, .str _ => true | .byt _, .byt _ => true
  | .int _, .str _ => true | .str _, .int _ => true | .bl _, .str _ => true | .str _, .bl _ => true
  | _, _ => false
def rEq : R2 := fun x y H Q => scal x y = true ∧ Q (.bl (decide (x = y))) H
def rNe : R2 := fun x y H Q => scal x y = true ∧ Q (.bl (!decide (x = y))) H

theorem dec_int {i j : Int} : decide (V.int i = V.int j) = (i == j) := by
  rw [Bool.eq_iff_iff]
  simp
theorem dec_bl {i j : Bool} : decide (V.bl i = V.bl j) = (i == j) := by
  rw [Bool.eq_iff_iff]
  simp
theorem dec_str {i j : Str} : decide (V.str i = V.str j) = (i == j) := by
  rw [Bool.eq_iff_iff]
  simp
theorem dec_byt {i j : Array UInt8} : decide (V.byt i = V.byt j) = (i.toList == j.toList) := by
  rw [Bool.eq_iff_iff]
  cases i
  cases j
  simp

section
variable {X : Cx} {a b c : Expr} {ta tb tc : TE} {pos : Pos}
theorem fin_bl {pins : List (Addr × Obj)} {σ : St} {H : Hp} {s : Shared} {Q : VK} {k k' : Bool} (I : Inv X pins σ H s) (q : Q (.bl k) H) (e : k = k') : EP X pins σ Q (.bool k') s := by
  subst e
  exact ⟨.bl k, H, I, rfl, q⟩
theorem op_eq : OpR X (compareOp .Eq) rEq := by
  intro pins s σ H x y v u Q I rx ry h
  obtain ⟨hs, q⟩ := h
  cases x with
  | non =>
    cases rx
    cases y with
    | non => cases ry; exact PySem.EqNone.eq_none_none (fin_bl I q (by simp))
    | bl j => cases ry; exact PySem.EqNone.eq_none_bool (fin_bl I q (by simp))
    | int j => obtain ⟨t', rfl⟩ := ry; exact PySem.EqNone.eq_none_int (fin_bl I q (by simp))
    | str j => obtain ⟨t', rfl⟩ := ry; exact PySem.EqNone.eq_none_str (fin_bl I q (by simp))
    | _ => exact absurd (show false = true from hs) Bool.false_ne_true
  | bl i =>
    cases rx
    cases y with
    | non => cases ry; exact PySem.EqNone.eq_bool_none (fin_bl I q (by simp))
    | bl j => cases ry; exact eq_bool (fin_bl I q dec_bl)
    | str j => obtain ⟨t', rfl⟩ := ry; exact PySem.EqMixed.eq_bool_str (fin_bl I q (by simp))
    | _ => exact absurd (show false = true from hs) Bool.false_ne_true
  | int i =>
    obtain ⟨t, rfl⟩ := rx
    cases y with
    | non => cases ry; exact PySem.EqNone.eq_int_none (fin_bl I q (by simp))
    | int j => obtain ⟨t', rfl⟩ := ry; exact eq_int (fin_bl I q dec_int)
    | str j => obtain ⟨t', rfl⟩ := ry; exact PySem.EqMixed.eq_int_str (fin_bl I q (by simp))
    | _ => exact absurd (show false = true from hs) Bool.false_ne_true
  | str i =>
    obtain ⟨t, rfl⟩ := rx
    cases y with
    | non => cases ry; exact PySem.EqNone.eq_str_none (fin_bl I q (by simp))
    | bl j => cases ry; exact PySem.EqMixed.eq_str_bool (fin_bl I q (by simp))
    | int j => obtain ⟨t', rfl⟩ := ry; exact PySem.EqMixed.eq_str_int (fin_bl I q (by simp))
    | str j => obtain ⟨t', rfl⟩ := ry; exact eq_str (fin_bl I q dec_str)
    | _ => exact absurd (show false = true from hs) Bool.false_ne_true
  | byt i =>
    obtain ⟨t, rfl⟩ := rx
    cases y with
    | byt j => obtain ⟨t', rfl⟩ := ry; exact PySem.W.eq_bytes (fin_bl I q dec_byt)
    | _ => exact absurd (show false = true from hs) Bool.false_ne_true
  | _ => cases y <;> exact absurd (show false = true from hs) Bool.false_ne_true
theorem op_ne : OpR X (compareOp .NotEq) rNe := by
  intro pins s σ H x y v u Q I rx ry h
  obtain ⟨hs, q⟩ := h
  cases x with
  | non =>
    cases rx
    cases y with
    | non => cases ry; exact PySem.EqNone.ne_none_none (fin_bl I q (by simp))
    | bl j => cases ry; exact PySem.EqNone.ne_none_bool (fin_bl I q (by simp))
    | int j => obtain ⟨t', rfl⟩ := ry; exact PySem.EqNone.ne_none_int (fin_bl I q (by simp))
    | str j => obtain ⟨t', rfl⟩ := ry; exact PySem.EqNone.ne_none_str (fin_bl I q (by simp))
    | _ => exact absurd (show false = true from hs) Bool.false_ne_true
  | bl i =>
    cases rx
    cases y with
    | non => cases ry; exact PySem.EqNone.ne_bool_none (fin_bl I q (by simp))
    | bl j => cases ry; exact ne_bool (fin_bl I q (congrArg not dec_bl))
    | str j => obtain ⟨t', rfl⟩ := ry; exact PySem.EqMixed.ne_bool_str (fin_bl I q (by simp))
    | _ => exact absurd (show false = true from hs) Bool.false_ne_true
  | int i =>
    obtain ⟨t, rfl⟩ := rx
    cases y with
    | non => cases ry; exact PySem.EqNone.ne_int_none (fin_bl I q (by simp))
    | int j => obtain ⟨t', rfl⟩ := ry; exact ne_int (fin_bl I q (congrArg not dec_int))
    | str j => obtain ⟨t', rfl⟩ := ry; exact PySem.EqMixed.ne_int_str (fin_bl I q (by simp))
    | _ => exact absurd (show false = true from hs) Bool.false_ne_true
  | str i =>
    obtain ⟨t, rfl⟩ := rx
    cases y with
    | non => cases ry; exact PySem.EqNone.ne_str_none (fin_bl I q (by simp))
    | bl j => cases ry; exact PySem.EqMixed.ne_str_bool (fin_bl I q (by simp))
    | int j => obtain ⟨t', rfl⟩ := ry; exact PySem.EqMixed.ne_str_int (fin_bl I q (by simp))
    | str j => obtain ⟨t', rfl⟩ := ry; exact ne_str (fin_bl I q (congrArg not dec_str))
    | _ => exact absurd (show false = true from hs) Bool.false_ne_true
  | byt i =>
    obtain ⟨t, rfl⟩ := rx
    cases y with
    | byt j => obtain ⟨t', rfl⟩ := ry; exact PySem.W.ne_bytes (fin_bl I q (congrArg not dec_byt))
    | _ => exact absurd (show false = true from hs) Bool.false_ne_true
  | _ => cases y <;> exact absurd (show false = true from hs) Bool.false_ne_true

theorem op_lt : OpR X (compareOp .Lt) (rI0 fun i j => .bl (decide (i < j))) := opB0 fun _ _ _ _ _ _ _ q => lt_int q
theorem op_le : OpR X (compareOp .LtE) (rI0 fun i j => .bl (decide (i ≤ j))) := opB0 fun _ _ _ _ _ _ _ q => le_int q
theorem op_gt : OpR X (compareOp .Gt) (rI0 fun i j => .bl (decide (j < i))) := opB0 fun _ _ _ _ _ _ _ q => gt_int q
theorem op_ge : OpR X (compareOp .GtE) (rI0 fun i j => .bl (decide (j ≤ i))) := opB0 fun _ _ _ _ _ _ _ q => ge_int q
theorem op_notin_str : OpR X (compareOp .NotIn) (fun x y H Q => ∃ i j, x = .str i ∧ y = .str j ∧ Q (.bl (!(!(Builtin.Str.occurrences j i 0 j.length 1).isEmpty))) H) := by
  intro pins s σ H x y v u Q I rx ry h
  obtain ⟨i, j, rfl, rfl, q⟩ := h
  obtain ⟨t, rfl⟩ := rx
  obtain ⟨t', rfl⟩ := ry
  exact notIn_str (fin_bl I q rfl)
theorem nomark (b : Expr) {op : CmpOp} (h : op ≠ .In := by decide) (h2 : op ≠ .NotIn := by decide) : behindInMarks op b = false := by
  have e1 : (op == CmpOp.In) = false := by cases op <;> first | rfl | exact absurd rfl h
  have e2 : (op == CmpOp.NotIn) = false := by cases op <;> first | rfl | exact absurd rfl h2
  cases b <;> simp [behindInMarks, e1, e2]
/-- a comparison as a value; hm: nomark b, or (for in, not in) by with_unfolding_all rfl -/
theorem pe_cmpR {op : CmpOp} {r : R2} (ho : OpR X (compareOp op) r) (ha : PE X a ta) (hb : PE X b tb) (hm : behindInMarks op b = false) : PE X (.Compare a [op] [b] pos) (tOp r ta tb) := by
  intro pins s σ H Q I h
  exact wpAny_Compare1 (binT ha hb I h fun v u s2 x y H2 I2 rx ry q => ho pins s2 σ H2 x y v u Q I2 rx ry q) hm
/-- a reading of a value as a test -/
def tTest (t : TE) : TT := fun σ H Q => t σ H fun x H' => ∃ k, x = .bl k ∧ Q k H'
theorem pt_cmpR {op : CmpOp} {r : R2} (ho : OpR X (compareOp op) r) (ha : PE X a ta) (hb : PE X b tb) (hm : behindInMarks op b = false) : PT X (.Compare a [op] [b] pos) (tTest (tOp r ta tb)) := by
  intro pins s σ H Q I h
  refine wpAny_isTrue_Compare1 (thn (ha pins s σ H _ I h) fun v s1 ⟨x, H1, I1, r1, q1⟩ => thn (hb pins s1 σ H1 _ I1 q1) fun u s2 ⟨y, H2, I2, r2, q2⟩ =>
    thn (ho pins s2 σ H2 x y v u _ I2 r1 r2 q2) fun c s3 ⟨z, H3, I3, r3, k, e, q3⟩ => ?_) hm
  subst e
  cases r3
  exact wpAny_truthy_bool ⟨H3, I3, q3⟩
/-- a op1 b op2 c -/
def tChain (r r' : R2) (ta tb tc : TE) : TE := fun σ H Q => ta σ H fun x H1 => tb σ H1 fun y H2 => r x y H2 fun z H3 => ∃ k, z = .bl k ∧
  (if k = true then tc σ H3 fun w' H4 => r' y w' H4 Q else Q (.bl false) H3)
theorem pt_chain {op op' : CmpOp} {r r' : R2} (ho : OpR X (compareOp op) r) (ho' : OpR X (compareOp op') r') (ha : PE X a ta) (hb : PE X b tb) (hc : PE X c tc)
    (hm : lastMarks [op, op'] [b, c] = false := by with_unfolding_all rfl) : PT X (.Compare a [op, op'] [b, c] pos) (tTest (tChain r r' ta tb tc)) := by
  intro pins s σ H Q I h
  refine isTrue_chain (thn (ha pins s σ H _ I h) fun v s1 ⟨x, H1, I1, r1, q1⟩ => test_link (thn (hb pins s1 σ H1 _ I1 q1) fun u s2 ⟨y, H2, I2, r2, q2⟩ =>
    thn (ho pins s2 σ H2 x y v u _ I2 r1 r2 q2) fun d s3 ⟨z, H3, I3, r3, k, e, q3⟩ => ?_)) hm
  subst e
  cases r3
  refine wpAny_truthy_bool ?_
  cases k with
  | false =>
    obtain ⟨k', e', q'⟩ := q3
    cases e'
    exact ite_ff ⟨H3, I3, q'⟩
  | true =>
    refine ite_tt (test_last (thn (hc pins s3 σ H3 _ I3 q3) fun w' s4 ⟨z', H4, I4, r4, q4⟩ => thn (ho' pins s4 σ H4 y z' u w' _ I4 r2 r4 q4) fun d' s5 ⟨z2, H5, I5, r5, k2, e2, q5⟩ => ?_))
    subst e2
    cases r5
    exact wpAny_truthy_bool ⟨H5, I5, q5⟩

/-! ### truth -/
/-- a value's truth by the abstract heap -/
def TruV (K : PySem.W.Frag) (x : V) (H : Hp) (k : Bool) : Prop :=
  match x with
  | .non => k = false
  | .bl b => k = b
  | .int i => k = (i != 0)
  | .str y => y.length ≤ sizeLine ∧ k = ((y.length : Int) != 0)
  | .byt y => y.size ≤ sizeLine ∧ k = ((y.size : Int) != 0)
  | .ref p => (∃ xs, SqL K H p xs ∧ k = !xs.isEmpty) ∨ (∃ xs, SqT K H p xs ∧ k = !xs.isEmpty) ∨ ∃ kvs, H p = some (.dK kvs) ∧ k = !kvs.isEmpty
  | _ => False
theorem isEmpty_kv {κ : Type} {kvs : List (κ × V)} {vs : List (κ × Value)} (r : KV kvs vs) : (!vs.isEmpty) = !kvs.isEmpty := by
  cases r <;> rfl
theorem isEmpty_of {xs : List V} {its : List Value} (r : Vals xs its) : (!its.toArray.isEmpty) = !xs.isEmpty := by
  cases r <;> simp
theorem line63 : (sizeLine : Nat) < 2 ^ 63 := by rw [sizeLine_eq]; decide
theorem tru_ok : TruR X (fun x H Q => ∃ k, TruV X.K x H k ∧ Q k H) := by
  intro pins s σ H x v Q I rx h
  obtain ⟨k, e, q⟩ := h
  have hl := line63
  have hs : sizeLine = 16777216 := sizeLine_eq
  cases x with
  | non =>
    cases rx
    have e' : k = false := e
    subst e'
    exact truthy_none ⟨H, I, q⟩
  | bl b =>
    cases rx
    have e' : k = b := e
    subst e'
    exact wpAny_truthy_bool ⟨H, I, q⟩
  | int i =>
    obtain ⟨t, rfl⟩ := rx
    have e' : k = (i != 0) := e
    subst e'
    exact PySem.P.truthy_int ⟨H, I, q⟩
  | str y =>
    obtain ⟨t, rfl⟩ := rx
    obtain ⟨hy, e'⟩ : y.length ≤ sizeLine ∧ k = ((y.length : Int) != 0) := e
    subst e'
    exact PySem.P.truthy_str (by omega) ⟨H, I.tok _, q⟩
  | byt y =>
    obtain ⟨t, rfl⟩ := rx
    obtain ⟨hy, e'⟩ : y.size ≤ sizeLine ∧ k = ((y.size : Int) != 0) := e
    subst e'
    exact PySem.W.truthy_bytes (by omega) ⟨H, I.tok _, q⟩
  | ref p =>
    cases rx
    have e' : (∃ xs, SqL X.K H p xs ∧ k = !xs.isEmpty) ∨ (∃ xs, SqT X.K H p xs ∧ k = !xs.isEmpty) ∨ ∃ kvs, H p = some (.dK kvs) ∧ k = !kvs.isEmpty := e
    rcases e' with ⟨xs, hx, e'⟩ | ⟨xs, hx, e'⟩ | ⟨kvs, hx, e'⟩
    · subst e'
      obtain ⟨its, r, pl, hz⟩ := I.list hx
      have hlen := r.length
      exact wpAny_truthy_list pl.isList (by simp only [List.size_toArray]; omega) ⟨H, I.tok _, by rw [isEmpty_of r]; exact q⟩
    · subst e'
      obtain ⟨its, r, pl, hz⟩ := I.tuple hx
      have hlen := r.length
      exact truthy_tuple pl (by simp only [List.size_toArray]; omega) ⟨H, I.tok _, by rw [isEmpty_of r]; exact q⟩
    · subst e'
      obtain ⟨hz, hS, vs, r, m⟩ : kvs.length ≤ sizeLine ∧ (p == sysModules) = false ∧ ∃ vs, KV kvs vs ∧ s.heap.DictOf (mixKind X.prog X.w) p vs := I.hok p _ hx
      have hlen : kvs.length = vs.length := Paired.length r
      exact wpAny_truthy_dict hS m (by omega) ⟨H, I.tok _, by rw [isEmpty_kv r]; exact q⟩
  | _ => exact (show False from e).elim
/-! ### strs and bytes -/
/-! ### scalar builtins, by CallR -/
theorem vals1 {x : V} {us : List Value} (r : Vals [x] us) : ∃ u, us = [u] ∧ RelV x u := by
  cases r with
  | cons r1 r2 => cases r2; exact ⟨_, rfl, r1⟩
theorem vals2 {x y : V} {us : List Value} (r : Vals [x, y] us) : ∃ u w', us = [u, w'] ∧ RelV x u ∧ RelV y w' := by
  cases r with
  | cons r1 r2 =>
    cases r2 with
    | cons r3 r4 => cases r4; exact ⟨_, _, rfl, r1, r3⟩
theorem call_max2 (hc : X.calm = true) : CallR X (.builtin "max") (fun xs H Q => ∃ i j, xs = [.int i, .int j] ∧ Q (.int (if j > i then j else i)) H) := by
  intro pins s σ H xs us Q I r h
  obtain ⟨i, j, rfl, q⟩ := h
  obtain ⟨u, w', rfl, ⟨t, rfl⟩, ⟨t', rfl⟩⟩ := vals2 r
  refine max_two_ints (I.ok.hd hc) fun h' tk k => ⟨_, H, I.kept k, ?_, q⟩
  by_cases hj : j > i
  · rw [if_pos hj, if_pos hj]; exact ⟨_, rfl⟩
  · rw [if_neg hj, if_neg hj]; exact ⟨_, rfl⟩
/-- len of a str, a bytes, a list, a tuple -/
def LenV (K : PySem.W.Frag) (x : V) (H : Hp) (n : Nat) : Prop :=
  match x with
  | .str y => y.length ≤ sizeLine ∧ n = y.length
  | .byt y => y.size ≤ sizeLine ∧ n = y.size
  | .ref p => (∃ xs, SqL K H p xs ∧ n = xs.length) ∨ ∃ xs, SqT K H p xs ∧ n = xs.length
  | _ => False
theorem call_len : CallR X (.builtin "len") (fun xs H Q => ∃ x n, xs = [x] ∧ LenV X.K x H n ∧ Q (.int n) H) := by
  intro pins s σ H xs us Q I r h
  obtain ⟨x, n, rfl, e, q⟩ := h
  obtain ⟨u, rfl, rx⟩ := vals1 r
  have hl := line63
  have hs : sizeLine = 16777216 := sizeLine_eq
  cases x with
  | str y =>
    obtain ⟨t, rfl⟩ := rx
    obtain ⟨hy, e'⟩ : y.length ≤ sizeLine ∧ n = y.length := e
    subst e'
    exact len_str (by omega) ⟨.int _, H, I.tok _, ⟨_, rfl⟩, q⟩
  | byt y =>
    obtain ⟨t, rfl⟩ := rx
    obtain ⟨hy, e'⟩ : y.size ≤ sizeLine ∧ n = y.size := e
    subst e'
    exact PySem.W.len_bytes (by omega) ⟨.int _, H, I.tok _, ⟨_, rfl⟩, q⟩
  | ref p =>
    cases rx
    have e' : (∃ xs, SqL X.K H p xs ∧ n = xs.length) ∨ ∃ xs, SqT X.K H p xs ∧ n = xs.length := e
    rcases e' with ⟨xs, hx, e'⟩ | ⟨xs, hx, e'⟩
    · subst e'
      obtain ⟨its, r', pl, hz⟩ := I.list hx
      have hlen := r'.length
      exact Calls.call_len_list pl.isList (by simp only [List.size_toArray]; omega) ⟨.int xs.length, H, I.tok _, ⟨_, by simp only [List.size_toArray]; rw [hlen]⟩, q⟩
    · subst e'
      obtain ⟨its, r', pl, hz⟩ := I.tuple hx
      have hlen := r'.length
      exact len_tuple pl (by simp only [List.size_toArray]; omega) ⟨.int xs.length, H, I.tok _, ⟨_, by simp only [List.size_toArray]; rw [hlen]⟩, q⟩
  | _ => exact (show False from e).elim
end
end L2

namespace L2
open PySem PySem.Spec PyProof.Rows

/-! ### an instance, its attributes a map -/
structure ObjM (h : Heap) (x dx C : Addr) (mA : Str → Option Value) : Prop where
  obj : h.get? x = some (PySem.W.instObj C dx)
  ns : h.Ns1 dx mA
  ne : dx ≠ x

theorem lookIn_ns {h : Heap} {dx : Addr} {mA : Str → Option Value} (n : h.Ns1 dx mA) : ∃ od, h.get? dx = some od ∧ ∀ name, PySem.W.lookIn name od = some (mA name) := by
  obtain ⟨o, es, ep, ho, hd, hk, _, hm⟩ := n
  refine ⟨o, ho, fun name => ?_⟩
  have e := hm name
  unfold nsFind findBy at e
  rw [← Array.find?_toList] at e
  unfold PySem.W.lookIn
  rw [hd]
  dsimp only
  split
  · rename_i y q
    rw [q] at e
    exact congrArg some e
  · rename_i q
    rw [q] at e
    have a : es.toList.any (·.refKey) = false := by
      rw [List.any_eq_false]
      intro y hy
      obtain ⟨z, t, hkey⟩ := hk y (Array.mem_toList_iff.mp hy)
      simp [DictEntry.refKey, hkey]
    have a' : ¬ es.toList.any (·.refKey) = true := by rw [a]; exact Bool.false_ne_true
    rw [if_neg a']
    exact congrArg some e

theorem ObjM.look {h : Heap} {x dx C : Addr} {mA : Str → Option Value} (I : ObjM h x dx C mA) : ∃ od, PySem.W.InstAt h x (PySem.W.instObj C dx) C (some od) ∧ ∀ name, PySem.W.lookIn name od = some (mA name) :=
  let ⟨od, ho, hl⟩ := lookIn_ns I.ns
  ⟨od, ⟨I.obj, rfl, rfl, ho⟩, hl⟩

section
variable {prog : Program} {w : World} {A : Around} {E : Value → Shared → Prop} {s : Shared} {K : PySem.W.Frag} {x dx C f : Addr} {mA : Str → Option Value} {name : Str} {v : Value}

end

/-! ### the attributes as a list of pairs -/
section
variable {P : Program} {w : World} {H H' : Hp} {h h' : Heap} {a C dx : Addr} {fs fs' : List (Str × V)}
theorem ins_get (hok : HOk P w H h) (e : H a = some (.ins C dx fs)) : ∃ mA, ObjM h a dx C mA ∧ (∀ f, RelO (fs.lookup f) (mA f)) ∧ PySem.Within mA (fs.map (·.1)) ∧ fs.length ≤ 1000 ∧ H dx = some (.own a) := by
  obtain ⟨d, z, ne, ob, mA, n, r, q⟩ := (show ObjOk P w H h a (.ins C dx fs) from hok a _ e)
  exact ⟨mA, ⟨ob, n, ne⟩, r, q, z, d⟩
end

/-! ### what of the text a class must have -/
structure Cls (K : PySem.W.Frag) (C : Addr) : Prop where
  pg : PySem.W.plainGet K C Str.empty = true
  hd : PySem.W.hasDictIn K C = true
  po : PySem.W.plainOver K C = true
  sa : PySem.W.findIn K (.ref C) "__setattr__" = some (some (.builtin "object.__setattr__"))
theorem Cls.get {K : PySem.W.Frag} {C : Addr} (c : Cls K C) (f : Str) : PySem.W.plainGet K C f = true := c.pg
section
variable {X : Cx} {pins : List (Addr × Obj)} {σ : St} {H : Hp} {s : Shared} {a C dx : Addr} {fs : List (Str × V)} {f : Str} {v : V} {A : Around} {E : Value → Shared → Prop}

end

/-! ### readings and rules -/
section
variable {X : Cx} {o e value : Expr} {f : Str} {pos pos' tpos : Pos} {ta tv : TE}
end

/-! ### isinstance -/
section
variable {X : Cx} {pins : List (Addr × Obj)} {σ : St} {H : Hp} {s : Shared} {A : Around} {E : Value → Shared → Prop} {Q : Value → Shared → Prop} {c : Value} {b : Bool}
/-- the type of a value, as the fragment's deciders take it; for an instance its class -/
inductive TyOf (K : PySem.W.Frag) (H : Hp) : V → Value → Prop where
  | non : TyOf K H .non (.type "NoneType")
  | bl (x : Bool) : TyOf K H (.bl x) (.type "bool")
  | int (i : Int) : TyOf K H (.int i) (.type "int")
  | str (x : Str) : TyOf K H (.str x) (.type "str")
  | flt (x : UInt64) : TyOf K H (.flt x) (.type "float")
  | lst {a : Addr} {xs : List V} (e : H a = some (.lst xs)) : TyOf K H (.ref a) (.type "list")
  | frz {a : Addr} {o : Obj} {xs : List V} (e : H a = some (.frz o (.lst xs))) : TyOf K H (.ref a) (.type "list")
  | tup {a : Addr} {xs : List V} (e : H a = some (.tup xs)) : TyOf K H (.ref a) (.type "tuple")
  | dK {a : Addr} {kvs : List (Key × V)} (e : H a = some (.dK kvs)) : TyOf K H (.ref a) (.type "dict")
  | dT {a : Addr} {kvs : List (List Key × V)} (e : H a = some (.dT kvs)) : TyOf K H (.ref a) (.type "dict")
  | ins {a C dx : Addr} {fs : List (Str × V)} (e : H a = some (.ins C dx fs)) (cl : Cls K C) (ha : PySem.W.findIn K (.ref C) "__class__" = some (some (.builtin "object.__class__")))
      (hn : PySem.W.specialIn K (.builtin "object.__class__") "__get__" = some (some (.builtin "getset_descriptor.__get__"))) (htk : PySem.W.takesIn K (.builtin "object.__class__") = some true)
      (hm : PySem.W.mroIn K C (.type "object") = some true) : TyOf K H (.ref a) (.ref C)
/-- isinstance(x, c) for one class c, a built-in or an own one: kitOne's answer -/
theorem isinst_ok {x : V} {u t : Value} (I : Inv X pins σ H s) (rx : RelV x u) (ty : TyOf X.K H x t) (e : PySem.W.kitOne X.K t c = some b) (h : ∀ tk, Q (.bool b) { s with toks := tk }) :
    wpAny (model X.prog X.w) A (call (.builtin "isinstance") [u, c]) Q E s := by
  cases ty with
  | non => cases (show u = Value.none from rx); exact PySem.W.kia_one PySem.W.kitx_none I.kIn True.intro e (fun z => nomatch z) h
  | bl y => cases (show u = Value.bool y from rx); exact PySem.W.kia_one PySem.W.kitx_bool I.kIn True.intro e (fun z => nomatch z) h
  | int i => obtain ⟨t, q⟩ := (show ∃ t, u = Value.int i t from rx); cases q; exact PySem.W.kia_one PySem.W.kitx_int I.kIn True.intro e (fun z => nomatch z) h
  | str y => obtain ⟨t, q⟩ := (show ∃ t, u = Value.str y t from rx); cases q; exact PySem.W.kia_one PySem.W.kitx_str I.kIn True.intro e (fun z => nomatch z) h
  | flt y => obtain ⟨t, q⟩ := (show ∃ t, u = Value.float y t from rx); cases q; exact PySem.W.kia_one PySem.W.kitx_float I.kIn True.intro e (fun z => nomatch z) h
  | @lst a xs ea =>
    cases (show u = Value.ref a from rx)
    obtain ⟨_, _, n, _, h1⟩ := (show ObjOk X.prog X.w H s.heap a (.lst xs) from I.hok a _ ea)
    exact PySem.W.kia_one PySem.W.kitx_list I.kIn ⟨_, h1, rfl⟩ e (fun z => nomatch z) h
  | @frz a ob xs ea =>
    cases (show u = Value.ref a from rx)
    obtain ⟨_, _, _, n, _, h1⟩ := (show ObjOk X.prog X.w H s.heap a (.frz ob (.lst xs)) from I.hok a _ ea)
    exact PySem.W.kia_one PySem.W.kitx_list I.kIn ⟨_, h1, rfl⟩ e (fun z => nomatch z) h
  | @tup a xs ea =>
    cases (show u = Value.ref a from rx)
    obtain ⟨_, _, _, p⟩ := (show ObjOk X.prog X.w H s.heap a (.tup xs) from I.hok a _ ea)
    obtain ⟨o, h1, h2, _⟩ := p
    exact PySem.W.kia_one PySem.W.kitx_tuple I.kIn ⟨o, h1, h2⟩ e (fun z => nomatch z) h
  | @dK a kvs ea =>
    cases (show u = Value.ref a from rx)
    obtain ⟨_, _, vs, _, p⟩ := (show ObjOk X.prog X.w H s.heap a (.dK kvs) from I.hok a _ ea)
    obtain ⟨o, es, ep, h1, h2, _⟩ := p
    exact PySem.W.kia_one PySem.W.kitx_dict I.kIn ⟨o, h1, h2.1⟩ e (fun z => nomatch z) h
  | @dT a kvs ea =>
    cases (show u = Value.ref a from rx)
    obtain ⟨_, _, xs, _, o, es, ep, h1, h2, _⟩ := (show ObjOk X.prog X.w H s.heap a (.dT kvs) from I.hok a _ ea)
    exact PySem.W.kia_one PySem.W.kitx_dict I.kIn ⟨o, h1, h2.1⟩ e (fun z => nomatch z) h
  | @ins a C dx fs ea cl ha hn htk hm =>
    cases (show u = Value.ref a from rx)
    obtain ⟨mA, O, _⟩ := ins_get I.hok ea
    obtain ⟨od, J, _⟩ := O.look
    exact PySem.W.kia_one (PySem.W.kitx_own (cl.get _) cl.hd ha hn htk hm) I.kIn J e (fun z => nomatch z) h
end
end L2

namespace L2
open PySem PySem.Spec PyProof.Rows

/-! ### room -/
structure Room (k : Nat) (A : Around) : Prop where
  hd : A.handled = none
  dp : A.depth + 3 * k + 5 < recursionLimit
  un : A.units + 16 * k + 200 < cLine
theorem Room.mono {j k : Nat} {A : Around} (r : Room k A) (h : j ≤ k) : Room j A := ⟨r.hd, by have := r.dp; omega, by have := r.un; omega⟩
theorem Room.deeper {k : Nat} {A : Around} (r : Room (k + 1) A) (env : Env) : Room k (A.deeper env) :=
  ⟨r.hd, by have := r.dp; show A.depth + 1 + 3 * k + 5 < _; omega, by have := r.un; show A.units + 3 + 16 * k + 200 < _; omega⟩
theorem Room.depth {k : Nat} {A : Around} (r : Room k A) : A.depth < recursionLimit := by have := r.dp; omega
theorem Room.units0 {k : Nat} {A : Around} (r : Room k A) : A.units < cLine := by have := r.un; omega

/-! ### argument lists and displays -/
def tNil : TA := fun _ H Q => Q [] H
def tCons (ta : TE) (tr : TA) : TA := fun σ H Q => ta σ H fun x H1 => tr σ H1 fun xs H2 => Q (x :: xs) H2
section
variable {X : Cx} {e : Expr} {es : List Expr} {te : TE} {t : TA} {pos : Pos}
theorem pa_nil : PA X [] tNil := fun _ _ _ _ H Q I h => Calls.spliced_nil ⟨[], H, I, .nil, h⟩
theorem pa_cons (ha : PE X e te) (hr : PA X es t) (hs : starEach (e :: es) X.env = (false, eval e X.env) :: starEach es X.env := by rfl) : PA X (e :: es) (tCons te t) := by
  intro pos pins s σ H Q I h
  rw [hs]
  show wpAny _ _ (spliced ((false, eval e X.env) :: backTo pos (starEach es X.env))) _ _ s
  refine Calls.spliced_cons (thn (ha pins s σ H _ I h) fun u s1 ⟨x, H1, I1, r1, q1⟩ => ?_)
  exact thn (hr pos pins s1 σ H1 _ I1 q1) fun us s2 ⟨xs, H2, I2, r2, q2⟩ => ⟨x :: xs, H2, I2, .cons r1 r2, q2⟩

/-- a tuple, a list of written items -/
def tTup (t : TA) : TE := fun σ H Q => t σ H fun xs H1 => xs.length ≤ sizeLine ∧ ∀ p, H1 p = none → Q (.ref p) (upd H1 p (.tup xs))
def tLst (t : TA) : TE := fun σ H Q => t σ H fun xs H1 => xs.length ≤ sizeLine ∧ ∀ p, H1 p = none → Q (.ref p) (upd H1 p (.lst xs))
theorem pe_tup {x1} (h : PA X es t) : PE X (.Tuple es x1 pos) (tTup t) := by
  intro pins s σ H Q I hq
  refine wpAny_Tuple_spliced (thn (h pos pins s σ H _ I hq) fun us s1 ⟨xs, H1, I1, r, z, q⟩ => ⟨by rw [← r.length]; exact z, ?_⟩)
  have hf : H1 s1.heap.objs.size = none := I1.hok.fresh (Nat.le_refl _)
  refine ⟨.ref s1.heap.objs.size, upd H1 s1.heap.objs.size (.tup xs), I1.laid (t' := s1.toks) (fun b u e => Heap.get?_push_of_some _ e) (Nat.le_refl _) ?_, rfl, q _ hf⟩
  exact ⟨z, us, r, ⟨_, Heap.get?_push_size _ rfl, rfl, _, rfl⟩⟩
theorem pe_lst (h : PA X es t) : PE X (.List es pos) (tLst t) := by
  intro pins s σ H Q I hq
  refine wpAny_List_spliced (thn (h pos pins s σ H _ I hq) fun us s1 ⟨xs, H1, I1, r, z, q⟩ => ⟨by rw [← r.length]; exact z, ?_⟩)
  have hf : H1 s1.heap.objs.size = none := I1.hok.fresh (Nat.le_refl _)
  refine ⟨.ref s1.heap.objs.size, upd H1 s1.heap.objs.size (.lst xs), I1.laid (t' := s1.toks) (fun b u e => Heap.get?_push_of_some _ e) (Nat.le_refl _) ?_, rfl, q _ hf⟩
  exact ⟨z, us, 0, r, Heap.get?_push_size _ rfl⟩
end

/-! ### what a def promises -/
/-- a def's promise: the bound arguments in the parameters' order, the heap, the wanted end, the wanted exception -/
abbrev Sp := List V → Hp → VK → XK → Prop
/-- how an exception lies behind a call (file 08 gives it): the callers' frames, abstract heap and state ahead of the call, the wish, the exception, the state -/
abbrev CXT := List Env → Hp → Shared → XK → Value → Shared → Prop

/-- the state at a call -/
structure Env0 (P : Program) (w : World) (K : PySem.W.Frag) (mg : Str → Option Value) (base : Heap) (A : Around) (outer : List Env) (s : Shared) (H : Hp) : Prop where
  frames : A.frames = some outer
  mod : Mod K mg base
  bs : ∀ b o, base.get? b = some o → s.heap.get? b = some o ∧ H b = none
  bsz : base.objs.size ≤ s.heap.objs.size
  funs : s.heap.FunFrames base outer
  frf : ∀ b ∈ frs outer, H b = none
  hok : HOk P w H s.heap
  bare : AllBare s.gens
/-- a call's end -/
def CE (outer : List Env) (P : Program) (w : World) (H : Hp) (s : Shared) (Q : VK) (u : Value) (s' : Shared) : Prop :=
  ∃ v H', s'.os = s.os ∧ AllBare s'.gens ∧ Un (frs outer) [] H H' s.heap s'.heap ∧ HOk P w H' s'.heap ∧ RelV v u ∧ Q v H'
def CR (CX : CXT) (outer : List Env) (P : Program) (w : World) (H : Hp) (s : Shared) (Q : VK) (E : XK) (r : Result) (s' : Shared) : Prop :=
  match r with
  | .ok (.ret u) => CE outer P w H s Q u s'
  | .ok _ => False
  | .error e => CX outer H s E e s'
structure FnOk (P : Program) (w : World) (K : PySem.W.Frag) (mg : Str → Option Value) (base : Heap) (CX : CXT) (k : Nat) (f : Addr) (fd : FuncData) (ps : List Str) (sp : Sp) : Prop where
  len : ∀ vs H Q E, sp vs H Q E → vs.length = ps.length
  run : ∀ (A : Around) (outer : List Env) (s : Shared) (H : Hp) (args : Args) (us : List Value) (vs : List V) (Q : VK) (E : XK), Room k A → Env0 P w K mg base A outer s H → BindsTo s fd args (ps.zip us) → Vals vs us → sp vs H Q E →
    codeAny (model P w) A (.call (.ref f) args) (CR CX outer P w H s Q E) s
/-- a weaker promise -/
theorem FnOk.imp {P : Program} {w : World} {K : PySem.W.Frag} {mg : Str → Option Value} {base : Heap} {CX : CXT} {k : Nat} {f : Addr} {fd : FuncData} {ps : List Str} {sp sp' : Sp} (F : FnOk P w K mg base CX k f fd ps sp)
    (h : ∀ vs H Q E, sp' vs H Q E → sp vs H Q E) : FnOk P w K mg base CX k f fd ps sp' :=
  ⟨fun vs H Q E q => F.len vs H Q E (h _ _ _ _ q), fun A outer s H args us vs Q E hr he hb hv hs => F.run A outer s H args us vs Q E hr he hb hv (h _ _ _ _ hs)⟩

section
variable {X : Cx} {pins : List (Addr × Obj)} {σ : St} {H : Hp} {s s' : Shared}
/-- from a body: what a callee wants -/
theorem Inv.env0 (I : Inv X pins σ H s) : Env0 X.prog X.w X.K X.mg X.base X.A X.stack s H :=
  ⟨I.ok.frames, I.ok.mod, I.bs, Nat.le_trans I.ok.bsz I.sz, I.stack, I.stkFree, I.hok, I.bare⟩
/-- behind a call -/
theorem Inv.after {Q : VK} {u : Value} (I : Inv X pins σ H s) (h : CE X.stack X.prog X.w H s Q u s') : EP X pins σ Q u s' := by
  obtain ⟨v, H', os, bare, un, hok, r, q⟩ := h
  obtain ⟨hh, g, d, t, os'⟩ := s'
  obtain rfl : os' = s.os := os
  exact ⟨v, H', I.call (h' := hh) (g' := g) (d' := d) (t' := t) (ch := []) un hok bare (fun b z => absurd z (by simp)), r, q⟩
end

/-! ### calls -/
/-- f(..): the written arguments, then the defaults dvs; E: what is wanted of an exception -/
def tCall (sp : Sp) (dvs : List V) (E : XK) (t : TA) : TE := fun σ H Q => t σ H fun vs H1 => sp (vs ++ dvs) H1 Q E
/-- how the parameters are bound: us the positional arguments, kw the keywords' values by name, ds the defaults that fill up -/
def Binds (K : PySem.W.Frag) (fd : FuncData) (ps : List Str) (ds : List Value) : Prop :=
  ∀ (s : Shared) (us : List Value), K.In s.heap → (us ++ ds).length = ps.length → BindsTo s fd ⟨us, []⟩ (ps.zip (us ++ ds))
/-- every parameter is given -/
theorem Binds.all {K : PySem.W.Frag} {fd : FuncData} {ps : List Str} (h : ∀ us : List Value, us.length = ps.length → bindArgs fd ⟨us, []⟩ = pure (ps.zip us)) : Binds K fd ps [] := fun s us _ hl => by
  rw [List.append_nil] at hl ⊢
  exact .of_eq (h us hl)

/-- an exception of a callee reaches what this body wants of exceptions -/
def Passes (CX : CXT) (X : Cx) (E : XK) : Prop := ∀ (pins : List (Addr × Obj)) (σ : St) (H : Hp) (s : Shared) (e : Value) (s' : Shared), Inv X pins σ H s → CX X.stack H s E e s' → X.xe e s'

section
variable {X : Cx} {CX : CXT} {k : Nat} {f C : Addr} {fd : FuncData} {ps : List Str} {sp : Sp} {dvs : List V} {ds : List Value} {E : XK} {x m : Str} {p pos apos : Pos} {e o : Expr} {es : List Expr} {ta : TE} {t : TA}

/-- the callee runs -/
theorem run_fn {pins : List (Addr × Obj)} {σ : St} {H : Hp} {s : Shared} {Q : VK} {us : List Value} {vs : List V} (F : FnOk X.prog X.w X.K X.mg X.base CX k f fd ps sp) (hr : Room k X.A) (hb : Binds X.K fd ps ds) (hd : Vals dvs ds) (hx : Passes CX X E)
    (I : Inv X pins σ H s) (r : Vals vs us) (h : sp (vs ++ dvs) H Q E) : wpAny (model X.prog X.w) X.A (call (.ref f) us) (EP X pins σ Q) X.xe s := by
  have r2 : Vals (vs ++ dvs) (us ++ ds) := r.append hd
  have hl : (us ++ ds).length = ps.length := by rw [← r2.length]; exact F.len _ _ _ _ h
  refine wpAny_call (codeAny_mono (F.run X.A X.stack s H ⟨us, []⟩ (us ++ ds) (vs ++ dvs) Q E hr I.env0 (hb s us I.kIn hl) r2 h) fun r s' hq => ?_)
  cases r with
  | error e => exact hx pins σ H s e s' I hq
  | ok fl =>
    cases fl with
    | ret u => exact I.after hq
    | next => exact False.elim hq
    | brk => exact False.elim hq
    | cont => exact False.elim hq

theorem pe_call (F : FnOk X.prog X.w X.K X.mg X.base CX k f fd ps sp) (hr : Room k X.A) (hg : Gl X x) (hm : X.mg x = some (.ref f)) (hk : PySem.W.keepIn X.K (.ref f) = true) (hb : Binds X.K fd ps ds) (hd : Vals dvs ds) (hx : Passes CX X E)
    (ha : PA X (e :: es) t) (hdb : (x == ("__debug__" : Str)) = false := by decide) (he : starEach (e :: es) X.env = (false, eval e X.env) :: starEach es X.env := by rfl) (hpl : (backTo pos (starEach es X.env)).any (·.1) = false := by rfl) :
    PE X (.Call (.Name x p) (e :: es) [] pos) (tCall sp dvs E t) := by
  intro pins s σ H Q I h
  refine wpAny_Call_Name_kw (ld_glob I hg hm ?_ hdb)
  refine PySem.W.callWith_K (h₀ := X.base) I.ok.mod.kin hk (thn (ha pos pins s σ H _ I h) fun us s1 ⟨vs, H1, I1, r, q⟩ => ⟨I1.kIn, ?_⟩) he hpl
  exact run_fn F hr hb hd hx I1 r q
end

/-! ### keywords -/
section
variable {X : Cx} {CX : CXT} {k : Nat} {f C : Addr} {fd : FuncData} {ps ks : List Str} {sp : Sp} {E : XK} {x m : Str} {p pos apos kpos : Pos} {e o : Expr} {es : List Expr} {kws : List Keyword} {te ta : TE} {t tk : TA} {nm : Option Str}
variable {g : List Value → List Value → List Value} {gV : List V → List V → List V}
end

/-! ### a def's body keeps its promise -/
/-- names: the parameters first -/
structure FnScope (N P : List Str) (sc : Scope) : Prop where
  kind : sc.kind = .function
  co : sc.isCoroutine = false
  gen : sc.isGenerator = false
  nd : N.Nodup
  pre : N.take P.length = P
  par : ∀ x ∈ P, sc.names.lookup x = some .local ∨ sc.names.lookup x = some .cell
  nofree : ∀ y ∈ sc.names, y.2 ≠ .free

theorem bindL_out {kindOf : Str → Option NameKind} {x : Str} : ∀ {binds : List (Str × Value)} {m : Str → Option Value}, (∀ v, (x, v) ∉ binds) → bindL kindOf binds m x = m x
  | [], _, _ => rfl
  | (n, v) :: r, m, h => by
    unfold bindL
    rw [bindL_out fun w hw => h w (List.mem_cons_of_mem _ hw)]
    split
    · have : x ≠ n := by rintro rfl; exact h v List.mem_cons_self
      simp [this]
    · rfl
theorem bindC_out {kindOf : Str → Option NameKind} {x : Str} : ∀ {binds : List (Str × Value)} {m : Str → Option Value}, (∀ v, (x, v) ∉ binds) → bindC kindOf binds m x = m x
  | [], _, _ => rfl
  | (n, v) :: r, m, h => by
    unfold bindC
    rw [bindC_out fun w hw => h w (List.mem_cons_of_mem _ hw)]
    split
    · rfl
    · have : x ≠ n := by rintro rfl; exact h v List.mem_cons_self
      simp [this]
theorem bindL_get {kindOf : Str → Option NameKind} {x : Str} {v : Value} : ∀ {P : List Str} {vs : List Value} {i : Nat} {m : Str → Option Value}, P.Nodup → P[i]? = some x → vs[i]? = some v → kindOf x = some .local →
    bindL kindOf (P.zip vs) m x = some v
  | [], _, _, _, _, h, _, _ => by simp at h
  | _ :: _, [], _, _, _, _, h, _ => by simp at h
  | p :: P, w :: vs, 0, m, nd, h1, h2, hk => by
    simp at h1 h2; subst h1; subst h2
    show bindL kindOf ((p, w) :: P.zip vs) m p = _
    unfold bindL
    rw [bindL_out fun v hv => (List.nodup_cons.mp nd).1 (List.of_mem_zip hv).1, if_pos hk]
    simp
  | p :: P, w :: vs, i + 1, m, nd, h1, h2, hk => by
    show bindL kindOf ((p, w) :: P.zip vs) m x = _
    unfold bindL
    exact bindL_get (i := i) (List.nodup_cons.mp nd).2 (by simpa using h1) (by simpa using h2) hk
theorem bindC_get {kindOf : Str → Option NameKind} {x : Str} {v : Value} : ∀ {P : List Str} {vs : List Value} {i : Nat} {m : Str → Option Value}, P.Nodup → P[i]? = some x → vs[i]? = some v → kindOf x ≠ some .local →
    bindC kindOf (P.zip vs) m x = some v
  | [], _, _, _, _, h, _, _ => by simp at h
  | _ :: _, [], _, _, _, _, h, _ => by simp at h
  | p :: P, w :: vs, 0, m, nd, h1, h2, hk => by
    simp at h1 h2; subst h1; subst h2
    show bindC kindOf ((p, w) :: P.zip vs) m p = _
    unfold bindC
    rw [bindC_out fun v hv => (List.nodup_cons.mp nd).1 (List.of_mem_zip hv).1, if_neg hk]
    simp
  | p :: P, w :: vs, i + 1, m, nd, h1, h2, hk => by
    show bindC kindOf ((p, w) :: P.zip vs) m x = _
    unfold bindC
    exact bindC_get (i := i) (List.nodup_cons.mp nd).2 (by simpa using h1) (by simpa using h2) hk

/-- the names' values at the entry -/
def start (N : List Str) (vs : List V) : St := vs.map some ++ List.replicate (N.length - vs.length) none

/-- the context of a def's body, at its entry; an exception leaves the frame, then lies as CX says -/
def cxOf (CX : CXT) (P : Program) (w : World) (K : PySem.W.Frag) (mg : Str → Option Value) (base : Heap) (N : List Str) (qual : Str) (scope : Scope) (f : Addr) (cd : Value) (A : Around) (outer : List Env) (s : Shared) (H : Hp) (E : XK) : Cx where
  prog := P
  w := w
  K := K
  mg := mg
  base := base
  A := A.deeper (envOfC qual scope s.heap.objs.size f cd)
  N := N
  s₀ := s
  H₀ := H
  env := envOfC qual scope s.heap.objs.size f cd
  outer := outer
  stack := envOfC qual scope s.heap.objs.size f cd :: outer
  ex := []
  calm := true
  fn := fun _ => true
  pn := []
  xe := fun e s' => wpAny (model P w) (A.deeper (envOfC qual scope s.heap.objs.size f cd)) (leaving (envOfC qual scope s.heap.objs.size f cd) e) (fun _ s'' => CX outer H s E e s'') (fun e' s'' => CX outer H s E e' s'') s'

theorem cell_has {sc : Scope} {n : Nat} {x : Str} (h : sc.names.lookup x = some .cell) : ∃ c, (cellsFrom n sc.names []).lookup x = some c := by
  have q := PySem.W.cellsFrom_some sc.names n [] (.inl h)
  exact Option.isSome_iff_exists.mp q

theorem inv_start {CX : CXT} {P : Program} {w : World} {K : PySem.W.Frag} {mg : Str → Option Value} {base : Heap} {N ps : List Str} {qual : Str} {scope : Scope} {f : Addr} {cd : Value} {A : Around} {outer : List Env} {s s1 : Shared} {H : Hp} {E : XK} {us : List Value} {vs : List V}
    (S : FnScope N ps scope) (hd : A.handled = none) (e0 : Env0 P w K mg base A outer s H) (hl : vs.length = ps.length) (r : Vals vs us)
    (x : InCallC s s.heap.objs.size (bindL (envOfC qual scope s.heap.objs.size f cd).kindOf (ps.zip us) fun _ => none) (cellsFrom (s.heap.objs.size + 1) scope.names []) (bindC (envOfC qual scope s.heap.objs.size f cd).kindOf (ps.zip us) fun _ => none) s1) :
    Inv (cxOf CX P w K mg base N qual scope f cd A outer s H E) [] (start N vs) H s1 := by
  have hpl : ps.length ≤ N.length := by have := congrArg List.length S.pre; rw [List.length_take] at this; omega
  obtain ⟨h1, tk, rfl, hk⟩ := x.done
  have noA : ∀ b : Addr, b ∉ (cxOf CX P w K mg base N qual scope f cd A outer s H E).ex := fun b z => absurd (show b ∈ ([] : List Addr) from z) (by simp)
  refine ⟨⟨e0.mod, S.kind, rfl, rfl, Nat.le_refl _, fun y z c h1 h2 => ?_, fun y hy => ?_, fun y c _ h => ?_, fun _ => hd, Around.frames_deeper e0.frames, .inr ⟨rfl, rfl⟩, fun b z => absurd z (noA b), e0.bs, e0.bsz, fun b _ _ => noA b, fun b z => absurd z (noA b), e0.funs, e0.frf⟩,
    rfl, e0.bare, Un.kept hk, ⟨_, x.toInCall.ns, fun i y v h1 h2 h3 => ?_⟩, fun y c h => ⟨_, x.cell y c h⟩, e0.hok.fresh (Nat.le_refl _), fun y c h => ?_, fun p hp => absurd (show p ∈ ([] : List (Addr × Obj)) from hp) (by simp), e0.hok.kept hk, ?_⟩
  · exact name_of_addr x.apart (PySem.mem_of_lookup h1) (PySem.mem_of_lookup h2)
  · have hy : scope.names.lookup y = some .cell ∨ scope.names.lookup y = some .free := hy
    rcases hy with hy | hy
    · exact cell_has hy
    · exact absurd rfl (S.nofree _ (PySem.mem_of_lookup hy))
  · exact Nat.le_of_lt (x.above y c (PySem.mem_of_lookup h))
  · have hi : i < vs.length := by
      unfold start at h2
      by_cases hi : i < vs.length
      · exact hi
      · rw [List.getElem?_append_right (by simpa using hi)] at h2
        rw [List.getElem?_replicate] at h2
        split at h2 <;> cases h2
    have ha : vs[i]? = some v := by
      unfold start at h2
      rw [List.getElem?_append_left (by simpa using hi), List.getElem?_map] at h2
      cases e : vs[i]? with
      | none => rw [e] at h2; cases h2
      | some a => rw [e] at h2; cases h2; rfl
    obtain ⟨u, hu, rv⟩ := r.get ha
    have hp : ps[i]? = some y := by
      rw [← S.pre, List.getElem?_take_of_lt (by omega)]; exact h1
    have ndP : ps.Nodup := by rw [← S.pre]; exact S.nd.sublist (List.take_sublist _ _)
    refine ⟨u, rv, ?_⟩
    rcases S.par y (List.mem_of_getElem? hp) with k | k
    · exact .inl ⟨k, bindL_get ndP hp hu k⟩
    · obtain ⟨c, e⟩ := cell_has (n := s.heap.objs.size + 1) k
      refine .inr ⟨.inl k, c, e, ?_⟩
      have q := x.cell y c e
      rw [bindC_get ndP hp hu (by show scope.names.lookup y ≠ _; rw [k]; decide)] at q
      exact q
  · exact e0.hok.fresh (Nat.le_of_lt (x.above y c (PySem.mem_of_lookup h)))
  · unfold start
    show _ = N.length
    rw [List.length_append, List.length_map, List.length_replicate]
    omega

/-- THE RULE: a def (or a method) of the text, by its body. The body's reading t is chosen for each entry; it is run at the parameters' values -/
theorem fn_of {CX : CXT} {P : Program} {w : World} {K : PySem.W.Frag} {mg : Str → Option Value} {base : Heap} {k : Nat} {f : Addr} {name qual : Str} {params : Arguments} {body : List Stmt} {scope : Scope} {dV kV doc pm cdv ct oc : Value} {an od : Option Addr}
    {osl : Array (Option Value)} {N ps : List Str} {sp : Sp} (lk : K.lookup f = some ⟨oc, od, .func (PySem.W.fnOf name qual params body scope dV kV doc pm an cdv ct), osl⟩) (hcd : PySem.W.codeIn K cdv qual = true) (S : FnScope N ps scope)
    (len : ∀ vs H Q E, sp vs H Q E → vs.length = ps.length)
    (hbody : ∀ (A : Around) (outer : List Env) (s : Shared) (H : Hp) (vs : List V) (Q : VK) (E : XK), Room k (A.deeper (envOfC qual scope s.heap.objs.size f cdv)) → sp vs H Q E →
      ∃ t, PSs (cxOf CX P w K mg base N qual scope f cdv A outer s H E) body t ∧ t { nx := fun _ H' => Q .non H', rt := Q } (start N vs) H) :
    FnOk P w K mg base CX (k + 1) f (PySem.W.fnOf name qual params body scope dV kV doc pm an cdv ct) ps sp := by
  refine ⟨len, fun A outer s H args us vs Q E hr e0 hb r hsp => ?_⟩
  have hl := len _ _ _ _ hsp
  have KX : K.In s.heap := e0.mod.kin.keeps fun b o e => (e0.bs b o e).1
  have lim : s.heap.NoLimit := e0.mod.nolimit.keeps fun b o e => (e0.bs b o e).1
  have hkind : ∀ y ∈ ps.zip us, scope.names.lookup y.1 = some .local ∨ (scope.names.lookup y.1 = some .cell ∧ ((cellsFrom (s.heap.objs.size + 1) scope.names []).lookup y.1).isSome = true) := fun ⟨n, v⟩ hy => by
    rcases S.par n (List.of_mem_zip hy).1 with q | q
    · exact .inl q
    · exact .inr ⟨q, PySem.W.cellsFrom_some _ _ _ (.inl q)⟩
  refine codeAny_call_function hr.depth (KX _ _ lk) rfl S.co S.gen rfl (PySem.W.codeRec_of KX hcd) (hb _ _ _ _ ?_)
  refine wpAny_newFunctionEnv_cells S.kind hkind fun env he s1 x => ?_
  subst he
  refine ⟨lim.keeps x.toInCall.keep, codeAny_func ?_⟩
  obtain ⟨t, ht, hq⟩ := hbody A outer s H vs Q E (hr.deeper _) hsp
  have I : Inv (cxOf CX P w K mg base N qual scope f cdv A outer s H E) [] (start N vs) H s1 := inv_start S hr.hd e0 hl r x
  refine wpAny_mono (ht [] s1 (start N vs) H _ I hq) (fun fl s' hs => ?_) fun e s' hs => hs
  have fin : ∀ {σ' : St} {H' : Hp} {v : V} {u : Value}, Inv (cxOf CX P w K mg base N qual scope f cdv A outer s H E) [] σ' H' s' → RelV v u → Q v H' → CE outer P w H s Q u s' :=
    fun {σ' H' v u} J rv q => ⟨v, H', J.os, J.bare, J.base, J.hok, rv, q⟩
  cases fl with
  | ret u =>
    obtain ⟨v, σ', H', J, rv, q⟩ := hs
    exact fin J rv q
  | next =>
    obtain ⟨σ', H', J, q⟩ := hs
    exact fin (v := V.non) (u := Value.none) J rfl q
  | brk =>
    obtain ⟨_, _, _, q⟩ := hs
    exact False.elim q
  | cont =>
    obtain ⟨_, _, _, q⟩ := hs
    exact False.elim q
end L2

namespace L2
open PySem PySem.Spec PyProof.Rows
section
variable {X : Cx} {x : Str} {p pos : Pos} {e : Expr} {es : List Expr} {t : TA} {id T : String} {r : List V → Hp → VK → Prop}

def tCB (r : List V → Hp → VK → Prop) (t : TA) : TE := fun σ H Q => t σ H fun vs H1 => r vs H1 Q
/-- f(e, ..), f a built-in function -/
theorem pe_callB (hc : CallR X (.builtin id) r) (hg : Gl X x) (hm : X.mg x = none) (hv : bootBuiltins x = some (.builtin id)) (ha : PA X (e :: es) t) (hn : x ≠ "__name__" := by decide) (hdb : (x == ("__debug__" : Str)) = false := by decide)
    (he : starEach (e :: es) X.env = (false, eval e X.env) :: starEach es X.env := by rfl) (hpl : (backTo pos (starEach es X.env)).any (·.1) = false := by rfl) : PE X (.Call (.Name x p) (e :: es) [] pos) (tCB r t) := by
  intro pins s σ H Q I h
  refine wpAny_Call_Name_kw (ld_blt I hg hm hv ?_ hn hdb)
  exact PyProof.Rows.callWith_builtin1 (thn (ha pos pins s σ H _ I h) fun us s1 ⟨vs, H1, I1, r1, q1⟩ => hc pins s1 σ H1 vs us Q I1 r1 q1) he hpl
/-- T(e, ..), T a built-in type -/
theorem pe_callTy (hc : CallR X (.type T) r) (hg : Gl X x) (hm : X.mg x = none) (hv : bootBuiltins x = some (.type T)) (ha : PA X (e :: es) t) (hn : x ≠ "__name__" := by decide) (hdb : (x == ("__debug__" : Str)) = false := by decide)
    (he : starEach (e :: es) X.env = (false, eval e X.env) :: starEach es X.env := by rfl) (hpl : (backTo pos (starEach es X.env)).any (·.1) = false := by rfl) : PE X (.Call (.Name x p) (e :: es) [] pos) (tCB r t) := by
  intro pins s σ H Q I h
  refine wpAny_Call_Name_kw (ld_blt I hg hm hv ?_ hn hdb)
  exact PyProof.Rows.callWith_type1 (thn (ha pos pins s σ H _ I h) fun us s1 ⟨vs, H1, I1, r1, q1⟩ => hc pins s1 σ H1 vs us Q I1 r1 q1) he hpl
end
end L2

namespace HT
open PySem PyProof.Rows

section
open PySem.SeqAt
open PySem.AutoSeq1 (wpAny_loadPart')
open PySem.MeetsSeq PySem.MeetsSeq2 PySem.MeetsSeq3

end

section
variable {prog : Program} {w : World} {A : Around} {E : Value → Shared → Prop} {s : Shared}

/-! ### t[a:b], not the whole -/
/-- a slice's bound as a place among n (d where it is left out) -/
def sIx (n d : Nat) : Option Int → Nat
  | none => d
  | some v => if v < 0 then (v + (n : Int)).toNat else min v.toNat n
theorem sIx_none (n d : Nat) : sIx n d none = d := rfl
theorem sIx_nat (n d k : Nat) : sIx n d (some (k : Int)) = min k n := by
  show (if (k : Int) < 0 then ((k : Int) + (n : Int)).toNat else min (k : Int).toNat n) = min k n
  rw [if_neg (by omega), Int.toNat_natCast]
theorem sIx_le (n d : Nat) (hd : d ≤ n) (o : Option Int) : sIx n d o ≤ n := by
  cases o with
  | none => exact hd
  | some v =>
    show (if v < 0 then (v + (n : Int)).toNat else min v.toNat n) ≤ n
    by_cases hv : v < 0
    · rw [if_pos hv]; omega
    · rw [if_neg hv]; exact Nat.min_le_right _ _
theorem clip_eq (v : Int) (n d : Nat) : (if v < 0 then max (v + (n : Int)) 0 else min v (n : Int)) = ((sIx n d (some v) : Nat) : Int) := by
  show (if v < 0 then max (v + (n : Int)) 0 else min v (n : Int)) = (((if v < 0 then (v + (n : Int)).toNat else min v.toNat n) : Nat) : Int)
  by_cases hv : v < 0
  · simp only [if_pos hv]; omega
  · simp only [if_neg hv]; omega
theorem adjust_gen (lo hi : Option Int) (n : Nat) : Builtin.Slice.sliceAdjust lo hi 1 (n : Int) = (((sIx n 0 lo : Nat) : Int), ((sIx n n hi : Nat) : Int)) := by
  have h1 : ¬ ((1 : Int) < 0) := by omega
  unfold Builtin.Slice.sliceAdjust
  simp only [h1, if_false]
  refine Prod.ext ?_ ?_
  · cases lo with
    | none => rfl
    | some v => exact clip_eq v n 0
  · cases hi with
    | none => rfl
    | some v => exact clip_eq v n n
theorem places_gen (i j : Nat) : Builtin.Slice.slicePlaces (i : Int) (j : Int) 1 = j - i := by
  unfold Builtin.Slice.slicePlaces
  have h1 : (1 : Int) > 0 := by omega
  simp only [h1, if_true, Int.ediv_one]
  split <;> omega
theorem slicePart_ {v : Value} {o : Option Int} {Q : Option Int → Shared → Prop} (p : IsPart v o) (h : Q o s) : wpAny (model prog w) A (Builtin.Slice.slicePartIndex v) Q E s := by
  cases p with
  | none => exact slicePart_none h
  | int i t => exact slicePart_int h
theorem sliceApplied_gen {sl : Addr} {vl vu : Value} {lo hi : Option Int} {n : Nat} {Q : Int × Int × Nat → Shared → Prop} (hs : s.heap.IsSliceOf sl vl vu .none) (pl : IsPart vl lo) (pu : IsPart vu hi)
    (h : Q (((sIx n 0 lo : Nat) : Int), 1, sIx n n hi - sIx n 0 lo) s) : wpAny (model prog w) A (Builtin.Slice.sliceApplied (.ref sl) (pure (n : Int))) Q E s := by
  obtain ⟨os, hos, hcs, hds⟩ := id hs
  unfold Builtin.Slice.sliceApplied Builtin.Slice.sliceFields
  refine wpAny_bind (wpAny_bind (wpAny_field hos hds (x := vl) rfl (wpAny_bind (wpAny_field hos hds (x := vu) rfl (wpAny_bind (wpAny_field hos hds (x := .none) rfl (wpAny_pure ?_)))))))
  refine wpAny_bind (slicePart_none ?_)
  show wpAny _ _ (if ((1 : Int) == 0) = true then _ else _) _ _ s
  rw [if_neg (by decide)]
  refine wpAny_bind (slicePart_ pl (wpAny_bind (slicePart_ pu (wpAny_bind (wpAny_pure ?_)))))
  show wpAny _ _ (match Builtin.Slice.sliceAdjust lo hi 1 (n : Int) with | (lo, hi) => pure (lo, (1 : Int), Builtin.Slice.slicePlaces lo hi 1)) _ _ s
  rw [adjust_gen lo hi n]
  show wpAny _ _ (pure (((sIx n 0 lo : Nat) : Int), (1 : Int), Builtin.Slice.slicePlaces ((sIx n 0 lo : Nat) : Int) ((sIx n n hi : Nat) : Int) 1)) _ _ s
  rw [places_gen]
  exact wpAny_pure h
theorem pick_gen (xs : Array Value) (i k : Nat) : ((List.range k).filterMap fun (m : Nat) => xs[((i : Int) + (m : Int) * 1).toNat]?).toArray = ((xs.toList.drop i).take k).toArray := by
  have e : (fun (m : Nat) => xs[((i : Int) + (m : Int) * 1).toNat]?) = fun m => xs[i + m]? := by
    funext m
    have : ((i : Int) + (m : Int) * 1).toNat = i + m := by omega
    rw [this]
  rw [e]
  have := pick_run xs i k
  rw [List.filterMap_map] at this
  have e2 : ((fun x => xs[x]?) ∘ fun x => i + x) = fun m => xs[i + m]? := rfl
  rw [e2] at this
  rw [this]

theorem getItem_tuple_cut {t sl : Addr} {items : Array Value} {vl vu : Value} {lo hi : Option Int} {Q : Value → Shared → Prop} (ht : IsTup s.heap t items) (hs : s.heap.IsSliceOf sl vl vu .none) (pl : IsPart vl lo) (pu : IsPart vu hi)
    (hw : ¬ (sIx items.size 0 lo = 0 ∧ sIx items.size items.size hi = items.size))
    (h : Q (.ref s.heap.objs.size) { s with heap := s.heap.push { cls := .type "tuple", data := .seq ((items.toList.drop (sIx items.size 0 lo)).take (sIx items.size items.size hi - sIx items.size 0 lo)).toArray } })
    (hsz : items.size ≤ sizeLine) : wpAny (model prog w) A (getItem (.ref t) (.ref sl)) Q E s := by
  have htake : sizeOk (.seq ((items.toList.drop (sIx items.size 0 lo)).take (sIx items.size items.size hi - sIx items.size 0 lo)).toArray) := by
    show ((items.toList.drop (sIx items.size 0 lo)).take (sIx items.size items.size hi - sIx items.size 0 lo)).toArray.size ≤ sizeLine
    rw [List.size_toArray, List.length_take, List.length_drop, Array.length_toList]
    omega
  have hj : sIx items.size items.size hi ≤ items.size := sIx_le _ _ (Nat.le_refl _) hi
  obtain ⟨os, hos, hcs, hds⟩ := id hs
  have hTs : s.TypeIs (.ref sl) "slice" := ⟨os, hos, hcs⟩
  unfold getItem
  try with_reducible refine wpAny_holding ?_
  first | refine wpAny_bind (wpAny_pure ?_) | skip
  refine wpAny_bind (wpAny_sequenceKey ht.typeIs (by decide) ?_)
  refine wpAny_bind (wpAny_callSpecial?_slot (name := Str.ofString "__getitem__") ht.typeIs PyProof.Rows.slot_tuple_getitem
    (wpAny_call_entry PyProof.Rows.slot_tuple_getitem ht.typeIs entry_tuple_getitem ?_ (args_tuple_getitem _ _)))
  show wpAny _ _ (Builtin.Tuple.tupleItemsOf (.ref t) >>= _) _ _ s
  refine wpAny_bind (tupleItemsOf_ ht ?_)
  refine wpAny_bind (wpAny_typeOf hTs ?_)
  rw [if_pos (by decide)]
  refine wpAny_bind (sliceApplied_gen hs pl pu ?_)
  have hno : ¬ ((((sIx items.size 0 lo : Nat) : Int) == 0 && (1 : Int) == 1 && (sIx items.size items.size hi - sIx items.size 0 lo) == items.size) = true) := by
    intro q
    rw [Bool.and_eq_true, Bool.and_eq_true] at q
    have q1 : ((sIx items.size 0 lo : Nat) : Int) = 0 := eq_of_beq q.1.1
    have q2 : sIx items.size items.size hi - sIx items.size 0 lo = items.size := eq_of_beq q.2
    exact hw ⟨by omega, by omega⟩
  show wpAny _ _ (if (((sIx items.size 0 lo : Nat) : Int) == 0 && (1 : Int) == 1 && (sIx items.size items.size hi - sIx items.size 0 lo) == items.size) = true then _ else _) _ _ s
  rw [if_neg hno, pick_gen]
  first
    | exact wpAny_bind (m := Builtin.Tuple.tupleExact _) (wpAny_newObj_type (wpAny_pure ⟨_, rfl, wpAny_pure h⟩) htake)
    | exact wpAny_bind (m := Builtin.Tuple.tupleExact _) (wpAny_newObj_type (wpAny_bind (wpAny_pure (wpAny_pure ⟨_, rfl, wpAny_pure h⟩))) htake)
    | exact wpAny_bind (wpAny_bind (m := Builtin.Tuple.tupleExact _) (wpAny_newObj_type (wpAny_pure (wpAny_pure ⟨_, rfl, wpAny_pure h⟩)) htake))
    | exact wpAny_bind (wpAny_bind (m := Builtin.Tuple.tupleExact _) (wpAny_newObj_type (wpAny_pure ⟨_, rfl, wpAny_pure h⟩) htake))
end
end HT

namespace L2
open PySem PySem.Spec PyProof.Rows

/-! ### the parts of a slice -/
abbrev TO := St → Hp → (Option Int → Hp → Prop) → Prop
/-- a slice's part (left out, or an int) -/
def PO (X : Cx) (e : Option Expr) (t : TO) : Prop :=
  ∀ (pins : List (Addr × Obj)) (s : Shared) (σ : St) (H : Hp) (Q : Option Int → Hp → Prop), Inv X pins σ H s → t σ H Q →
    wpAny (model X.prog X.w) X.A (evalPart e X.env) (fun u s' => ∃ o H', Inv X pins σ H' s' ∧ IsPart u o ∧ Q o H') X.xe s
def tNoPart : TO := fun _ H Q => Q none H
def tPart (t : TE) : TO := fun σ H Q => t σ H fun x H1 => ∃ i, x = .int i ∧ Q (some i) H1

theorem intsAre_of {ns : List Int} : ∀ {us : List Value}, Vals (ns.map V.int) us → IntsAre us ns := by
  induction ns with
  | nil => intro us r; rw [List.map_nil] at r; cases r; exact .nil
  | cons n ns ih =>
    intro us r
    rw [List.map_cons] at r
    cases r with
    | cons r1 r2 =>
      obtain ⟨t, e⟩ := r1
      subst e
      exact .cons n t (ih r2)

section
variable {X : Cx} {e : Expr} {te : TE} {lo hi : Option Expr} {tl th : TO} {pos p2 : Pos}

theorem po_none : PO X none tNoPart := by
  intro pins s σ H Q I h
  rw [evalPart_none]
  exact wpAny_pure ⟨none, H, I, .none, h⟩
theorem po_some (h : PE X e te) : PO X (some e) (tPart te) := by
  intro pins s σ H Q I hw
  rw [evalPart_some]
  refine thn (h pins s σ H _ I hw) fun u s1 ⟨x, H1, I1, r1, q1⟩ => ?_
  obtain ⟨i, rfl, q⟩ := q1
  obtain ⟨t, rfl⟩ := r1
  exact ⟨some i, H1, I1, .int i t, q⟩

/-- what a slice of a value is, by values: the slice object stands at sl -/
def SlR (X : Cx) (r : V → Option Int → Option Int → Hp → VK → Prop) : Prop :=
  ∀ (pins : List (Addr × Obj)) (s : Shared) (σ : St) (H : Hp) (x : V) (v vl vu : Value) (lo hi : Option Int) (sl : Addr) (Q : VK), Inv X pins σ H s → RelV x v → s.heap.IsSliceOf sl vl vu .none → IsPart vl lo → IsPart vu hi → r x lo hi H Q →
    ∃ T id, typeLookup (.type T) "__getitem__" = pure (some (.builtin id)) ∧ s.TypeIs v T ∧ wpAny (model X.prog X.w) X.A (getItem v (.ref sl)) (EP X pins σ Q) X.xe s
def tSl (r : V → Option Int → Option Int → Hp → VK → Prop) (te : TE) (tl th : TO) : TE := fun σ H Q => te σ H fun x H1 => tl σ H1 fun l H2 => th σ H2 fun u H3 => r x l u H3 Q
/-- a[lo:hi], any a -/
theorem pe_slice {r : V → Option Int → Option Int → Hp → VK → Prop} (hr : SlR X r) (he : PE X e te) (hl : PO X lo tl) (hu : PO X hi th) : PE X (.Subscript e (.Slice lo hi none p2) pos) (tSl r te tl th) := by
  intro pins s σ H Q I h
  refine Subscript_ (thn (he pins s σ H _ I h) fun v s1 ⟨x, H1, I1, r1, q1⟩ => ?_)
  refine wpAny_Slice (thn (hl pins s1 σ H1 _ I1 q1) fun vl s2 ⟨l, H2, I2, pl, q2⟩ => thn (hu pins s2 σ H2 _ I2 q2) fun vu s3 ⟨u, H3, I3, pu, q3⟩ => ?_)
  rw [evalPart_none]
  refine wpAny_pure ?_
  have I4 : Inv X pins σ H3 { s3 with heap := s3.heap.push { cls := .type "slice", data := .fields #[vl, vu, .none] } } := I3.kept (t' := s3.toks) fun b ob q => Heap.get?_push_of_some _ q
  obtain ⟨T, id, hT, ht, hg⟩ := hr pins { s3 with heap := s3.heap.push { cls := .type "slice", data := .fields #[vl, vu, .none] } } σ H3 x v vl vu l u s3.heap.objs.size Q I4 r1 (Heap.IsSliceOf.new ..) pl pu q3
  show wpAny (model X.prog X.w) X.A (subscriptTail e (.Slice lo hi none p2) v (.ref s3.heap.objs.size)) (EP X pins σ Q) X.xe { s3 with heap := s3.heap.push { cls := .type "slice", data := .fields #[vl, vu, .none] } }
  exact tail_any (ops := [.ref s3.heap.objs.size, v]) ht hT hg (by with_unfolding_all rfl)

/-- the items of xs[lo:hi] -/
def cutV (xs : List V) (lo hi : Option Int) : List V := (xs.drop (HT.sIx xs.length 0 lo)).take (HT.sIx xs.length xs.length hi - HT.sIx xs.length 0 lo)
theorem cutV_length (xs : List V) (lo hi : Option Int) : (cutV xs lo hi).length ≤ xs.length := by
  unfold cutV
  rw [List.length_take, List.length_drop]
  omega
/-- t[lo:hi], not the whole of it (the whole would be t itself) -/
def rSlT (K : PySem.W.Frag) : V → Option Int → Option Int → Hp → VK → Prop := fun x lo hi H Q => ∃ a xs, x = .ref a ∧ SqT K H a xs ∧
  ¬ (HT.sIx xs.length 0 lo = 0 ∧ HT.sIx xs.length xs.length hi = xs.length) ∧ ∀ p, H p = none → Q (.ref p) (upd H p (.tup (cutV xs lo hi)))
theorem sl_tup : SlR X (rSlT X.K) := by
  intro pins s σ H x v vl vu lo hi sl Q I rx hs pl pu h
  obtain ⟨a, xs, rfl, hx, hw, q⟩ := h
  cases rx
  obtain ⟨its, r, ht, hz⟩ := I.tuple hx
  have hlen : its.toArray.size = xs.length := by rw [List.size_toArray]; exact r.length.symm
  refine ⟨"tuple", _, PyProof.Rows.slot_tuple_getitem.lookup, ht.typeIs, ?_⟩
  refine HT.getItem_tuple_cut ht hs pl pu (by rw [hlen]; exact hw) ?_ (by rw [hlen]; exact hz)
  rw [hlen]
  refine ⟨.ref s.heap.objs.size, _, I.laid (t' := s.toks) (o := .tup (cutV xs lo hi)) (fun b ob q => Heap.get?_push_of_some _ q) (Nat.le_refl _) ?_, rfl, q _ (I.hok.fresh (Nat.le_refl _))⟩
  exact ⟨Nat.le_trans (cutV_length xs lo hi) hz, _, (r.drop (HT.sIx xs.length 0 lo)).take (HT.sIx xs.length xs.length hi - HT.sIx xs.length 0 lo), IsTup.new _ _⟩

/-! ### t < u, t + u -/
end
end L2

namespace L2
open PySem PySem.Spec PyProof.Rows

/-! ### places -/
/-- the place that an index of any sign means -/
def ixN (n : Nat) (i : Int) : Option Nat := if 0 ≤ i then (if i < n then some i.toNat else none) else if -(n : Int) ≤ i then some (i + n).toNat else none
def atI {α : Type} (xs : List α) (i : Int) : Option α := (ixN xs.length i).bind fun j => xs[j]?
theorem ixN_seq {n : Nat} {i : Int} {j : Nat} (h : ixN n i = some j) : seqIndex? i n = some j ∧ j < n ∧ -(n : Int) ≤ i ∧ i < n := by
  unfold ixN at h
  by_cases h0 : 0 ≤ i
  · rw [if_pos h0] at h
    by_cases h1 : i < n
    · rw [if_pos h1] at h
      have e : i.toNat = j := Option.some.inj h
      exact ⟨by rw [seqIndex_of h0 h1, e], by omega, by omega, h1⟩
    · rw [if_neg h1] at h; cases h
  · rw [if_neg h0] at h
    by_cases h1 : -(n : Int) ≤ i
    · rw [if_pos h1] at h
      have e : (i + n).toNat = j := Option.some.inj h
      exact ⟨by rw [seqIndex_neg (by omega) h1, e], by omega, h1, by omega⟩
    · rw [if_neg h1] at h; cases h
theorem atI_get {α : Type} {xs : List α} {i : Int} {v : α} (h : atI xs i = some v) : ∃ j, seqIndex? i xs.length = some j ∧ xs[j]? = some v ∧ j < xs.length ∧ -(xs.length : Int) ≤ i ∧ i < xs.length := by
  unfold atI at h
  cases e : ixN xs.length i with
  | none => rw [e] at h; cases h
  | some j =>
    rw [e] at h
    obtain ⟨h1, h2, h3, h4⟩ := ixN_seq e
    exact ⟨j, h1, h, h2, h3, h4⟩
theorem atI_nat {α : Type} {xs : List α} {j : Nat} {v : α} (h : xs[j]? = some v) : atI xs (j : Int) = some v := by
  have hj : j < xs.length := (List.getElem?_eq_some_iff.mp h).1
  have e : ixN xs.length (j : Int) = some j := by
    unfold ixN
    rw [if_pos (by omega), if_pos (by omega)]; simp
  unfold atI; rw [e]; exact h
theorem atI_last {α : Type} (xs : List α) (v : α) : atI (xs ++ [v]) (-1) = some v := by
  have hl : (xs ++ [v]).length = xs.length + 1 := by simp
  have e : ixN (xs ++ [v]).length (-1) = some xs.length := by
    unfold ixN
    rw [hl, if_neg (by decide), if_pos (by omega)]
    congr 1
    omega
  unfold atI
  rw [e]
  show (xs ++ [v])[xs.length]? = some v
  simp

/-! ### what may be subscripted -/
/-- what stands as an index of a plain subscript -/
def PlainIx (b : Expr) : Prop := ∀ o i, subscripted b false o i = operate [o, i] (getItem o i)
/-- a subscript by values -/
def IxR (X : Cx) (r : R2) : Prop :=
  ∀ (value slice : Expr) (pins : List (Addr × Obj)) (s : Shared) (σ : St) (H : Hp) (x y : V) (v u : Value) (Q : VK), Inv X pins σ H s → RelV x v → RelV y u → r x y H Q →
    subscripted slice false v u = operate [v, u] (getItem v u) → wpAny (model X.prog X.w) X.A (subscriptTail value slice v u) (EP X pins σ Q) X.xe s
/-- a call of a builtin's method by values: the receiver, the arguments -/
def MtR (X : Cx) (id : String) (r : V → List V → Hp → VK → Prop) : Prop :=
  ∀ (pins : List (Addr × Obj)) (s : Shared) (σ : St) (H : Hp) (x : V) (xs : List V) (v : Value) (us : List Value) (Q : VK), Inv X pins σ H s → RelV x v → Vals xs us → r x xs H Q →
    wpAny (model X.prog X.w) X.A (call (.builtin id) (v :: us)) (EP X pins σ Q) X.xe s
section
variable {X : Cx} {a b : Expr} {ta tb : TE} {pos : Pos}
/-- a[b] -/
theorem pe_ix {r : R2} (hr : IxR X r) (ha : PE X a ta) (hb : PE X b tb) (hs : PlainIx b) : PE X (.Subscript a b pos) (tOp r ta tb) := by
  intro pins s σ H Q I h
  exact Subscript_ (binT ha hb I h fun v u s2 x y H2 I2 rx ry q => hr a b pins s2 σ H2 x y v u Q I2 rx ry q (hs _ _))

def rIxL (K : PySem.W.Frag) : R2 := fun x y H Q => ∃ p xs i v, x = .ref p ∧ y = .int i ∧ SqL K H p xs ∧ atI xs i = some v ∧ Q v H
def rIxT (K : PySem.W.Frag) : R2 := fun x y H Q => ∃ p xs i v, x = .ref p ∧ y = .int i ∧ SqT K H p xs ∧ atI xs i = some v ∧ Q v H
def rIxS : R2 := fun x y H Q => ∃ z i c, x = .str z ∧ y = .int i ∧ z.length ≤ sizeLine ∧ atI z.cps.toList i = some c ∧ Q (.str ⟨#[c]⟩) H
theorem ix_list : IxR X (rIxL X.K) := by
  intro value slice pins s σ H x y v u Q I rx ry h hs
  obtain ⟨p, xs, i, z, rfl, rfl, hq, he, q⟩ := h
  cases rx
  obtain ⟨t, rfl⟩ := ry
  obtain ⟨its, r, pl, hz⟩ := I.list hq
  obtain ⟨j, h1, h2, h3, h4, h5⟩ := atI_get he
  obtain ⟨w, ew, rw'⟩ := r.get h2
  have hl := r.length
  have hn := line63
  have fin : EP X pins σ Q w s := ⟨z, H, I, rw', q⟩
  by_cases h0 : 0 ≤ i
  · have hj : i.toNat = j := by
      rw [seqIndex_of h0 h5] at h1
      exact Option.some.inj h1
    exact item_listR pl.isList h0 (by omega) (by rw [hj]; simpa using ew) fin hs
  · have hj : (i + (its.toArray.size : Int)).toNat = j := by
      rw [seqIndex_neg (by omega) h4] at h1
      rw [List.size_toArray, ← hl]
      exact Option.some.inj h1
    exact subscriptTail_builtinR (x := w) pl.isList.typeIs slot_list_getitem.lookup
      (wpAny_getItem_list_neg (Q := fun r s' => r = w ∧ EP X pins σ Q r s') pl.isList (by omega) (by rw [List.size_toArray] <;> omega) (by omega) (by rw [hj]; simpa using ew) ⟨rfl, fin⟩) hs
theorem ix_tup : IxR X (rIxT X.K) := by
  intro value slice pins s σ H x y v u Q I rx ry h hs
  obtain ⟨p, xs, i, z, rfl, rfl, hq, he, q⟩ := h
  cases rx
  obtain ⟨t, rfl⟩ := ry
  obtain ⟨its, r, pl, hz⟩ := I.tuple hq
  obtain ⟨j, h1, h2, h3, h4, h5⟩ := atI_get he
  obtain ⟨w, ew, rw'⟩ := r.get h2
  have hl := r.length
  have hn := line63
  have fin : EP X pins σ Q w s := ⟨z, H, I, rw', q⟩
  exact subscriptTail_builtinR (x := w) pl.typeIs slot_tuple_getitem.lookup
    (getItem_tuple (j := j) (Q := fun r s' => r = w ∧ EP X pins σ Q r s') pl (by omega) (by omega) (by rw [List.size_toArray, ← hl]; exact h1) (by simpa using ew) ⟨rfl, fin⟩) hs
theorem ix_str : IxR X rIxS := by
  intro value slice pins s σ H x y v u Q I rx ry h hs
  obtain ⟨z, i, c, rfl, rfl, hz, he, q⟩ := h
  obtain ⟨t, rfl⟩ := rx
  obtain ⟨t', rfl⟩ := ry
  obtain ⟨j, h1, h2, h3, h4, h5⟩ := atI_get he
  have hl : z.cps.toList.length = z.length := by simp [Str.length]
  rw [hl] at h1 h4 h5
  have hn := line63
  exact tail_any (typeIs_str s z t) slot_str_getitem.lookup (getItem_str (c := c) (by
    have e1 : decide (i < -(2 ^ 63 : Int)) = false := decide_eq_false (by omega)
    have e2 : decide (i ≥ 2 ^ 63) = false := decide_eq_false (by omega)
    rw [e1, e2, Bool.or_false]) (by rw [h1]; simpa using h2) ⟨.str ⟨#[c]⟩, H, I.tok _, ⟨_, rfl⟩, q⟩) hs
/-! ### xs[i] = v, any sign -/
/-- the list's object behind a store -/
theorem mapSeq_set (its : List Value) (n j : Nat) (u : Value) : Obj.mapSeq (·.setIfInBounds j u) { cls := .type "list", data := .seq its.toArray n } = { cls := .type "list", data := .seq (its.set j u).toArray n } := by
  simp [Obj.mapSeq]
theorem Inv.lst {pins : List (Addr × Obj)} {σ : St} {H : Hp} {s : Shared} {p : Addr} {xs : List V} (I : Inv X pins σ H s) (h : H p = some (.lst xs)) :
    ∃ (its : List Value) (n : Nat), Vals xs its ∧ s.heap.get? p = some { cls := .type "list", data := .seq its.toArray n } ∧ xs.length ≤ sizeLine := by
  obtain ⟨z, its, n, r, e⟩ := I.hok p _ h
  exact ⟨its, n, r, e, z⟩
/-- the list at p is written by an update of its object -/
theorem Inv.lstUpd {pins : List (Addr × Obj)} {σ : St} {H : Hp} {s : Shared} {p : Addr} {xs ys : List V} {its its' : List Value} {n n' : Nat} {f : Obj → Obj} (I : Inv X pins σ H s) (h : H p = some (.lst xs))
    (ho : s.heap.get? p = some { cls := .type "list", data := .seq its.toArray n }) (hf : f { cls := .type "list", data := .seq its.toArray n } = { cls := .type "list", data := .seq its'.toArray n' }) (r : Vals ys its') (hz : ys.length ≤ sizeLine) (t : Nat) :
    Inv X pins σ (upd H p (.lst ys)) { s with heap := s.heap.update p f, toks := t } := by
  have e : (s.heap.update p f).get? p = some { cls := .type "list", data := .seq its'.toArray n' } := by
    rw [Heap.get?_update_self f ho (by rw [hf] <;> rfl), hf]
  refine I.write (x := p) (e := p) (by rw [h]; trivial) (.inl rfl) (fun b u hb q => (Heap.get?_update_other _ _ (Ne.symm hb)).trans q) ⟨_, e⟩ ?_
  exact ⟨hz, its', n', r, e⟩
def rSetL : V → V → V → Hp → (Hp → Prop) → Prop := fun o i v H Q => ∃ p xs k j, o = .ref p ∧ i = .int k ∧ H p = some (.lst xs) ∧ ixN xs.length k = some j ∧ Q (upd H p (.lst (xs.set j v)))
theorem set_list : PSet X rSetL := by
  intro pins s σ H o i v ov iv u Q I ro ri rv h
  obtain ⟨p, xs, k, j, rfl, rfl, hp, hj, q⟩ := h
  cases ro
  obtain ⟨t, rfl⟩ := ri
  obtain ⟨its, n, r, ho, hz⟩ := I.lst hp
  obtain ⟨h1, h2, h3, h4⟩ := ixN_seq hj
  have hl := r.length
  have hn := line63
  have I' : Inv X pins σ (upd H p (.lst (xs.set j v))) { s with heap := s.heap.update p (Obj.mapSeq (·.setIfInBounds j u)) } :=
    I.lstUpd hp ho (mapSeq_set its n j u) (r.set rv j) (by rw [List.length_set]; exact hz) s.toks
  by_cases h0 : 0 ≤ k
  · have hk : k.toNat = j := by
      rw [seqIndex_of h0 h4] at h1
      exact Option.some.inj h1
    exact PySem.W.ki_setAt ho h0 (by omega) (by rw [List.size_toArray, ← hl]; exact h4) (by rw [hk]; exact ⟨_, I', q⟩)
  · have hk : (k + (its.toArray.size : Int)).toNat = j := by
      rw [seqIndex_neg (by omega) h3] at h1
      rw [List.size_toArray, ← hl]
      exact Option.some.inj h1
    exact PySem.W.ki_setBack ho (by omega) (by rw [List.size_toArray, ← hl]; exact h3) (by omega) (by rw [hk]; exact ⟨_, I', q⟩)

/-! ### slices -/
theorem slice_bounds (lo hi : Option Int) (n : Nat) : (sliceBounds lo hi none n).1 = ((HT.sIx n 0 lo : Nat) : Int) ∧ (sliceBounds lo hi none n).2.1 = ((HT.sIx n n hi : Nat) : Int) ∧ (sliceBounds lo hi none n).2.2 = 1 := by
  refine ⟨?_, ?_, rfl⟩
  · cases lo with
    | none => simp [sliceBounds, HT.sIx]
    | some i =>
      simp only [sliceBounds, HT.sIx, Option.getD_none, show (1 : Int) > 0 by decide, if_true]
      by_cases h : i < 0
      · simp only [h, if_true] <;> omega
      · simp only [h, if_false] <;> omega
  · cases hi with
    | none => simp [sliceBounds, HT.sIx]
    | some i =>
      simp only [sliceBounds, HT.sIx, Option.getD_none, show (1 : Int) > 0 by decide, if_true]
      by_cases h : i < 0
      · simp only [h, if_true] <;> omega
      · simp only [h, if_false] <;> omega
theorem slicePick_cut (its : List Value) (lo hi : Option Int) : slicePick its.toArray lo hi none = ((its.drop (HT.sIx its.length 0 lo)).take (HT.sIx its.length its.length hi - HT.sIx its.length 0 lo)).toArray := by
  obtain ⟨h1, h2, h3⟩ := slice_bounds lo hi its.toArray.size
  unfold slicePick
  rw [h1, h2, h3]
  simp only [sliceRange_one, pick_run, List.size_toArray] <;> rfl
/-- xs[lo:hi] of a list: a new list -/
def rSlL (K : PySem.W.Frag) : V → Option Int → Option Int → Hp → VK → Prop := fun x lo hi H Q => ∃ a xs, x = .ref a ∧ SqL K H a xs ∧ ∀ p, H p = none → Q (.ref p) (upd H p (.lst (cutV xs lo hi)))
theorem sl_list : SlR X (rSlL X.K) := by
  intro pins s σ H x v vl vu lo hi sl Q I rx hs pl pu h
  obtain ⟨a, xs, rfl, hx, q⟩ := h
  cases rx
  obtain ⟨its, r, ht, hz⟩ := I.list hx
  have hlen := r.length
  refine ⟨"list", _, slot_list_getitem.lookup, ht.isList.typeIs, ?_⟩
  refine wpAny_getItem_list_slice ht.isList hs pl pu .none (by simp) ?_ (by rw [List.size_toArray] <;> omega)
  rw [slicePick_cut, ← hlen]
  refine ⟨.ref s.heap.objs.size, _, I.laid (t' := s.toks) (o := .lst (cutV xs lo hi)) (fun b ob q => Heap.get?_push_of_some _ q) (Nat.le_refl _) ?_, rfl, q _ (I.hok.fresh (Nat.le_refl _))⟩
  exact ⟨Nat.le_trans (cutV_length xs lo hi) hz, _, 0, (r.drop (HT.sIx xs.length 0 lo)).take (HT.sIx xs.length xs.length hi - HT.sIx xs.length 0 lo), Heap.get?_push_size _ rfl⟩

/-! ### in, not in: flat items -/
def flatV : V → Bool
  | .non => true
  | .bl _ => true
  | .int _ => true
  | .str _ => true
  | _ => false
/-- == of flat values -/
def eqV : V → V → Bool
  | .non, .non => true
  | .bl a, .bl b => a == b
  | .bl a, .int b => (if a then 1 else 0) == b
  | .int a, .bl b => a == (if b then 1 else 0)
  | .int a, .int b => a == b
  | .str a, .str b => a == b
  | _, _ => false
theorem eqAt_V {A : Around} {s : Shared} {y x : V} {u v : Value} (ry : RelV y u) (rx : RelV x v) (fy : flatV y = true) (fx : flatV x = true) : SeqAt.EqAt A s u v (eqV y x) := by
  cases y with
  | non =>
    cases ry
    cases x with
    | non => cases rx; exact SeqAt.EqAt.same _
    | bl b => cases rx; exact SeqAt.EqAt.none_bool b
    | int b => obtain ⟨t, rfl⟩ := rx; exact SeqAt.EqAt.none_int b t
    | str b => obtain ⟨t, rfl⟩ := rx; exact SeqAt.EqAt.none_str b t
    | _ => exact absurd (show false = true from fx) Bool.false_ne_true
  | bl a =>
    cases ry
    cases x with
    | non => cases rx; exact SeqAt.EqAt.bool_none a
    | bl b => cases rx; exact SeqAt.EqAt.bool_bool a b
    | int b => obtain ⟨t, rfl⟩ := rx; exact SeqAt.EqAt.bool_int a b t
    | str b => obtain ⟨t, rfl⟩ := rx; exact SeqAt.EqAt.bool_str a b t
    | _ => exact absurd (show false = true from fx) Bool.false_ne_true
  | int a =>
    obtain ⟨t', rfl⟩ := ry
    cases x with
    | non => cases rx; exact SeqAt.EqAt.int_none a t'
    | bl b => cases rx; exact SeqAt.EqAt.int_bool a t' b
    | int b => obtain ⟨t, rfl⟩ := rx; exact SeqAt.EqAt.int_int a t' b t
    | str b => obtain ⟨t, rfl⟩ := rx; exact SeqAt.EqAt.int_str a t' b t
    | _ => exact absurd (show false = true from fx) Bool.false_ne_true
  | str a =>
    obtain ⟨t', rfl⟩ := ry
    cases x with
    | non => cases rx; exact SeqAt.EqAt.str_none a t'
    | bl b => cases rx; exact SeqAt.EqAt.str_bool a t' b
    | int b => obtain ⟨t, rfl⟩ := rx; exact SeqAt.EqAt.str_int a t' b t
    | str b => obtain ⟨t, rfl⟩ := rx; exact SeqAt.EqAt.str_str a t' b t
    | _ => exact absurd (show false = true from fx) Bool.false_ne_true
  | _ => exact absurd (show false = true from fy) Bool.false_ne_true
/-! ### len, list(x), tuple(x) of any list or tuple that is read -/
theorem call_len_seq : CallR X (.builtin "len") (fun xs H Q => ∃ p ys, xs = [.ref p] ∧ (SqL X.K H p ys ∨ SqT X.K H p ys) ∧ Q (.int ys.length) H) := by
  intro pins s σ H xs us Q I r h
  obtain ⟨p, ys, rfl, hq, q⟩ := h
  obtain ⟨u, rfl, rx⟩ := vals1 r
  cases rx
  have hn := line63
  rcases hq with hq | hq
  · obtain ⟨its, r', pl, hz⟩ := I.list hq
    have hlen := r'.length
    exact Calls.call_len_list pl.isList (by simp only [List.size_toArray] <;> omega) ⟨.int ys.length, H, I.tok _, ⟨s.toks + 1, by rw [List.size_toArray, hlen]⟩, q⟩
  · obtain ⟨its, r', pl, hz⟩ := I.tuple hq
    have hlen := r'.length
    exact len_tuple pl (by simp only [List.size_toArray] <;> omega) ⟨.int ys.length, H, I.tok _, ⟨s.toks + 1, by rw [List.size_toArray, hlen]⟩, q⟩
theorem call_tuple_of : CallR X (.type "tuple") (fun xs H Q => ∃ p ys, xs = [.ref p] ∧ ((SqL X.K H p ys ∧ ∀ l, H l = none → Q (.ref l) (upd H l (.tup ys))) ∨ (SqT X.K H p ys ∧ Q (.ref p) H))) := by
  intro pins s σ H xs us Q I r h
  obtain ⟨p, ys, rfl, h⟩ := h
  obtain ⟨u, rfl, rx⟩ := vals1 r
  cases rx
  rcases h with ⟨hq, q⟩ | ⟨hq, q⟩
  · obtain ⟨its, r', pl, hz⟩ := I.list hq
    have hlen := r'.length
    refine call_tuple_list pl.isList (fun h' kp => ?_) (by simp only [List.size_toArray] <;> omega)
    have I1 : Inv X pins σ H { s with heap := h' } := I.kept (t' := s.toks) kp
    have I2 : Inv X pins σ (upd H h'.objs.size (.tup ys)) { s with heap := h'.push { cls := .type "tuple", data := .seq its.toArray } } :=
      I1.laid (t' := s.toks) (fun b o e => Heap.get?_push_of_some _ e) (Nat.le_refl _) (show ObjOk X.prog X.w _ _ _ (.tup ys) from ⟨hz, its, r', IsTup.new _ _⟩)
    exact ⟨.ref h'.objs.size, _, I2, rfl, q _ (I1.hok.fresh (Nat.le_refl _))⟩
  · obtain ⟨its, r', pl, hz⟩ := I.tuple hq
    exact call_tuple_same pl ⟨.ref p, H, I, rfl, q⟩

/-! ### the call of a builtin's method: o.m(..) -/
/-- the value is of that builtin type -/
def tyV (K : PySem.W.Frag) (T : String) (x : V) (H : Hp) : Prop := match x with
  | .str _ => T = "str"
  | .int _ => T = "int"
  | .ref p => (T = "list" ∧ ∃ xs, SqL K H p xs) ∨ (T = "tuple" ∧ ∃ o, K.lookup p = some o ∧ o.cls = .type "tuple" ∧ o.dict = none) ∨
      (T = "dict" ∧ ((∃ kvs, H p = some (.dK kvs)) ∨ ∃ kvs, H p = some (.dT kvs))) ∨ (T = "set" ∧ ∃ S n, H p = some (.set S n))
  | _ => False
theorem tyV_is {pins : List (Addr × Obj)} {σ : St} {H : Hp} {s : Shared} {T : String} {x : V} {v : Value} (I : Inv X pins σ H s) (r : RelV x v) (ty : tyV X.K T x H) :
    s.TypeIs v T ∧ ∀ a, v = .ref a → ∃ ob, s.heap.get? a = some ob ∧ ob.dict = none := by
  cases x with
  | str z =>
    obtain ⟨t, rfl⟩ := r
    cases (show T = "str" from ty)
    exact ⟨typeIs_str s z t, fun _ e => nomatch e⟩
  | int i =>
    obtain ⟨t, rfl⟩ := r
    cases (show T = "int" from ty)
    exact ⟨typeIs_int s i t, fun _ e => nomatch e⟩
  | ref p =>
    cases r
    rcases ty with ⟨rfl, xs, hq⟩ | ⟨rfl, o, hk, hc, hd⟩ | ⟨rfl, hk⟩ | ⟨rfl, S, n, hk⟩
    · obtain ⟨its, _, pl, _⟩ := I.list hq
      refine ⟨pl.isList.typeIs, fun a e => ?_⟩
      cases e
      obtain ⟨o, n, e, c, hd, _⟩ := pl
      exact ⟨o, e, hd⟩
    · refine ⟨⟨o, I.kIn p o hk, hc⟩, fun a e => ?_⟩
      cases e
      exact ⟨o, I.kIn _ o hk, hd⟩
    · have z : ∃ o, s.heap.get? p = some o ∧ o.ExactDict := by
        rcases hk with ⟨kvs, hk⟩ | ⟨kvs, hk⟩
        · obtain ⟨_, _, _, _, o, _, _, e, ex, _⟩ := I.hok p _ hk
          exact ⟨o, e, ex⟩
        · obtain ⟨_, _, _, _, o, _, _, e, ex, _⟩ := I.hok p _ hk
          exact ⟨o, e, ex⟩
      obtain ⟨o, e, ex⟩ := z
      refine ⟨⟨o, e, ex.1⟩, fun a e2 => ?_⟩
      cases e2
      exact ⟨o, e, ex.2.1⟩
    · obtain ⟨o, _, _, _, e, ex, _⟩ := I.hok p _ hk
      refine ⟨⟨o, e, ex.1⟩, fun a e2 => ?_⟩
      cases e2
      exact ⟨o, e, ex.2.1⟩
  | _ => exact False.elim ty
def tBM (K : PySem.W.Frag) (T : String) (r : V → List V → Hp → VK → Prop) (to : TE) (t : TA) : TE := fun σ H Q => to σ H fun x H1 => tyV K T x H1 ∧ t σ H1 fun xs H2 => r x xs H2 Q
variable {o e : Expr} {es : List Expr} {to : TE} {t : TA} {name : Str} {apos cpos : Pos} {T id : String} {r : V → List V → Hp → VK → Prop}
theorem pe_bm (pa : PlainAttrs T) (slot : Slot T name id) (hty : typeOf (.builtin id) = pure (.type "method_descriptor")) (hm : MtR X id r) (ho : PE X o to) (ha : PA X (e :: es) t)
    (hbase : attributeBase o name X.env (eval o X.env) = eval o X.env := by rfl)
    (hfew : ((backTo cpos (starEach (e :: es) X.env)).all (fun x => !x.1) && (backToKw cpos (keywordEach [] X.env)).all (fun x => x.1.isSome)
      && decide ((e :: es).length + ([] : List Keyword).length + (if ([] : List Keyword).isEmpty then 0 else 1) < 30)) = true := by rfl)
    (hline : (apos.endLine == cpos.line) = true := by rfl) (hs : starEach (e :: es) X.env = (false, eval e X.env) :: starEach es X.env := by rfl) (hplain : (backTo cpos (starEach es X.env)).any (·.1) = false := by rfl) :
    PE X (.Call (.Attribute o name apos) (e :: es) [] cpos) (tBM X.K T r to t) := by
  intro pins s σ H Q I h
  refine wpAny_Call_method_late hbase hfew hline rfl (thn (ho pins s σ H _ I h) fun v s1 ⟨x, H1, I1, r1, ty, q1⟩ => ?_)
  obtain ⟨h1, h2⟩ := tyV_is I1 r1 ty
  refine ⟨T, id, pa, slot, hty, h1, h2, ?_⟩
  have hA := ha cpos pins s1 σ H1 _ I1 q1
  rw [hs] at hA ⊢
  refine Calls.callWith_builtin (by show (false || (backTo cpos (starEach es X.env)).any (·.1)) = false; rw [hplain] <;> rfl) (Calls.evalArgs_plain ?_)
  exact thn hA fun us s2 ⟨vs, H2, I2, r2, q2⟩ => hm pins s2 σ H2 x vs v us Q I2 r1 r2 q2
/- xs.append(e), list.index on a module's tuple .. are MtR facts of 06m -/
end
end L2

namespace L2
open PySem PySem.Spec PyProof.Rows

def MtM (X : Cx) (id : String) (r : V → List V → Hp → VK → Prop) : Prop :=
  ∀ (pins : List (Addr × Obj)) (s : Shared) (σ : St) (H : Hp) (x : V) (xs : List V) (v : Value) (us : List Value) (Q : VK), Inv X pins σ H s → RelV x v → Vals xs us → r x xs H Q →
    wpAny (model X.prog X.w) X.A (call (.builtin id) (v :: us)) (EP X pins σ Q) X.xe s

/-! ### lists of values -/
theorem Vals.one : ∀ {x : V} {us : List Value}, Vals [x] us → ∃ u, us = [u] ∧ RelV x u
  | _, _, .cons r .nil => ⟨_, rfl, r⟩
theorem Vals.rep {xs : List V} {us : List Value} (h : Vals xs us) : ∀ k : Nat, Vals (List.replicate k xs).flatten (List.replicate k us).flatten
  | 0 => .nil
  | k + 1 => by
    rw [List.replicate_succ, List.replicate_succ, List.flatten_cons, List.flatten_cons]
    exact Vals.append h (Vals.rep h k)
theorem foldl_rep (its : List Value) : ∀ (k : Nat) (acc : List Value),
    List.foldl (fun x1 x2 => x1 ++ x2) acc.toArray (List.replicate k its.toArray) = (acc ++ (List.replicate k its).flatten).toArray
  | 0, acc => by simp
  | k + 1, acc => by
    have e : acc.toArray ++ its.toArray = (acc ++ its).toArray := by simp
    have e2 : (acc ++ its) ++ (List.replicate k its).flatten = acc ++ (List.replicate (k + 1) its).flatten := by
      rw [List.replicate_succ, List.flatten_cons, List.append_assoc]
    rw [← e2, ← foldl_rep its k (acc ++ its), ← e, List.replicate_succ, List.foldl_cons]

section
variable {X : Cx} {pins : List (Addr × Obj)} {σ : St} {H : Hp} {s : Shared} {l b : Addr} {xs ys zs : List V}

/-! ### the two steps: a tracked list is rewritten, a new list is laid -/
theorem Inv.lset {its its' : List Value} {n : Nat} {f : Array Value → Array Value} {t' : Nat} (I : Inv X pins σ H s) (hH : H l = some (.lst xs))
    (e : s.heap.get? l = some { cls := .type "list", data := .seq its.toArray n }) (hf : f its.toArray = its'.toArray) (hv : Vals ys its') (hz : ys.length ≤ sizeLine) :
    Inv X pins σ (upd H l (.lst ys)) { s with heap := s.heap.update l (Obj.mapSeq f), toks := t' } := by
  have q := PySem.IsL.update e f
  rw [hf] at q
  refine I.write (x := l) (e := l) (by rw [hH]; exact trivial) (.inl rfl) (fun b' u hb hu => (Heap.get?_update_other s.heap (Obj.mapSeq f) (Ne.symm hb)).trans hu) ⟨_, q⟩ ?_
  exact ⟨hz, its', _, hv, q⟩
theorem Inv.lnew {its : List Value} {t' : Nat} (I : Inv X pins σ H s) (hv : Vals ys its) (hz : ys.length ≤ sizeLine) :
    Inv X pins σ (upd H s.heap.objs.size (.lst ys)) { s with heap := s.heap.push { cls := .type "list", data := .seq its.toArray }, toks := t' } :=
  I.laid (fun _ _ q => Heap.get?_push_of_some _ q) (Nat.le_refl _) ⟨hz, its, 0, hv, Heap.get?_push_size _ rfl⟩
theorem Inv.fresh (I : Inv X pins σ H s) : H s.heap.objs.size = none := I.hok.fresh (Nat.le_refl _)
theorem Inv.lstM (I : Inv X pins σ H s) (hH : H l = some (.lst xs)) : xs.length ≤ sizeLine ∧ ∃ (its : List Value) (n : Nat), Vals xs its ∧ xs.length = its.length ∧ s.heap.get? l = some { cls := .type "list", data := .seq its.toArray n } := by
  obtain ⟨z, its, n, r, e⟩ := I.hok l _ hH
  exact ⟨z, its, n, r, r.length, e⟩

theorem notLongL {n : Nat} (h : n ≤ sizeLine) : Builtin.List.listTooLong n = false := by
  unfold Builtin.List.listTooLong
  exact decide_eq_false (by omega)
end

section
variable {X : Cx}

/-! ### methods -/
def rAppend : V → List V → Hp → VK → Prop := fun x vs H Q => ∃ l xs y, x = .ref l ∧ vs = [y] ∧ H l = some (.lst xs) ∧ xs.length < sizeLine ∧ Q .non (upd H l (.lst (xs ++ [y])))
theorem mt_append : MtM X "list.append" rAppend := by
  intro pins s σ H x vs v us Q I rx rv h
  obtain ⟨l, xs, y, rfl, rfl, hH, hz, q⟩ := h
  cases rx
  obtain ⟨u, rfl, ru⟩ := rv.one
  obtain ⟨z, its, n, r, hl, e⟩ := I.lstM hH
  refine call_meets F.slot_list_append ⟨_, e, rfl⟩ F.entry_list_append (F.args_list_append_2 _ _) (PySem.list_append l its.toArray n u (by rw [List.size_toArray]; omega)) ⟨e, ?_⟩
  refine ⟨.non, _, I.lset (its' := its ++ [u]) hH e (by simp) (r.append (.cons ru .nil)) ?_, rfl, q⟩
  rw [List.length_append, List.length_singleton]
  omega

def rExtend : V → List V → Hp → VK → Prop := fun x vs H Q => ∃ l b xs zs, x = .ref l ∧ vs = [.ref b] ∧ H l = some (.lst xs) ∧ H b = some (.lst zs) ∧ xs.length + zs.length ≤ sizeLine ∧ Q .non (upd H l (.lst (xs ++ zs)))
theorem mt_extend : MtM X "list.extend" rExtend := by
  intro pins s σ H x vs v us Q I rx rv h
  obtain ⟨l, b, xs, zs, rfl, rfl, hH, hB, hz, q⟩ := h
  cases rx
  obtain ⟨u, rfl, ru⟩ := rv.one
  cases ru
  obtain ⟨z, its, n, r, hl, e⟩ := I.lstM hH
  obtain ⟨z2, its2, n2, r2, hl2, e2⟩ := I.lstM hB
  have hsz : its.toArray.size + its2.toArray.size ≤ sizeLine := by rw [List.size_toArray, List.size_toArray]; omega
  have hlong : ¬ (!its.toArray.isEmpty && Builtin.List.listTooLong (its.toArray.size + its2.toArray.size)) = true := by
    rw [notLongL hsz, Bool.and_false]
    exact Bool.false_ne_true
  refine call_meets F.slot_list_extend ⟨_, e, rfl⟩ F.entry_list_extend (F.args_list_extend_2 _ _)
    (AutoSeq1.list_extend_list_list_0 l its.toArray n b its2.toArray n2 hlong (by rw [List.size_toArray]; omega) (by omega)) ⟨e, e2, ?_⟩
  refine ⟨.non, _, I.lset (its' := its ++ its2) hH e (by simp) (r.append r2) ?_, rfl, q⟩
  rw [List.length_append]
  omega

/-! ### list + list, list += list, list * int -/
def rCat : R2 := fun x y H Q => ∃ l b xs zs, x = .ref l ∧ y = .ref b ∧ H l = some (.lst xs) ∧ H b = some (.lst zs) ∧ xs.length + zs.length ≤ sizeLine ∧ ∀ p, H p = none → Q (.ref p) (upd H p (.lst (xs ++ zs)))
theorem op_cat : OpR X (binaryOp .Add) rCat := by
  intro pins s σ H x y v u Q I rx ry h
  obtain ⟨l, b, xs, zs, rfl, rfl, hH, hB, hz, q⟩ := h
  cases rx
  cases ry
  obtain ⟨z, its, n, r, hl, e⟩ := I.lstM hH
  obtain ⟨z2, its2, n2, r2, hl2, e2⟩ := I.lstM hB
  refine PySem.P.add_list e e2 ?_ (by rw [List.size_toArray, List.size_toArray]; omega)
  have ea : its.toArray ++ its2.toArray = (its ++ its2).toArray := by simp
  rw [ea]
  exact ⟨.ref _, _, I.lnew (t' := s.toks) (r.append r2) (by rw [List.length_append]; omega), rfl, q _ I.fresh⟩
/-- a list times an int (a negative one is nothing) -/
def rRep : R2 := fun x y H Q => ∃ l k xs, x = .ref l ∧ y = .int k ∧ H l = some (.lst xs) ∧ -(2 ^ 63) ≤ k ∧ k < 2 ^ 63 ∧ xs.length * k.toNat ≤ sizeLine ∧
  ∀ p, H p = none → Q (.ref p) (upd H p (.lst (List.replicate k.toNat xs).flatten))
theorem len_rep {α : Type} (xs : List α) (k : Nat) : (List.replicate k xs).flatten.length = k * xs.length := by
  induction k with
  | zero => simp
  | succ k ih => rw [List.replicate_succ, List.flatten_cons, List.length_append, ih, Nat.succ_mul, Nat.add_comm]
theorem op_rep : OpR X (binaryOp .Mult) rRep := by
  intro pins s σ H x y v u Q I rx ry h
  obtain ⟨l, k, xs, rfl, rfl, hH, h1, h2, hz, q⟩ := h
  cases rx
  obtain ⟨t, rfl⟩ := ry
  obtain ⟨z, its, n, r, hl, e⟩ := I.lstM hH
  have hlen : its.toArray.size * k.toNat ≤ sizeLine := by rw [List.size_toArray, ← hl]; exact hz
  have hcap : ¬ its.toArray.size * k.toNat > (2 ^ 63 - 1) / 8 := by
    have : (sizeLine : Nat) ≤ (2 ^ 63 - 1) / 8 := by decide
    omega
  have hfit : ¬ (!Builtin.List.listFitsIndex k) = true := by
    rw [fitsIndex_both h1 h2]
    exact Bool.false_ne_true
  have hlong : ¬ Builtin.List.listTooLong (its.toArray.size * k.toNat) = true := by
    rw [notLongL hlen]
    exact Bool.false_ne_true
  have hnew : List.foldl (fun x1 x2 => x1 ++ x2) #[] (List.replicate (if its.toArray.isEmpty = true then 0 else k.toNat) its.toArray) = (List.replicate k.toNat its).flatten.toArray := by
    have f0 : ∀ m : Nat, List.foldl (fun x1 x2 => x1 ++ x2) #[] (List.replicate m its.toArray) = (List.replicate m its).flatten.toArray := fun m => by
      have := foldl_rep its m []
      rw [List.nil_append] at this
      exact this
    rw [f0]
    cases its with
    | nil => simp
    | cons a r' => rw [if_neg (by simp)]
  refine wpAny_binaryOp_repeat_ref (T := "list") (U := "int") (by decide) ⟨_, e, rfl⟩ (fun s' => typeIs_int s' k t) noFill_list_mul F.fills_int_mul F.slot_int_rmul repeat_list F.slot_int_index.lookup
    (call_meets F.slot_int_rmul (typeIs_int s k t) F.entry_int_rmul (F.args_int_rmul_2 _ _) (int___rmul___int_list k t l its.toArray n)
      ⟨e, rfl, ⟨_, e, rfl⟩, call_meets F.slot_list_mul ⟨_, e, rfl⟩ F.entry_list_mul (F.args_list_mul_2 _ _) (AutoListH.list___mul___list_int_3 l its.toArray n k t hfit hcap hlong) ⟨e, ?_⟩⟩)
  rw [hnew]
  exact ⟨.ref _, _, I.lnew (t' := s.toks) (r.rep k.toNat) (by rw [len_rep, Nat.mul_comm]; exact hz), rfl, q _ I.fresh⟩

/-! ### del xs[i] -/
end

/-! ### xs[a:b] = ys -/
section
variable {prog : Program} {w : World} {A : Around} {E : Value → Shared → Prop} {s : Shared}
end

section
variable {X : Cx}
end
end L2

namespace Att
open PySem PySem.W PySem.Calls PyProof.Rows

/-! ### the script -/
theorem ints_of_wellAll {P : Params} {h : Heap} : ∀ (ns : List Int) (vs : List Value), WellAll P h vs (ns.map WData.int) → IntsAre vs ns := by
  intro ns
  induction ns with
  | nil =>
    intro vs w
    rw [List.map_nil] at w
    cases w
    exact .nil
  | cons n ns ih =>
    intro vs w
    rw [List.map_cons] at w
    cases w with
    | cons a b =>
      cases a
      exact .cons _ _ (ih _ b)

theorem script_of {l : OpenLaw} {n : Nat} (hn : l.most = some n) {P : Params} {h : Heap} {args : List WData} {vals : List Value}
    (hpre : l.row.toRowW.claim.pre args = true) (hwl : WellAll P h vals args) :
    ∃ a vs ns, vals = [Value.ref a] ∧ args = [WData.list (ns.map WData.int)] ∧ h.get? a = some { cls := .type "list", data := .seq vs.toArray } ∧ IntsAre vs ns ∧ ns.length ≤ n := by
  have hsh : WShape.hasAll [] args [.list .int] = true := (pre_splitW hpre).1
  have hc : l.pre.holds [] { args := args } = true := (pre_splitW hpre).2
  obtain ⟨d, r, rfl, h1, h2⟩ := hasAllW_cons hsh
  obtain rfl := hasAllW_nil h2
  obtain ⟨xs, rfl, h3⟩ := hasW_list h1
  obtain ⟨ns, rfl⟩ := items_int h3
  have hlen : ns.length ≤ n := by
    unfold OpenLaw.pre at hc
    have h4 : (WTm.not (.lt (.lit (.int (n : Int))) (.len (.arg 0)))).holds [] { args := [.list (ns.map .int)] } = true := by
      have h4 := (holds_andW hc).1
      rw [hn] at h4
      exact h4
    have h5 := condW_of h4 (w_not (w_lt w_lit (w_len_list (w_arg rfl))))
    rw [List.length_map] at h5
    refine Nat.le_of_not_lt fun q => ?_
    have q' : (n : Int) < ((ns.length : Nat) : Int) := by omega
    first
      | (rw [decide_eq_true q'] at h5; exact absurd h5 (by decide))
      | (simp at h5; omega)
  cases hwl with
  | cons w1 w2 =>
    cases w2
    cases w1 with
    | list ho hall => exact ⟨_, _, ns, rfl, rfl, ho, ints_of_wellAll ns _ hall, hlen⟩

theorem post_true (l : OpenLaw) (args : List WData) : l.row.toRowW.claim.post args (.bool true) args = true :=
  postW_of (r := l.row.toRowW) (X := (true == true))
    (show WShape.has [] (.bool true) .bool = true by first | rfl | decide | simp [WShape.has, WShape.arms, WShape.armsAll])
    (show (WTm.eq .res (.lit (.bool true))).value [] { args := args, res := some (.bool true), after := args } = some (.bool (true == true)) from w_eq_bool (w_res rfl) w_lit) rfl

/-! ### the attachment: holds_open's last premise (the goal 'hc' behind k_head) from a wpAny of the law's body -/
/-- the same from a codeAny of the CALL (for a layer whose function contracts speak of calls) -/
theorem attach_call {l : OpenLaw} {n : Nat} {q : Program} {loose : List Str} {XP : (Str → Option Value) → Heap → Prop} {YP : World → Heap → Prop} {d : DefRec}
    (hn : l.most = some n) (hdf : d.params.defaults = [])
    (call : ∀ (w : World) (s₀ s₁ : Shared) (mg mb : Str → Option Value) (fa : Addr) (o : Obj) (pm cd doc : Value) (a : Addr) (vs : List Value) (ns : List Int),
      Ground q loose [] XP w s₀ mg mb s₁.heap → YP w s₁.heap →
      s₁.heap.get? fa = some o → o.data = .func (docDef d.name d.params d.body d.scope pm cd doc) → s₁.heap.CodeRec cd d.name → mg d.name = some (.ref fa) →
      s₁.heap.get? a = some { cls := .type "list", data := .seq vs.toArray } → IntsAre vs ns → ns.length ≤ n → s₁.gens = #[] →
      codeAny (model l.prog w) callerA (.call (.ref fa) ⟨[.ref a], []⟩) (fun r s' => r = .ok (.ret (.bool true)) ∧ OldK s₁.heap s'.heap ∧ s'.os = s₁.os ∧ AllBare s'.gens) s₁) :
    WalkO q loose XP YP l.row.toRowW d [] (fun f vs => PySem.call f vs) := by
  intro w s₀ s₁ mg mb G Y fa o pm cd doc dV kV ho hd hcd hD hmg hg args vals as hpre hlay hrd hwl hlo
  obtain rfl : dV = .none := Dflts.none hD hdf
  obtain rfl : kV = .none := Dflts.noKw hD
  obtain ⟨a, vs, ns, rfl, rfl, hobj, hints, hlen⟩ := script_of hn hpre hwl
  refine enter_call (codeAny_mono (call w s₀ s₁ mg mb fa o pm cd doc a vs ns G Y ho (fd_plain hd) hcd hmg hobj hints hlen hg) fun r s' hq => ?_)
  obtain ⟨rfl, h2, h3, h4⟩ := hq
  exact ⟨.inl ⟨.bool true, .bool true, [], rfl, fun _ => rfl, .bool true, post_true l _, fun _ => ⟨List.Pairwise.nil, fun _ hm => (nomatch hm)⟩⟩, h2, h3, h4⟩

/-! ### rules over ANY heap (no ledger) from facts about the written part K: the library's own take a ledger (News) for what they write -/
section
variable {prog : Program} {w : World} {A : Around} {E : Value → Shared → Prop} {s : Shared} {K : Frag}

/-! the whole heap as the ledger: makes every rule that writes through a ledger a rule over any heap -/
end
end Att

namespace L2
open PySem PySem.Spec PyProof.Rows

theorem vals_ints : ∀ {vs : List Value} {ns : List Int}, IntsAre vs ns → Vals (ns.map V.int) vs
  | _, _, .nil => .nil
  | _, _, .cons n t h => .cons ⟨t, rfl⟩ (vals_ints h)

/-- nothing is tracked but the script, known to the object (or it is an object of the module) -/
def Only (H : Hp) : Prop := ∀ b, H b = none ∨ ∃ o xs, H b = some (.frz o (.lst xs))

/-- THE HEAD: the law's promise, at the heap behind the top. F, the promise of the law's def, may use that base is part of the heap (so K.In base, base.Ns mainGlobals mg stand in Mod) -/
theorem law_call {P : Program} {w : World} {K : PySem.W.Frag} {mg mb : Str → Option Value} {CX : CXT} {k : Nat} {fa a : Addr} {fd : FuncData} {x : Str} {sp : Sp} {s₁ : Shared} {vs : List Value} {ns : List Int}
    (KX : K.In s₁.heap) (hns : s₁.heap.Ns mainGlobals mg) (hb : s₁.heap.Ns builtinsNs mb) (hbb : ∀ x : Str, x ≠ "__name__" → mb x = bootBuiltins x) (hlim : s₁.heap.NoLimit) (hg : s₁.gens = #[])
    (ha : s₁.heap.get? a = some { cls := .type "list", data := .seq vs.toArray }) (hi : IntsAre vs ns) (hl : ns.length ≤ sizeLine) (hr : Room k callerA)
    (F : ∀ base : Heap, K.In base → base.Ns mainGlobals mg → FnOk P w K mg base CX k fa fd [x] sp) (hbind : ∀ (s : Shared) (u : Value), BindsTo s fd ⟨[u], []⟩ [(x, u)])
    (hsp : ∀ H : Hp, Only H → SqL K H a (ns.map V.int) → sp [.ref a] H (fun v _ => v = .bl true) fun _ _ _ => False)
    (hCX : ∀ H e s', CX [] H s₁ (fun _ _ _ => False) e s' → False) :
    codeAny (model P w) callerA (.call (.ref fa) ⟨[.ref a], []⟩) (fun r s' => r = .ok (.ret (.bool true)) ∧ OldK s₁.heap s'.heap ∧ s'.os = s₁.os ∧ AllBare s'.gens) s₁ := by
  have rv := vals_ints hi
  have lenV := hi.length
  -- from an abstract heap in which nothing but the script may be tracked
  have core : ∀ H : Hp, Only H → SqL K H a (ns.map V.int) → HOk P w H s₁.heap → (∀ b, H b ≠ none → b = a) → (H a ≠ none → K.lookup a = none) →
      codeAny (model P w) callerA (.call (.ref fa) ⟨[.ref a], []⟩) (fun r s' => r = .ok (.ret (.bool true)) ∧ OldK s₁.heap s'.heap ∧ s'.os = s₁.os ∧ AllBare s'.gens) s₁ := by
    intro H hO hS hok hA hK
    have base_of : ∀ {b : Addr} {o : Obj}, s₁.heap.get? b = some o → H b = none → (hidT s₁.heap H).get? b = some o := fun e n => hidT_get e n
    have noA : ∀ {b : Addr} {o : Obj} {es : Array DictEntry} {ep : Nat}, s₁.heap.get? b = some o → o.data = .dict es ep → H b = none := fun {b o es ep} e d => by
      cases q : H b with
      | none => rfl
      | some u =>
        have e' : b = a := hA b (by rw [q]; simp)
        subst e'
        rw [ha] at e; cases e
        have d' : Data.seq vs.toArray _ = Data.dict es ep := d
        cases d'
    have nsK : ∀ {b : Addr} {m : Str → Option Value}, s₁.heap.Ns b m → (hidT s₁.heap H).Ns b m := fun {b m} ⟨o, es, ep, e, d, r⟩ => ⟨o, es, ep, base_of e (noA e d), d, r⟩
    have hKb : K.In (hidT s₁.heap H) := fun b o e => base_of (KX b o e) (by
      cases q : H b with
      | none => rfl
      | some u =>
        have e' : b = a := hA b (by rw [q]; simp)
        subst e'
        rw [hK (by rw [q]; simp)] at e; cases e)
    have hM : Mod K mg (hidT s₁.heap H) := ⟨hKb, nsK hns, ⟨mb, nsK hb, hbb⟩, let ⟨mc, h1, h2⟩ := hlim; ⟨mc, nsK h1, h2⟩⟩
    have e0 : Env0 P w K mg (hidT s₁.heap H) callerA [] s₁ H := ⟨rfl, hM, fun b o e => of_hidT e, Nat.le_of_eq (hidT_size _ _), trivial, fun b hb => absurd (show b ∈ ([] : List Addr) from hb) (by simp), hok, .of_eq hg⟩
    refine codeAny_mono ((F _ hKb (nsK hns)).run callerA [] s₁ H ⟨[.ref a], []⟩ [.ref a] [.ref a] _ _ hr e0 (hbind s₁ (.ref a)) (.cons rfl .nil) (hsp H hO hS)) fun r s' h => ?_
    cases r with
    | error e => exact (hCX H e s' h).elim
    | ok fl =>
      cases fl with
      | next => exact False.elim h
      | brk => exact False.elim h
      | cont => exact False.elim h
      | ret u =>
        obtain ⟨v, H', os, bare, un, hok', r', q⟩ := h
        have q' : v = .bl true := q
        subst q'
        obtain rfl : u = Value.bool true := r'
        refine ⟨rfl, OldK.of_keep fun b o e => ?_, os, bare⟩
        cases q : H b with
        | none => exact un.keep b o e q (by intro z; exact absurd (show b ∈ ([] : List Addr) from z) (by simp)) (by simp)
        | some u =>
          rcases hO b with z | ⟨ob, xs, z⟩
          · rw [q] at z; cases z
          · have z2 := un.frzs b ob _ z
            obtain ⟨e1, _⟩ := hok b _ z
            obtain ⟨e2, _⟩ := hok' b _ z2
            rw [e] at e1; cases e1
            exact e2
  cases hk : K.lookup a with
  | some o =>
    -- the script is one of the module's own objects
    have e := KX a o hk
    rw [ha] at e
    cases e
    refine core (fun _ => none) (fun _ => .inl rfl) (.inr ⟨_, vs.toArray, _, hk, rfl, rfl, rfl, by rw [List.size_toArray, lenV]; exact hl, by simpa using rv⟩) (fun b u z => by have z' : (none : Option HO) = some u := z; cases z') (fun b z => absurd rfl z) fun z => absurd rfl z
  | none =>
    refine core (fun b => if b = a then some (.frz { cls := .type "list", data := .seq vs.toArray } (.lst (ns.map V.int))) else none) (fun b => ?_) (.inl (.inr ⟨{ cls := .type "list", data := .seq vs.toArray }, if_pos rfl⟩)) (fun b u z => ?_) (fun b z => ?_) fun _ => hk
    · by_cases hb : b = a
      · exact .inr ⟨_, _, if_pos hb⟩
      · exact .inl (if_neg hb)
    · by_cases hb : b = a
      · have z' := (if_pos hb).symm.trans z
        cases z'
        subst hb
        exact ⟨ha, by rw [List.length_map]; exact hl, vs, _, rv, ha⟩
      · have z' := (if_neg hb).symm.trans z
        cases z'
    · by_cases hb : b = a
      · exact hb
      · exact absurd (if_neg hb) z
end L2

namespace L2
open PySem PySem.Spec PyProof.Rows

/-- the goal that k_head leaves (case hc), from the law's promise. F gives the function object fd (K's own) once, then the promise over every base -/
theorem walk_of {l : PySem.W.OpenLaw} {n k : Nat} {q : Program} {loose : List Str} {XP : (Str → Option Value) → Heap → Prop} {YP : World → Heap → Prop} {d : DefRec} {K : Params → PySem.W.Frag} {CX : World → CXT} {sp : World → Sp} {x : Str}
    (hn : l.most = some n) (hn2 : n ≤ sizeLine) (hdf : d.params.defaults = []) (hr : Room k callerA)
    (hY : ∀ (w : World) (h : Heap), YP w h → (K w.params).In h)
    (F : ∀ (w : World) (mg : Str → Option Value) (fa : Addr) (h : Heap), (K w.params).In h → h.Ns mainGlobals mg → mg d.name = some (.ref fa) →
      ∃ fd : FuncData, (∀ (s : Shared) (u : Value), BindsTo s fd ⟨[u], []⟩ [(x, u)]) ∧
        ∀ base : Heap, (K w.params).In base → base.Ns mainGlobals mg → FnOk l.prog w (K w.params) mg base (CX w) k fa fd [x] (sp w))
    (hsp : ∀ (w : World) (H : Hp) (a : Addr) (ns : List Int), ns.length ≤ n → Only H → SqL (K w.params) H a (ns.map V.int) → sp w [.ref a] H (fun v _ => v = .bl true) fun _ _ _ => False)
    (hCX : ∀ (w : World) (H : Hp) (s : Shared) (e : Value) (s' : Shared), CX w [] H s (fun _ _ _ => False) e s' → False) :
    PySem.W.WalkO q loose XP YP l.row.toRowW d [] (fun f vs => PySem.call f vs) := by
  refine Att.attach_call hn hdf fun w s₀ s₁ mg mb fa o pm cd doc a vs ns G Y ho hd hcd hmg hobj hints hlen hg => ?_
  have KX := hY w _ Y
  obtain ⟨fd, hb, hF⟩ := F w mg fa _ KX G.T.g hmg
  exact law_call KX G.T.g G.T.b G.T.builtins G.T.nolimit hg hobj hints (Nat.le_trans hlen hn2) hr hF hb (fun H hO hS => hsp w H a ns hlen hO hS) fun H e s' => hCX w H s₁ e s'
end L2

/- THE LAST THEOREM (shape; LID, My.* are yours):
   My.Adr: a structure of the addresses that your layer names (classes, functions); My.Txt K t: a structure (Prop) of the equations over K;
   My.txt_mk : {K} {implicit addresses ..} (e1 : nsIn K mainGlobals "law" = some (some (.ref f))) (e2 : K.lookup f = some ⟨oc, od, .func (fnOf "law" "law" params body scope dV kV doc pm an cdv ct), sl⟩) (e3 : codeIn K cdv "law" = true) .. : ∃ t, My.Txt K t

(the tactic k_is has no namespace: write k_is) -/

/-! SHORT WORDS over the layer: a def of the text, its body, what a loop and a test want. -/
namespace L2
open PySem PySem.Spec PyProof.Rows

/-! ### the text by places -/
def defArgs (s : Stmt) : Arguments := match s with
  | .FunctionDef _ a _ _ _ _ _ _ _ _ => a
  | _ => { posonlyargs := [], args := [], vararg := none, kwonlyargs := [], kw_defaults := [], kwarg := none, defaults := [] }
def defBody (s : Stmt) : List Stmt := match s with
  | .FunctionDef _ _ b _ _ _ _ _ _ _ => b
  | _ => []
def defScope (s : Stmt) : Scope := match s with
  | .FunctionDef _ _ _ _ _ _ sc _ _ _ => sc
  | _ => { kind := .function, names := [], isGenerator := false, isCoroutine := false }

/-! ### no exception leaves a def -/
abbrev CX0 : CXT := fun _ _ _ _ _ _ => False
abbrev E0 : XK := fun _ _ _ => False
theorem pass0 {X : Cx} : Passes CX0 X E0 := fun _ _ _ _ _ _ _ h => h.elim

/-! ### a def (or method) of the text as it stands behind the top -/
structure Fun (K : PySem.W.Frag) (x qual : Str) (st : Stmt) (f : Addr) (fd : FuncData) : Prop where
  ex : ∃ (oc : Value) (od : Option Addr) (kV doc pm : Value) (an : Option Addr) (cdv ct : Value) (osl : Array (Option Value)),
    fd = PySem.W.fnOf x qual (defArgs st) (defBody st) (defScope st) .none kV doc pm an cdv ct ∧ K.lookup f = some ⟨oc, od, .func fd, osl⟩ ∧ PySem.W.codeIn K cdv qual = true
  kp : PySem.W.keepIn K (.ref f) = true
section
variable {P : Program} {w : World} {K : PySem.W.Frag} {mg : Str → Option Value} {base : Heap}
/-- THE RULE for a def: its body as a term of rules, and the reading of that term -/
theorem Fun.ok {x qual : Str} {st : Stmt} {f : Addr} {fd : FuncData} {N ps : List Str} {k : Nat} {sp : Sp} (F : Fun K x qual st f fd) (S : FnScope N ps (defScope st)) (len : ∀ vs H Q E, sp vs H Q E → vs.length = ps.length)
    (hbody : ∀ (cdv : Value) (A : Around) (outer : List Env) (s : Shared) (H : Hp) (vs : List V) (Q : VK) (E : XK), Room k (A.deeper (envOfC qual (defScope st) s.heap.objs.size f cdv)) → sp vs H Q E →
      ∃ t, PSs (cxOf CX0 P w K mg base N qual (defScope st) f cdv A outer s H E).nox (defBody st) t ∧ t { nx := fun _ H' => Q .non H', rt := Q } (start N vs) H) : FnOk P w K mg base CX0 (k + 1) f fd ps sp := by
  obtain ⟨oc, od, kV, doc, pm, an, cdv, ct, osl, rfl, lk, hcd⟩ := F.ex
  refine fn_of lk hcd S len fun A outer s H vs Q E hr hsp => ?_
  obtain ⟨t, h, q⟩ := hbody cdv A outer s H vs Q E hr hsp
  exact ⟨t, h.nox, q⟩
/-- how its arguments bind (no defaults): h is «fun _ _ _ _ _ _ us hl => match us, hl with | [_, _], _ => rfl», one _ a parameter -/
theorem Fun.binds {x qual : Str} {st : Stmt} {f : Addr} {fd : FuncData} {ps : List Str} (F : Fun K x qual st f fd)
    (h : ∀ (kV doc pm : Value) (an : Option Addr) (cdv ct : Value) (us : List Value), us.length = ps.length → bindArgs (PySem.W.fnOf x qual (defArgs st) (defBody st) (defScope st) .none kV doc pm an cdv ct) ⟨us, []⟩ = pure (ps.zip us)) : Binds K fd ps [] := by
  obtain ⟨oc, od, kV, doc, pm, an, cdv, ct, osl, rfl, lk, hcd⟩ := F.ex
  exact .all (h kV doc pm an cdv ct)
theorem fun_mk {x qual : Str} {st : Stmt} {f : Addr} {oc : Value} {od an : Option Addr} {osl : Array (Option Value)} {kV doc pm cdv ct : Value} (l : K.lookup f = some ⟨oc, od, .func (PySem.W.fnOf x qual (defArgs st) (defBody st) (defScope st) .none kV doc pm an cdv ct), osl⟩)
    (c : PySem.W.codeIn K cdv qual = true) (k : PySem.W.keepIn K (.ref f) = true) : Fun K x qual st f (PySem.W.fnOf x qual (defArgs st) (defBody st) (defScope st) .none kV doc pm an cdv ct) := ⟨⟨oc, od, kV, doc, pm, an, cdv, ct, osl, rfl, l, c⟩, k⟩
end
/-! ### expressions in short: the name that stands in the i-th slot -/
section
variable {X : Cx}
theorem pv (i : Nat) {x : Str} {pos : Pos} (hN : X.N[i]? = some x := by rfl) (hv : Vis X.env.scope x := by first | exact Or.inl rfl | exact Or.inr (Or.inl rfl) | exact Or.inr (Or.inr rfl)) (hd : (x == ("__debug__" : Str)) = false := by decide)
    (hcd : (x == ("__classdict__" : Str)) = false := by decide) : PE X (.Name x pos) (tVar i) := pe_var hN hv hd hcd
end

/-! ### tests -/
theorem iteF {A B : Prop} (h : B) : if false = true then A else B := by
  rw [if_neg Bool.false_ne_true]
  exact h
theorem iteT {A B : Prop} (h : A) : if true = true then A else B := by
  rw [if_pos rfl]
  exact h
theorem ite2 {c A B : Prop} [Decidable c] (h1 : c → A) (h2 : ¬ c → B) : if c then A else B := by
  by_cases h : c
  · rw [if_pos h]
    exact h1 h
  · rw [if_neg h]
    exact h2 h
/-! ### heaps -/
/-- all that was tracked is as it was -/
def Same (H H' : Hp) : Prop := ∀ b o, H b = some o → H' b = some o
theorem Same.refl (H : Hp) : Same H H := fun _ _ h => h
theorem Same.trans {H H1 H2 : Hp} (a : Same H H1) (b : Same H1 H2) : Same H H2 := fun c o h => b c o (a c o h)
theorem Same.free {H H' : Hp} (e : Same H H') {l : Addr} (h : H' l = Option.none) : H l = Option.none := by
  cases q : H l with
  | none => rfl
  | some o =>
    rw [e l o q] at h
    cases h
theorem Same.seq {K : PySem.W.Frag} {H H' : Hp} {a : Addr} {xs : List V} (e : Same H H') (h : SqL K H a xs) : SqL K H' a xs := by
  rcases h with (h | ⟨o, h⟩) | h
  · exact .inl (.inl (e _ _ h))
  · exact .inl (.inr ⟨o, e _ _ h⟩)
  · exact .inr h

end L2

set_option Elab.async false
set_option linter.all false
namespace L2
open PySem

/-! ### a set's table: its places rise -/
abbrev Rise (xs : Array Nat) : Prop := xs.toList.Pairwise (· < ·)
end L2

set_option Elab.async false
set_option linter.all false
set_option maxRecDepth 100000
namespace L2
open PySem PySem.Spec PyProof.Rows

/-! ### a set of ints: its members, its table -/
def byT (w : World) : Bool := w.params.followText "set-order"
def IntE (e : Int × Value) (k : Int) : Prop := e.1 = hashInt k ∧ ∃ t, e.2 = Value.int k t
def SetO (w : World) (o : Obj) (ks : List Int) : Prop := ∃ es ep t is, o = { cls := .type "set", dict := none, data := .set es ep t, slots := #[] } ∧ Paired IntE es.toList is ∧ is.Perm ks ∧ ks.Nodup ∧
  es.size < scanBound ∧ t.fits es.size = true ∧ Rise t.place ∧ (byT w = false → t.led = true)
section
variable {prog : Program} {w : World} {A : Around} {E : Value → Shared → Prop} {s : Shared}
end
end L2

set_option Elab.async false
set_option linter.all false
set_option maxRecDepth 100000
namespace L2
open PySem PySem.Spec PyProof.Rows
theorem ltN {a b : Nat} (h : a < b) : a < b := h
theorem leN {a b : Nat} (h : a ≤ b) : a ≤ b := h
theorem neN {a b : Nat} (h : a = b) : a = b := h

/-! ### comprehensions: the block's cells -/
def clOf (env : Env) : List (Str × NameKind) → List (Str × Addr) → List (Str × Addr)
  | [], acc => acc
  | (n, k) :: r, acc => if k == .free then (match env.cells.lookup n with | some a => clOf env r ((n, a) :: acc) | none => clOf env r acc) else clOf env r acc
theorem clOf_go (env : Env) : ∀ (names : List (Str × NameKind)) (acc : List (Str × Addr)), (∀ y ∈ names, y.2 = .free → ∃ c, env.cells.lookup y.1 = some c) →
    (forIn names acc fun (x : Str × NameKind) (cs : List (Str × Addr)) => (if x.2 == .free then do let a ← cellOf env x.1; pure (ForInStep.yield ((x.1, a) :: cs)) else pure (ForInStep.yield cs) : Sem (ForInStep (List (Str × Addr))))) = pure (clOf env names acc)
  | [], acc, _ => rfl
  | (n, k) :: r, acc, h => by
    have ih := fun acc' => clOf_go env r acc' fun y hy => h y (List.mem_cons_of_mem _ hy)
    rw [List.forIn_cons]
    unfold clOf
    by_cases hk : (k == NameKind.free) = true
    · obtain ⟨c, hc⟩ := h (n, k) List.mem_cons_self (by simpa using hk)
      have e : cellOf env n = pure c := by unfold cellOf; rw [hc]
      simp only [hk, if_true, hc, e, pure_bind]
      exact ih _
    · simp only [hk, if_false, pure_bind]
      exact ih _
theorem closure_cl {scope : Scope} {env : Env} (h : ∀ y ∈ scope.names, y.2 = .free → ∃ c, env.cells.lookup y.1 = some c) : closureFor scope env = pure (clOf env scope.names []) := by
  rw [← clOf_go env scope.names [] h]
  unfold closureFor
  first | rfl | simp
theorem clOf_sub (env : Env) {y : Str} {c : Addr} : ∀ (names : List (Str × NameKind)) (acc : List (Str × Addr)), (clOf env names acc).lookup y = some c → env.cells.lookup y = some c ∨ acc.lookup y = some c
  | [], acc, h => .inr h
  | (n, k) :: r, acc, h => by
    unfold clOf at h
    split at h
    · split at h
      · rename_i a ha
        rcases clOf_sub env r _ h with q | q
        · exact .inl q
        · rw [List.lookup_cons] at q
          cases hb : y == n with
          | true =>
            rw [hb] at q
            have e : y = n := eq_of_beq hb
            rw [e]
            simp only [Option.some.injEq] at q
            exact .inl (by rw [ha, q])
          | false =>
            rw [hb] at q
            exact .inr q
      · exact clOf_sub env r _ h
    · exact clOf_sub env r _ h
theorem clOf_keep (env : Env) {y : Str} {c : Addr} (hc : env.cells.lookup y = some c) : ∀ (names : List (Str × NameKind)) (acc : List (Str × Addr)), acc.lookup y = some c → (clOf env names acc).lookup y = some c
  | [], acc, h => h
  | (n, k) :: r, acc, h => by
    unfold clOf
    split
    · split
      · rename_i a ha
        refine clOf_keep env hc r _ ?_
        rw [List.lookup_cons]
        cases hb : y == n with
        | true =>
          have e : y = n := eq_of_beq hb
          subst e
          rw [hc] at ha
          cases ha
          rfl
        | false => exact h
      · exact clOf_keep env hc r _ h
    · exact clOf_keep env hc r _ h
theorem clOf_has (env : Env) {y : Str} {c : Addr} (hc : env.cells.lookup y = some c) : ∀ (names : List (Str × NameKind)) (acc : List (Str × Addr)), (y, NameKind.free) ∈ names → (clOf env names acc).lookup y = some c
  | [], _, h => by cases h
  | (n, k) :: r, acc, h => by
    unfold clOf
    rcases List.mem_cons.mp h with e | h
    · cases e
      simp only [beq_self_eq_true, if_true, hc]
      exact clOf_keep env hc r _ (by rw [List.lookup_cons]; simp)
    · split
      · split
        · exact clOf_has env hc r _ h
        · exact clOf_has env hc r _ h
      · exact clOf_has env hc r _ h
theorem cellsFrom_app : ∀ (names : List (Str × NameKind)) (n : Nat) (acc : List (Str × Addr)), cellsFrom n names acc = cellsFrom n names [] ++ acc
  | [], _, _ => rfl
  | (y, k) :: r, n, acc => by
    unfold cellsFrom
    split
    · rw [cellsFrom_app r (n + 1) ((y, n) :: acc), cellsFrom_app r (n + 1) [(y, n)], List.append_assoc]
      rfl
    · exact cellsFrom_app r n acc
theorem lookup_app {y : Str} : ∀ (a b : List (Str × Addr)), (a ++ b).lookup y = (match a.lookup y with | some c => some c | none => b.lookup y)
  | [], _ => rfl
  | (n, v) :: r, b => by
    rw [List.cons_append, List.lookup_cons, List.lookup_cons]
    cases y == n with
    | true => rfl
    | false => exact lookup_app r b
theorem cellsFrom_own {y : Str} {c : Addr} : ∀ (names : List (Str × NameKind)) (n : Nat) (acc : List (Str × Addr)), (y, c) ∈ cellsFrom n names acc → (n ≤ c ∧ (y, NameKind.cell) ∈ names) ∨ (y, c) ∈ acc
  | [], _, _, h => .inr h
  | (z, k) :: r, n, acc, h => by
    unfold cellsFrom at h
    split at h
    · rename_i hk
      rcases cellsFrom_own r (n + 1) _ h with ⟨a, b⟩ | q
      · exact .inl ⟨Nat.le_of_succ_le a, List.mem_cons_of_mem _ b⟩
      · rcases List.mem_cons.mp q with e | q
        · cases e
          have ek : k = NameKind.cell := by simpa using hk
          exact .inl ⟨Nat.le_refl _, by rw [ek]; exact List.mem_cons_self⟩
        · exact .inr q
    · rcases cellsFrom_own r n _ h with ⟨a, b⟩ | q
      · exact .inl ⟨a, List.mem_cons_of_mem _ b⟩
      · exact .inr q

/-- a comprehension's own frame: a dict, its own cells behind it -/
theorem env_comp {M : Model} {A : Around} {E : Value → Shared → Prop} {s : Shared} {scope : Scope} {g : Addr} {cl : List (Str × Addr)} {qual : Str} {env : Env} {Q : Env → Shared → Prop}
    (h : Q { scope, locals := s.heap.objs.size, globals := g, cells := cellsFrom (s.heap.objs.size + 1) scope.names cl, qual, func := none, code := env.code, frame := env.frame, builtins := env.builtins }
      { s with heap := pushCells (s.heap.push { cls := .type "dict", data := .dict #[] }) scope.names }) :
    wpAny M A (newFunctionEnv scope g cl [] qual none .none (some env)) Q E s := by
  simp only [newFunctionEnv, Option.isSome_some, if_true]
  refine wpAny_bind (wpAny_alloc ?_)
  refine wpAny_bind (wpAny_layCells _ (fun name kind cells => by cases hkc : kind == NameKind.cell <;> simp [hkc]) _ _ _ _ ?_)
  rw [show ({ s with heap := s.heap.push { cls := .type "dict", data := .dict #[] } } : Shared).heap.objs.size = s.heap.objs.size + 1 from Heap.size_push ..]
  first | exact wpAny_bind (wpAny_pure (wpAny_pure h)) | exact wpAny_pure h | exact wpAny_bind (wpAny_pure h)

/-! ### comprehensions: the block's context -/
def maskN (x : Str) (N : List Str) : List Str := N.map fun n => if n = x then "." else n
def cxComp (X : Cx) (x : Str) (M : List Str) (scope : Scope) (C : Addr) (cs : List (Str × Addr)) (s : Shared) (H : Hp) (fp : List Addr) : Cx :=
  { X with N := x :: M, s₀ := s, H₀ := H, env := compEnvC scope cs C X.env, outer := X.stack, ex := fp, fn := fun y => scope.names.lookup y == some .cell, pn := [], xe := fun _ _ => False }

def PTs (X : Cx) (ifs : List Expr) (t : TT) : Prop :=
  ∀ (pins : List (Addr × Obj)) (s : Shared) (σ : St) (H : Hp) (Q : Bool → Hp → Prop), Inv X pins σ H s → t σ H Q →
    wpAny (model X.prog X.w) X.A (forIn ifs true fun c r => if r = true then do let ok ← isTrue c X.env (eval c X.env); pure (ForInStep.yield ok) else pure (ForInStep.yield r)) (TP X pins σ Q) X.xe s
def tTrue : TT := fun _ H Q => Q true H
theorem pts_nil {X : Cx} : PTs X [] tTrue := fun _ _ _ H _ I h => wpAny_tests_nil ⟨H, I, h⟩
theorem pts_one {X : Cx} {c : Expr} {t : TT} (h : PT X c t) : PTs X [c] t := fun pins s σ H Q I q => wpAny_tests_one (h pins s σ H Q I q)

/-- W: what holds at the turn of the list made so far; the measure falls -/
def CompW (J : It) (tc : TT) (te : TE) (σ : St) (H : Hp) (Q : VK) : Prop := ∃ W : Nat → Nat → List V → Hp → Prop, (∃ m, W 0 m [] H) ∧ ∀ i m ys H, W i m ys H → ys.length < sizeLine ∧
  ((J.stop i H ∧ ∀ l, H l = none → Q (.ref l) (upd H l (.lst ys))) ∨
   (J.go i H ∧ ∀ v H', J.yld i H v H' → tc (some v :: σ) H' fun c H2 => if c = true then te (some v :: σ) H2 fun y H3 => ∃ m', m' < m ∧ W (i + 1) m' (ys ++ [y]) H3 else ∃ m', m' < m ∧ W (i + 1) m' ys H2))
def tComp (wi : TI) (tc : TT) (te : TE) : TE := fun σ H Q => wi σ H fun J H1 => CompW J tc te σ H1 Q

/-- what a comprehension asks of its table of names -/
structure CompScope (X : Cx) (x : Str) (M : List Str) (scope : Scope) : Prop where
  kind : scope.kind = .function
  once : ∀ y ∈ scope.names, scope.names.lookup y.1 = some y.2
  dot : ∀ y ∈ scope.names, y.1 ≠ "."
  free : ∀ y ∈ scope.names, y.2 = .free → X.env.kindOf y.1 = some .cell ∨ X.env.kindOf y.1 = some .free
  own : scope.names.lookup x = some .local ∨ scope.names.lookup x = some .cell
  mask : M = maskN x X.N
  nd : (x :: M).Nodup
  apart : ∀ y ∈ M, ¬ (scope.names.lookup y = some .local ∨ scope.names.lookup y = some .cell)

theorem lookup_map_kind (f : Str → NameKind → NameKind) (y : Str) : ∀ names : List (Str × NameKind), (names.map fun p => (p.1, f p.1 p.2)).lookup y = (names.lookup y).map (f y)
  | [] => rfl
  | (n, k) :: r => by
    rw [List.map_cons, List.lookup_cons, List.lookup_cons]
    cases hb : y == n with
    | true =>
      have e : y = n := eq_of_beq hb
      subst e
      rfl
    | false => exact lookup_map_kind f y r
theorem relabel_look (scope : Scope) (env : Env) (y : Str) : (relabel scope env).names.lookup y = (scope.names.lookup y).map fun k => if (k == .free && env.scope.kind == .function && env.kindOf y == some .cell) = true then NameKind.cell else k := by
  have e : (relabel scope env).names = scope.names.map fun p => (p.1, (fun n k => if (k == .free && env.scope.kind == .function && env.kindOf n == some .cell) = true then NameKind.cell else k) p.1 p.2) := by
    unfold relabel
    refine List.map_congr_left fun p _ => ?_
    obtain ⟨n, k⟩ := p
    dsimp only
    split <;> rfl
  rw [e]
  exact lookup_map_kind (fun n k => if (k == .free && env.scope.kind == .function && env.kindOf n == some .cell) = true then NameKind.cell else k) y scope.names

section
variable {X : Cx} {x : Str} {M : List Str} {scope : Scope}
theorem CompScope.cl (S : CompScope X x M scope) (ok : X.Ok) : ∀ y ∈ scope.names, y.2 = .free → ∃ c, X.env.cells.lookup y.1 = some c := fun y hy hf => ok.has y.1 (S.free y hy hf)
/-- a name of the block that is not its own: it is one of the outer context's cells -/
theorem CompScope.outer (S : CompScope X x M scope) {y : Str} (hy : y ∈ M) (hv : Vis (relabel scope X.env) y) : (y, NameKind.free) ∈ scope.names ∧ ((relabel scope X.env).names.lookup y = some .cell ∨ (relabel scope X.env).names.lookup y = some .free) := by
  have na := S.apart y hy
  unfold Vis at hv
  rw [relabel_look] at hv ⊢
  cases e : scope.names.lookup y with
  | none => rw [e] at hv; simp at hv
  | some k =>
    have hk : k = .free ∨ (k ≠ .local ∧ k ≠ .cell ∧ k ≠ .free) := by
      cases k with
      | «local» => exact absurd (.inl e) na
      | cell => exact absurd (.inr e) na
      | free => exact .inl rfl
      | globalExplicit => exact .inr ⟨(fun z => by cases z), (fun z => by cases z), (fun z => by cases z)⟩
      | globalImplicit => exact .inr ⟨(fun z => by cases z), (fun z => by cases z), (fun z => by cases z)⟩
    rcases hk with rfl | ⟨h1, h2, h3⟩
    · refine ⟨PySem.mem_of_lookup e, ?_⟩
      simp only [Option.map_some]
      split
      · exact .inl rfl
      · exact .inr rfl
    · exfalso
      rw [e] at hv
      simp only [Option.map_some] at hv
      have hb : (k == NameKind.free) = false := by simpa using h3
      simp only [hb, Bool.false_and, Bool.false_eq_true, if_false, Option.some.injEq] at hv
      rcases hv with z | z | z
      · exact h1 z
      · exact h2 z
      · exact h3 z

theorem CompScope.loc (S : CompScope X x M scope) : Loc (relabel scope X.env) x ∧ ((scope.names.lookup x == some NameKind.cell) = true ∨ (relabel scope X.env).names.lookup x = some .local) := by
  unfold Loc
  rw [relabel_look]
  rcases S.own with e | e
  · rw [e]
    exact ⟨.inl rfl, .inr rfl⟩
  · rw [e]
    exact ⟨.inr rfl, .inl rfl⟩
theorem maskN_get {N : List Str} {i : Nat} {y : Str} (h : (maskN x N)[i]? = some y) : y = "." ∨ N[i]? = some y := by
  unfold maskN at h
  rw [List.getElem?_map] at h
  cases e : N[i]? with
  | none => rw [e] at h; cases h
  | some n =>
    rw [e] at h
    simp only [Option.map_some, Option.some.injEq] at h
    split at h
    · exact .inl h.symm
    · exact .inr (by rw [h])

variable {pins : List (Addr × Obj)} {σ : St} {H : Hp} {s : Shared} {fp : List Addr}
abbrev newAcc (h : Heap) : Heap := h.push { cls := .type "list", dict := none, data := .seq ([] : List Value).toArray }
abbrev blockHeap (h : Heap) (scope : Scope) : Heap := pushCells ((newAcc h).push { cls := .type "dict", data := .dict #[] }) scope.names
abbrev blockCells (X : Cx) (scope : Scope) (C : Addr) : List (Str × Addr) := cellsFrom (C + 1) scope.names (clOf X.env scope.names [])
theorem newAcc_size (h : Heap) : (newAcc h).objs.size = h.objs.size + 1 := Heap.size_push ..
theorem blockHeap_keep {h : Heap} {b : Addr} {o : Obj} (e : h.get? b = some o) : (blockHeap h scope).get? b = some o := pushCells_keeps _ _ _ _ (Heap.get?_push_of_some _ (Heap.get?_push_of_some _ e))
theorem inv_block (S : CompScope X x M scope) (I : Inv X pins σ H s) (fpk : ∀ b ∈ fp, FpOk X pins H b) (fpo : ∀ b ∈ fp, b < s.heap.objs.size) :
    Inv (cxComp X x M scope (newAcc s.heap).objs.size (blockCells X scope (newAcc s.heap).objs.size) s H fp) [] (none :: σ) H { s with heap := blockHeap s.heap scope } := by
  have hC := newAcc_size s.heap
  generalize hCe : (newAcc s.heap).objs.size = C at hC ⊢
  have hD : ((newAcc s.heap).push { cls := .type "dict", data := .dict #[] }).objs.size = C + 1 := by rw [Heap.size_push, hCe]
  have ok := cellsFrom_ok scope.names ((newAcc s.heap).push { cls := .type "dict", data := .dict #[] }) (C + 1) [] ⟨fun _ _ hm => (nomatch hm), List.Pairwise.nil⟩ (by rw [hD]; exact Nat.le_refl _)
  rw [hD] at ok
  have keep : ∀ b o, s.heap.get? b = some o → (blockHeap s.heap scope).get? b = some o := fun b o e => blockHeap_keep e
  have clX : ∀ y c, X.env.cells.lookup y = some c → c < s.heap.objs.size := fun y c e => let ⟨_, z⟩ := I.cell y c e; z.lt
  have hcs : ∀ y c, (blockCells X scope C).lookup y = some c → ((y, c) ∈ cellsFrom (C + 1) scope.names [] ∧ C + 1 ≤ c ∧ (y, NameKind.cell) ∈ scope.names) ∨ X.env.cells.lookup y = some c := fun y c e => by
    unfold blockCells at e
    rw [cellsFrom_app, lookup_app] at e
    split at e
    · rename_i c' q
      cases e
      have hm := PySem.mem_of_lookup q
      rcases cellsFrom_own _ _ _ hm with ⟨a, b⟩ | z
      · exact .inl ⟨hm, a, b⟩
      · cases z
    · rcases clOf_sub X.env _ _ e with q | q
      · exact .inr q
      · cases q
  have nocell : ∀ y, (y, NameKind.free) ∈ scope.names → (cellsFrom (C + 1) scope.names []).lookup y = none := fun y hy => by
    cases q : (cellsFrom (C + 1) scope.names []).lookup y with
    | none => rfl
    | some c =>
      rcases cellsFrom_own _ _ _ (PySem.mem_of_lookup q) with ⟨_, b⟩ | z
      · have e1 := S.once _ hy
        have e2 := S.once _ b
        rw [e1] at e2
        cases e2
      · cases z
  have hfr : ∀ y c, (y, NameKind.free) ∈ scope.names → X.env.cells.lookup y = some c → (blockCells X scope C).lookup y = some c := fun y c hy hc => by
    unfold blockCells
    rw [cellsFrom_app, lookup_app, nocell y hy]
    exact clOf_has X.env hc _ _ hy
  have fsz : ∀ b ∈ fp, b ≠ C := fun b hb z => by have := ltN (fpo b hb); have := neN z; omega
  refine ⟨⟨I.mod, S.kind, I.ok.glob, I.ok.blt, (by show s.heap.objs.size ≤ C; omega), fun y z c h1 h2 => ?_, fun y hy => ?_, fun y c hf h => ?_, I.ok.hd, I.ok.frames, .inl rfl, fun b hb => ⟨fsz b hb, fun y c e z => ?_⟩, fun b o e => I.bs b o e, Nat.le_trans I.ok.bsz I.sz, fun b o e hb => ?_, fun b hb z => ?_, I.stack, I.stkFree⟩,
    rfl, I.bare, Un.kept keep, ⟨_, (by rw [← hCe]; exact (Heap.Ns.new (newAcc s.heap) (.type "dict")).keeps (pushCells_keeps _ _)), fun i y v h1 h2 h3 => ?_⟩, fun y c h => ?_, I.hok.fresh (by show s.heap.objs.size ≤ C; omega), fun y c h => ?_, fun p hp => absurd (show p ∈ ([] : List (Addr × Obj)) from hp) (by simp), I.hok.kept keep, ?_⟩
  · rcases hcs y c h1 with ⟨a1, a2, _⟩ | a <;> rcases hcs z c h2 with ⟨b1, b2, _⟩ | b
    · exact name_of_addr ok.apart a1 b1
    · have := ltN (clX z c b); have := leN a2; omega
    · have := ltN (clX y c a); have := leN b2; omega
    · exact I.ok.inj y z c a b
  · have hy' : (relabel scope X.env).names.lookup y = some .cell ∨ (relabel scope X.env).names.lookup y = some .free := hy
    rw [relabel_look] at hy'
    show ∃ c, (blockCells X scope C).lookup y = some c
    unfold blockCells
    rw [cellsFrom_app, lookup_app]
    cases q : (cellsFrom (C + 1) scope.names []).lookup y with
    | some c => exact ⟨c, rfl⟩
    | none =>
      cases e : scope.names.lookup y with
      | none => rw [e] at hy'; simp at hy'
      | some k =>
        cases k with
        | cell =>
          have := PySem.W.cellsFrom_some scope.names (C + 1) [] (.inl e)
          rw [q] at this
          cases this
        | free =>
          have hm := PySem.mem_of_lookup e
          obtain ⟨c, hc⟩ := S.cl I.ok _ hm rfl
          exact ⟨c, clOf_has X.env hc _ _ hm⟩
        | _ => rw [e] at hy'; simp at hy'
  · have hf' : (scope.names.lookup y == some NameKind.cell) = true := hf
    rcases hcs y c h with ⟨_, a, _⟩ | a
    · show s.heap.objs.size ≤ c; omega
    · exfalso
      have e1 : scope.names.lookup y = some .cell := by simpa using hf'
      have hm := PySem.mem_of_lookup e1
      have h' : (blockCells X scope C).lookup y = some c := h
      unfold blockCells at h'
      rw [cellsFrom_app, lookup_app] at h'
      have hs := PySem.W.cellsFrom_some scope.names (C + 1) [] (.inl e1)
      cases q : (cellsFrom (C + 1) scope.names []).lookup y with
      | none => rw [q] at hs; cases hs
      | some c' =>
        rw [q] at h'
        cases h'
        rcases cellsFrom_own _ _ _ (PySem.mem_of_lookup q) with ⟨z, _⟩ | z
        · have := ltN (clX y c a); have := leN z; omega
        · cases z
  · rcases hcs y c e with ⟨_, a, _⟩ | a
    · have := ltN (fpo b hb); have := leN a; have := neN z; omega
    · exact (fpk b hb).2.2.2.2.1 y c a z
  · rcases (fpk b hb).2.2.2.1 with z | z
    · exact I.ok.noex b o e z
    · exact absurd (Nat.lt_of_lt_of_le (Heap.lt_size e) (Nat.le_trans I.ok.bsz z)) (Nat.lt_irrefl _)
  · rcases List.mem_cons.mp (I.stkSub b z) with q | q
    · exact (fpk b hb).2.1 q
    · exact (fpk b hb).2.2.1 q
  · cases i with
    | zero =>
      have h2' : some (none : Option V) = some (some v) := h2
      cases h2'
    | succ i =>
      have h1' : M[i]? = some y := h1
      have h2' : σ[i]? = some (some v) := h2
      have h3' : Vis (relabel scope X.env) y := h3
      obtain ⟨fr, kd⟩ := S.outer (List.mem_of_getElem? h1') h3'
      rw [S.mask] at h1'
      rcases maskN_get h1' with q | q
      · exact absurd q (S.dot _ fr)
      · have kX := S.free _ fr rfl
        have vX : Vis X.env.scope y := .inr kX
        obtain ⟨m, _, hl⟩ := I.loc
        obtain ⟨u, r, l⟩ := hl i y v q h2' vX
        refine ⟨u, r, ?_⟩
        rcases l with ⟨k, _⟩ | ⟨_, c, e, z⟩
        · rcases kX with w | w
          · rw [k] at w; cases w
          · rw [k] at w; cases w
        · exact .inr ⟨kd, c, hfr y c fr e, z.keeps keep⟩
  · rcases hcs y c h with ⟨a1, _, _⟩ | a
    · exact ⟨none, (ok.empty y c a1).1⟩
    · obtain ⟨v, z⟩ := I.cell y c a
      exact ⟨v, z.keeps keep⟩
  · rcases hcs y c h with ⟨_, a, _⟩ | a
    · exact I.hok.fresh (by show s.heap.objs.size ≤ c; omega)
    · exact I.freeC y c a
  · show σ.length + 1 = M.length + 1
    rw [S.mask]
    unfold maskN
    rw [List.length_map, I.len]

/-- behind the block: the list is tracked -/
theorem inv_exit {C : Addr} {cs : List (Str × Addr)} {pins2 : List (Addr × Obj)} {σ2 : St} {H2 : Hp} {s2 : Shared} {ys : List V} {its : List Value} {k : Nat} (I : Inv X pins σ H s) (fpk : ∀ b ∈ fp, FpOk X pins H b)
    (J : Inv (cxComp X x M scope C cs s H fp) pins2 σ2 H2 s2) (hn : H2 s.heap.objs.size = none) (ho : s2.heap.get? s.heap.objs.size = some { cls := .type "list", data := .seq its.toArray k }) (r : Vals ys its) (hz : ys.length ≤ sizeLine) :
    Inv X pins σ (upd H2 s.heap.objs.size (.lst ys)) s2 := by
  have u : Un (frs X.stack) fp H H2 s.heap s2.heap := J.base
  have ne : ∀ b o, H2 b = some o → b ≠ s.heap.objs.size := fun b o e => ne_of_none e hn
  refine I.call' (ch := fp) J.os ⟨u.keep, u.slot, fun b o e n hx => ?_, u.there, fun b xs e => ?_, fun b o xs e => ?_, fun b ps e => ?_⟩ (fun b o e => ?_) J.bare fun b hb => ?_
  · rw [upd_ne (Nat.ne_of_lt (Heap.lt_size e))]
    exact u.free b o e n hx
  · have q := u.tups b xs e
    rw [upd_ne (ne _ _ q)]
    exact q
  · have q := u.frzs b o xs e
    rw [upd_ne (ne _ _ q)]
    exact q
  · obtain ⟨more, q⟩ := u.tbls b ps e
    exact ⟨more, by rw [upd_ne (ne _ _ q)]; exact q⟩
  · by_cases hb : b = s.heap.objs.size
    · subst hb
      rw [upd_same] at e
      cases e
      exact ⟨hz, its, k, r, ho⟩
    · rw [upd_ne hb] at e
      exact (J.hok b o e).stay (fun _ _ _ q => q) (fun c q => by rw [upd_ne (ne _ _ q)]; exact q) fun c xs q => by rw [upd_ne (ne _ _ q)]; exact q
  · obtain ⟨_, a, _, b1, b2, b3⟩ := fpk b hb
    exact ⟨b1, a, b2, b3⟩

theorem comp_run {px pos : Pos} {elt iter : Expr} {ifs : List Expr} {tc : TT} {te : TE} {it : Addr} {tn : Nat → Heap → Prop} {J : It} {Q : VK} {RR : Value → Addr → Result → Shared → Prop} (hcalm : X.calm = true) (S : CompScope X x M scope)
    (hc : ∀ C cs s H fp, PTs (cxComp X x M scope C cs s H fp) ifs tc) (he : ∀ C cs s H fp, PE (cxComp X x M scope C cs s H fp) elt te)
    (I : Inv X pins σ H s) (T : Turn X.prog X.w X.K (.Name x px) J fp it tn) (t0 : tn 0 s.heap) (fpk : ∀ b ∈ fp, FpOk X pins H b)
    (hw : CompW J tc te σ H Q)
    (hRR : ∀ (acc C : Addr) (s' : Shared) (H' : Hp) (m : Str → Option Value), Inv X pins σ H' s' → s'.heap.Ns C m → FpOk X pins H' C → Q (.ref acc) H' → RR (.ref acc) C (.ok .next) s') :
    wpAny (model X.prog X.w) X.A (newList []) (fun acc s₃ => wpAny (model X.prog X.w) X.A (newFunctionEnv scope X.env.globals (clOf X.env scope.names []) [] X.env.qual none .none (some X.env)) (fun cenv s₄ =>
      codeAny (model X.prog X.w) X.A (.compStart (.ListComp elt [⟨.Name x px, iter, ifs, 0⟩] scope pos) 0 (.ref it) acc { cenv with scope := relabel scope X.env }) (RR acc cenv.locals) s₄) X.xe s₃) X.xe s := by
  have fpo : ∀ b ∈ fp, b < s.heap.objs.size := fun b hb => let ⟨_, e, _⟩ := T.obj _ _ t0 b hb; Heap.lt_size e
  refine wpAny_newObj_type (env_comp ?_)
  have IB := inv_block S I fpk fpo
  have hC := newAcc_size s.heap
  obtain ⟨W, ⟨m0, w0⟩, turn⟩ := hw
  show codeAny _ _ (.compStart _ 0 (.ref it) (.ref s.heap.objs.size) (compEnvC scope (blockCells X scope (newAcc s.heap).objs.size) (newAcc s.heap).objs.size X.env)) (RR (.ref s.heap.objs.size) (newAcc s.heap).objs.size) { s with heap := blockHeap s.heap scope }
  generalize hCe : (newAcc s.heap).objs.size = C at hC IB ⊢
  have old : ∀ b o, s.heap.get? b = some o → (blockHeap s.heap scope).get? b = some o := fun b o e => blockHeap_keep e
  have t1 : tn 0 (blockHeap s.heap scope) := T.keep _ _ _ t0 fun b _ o e => old b o e
  have oacc : (blockHeap s.heap scope).get? s.heap.objs.size = some { cls := .type "list", data := .seq ([] : List Value).toArray 0 } :=
    pushCells_keeps _ _ _ _ (Heap.get?_push_of_some _ (Heap.get?_push_size _ rfl))
  have accC : s.heap.objs.size ≠ C := by omega
  have accF : s.heap.objs.size ∉ frs X.stack := fun z => by
    rcases List.mem_cons.mp (I.stkSub _ z) with q | q
    · exact absurd I.lt (by rw [← q]; exact Nat.lt_irrefl _)
    · exact I.nofs (Nat.le_refl _) q
  have stat : ∀ {H' : Hp} {o : Obj}, (∀ b ∈ fp, H' b = none) → ∀ b ∈ fp, FpOk (cxComp X x M scope C (blockCells X scope C) s H fp) [(s.heap.objs.size, o)] H' b := fun {H' o} hn b hb =>
    ⟨hn b hb, (IB.ok.exf b hb).1, IB.ok.exfs b hb, .inl hb, (IB.ok.exf b hb).2, fun p hp z => by
      have e : p = (s.heap.objs.size, o) := by simpa using (show p ∈ ([] : List (Addr × Obj)) ++ [(s.heap.objs.size, o)] from hp)
      have := ltN (fpo b hb)
      rw [e] at z
      have z' := neN (show s.heap.objs.size = b from z)
      omega⟩
  obtain ⟨hloc, hfn⟩ := S.loc
  have loop : codeAny (model X.prog X.w) X.A (.compLoop (.ListComp elt [⟨.Name x px, iter, ifs, 0⟩] scope pos) 0 (.ref it) (.ref s.heap.objs.size) (compEnvC scope (blockCells X scope C) C X.env)) (RR (.ref s.heap.objs.size) C) { s with heap := blockHeap s.heap scope } := by
    refine codeAny_compLoop_tests (fun n s' => ∃ i ys its k H', Inv (cxComp X x M scope C (blockCells X scope C) s H fp) [] (none :: σ) H' s' ∧ tn i s'.heap ∧ (∀ b ∈ fp, H' b = none) ∧ H' s.heap.objs.size = none ∧
      s'.heap.get? s.heap.objs.size = some { cls := .type "list", data := .seq its.toArray k } ∧ Vals ys its ∧ W i n ys H') ?_ m0 ⟨0, [], [], 0, H, IB, t1, fun b hb => (fpk b hb).1, I.hok.fresh (Nat.le_refl _), oacc, .nil, w0⟩
    rintro n s1 ⟨i, ys, its, k, H1, I1, u1, f1, a1, o1, r1, w1⟩
    obtain ⟨hlen, hcase⟩ := turn i n ys H1 w1
    have J1 : Inv (cxComp X x M scope C (blockCells X scope C) s H fp) [(s.heap.objs.size, { cls := .type "list", data := .seq its.toArray k })] (none :: σ) H1 s1 := I1.pins_of fun p hp => by
      have e : p = (s.heap.objs.size, { cls := .type "list", data := .seq its.toArray k }) := by simpa using hp
      subst e
      exact ⟨o1, a1, accC, accF, fun v z => by cases z⟩
    rcases hcase with ⟨stop, q⟩ | ⟨go, step⟩
    · refine thn (T.done (cxComp X x M scope C (blockCells X scope C) s H fp) rfl rfl rfl hcalm i _ s1 _ H1 _ J1 (stat f1) u1 stop) fun r s2 ⟨hr, I2⟩ => ?_
      subst hr
      obtain ⟨m, hns, _⟩ := I2.loc
      have p2 := I2.pin _ (List.mem_append_right _ List.mem_cons_self)
      refine hRR s.heap.objs.size C s2 _ m (inv_exit I fpk I2 a1 p2.1 r1 (Nat.le_of_lt hlen)) hns (I.fpOk (by omega) ?_) (q _ a1)
      rw [upd_ne (Ne.symm accC)]
      exact I2.free
    · refine thn (T.item (cxComp X x M scope C (blockCells X scope C) s H fp) rfl rfl rfl hcalm i _ s1 _ H1 _ J1 (stat f1) u1 go) fun r s2 ⟨u, hr, h2⟩ => ?_
      subst hr
      show wpAny _ _ (letOwnedTupleGo (.Name x px) (.ref it) u >>= fun _ => assign (.Name x px) (compEnvC scope (blockCells X scope C) C X.env) u) _ _ _
      refine wpAny_bind (thn h2 fun _ s3 ⟨v, H3, I3, r3, y3, u3, f3⟩ => ?_)
      have I3' := I3.pinned (stat f3) (T.obj _ _ u3)
      refine wpAny_assign_Name (store_ok I3' S.nd (i := 0) rfl hloc r3 (fun s4 I4 => ?_) hfn)
      refine wpAny_mono (hc _ _ _ _ _ _ s4 _ _ _ I4 (step v H3 y3)) (fun okv s5 ⟨H5, I5, q5⟩ => ?_) fun _ _ z => z.elim
      have back : ∀ {s' : Shared} {H' : Hp}, Inv (cxComp X x M scope C (blockCells X scope C) s H fp) ([(s.heap.objs.size, { cls := .type "list", data := .seq its.toArray k })] ++ pinsAt fp s3.heap) (some v :: σ) H' s' →
          Inv (cxComp X x M scope C (blockCells X scope C) s H fp) [] (none :: σ) H' s' ∧ tn (i + 1) s'.heap ∧ (∀ b ∈ fp, H' b = none) ∧ H' s.heap.objs.size = none ∧ s'.heap.get? s.heap.objs.size = some { cls := .type "list", data := .seq its.toArray k } := fun {s' H'} K => by
        have pk : ∀ b ∈ fp, ∀ o, s3.heap.get? b = some o → s'.heap.get? b = some o ∧ H' b = none := fun b hb o e =>
          let z := K.pin (b, o) (List.mem_append_right _ (List.mem_append_right _ (mem_pinsAt hb e)))
          ⟨z.1, z.2.1⟩
        have pa := K.pin _ (List.mem_append_right _ (List.mem_append_left _ List.mem_cons_self))
        refine ⟨(K.pins_of (pins' := []) fun p hp => by cases hp).weak rfl fun j v' e => ?_, T.keep _ _ _ u3 fun b hb o e => (pk b hb o e).1, fun b hb => ?_, pa.2.1, pa.1⟩
        · cases j with
          | zero => cases e
          | succ j => exact e
        · obtain ⟨o, e, _⟩ := T.obj _ _ u3 b hb
          exact (pk b hb o e).2
      cases okv with
      | false =>
        rw [if_neg Bool.false_ne_true] at q5 ⊢
        obtain ⟨m', lt, w5⟩ := q5
        obtain ⟨K1, K2, K3, K4, K5⟩ := back I5
        exact ⟨m', lt, i + 1, ys, its, k, H5, K1, K2, K3, K4, K5, r1, w5⟩
      | true =>
        rw [if_pos rfl] at q5 ⊢
        refine wpAny_mono (he _ _ _ _ _ _ s5 _ _ _ I5 q5) (fun yv s6 ⟨y, H6, I6, r6, m', lt, w6⟩ => ?_) fun _ _ z => z.elim
        obtain ⟨K1, K2, K3, K4, K5⟩ := back I6
        refine wpAny_list_append_plain (l := s.heap.objs.size) (items := its.toArray) ⟨k, K5⟩ (fun h' hl' hsb => ?_) (by rw [List.size_toArray, ← r1.length]; omega)
        obtain ⟨k', o'⟩ := hl'
        refine ⟨m', lt, i + 1, ys ++ [y], its ++ [yv], k', H6, ?_, T.keep _ _ _ K2 fun b hb o e => hsb.extBut b o (fun z => ?_) e, K3, K4, ?_, r1.append (.cons r6 .nil), w6⟩
        · refine K1.turned (t' := s6.toks) (it := s.heap.objs.size) (fun b o hb e => hsb.extBut b o hb e) K4 accC (.inr (Nat.le_refl _)) (fun y c e z => ?_) fun p hp => by cases hp
          obtain ⟨vv, ov, eov, dov⟩ := K1.cell y c e
          rw [z, K5] at eov
          cases eov
          cases dov
        · have := ltN (fpo b hb); have := neN z; omega
        · rw [o', List.push_toArray]
  exact codeAny_compStart_list loop (T.self X.A 0 _ _ _ t1 loop)

theorem pe_comp {px pos : Pos} {elt iter : Expr} {ifs : List Expr} {wi : TI} {tc : TT} {te : TE} (hcalm : X.calm = true) (S : CompScope X x M scope) (hi : PI X (.Name x px) iter wi)
    (hc : ∀ C cs s H fp, PTs (cxComp X x M scope C cs s H fp) ifs tc) (he : ∀ C cs s H fp, PE (cxComp X x M scope C cs s H fp) elt te) (hs : ∀ v, foldedSetIterable iter X.env v = pure v := by intro _; rfl) :
    PE X (.ListComp elt [⟨.Name x px, iter, ifs, 0⟩] scope pos) (tComp wi tc te) := by
  intro pins s σ H Q I h
  rw [eval_ListComp]
  refine wpAny_comprehension_free (cl := clOf X.env scope.names []) rfl hs (closure_cl (S.cl I.ok)) S.kind (fun y hy e => by rw [S.once y hy, e]) ?_
  refine thn (hi pins s σ H _ I h) fun v s1 h1 => thn h1 fun itv s2 h2 => ?_
  obtain ⟨it, fp, tn, J, H2, e, I2, T, t2, f2, hw⟩ := h2
  subst e
  refine comp_run (RR := fun acc C => compPost (model X.prog X.w) X.A X.xe none (EP X pins σ Q) acc C) hcalm S hc he I2 T t2 f2 hw fun acc C s' H' m I' hns fC q => ?_
  refine ⟨m, hns, fun h' hsb => ⟨.ref acc, H', ?_, rfl, q⟩⟩
  exact I'.turned (t' := s'.toks) (it := C) (fun b o hb e => hsb.extBut b o hb e) fC.1 fC.2.1 fC.2.2.2.1 fC.2.2.2.2.1 fC.2.2.2.2.2

end
end L2

set_option Elab.async false
set_option linter.all false
set_option maxRecDepth 100000
namespace L2
open PySem PySem.Spec PyProof.Rows

/-! ### a new tracked object, however the state came -/
theorem ObjOk.there {P : Program} {w : World} {H : Hp} {h : Heap} {a : Addr} {o : HO} (x : ObjOk P w H h a o) : ∃ ob, h.get? a = some ob := by
  cases o with
  | lst xs => obtain ⟨_, _, _, _, e⟩ := x; exact ⟨_, e⟩
  | tup xs => obtain ⟨_, _, _, ob, e, _⟩ := x; exact ⟨_, e⟩
  | dK kvs => obtain ⟨_, _, _, _, o, _, _, e, _⟩ := x; exact ⟨_, e⟩
  | dT kvs => obtain ⟨_, _, _, _, o, _, _, e, _⟩ := x; exact ⟨_, e⟩
  | set S n => obtain ⟨o, _, _, _, e, _⟩ := x; exact ⟨_, e⟩
  | ins C dx fs => obtain ⟨_, _, _, e, _⟩ := x; exact ⟨_, e⟩
  | own y => obtain ⟨_, e⟩ := x; exact ⟨_, e⟩
  | xd fs => obtain ⟨_, ⟨_, _, _, e, _⟩, _⟩ := x; exact ⟨_, e⟩
  | rng lo hi => obtain ⟨_, _, _, e⟩ := x; exact ⟨_, e⟩
  | frz ob u => obtain ⟨e, _⟩ := x; exact ⟨_, e⟩
  | tbl ps => exact ⟨_, show h.get? a = some _ from x⟩
  | met f y => exact ⟨_, show h.get? a = some _ from x⟩
  | ext φ => obtain ⟨_, ⟨o, e⟩, _⟩ := x; exact ⟨o, e⟩
section
variable {X : Cx} {pins : List (Addr × Obj)} {σ : St} {H : Hp} {s s' : Shared}
theorem Inv.none_of (I : Inv X pins σ H s) {l : Addr} (hl : s.heap.get? l = none) : H l = none := by
  cases e : H l with
  | none => rfl
  | some o =>
    obtain ⟨ob, q⟩ := (I.hok l o e).there
    rw [hl] at q
    cases q
theorem Inv.newAt {l : Addr} {o : HO} (I : Inv X pins σ H s) (k : ∀ b u, s.heap.get? b = some u → s'.heap.get? b = some u) (hg : s'.gens = s.gens) (ho : s'.os = s.os) (hl : s.heap.get? l = none) (new : ObjOk X.prog X.w (upd H l o) s'.heap l o) :
    Inv X pins σ (upd H l o) s' := by
  have hn := I.none_of hl
  have ne : ∀ b u, s.heap.get? b = some u → b ≠ l := fun b u e z => by rw [z, hl] at e; cases e
  have neH : ∀ b u, H b = some u → b ≠ l := fun b u e => ne_of_none e hn
  refine I.call' (ch := []) ho ⟨fun b u e _ _ _ => k b u e, fun b u e _ _ _ => ⟨u.slots, k b u e⟩, fun b u e n _ => by rw [upd_ne (ne b u e)]; exact n, fun b u e _ => ⟨u, k b u e⟩, fun b xs e => by rw [upd_ne (neH _ _ e)]; exact e,
    fun b u xs e => by rw [upd_ne (neH _ _ e)]; exact e, fun b ps e => ⟨#[], by rw [upd_ne (neH _ _ e), e]; simp⟩⟩ (fun b u e => ?_) (by rw [hg]; exact I.bare) fun b hb => by cases hb
  by_cases hb : b = l
  · subst hb
    rw [upd_same] at e
    cases e
    exact new
  · rw [upd_ne hb] at e
    exact (I.hok b u e).stay (fun c v _ q => k c v q) (fun c q => by rw [upd_ne (neH _ _ q)]; exact q) fun c xs q => by rw [upd_ne (neH _ _ q)]; exact q
end

/-! ### set(xs), sorted(set) -/
section
variable {X : Cx}
/-! ### max of a list of ints -/
/-! ### == and != of lists and of tuples, their items flat -/
def eqVs : List V → List V → Bool
  | [], [] => true
  | x :: xs, y :: ys => eqV x y && eqVs xs ys
  | _, _ => false
theorem all_shift (e : Nat → Bool) (n : Nat) : (List.range (n + 1)).all e = (e 0 && (List.range n).all fun j => e (j + 1)) := by
  rw [List.range_succ_eq_map, List.all_cons, List.all_map]
  rfl
theorem eqVs_range : ∀ {xs ys : List V}, xs.length = ys.length → (List.range xs.length).all (fun j => eqV (xs.getD j .non) (ys.getD j .non)) = eqVs xs ys
  | [], [], _ => rfl
  | [], _ :: _, h => by cases h
  | _ :: _, [], h => by cases h
  | x :: xs, y :: ys, h => by
    rw [List.length_cons, all_shift]
    have ih := eqVs_range (xs := xs) (ys := ys) (by simpa using h)
    show (eqV x y && (List.range xs.length).all fun j => eqV (xs.getD j .non) (ys.getD j .non)) = (eqV x y && eqVs xs ys)
    rw [ih]
theorem eqVs_len : ∀ {xs ys : List V}, xs.length ≠ ys.length → eqVs xs ys = false
  | [], [], h => absurd rfl h
  | [], _ :: _, _ => rfl
  | _ :: _, [], _ => rfl
  | x :: xs, y :: ys, h => by
    show (eqV x y && eqVs xs ys) = false
    rw [eqVs_len (fun z => h (by rw [List.length_cons, List.length_cons, z])), Bool.and_false]
/-- ints and None: == is being the same -/
def plainV : V → Bool
  | .int _ => true
  | .non => true
  | _ => false
theorem eqV_plain : ∀ {x y : V}, plainV x = true → plainV y = true → eqV x y = decide (x = y)
  | .int a, .int b, _, _ => by
    show (a == b) = _
    rw [← dec_int]
  | .int _, .non, _, _ => rfl
  | .non, .int _, _, _ => rfl
  | .non, .non, _, _ => rfl
theorem eqVs_plain : ∀ {xs ys : List V}, xs.all plainV = true → ys.all plainV = true → eqVs xs ys = decide (xs = ys)
  | [], [], _, _ => rfl
  | [], _ :: _, _, _ => rfl
  | _ :: _, [], _, _ => rfl
  | x :: xs, y :: ys, h, h' => by
    rw [List.all_cons, Bool.and_eq_true] at h h'
    show (eqV x y && eqVs xs ys) = _
    rw [eqV_plain h.1 h'.1, eqVs_plain h.2 h'.2]
    by_cases e : x = y <;> by_cases e' : xs = ys <;> simp [e, e']
theorem plain_ints (ns : List Int) : (ns.map V.int).all plainV = true := by
  induction ns with
  | nil => rfl
  | cons n r ih => rw [List.map_cons, List.all_cons, ih]; rfl
theorem flat_plain {xs : List V} (h : xs.all plainV = true) : xs.all flatV = true := by
  rw [List.all_eq_true] at h ⊢
  intro x hx
  have := h x hx
  cases x <;> first | rfl | cases this
theorem items_eqAt {A : Around} {s : Shared} {xs ys : List V} {us ws : List Value} (r : Vals xs us) (r' : Vals ys ws) (hx : xs.all flatV = true) (hy : ys.all flatV = true) (j : Nat) (h1 : j < us.toArray.size) (h2 : j < ws.toArray.size) :
    SeqAt.EqAt A s us.toArray[j] ws.toArray[j] (eqV (xs.getD j .non) (ys.getD j .non)) := by
  have l1 := r.length
  have l2 := r'.length
  have k1 : j < xs.length := by rw [List.size_toArray] at h1; omega
  have k2 : j < ys.length := by rw [List.size_toArray] at h2; omega
  obtain ⟨u, e1, q1⟩ := r.get (List.getElem?_eq_getElem k1)
  obtain ⟨v, e2, q2⟩ := r'.get (List.getElem?_eq_getElem k2)
  have g1 : xs.getD j .non = xs[j] := by simp [List.getD_eq_getElem?_getD, k1]
  have g2 : ys.getD j .non = ys[j] := by simp [List.getD_eq_getElem?_getD, k2]
  rw [g1, g2]
  have a1 : us.toArray[j] = u := by
    have := List.getElem?_eq_some_iff.mp e1
    obtain ⟨_, z⟩ := this
    simpa using z
  have a2 : ws.toArray[j] = v := by
    have := List.getElem?_eq_some_iff.mp e2
    obtain ⟨_, z⟩ := this
    simpa using z
  rw [a1, a2]
  exact eqAt_V q1 q2 (List.all_eq_true.mp hx _ (List.getElem_mem k1)) (List.all_eq_true.mp hy _ (List.getElem_mem k2))
/-- a list and a list -/
def rEqL (K : PySem.W.Frag) (neg : Bool) : R2 := fun x y H Q => ∃ a b xs ys, x = .ref a ∧ y = .ref b ∧ SqL K H a xs ∧ SqL K H b ys ∧ xs.all flatV = true ∧ ys.all flatV = true ∧ Q (.bl (if neg then !eqVs xs ys else eqVs xs ys)) H
theorem op_eqL (hu : X.A.units < cLine) : OpR X (compareOp .Eq) (rEqL X.K false) := by
  intro pins s σ H x y v u Q I rx ry h
  obtain ⟨a, b, xs, ys, rfl, rfl, ha, hb, fx, fy, q⟩ := h
  cases rx
  cases ry
  obtain ⟨us, r1, p1, _⟩ := I.list ha
  obtain ⟨ws, r2, p2, _⟩ := I.list hb
  have l1 := r1.length
  have l2 := r2.length
  by_cases hl : xs.length = ys.length
  · refine SeqAt.eq_listAt p1.isList p2.isList (by rw [List.size_toArray, List.size_toArray]; omega) hu (items_eqAt r1 r2 fx fy) ⟨.bl _, H, I, ?_, q⟩
    rw [List.size_toArray, ← l1, eqVs_range hl]
    rfl
  · refine SeqAt.eq_list_lengthsAt p1.isList p2.isList (by simp only [List.size_toArray, bne_iff_ne]; omega) hu ⟨.bl _, H, I, ?_, q⟩
    rw [eqVs_len hl]
    rfl
theorem op_neL (hu : X.A.units < cLine) : OpR X (compareOp .NotEq) (rEqL X.K true) := by
  intro pins s σ H x y v u Q I rx ry h
  obtain ⟨a, b, xs, ys, rfl, rfl, ha, hb, fx, fy, q⟩ := h
  cases rx
  cases ry
  obtain ⟨us, r1, p1, _⟩ := I.list ha
  obtain ⟨ws, r2, p2, _⟩ := I.list hb
  have l1 := r1.length
  have l2 := r2.length
  by_cases hl : xs.length = ys.length
  · refine SeqAt.RcNeAt.lists p1.isList p2.isList (by rw [List.size_toArray, List.size_toArray]; omega) hu (items_eqAt r1 r2 fx fy) _ _ _ _ ⟨.bl _, H, I, ?_, q⟩
    rw [List.size_toArray, ← l1, eqVs_range hl]
    rfl
  · refine SeqAt.RcNeAt.lists_lengths p1.isList p2.isList (by simp only [List.size_toArray, bne_iff_ne]; omega) hu _ _ _ _ ⟨.bl _, H, I, ?_, q⟩
    rw [eqVs_len hl]
    rfl
/-! ### isinstance(x, T), T a built-in type -/
theorem call_isinst : CallR X (.builtin "isinstance") (fun xs H Q => ∃ x T t b, xs = [x, .ty T] ∧ TyOf X.K H x t ∧ PySem.W.kitOne X.K t (.type T) = some b ∧ Q (.bl b) H) := by
  intro pins s σ H xs us Q I rv h
  obtain ⟨x, T, t, b, rfl, ty, e, q⟩ := h
  obtain ⟨u, v, rfl, r1, r2⟩ := vals2 rv
  cases r2
  exact isinst_ok I r1 ty e fun tk => ⟨.bl b, H, I.tok _, rfl, q⟩

/-! ### range(a, b, c), c positive -/
end

/-! ### the forms one uses: a loop by steps; comprehensions -/
/-- any iterator whose items are known: the items that pass the test, mapped -/
abbrev CompT (xs : List V) (Pv : Nat → Hp → Prop) (p : V → Bool) (f : V → V) (tc : TT) (te : TE) (σ : St) : Prop :=
  ∀ i x H (R : V → Hp → Prop) (R' : Hp → Prop), xs[i]? = some x → Pv i H → (∀ H3, p x = true → Pv (i + 1) H3 → R (f x) H3) → (∀ H2, p x = false → Pv (i + 1) H2 → R' H2) →
    tc (some x :: σ) H fun c H2 => if c = true then te (some x :: σ) H2 R else R' H2
theorem comp_any {J : It} {xs : List V} {tc : TT} {te : TE} {σ : St} {H : Hp} {Q : VK} (Pv : Nat → Hp → Prop) (p : V → Bool) (f : V → V) (hz : xs.length < sizeLine) (h0 : Pv 0 H)
    (hst : ∀ H, Pv xs.length H → J.stop xs.length H) (hgo : ∀ i H, i < xs.length → Pv i H → J.go i H) (hy : ∀ i H x H', i < xs.length → Pv i H → J.yld i H x H' → H' = H ∧ xs[i]? = some x)
    (hs : CompT xs Pv p f tc te σ) (hd : ∀ H l, Pv xs.length H → H l = none → Q (.ref l) (upd H l (.lst ((xs.filter p).map f)))) : CompW J tc te σ H Q := by
  refine ⟨fun i m ys H => m = xs.length - i ∧ i ≤ xs.length ∧ Pv i H ∧ ys = ((xs.take i).filter p).map f, ⟨xs.length, by simp, Nat.zero_le _, h0, rfl⟩, ?_⟩
  rintro i m ys H1 ⟨rfl, hi, pv, rfl⟩
  have hlen : (((xs.take i).filter p).map f).length < sizeLine := by
    rw [List.length_map]
    have h1 := List.length_filter_le p (xs.take i)
    rw [List.length_take] at h1
    omega
  refine ⟨hlen, ?_⟩
  by_cases hlt : i < xs.length
  · refine .inr ⟨hgo i H1 hlt pv, fun v H' y => ?_⟩
    obtain ⟨e, hx⟩ := hy i H1 v H' hlt pv y
    subst e
    have tk : xs.take (i + 1) = xs.take i ++ [v] := by rw [List.take_add_one, hx]; rfl
    refine hs i v _ _ _ hx pv (fun H3 hp q => ?_) fun H2 hp q => ?_
    · exact ⟨xs.length - (i + 1), by omega, rfl, hlt, q, by rw [tk, List.filter_append, List.map_append]; simp [hp]⟩
    · exact ⟨xs.length - (i + 1), by omega, rfl, hlt, q, by rw [tk, List.filter_append]; simp [hp]⟩
  · have e : i = xs.length := by omega
    subst e
    refine .inl ⟨hst H1 pv, fun l hl => ?_⟩
    rw [List.take_length]
    exact hd H1 l pv hl
section
variable {K : PySem.W.Frag} {a : Addr} {xs : List V} {tc : TT} {te : TE} {σ : St} {H : Hp} {Q : VK}
theorem comp_list (Pv : Nat → Hp → Prop) (p : V → Bool) (f : V → V) (hz : xs.length < sizeLine) (h0 : Pv 0 H) (hl : ∀ i H, Pv i H → SqL K H a xs) (hs : CompT xs Pv p f tc te σ)
    (hd : ∀ H l, Pv xs.length H → H l = none → Q (.ref l) (upd H l (.lst ((xs.filter p).map f)))) : CompW (Itl K a) tc te σ H Q :=
  comp_any Pv p f hz h0 (fun H pv => ⟨xs, hl _ H pv, Nat.le_refl _⟩) (fun i H hi pv => ⟨xs, xs[i], hl _ H pv, by simp [hi]⟩) (fun i H x H' hi pv y => ⟨y.1, y.2 xs (hl _ H pv)⟩) hs hd
theorem comp_tup (Pv : Nat → Hp → Prop) (p : V → Bool) (f : V → V) (hz : xs.length < sizeLine) (h0 : Pv 0 H) (hl : ∀ i H, Pv i H → SqT K H a xs) (hs : CompT xs Pv p f tc te σ)
    (hd : ∀ H l, Pv xs.length H → H l = none → Q (.ref l) (upd H l (.lst ((xs.filter p).map f)))) : CompW (Itt K a) tc te σ H Q :=
  comp_any Pv p f hz h0 (fun H pv => ⟨xs, hl _ H pv, Nat.le_refl _⟩) (fun i H hi pv => ⟨xs, xs[i], hl _ H pv, by simp [hi]⟩) (fun i H x H' hi pv y => ⟨y.1, y.2 xs (hl _ H pv)⟩) hs hd
end
/-- lo, lo + 1, .. -/
def rngV (lo : Int) (n : Nat) : List V := (List.range n).map fun (i : Nat) => V.int (lo + i)
theorem rngV_len (lo : Int) (n : Nat) : (rngV lo n).length = n := by unfold rngV; simp
section
variable {tc : TT} {te : TE} {σ : St} {H : Hp} {Q : VK}
theorem comp_range {lo : Int} {n : Nat} (Pv : Nat → Hp → Prop) (p : V → Bool) (f : V → V) (hz : n < sizeLine) (h0 : Pv 0 H) (hs : CompT (rngV lo n) Pv p f tc te σ)
    (hd : ∀ H l, Pv n H → H l = none → Q (.ref l) (upd H l (.lst (((rngV lo n).filter p).map f)))) : CompW (Itr lo n) tc te σ H Q := by
  have hn := rngV_len lo n
  refine comp_any (xs := rngV lo n) Pv p f (by rw [hn]; exact hz) h0 (fun H pv => ?_) (fun i H hi pv => ?_) (fun i H x H' hi pv y => ⟨y.1, ?_⟩) hs (by rw [hn]; exact hd)
  · show n ≤ _
    rw [hn]; exact Nat.le_refl _
  · show i < n
    omega
  · rw [y.2]
    unfold rngV
    rw [hn] at hi
    simp [hi]
end
end L2

set_option Elab.async false
set_option linter.all false
set_option maxRecDepth 100000
namespace L2
open PySem PySem.Spec PyProof.Rows

/-! ### a def of the text, ready to be called -/
theorem gl_of {X : Cx} {x : Str} (h : X.env.kindOf x = some .globalImplicit) : Gl X x := h
structure Fn (P : Program) (w : World) (K : PySem.W.Frag) (mg : Str → Option Value) (base : Heap) (x : Str) (ps : List Str) (k : Nat) (sp : Sp) : Prop where
  ex : ∃ f fd, FnOk P w K mg base CX0 k f fd ps sp ∧ mg x = some (.ref f) ∧ PySem.W.keepIn K (.ref f) = true ∧ Binds K fd ps []
section
variable {X : Cx} {x : Str} {ps : List Str} {k : Nat} {sp : Sp} {p pos : Pos} {e : Expr} {es : List Expr} {t : TA}
theorem pe_fn (F : Fn X.prog X.w X.K X.mg X.base x ps k sp) (hr : Room k X.A) (ha : PA X (e :: es) t) (hg : Gl X x := by exact gl_of (by kernel_rfl)) (hdb : (x == ("__debug__" : Str)) = false := by decide)
    (he : starEach (e :: es) X.env = (false, eval e X.env) :: starEach es X.env := by rfl) (hpl : (backTo pos (starEach es X.env)).any (·.1) = false := by rfl) : PE X (.Call (.Name x p) (e :: es) [] pos) (tCall sp [] E0 t) := by
  obtain ⟨f, fd, h1, h2, h3, h4⟩ := F.ex
  exact pe_call h1 hr hg h2 h3 h4 .nil pass0 ha hdb he hpl
end
section
variable {X : Cx} {a b c : Expr} {ta : TE} {pos : Pos}
theorem un_notT : UnR X (unaryOp .Not) (fun x H Q => ∃ k, TruV X.K x H k ∧ Q (.bl (!k)) H) := by
  intro pins s σ H x v Q I rx h
  obtain ⟨k, e, q⟩ := h
  exact not_of (thn (tru_ok pins s σ H x v (fun c H' => Q (.bl (!c)) H') I rx ⟨k, e, q⟩) fun c s' ⟨H', I', q'⟩ => ⟨.bl (!c), H', I', rfl, q'⟩)
/-- a name of the module: a number -/
theorem pe_num {x : Str} {i : Int} {t : Tok} (hm : X.mg x = some (.int i t)) (hg : Gl X x := by exact gl_of (by kernel_rfl)) (hd : (x == ("__debug__" : Str)) = false := by decide) : PE X (.Name x pos) (tC (.int i)) := pe_glob hg hm ⟨t, rfl⟩ hd
/-- a built-in type as a value -/
theorem pe_ty {x : Str} {T : String} (hm : X.mg x = none) (hv : bootBuiltins x = some (.type T)) (hg : Gl X x := by exact gl_of (by kernel_rfl)) (hn : x ≠ "__name__" := by decide) (hd : (x == ("__debug__" : Str)) = false := by decide) : PE X (.Name x pos) (tC (.ty T)) := pe_bltn hg hm hv rfl hn hd
end

/-! ### a comprehension's names, by one look -/
def compChk (outer : List (Str × NameKind)) (N : List Str) (x : Str) (M : List Str) (sc : Scope) : Bool :=
  (sc.kind == .function) && sc.names.all (fun y => sc.names.lookup y.1 == some y.2 && y.1 != ".") && sc.names.all (fun y => y.2 != .free || (outer.lookup y.1 == some .cell || outer.lookup y.1 == some .free)) &&
    (sc.names.lookup x == some .local || sc.names.lookup x == some .cell) && (M == maskN x N) && decide ((x :: M).Nodup) && M.all (fun y => !(sc.names.lookup y == some .local || sc.names.lookup y == some .cell))
theorem CompScope.of {X : Cx} {x : Str} {M : List Str} {scope : Scope} (h : compChk X.env.scope.names X.N x M scope = true) : CompScope X x M scope := by
  unfold compChk at h
  simp only [Bool.and_eq_true, List.all_eq_true, Bool.or_eq_true, beq_iff_eq, bne_iff_ne, decide_eq_true_eq, Bool.not_eq_true', Bool.or_eq_false_iff, beq_eq_false_iff_ne] at h
  obtain ⟨⟨⟨⟨⟨⟨h1, h2⟩, h3⟩, h4⟩, h5⟩, h6⟩, h7⟩ := h
  exact ⟨h1, fun y hy => (h2 y hy).1, fun y hy => (h2 y hy).2, fun y hy e => (h3 y hy).elim (fun z => absurd e z) id, h4, h5, h6, fun y hy z => z.elim (h7 y hy).1 (h7 y hy).2⟩

/-! ### heaps that only grow -/
/-- what is new here was not there -/
theorem Same.put {H H1 : Hp} {p : Addr} {o : HO} (s : Same H H1) (h : H1 p = none) : Same H (upd H1 p o) := fun b u e => by
  have q := s b u e
  rw [upd_ne (ne_of_none q h)]
  exact q
theorem Same.tup {K : PySem.W.Frag} {H H' : Hp} {a : Addr} {xs : List V} (e : Same H H') (h : SqT K H a xs) : SqT K H' a xs := by
  rcases h with (h | ⟨o, h⟩) | h
  · exact .inl (.inl (e _ _ h))
  · exact .inl (.inr ⟨o, e _ _ h⟩)
  · exact .inr h

/-! ### a list or a tuple -/
def SqA (K : PySem.W.Frag) (H : Hp) (a : Addr) (xs : List V) : Prop := SqL K H a xs ∨ SqT K H a xs
theorem Same.any {K : PySem.W.Frag} {H H' : Hp} {a : Addr} {xs : List V} (e : Same H H') (h : SqA K H a xs) : SqA K H' a xs := h.elim (fun z => .inl (e.seq z)) fun z => .inr (e.tup z)
theorem SqA.lst {K : PySem.W.Frag} {H : Hp} {a : Addr} {xs : List V} (h : H a = some (.lst xs)) : SqA K H a xs := .inl (.of h)
theorem SqA.tpl {K : PySem.W.Frag} {H : Hp} {a : Addr} {xs : List V} (h : H a = some (.tup xs)) : SqA K H a xs := .inr (.of h)
section
variable {X : Cx} {tg : Expr}
def iSeq (K : PySem.W.Frag) (tl : TE) : TI := fun σ H R => tl σ H fun x H1 => ∃ a, x = .ref a ∧ (((∃ xs, SqL K H1 a xs) ∧ R (Itl K a) H1) ∨ ((∃ xs, SqT K H1 a xs) ∧ R (Itt K a) H1))
theorem pi_seq {l : Expr} {tl : TE} (hl : PE X l tl) : PI X tg l (iSeq X.K tl) := by
  intro pins s σ H R I h
  refine thn (hl pins s σ H _ I h) fun v s1 ⟨x, H1, I1, r1, q1⟩ => ?_
  obtain ⟨a, e, q⟩ := q1
  subst e
  cases r1
  rcases q with ⟨⟨xs, hq⟩, q⟩ | ⟨⟨xs, hq⟩, q⟩
  · obtain ⟨its, rv, p, hz⟩ := I1.list hq
    refine wpAny_pyIter_list p.isList ?_
    refine ⟨s1.heap.objs.size, [s1.heap.objs.size], _, _, H1, rfl, I1.kept (t' := s1.toks) fun b o e => Heap.get?_push_of_some _ e, turn_list a _, ⟨_, Heap.get?_push_size _ rfl, rfl, rfl⟩, fun b hb => ?_, q⟩
    rw [show b = s1.heap.objs.size by simpa using hb]
    exact I1.fpOk (Nat.le_refl _) (I1.hok.fresh (Nat.le_refl _))
  · obtain ⟨its, rv, p, hz⟩ := I1.tuple hq
    refine wpAny_pyIter_tuple (show s1.heap.IsTuple a its.toArray from p) ?_
    refine ⟨s1.heap.objs.size, [s1.heap.objs.size], _, _, H1, rfl, I1.kept (t' := s1.toks) fun b o e => Heap.get?_push_of_some _ e, turn_tuple a _, ⟨_, Heap.get?_push_size _ rfl, rfl, rfl⟩, fun b hb => ?_, q⟩
    rw [show b = s1.heap.objs.size by simpa using hb]
    exact I1.fpOk (Nat.le_refl _) (I1.hok.fresh (Nat.le_refl _))
def rIxA (K : PySem.W.Frag) : R2 := fun x y H Q => ∃ p xs i v, x = .ref p ∧ y = .int i ∧ SqA K H p xs ∧ atI xs i = some v ∧ Q v H
theorem ix_any : IxR X (rIxA X.K) := by
  intro value slice pins s σ H x y v u Q I rx ry q hs
  obtain ⟨p, xs, i, z, e1, e2, h | h, e3, q⟩ := q
  · exact ix_list value slice pins s σ H x y v u Q I rx ry ⟨p, xs, i, z, e1, e2, h, e3, q⟩ hs
  · exact ix_tup value slice pins s σ H x y v u Q I rx ry ⟨p, xs, i, z, e1, e2, h, e3, q⟩ hs
end
theorem comp_seq {K : PySem.W.Frag} {a : Addr} {xs : List V} {tc : TT} {te : TE} {σ : St} {H : Hp} {Q : VK} (Pv : Nat → Hp → Prop) (p : V → Bool) (f : V → V) (hz : xs.length < sizeLine) (h0 : Pv 0 H) (hP : ∀ i H', Pv i H' → Same H H') (h : SqA K H a xs)
    (hs : CompT xs Pv p f tc te σ) (hd : ∀ H l, Pv xs.length H → H l = none → Q (.ref l) (upd H l (.lst ((xs.filter p).map f)))) :
    ((∃ xs, SqL K H a xs) ∧ CompW (Itl K a) tc te σ H Q) ∨ ((∃ xs, SqT K H a xs) ∧ CompW (Itt K a) tc te σ H Q) := by
  rcases h with h | h
  · exact .inl ⟨⟨xs, h⟩, comp_list Pv p f hz h0 (fun i H' pv => (hP i H' pv).seq h) hs hd⟩
  · exact .inr ⟨⟨xs, h⟩, comp_tup Pv p f hz h0 (fun i H' pv => (hP i H' pv).tup h) hs hd⟩

/-! ### the same rules, the written part as a letter (a comprehension's block has it by rfl) -/
section
variable {X : Cx} {K : PySem.W.Frag} {w : World}
theorem ix_anyK (h : X.K = K) : IxR X (rIxA K) := h ▸ ix_any
theorem lenK (h : X.K = K) : CallR X (.builtin "len") (fun xs H Q => ∃ p ys, xs = [.ref p] ∧ (SqL K H p ys ∨ SqT K H p ys) ∧ Q (.int ys.length) H) := h ▸ call_len_seq
theorem isinstK (h : X.K = K) : CallR X (.builtin "isinstance") (fun xs H Q => ∃ x T t b, xs = [x, .ty T] ∧ TyOf K H x t ∧ PySem.W.kitOne K t (.type T) = some b ∧ Q (.bl b) H) := h ▸ call_isinst
theorem eqLK (h : X.K = K) (hu : X.A.units < cLine) : OpR X (compareOp .Eq) (rEqL K false) := h ▸ op_eqL hu
theorem neLK (h : X.K = K) (hu : X.A.units < cLine) : OpR X (compareOp .NotEq) (rEqL K true) := h ▸ op_neL hu
theorem pi_seqK {tg l : Expr} {tl : TE} (h : X.K = K) (hl : PE X l tl) : PI X tg l (iSeq K tl) := h ▸ pi_seq hl
theorem sl_tupK (h : X.K = K) : SlR X (rSlT K) := h ▸ sl_tup
theorem tupleK (h : X.K = K) : CallR X (.type "tuple") (fun xs H Q => ∃ p ys, xs = [.ref p] ∧ ((SqL K H p ys ∧ ∀ l, H l = none → Q (.ref l) (upd H l (.tup ys))) ∨ (SqT K H p ys ∧ Q (.ref p) H))) := h ▸ call_tuple_of
theorem notK (h : X.K = K) : UnR X (unaryOp .Not) (fun x H Q => ∃ k, TruV K x H k ∧ Q (.bl (!k)) H) := h ▸ un_notT
end

/-! ### a place where ways meet -/
end L2

set_option Elab.async false
set_option linter.all false
set_option maxRecDepth 100000
/-! exceptions over the hand layer: raise of an own class, passing on, try -/
namespace L2
open PySem PySem.Spec PyProof.Rows

section
variable {X : Cx} {pins : List (Addr × Obj)} {σ σ₀ : St} {H H₀ : Hp} {s s₀ : Shared} {h' : Heap}
/-- a step that keeps what is old or tracked, and of the frames all but their slots -/
theorem Inv.flown (hex : X.ex = []) (I0 : Inv X pins σ₀ H₀ s₀) (I : Inv X pins σ H s)
    (kp : ∀ b o, s.heap.get? b = some o → b ∉ frs X.stack → ((∃ o', s₀.heap.get? b = some o') ∨ ∃ o', H b = some o') → h'.get? b = some o) (up : s.heap.UpToSlots h') :
    Inv X pins σ H { s with heap := h' } := by
  have nex : ∀ b : Addr, b ∉ X.ex := fun b z => by rw [hex] at z; cases z
  have nst : ∀ b : Addr, b ≠ X.env.locals → b ∉ X.fs → b ∉ frs X.stack := fun b h1 h2 z => by
    rcases List.mem_cons.mp (I.stkSub b z) with e | e
    · exact h1 e
    · exact h2 e
  have old : ∀ b o, X.s₀.heap.get? b = some o → b ≠ X.env.locals := fun b o e z => by
    have := Nat.lt_of_lt_of_le (Heap.lt_size e) I.ok.above
    rw [z] at this
    exact Nat.lt_irrefl _ this
  have frame : ∀ b ∈ X.fs, ∃ o, s.heap.get? b = some o ∧ ∀ vs, o.data ≠ .fields vs := fun b hb => (I.funs.mem hb).2
  refine ⟨I.ok, I.os, I.bare, ⟨fun b o e n hb hx => ?_, fun b o e n hb hx => ?_, I.base.free, fun b o e hx => ?_, I.base.tups, I.base.frzs, I.base.tbls⟩, ?_, fun x c e => ?_, I.free, I.freeC, fun p hp => ?_, fun b o e => ?_, I.len⟩
  · exact kp b o (I.base.keep b o e n hb hx) (nst b (old b o e) hb) (.inl (I0.base.there b o e hx))
  · obtain ⟨sl, e1⟩ := I.base.slot b o e n hb hx
    obtain ⟨o2, e2, nf⟩ := frame b hb
    obtain ⟨sl', e3⟩ := up b o2 e2 nf
    rw [e1] at e2
    cases e2
    exact ⟨sl', e3⟩
  · obtain ⟨o', e1⟩ := I.base.there b o e hx
    by_cases hb : b ∈ X.fs
    · obtain ⟨o2, e2, nf⟩ := frame b hb
      obtain ⟨sl', e3⟩ := up b o2 e2 nf
      exact ⟨_, e3⟩
    · exact ⟨o', kp b o' e1 (nst b (old b o e) hb) (.inl (I0.base.there b o e hx))⟩
  · obtain ⟨m, hn, hl⟩ := I.loc
    refine ⟨m, up.ns hn, fun i x v e1 e2 e3 => ?_⟩
    obtain ⟨u, r, q⟩ := hl i x v e1 e2 e3
    refine ⟨u, r, ?_⟩
    rcases q with q | ⟨q1, c, q2, oc, q3, q4⟩
    · exact .inl q
    · refine .inr ⟨q1, c, q2, ?_⟩
      obtain ⟨sl, q5⟩ := up c oc q3 fun vs z => by rw [q4] at z; cases z
      exact ⟨_, q5, q4⟩
  · obtain ⟨v, oc, q3, q4⟩ := I.cell x c e
    obtain ⟨sl, q5⟩ := up c oc q3 fun vs z => by rw [q4] at z; cases z
    exact ⟨v, _, q5, q4⟩
  · obtain ⟨e, n, nl, nf, d⟩ := I.pin p hp
    refine ⟨kp _ _ e (nst _ nl nf) (.inl ⟨_, (I0.pin p hp).1⟩), n, nl, nf, d⟩
  · refine (I.hok b o e).stay (fun c u hc q => ?_) (fun _ q => q) fun _ _ q => q
    have tr : ∃ o', H c = some o' := by
      rcases hc with z | z
      · rw [z]; exact ⟨_, e⟩
      · exact ⟨_, z⟩
    refine kp c u q (fun z => ?_) (.inr tr)
    obtain ⟨o', e'⟩ := tr
    rw [I.stkFree c z] at e'
    cases e'
end

/-- an exception's object x of the class at C flies over the frames l: what s₀ held and what is tracked is apart from it -/
def Flies (l : List Env) (x C : Addr) (h₀ : Heap) (H : Hp) (h : Heap) : Prop :=
  ∃ B a0, Heap.FlyingW B l x (.ref C) a0 h ∧ (∀ b o, h₀.get? b = some o → b ∉ frs l → ∃ o', B.get? b = some o') ∧ ∀ b o, H b = some o → ∃ o', B.get? b = some o'
/-- the same with a base that is exact -/
theorem Flies.exact {l : List Env} {x C : Addr} {h₀ h : Heap} {H : Hp} (F : Flies l x C h₀ H h) :
    ∃ B a0, Heap.FlyingW B l x (.ref C) a0 h ∧ ∀ b o, h.get? b = some o → b ∉ frs l → ((∃ o', h₀.get? b = some o') ∨ ∃ o', H b = some o') → B.get? b = some o := by
  obtain ⟨B, a0, ⟨f1, f2, f3, oe, vs, T, oT, ts, he, hc, hd, h1, hnT, hTe, hT, hdT, h3⟩, d1, d2⟩ := F
  refine ⟨PySem.W.hideAll h (x :: T :: frs l), a0, ⟨fun b o q => PySem.W.of_hideAll _ q, PySem.W.hideAll_none _ (.head _), PySem.W.funFrames_hide f3 fun env he a ha => ?_, oe, vs, T, oT, ts, he, hc, hd, h1, PySem.W.hideAll_none _ (.tail _ (.head _)), hTe, hT, hdT, h3⟩, fun b o e nb hb => ?_⟩
  · exact .tail _ (.tail _ (List.mem_filterMap.mpr ⟨env, he, ha⟩))
  · have inB : ∃ o', B.get? b = some o' := by
      rcases hb with ⟨o', q⟩ | ⟨o', q⟩
      · exact d1 b o' q nb
      · exact d2 b o' q
    obtain ⟨o', hB⟩ := inB
    refine PySem.W.hideAll_get _ e fun z => ?_
    rcases List.mem_cons.mp z with z | z
    · rw [z, f2] at hB; cases hB
    · rcases List.mem_cons.mp z with z | z
      · rw [z, hnT] at hB; cases hB
      · exact nb z

/-- an exception has left a call -/
def CX1 (P : Program) (w : World) : CXT := fun outer H s E e s' => ∃ (x C : Addr) (H' : Hp), e = .ref x ∧ s'.os = s.os ∧ AllBare s'.gens ∧ Un (frs outer) [] H H' s.heap s'.heap ∧ HOk P w H' s'.heap ∧
  Flies outer x C s.heap H' s'.heap ∧ E (.ref C) none H'
/-- an exception made here -/
def Throws (X : Cx) (E : XK) : Prop := ∀ (pins : List (Addr × Obj)) (σ : St) (H : Hp) (s : Shared) (h' : Heap) (x C : Addr) (vs : List Value), Inv X pins σ H s → Heap.MadeExcOf s.heap h' x (.ref C) vs → E (.ref C) none H → X.xe (.ref x) { s with heap := h' }

section
variable {P : Program} {w : World} {K : PySem.W.Frag} {mg : Str → Option Value} {base : Heap} {N : List Str} {qual : Str} {scope : Scope} {f : Addr} {cd : Value} {A : Around} {outer : List Env} {s : Shared} {H : Hp} {E E' : XK}
theorem cx1_end {pins : List (Addr × Obj)} {σ : St} {H' : Hp} {s2 : Shared} {x C : Addr} {B : Heap} {a0 : Value} (J : Inv (cxOf (CX1 P w) P w K mg base N qual scope f cd A outer s H E) pins σ H' s2)
    (fl : Heap.FlyingW B outer x (.ref C) a0 s2.heap) (d1 : ∀ b o, s.heap.get? b = some o → b ∉ frs outer → ∃ o', B.get? b = some o') (d2 : ∀ b o, H' b = some o → ∃ o', B.get? b = some o') (q : E (.ref C) none H') : CX1 P w outer H s E (.ref x) s2 :=
  ⟨x, C, H', rfl, J.os, J.bare, J.base, J.hok, ⟨B, a0, fl, d1, d2⟩, q⟩
/-- a callee's exception goes on -/
theorem pass1 (hE : ∀ c d H', E' c d H' → E c d H') : Passes (CX1 P w) (cxOf (CX1 P w) P w K mg base N qual scope f cd A outer s H E) E' := by
  intro pins σ H1 s1 e s' I ⟨x, C, H', he, os, bare, un, hok, F, q⟩
  subst he
  have I' : Inv (cxOf (CX1 P w) P w K mg base N qual scope f cd A outer s H E) pins σ H' s' := I.call' os un hok bare (fun b z => absurd z (by simp))
  obtain ⟨B, a0, fl, ex⟩ := F.exact
  refine wpAny_leaves_onW I.ok.frames rfl fl fun h' fl' up => ?_
  have J := Inv.flown rfl I I' (fun b o e nb hb => fl'.1 _ _ (ex b o e nb hb)) up
  refine cx1_end J fl' (fun b o e nb => ?_) (fun b o e => ?_) (hE _ _ _ q)
  · obtain ⟨o', e'⟩ := I'.base.there b o e (fun z => absurd (show b ∈ ([] : List Addr) from z) (by simp))
    obtain ⟨o1, e1⟩ := I.base.there b o e (fun z => absurd (show b ∈ ([] : List Addr) from z) (by simp))
    refine ⟨o', ex b o' e' (fun z => ?_) (.inl ⟨o1, e1⟩)⟩
    rcases List.mem_cons.mp (I.stkSub b z) with y | y
    · have := Nat.lt_of_lt_of_le (Heap.lt_size e) I.ok.above
      rw [y] at this
      exact Nat.lt_irrefl _ this
    · exact nb y
  · have lt := (hok.lt e)
    cases e' : s'.heap.get? b with
    | none =>
      obtain ⟨B2, _, fl2, _, d2⟩ := F
      obtain ⟨o2, q2⟩ := d2 b o e
      have := fl2.1 _ _ q2
      rw [e'] at this
      cases this
    | some o' => exact ⟨o', ex b o' e' (fun z => by rw [I'.stkFree b z] at e; cases e) (.inr ⟨o, e⟩)⟩
/-- an exception made in a def's body leaves it -/
theorem throw1 (hE : ∀ c d H', E' c d H' → E c d H') : Throws (cxOf (CX1 P w) P w K mg base N qual scope f cd A outer s H E) E' := by
  intro pins σ H1 s1 h1 x C vs I hx q
  have I' : Inv (cxOf (CX1 P w) P w K mg base N qual scope f cd A outer s H E) pins σ H1 { s1 with heap := h1 } := I.kept (t' := s1.toks) hx.keeps
  have hin : ∀ env ∈ (cxOf (CX1 P w) P w K mg base N qual scope f cd A outer s H E).stack, ∀ b, env.frame = some b → b ∈ frs (cxOf (CX1 P w) P w K mg base N qual scope f cd A outer s H E).stack := fun env he b hb => List.mem_filterMap.mpr ⟨env, he, hb⟩
  have trk : ∀ b o, H1 b = some o → ∃ o', s1.heap.get? b = some o' := fun b o e => by
    have := I.hok b o e
    cases q : s1.heap.get? b with
    | some o' => exact ⟨o', rfl⟩
    | none =>
      exfalso
      cases o with
      | lst xs => obtain ⟨_, _, _, _, z⟩ := this; rw [q] at z; cases z
      | tup xs => obtain ⟨_, _, _, _, z, _⟩ := this; rw [q] at z; cases z
      | dK kvs => obtain ⟨_, _, _, _, _, _, _, z, _⟩ := this; rw [q] at z; cases z
      | dT kvs => obtain ⟨_, _, _, _, _, _, _, z, _⟩ := this; rw [q] at z; cases z
      | set S n => obtain ⟨_, _, _, _, z, _⟩ := this; rw [q] at z; cases z
      | ins C dx fs => obtain ⟨_, _, _, z, _⟩ := this; rw [q] at z; cases z
      | own y => obtain ⟨_, z⟩ := this; rw [q] at z; cases z
      | xd fs => obtain ⟨_, ⟨_, _, _, z, _⟩, _⟩ := this; rw [q] at z; cases z
      | rng lo hi => obtain ⟨_, _, _, z⟩ := this; rw [q] at z; cases z
      | frz ob u => obtain ⟨z, _⟩ := this; rw [q] at z; cases z
      | tbl ps => rw [show s1.heap.get? b = some _ from this] at q; cases q
      | met f y => rw [show s1.heap.get? b = some _ from this] at q; cases q
      | ext φ => obtain ⟨_, ⟨_, z⟩, _⟩ := this; rw [q] at z; cases z
  refine wpAny_leaves_madeW (base := PySem.W.hideAll s1.heap (frs (cxOf (CX1 P w) P w K mg base N qual scope f cd A outer s H E).stack)) I.ok.frames rfl (fun b o z => PySem.W.of_hideAll _ z) (PySem.W.funFrames_hide I.stack hin) hx fun h2 t fl _ _ up => ?_
  have keep : ∀ b o, h1.get? b = some o → b ∉ frs (cxOf (CX1 P w) P w K mg base N qual scope f cd A outer s H E).stack → ((∃ o', s1.heap.get? b = some o') ∨ ∃ o', H1 b = some o') → (PySem.W.hideAll s1.heap (frs (cxOf (CX1 P w) P w K mg base N qual scope f cd A outer s H E).stack)).get? b = some o := fun b o e nb hb => by
    have : ∃ o', s1.heap.get? b = some o' := by
      rcases hb with z | ⟨_, z⟩
      · exact z
      · exact trk b _ z
    obtain ⟨o', e'⟩ := this
    have := hx.keeps b o' e'
    rw [e] at this
    cases this
    exact PySem.W.hideAll_get _ e' nb
  have J := Inv.flown rfl I I' (fun b o e nb hb => fl.1 _ _ (keep b o e nb hb)) up
  refine cx1_end J fl (fun b o e nb => ?_) (fun b o e => ?_) (hE _ _ _ q)
  · obtain ⟨o1, e1⟩ := I.base.there b o e (fun z => absurd (show b ∈ ([] : List Addr) from z) (by simp))
    refine ⟨o1, PySem.W.hideAll_get _ e1 fun z => ?_⟩
    rcases List.mem_cons.mp (I.stkSub b z) with y | y
    · have := Nat.lt_of_lt_of_le (Heap.lt_size e) I.ok.above
      rw [y] at this
      exact Nat.lt_irrefl _ this
    · exact nb y
  · obtain ⟨o', e'⟩ := trk b o e
    exact ⟨o', PySem.W.hideAll_get _ e' fun z => by rw [I.stkFree b z] at e; cases e⟩
end
end L2

set_option Elab.async false
set_option linter.all false
set_option maxRecDepth 100000
namespace L2
open PySem PySem.Spec PyProof.Rows

abbrev bmV : List Value := [.type "ValueError", .type "Exception", .type "BaseException", .type "object"]
/-- the error class that the name x is bound to: it stands under ValueError, own classes perhaps between -/
structure Exc (K : PySem.W.Frag) (mg : Str → Option Value) (x : Str) (C : Addr) : Prop where
  mg : mg x = some (.ref C)
  ok : PySem.W.excIn K C bmV "ValueError.__new__" = true
theorem Exc.own {K : PySem.W.Frag} {mg : Str → Option Value} {x : Str} {C : Addr} {h : Heap} (e : Exc K mg x C) (X : K.In h) : OwnCls x C bmV "ValueError.__new__" mg h := by
  refine ⟨e.mg, ?_⟩
  have q := e.ok
  unfold PySem.W.excIn at q
  split at q
  · rename_i dd cd sl ho
    split at q
    · rename_i C' bm k0 k1 k2 k3 n k5 hm hs
      simp only [Bool.and_eq_true, beq_iff_eq, Bool.not_eq_true'] at q
      obtain ⟨⟨⟨⟨⟨rfl, rfl⟩, hdel⟩, ht⟩, hok⟩, hni⟩ := q
      obtain ⟨nm, bs, mro, ns, qn, hd, sn, sub, ab, col, del⟩ := cd
      dsimp only at hm hdel hok hni
      subst hm hdel
      have hsl : sl = #[k0, k1, k2, k3, some (.builtin "ValueError.__new__"), k5] := by
        obtain ⟨l⟩ := sl
        simp only at hs
        rw [hs]
      subst hsl
      exact ⟨bm, ns, nm, qn, bs, hd, sn, sub, ab, col, dd, k0, k1, k2, k3, k5, _, X _ _ ho, .of_isNs (PySem.W.isNs_of_in X hok), PySem.W.nsMap_none_of_in X hok hni, PySem.W.tail_of_in X ht⟩
    · cases q
  · cases q

section
variable {X : Cx} {E : XK} {x : Str} {C : Addr} {np cpos pos : Pos} {e : Expr} {es : List Expr} {t : TA}
def tRaise (E : XK) (C : Addr) (t : TA) : TS := fun _ σ H => t σ H fun vs H1 => vs.length ≤ sizeLine ∧ E (.ref C) none H1
/-- raise C(e, ..) -/
theorem ps_raise (T : Throws X E) (hc : X.calm = true) (O : Exc X.K X.mg x C) (ha : PA X (e :: es) t) (hg : Gl X x := by exact gl_of (by kernel_rfl))
    (he : starEach (e :: es) X.env = (false, eval e X.env) :: starEach es X.env := by rfl) (hpl : (backTo cpos (starEach es X.env)).any (·.1) = false := by rfl) (hd : (x == ("__debug__" : Str)) = false := by decide) :
    PS X (.Raise (some (.Call (.Name x np) (e :: es) [] cpos)) none pos) (tRaise E C t) := by
  intro pins s σ H D I h
  obtain ⟨tl, N, nm, q, bs, hdct, sn, sub, ab, col, dd, k0, k1, k2, k3, k5, mN, hC, hN, hni, TL⟩ := (O.own I.mod.kin).obj
  refine wpAny_Raise_call_subT (C := C) (nm := nm) (q := q) (N := N) (bs := bs) (bm := tl) (hdct := hdct) (sn := sn) (sub := sub) (ab := ab) (col := col) (dd := dd) (k0 := k0) (k1 := k1) (k2 := k2) (k3 := k3) (k5 := k5)
    PySem.F.excBase_ValueError (mN := mN) (TL.hasType PySem.F.excBase_ValueError.hasBase) (I.ok.hd hc) (by rw [he]; show (false || (backTo cpos (starEach es X.env)).any (·.1)) = false; rw [hpl]; rfl) hni (ld_glob I hg O.mg ⟨rfl, ?_⟩ hd)
  have h1 := ha cpos pins s σ H _ I h
  rw [he] at h1 ⊢
  refine Calls.evalArgs_plain (thn h1 fun us s2 ⟨vs, H1, I1, r, z, q⟩ => ?_)
  exact ⟨rfl, by rw [← r.length]; exact z, I1.bk _ _ hC, hN.keeps I1.bk, TL.keeps I1.bk, fun h' e hm => T pins σ H1 s2 h' e C us I1 hm q⟩
end

/-- a def that may raise, by its name -/
structure FnX (P : Program) (w : World) (K : PySem.W.Frag) (mg : Str → Option Value) (base : Heap) (x : Str) (ps : List Str) (k : Nat) (sp : Sp) : Prop where
  ex : ∃ f fd, FnOk P w K mg base (CX1 P w) k f fd ps sp ∧ mg x = some (.ref f) ∧ PySem.W.keepIn K (.ref f) = true ∧ Binds K fd ps []
section
variable {X : Cx} {E : XK} {x : Str} {ps : List Str} {k : Nat} {sp : Sp} {p pos : Pos} {e : Expr} {es : List Expr} {t : TA}
theorem pe_fnX (F : FnX X.prog X.w X.K X.mg X.base x ps k sp) (hx : Passes (CX1 X.prog X.w) X E) (hr : Room k X.A) (ha : PA X (e :: es) t) (hg : Gl X x := by exact gl_of (by kernel_rfl)) (hdb : (x == ("__debug__" : Str)) = false := by decide)
    (he : starEach (e :: es) X.env = (false, eval e X.env) :: starEach es X.env := by rfl) (hpl : (backTo pos (starEach es X.env)).any (·.1) = false := by rfl) : PE X (.Call (.Name x p) (e :: es) [] pos) (tCall sp [] E t) := by
  obtain ⟨f, fd, h1, h2, h3, h4⟩ := F.ex
  exact pe_call h1 hr hg h2 h3 h4 .nil hx ha hdb he hpl
end
section
variable {P : Program} {w : World} {K : PySem.W.Frag} {mg : Str → Option Value} {base : Heap}
/-- THE RULE for a def that may raise -/
theorem Fun.okX {x qual : Str} {st : Stmt} {f : Addr} {fd : FuncData} {N ps : List Str} {k : Nat} {sp : Sp} (F : Fun K x qual st f fd) (S : FnScope N ps (defScope st)) (len : ∀ vs H Q E, sp vs H Q E → vs.length = ps.length)
    (hbody : ∀ (cdv : Value) (A : Around) (outer : List Env) (s : Shared) (H : Hp) (vs : List V) (Q : VK) (E : XK), Room k (A.deeper (envOfC qual (defScope st) s.heap.objs.size f cdv)) → sp vs H Q E →
      ∃ t, PSs (cxOf (CX1 P w) P w K mg base N qual (defScope st) f cdv A outer s H E) (defBody st) t ∧ t { nx := fun _ H' => Q .non H', rt := Q } (start N vs) H) : FnOk P w K mg base (CX1 P w) (k + 1) f fd ps sp := by
  obtain ⟨oc, od, kV, doc, pm, an, cdv, ct, osl, rfl, lk, hcd⟩ := F.ex
  exact fn_of lk hcd S len fun A outer s H vs Q E hr hsp => hbody cdv A outer s H vs Q E hr hsp
/-- where the promise lets no exception out -/
def sp0 (sp : Sp) : Sp := fun vs H Q _ => sp vs H Q E0
theorem FnX.plain {x : Str} {ps : List Str} {k : Nat} {sp : Sp} (F : FnX P w K mg base x ps k sp) : Fn P w K mg base x ps k (sp0 sp) := by
  obtain ⟨f, fd, h1, h2, h3, h4⟩ := F.ex
  refine ⟨f, fd, ⟨fun vs H Q E h => h1.len vs H Q E0 h, fun A outer s H args us vs Q E hr he hb hv hs => codeAny_mono (h1.run A outer s H args us vs Q E0 hr he hb hv hs) fun r s' q => ?_⟩, h2, h3, h4⟩
  cases r with
  | error e =>
    obtain ⟨_, _, _, _, _, _, _, _, _, z⟩ := q
    exact z
  | ok fl => cases fl <;> exact q
/-- the classes' facts: C of the name x, under CE -/
structure Err (K : PySem.W.Frag) (mg : Str → Option Value) (x : Str) (C CE : Addr) : Prop extends Exc K mg x C where
  up : PySem.W.mroIn K C (.ref CE) = some true
  isV : PySem.W.kitOne K (.ref C) (.type "ValueError") = some true
end
end L2

set_option Elab.async false
set_option linter.all false
set_option maxRecDepth 100000
namespace L2
open PySem PySem.Spec PyProof.Rows

section
variable {M : Model} {A : Around} {E : Value → Shared → Prop}
variable {nm q nm' q' : Str} {C N C' N' : Addr} {bs bm bs' bm' : List Value} {hdct hdct' : Bool} {sn sn' : List Str} {sub sub' : List Value} {ab ab' : Bool} {col col' : Option Bool} {dd dd' : Option Addr} {k0 k1 k2 k3 k5 l0 l1 l2 l3 l5 : Option Value} {newId newId' : String}
theorem excMatches_own {h : Heap} {g : Array GenState} {d : Drawn} {t : Nat} {os : OsState} {e : Addr} {oe : Obj} {b : Bool} {Q : Bool → Shared → Prop}
    (hC : h.get? C = some (excClassObj nm q C N bs bm hdct sn sub ab col dd k0 k1 k2 k3 k5 newId)) (hC' : h.get? C' = some (excClassObj nm' q' C' N' bs' bm' hdct' sn' sub' ab' col' dd' l0 l1 l2 l3 l5 newId'))
    (he : h.get? e = some oe) (hcls : oe.cls = .ref C) (hbase : bm'.contains (.type "BaseException") = true) (hb : (Value.ref C :: bm).contains (.ref C') = b)
    (hq : Q b ⟨h, g, d, t, os⟩) : wpAny M A (excMatches (.ref e) (.ref C')) Q E ⟨h, g, d, t, os⟩ := by
  have hcB : (Value.ref C' :: bm').contains (.type "BaseException") = true := by rw [List.contains_cons, hbase, Bool.or_true]
  have f := tc_notTuple
  unfold excMatches
  repeat (first | (with_reducible refine wpAny_loadPart_at he ?_; rw [hcls]) | with_reducible refine wpAny_loadPart_at hC' ?_ | (with_reducible refine wpAny_isSubtype_exc hC' ?_; rw [hcB]) | (with_reducible refine wpAny_isSubtype_exc hC ?_; rw [hb]) | wp_step)
  cases b <;> (wp_walk; exact hq)
end

/-- the class's object, and its line of bases -/
theorem Exc.line {K : PySem.W.Frag} {C : Addr} {h : Heap} (q : PySem.W.excIn K C bmV "ValueError.__new__" = true) (X : K.In h) :
    ∃ bm N nm qn bs hdct sn sub ab col dd k0 k1 k2 k3 k5, h.get? C = some (excClassObj nm qn C N bs bm hdct sn sub ab col dd k0 k1 k2 k3 k5 "ValueError.__new__") ∧ bm.contains (.type "BaseException") = true ∧ ∀ c b, PySem.W.mroIn K C c = some b → (Value.ref C :: bm).contains c = b := by
  unfold PySem.W.excIn at q
  split at q
  · rename_i dd cd sl ho
    split at q
    · rename_i C' bm k0 k1 k2 k3 n k5 hm hs
      simp only [Bool.and_eq_true, beq_iff_eq, Bool.not_eq_true'] at q
      obtain ⟨⟨⟨⟨⟨rfl, rfl⟩, hdel⟩, ht⟩, hok⟩, hni⟩ := q
      have hmro : ∀ c b, PySem.W.mroIn K C' c = some b → (Value.ref C' :: bm).contains c = b := fun c b e => by
        unfold PySem.W.mroIn PySem.W.clsIn at e
        rw [ho] at e
        have e2 : (if cd.mro.isEmpty = true then none else some (cd.mro.contains c)) = some b := e
        rw [hm] at e2
        exact Option.some.inj e2
      obtain ⟨nm, bs, mro, ns, qn, hd, sn, sub, ab, col, del⟩ := cd
      dsimp only at hm hdel hok hni
      subst hm hdel
      have hsl : sl = #[k0, k1, k2, k3, some (.builtin "ValueError.__new__"), k5] := by
        obtain ⟨l⟩ := sl
        simp only at hs
        rw [hs]
      subst hsl
      exact ⟨bm, ns, nm, qn, bs, hd, sn, sub, ab, col, dd, k0, k1, k2, k3, k5, X _ _ ho, (PySem.W.tail_of_in X ht).hasType PySem.F.excBase_ValueError.hasBase, hmro⟩
    · cases q
  · cases q

/-! ### pins into the context and back -/
section
variable {X : Cx} {pins pins' : List (Addr × Obj)} {σ : St} {H : Hp} {s : Shared} {xe xe' : Value → Shared → Prop}
theorem Inv.pinIn (I : Inv X pins σ H s) (xe : Value → Shared → Prop) : Inv { X with pn := X.pn ++ pins, xe := xe } [] σ H s :=
  ⟨⟨I.ok.mod, I.ok.kind, I.ok.glob, I.ok.blt, I.ok.above, I.ok.inj, I.ok.has, I.ok.cab, I.ok.hd, I.ok.frames, I.ok.stk, I.ok.exf, I.ok.bs, I.ok.bsz, I.ok.noex, I.ok.exfs, I.ok.funs, I.ok.frf⟩, I.os, I.bare, I.base, I.loc, I.cell, I.free, I.freeC, fun p hp => I.pin p (by simpa using hp), I.hok, I.len⟩
theorem Inv.pinOut (I : Inv { X with pn := X.pn ++ pins, xe := xe } pins' σ H s) : Inv X pins σ H s :=
  ⟨⟨I.ok.mod, I.ok.kind, I.ok.glob, I.ok.blt, I.ok.above, I.ok.inj, I.ok.has, I.ok.cab, I.ok.hd, I.ok.frames, I.ok.stk, I.ok.exf, I.ok.bs, I.ok.bsz, I.ok.noex, I.ok.exfs, I.ok.funs, I.ok.frf⟩, I.os, I.bare, I.base, I.loc, I.cell, I.free, I.freeC, fun p hp => I.pin p (List.mem_append_left _ hp), I.hok, I.len⟩
/-- within an except suite -/
abbrev Cx.within (X : Cx) (y : Addr) (pn : List (Addr × Obj)) : Cx := { X with A := X.A.mark (some (.ref y)), calm := false, pn := pn, xe := fun _ _ => False }
theorem Inv.goIn (I : Inv X pins σ H s) (y : Addr) (pn : List (Addr × Obj)) (h : ∀ p ∈ pn, s.heap.get? p.1 = some p.2 ∧ H p.1 = none ∧ p.1 ≠ X.env.locals ∧ p.1 ∉ X.fs ∧ ∀ v, p.2.data ≠ .cell v) : Inv (X.within y pn) [] σ H s :=
  ⟨⟨I.ok.mod, I.ok.kind, I.ok.glob, I.ok.blt, I.ok.above, I.ok.inj, I.ok.has, I.ok.cab, fun z => absurd (show false = true from z) Bool.false_ne_true, I.ok.frames, I.ok.stk, I.ok.exf, I.ok.bs, I.ok.bsz, I.ok.noex, I.ok.exfs, I.ok.funs, I.ok.frf⟩, I.os, I.bare, I.base, I.loc, I.cell, I.free, I.freeC, fun p hp => h p (by simpa using hp), I.hok, I.len⟩
theorem Inv.goOut {y : Addr} {pn : List (Addr × Obj)} (ok : X.Ok) (I : Inv (X.within y pn) pins' σ H s) (hp : ∀ p ∈ X.pn ++ pins, p ∈ pn) : Inv X pins σ H s :=
  ⟨ok, I.os, I.bare, I.base, I.loc, I.cell, I.free, I.freeC, fun p z => I.pin p (List.mem_append_left _ (hp p z)), I.hok, I.len⟩
/-- the name behind the suite is gone -/
theorem Inv.unname {M : Model} {A : Around} {E : Value → Shared → Prop} {i : Nat} {n : Str} {pos : Pos} {Q : Unit → Shared → Prop} (I : Inv X pins σ H s) (hN : X.N.Nodup) (hi : X.N[i]? = some n) (hlo : X.env.kindOf n = some .local)
    (h : ∀ s', Inv X pins (σ.set i none) H s' → Q () s') : wpAny M A (do bindName X.env n .none; unbindBehindTheSuite X.env n pos) Q E s := by
  obtain ⟨m, hn, hl⟩ := id I.loc
  have hcls : (X.env.scope.kind == .class || (X.env.scope.kind == .module && X.env.locals != X.env.globals)) = false := by rw [I.ok.kind]; rfl
  have hiσ : i < σ.length := by rw [I.len]; exact (List.getElem?_eq_some_iff.mp hi).1
  have cne := I.cne
  refine wpAny_nameGoes_keeps hlo hn hcls fun h' v hn' hs => ?_
  refine h _ ⟨I.ok, I.os, I.bare, ⟨fun b o e n hb hx => ?_, fun b o e n hb hx => ?_, I.base.free, fun b o e hx => ?_, I.base.tups, I.base.frzs, I.base.tbls⟩, ⟨_, hn', fun j y v' e1 e2 e3 => ?_⟩, fun y c e => ?_, I.free, I.freeC, fun p hp => ?_, fun b ob e => ?_, by simpa using I.len⟩
  · exact (hs.2 b (Nat.ne_of_lt (Nat.lt_of_lt_of_le (Heap.lt_size e) I.ok.above))).trans (I.base.keep b o e n hb hx)
  · obtain ⟨sl, e1⟩ := I.base.slot b o e n hb hx
    exact ⟨sl, (hs.2 b (Nat.ne_of_lt (Nat.lt_of_lt_of_le (Heap.lt_size e) I.ok.above))).trans e1⟩
  · obtain ⟨o', e1⟩ := I.base.there b o e hx
    exact ⟨o', (hs.2 b (Nat.ne_of_lt (Nat.lt_of_lt_of_le (Heap.lt_size e) I.ok.above))).trans e1⟩
  · have hji : j ≠ i := fun z => by
      subst z
      rw [List.getElem?_set_self hiσ] at e2
      cases e2
    rw [List.getElem?_set_ne (Ne.symm hji)] at e2
    obtain ⟨u', r', q⟩ := hl j y v' e1 e2 e3
    have hyn : y ≠ n := fun z => by
      subst z
      exact hji ((List.getElem?_inj (List.getElem?_eq_some_iff.mp e1).1 hN).mp (e1.trans hi.symm))
    refine ⟨u', r', ?_⟩
    rcases q with ⟨q1, q2⟩ | ⟨q1, c, q2, oc, q3, q4⟩
    · exact .inl ⟨q1, by show (if y = n then v else m y) = some u'; rw [if_neg hyn]; exact q2⟩
    · exact .inr ⟨q1, c, q2, oc, (hs.2 c (cne _ _ q2)).trans q3, q4⟩
  · obtain ⟨v, oc, q3, q4⟩ := I.cell y c e
    exact ⟨v, oc, (hs.2 c (cne _ _ e)).trans q3, q4⟩
  · obtain ⟨e, n', nl, nf, d⟩ := I.pin p hp
    exact ⟨(hs.2 _ nl).trans e, n', nl, nf, d⟩
  · refine (I.hok b ob e).stay (fun c u hc q => (hs.2 c fun z => ?_).trans q) (fun _ q => q) fun _ _ q => q
    rcases hc with y | y
    · rw [← y, z, I.free] at e; cases e
    · rw [z, I.free] at y; cases y
end

/-! ### try .. except C as n -/
/-- what is wanted of the suite: the name is gone behind it -/
def Ends.un (D : Ends) (i : Nat) : Ends := { nx := fun σ H => D.nx (σ.set i none) H, rt := D.rt, bk := fun σ H => D.bk (σ.set i none) H, ct := fun σ H => D.ct (σ.set i none) H }
/-- the wish about exceptions of the body: of a class under CE, and the suite's reading then -/
def exAs (K : PySem.W.Frag) (CE : Addr) (i len : Nat) (th : Addr → Obj → TS) (D : Ends) : XK := fun c _ H => ∃ C, c = .ref C ∧ PySem.W.excIn K C bmV "ValueError.__new__" = true ∧ PySem.W.mroIn K C (.ref CE) = some true ∧
  ∀ (y : Addr) (oy : Obj) (σ : St), oy.cls = .ref C → (∃ vs, oy.data = .fields vs) → σ.length = len → th y oy (D.un i) (σ.set i (some (.ref y))) H
def tTryAs (K : PySem.W.Frag) (CE : Addr) (i len : Nat) (tb : XK → TS) (th : Addr → Obj → TS) : TS := fun D σ H => tb (exAs K CE i len th D) D σ H
section
variable {X : Cx} {x n : Str} {i : Nat} {CE : Addr} {np hpos pos : Pos} {body suite : List Stmt} {b₀ : Stmt} {tb : XK → TS} {th : Addr → Obj → TS}
theorem ps_tryAs (O : Exc X.K X.mg x CE) (hst : X.stack = X.env :: X.outer) (hf : X.env.frame = some X.env.locals) (hex : X.ex = []) (hN : X.N.Nodup) (hi : X.N[i]? = some n) (hlo : X.env.scope.names.lookup n = some .local)
    (hb : ∀ pn xe E, Passes (CX1 X.prog X.w) { X with pn := pn, xe := xe } E → PSs { X with pn := pn, xe := xe } body (tb E))
    (hs : ∀ pn y oy, (y, oy) ∈ pn → PSs (X.within y pn) (b₀ :: suite) (th y oy)) (hg : Gl X x := by exact gl_of (by kernel_rfl)) (hd : (x == ("__debug__" : Str)) = false := by decide) :
    PS X (.Try body [.ExceptHandler (some (.Name x np)) (some n) (b₀ :: suite) hpos] [] [] pos) (tTryAs X.K CE i X.N.length tb th) := by
  intro pins s σ H D I h
  refine wpAny_Try_except ?_
  generalize hE1 : (fun (e : Value) (s₁ : Shared) => wpAny (model X.prog X.w) X.A (noteFrame e X.env) (fun _ s₂ => wpAny (model X.prog X.w) X.A (setFlight e none) (fun _ s₃ => wpAny (model X.prog X.w) X.A (handleBy e X.env [.ExceptHandler (some (.Name x np)) (some n) (b₀ :: suite) hpos]) (SP X pins D) X.xe s₃) X.xe s₂) X.xe s₁) = E1
  have pass : Passes (CX1 X.prog X.w) { X with pn := X.pn ++ pins, xe := E1 } (exAs X.K CE i X.N.length th D) := by
    intro pins' σ' H1 s1 e s' I1 ⟨y, C, H', he, os, bare, un, hok, F, C', hc', hxc, hmro, q⟩
    subst he
    cases hc'
    show E1 (.ref y) s'
    rw [← hE1]
    have I2 : Inv { X with pn := X.pn ++ pins, xe := E1 } pins' σ' H' s' := I1.call' os un hok bare (fun b z => absurd z (by simp))
    have F2 : Flies X.stack y C s1.heap H' s'.heap := F
    rw [hst] at F2
    obtain ⟨B, a0, fl, ex⟩ := F2.exact
    have nst : ∀ b : Addr, b ∉ frs X.stack → b ∉ frs (X.env :: X.outer) := fun b z => by rw [← hst]; exact z
    refine wpAny_looks_onW (I.ok.frames.trans (congrArg some hst)) hf fl fun h4 held4 up4 => ?_
    refine wpAny_landsW held4 fun h5 fl5 up5 => ?_
    have J5 : Inv { X with pn := X.pn ++ pins, xe := E1 } pins' σ' H' { s' with heap := h5 } := Inv.flown hex I1 I2 (fun b o e nb hb => fl5.1 _ _ (ex b o e (nst b nb) hb)) (up4.trans up5)
    obtain ⟨ob, hob, hobc⟩ := fl5.there
    obtain ⟨bm, N, nm, qn, bs, hdct, sn, sub, ab, col, dd, k0, k1, k2, k3, k5, hC, hbB, hmr⟩ := Exc.line hxc J5.kIn
    obtain ⟨bm', N', nm', qn', bs', hdct', sn', sub', ab', col', dd', l0, l1, l2, l3, l5, hC', hbB', hmr'⟩ := Exc.line O.ok J5.kIn
    have Jm : Inv (X.within y (X.pn ++ pins)) [] σ' H' { s' with heap := h5 } := J5.pinOut.goIn y _ fun p hp => J5.pin p (List.mem_append_left _ hp)
    refine wpAny_handleBy_cons (codeAny_handlers_test (ld_glob (X := X.within y (X.pn ++ pins)) Jm hg O.mg ?_ hd)) (by intro q; cases q)
    refine excMatches_own hC hC' hob hobc hbB' (hmr _ _ hmro) (codeAny_handlers_suite_as ?_)
    refine lands_againW fl5 fun h6 fl6 up6 => ?_
    have J6 : Inv { X with pn := X.pn ++ pins, xe := E1 } pins' σ' H' { s' with heap := h6 } := Inv.flown hex I1 I2 (fun b o e nb hb => fl6.1 _ _ (ex b o e (nst b nb) hb)) ((up4.trans up5).trans up6)
    obtain ⟨oy, vs, hoy, hoyc, hoyd, _⟩ := fl6.first
    have ynl : y ≠ X.env.locals := fun z => by
      obtain ⟨m, ⟨oL, es, ep, hoL, hxd, _⟩, _⟩ := J6.loc
      have e1 : h6.get? X.env.locals = some oL := hoL
      rw [← z, hoy] at e1
      cases e1
      rw [hoyd] at hxd
      cases hxd
    have ynf : y ∉ X.fs := fun z => by
      obtain ⟨_, o, ho, nf⟩ := J6.funs.mem z
      have e1 : h6.get? y = some o := ho
      rw [hoy] at e1
      cases e1
      exact nf vs hoyd
    have yH : H' y = none := by
      cases z : H' y with
      | none => rfl
      | some o =>
        obtain ⟨B2, _, fl2, _, d2⟩ := F
        obtain ⟨o2, q2⟩ := d2 y o z
        rw [fl2.2.1] at q2
        cases q2
    have Jw : Inv (X.within y ((y, oy) :: (X.pn ++ pins))) [] σ' H' { s' with heap := h6 } := J6.pinOut.goIn y _ fun p hp => by
      rcases List.mem_cons.mp hp with z | z
      · subst z
        exact ⟨hoy, yH, ynl, ynf, fun v z => by rw [hoyd] at z; cases z⟩
      · exact J6.pin p (List.mem_append_left _ z)
    refine store_ok (X := X.within y ((y, oy) :: (X.pn ++ pins))) (i := i) (v := .ref y) Jw hN hi (.inl hlo) rfl (fun s7 J7 => ?_) (.inr hlo)
    have run := hs ((y, oy) :: (X.pn ++ pins)) y oy (.head _) [] s7 _ H' (D.un i) J7 (q y oy σ' hoyc ⟨vs, hoyd⟩ J6.len)
    refine wpAny_mono run (fun f s8 z => ?_) fun _ _ z => False.elim z
    have back : ∀ {σ2 : St} {H2 : Hp}, Inv (X.within y ((y, oy) :: (X.pn ++ pins))) [] σ2 H2 s8 → Inv X pins σ2 H2 s8 := fun J => J.goOut I.ok fun p hp => List.mem_cons_of_mem _ hp
    cases f with
    | next =>
      obtain ⟨σ2, H2, J, q2⟩ := z
      exact (back J).unname hN hi hlo fun s9 J9 => ⟨_, _, J9, q2⟩
    | brk =>
      obtain ⟨σ2, H2, J, q2⟩ := z
      exact (back J).unname hN hi hlo fun s9 J9 => ⟨_, _, J9, q2⟩
    | cont =>
      obtain ⟨σ2, H2, J, q2⟩ := z
      exact (back J).unname hN hi hlo fun s9 J9 => ⟨_, _, J9, q2⟩
    | ret u =>
      obtain ⟨v, σ2, H2, J, r, q2⟩ := z
      exact (back J).unname hN hi hlo fun s9 J9 => ⟨v, _, _, J9, r, q2⟩
  have run := hb (X.pn ++ pins) E1 _ pass [] s σ H D (I.pinIn E1) h
  refine wpAny_mono run (fun f s1 z => ?_) fun e s1 z => z
  cases f with
  | next =>
    obtain ⟨σ2, H2, J, q2⟩ := z
    exact wpAny_execs_nil ⟨σ2, H2, J.pinOut, q2⟩
  | brk =>
    obtain ⟨σ2, H2, J, q2⟩ := z
    exact ⟨σ2, H2, J.pinOut, q2⟩
  | cont =>
    obtain ⟨σ2, H2, J, q2⟩ := z
    exact ⟨σ2, H2, J.pinOut, q2⟩
  | ret u =>
    obtain ⟨v, σ2, H2, J, r, q2⟩ := z
    exact ⟨v, σ2, H2, J.pinOut, r, q2⟩
end
end L2

set_option Elab.async false
set_option linter.all false
set_option maxRecDepth 100000
namespace L2
open PySem PySem.Spec PySem.W PyProof.Rows PySem.Builtin PySem.Builtin.ObjectAttr PySem.Builtin.Getset_descriptor

/-- what the written part tells of an error class: its attributes are looked up as for every exception -/
structure ExcLook (K : Frag) (C : Addr) : Prop where
  cls : (clsIn K C).isSome = true
  ga : findIn K (.ref C) "__getattribute__" = some (some (.builtin "BaseException.__getattribute__"))
  gt : findIn K (.ref C) "__getattr__" = some none
  at_ : findIn K (.ref C) "__class__" = some (some (.builtin "object.__class__"))
  gs : specialIn K (.builtin "object.__class__") "__get__" = some (some (.builtin "getset_descriptor.__get__"))
  tk : takesIn K (.builtin "object.__class__") = some true
  ob : mroIn K C (.type "object") = some true
  bx : mroIn K C (.type "BaseException") = some true
def ExcAt (y C : Addr) (h : Heap) : Prop := ∃ o vs, h.get? y = some o ∧ o.cls = .ref C ∧ o.data = .fields vs

section
variable {K : Frag} {C y : Addr} {prog : Program} {w : World} {A : Around} {E : Value → Shared → Prop} {s : Shared}
theorem ExcAt.type {M : Model} {h : Heap} (e : ExcAt y C h) : Looks M h (typeOf (.ref y)) (.ref C) := by
  obtain ⟨o, vs, h1, h2, _⟩ := e
  exact h2 ▸ (Looks.ld h1).andThen .now
theorem exc_find {M : Model} {h : Heap} (X : K.In h) (F : ExcLook K C) : Looks M h (find (.ref y) (.ref C) "__class__") (.bind (.builtin "getset_descriptor.__get__") (.builtin "object.__class__")) := by
  have L1 := looks_findIn (M := M) X F.at_
  have L2 := looks_specialIn (M := M) X F.gs
  have L3 := looks_takesIn (M := M) X F.tk
  intro A Q E s k q
  unfold find
  refine wpAny_bind (L1 A _ E s k ?_)
  refine wpAny_bind (L2 A _ E s k ?_)
  unfold dataDescriptor?
  refine wpAny_bind (wpAny_bind (L3 A _ E s k ?_))
  exact wpAny_pure (wpAny_bind (wpAny_rule (wpAny_pure q)))
theorem exc_class_get {R : Result → Shared → Prop} {tp : Value} (X : K.In s.heap) (F : ExcLook K C) (e : ExcAt y C s.heap) (h : R (.ok (.ret (.ref C))) s) : codeAny (model prog w) A (.call (.builtin "getset_descriptor.__get__") ⟨[.builtin "object.__class__", .ref y, tp], []⟩) R s := by
  obtain ⟨hh, g, dr, t, os⟩ := s
  have L0 := e.type (M := model prog w)
  have L1 := looks_mroIn (M := model prog w) X F.ob
  refine codeAny_call_builtin KF.slot_gs.plain KF.entry_gs (KF.slot_gs.check _ _ _ _ _ _ _ _ KF.type_class (KF.args_gs _ _ _) ?_)
  unfold Builtin.«getset_descriptor.__get__» descrGet
  rw [dga_obj]
  refine wpAny_bind (wpAny_pure ?_)
  unfold descrGetter descrCheckInstance descrNameAndClass isInstance
  simp only [KF.owner_class]
  repeat lk
  refine ⟨Code.quiet_builtin _ (by decide +kernel), codeAny_builtin KF.entry_class ?_⟩
  unfold Builtin.«object.__class__» shownTypeOf
  repeat lk
  exact h
theorem exc_class {Q : Option Value → Shared → Prop} (X : K.In s.heap) (F : ExcLook K C) (e : ExcAt y C s.heap) (h : Q (some (.ref C)) { s with toks := s.toks + 1 }) : wpAny (model prog w) A (getAttr? (.ref y) "__class__") Q E s := by
  obtain ⟨hh, g, d, t, os⟩ := s
  have L0 := e.type (M := model prog w)
  have L1 := looks_findIn (M := model prog w) X F.ga
  have L2 := looks_findIn (M := model prog w) X F.gt
  have L3 := looks_mroIn (M := model prog w) X F.bx
  have L4 := exc_find (M := model prog w) (y := y) X F
  have G := PySem.F.excAttr_ValueError.ga
  unfold getAttr? getAttrBy? getAttrBy
  refine wpAny_bind (wpAny_mkText (wpAny_bind (wpAny_attempt (wpAny_holding (wpAny_bind (L0.at (wpAny_bind (L1.at ?_))))))))
  dsimp only
  have hx2 : (Value.builtin "BaseException.__getattribute__" == Value.builtin "object.__getattribute__") = false := by decide +kernel
  rw [hx2, Bool.and_false, if_neg Bool.false_ne_true]
  unfold getAttrByItsOwn hookBefore
  rw [if_pos (show onTheHeap (Value.ref C) = true from rfl)]
  refine wpAny_bind (L2.at ?_)
  refine wpAny_bind (wpAny_attempt (wpAny_holding ?_))
  unfold callGetattribute boundAndCalled
  rw [if_neg (by decide)]
  refine wpAny_bind (wpAny_of_eq (G.bind (.ref y)) ?_)
  refine wpAny_call (codeAny_call_builtin G.plain PySem.F.entry_bexc_ga ?_)
  have hk : builtinKind "BaseException.__getattribute__" = some .slot := by decide +kernel
  have hsplit : splitId "BaseException.__getattribute__" = some ("BaseException", "__getattribute__") := by decide +kernel
  have ha := PySem.F.args_bexc_ga (.ref y) (.str "__class__" t)
  simp only [checkBuiltinCall, hk, hsplit]
  refine wpAny_bind ?_
  unfold isInstance
  repeat (first | with_reducible refine wpAny_call (exc_class_get X F e ?_) | lk | wp_step)
  exact h
end

theorem kitx_exc {K : Frag} {C y : Addr} (F : ExcLook K C) : KitX K (.ref y) (.ref C) (ExcAt y C) where
  ty := fun _ _ _ e => e.type
  it := fun _ _ X _ => by
    obtain ⟨cd, hc⟩ := Option.isSome_iff_exists.mp F.cls
    unfold clsIn at hc
    split at hc
    · rename_i c' d' cd' sl' ho
      intro A' Q' E' s' k q
      unfold isType loadHead
      exact wpAny_bind (wpAny_loadPart (k _ _ (X _ _ ho)) (wpAny_pure q))
    · cases hc
  ne := fun h tp dd its n sl X htp => by
    obtain ⟨cd, hc⟩ := Option.isSome_iff_exists.mp F.cls
    refine Bool.eq_false_iff.mpr fun q => ?_
    have e : C = tp := Value.ref.inj (beq_iff_eq.mp q)
    subst e
    unfold clsIn at hc
    split at hc
    · rename_i c' d' cd' sl' ho
      have z := (X _ _ ho).symm.trans htp
      cases z
    · cases hc
  ca := fun X e k => exc_class X F e k

/-- isinstance(e, c) of an exception that is held, c a built-in class or an own one -/
def rIsiX (K : Frag) (y : Addr) (oy : Obj) : List V → Hp → VK → Prop := fun xs H Q => ∃ C c vc b, xs = [.ref y, c] ∧ oy.cls = .ref C ∧ (∃ vs, oy.data = .fields vs) ∧ RelV c vc ∧ ExcLook K C ∧ kitOne K (.ref C) vc = some b ∧ Q (.bl b) H
theorem call_isiX {X : Cx} {K : Frag} {y : Addr} {oy : Obj} (hK : X.K = K) (hp : (y, oy) ∈ X.pn) : CallR X (.builtin "isinstance") (rIsiX K y oy) := by
  intro pins s σ H xs us Q I rv h
  subst hK
  obtain ⟨C, c, vc, b, rfl, hc, ⟨vs, hd⟩, rc, F, e, q⟩ := h
  obtain ⟨u, v, rfl, r1, r2⟩ := vals2 rv
  cases r1
  have ev : v = vc := by
    cases c with
    | ty T => cases r2; cases rc; rfl
    | ref a => cases r2; cases rc; rfl
    | non => cases r2; cases rc; rfl
    | bl b => cases r2; cases rc; rfl
    | int i => obtain ⟨t1, rfl⟩ := rc; unfold kitOne kitCls at e; cases e
    | str i => obtain ⟨t1, rfl⟩ := rc; unfold kitOne kitCls at e; cases e
    | byt i => obtain ⟨t1, rfl⟩ := rc; unfold kitOne kitCls at e; cases e
    | flt i => obtain ⟨t1, rfl⟩ := rc; unfold kitOne kitCls at e; cases e
  subst ev
  have hy := (I.pin (y, oy) (List.mem_append_left _ hp)).1
  exact kia_one (kitx_exc F) I.kIn ⟨oy, vs, hy, hc, hd⟩ e (fun z => nomatch z) fun tk => ⟨.bl b, H, I.tok _, rfl, q⟩
end L2

set_option Elab.async false
set_option linter.all false
set_option maxRecDepth 100000
namespace L2
open PySem PySem.Spec PyProof.Rows

/-! ### texts with {..} -/
abbrev TP1 := St → Hp → (Str → Hp → Prop) → Prop
abbrev TJ := Str → TP1
def PP (X : Cx) (e : Expr) (t : TP1) : Prop := ∀ (pins : List (Addr × Obj)) (s : Shared) (σ : St) (H : Hp) (Q : Str → Hp → Prop), Inv X pins σ H s → t σ H Q →
  wpAny (model X.prog X.w) X.A (eval e X.env) (fun v s' => ∃ y tk H', v = .str y tk ∧ Inv X pins σ H' s' ∧ Q y H') X.xe s
def PJ (X : Cx) (es : List Expr) (t : TJ) : Prop := ∀ (acc : Str) (pins : List (Addr × Obj)) (s : Shared) (σ : St) (H : Hp) (Q : Str → Hp → Prop), Inv X pins σ H s → t acc σ H Q →
  wpAny (model X.prog X.w) X.A (joinParts acc (evalEach es X.env)) (fun v s' => ∃ y tk H', v = .str y tk ∧ Inv X pins σ H' s' ∧ Q y H') X.xe s
section
variable {X : Cx} {e : Expr} {es : List Expr} {te : TE} {tp : TP1} {t : TJ} {pos : Pos}
theorem pp_str {x : Str} {j} : PP X (.Constant (.str x) j pos) (fun _ H Q => Q x H) := fun _ _ _ H _ I h => Calls.Constant_str ⟨x, _, H, rfl, I.tok _, h⟩
theorem pp_int (he : PE X e te) : PP X (.FormattedValue e (-1) none pos) (fun σ H Q => te σ H fun v H1 => ∃ i : Int, v = .int i ∧ i.natAbs.log2 < 1920 ∧ Q (toString i) H1) := by
  intro pins s σ H Q I h
  refine FormattedValue_plain (thn (he pins s σ H _ I h) fun v s1 ⟨x, H1, I1, r1, i, e, hd, q⟩ => ?_)
  subst e
  obtain ⟨tk, rfl⟩ := r1
  exact formatField_int_small hd ⟨_, _, H1, rfl, I1.tok _, q⟩
theorem pj_nil : PJ X [] (fun acc _ H Q => acc.length ≤ sizeLine ∧ Q acc H) := by
  intro acc pins s σ H Q I h
  exact joinParts_nil ⟨acc, _, H, rfl, I.tok _, h.2⟩ h.1
theorem pj_cons (he : PP X e tp) (hr : PJ X es t) : PJ X (e :: es) (fun acc σ H Q => tp σ H fun y H1 => (acc ++ y).length ≤ sizeLine ∧ t (acc ++ y) σ H1 Q) := by
  intro acc pins s σ H Q I h
  show wpAny _ _ (joinParts acc (eval e X.env :: evalEach es X.env)) _ _ s
  refine joinParts_cons (thn (he pins s σ H _ I h) fun v s1 ⟨y, tk, H1, ev, I1, z, q⟩ => ?_)
  subst ev
  exact ⟨z, hr _ pins s1 σ H1 Q I1 q⟩
theorem pe_fstr {v₁ v₂ : Expr} (h : PJ X (v₁ :: v₂ :: es) t) : PE X (.JoinedStr (v₁ :: v₂ :: es) pos) (fun σ H Q => t Str.empty σ H fun out H' => Q (.str out) H') := by
  intro pins s σ H Q I hq
  refine JoinedStr_many (thn (h Str.empty pins s σ H _ I hq) fun v s1 ⟨y, tk, H1, ev, I1, q⟩ => ?_)
  subst ev
  exact ⟨.str y, H1, I1, ⟨tk, rfl⟩, q⟩
end
end L2

set_option Elab.async false
set_option linter.all false
set_option maxRecDepth 100000
namespace L2
open PySem PySem.Spec PyProof.Rows
/-! ### comprehensions over pairs -/
/-- V2: pairs taken apart -/
def CompV (K : PySem.W.Frag) (J : It) (tc : TT) (te : TE) (σ : St) (H : Hp) (Q : VK) : Prop := ∃ W : Nat → Nat → List V → Hp → Prop, (∃ m, W 0 m [] H) ∧ ∀ i m ys H, W i m ys H → ys.length < sizeLine ∧
  ((J.stop i H ∧ ∀ l, H l = none → Q (.ref l) (upd H l (.lst ys))) ∨
   (J.go i H ∧ ∀ v H', J.yld i H v H' → ∃ a x1 x2, v = .ref a ∧ SqT K H' a [x1, x2] ∧ tc (some x1 :: some x2 :: σ) H' fun c H2 => if c = true then te (some x1 :: some x2 :: σ) H2 fun y H3 => ∃ m', m' < m ∧ W (i + 1) m' (ys ++ [y]) H3 else ∃ m', m' < m ∧ W (i + 1) m' ys H2))
def tComp2 (K : PySem.W.Frag) (wi : TI) (tc : TT) (te : TE) : TE := fun σ H Q => wi σ H fun J H1 => CompV K J tc te σ H1 Q
def mask2 (x x' : Str) (N : List Str) : List Str := N.map fun n => if n = x then "." else if n = x' then ".." else n
structure Comp2 (X : Cx) (x x' : Str) (M : List Str) (scope : Scope) : Prop where
  kind : scope.kind = .function
  once : ∀ y ∈ scope.names, scope.names.lookup y.1 = some y.2
  dot : ∀ y ∈ scope.names, y.1 ≠ "." ∧ y.1 ≠ ".."
  free : ∀ y ∈ scope.names, y.2 = .free → X.env.kindOf y.1 = some .cell ∨ X.env.kindOf y.1 = some .free
  own : scope.names.lookup x = some .local ∨ scope.names.lookup x = some .cell
  own' : scope.names.lookup x' = some .local ∨ scope.names.lookup x' = some .cell
  mask : M = mask2 x x' X.N
  nd : (x :: x' :: M).Nodup
  apart : ∀ y ∈ M, ¬ (scope.names.lookup y = some .local ∨ scope.names.lookup y = some .cell)
def comp2Chk (outer : List (Str × NameKind)) (N : List Str) (x x' : Str) (M : List Str) (sc : Scope) : Bool :=
  (sc.kind == .function) && sc.names.all (fun y => sc.names.lookup y.1 == some y.2 && (y.1 != "." && y.1 != "..")) && sc.names.all (fun y => y.2 != .free || (outer.lookup y.1 == some .cell || outer.lookup y.1 == some .free)) &&
    (sc.names.lookup x == some .local || sc.names.lookup x == some .cell) && (sc.names.lookup x' == some .local || sc.names.lookup x' == some .cell) && (M == mask2 x x' N) && decide ((x :: x' :: M).Nodup) && M.all (fun y => !(sc.names.lookup y == some .local || sc.names.lookup y == some .cell))
theorem Comp2.of {X : Cx} {x x' : Str} {M : List Str} {scope : Scope} (h : comp2Chk X.env.scope.names X.N x x' M scope = true) : Comp2 X x x' M scope := by
  unfold comp2Chk at h
  simp only [Bool.and_eq_true, List.all_eq_true, Bool.or_eq_true, beq_iff_eq, bne_iff_ne, decide_eq_true_eq, Bool.not_eq_true', Bool.or_eq_false_iff, beq_eq_false_iff_ne] at h
  obtain ⟨⟨⟨⟨⟨⟨⟨h1, h2⟩, h3⟩, h4⟩, h4'⟩, h5⟩, h6⟩, h7⟩ := h
  exact ⟨h1, fun y hy => (h2 y hy).1, fun y hy => (h2 y hy).2, fun y hy e => (h3 y hy).elim (fun z => absurd e z) id, h4, h4', h5, h6, fun y hy z => z.elim (h7 y hy).1 (h7 y hy).2⟩
section
variable {prog : Program} {A : Around} {s : Shared} {w : World}
theorem loop2 {elt target iter : Expr} {ifs : List Expr} {scope : Scope} {pos : Pos} {it acc : Value} {env : Env} {R : Result → Shared → Prop} (I : Nat → Shared → Prop)
    (turn : ∀ n s (N : Value → Shared → Prop), I n s → wpAny (model prog w) A (pyNext it) (fun r s1 => match r with
      | none => R (.ok .next) s1
      | some v => wpAny (model prog w) A (letOwnedTupleGo target it v) (fun _ s2 => wpAny (model prog w) A (assign target env v) (fun _ s3 =>
          wpAny (model prog w) A (forIn ifs true fun c r => if r = true then do let ok ← isTrue c env (eval c env); pure (ForInStep.yield ok) else pure (ForInStep.yield r)) (fun ok s4 =>
            if ok = true then wpAny (model prog w) A (eval elt env) (fun x s5 => wpAny (model prog w) A (call (.builtin "list.append") [acc, x]) (fun _ s6 => ∃ m, m < n ∧ I m s6) N s5) N s4
            else ∃ m, m < n ∧ I m s4) N s3) N s2) N s1) N s)
    (n : Nat) (h : I n s) : codeAny (model prog w) A (.compLoop (.ListComp elt [⟨target, iter, ifs, 0⟩] scope pos) 0 it acc env) R s := by
  refine codeAny_loop rfl I (fun n s hI => ?_ ) n h
  show wpAny _ A (Sem.onRaise (compTurn (.ListComp elt [⟨target, iter, ifs, 0⟩] scope pos) 0 it acc env) fun x => do noteFrame x env; theTreesLotGoes x) _ _ s
  refine wpAny_noted ?_
  rw [compTurn_list]
  refine wpAny_bind (wpAny_standAt (wpAny_bind (thn (turn n s _ hI) fun r s1 h1 => ?_)))
  cases r with
  | none => exact wpAny_pure h1
  | some v =>
    refine wpAny_bind (thn h1 fun _ s2 h2 => wpAny_bind (thn h2 fun _ s3 h3 => wpAny_bind (thn h3 fun ok s4 h4 => ?_)))
    cases ok with
    | false => exact wpAny_pure ⟨rfl, h4⟩
    | true => exact wpAny_bind (wpAny_bind (thn h4 fun x s5 h5 => wpAny_bind (thn h5 fun _ s6 h6 => wpAny_pure (wpAny_pure ⟨rfl, h6⟩))))
end
section
variable {X : Cx} {x x' : Str} {M : List Str} {scope : Scope}
theorem Comp2.cl (S : Comp2 X x x' M scope) (ok : X.Ok) : ∀ y ∈ scope.names, y.2 = .free → ∃ c, X.env.cells.lookup y.1 = some c := fun y hy hf => ok.has y.1 (S.free y hy hf)
/-- a name of the block that is not its own: it is one of the outer context's cells -/
theorem Comp2.outer (S : Comp2 X x x' M scope) {y : Str} (hy : y ∈ M) (hv : Vis (relabel scope X.env) y) : (y, NameKind.free) ∈ scope.names ∧ ((relabel scope X.env).names.lookup y = some .cell ∨ (relabel scope X.env).names.lookup y = some .free) := by
  have na := S.apart y hy
  unfold Vis at hv
  rw [relabel_look] at hv ⊢
  cases e : scope.names.lookup y with
  | none => rw [e] at hv; simp at hv
  | some k =>
    have hk : k = .free ∨ (k ≠ .local ∧ k ≠ .cell ∧ k ≠ .free) := by
      cases k with
      | «local» => exact absurd (.inl e) na
      | cell => exact absurd (.inr e) na
      | free => exact .inl rfl
      | globalExplicit => exact .inr ⟨(fun z => by cases z), (fun z => by cases z), (fun z => by cases z)⟩
      | globalImplicit => exact .inr ⟨(fun z => by cases z), (fun z => by cases z), (fun z => by cases z)⟩
    rcases hk with rfl | ⟨h1, h2, h3⟩
    · refine ⟨PySem.mem_of_lookup e, ?_⟩
      simp only [Option.map_some]
      split
      · exact .inl rfl
      · exact .inr rfl
    · exfalso
      rw [e] at hv
      simp only [Option.map_some] at hv
      have hb : (k == NameKind.free) = false := by simpa using h3
      simp only [hb, Bool.false_and, Bool.false_eq_true, if_false, Option.some.injEq] at hv
      rcases hv with z | z | z
      · exact h1 z
      · exact h2 z
      · exact h3 z

theorem Comp2.loc (S : Comp2 X x x' M scope) : Loc (relabel scope X.env) x ∧ ((scope.names.lookup x == some NameKind.cell) = true ∨ (relabel scope X.env).names.lookup x = some .local) := by
  unfold Loc
  rw [relabel_look]
  rcases S.own with e | e
  · rw [e]
    exact ⟨.inl rfl, .inr rfl⟩
  · rw [e]
    exact ⟨.inr rfl, .inl rfl⟩
theorem Comp2.loc' (S : Comp2 X x x' M scope) : Loc (relabel scope X.env) x' ∧ ((scope.names.lookup x' == some NameKind.cell) = true ∨ (relabel scope X.env).names.lookup x' = some .local) := by
  unfold Loc
  rw [relabel_look]
  rcases S.own' with e | e
  · rw [e]
    exact ⟨.inl rfl, .inr rfl⟩
  · rw [e]
    exact ⟨.inr rfl, .inl rfl⟩
theorem mask2_get {N : List Str} {i : Nat} {y : Str} (h : (mask2 x x' N)[i]? = some y) : (y = "." ∨ y = "..") ∨ N[i]? = some y := by
  unfold mask2 at h
  rw [List.getElem?_map] at h
  cases e : N[i]? with
  | none => (rw [e] at h; cases h)
  | some n =>
    rw [e] at h
    simp only [Option.map_some, Option.some.injEq] at h
    split at h
    · exact .inl (.inl h.symm)
    · split at h
      · exact .inl (.inr h.symm)
      · exact .inr (by rw [h])
variable {pins : List (Addr × Obj)} {σ : St} {H : Hp} {s : Shared} {fp : List Addr}
theorem inv_block2 (S : Comp2 X x x' M scope) (I : Inv X pins σ H s) (fpk : ∀ b ∈ fp, FpOk X pins H b) (fpo : ∀ b ∈ fp, b < s.heap.objs.size) :
    Inv (cxComp X x (x' :: M) scope (newAcc s.heap).objs.size (blockCells X scope (newAcc s.heap).objs.size) s H fp) [] (none :: none :: σ) H { s with heap := blockHeap s.heap scope } := by
  have hC := newAcc_size s.heap
  generalize hCe : (newAcc s.heap).objs.size = C at hC ⊢
  have hD : ((newAcc s.heap).push { cls := .type "dict", data := .dict #[] }).objs.size = C + 1 := by rw [Heap.size_push, hCe]
  have ok := cellsFrom_ok scope.names ((newAcc s.heap).push { cls := .type "dict", data := .dict #[] }) (C + 1) [] ⟨fun _ _ hm => (nomatch hm), List.Pairwise.nil⟩ (by rw [hD]; exact Nat.le_refl _)
  rw [hD] at ok
  have keep : ∀ b o, s.heap.get? b = some o → (blockHeap s.heap scope).get? b = some o := fun b o e => blockHeap_keep e
  have clX : ∀ y c, X.env.cells.lookup y = some c → c < s.heap.objs.size := fun y c e => let ⟨_, z⟩ := I.cell y c e; z.lt
  have hcs : ∀ y c, (blockCells X scope C).lookup y = some c → ((y, c) ∈ cellsFrom (C + 1) scope.names [] ∧ C + 1 ≤ c ∧ (y, NameKind.cell) ∈ scope.names) ∨ X.env.cells.lookup y = some c := fun y c e => by
    unfold blockCells at e
    rw [cellsFrom_app, lookup_app] at e
    split at e
    · rename_i c' q
      cases e
      have hm := PySem.mem_of_lookup q
      rcases cellsFrom_own _ _ _ hm with ⟨a, b⟩ | z
      · exact .inl ⟨hm, a, b⟩
      · cases z
    · rcases clOf_sub X.env _ _ e with q | q
      · exact .inr q
      · cases q
  have nocell : ∀ y, (y, NameKind.free) ∈ scope.names → (cellsFrom (C + 1) scope.names []).lookup y = none := fun y hy => by
    cases q : (cellsFrom (C + 1) scope.names []).lookup y with
    | none => rfl
    | some c =>
      rcases cellsFrom_own _ _ _ (PySem.mem_of_lookup q) with ⟨_, b⟩ | z
      · have e1 := S.once _ hy
        have e2 := S.once _ b
        rw [e1] at e2
        cases e2
      · cases z
  have hfr : ∀ y c, (y, NameKind.free) ∈ scope.names → X.env.cells.lookup y = some c → (blockCells X scope C).lookup y = some c := fun y c hy hc => by
    unfold blockCells
    rw [cellsFrom_app, lookup_app, nocell y hy]
    exact clOf_has X.env hc _ _ hy
  have fsz : ∀ b ∈ fp, b ≠ C := fun b hb z => by have := ltN (fpo b hb); have := neN z; omega
  refine ⟨⟨I.mod, S.kind, I.ok.glob, I.ok.blt, (by show s.heap.objs.size ≤ C; omega), fun y z c h1 h2 => ?_, fun y hy => ?_, fun y c hf h => ?_, I.ok.hd, I.ok.frames, .inl rfl, fun b hb => ⟨fsz b hb, fun y c e z => ?_⟩, fun b o e => I.bs b o e, Nat.le_trans I.ok.bsz I.sz, fun b o e hb => ?_, fun b hb z => ?_, I.stack, I.stkFree⟩,
    rfl, I.bare, Un.kept keep, ⟨_, (by rw [← hCe]; exact (Heap.Ns.new (newAcc s.heap) (.type "dict")).keeps (pushCells_keeps _ _)), fun i y v h1 h2 h3 => ?_⟩, fun y c h => ?_, I.hok.fresh (by show s.heap.objs.size ≤ C; omega), fun y c h => ?_, fun p hp => absurd (show p ∈ ([] : List (Addr × Obj)) from hp) (by simp), I.hok.kept keep, ?_⟩
  · rcases hcs y c h1 with ⟨a1, a2, _⟩ | a <;> rcases hcs z c h2 with ⟨b1, b2, _⟩ | b
    · exact name_of_addr ok.apart a1 b1
    · have := ltN (clX z c b); have := leN a2; omega
    · have := ltN (clX y c a); have := leN b2; omega
    · exact I.ok.inj y z c a b
  · have hy' : (relabel scope X.env).names.lookup y = some .cell ∨ (relabel scope X.env).names.lookup y = some .free := hy
    rw [relabel_look] at hy'
    show ∃ c, (blockCells X scope C).lookup y = some c
    unfold blockCells
    rw [cellsFrom_app, lookup_app]
    cases q : (cellsFrom (C + 1) scope.names []).lookup y with
    | some c => exact ⟨c, rfl⟩
    | none =>
      cases e : scope.names.lookup y with
      | none => rw [e] at hy'; simp at hy'
      | some k =>
        cases k with
        | cell =>
          have := PySem.W.cellsFrom_some scope.names (C + 1) [] (.inl e)
          rw [q] at this
          cases this
        | free =>
          have hm := PySem.mem_of_lookup e
          obtain ⟨c, hc⟩ := S.cl I.ok _ hm rfl
          exact ⟨c, clOf_has X.env hc _ _ hm⟩
        | _ => rw [e] at hy'; simp at hy'
  · have hf' : (scope.names.lookup y == some NameKind.cell) = true := hf
    rcases hcs y c h with ⟨_, a, _⟩ | a
    · show s.heap.objs.size ≤ c; omega
    · exfalso
      have e1 : scope.names.lookup y = some .cell := by simpa using hf'
      have hm := PySem.mem_of_lookup e1
      have h' : (blockCells X scope C).lookup y = some c := h
      unfold blockCells at h'
      rw [cellsFrom_app, lookup_app] at h'
      have hs := PySem.W.cellsFrom_some scope.names (C + 1) [] (.inl e1)
      cases q : (cellsFrom (C + 1) scope.names []).lookup y with
      | none => rw [q] at hs; cases hs
      | some c' =>
        rw [q] at h'
        cases h'
        rcases cellsFrom_own _ _ _ (PySem.mem_of_lookup q) with ⟨z, _⟩ | z
        · have := ltN (clX y c a); have := leN z; omega
        · cases z
  · rcases hcs y c e with ⟨_, a, _⟩ | a
    · have := ltN (fpo b hb); have := leN a; have := neN z; omega
    · exact (fpk b hb).2.2.2.2.1 y c a z
  · rcases (fpk b hb).2.2.2.1 with z | z
    · exact I.ok.noex b o e z
    · exact absurd (Nat.lt_of_lt_of_le (Heap.lt_size e) (Nat.le_trans I.ok.bsz z)) (Nat.lt_irrefl _)
  · rcases List.mem_cons.mp (I.stkSub b z) with q | q
    · exact (fpk b hb).2.1 q
    · exact (fpk b hb).2.2.1 q
  · cases i with
    | zero =>
      have h2' : some (none : Option V) = some (some v) := h2
      cases h2'
    | succ i =>
     cases i with
     | zero =>
      have h2' : some (none : Option V) = some (some v) := h2
      cases h2'
     | succ i =>
      have h1' : M[i]? = some y := h1
      have h2' : σ[i]? = some (some v) := h2
      have h3' : Vis (relabel scope X.env) y := h3
      obtain ⟨fr, kd⟩ := S.outer (List.mem_of_getElem? h1') h3'
      rw [S.mask] at h1'
      rcases mask2_get h1' with q | q
      · exact q.elim (fun z => absurd z (S.dot _ fr).1) fun z => absurd z (S.dot _ fr).2
      · have kX := S.free _ fr rfl
        have vX : Vis X.env.scope y := .inr kX
        obtain ⟨m, _, hl⟩ := I.loc
        obtain ⟨u, r, l⟩ := hl i y v q h2' vX
        refine ⟨u, r, ?_⟩
        rcases l with ⟨k, _⟩ | ⟨_, c, e, z⟩
        · rcases kX with w | w
          · rw [k] at w; cases w
          · rw [k] at w; cases w
        · exact .inr ⟨kd, c, hfr y c fr e, z.keeps keep⟩
  · rcases hcs y c h with ⟨a1, _, _⟩ | a
    · exact ⟨none, (ok.empty y c a1).1⟩
    · obtain ⟨v, z⟩ := I.cell y c a
      exact ⟨v, z.keeps keep⟩
  · rcases hcs y c h with ⟨_, a, _⟩ | a
    · exact I.hok.fresh (by show s.heap.objs.size ≤ c; omega)
    · exact I.freeC y c a
  · show σ.length + 1 + 1 = M.length + 1 + 1
    rw [S.mask]
    unfold mask2
    rw [List.length_map, I.len]

theorem comp_run2 {px px' tp pos : Pos} {tk : Nat} {elt iter : Expr} {ifs : List Expr} {tc : TT} {te : TE} {it : Addr} {tn : Nat → Heap → Prop} {J : It} {Q : VK} {RR : Value → Addr → Result → Shared → Prop} (hcalm : X.calm = true) (S : Comp2 X x x' M scope)
    (hc : ∀ C cs s H fp, PTs (cxComp X x (x' :: M) scope C cs s H fp) ifs tc) (he : ∀ C cs s H fp, PE (cxComp X x (x' :: M) scope C cs s H fp) elt te)
    (I : Inv X pins σ H s) (T : Turn X.prog X.w X.K (.Tuple [.Name x px, .Name x' px'] tk tp) J fp it tn) (t0 : tn 0 s.heap) (fpk : ∀ b ∈ fp, FpOk X pins H b)
    (hw : CompV X.K J tc te σ H Q)
    (hRR : ∀ (acc C : Addr) (s' : Shared) (H' : Hp) (m : Str → Option Value), Inv X pins σ H' s' → s'.heap.Ns C m → FpOk X pins H' C → Q (.ref acc) H' → RR (.ref acc) C (.ok .next) s') :
    wpAny (model X.prog X.w) X.A (newList []) (fun acc s₃ => wpAny (model X.prog X.w) X.A (newFunctionEnv scope X.env.globals (clOf X.env scope.names []) [] X.env.qual none .none (some X.env)) (fun cenv s₄ =>
      codeAny (model X.prog X.w) X.A (.compStart (.ListComp elt [⟨.Tuple [.Name x px, .Name x' px'] tk tp, iter, ifs, 0⟩] scope pos) 0 (.ref it) acc { cenv with scope := relabel scope X.env }) (RR acc cenv.locals) s₄) X.xe s₃) X.xe s := by
  have fpo : ∀ b ∈ fp, b < s.heap.objs.size := fun b hb => let ⟨_, e, _⟩ := T.obj _ _ t0 b hb; Heap.lt_size e
  refine wpAny_newObj_type (env_comp ?_)
  have IB := inv_block2 S I fpk fpo
  have hC := newAcc_size s.heap
  obtain ⟨W, ⟨m0, w0⟩, turn⟩ := hw
  show codeAny _ _ (.compStart _ 0 (.ref it) (.ref s.heap.objs.size) (compEnvC scope (blockCells X scope (newAcc s.heap).objs.size) (newAcc s.heap).objs.size X.env)) (RR (.ref s.heap.objs.size) (newAcc s.heap).objs.size) { s with heap := blockHeap s.heap scope }
  generalize hCe : (newAcc s.heap).objs.size = C at hC IB ⊢
  have old : ∀ b o, s.heap.get? b = some o → (blockHeap s.heap scope).get? b = some o := fun b o e => blockHeap_keep e
  have t1 : tn 0 (blockHeap s.heap scope) := T.keep _ _ _ t0 fun b _ o e => old b o e
  have oacc : (blockHeap s.heap scope).get? s.heap.objs.size = some { cls := .type "list", data := .seq ([] : List Value).toArray 0 } :=
    pushCells_keeps _ _ _ _ (Heap.get?_push_of_some _ (Heap.get?_push_size _ rfl))
  have accC : s.heap.objs.size ≠ C := by omega
  have accF : s.heap.objs.size ∉ frs X.stack := fun z => by
    rcases List.mem_cons.mp (I.stkSub _ z) with q | q
    · exact absurd I.lt (by rw [← q]; exact Nat.lt_irrefl _)
    · exact I.nofs (Nat.le_refl _) q
  have stat : ∀ {H' : Hp} {o : Obj}, (∀ b ∈ fp, H' b = none) → ∀ b ∈ fp, FpOk (cxComp X x (x' :: M) scope C (blockCells X scope C) s H fp) [(s.heap.objs.size, o)] H' b := fun {H' o} hn b hb =>
    ⟨hn b hb, (IB.ok.exf b hb).1, IB.ok.exfs b hb, .inl hb, (IB.ok.exf b hb).2, fun p hp z => by
      have e : p = (s.heap.objs.size, o) := by simpa using (show p ∈ ([] : List (Addr × Obj)) ++ [(s.heap.objs.size, o)] from hp)
      have := ltN (fpo b hb)
      rw [e] at z
      have z' := neN (show s.heap.objs.size = b from z)
      omega⟩
  obtain ⟨hloc, hfn⟩ := S.loc
  obtain ⟨hloc', hfn'⟩ := S.loc'
  have loop : codeAny (model X.prog X.w) X.A (.compLoop (.ListComp elt [⟨.Tuple [.Name x px, .Name x' px'] tk tp, iter, ifs, 0⟩] scope pos) 0 (.ref it) (.ref s.heap.objs.size) (compEnvC scope (blockCells X scope C) C X.env)) (RR (.ref s.heap.objs.size) C) { s with heap := blockHeap s.heap scope } := by
    refine loop2 (fun n s' => ∃ i ys its k H', Inv (cxComp X x (x' :: M) scope C (blockCells X scope C) s H fp) [] (none :: none :: σ) H' s' ∧ tn i s'.heap ∧ (∀ b ∈ fp, H' b = none) ∧ H' s.heap.objs.size = none ∧
      s'.heap.get? s.heap.objs.size = some { cls := .type "list", data := .seq its.toArray k } ∧ Vals ys its ∧ W i n ys H') ?_ m0 ⟨0, [], [], 0, H, IB, t1, fun b hb => (fpk b hb).1, I.hok.fresh (Nat.le_refl _), oacc, .nil, w0⟩
    rintro n s1 N ⟨i, ys, its, k, H1, I1, u1, f1, a1, o1, r1, w1⟩
    obtain ⟨hlen, hcase⟩ := turn i n ys H1 w1
    have J1 : Inv (cxComp X x (x' :: M) scope C (blockCells X scope C) s H fp) [(s.heap.objs.size, { cls := .type "list", data := .seq its.toArray k })] (none :: none :: σ) H1 s1 := I1.pins_of fun p hp => by
      have e : p = (s.heap.objs.size, { cls := .type "list", data := .seq its.toArray k }) := by simpa using hp
      subst e
      exact ⟨o1, a1, accC, accF, fun v z => by cases z⟩
    rcases hcase with ⟨stop, q⟩ | ⟨go, step⟩
    · refine thn (T.done (cxComp X x (x' :: M) scope C (blockCells X scope C) s H fp) rfl rfl rfl hcalm i _ s1 _ H1 _ J1 (stat f1) u1 stop) fun r s2 ⟨hr, I2⟩ => ?_
      subst hr
      obtain ⟨m, hns, _⟩ := I2.loc
      have p2 := I2.pin _ (List.mem_append_right _ List.mem_cons_self)
      refine hRR s.heap.objs.size C s2 _ m (inv_exit I fpk I2 a1 p2.1 r1 (Nat.le_of_lt hlen)) hns (I.fpOk (by omega) ?_) (q _ a1)
      rw [upd_ne (Ne.symm accC)]
      exact I2.free
    · refine thn (T.item (cxComp X x (x' :: M) scope C (blockCells X scope C) s H fp) rfl rfl rfl hcalm i _ s1 _ H1 _ J1 (stat f1) u1 go) fun r s2 ⟨u, hr, h2⟩ => ?_
      subst hr
      refine thn h2 fun _ s3 ⟨v, H3, I3, r3, y3, u3, f3⟩ => ?_
      have I3' := I3.pinned (stat f3) (T.obj _ _ u3)
      obtain ⟨pa, v1, v2, rfl, hq, stp⟩ := step v H3 y3
      have hg : PG (cxComp X x (x' :: M) scope C (blockCells X scope C) s H fp) (.Tuple [.Name x px, .Name x' px'] tk tp) (gTup X.K 2 (gCons (gName 0) (gCons (gName 1) gNil))) :=
        pg_tup hcalm (pgs_cons (pg_name (i := 0) S.nd rfl hloc hfn) (pgs_cons (pg_name (i := 1) S.nd rfl hloc' hfn') pgs_nil))
      refine wpAny_mono (hg _ s3 _ H3 _ u (fun σ' H' => σ' = some v1 :: some v2 :: σ ∧ H' = H3) I3' r3 ⟨pa, [v1, v2], rfl, hq, rfl, v1, [v2], rfl, v2, [], rfl, rfl, rfl, rfl⟩) (fun _ s4 hs4 => ?_) fun _ _ z => z.elim
      obtain ⟨_, _, I4, rfl, rfl⟩ := hs4
      refine wpAny_mono (hc _ _ _ _ _ _ s4 _ _ _ I4 stp) (fun okv s5 ⟨H5, I5, q5⟩ => ?_) fun _ _ z => z.elim
      have back : ∀ {s' : Shared} {H' : Hp}, Inv (cxComp X x (x' :: M) scope C (blockCells X scope C) s H fp) ([(s.heap.objs.size, { cls := .type "list", data := .seq its.toArray k })] ++ pinsAt fp s3.heap) (some v1 :: some v2 :: σ) H' s' →
          Inv (cxComp X x (x' :: M) scope C (blockCells X scope C) s H fp) [] (none :: none :: σ) H' s' ∧ tn (i + 1) s'.heap ∧ (∀ b ∈ fp, H' b = none) ∧ H' s.heap.objs.size = none ∧ s'.heap.get? s.heap.objs.size = some { cls := .type "list", data := .seq its.toArray k } := fun {s' H'} K => by
        have pk : ∀ b ∈ fp, ∀ o, s3.heap.get? b = some o → s'.heap.get? b = some o ∧ H' b = none := fun b hb o e =>
          let z := K.pin (b, o) (List.mem_append_right _ (List.mem_append_right _ (mem_pinsAt hb e)))
          ⟨z.1, z.2.1⟩
        have pa := K.pin _ (List.mem_append_right _ (List.mem_append_left _ List.mem_cons_self))
        refine ⟨(K.pins_of (pins' := []) fun p hp => by cases hp).weak rfl fun j v' e => ?_, T.keep _ _ _ u3 fun b hb o e => (pk b hb o e).1, fun b hb => ?_, pa.2.1, pa.1⟩
        · cases j with
          | zero => cases e
          | succ j =>
            cases j with
            | zero => cases e
            | succ j => exact e
        · obtain ⟨o, e, _⟩ := T.obj _ _ u3 b hb
          exact (pk b hb o e).2
      cases okv with
      | false =>
        rw [if_neg Bool.false_ne_true] at q5 ⊢
        obtain ⟨m', lt, w5⟩ := q5
        obtain ⟨K1, K2, K3, K4, K5⟩ := back I5
        exact ⟨m', lt, i + 1, ys, its, k, H5, K1, K2, K3, K4, K5, r1, w5⟩
      | true =>
        rw [if_pos rfl] at q5 ⊢
        refine wpAny_mono (he _ _ _ _ _ _ s5 _ _ _ I5 q5) (fun yv s6 ⟨y, H6, I6, r6, m', lt, w6⟩ => ?_) fun _ _ z => z.elim
        obtain ⟨K1, K2, K3, K4, K5⟩ := back I6
        refine wpAny_list_append_plain (l := s.heap.objs.size) (items := its.toArray) ⟨k, K5⟩ (fun h' hl' hsb => ?_) (by rw [List.size_toArray, ← r1.length]; omega)
        obtain ⟨k', o'⟩ := hl'
        refine ⟨m', lt, i + 1, ys ++ [y], its ++ [yv], k', H6, ?_, T.keep _ _ _ K2 fun b hb o e => hsb.extBut b o (fun z => ?_) e, K3, K4, ?_, r1.append (.cons r6 .nil), w6⟩
        · refine K1.turned (t' := s6.toks) (it := s.heap.objs.size) (fun b o hb e => hsb.extBut b o hb e) K4 accC (.inr (Nat.le_refl _)) (fun y c e z => ?_) fun p hp => by cases hp
          obtain ⟨vv, ov, eov, dov⟩ := K1.cell y c e
          rw [z, K5] at eov
          cases eov
          cases dov
        · have := ltN (fpo b hb); have := neN z; omega
        · rw [o', List.push_toArray]
  exact codeAny_compStart_list loop (T.self X.A 0 _ _ _ t1 loop)

theorem pe_comp2 {px px' tp pos : Pos} {tk : Nat} {elt iter : Expr} {ifs : List Expr} {wi : TI} {tc : TT} {te : TE} (hcalm : X.calm = true) (S : Comp2 X x x' M scope) (hi : PI X (.Tuple [.Name x px, .Name x' px'] tk tp) iter wi)
    (hc : ∀ C cs s H fp, PTs (cxComp X x (x' :: M) scope C cs s H fp) ifs tc) (he : ∀ C cs s H fp, PE (cxComp X x (x' :: M) scope C cs s H fp) elt te) (hs : ∀ v, foldedSetIterable iter X.env v = pure v := by intro _; rfl) :
    PE X (.ListComp elt [⟨.Tuple [.Name x px, .Name x' px'] tk tp, iter, ifs, 0⟩] scope pos) (tComp2 X.K wi tc te) := by
  intro pins s σ H Q I h
  rw [eval_ListComp]
  refine wpAny_comprehension_free (cl := clOf X.env scope.names []) rfl hs (closure_cl (S.cl I.ok)) S.kind (fun y hy e => by rw [S.once y hy, e]) ?_
  refine thn (hi pins s σ H _ I h) fun v s1 h1 => thn h1 fun itv s2 h2 => ?_
  obtain ⟨it, fp, tn, J, H2, e, I2, T, t2, f2, hw⟩ := h2
  subst e
  refine comp_run2 (RR := fun acc C => compPost (model X.prog X.w) X.A X.xe none (EP X pins σ Q) acc C) hcalm S hc he I2 T t2 f2 hw fun acc C s' H' m I' hns fC q => ?_
  refine ⟨m, hns, fun h' hsb => ⟨.ref acc, H', ?_, rfl, q⟩⟩
  exact I'.turned (t' := s'.toks) (it := C) (fun b o hb e => hsb.extBut b o hb e) fC.1 fC.2.1 fC.2.2.2.1 fC.2.2.2.2.1 fC.2.2.2.2.2

end
end L2

set_option Elab.async false
set_option linter.all false
set_option maxRecDepth 100000
namespace L2
open PySem PySem.Spec PyProof.Rows
section
variable {P : Program} {w : World} {A : Around} {E : Value → Shared → Prop} {u : Shared}
theorem own_set {T : Addr} {a b x : Value} {k : Nat} {Q : Unit → Shared → Prop} (hT : IsPair u.heap T a b)
    (q : ∀ h', h'.get? T = some { cls := .type "tuple", data := .seq ((#[a, b] : Array Value).setIfInBounds k x) } → Heap.SameBut T u.heap h' → Q () { u with heap := h' }) : wpAny (model P w) A (updateSeq T (·.setIfInBounds k x)) Q E u := wpAny_updateSeq_pair hT q

end
end L2

set_option Elab.async false
set_option linter.all false
set_option maxRecDepth 100000
namespace L2
open PySem PySem.Spec PyProof.Rows
section
variable {P : Program} {w : World} {A : Around} {E : Value → Shared → Prop} {u : Shared}
end
/-- records of no one else changed, one pair new -/
theorem Inv.walked {X : Cx} {pins : List (Addr × Obj)} {σ : St} {H : Hp} {s : Shared} {h' : Heap} {fp : List Addr} {x y : V} {vx vy : Value} (I : Inv X pins σ H s) (hf : ∀ b ∈ fp, FpOk X pins H b)
    (k : ∀ b o, b ∉ fp → s.heap.get? b = some o → h'.get? b = some o) (hp : IsPair h' s.heap.objs.size vx vy) (rx : RelV x vx) (ry : RelV y vy) : Inv X pins σ (upd H s.heap.objs.size (.tup [x, y])) { s with heap := h' } := by
  have hn := I.hok.fresh (a := s.heap.objs.size) (Nat.le_refl _)
  have ne : ∀ b o, H b = some o → b ≠ s.heap.objs.size := fun b o e => ne_of_none e hn
  have out : ∀ b o, H b = some o → b ∉ fp := fun b o e z => by rw [(hf b z).1] at e; cases e
  refine I.call' (s' := { s with heap := h' }) (ch := fp) rfl ⟨fun b o e n _ hx => k b o hx e, fun b o e n _ hx => ⟨o.slots, k b o hx e⟩, fun b o e n hx => ?_, fun b o e hx => ⟨o, k b o hx e⟩, fun b xs e => ?_, fun b o xs e => ?_, fun b ps e => ?_⟩ (fun b o e => ?_) I.bare fun b hb => ?_
  · rw [upd_ne (Nat.ne_of_lt (Heap.lt_size e))]
    exact n
  · rw [upd_ne (ne _ _ e)]; exact e
  · rw [upd_ne (ne _ _ e)]; exact e
  · exact ⟨#[], by rw [upd_ne (ne _ _ e), e]; simp⟩
  · by_cases hb : b = s.heap.objs.size
    · subst hb
      rw [upd_same] at e
      cases e
      exact ⟨by show 2 ≤ sizeLine; decide, [vx, vy], .cons rx (.cons ry .nil), ⟨_, hp, rfl, _, rfl⟩⟩
    · rw [upd_ne hb] at e
      refine (I.hok b o e).stay (fun c v hc q => k c v ?_ q) (fun c q => by rw [upd_ne (ne _ _ q)]; exact q) fun c xs q => by rw [upd_ne (ne _ _ q)]; exact q
      rcases hc with z | z
      · rw [z]; exact out _ _ e
      · exact out _ _ z
  · obtain ⟨_, a, _, b1, b2, b3⟩ := hf b hb
    exact ⟨b1, a, b2, b3⟩
theorem Inv.strolled {X : Cx} {pins : List (Addr × Obj)} {σ : St} {H : Hp} {s : Shared} {h' : Heap} {fp : List Addr} (I : Inv X pins σ H s) (hf : ∀ b ∈ fp, FpOk X pins H b)
    (k : ∀ b o, b ∉ fp → s.heap.get? b = some o → h'.get? b = some o) : Inv X pins σ H { s with heap := h' } := by
  have out : ∀ b o, H b = some o → b ∉ fp := fun b o e z => by rw [(hf b z).1] at e; cases e
  refine I.call' (s' := { s with heap := h' }) (ch := fp) rfl ⟨fun b o e n _ hx => k b o hx e, fun b o e n _ hx => ⟨o.slots, k b o hx e⟩, fun b o e n hx => n, fun b o e hx => ⟨o, k b o hx e⟩, fun b xs e => e, fun b o xs e => e, fun b ps e => ⟨#[], by rw [e]; simp⟩⟩ (fun b o e => ?_) I.bare fun b hb => ?_
  · refine (I.hok b o e).stay (fun c v hc q => k c v ?_ q) (fun c q => q) fun c xs q => q
    rcases hc with z | z
    · rw [z]; exact out _ _ e
    · exact out _ _ z
  · obtain ⟨_, a, _, b1, b2, b3⟩ := hf b hb
    exact ⟨b1, a, b2, b3⟩
section
variable {X : Cx}
theorem pe_comp2K {K : PySem.W.Frag} {x x' : Str} {M : List Str} {scope : Scope} {px px' tp pos : Pos} {tk : Nat} {elt iter : Expr} {ifs : List Expr} {wi : TI} {tc : TT} {te : TE} (hK : X.K = K) (hcalm : X.calm = true) (S : Comp2 X x x' M scope) (hi : PI X (.Tuple [.Name x px, .Name x' px'] tk tp) iter wi)
    (hc : ∀ C cs s H fp, PTs (cxComp X x (x' :: M) scope C cs s H fp) ifs tc) (he : ∀ C cs s H fp, PE (cxComp X x (x' :: M) scope C cs s H fp) elt te) (hs : ∀ v, foldedSetIterable iter X.env v = pure v := by intro _; rfl) :
    PE X (.ListComp elt [⟨.Tuple [.Name x px, .Name x' px'] tk tp, iter, ifs, 0⟩] scope pos) (tComp2 K wi tc te) := hK ▸ pe_comp2 hcalm S hi hc he hs
end
end L2

set_option Elab.async false
set_option linter.all false
set_option maxRecDepth 100000
namespace L2
open PySem PySem.Spec PyProof.Rows
open PySem.AutoSeq1 (wpAny_loadPart')
section
variable {prog : Program} {w : World} {A : Around} {E : Value → Shared → Prop} {s : Shared}
/-! ### sorted of a list of ints -/
set_option maxHeartbeats 2000000 in
theorem sorted_list {a : Addr} {vs : List Value} {ks : List Int} {Q : Value → Shared → Prop} (hL : s.heap.IsList a vs.toArray) (hI : IntsAre vs ks) (h64 : vs.length < 64)
    (h : ∀ (s' : Shared) (l : Addr) (its : List Value) (ns : List Int) (e : Nat), (∀ b o, s.heap.get? b = some o → s'.heap.get? b = some o) → s'.gens = s.gens → s'.os = s.os → s.heap.get? l = none →
      s'.heap.get? l = some { cls := .type "list", data := .seq its.toArray e } → IntsAre its ns → ns.Perm ks → ns.Pairwise (· ≤ ·) → Q (.ref l) s') : wpAny (model prog w) A (call (.builtin "sorted") [.ref a]) Q E s := by
  have hz : vs.length ≤ sizeLine := by rw [sizeLine_eq]; omega
  refine Calls.call_function_entry kind_sorted plain_sorted entry_sorted (args_sorted1 _) ?_
  unfold Builtin.«sorted»
  refine wpAny_bind (m := checkCount "sorted" 1 1 _) (wpAny_pure ?_)
  refine wpAny_bind (collect_list (A := A.in1) hL ?_ hz)
  generalize hh1 : (s.heap.push (seqObj "list" #[] 0)).update s.heap.objs.size (Obj.mapSeq (· ++ vs.toArray)) = h1
  have k : ∀ b o, s.heap.get? b = some o → h1.get? b = some o := fun b o e => by
    rw [← hh1, Heap.get?_update_other _ _ (Nat.ne_of_gt (Heap.lt_size e))]
    exact Heap.get?_push_of_some _ e
  clear hh1
  refine wpAny_bind (wpAny_newList ?_ hz)
  have oL : (h1.push (seqObj "list" vs.toArray 0)).get? h1.objs.size = some (seqObj "list" vs.toArray 0) := Heap.get?_push_size _ rfl
  have hnew : s.heap.get? h1.objs.size = none := by
    cases hq : s.heap.get? h1.objs.size with
    | some ob => exact absurd (Heap.lt_size (k _ _ hq)) (Nat.lt_irrefl _)
    | none => rfl
  refine wpAny_bind (wpAny_holding (wpAny_call_entry slot_list_sort ⟨_, oL, rfl⟩ entry_list_sort (list_sort_tree (s := { s with heap := h1.push (seqObj "list" vs.toArray 0) }) oL hI h64 fun out ns' a1 a2 a3 => ⟨_, rfl, ?_⟩) (args_list_sort _)))
  obtain ⟨e, he⟩ := sortedHeap_at (out := out) oL
  refine wpAny_pure ⟨_, rfl, h _ _ out.toList ns' e (fun b ob z => ?_) rfl rfl hnew he a1 a2 a3⟩
  have hb := Heap.lt_size (k b ob z)
  show (sortedHeap _ _ _ _).get? b = some ob
  rw [sortedHeap_old (Nat.ne_of_lt hb) (by rw [size_push']; exact Nat.lt_succ_of_lt hb), Heap.get?_push_ne _ _ _ (Nat.ne_of_lt hb)]
  exact k b ob z
/-! ### what a list's reversed iterator gives, collected -/
end
section
variable {X : Cx}
theorem call_sorted_list (hc : X.calm = true) : CallR X (.builtin "sorted") (fun xs H Q => ∃ p ns0, xs = [.ref p] ∧ SqL X.K H p (ns0.map V.int) ∧ ns0.length < 64 ∧ ∀ (l : Addr) (ns : List Int), H l = none → ns.Perm ns0 → ns.Pairwise (· ≤ ·) → Q (.ref l) (upd H l (.lst (ns.map V.int)))) := by
  intro pins s σ H xs us Q I rv h
  obtain ⟨p, ns0, rfl, hp, h64, q⟩ := h
  obtain ⟨u, rfl, r⟩ := vals1 rv
  cases r
  obtain ⟨its, ri, pl, hz⟩ := I.list hp
  have hlen : its.length = ns0.length := by rw [← ri.length, List.length_map]
  refine sorted_list pl.isList (intsAre_of ri) (by omega) fun s' l its' ns e k hg ho hn he hi hpm hs => ?_
  have hl2 := hpm.length_eq
  refine ⟨.ref l, _, I.newAt (o := .lst (ns.map V.int)) k hg ho hn ⟨?_, its', e, vals_ints hi, he⟩, rfl, q l ns (I.none_of hn) hpm hs⟩
  rw [List.length_map, hl2, sizeLine_eq]
  omega
theorem sortedLK {K : PySem.W.Frag} (h : X.K = K) (hc : X.calm = true) : CallR X (.builtin "sorted") (fun xs H Q => ∃ p ns0, xs = [.ref p] ∧ SqL K H p (ns0.map V.int) ∧ ns0.length < 64 ∧ ∀ (l : Addr) (ns : List Int), H l = none → ns.Perm ns0 → ns.Pairwise (· ≤ ·) → Q (.ref l) (upd H l (.lst (ns.map V.int)))) := h ▸ call_sorted_list hc
end
end L2

set_option Elab.async false
set_option linter.all false
set_option maxRecDepth 100000
namespace L2
open PySem PySem.Spec PyProof.Rows
section
variable {P : Program} {w : World} {A : Around} {E : Value → Shared → Prop} {u : Shared}
/-- a pair of two lists' items -/
theorem zipL_item {z TI TO i j t r : Addr} {k : Nat} {xs ys : Array Value} {x y a b : Value} {Q : Option Value → Shared → Prop} (D : ZipApart z TI TO i j t r)
    (hz : IsZip u.heap z TI TO .none) (hI : IsPair u.heap TI (.ref i) (.ref j)) (hO : IsPair u.heap TO a b)
    (hi : u.heap.IsListIter i t k) (hj : u.heap.IsListIter j r k) (ht : u.heap.IsList t xs) (hr : u.heap.IsList r ys) (hx : xs[k]? = some x) (hy : ys[k]? = some y)
    (q : ∀ h', IsZip h' z TI TO (rawInt u.heap.objs.size) → IsPair h' TO x y → h'.IsListIter i t (k + 1) → h'.IsListIter j r (k + 1) → IsPair h' u.heap.objs.size x y → h'.objs.size = u.heap.objs.size + 1 →
      (∀ c o, c ≠ z → c ≠ TO → c ≠ i → c ≠ j → u.heap.get? c = some o → h'.get? c = some o) → Q (some (.ref u.heap.objs.size)) { u with heap := h' }) :
    wpAny (model P w) A (pyNext (.ref z)) Q E u := by
  have hT : u.TypeIs (.ref z) "zip" := ⟨_, hz, rfl⟩
  unfold pyNext
  refine wpAny_bind (wpAny_attempt (wpAny_callSpecial?_slot (name := Str.ofString "__next__") hT F.slot_zip_next (wpAny_call_entry F.slot_zip_next hT F.entry_zip_next ?_ (F.args_zip_next_1 _))))
  show wpAny _ _ (field (.ref z) 2 >>= _) _ _ u
  refine wpAny_bind (wpAny_field hz rfl (x := .bool false) rfl (show wpAny _ _ (field (.ref z) 3 >>= _) _ _ u from ?_))
  refine wpAny_bind (wpAny_field hz rfl (x := .ref TI) rfl (wpAny_bind (wpAny_seqItems hI rfl ?_)))
  show wpAny _ _ (Builtin.SmallTypes.ownedTupleIsFree (.ref z) >>= _) _ _ u
  refine wpAny_bind ?_
  unfold  Builtin.SmallTypes.ownedTupleIsFree
  refine wpAny_bind (wpAny_field hz rfl (x := .none) rfl (wpAny_pure ?_ ))
  simp only [if_true]
  refine wpAny_bind (wpAny_rule (wpAny_bind (wpAny_field hz rfl (x := .ref TO) rfl (wpAny_bind (wpAny_setField_rec hz (by simp) fun g1 z1 s1 => ?_)))))
  have z1' : IsZip g1 z TI TO .ellipsis := z1
  refine wpAny_bind ?_
  simp only [List.zipIdx_nil, List.zipIdx_cons, List.forIn_nil, List.forIn_cons]
  refine wpAny_bind (wpAny_bind (wpAny_onRaise (show wpAny _ _ (Builtin.SmallTypes.nextOf (.ref i) >>= _) _ _ _ from ?_)))
  refine wpAny_bind (wpAny_nextOf_list_item (hi.extBut s1.extBut D.i1z) (ht.extBut s1.extBut D.l1z) hx fun g2 i2 s2 => wpAny_pure ?_)
  have O2 : IsPair g2 TO a b := s2.extBut _ _ D.TOi1 (s1.extBut _ _ D.TOz hO)
  refine wpAny_bind (wpAny_seqItems O2 rfl (wpAny_bind (own_set O2 fun g3 O3' s3 => wpAny_bind (wpAny_letGo (wpAny_pure ?_)))))
  have O3 : IsPair g3 TO x b := O3'
  refine wpAny_bind (wpAny_bind (wpAny_onRaise (show wpAny _ _ (Builtin.SmallTypes.nextOf (.ref j) >>= _) _ _ _ from ?_)))
  refine wpAny_bind (wpAny_nextOf_list_item (((hj.extBut s1.extBut D.i2z).extBut s2.extBut D.i12.symm).extBut s3.extBut D.TOi2.symm) (((hr.extBut s1.extBut D.l2z).extBut s2.extBut D.l2i1).extBut s3.extBut D.l2TO) hy fun g4 j4 s4 => wpAny_pure ?_)
  have O4 : IsPair g4 TO x b := s4.extBut _ _ D.TOi2 O3
  refine wpAny_bind (wpAny_seqItems O4 rfl (wpAny_bind (own_set O4 fun g5 O5' s5 => wpAny_bind (wpAny_letGo (wpAny_pure (wpAny_pure ?_))))))
  have O5 : IsPair g5 TO x y := O5'
  refine wpAny_bind (wpAny_seqItems O5 rfl (wpAny_bind (wpAny_newTuple ?_)))
  have sz : g5.objs.size = u.heap.objs.size := by rw [s5.1, s4.1, s3.1, s2.1, s1.1]
  have z5 : IsZip g5 z TI TO .ellipsis := s5.extBut _ _ D.TOz.symm (s4.extBut _ _ D.i2z.symm (s3.extBut _ _ D.TOz.symm (s2.extBut _ _ D.i1z.symm z1')))
  have k5 : ∀ c o, c ≠ z → c ≠ TO → c ≠ i → c ≠ j → u.heap.get? c = some o → g5.get? c = some o := fun c o c1 c2 c3 c4 e => s5.extBut _ _ c2 (s4.extBut _ _ c4 (s3.extBut _ _ c2 (s2.extBut _ _ c3 (s1.extBut _ _ c1 e))))
  have i5 : g5.IsListIter i t (k + 1) := ((i2.extBut s3.extBut D.TOi1.symm).extBut s4.extBut D.i12).extBut s5.extBut D.TOi1.symm
  have j5 : g5.IsListIter j r (k + 1) := j4.extBut s5.extBut D.TOi2.symm
  have zl : z < g5.objs.size := Heap.lt_size z5
  show wpAny _ _ (Builtin.SmallTypes.ownedTupleHandOut (.ref z) (.ref g5.objs.size) >>= _) _ _ _
  refine wpAny_bind ?_
  unfold  Builtin.SmallTypes.ownedTupleHandOut
  have z6 : IsZip (g5.push { cls := .type "tuple", data := .seq #[x, y] }) z TI TO .ellipsis := Heap.get?_push_of_some _ z5
  refine wpAny_bind (wpAny_setField_rec z6 (by simp) fun g7 z7' s7 => ?_)
  have z7 : IsZip g7 z TI TO (rawInt g5.objs.size) := z7'
  refine wpAny_setField_rec z7 (by simp) fun g8 z8' s8 => ?_
  have z8 : IsZip g8 z TI TO (rawInt g5.objs.size) := z8'
  have up : ∀ c o, c ≠ z → g5.get? c = some o → g8.get? c = some o := fun c o c1 e => s8.extBut _ _ c1 (s7.extBut _ _ c1 (Heap.get?_push_of_some _ e))
  have t8 : IsPair g8 g5.objs.size x y := s8.extBut _ _ (Nat.ne_of_gt zl) (s7.extBut _ _ (Nat.ne_of_gt zl) (Heap.get?_push_size _ rfl))
  have n8 : g8.objs.size = g5.objs.size + 1 := by rw [s8.1, s7.1, Heap.size_push]
  rw [sz] at z8 t8 n8
  refine wpAny_pure ⟨_, rfl, wpAny_pure ?_⟩
  show Q (some (.ref g5.objs.size)) _
  rw [sz]
  exact q g8 z8 (up _ _ D.TOz O5) (by obtain ⟨o, e, c⟩ := i5; exact ⟨o, up _ o D.i1z e, c⟩) (by obtain ⟨o, e, c⟩ := j5; exact ⟨o, up _ o D.i2z e, c⟩) t8 n8 fun c o c1 c2 c3 c4 e => up c o c1 (k5 c o c1 c2 c3 c4 e)
theorem zipL_end {z TI TO i j t r : Addr} {k : Nat} {xs ys : Array Value} {a b : Value} {Q : Option Value → Shared → Prop} (hA : A.handled = none) (D : ZipApart z TI TO i j t r)
    (hz : IsZip u.heap z TI TO .none) (hI : IsPair u.heap TI (.ref i) (.ref j)) (hO : IsPair u.heap TO a b)
    (hi : u.heap.IsListIter i t k) (hj : u.heap.IsListIter j r k) (ht : u.heap.IsList t xs) (hr : u.heap.IsList r ys) (he : xs[k]? = none ∨ ys[k]? = none)
    (q : ∀ h', (∀ c o, c ≠ z → c ≠ TO → c ≠ i → c ≠ j → u.heap.get? c = some o → h'.get? c = some o) → Q none { u with heap := h' }) : wpAny (model P w) A (pyNext (.ref z)) Q E u := by
  have hT : u.TypeIs (.ref z) "zip" := ⟨_, hz, rfl⟩
  unfold pyNext
  refine wpAny_bind (wpAny_attempt (wpAny_callSpecial?_slot (name := Str.ofString "__next__") hT F.slot_zip_next (wpAny_call_entry F.slot_zip_next hT F.entry_zip_next ?_ (F.args_zip_next_1 _))))
  have fin : ∀ h' e, (∀ c o, c ≠ z → c ≠ TO → c ≠ i → c ≠ j → u.heap.get? c = some o → h'.get? c = some o) → (∃ o, h'.get? e = some o ∧ o.cls = .type "StopIteration") →
      wpAny (model P w) A (isInstance (.ref e) (.type "StopIteration") >>= fun b => if b = true then pure none else throw (.ref e)) Q E { u with heap := h' } := fun h' e hk hx => by
    obtain ⟨o, eo, co⟩ := hx
    refine wpAny_bind (wpAny_isInstance (T := "StopIteration") (b := true) ⟨o, eo, co⟩ isSubtype_stop ?_)
    exact wpAny_pure (q _ hk)
  show wpAny _ _ (field (.ref z) 2 >>= _) _ _ u
  refine wpAny_bind (wpAny_field hz rfl (x := .bool false) rfl (show wpAny _ _ (field (.ref z) 3 >>= _) _ _ u from ?_))
  refine wpAny_bind (wpAny_field hz rfl (x := .ref TI) rfl (wpAny_bind (wpAny_seqItems hI rfl ?_)))
  show wpAny _ _ (Builtin.SmallTypes.ownedTupleIsFree (.ref z) >>= _) _ _ u
  refine wpAny_bind ?_
  unfold  Builtin.SmallTypes.ownedTupleIsFree
  refine wpAny_bind (wpAny_field hz rfl (x := .none) rfl (wpAny_pure ?_ ))
  simp only [if_true]
  refine wpAny_bind (wpAny_rule (wpAny_bind (wpAny_field hz rfl (x := .ref TO) rfl (wpAny_bind (wpAny_setField_rec hz (by simp) fun g1 z1 s1 => ?_)))))
  have z1' : IsZip g1 z TI TO .ellipsis := z1
  refine wpAny_bind ?_
  simp only [List.zipIdx_nil, List.zipIdx_cons, List.forIn_nil, List.forIn_cons]
  refine wpAny_bind (wpAny_bind (wpAny_onRaise (show wpAny _ _ (Builtin.SmallTypes.nextOf (.ref i) >>= _) _ _ _ from ?_)))
  cases hx : xs[k]? with
  | none =>
    refine wpAny_bind (wpAny_nextOf_list_end hA (hi.extBut s1.extBut D.i1z) (ht.extBut s1.extBut D.l1z) hx fun g2 e s2 hE => ?_)
    obtain ⟨oe, ee, ce⟩ := hE
    have z2 : IsZip g2 z TI TO .ellipsis := s2 _ _ D.i1z.symm z1'
    have ez : e ≠ z := fun x => by subst x; rw [z2] at ee; cases ee; simp at ce
    exact wpAny_setField_rec z2 (by simp) fun g3 _ s3 => fin g3 e (fun c o c1 _ c3 _ x => s3.extBut _ _ c1 (s2 _ _ c3 (s1.extBut _ _ c1 x))) ⟨oe, s3.extBut _ _ ez ee, ce⟩
  | some x =>
    have hy : ys[k]? = none := he.elim (fun h => by rw [hx] at h; cases h) id
    refine wpAny_bind (wpAny_nextOf_list_item (hi.extBut s1.extBut D.i1z) (ht.extBut s1.extBut D.l1z) hx fun g2 i2 s2 => wpAny_pure ?_)
    have O2 : IsPair g2 TO a b := s2.extBut _ _ D.TOi1 (s1.extBut _ _ D.TOz hO)
    refine wpAny_bind (wpAny_seqItems O2 rfl (wpAny_bind (own_set O2 fun g3 O3' s3 => wpAny_bind (wpAny_letGo (wpAny_pure ?_)))))
    refine wpAny_bind (wpAny_bind (wpAny_onRaise (show wpAny _ _ (Builtin.SmallTypes.nextOf (.ref j) >>= _) _ _ _ from ?_)))
    refine wpAny_bind (wpAny_nextOf_list_end hA (((hj.extBut s1.extBut D.i2z).extBut s2.extBut D.i12.symm).extBut s3.extBut D.TOi2.symm) (((hr.extBut s1.extBut D.l2z).extBut s2.extBut D.l2i1).extBut s3.extBut D.l2TO) hy fun g4 e s4 hE => ?_)
    obtain ⟨oe, ee, ce⟩ := hE
    have z4 : IsZip g4 z TI TO .ellipsis := s4 _ _ D.i2z.symm (s3.extBut _ _ D.TOz.symm (s2.extBut _ _ D.i1z.symm z1'))
    have ez : e ≠ z := fun x => by subst x; rw [z4] at ee; cases ee; simp at ce
    exact wpAny_setField_rec z4 (by simp) fun g5 _ s5 => fin g5 e (fun c o c1 c2 c3 c4 x => s5.extBut _ _ c1 (s4 _ _ c4 (s3.extBut _ _ c2 (s2.extBut _ _ c3 (s1.extBut _ _ c1 x))))) ⟨oe, s5.extBut _ _ ez ee, ce⟩
end
abbrev zL1 (h : Heap) (a : Addr) : Heap := h.push { cls := .type "list_iterator", data := .fields #[.ref a, .int 0 0] }
abbrev zL2 (h : Heap) (a b : Addr) : Heap := (zL1 h a).push { cls := .type "list_iterator", data := .fields #[.ref b, .int 0 0] }
abbrev zL3 (h : Heap) (a b : Addr) : Heap := (zL2 h a b).push { cls := .type "tuple", data := .seq #[.ref h.objs.size, .ref (zL1 h a).objs.size] }
abbrev zL4 (h : Heap) (a b : Addr) : Heap := (zL3 h a b).push { cls := .type "tuple", data := .seq #[.none, .none] }
abbrev zL5 (h : Heap) (a b : Addr) : Heap := (zL4 h a b).push { cls := .type "zip", data := .fields #[.none, .bool false, .bool false, .ref (zL2 h a b).objs.size, .ref (zL3 h a b).objs.size] }
theorem zipL_meets (a b : Addr) (xs ys : Array Value) : Meets (Builtin.«zip.__new__» ⟨[.type "zip", .ref a, .ref b], []⟩) (fun _ R s => s.heap.IsList a xs ∧ s.heap.IsList b ys ∧
    R (.ok (.ret (.ref (zL4 s.heap a b).objs.size))) { s with heap := zL5 s.heap a b }) :=
  .of_wp fun p w A R s h => by
    obtain ⟨hp, gs, d, tk, os⟩ := s
    obtain ⟨ha, hb, h⟩ := h
    have hsub := sub_zip
    have h1 : Heap.IsList (Shared.heap ⟨hp, gs, d, tk, os⟩) a xs := ha
    have h2 : Heap.IsList (Shared.heap ⟨hp.push { cls := .type "list_iterator", data := .fields #[.ref a, .int 0 0] }, gs, d, tk, os⟩) b ys := Heap.IsList.push hb _
    wp_walk using wpAny_pyIter_list h1, wpAny_pyIter_list h2
    exact ⟨_, rfl, h⟩
section
variable {P : Program} {w : World} {A : Around} {E : Value → Shared → Prop} {u : Shared}
theorem call_zipL {a b : Addr} {xs ys : Array Value} {Q : Value → Shared → Prop} (ha : u.heap.IsList a xs) (hb : u.heap.IsList b ys)
    (q : ∀ h', IsZip h' (u.heap.objs.size + 4) (u.heap.objs.size + 2) (u.heap.objs.size + 3) .none → IsPair h' (u.heap.objs.size + 2) (.ref u.heap.objs.size) (.ref (u.heap.objs.size + 1)) →
      IsPair h' (u.heap.objs.size + 3) .none .none → h'.IsListIter u.heap.objs.size a 0 → h'.IsListIter (u.heap.objs.size + 1) b 0 →
      (∀ c o, u.heap.get? c = some o → h'.get? c = some o) → Q (.ref (u.heap.objs.size + 4)) { u with heap := h' }) :
    wpAny (model P w) A (call (.type "zip") [.ref a, .ref b]) Q E u := by
  refine callType_new F.called_zip (by decide) (F.typeCall_zip_2 _ _) (F.newCall_zip_2 _ _) (fun obj => F.args_object_init_3 obj _ _) F.entry_zip_new (zipL_meets a b xs ys) ⟨ha, hb, ?_⟩
  have n1 : (zL1 u.heap a).objs.size = u.heap.objs.size + 1 := Heap.size_push ..
  have n2 : (zL2 u.heap a b).objs.size = u.heap.objs.size + 2 := by rw [Heap.size_push, n1]
  have n3 : (zL3 u.heap a b).objs.size = u.heap.objs.size + 3 := by rw [Heap.size_push, n2]
  have n4 : (zL4 u.heap a b).objs.size = u.heap.objs.size + 4 := by rw [Heap.size_push, n3]
  have up : ∀ {h : Heap} {c : Addr} {o p : Obj}, h.get? c = some o → (h.push p).get? c = some o := fun e => Heap.get?_push_of_some _ e
  have g5 : (zL5 u.heap a b).get? (zL4 u.heap a b).objs.size = some _ := Heap.get?_push_size _ rfl
  have g4 : (zL5 u.heap a b).get? (zL3 u.heap a b).objs.size = some _ := up (Heap.get?_push_size _ rfl)
  have g3 : (zL5 u.heap a b).get? (zL2 u.heap a b).objs.size = some _ := up (up (Heap.get?_push_size _ rfl))
  have g2 : (zL5 u.heap a b).get? (zL1 u.heap a).objs.size = some _ := up (up (up (Heap.get?_push_size _ rfl)))
  have g1 : (zL5 u.heap a b).get? u.heap.objs.size = some _ := up (up (up (up (Heap.get?_push_size _ rfl))))
  show _ ∧ _
  rw [n2, n3, n4] at g5
  rw [n1, n2] at g3
  rw [n3] at g4
  rw [n1] at g2
  rw [n4]
  exact ⟨⟨_, g5, rfl⟩, q _ g5 g3 g4 ⟨_, g1, rfl, rfl⟩ ⟨_, g2, rfl, rfl⟩ fun c o x => up (up (up (up (up x))))⟩
end
/-- the pairs of two lists -/
def Itlz (K : PySem.W.Frag) (a b : Addr) : It :=
  ⟨fun i H => ∃ xs ys x y, SqL K H a xs ∧ SqL K H b ys ∧ xs[i]? = some x ∧ ys[i]? = some y,
   fun i H v H' => ∃ p, H p = none ∧ v = .ref p ∧ ∀ xs ys x y, SqL K H a xs → SqL K H b ys → xs[i]? = some x → ys[i]? = some y → H' = upd H p (.tup [x, y]),
   fun i H => ∃ xs ys, SqL K H a xs ∧ SqL K H b ys ∧ (xs.length ≤ i ∨ ys.length ≤ i)⟩
theorem turn_zipL {P : Program} {w : World} {K : PySem.W.Frag} {es : List Expr} {tk : Nat} {tp : Pos} {a b z TI TO i1 i2 : Addr} (D : ZipApart z TI TO i1 i2 a b) :
    Turn P w K (.Tuple es tk tp) (Itlz K a b) [z, TI, TO, i1, i2] z (fun i h => IsZip h z TI TO .none ∧ IsPair h TI (.ref i1) (.ref i2) ∧ (∃ x y, IsPair h TO x y) ∧ h.IsListIter i1 a i ∧ h.IsListIter i2 b i) where
  mem := by simp
  obj := fun i h st c hc => by
    obtain ⟨hz, hI, ⟨x, y, hO⟩, ⟨o1, e1, _, d1⟩, ⟨o2, e2, _, d2⟩⟩ := st
    simp only [List.mem_cons, List.not_mem_nil, or_false] at hc
    rcases hc with rfl | rfl | rfl | rfl | rfl
    · exact ⟨_, hz, fun v q => by cases q⟩
    · exact ⟨_, hI, fun v q => by cases q⟩
    · exact ⟨_, hO, fun v q => by cases q⟩
    · exact ⟨_, e1, fun v q => by rw [d1] at q; cases q⟩
    · exact ⟨_, e2, fun v q => by rw [d2] at q; cases q⟩
  keep := fun i h h' st k => by
    obtain ⟨hz, hI, ⟨x, y, hO⟩, ⟨o1, e1, c1⟩, ⟨o2, e2, c2⟩⟩ := st
    exact ⟨k z (by simp) _ hz, k TI (by simp) _ hI, ⟨x, y, k TO (by simp) _ hO⟩, ⟨o1, k i1 (by simp) _ e1, c1⟩, ⟨o2, k i2 (by simp) _ e2, c2⟩⟩
  item := by
    intro X hP hw hK hc i pins s σ H E I hf st hg
    subst hP hw hK
    obtain ⟨hz, hI, ⟨x0, y0, hO⟩, h1, h2⟩ := st
    obtain ⟨xs, ys, x, y, ha, hb, hx, hy⟩ := hg
    obtain ⟨its, rv, p, _⟩ := I.list ha
    obtain ⟨its2, rv2, p2, _⟩ := I.list hb
    obtain ⟨u, hu, ru⟩ := rv.get hx
    obtain ⟨v, hv, rv'⟩ := rv2.get hy
    refine zipL_item D hz hI hO h1 h2 (show s.heap.IsList a its.toArray from p.isList) (show s.heap.IsList b its2.toArray from p2.isList) (x := u) (y := v) (by simpa using hu) (by simpa using hv) fun h' z' O' i1' i2' T' n' k' => ?_
    refine ⟨_, rfl, ?_⟩
    refine wpAny_letOwnedTupleGo_zip (s := { s with heap := h' }) z' fun h'' z'' s'' => ?_
    have s2 : Heap.SameBut z h' h'' := s''
    have zl : z < s.heap.objs.size := Heap.lt_size hz
    have kk : ∀ c o, c ∉ [z, TI, TO, i1, i2] → s.heap.get? c = some o → h''.get? c = some o := fun c o hc e => by
      simp only [List.mem_cons, List.not_mem_nil, or_false, not_or] at hc
      exact s2.extBut _ _ hc.1 (k' c o hc.1 hc.2.2.1 hc.2.2.2.1 hc.2.2.2.2 e)
    have I2 := I.walked hf kk (s2.extBut _ _ (Nat.ne_of_gt zl) T') ru rv'
    refine ⟨.ref s.heap.objs.size, _, I2, rfl, ⟨_, I.hok.fresh (Nat.le_refl _), rfl, fun xs' ys' x' y' ha' hb' hx' hy' => ?_⟩, ⟨z'', s2.extBut _ _ D.TIz (k' _ _ D.TIz D.TITO D.TIi1 D.TIi2 hI), ⟨_, _, s2.extBut _ _ D.TOz O'⟩, i1'.extBut s2.extBut D.i1z, i2'.extBut s2.extBut D.i2z⟩, fun c hc => ?_⟩
    · rw [I.list_inj ha' ha] at hx'
      rw [I.list_inj hb' hb] at hy'
      rw [hx] at hx'
      rw [hy] at hy'
      cases hx'
      cases hy'
      rfl
    · rw [upd_ne ?_]
      · exact (hf c hc).1
      · intro e
        have lt : c < s.heap.objs.size := by
          simp only [List.mem_cons, List.not_mem_nil, or_false] at hc
          rcases hc with rfl | rfl | rfl | rfl | rfl
          · exact zl
          · exact Heap.lt_size hI
          · exact Heap.lt_size hO
          · obtain ⟨_, e1, _⟩ := h1; exact Heap.lt_size e1
          · obtain ⟨_, e1, _⟩ := h2; exact Heap.lt_size e1
        rw [e] at lt
        exact Nat.lt_irrefl _ lt
  done := by
    intro X hP hw hK hc i pins s σ H E I hf st hg
    subst hP hw hK
    obtain ⟨hz, hI, ⟨x0, y0, hO⟩, h1, h2⟩ := st
    obtain ⟨xs, ys, ha, hb, hle⟩ := hg
    obtain ⟨its, rv, p, _⟩ := I.list ha
    obtain ⟨its2, rv2, p2, _⟩ := I.list hb
    have l1 := rv.length
    have l2 := rv2.length
    refine zipL_end (I.ok.hd hc) D hz hI hO h1 h2 (show s.heap.IsList a its.toArray from p.isList) (show s.heap.IsList b its2.toArray from p2.isList) ?_ fun h' k' => ⟨rfl, I.strolled hf fun c o hc e => ?_⟩
    · rcases hle with z | z
      · exact .inl (by simp; omega)
      · exact .inr (by simp; omega)
    · simp only [List.mem_cons, List.not_mem_nil, or_false, not_or] at hc
      exact k' c o hc.1 hc.2.2.1 hc.2.2.2.1 hc.2.2.2.2 e
  self := fun _ _ _ _ _ st h => wpAny_pyIter_zip st.1 h
section
variable {X : Cx}
def iZipL (K : PySem.W.Frag) (ta : TA) : TI := fun σ H R => ta σ H fun vs H1 => ∃ a b xs ys, vs = [.ref a, .ref b] ∧ SqL K H1 a xs ∧ SqL K H1 b ys ∧ R (Itlz K a b) H1
theorem pi_zipL {K : PySem.W.Frag} {es : List Expr} {tk : Nat} {tp : Pos} {a b : Expr} {ta : TA} {p pos : Pos} (hK : X.K = K) (hg : Gl X "zip") (hm : X.mg "zip" = none) (ha : PA X [a, b] ta) (hs : starEach [a, b] X.env = [(false, eval a X.env), (false, eval b X.env)] := by rfl) (hs2 : starEach [b] X.env = [(false, eval b X.env)] := by rfl) :
    PI X (.Tuple es tk tp) (.Call (.Name "zip" p) [a, b] [] pos) (iZipL K ta) := by
  subst hK
  intro pins s σ H R I h
  refine Call_ (ld_blt I hg hm boot_zip (PyProof.Rows.callWith_type1 (thn (ha pos pins s σ H _ I h) fun us s1 ⟨vs, H1, I1, r1, q1⟩ => ?_) (by rw [hs, hs2]) (by rw [hs2]; rfl)))
  obtain ⟨a', b', xs, ys, e, qa, qb, q⟩ := q1
  subst e
  cases r1 with
  | cons r rr =>
    cases rr with
    | cons r' rr =>
      cases rr
      cases r
      cases r'
      obtain ⟨its, rv, p1, _⟩ := I1.list qa
      obtain ⟨its2, rv2, p2, _⟩ := I1.list qb
      have t1 : s1.heap.IsList a' its.toArray := p1.isList
      have t2 : s1.heap.IsList b' its2.toArray := p2.isList
      have l1 : a' < s1.heap.objs.size := by obtain ⟨_, e, _⟩ := t1; exact Heap.lt_size e
      have l2 : b' < s1.heap.objs.size := by obtain ⟨_, e, _⟩ := t2; exact Heap.lt_size e
      refine call_zipL t1 t2 fun h' hz hI hO i1 i2 k => ?_
      refine wpAny_pyIter_zip (s := { s1 with heap := h' }) hz ?_
      refine ⟨s1.heap.objs.size + 4, [s1.heap.objs.size + 4, s1.heap.objs.size + 2, s1.heap.objs.size + 3, s1.heap.objs.size, s1.heap.objs.size + 1], _, _, H1, rfl, I1.kept (t' := s1.toks) k, turn_zipL (zipApart_new l1 l2), ⟨hz, hI, ⟨_, _, hO⟩, i1, i2⟩, fun c hc => ?_, q⟩
      have le : s1.heap.objs.size ≤ c := by
        simp only [List.mem_cons, List.not_mem_nil, or_false] at hc
        rcases hc with rfl | rfl | rfl | rfl | rfl
        · exact Nat.le_add_right _ _
        · exact Nat.le_add_right _ _
        · exact Nat.le_add_right _ _
        · exact Nat.le_refl _
        · exact Nat.le_add_right _ _
      exact I1.fpOk le (I1.hok.fresh le)
end
/-- over the pairs of two lists -/
theorem comp_zipL {K : PySem.W.Frag} {a b : Addr} {xs ys : List V} {te : TE} {σ : St} {H : Hp} {Q : VK} (f : V → V → V) (hl : ys.length = xs.length) (hz : xs.length < sizeLine) (ha : SqL K H a xs) (hb : SqL K H b ys)
    (hs : ∀ (i : Nat) x y H', xs[i]? = some x → ys[i]? = some y → Same H H' → ∀ R : VK, R (f x y) H' → te (some x :: some y :: σ) H' R) (hd : ∀ H' l, Same H H' → H' l = none → Q (.ref l) (upd H' l (.lst (List.zipWith f xs ys)))) : CompV K (Itlz K a b) tTrue te σ H Q := by
  refine ⟨fun i m zs H' => m + i = xs.length ∧ zs = List.zipWith f (xs.take i) (ys.take i) ∧ Same H H', ⟨xs.length, rfl, rfl, Same.refl _⟩, ?_⟩
  rintro i m zs H1 ⟨hm, rfl, s1⟩
  have hlen : (List.zipWith f (xs.take i) (ys.take i)).length ≤ xs.length := by
    rw [List.length_zipWith, List.length_take, List.length_take]
    omega
  refine ⟨Nat.lt_of_le_of_lt hlen hz, ?_⟩
  by_cases hi : i < xs.length
  · obtain ⟨x, hx⟩ : ∃ x, xs[i]? = some x := ⟨_, List.getElem?_eq_getElem hi⟩
    obtain ⟨y, hy⟩ : ∃ y, ys[i]? = some y := ⟨_, List.getElem?_eq_getElem (show i < ys.length by omega)⟩
    refine .inr ⟨⟨xs, ys, x, y, s1.seq ha, s1.seq hb, hx, hy⟩, fun v H' ⟨p, hp, e, g⟩ => ?_⟩
    have g' := g xs ys x y (s1.seq ha) (s1.seq hb) hx hy
    subst e g'
    have s2 := s1.put (o := .tup [x, y]) hp
    refine ⟨p, x, y, rfl, .of upd_same, ?_⟩
    unfold tTrue
    dsimp only
    rw [if_pos rfl]
    refine hs i x y _ hx hy s2 _ ⟨m - 1, by omega, by omega, ?_, s2⟩
    rw [List.take_succ, List.take_succ, hx, hy, List.zipWith_append (by rw [List.length_take, List.length_take]; omega)]
    rfl
  · have e : i = xs.length := by omega
    subst e
    refine .inl ⟨⟨xs, ys, s1.seq ha, s1.seq hb, .inl (Nat.le_refl _)⟩, fun l hl' => ?_⟩
    rw [List.take_length, ← hl, List.take_length]
    exact hd H1 l s1 hl'
end L2

set_option Elab.async false
set_option linter.all false
set_option maxRecDepth 100000
namespace L2
open PySem PySem.Spec PyProof.Rows PySem.Builtin PySem.Builtin.Str
/-! ### texts: join, split, int(text), one sign after another -/
section
variable {X : Cx} {K : PySem.W.Frag}
theorem strs_vals : ∀ l : List (Str × Tok), Vals ((l.map (·.1)).map V.str) (strValues l)
  | [] => .nil
  | p :: r => .cons ⟨p.2, rfl⟩ (strs_vals r)
theorem split_own {prog : Program} {w : World} {A : Around} {E : Value → Shared → Prop} {s : Shared} {Q : Value → Shared → Prop} {x y : Str} {t u : Tok} (hy : (y.length == 0) = false) (hz : x.length + 2 ≤ sizeLine)
    (h : ∀ (l : List (Str × Tok)) (k : Nat), l.map (·.1) = Txt.split x y → Q (.ref s.heap.objs.size) { s with heap := s.heap.push { cls := .type "list", data := .seq (strValues l).toArray }, toks := k }) : wpAny (model prog w) A (call (.builtin "str.split") [.str x t, .str y u]) Q E s := by
  have few : (partsBetween x (occurrences x y 0 x.length (x.length + 1)) y.length).length ≤ sizeLine := by
    have := StrLaws.occ_length_le x y 0 x.length (x.length + 1)
    rw [length_partsBetween]
    omega
  by_cases g1 : (decide (x.length < y.length) || decide (strKind x < strKind y)) = true
  · refine call_meets F.slot_str_split (typeIs_str _ _ _) F.entry_str_split (F.args_str_split_2 _ _) (meets_str_split_cannot_occur x y t u g1) ?_
    exact h [(x, t)] s.toks (if_pos g1).symm
  · have g1' := Bool.eq_false_iff.mpr g1
    by_cases g2 : (occurrences x y 0 x.length (x.length + 1)).isEmpty = true
    · refine call_meets F.slot_str_split (typeIs_str _ _ _) F.entry_str_split (F.args_str_split_2 _ _) (meets_str_split_not_found x y t u g1' hy g2) ?_
      exact h [(x, t)] s.toks ((if_neg g1).trans (if_pos g2)).symm
    · have g2' := Bool.eq_false_iff.mpr g2
      refine call_meets F.slot_str_split (typeIs_str _ _ _) F.entry_str_split (F.args_str_split_2 _ _) (meets_str_split_sep x y t u g1' hy g2' (by omega) few) ?_
      have e := h (numbered s.toks (partsBetween x (occurrences x y 0 x.length (x.length + 1)) y.length)) (s.toks + (partsBetween x (occurrences x y 0 x.length (x.length + 1)) y.length).length) ((numbered_texts _ _).trans ((if_neg g1).trans (if_neg g2)).symm)
      rw [← strsFrom_eq] at e
      exact e
def rSplit : V → List V → Hp → VK → Prop := fun x vs H Q => ∃ z y : Str, x = .str z ∧ vs = [.str y] ∧ (y.length == 0) = false ∧ z.length + 2 ≤ sizeLine ∧ ∀ l, H l = none → Q (.ref l) (upd H l (.lst ((Txt.split z y).map V.str)))
/-- z.split(y) -/
theorem mt_split : MtR X "str.split" rSplit := by
  intro pins s σ H x vs v us Q I rx rv h
  obtain ⟨z, y, rfl, rfl, hy, hz, q⟩ := h
  obtain ⟨t, rfl⟩ := rx
  obtain ⟨u, rfl, ru⟩ := vals1 rv
  obtain ⟨t', rfl⟩ := ru
  refine split_own hy hz fun l k e => ?_
  have hv : Vals ((Txt.split z y).map V.str) (strValues l) := by rw [← e]; exact strs_vals l
  have hl := split_le z y
  exact ⟨.ref _, _, I.lnew (t' := k) hv (by rw [List.length_map]; omega), rfl, q _ I.fresh⟩
theorem len_txt : CallR X (.builtin "len") (fun xs H Q => ∃ z : Str, xs = [.str z] ∧ z.length ≤ sizeLine ∧ Q (.int (z.length : Int)) H) := by
  intro pins s σ H xs us Q I r h
  obtain ⟨z, rfl, hz, q⟩ := h
  exact call_len pins s σ H _ us Q I r ⟨.str z, z.length, rfl, ⟨hz, rfl⟩, q⟩
/-- the signs of a text -/
def Isg (x : Str) : It := ⟨fun i _ => i < x.cps.size, fun i H v H' => H' = H ∧ ∃ c, x.cps[i]? = some c ∧ v = .str ⟨#[c]⟩, fun i _ => i = x.cps.size⟩
theorem turn_str {P : Program} {w : World} {tg : Expr} (it : Addr) (x : Str) (t : Tok) (ty : String) (hty : ["enumerate", "zip", "dict_itemiterator", "dict_reverseitemiterator", "odict_iterator", "itertools.zip_longest", "itertools.pairwise"].contains ty = false)
    (W : ∀ A : Around, A.handled = none → Walks P w A it [it] [it] x.cps.size (SignAt x) (fun i h => h.IsStrIter it ty x t i)) (hs : ∀ (A : Around) (i : Nat) (s : Shared) (Q : Value → Shared → Prop) (E : Value → Shared → Prop), s.heap.IsStrIter it ty x t i → Q (.ref it) s → wpAny (model P w) A (pyIter (.ref it)) Q E s) :
    Turn P w K tg (Isg x) [it] it (fun i h => h.IsStrIter it ty x t i) where
  mem := by simp
  obj := fun i h st b hb => by
    have e : b = it := by simpa using hb
    subst e
    obtain ⟨o, e, c, d⟩ := st
    exact ⟨o, e, fun v z => by rw [d] at z; cases z⟩
  keep := fun i h h' st k => by
    obtain ⟨o, e, c, d⟩ := st
    exact ⟨o, k it (by simp) o e, c, d⟩
  item := by
    intro X hP hw hK hc i pins s σ H E I hf st hg
    subst hP hw hK
    obtain ⟨f0, f1, f2, f3, f4, f5⟩ := hf it (by simp)
    refine (W X.A (I.ok.hd hc)).item i s _ _ hg st fun v h' tk hv st' kk => ?_
    obtain ⟨c, u, hx, rfl⟩ := hv
    have I1 : Inv X pins σ H { s with heap := h', toks := tk } := I.turned (fun b o hb e => kk b o (by simpa using hb) e) f0 f1 f3 f4 f5
    obtain ⟨o, e, c1, d1⟩ := id st'
    exact ⟨_, rfl, go_of (s := { s with heap := h', toks := tk }) e c1 d1 hty ⟨.str ⟨#[c]⟩, H, I1, ⟨u, rfl⟩, ⟨rfl, c, hx, rfl⟩, st', fun b hb => (hf b hb).1⟩⟩
  done := by
    intro X hP hw hK hc i pins s σ H E I hf st hg
    subst hP hw hK
    obtain ⟨f0, f1, f2, f3, f4, f5⟩ := hf it (by simp)
    have hg' : i = x.cps.size := hg
    subst hg'
    exact (W X.A (I.ok.hd hc)).done s _ _ st fun h' tk kk => ⟨rfl, I.turned (fun b o hb e => kk b o (by simpa using hb) e) f0 f1 f3 f4 f5⟩
  self := fun A i s Q E st h => hs A i s Q E st h
def iStr (tl : TE) : TI := fun σ H R => tl σ H fun x H1 => ∃ z : Str, x = .str z ∧ R (Isg z) H1
theorem pi_str {tg l : Expr} {tl : TE} (hl : PE X l tl) : PI X tg l (iStr tl) := by
  intro pins s σ H R I h
  refine thn (hl pins s σ H _ I h) fun v s1 ⟨x, H1, I1, r1, z, e, q⟩ => ?_
  subst e
  obtain ⟨t, rfl⟩ := r1
  have fp : ∀ b ∈ [s1.heap.objs.size], FpOk X pins H1 b := fun b hb => by
    have e : b = s1.heap.objs.size := by simpa using hb
    subst e
    exact I1.fpOk (Nat.le_refl _) (I1.hok.fresh (Nat.le_refl _))
  cases ha : z.cps.all (· < 128)
  · refine wpAny_pyIter_wide ha ?_
    exact ⟨s1.heap.objs.size, [s1.heap.objs.size], _, _, H1, rfl, I1.kept (t' := s1.toks) fun b o e => Heap.get?_push_of_some _ e, turn_str s1.heap.objs.size z t "str_iterator" (by decide) (fun A hA => Walks.strWide hA _ z t) (fun A i s Q E st h => wpAny_pyIter_striter_wide st h), ⟨_, Heap.get?_push_size _ rfl, rfl, rfl⟩, fp, q⟩
  · refine wpAny_pyIter_ascii ha ?_
    exact ⟨s1.heap.objs.size, [s1.heap.objs.size], _, _, H1, rfl, I1.kept (t' := s1.toks) fun b o e => Heap.get?_push_of_some _ e, turn_str s1.heap.objs.size z t "str_ascii_iterator" (by decide) (fun A hA => Walks.strAscii hA _ z t) (fun A i s Q E st h => wpAny_pyIter_striter_ascii st h), ⟨_, Heap.get?_push_size _ rfl, rfl, rfl⟩, fp, q⟩
theorem for_text {x : Str} {g : TG} {tb : TS} {D : Ends} {σ : L2.St} {H : Hp} (Pv : Nat → L2.St → Hp → Prop) (h0 : Pv 0 σ H)
    (hs : ∀ i c σ H, x.cps[i]? = some c → Pv i σ H → g (.str ⟨#[c]⟩) σ H fun σ2 H2 => tb { D with nx := Pv (i + 1), ct := Pv (i + 1), bk := D.nx } σ2 H2) (hd : ∀ σ H, Pv x.cps.size σ H → D.nx σ H) :
    ∃ W : Nat → Nat → L2.St → Hp → Prop, (∃ m, W 0 m σ H) ∧ ∀ i m σ H, W i m σ H →
      ((Isg x).stop i H ∧ D.nx σ H) ∨ ((Isg x).go i H ∧ ∃ N : L2.St → Hp → Prop, (∀ σ' H', N σ' H' → ∃ m', m' < m ∧ W (i + 1) m' σ' H') ∧ ∀ v H', (Isg x).yld i H v H' → g v σ H' fun σ2 H2 => tb { D with nx := N, ct := N, bk := D.nx } σ2 H2) := by
  refine ⟨fun i m σ H => m = x.cps.size - i ∧ i ≤ x.cps.size ∧ Pv i σ H, ⟨x.cps.size, by simp, Nat.zero_le _, h0⟩, ?_⟩
  rintro i m σ H ⟨rfl, hi, p⟩
  by_cases hlt : i < x.cps.size
  · refine .inr ⟨hlt, Pv (i + 1), fun σ' H' p' => ⟨x.cps.size - (i + 1), by omega, rfl, hlt, p'⟩, fun v H' y => ?_⟩
    obtain ⟨e, c, hc, rfl⟩ := y
    subst e
    exact hs i c σ _ hc p
  · have e : i = x.cps.size := by omega
    subst e
    exact .inl ⟨rfl, hd σ H p⟩
end
/-! ### what is joined is split again -/
def jn : List (List Nat) → List Nat
  | [] => []
  | [a] => a
  | a :: b :: r => a ++ 32 :: jn (b :: r)
theorem app_cut {c : Nat} : ∀ {a b x y : List Nat}, c ∉ a → c ∉ b → a ++ c :: x = b ++ c :: y → a = b ∧ x = y
  | [], [], _, _, _, _, h => ⟨rfl, (List.cons.inj h).2⟩
  | [], q :: b, _, _, _, hb, h => by
    have := (List.cons.inj h).1
    exact absurd (by rw [this]; exact List.mem_cons_self) hb
  | p :: a, [], _, _, ha, _, h => by
    have := (List.cons.inj h).1
    exact absurd (by rw [← this]; exact List.mem_cons_self) ha
  | p :: a, q :: b, _, _, ha, hb, h => by
    obtain ⟨h1, h2⟩ := List.cons.inj h
    obtain ⟨h3, h4⟩ := app_cut (fun z => ha (List.mem_cons_of_mem _ z)) (fun z => hb (List.mem_cons_of_mem _ z)) h2
    exact ⟨by rw [h1, h3], h4⟩
theorem jn_inj : ∀ {xs ys : List (List Nat)}, xs ≠ [] → ys ≠ [] → (∀ a ∈ xs, 32 ∉ a) → (∀ a ∈ ys, 32 ∉ a) → jn xs = jn ys → xs = ys
  | [], _, h, _, _, _, _ => absurd rfl h
  | _, [], _, h, _, _, _ => absurd rfl h
  | [a], [b], _, _, _, _, h => by
    have h' : a = b := h
    rw [h']
  | [a], b :: c :: r, _, _, ha, _, h => by
    have h' : a = b ++ 32 :: jn (c :: r) := h
    exact absurd (by rw [h']; exact List.mem_append_right _ List.mem_cons_self) (ha a List.mem_cons_self)
  | a :: c :: r, [b], _, _, _, hb, h => by
    have h' : a ++ 32 :: jn (c :: r) = b := h
    exact absurd (by rw [← h']; exact List.mem_append_right _ List.mem_cons_self) (hb b List.mem_cons_self)
  | a :: c :: r, b :: d :: t, _, _, ha, hb, h => by
    have h' : a ++ 32 :: jn (c :: r) = b ++ 32 :: jn (d :: t) := h
    obtain ⟨h1, h2⟩ := app_cut (ha a List.mem_cons_self) (hb b List.mem_cons_self) h'
    rw [h1, jn_inj (by simp) (by simp) (fun x hx => ha x (List.mem_cons_of_mem _ hx)) (fun x hx => hb x (List.mem_cons_of_mem _ hx)) h2]
theorem join_jn : ∀ ws : List Str, (Str.join ⟨#[32]⟩ ws).cps.toList = jn (ws.map fun w => w.cps.toList)
  | [] => rfl
  | [_] => rfl
  | a :: b :: r => by
    have ih := join_jn (b :: r)
    show (a ++ ⟨#[32]⟩ ++ Str.join ⟨#[32]⟩ (b :: r)).cps.toList = _
    rw [Str.cps_append, Str.cps_append, Array.toList_append, Array.toList_append, ih]
    show (a.cps.toList ++ [32]) ++ _ = a.cps.toList ++ 32 :: jn _
    rw [List.append_assoc]
    rfl
/-- a text split at its blanks -/
theorem split_is {x : Str} {ws : List (List Nat)} (h0 : ws ≠ []) (hf : ∀ a ∈ ws, 32 ∉ a) (h : x.cps.toList = jn ws) : Txt.split x ⟨#[32]⟩ = ws.map fun a => (⟨a.toArray⟩ : Str) := by
  have h1 := StrLaws.join_split x ⟨#[32]⟩
  have h2 := join_jn (Txt.split x ⟨#[32]⟩)
  rw [h1, h] at h2
  have hp := split_pos x ⟨#[32]⟩
  have e := jn_inj h0 (fun z => by
    have := congrArg List.length z
    rw [List.length_map] at this
    simp at this
    rw [this] at hp
    exact absurd hp (by decide)) hf (fun a ha => by
    obtain ⟨p, hp, rfl⟩ := List.mem_map.mp ha
    exact StrLaws.split_free x 32 p hp) h2
  rw [e, List.map_map]
  symm
  refine (List.map_congr_left fun p _ => ?_).trans (List.map_id _)
  show (⟨p.cps.toList.toArray⟩ : Str) = p
  cases p
  simp
end L2

set_option Elab.async false
set_option linter.all false
set_option maxRecDepth 100000
namespace CY
open PySem PySem.Spec PyProof.Rows L2

/-! ### the mathematics: what a purse makes -/
inductive Made (cs : List Int) : Int → Prop where
  | zero : Made cs 0
  | add {n c : Int} : Made cs n → c ∈ cs → Made cs (n + c)
open Classical in
noncomputable def mk (cs : List Int) (n : Int) : Bool := decide (Made cs n)
theorem mk_iff {cs : List Int} {n : Int} : mk cs n = true ↔ Made cs n := by
  unfold mk
  exact @decide_eq_true_iff _ (Classical.propDecidable _)
def Pos (cs : List Int) : Prop := ∀ c ∈ cs, 0 < c
theorem Made.nonneg {cs : List Int} (h : Pos cs) {n : Int} (m : Made cs n) : 0 ≤ n := by
  induction m with
  | zero => exact Int.le_refl _
  | add _ hc ih => have := h _ hc; omega
theorem Made.mono {cs ds : List Int} (h : ∀ c ∈ cs, c ∈ ds) {n : Int} (m : Made cs n) : Made ds n := by
  induction m with
  | zero => exact .zero
  | add _ hc ih => exact .add ih (h _ hc)
theorem Made.plus {cs : List Int} {a b : Int} (h : Made cs a) (g : Made cs b) : Made cs (a + b) := by
  induction g with
  | zero => rw [Int.add_zero]; exact h
  | add _ hc ih => rw [← Int.add_assoc]; exact .add ih hc
theorem Made.one {cs : List Int} {c : Int} (h : c ∈ cs) : Made cs c := by
  have := Made.add (cs := cs) .zero h
  rwa [Int.zero_add] at this
/-- coins that others make bring nothing -/
theorem Made.trans {cs ds : List Int} (h : ∀ c ∈ cs, Made ds c) {n : Int} (m : Made cs n) : Made ds n := by
  induction m with
  | zero => exact .zero
  | add _ hc ih => exact ih.plus (h _ hc)
theorem mk_zero (cs : List Int) : mk cs 0 = true := mk_iff.mpr .zero
/-- a purse of the laws: rising, not empty, few coins, from 1 to m -/
structure Purse (m : Int) (cs : List Int) : Prop where
  rise : cs.Pairwise (· < ·)
  ne : cs ≠ []
  few : cs.length ≤ 40
  lo : ∀ c ∈ cs, 1 ≤ c
  hi : ∀ c ∈ cs, c ≤ m
theorem Purse.pos {m : Int} {cs : List Int} (p : Purse m cs) : Pos cs := fun c hc => by have := p.lo c hc; omega

/-! ### the laws' own helpers: what they promise -/
def cell (ns : List Int) (k : Int) : Int := if k < ns.length then ns.getD k.toNat 0 else 0
abbrev ivs (ns : List Int) : List V := ns.map V.int
theorem ivs_get {ns : List Int} {i : Nat} (h : i < ns.length) : (ivs ns)[i]? = some (.int (ns.getD i 0)) := by
  simp [List.getD_eq_getElem?_getD, h]
def sp_cell (K : PySem.W.Frag) : Sp := fun vs H Q _ => ∃ (a : Addr) (ns : List Int) (k : Int), vs = [.ref a, .int k] ∧ SqL K H a (ivs ns) ∧ 0 ≤ k ∧ Q (.int (cell ns k)) H
/-- the table up to n -/
noncomputable def tab (cs : List Int) (n : Nat) : List V := (List.range (n + 1)).map fun (i : Nat) => V.bl (mk cs i)
/-- the built-ins that the texts name -/
structure Tx (mg : Str → Option Value) : Prop where
  b_len : mg "len" = none
  b_isinstance : mg "isinstance" = none
  b_max : mg "max" = none
  b_sorted : mg "sorted" = none
  b_set : mg "set" = none
  b_tuple : mg "tuple" = none
  b_list : mg "list" = none
  b_int : mg "int" = none
  b_bool : mg "bool" = none
  b_range : mg "range" = none
  b_min : mg "min" = none
  b_sum : mg "sum" = none
  b_zip : mg "zip" = none
  b_str : mg "str" = none
  b_ValueError : mg "ValueError" = none
  b_reversed : mg "reversed" = none
  b_enumerate : mg "enumerate" = none
end CY

set_option Elab.async false
set_option linter.all false
set_option maxRecDepth 100000
namespace CY
open PySem PySem.Spec PyProof.Rows L2

/-! ### more mathematics -/
theorem made_nil {n : Int} (m : Made [] n) : n = 0 := by
  cases m with
  | zero => rfl
  | add _ hc => cases hc
theorem mk_congr {cs ds : List Int} (h : ∀ n, Made cs n ↔ Made ds n) (n : Int) : mk cs n = mk ds n := by
  rw [Bool.eq_iff_iff, mk_iff, mk_iff]
  exact h n
/-- only coins that are no greater come to a sum -/
theorem Made.le {cs : List Int} (h : Pos cs) {n : Int} (m : Made cs n) : Made (cs.filter fun c => decide (c ≤ n)) n := by
  have key : ∀ k, n ≤ k → Made (cs.filter fun c => decide (c ≤ k)) n := by
    induction m with
    | zero => exact fun _ _ => .zero
    | @add a c m hc ih =>
      intro k hk
      have h0 := m.nonneg h
      exact .add (ih k (by have := h c hc; omega)) (List.mem_filter.mpr ⟨hc, decide_eq_true (by omega)⟩)
  exact key n (Int.le_refl _)
theorem pos_sub {cs ds : List Int} (h : Pos cs) (s : ∀ c ∈ ds, c ∈ cs) : Pos ds := fun c hc => h c (s c hc)
/-- one coin more -/
theorem mk_snoc {ds : List Int} {c : Int} (h : Pos ds) (hc : 0 < c) {n : Int} : mk (ds ++ [c]) n = (mk ds n || (decide (c ≤ n) && mk (ds ++ [c]) (n - c))) := by
  have hp : Pos (ds ++ [c]) := fun x hx => (List.mem_append.mp hx).elim (h x) fun z => by rw [List.mem_singleton.mp z]; exact hc
  rw [Bool.eq_iff_iff, Bool.or_eq_true, Bool.and_eq_true, mk_iff, mk_iff, mk_iff, decide_eq_true_iff]
  constructor
  · intro m
    -- taken out: a coin c, if there is one
    have key : ∀ {k : Int}, Made (ds ++ [c]) k → Made ds k ∨ Made (ds ++ [c]) (k - c) := by
      intro k m
      induction m with
      | zero => exact .inl .zero
      | @add a b m hb ih =>
        rcases List.mem_append.mp hb with hb' | hb'
        · rcases ih with ih | ih
          · exact .inl (ih.add hb')
          · exact .inr (by rw [show a + b - c = a - c + b by omega]; exact ih.add hb)
        · rw [List.mem_singleton.mp hb']
          exact .inr (by rw [show a + c - c = a by omega]; exact m)
    rcases key m with z | z
    · exact .inl z
    · exact .inr ⟨by have := z.nonneg hp; omega, z⟩
  · rintro (z | ⟨_, z⟩)
    · exact z.mono fun x hx => List.mem_append_left _ hx
    · have := z.add (c := c) (List.mem_append_right _ List.mem_cons_self)
      rwa [show n - c + c = n by omega] at this
/-- the needless coins, the least purse -/
noncomputable def nl (cs : List Int) : List Int := cs.filter fun c => mk (cs.filter fun d => decide (d < c)) c
noncomputable def lp (cs : List Int) : List Int := cs.filter fun c => !mk (cs.filter fun d => decide (d < c)) c
/-- what is kept of a purse's first coins -/
noncomputable def kept : List Int → List Int → List Int
  | ks, [] => ks
  | ks, c :: r => kept (if mk ks c = true then ks else ks ++ [c]) r
theorem made_snoc_of {ks : List Int} {c : Int} (h : Made ks c) (n : Int) : Made (ks ++ [c]) n ↔ Made ks n :=
  ⟨fun m => m.trans fun x hx => (List.mem_append.mp hx).elim .one fun z => by rw [List.mem_singleton.mp z]; exact h, fun m => m.mono fun x hx => List.mem_append_left _ hx⟩
theorem made_snoc_congr {ks ps : List Int} (e : ∀ n, Made ks n ↔ Made ps n) (c n : Int) : Made (ks ++ [c]) n ↔ Made (ps ++ [c]) n := by
  have one : ∀ {as bs : List Int}, (∀ n, Made as n → Made bs n) → Made (as ++ [c]) n → Made (bs ++ [c]) n := fun {as bs} f m =>
    m.trans fun x hx => (List.mem_append.mp hx).elim (fun z => (f x (.one z)).mono fun y hy => List.mem_append_left _ hy) fun z => .one (List.mem_append_right _ z)
  exact ⟨one fun n => (e n).mp, one fun n => (e n).mpr⟩
theorem kept_same : ∀ (r ks ps : List Int), (∀ n, Made ks n ↔ Made ps n) → ∀ n, Made (kept ks r) n ↔ Made (ps ++ r) n
  | [], ks, ps, e, n => by rw [List.append_nil]; exact e n
  | c :: r, ks, ps, e, n => by
    unfold kept
    have a : ps ++ c :: r = (ps ++ [c]) ++ r := by simp
    rw [a]
    split
    · rename_i h
      refine kept_same r ks (ps ++ [c]) (fun m => ?_) n
      rw [made_snoc_of ((e c).mp (mk_iff.mp h))]
      exact e m
    · exact kept_same r _ _ (fun m => made_snoc_congr e c m) n
/-- the greatest common divisor -/
def gcdL (cs : List Int) : Nat := cs.foldl (fun g c => Nat.gcd g c.toNat) 0
theorem gcdL_go : ∀ (cs : List Int) (g : Nat), cs.foldl (fun g c => Nat.gcd g c.toNat) g = Nat.gcd g (gcdL cs)
  | [], g => by unfold gcdL; simp
  | c :: r, g => by
    unfold gcdL
    rw [List.foldl_cons, List.foldl_cons, gcdL_go r, gcdL_go r, Nat.gcd_zero_left, Nat.gcd_assoc]
theorem gcdL_cons (c : Int) (r : List Int) : gcdL (c :: r) = Nat.gcd c.toNat (gcdL r) := by
  show (c :: r).foldl _ 0 = _
  rw [List.foldl_cons, gcdL_go, Nat.gcd_zero_left]
theorem gcdL_dvd : ∀ (cs : List Int), ∀ c ∈ cs, gcdL cs ∣ c.toNat
  | [], _, h => by cases h
  | c :: r, d, h => by
    rw [gcdL_cons]
    rcases List.mem_cons.mp h with e | h
    · rw [e]; exact Nat.gcd_dvd_left _ _
    · exact Nat.dvd_trans (Nat.gcd_dvd_right _ _) (gcdL_dvd r d h)
/-! ### promises of the program -/
def sp_whole : Sp := fun vs H Q _ => ∃ i : Int, vs = [.int i] ∧ Q (.bl true) H
def sp_checked (K : PySem.W.Frag) : Sp := fun vs H Q _ => ∃ (t : Addr) (cs : List Int), vs = [.ref t] ∧ H t = some (.tup (ivs cs)) ∧ Purse 400 cs ∧ Q (.ref t) H
def sp_gcd : Sp := fun vs H Q _ => ∃ a b : Int, vs = [.int a, .int b] ∧ 0 ≤ a ∧ 0 ≤ b ∧ Q (.int (Nat.gcd a.toNat b.toNat : Nat)) H
def sp_divisor (K : PySem.W.Frag) : Sp := fun vs H Q _ => ∃ (t : Addr) (cs : List Int), vs = [.ref t] ∧ H t = some (.tup (ivs cs)) ∧ Purse 400 cs ∧ Q (.int (gcdL cs : Nat)) H
def sp_addcoin : Sp := fun vs H Q _ => ∃ (l : Addr) (ds : List Int) (n : Nat) (c : Int), vs = [.ref l, .int c] ∧ H l = some (.lst (tab ds n)) ∧ Pos ds ∧ 0 < c ∧ n ≤ 200000 ∧ c ≤ 200000 ∧ Q .non (upd H l (.lst (tab (ds ++ [c]) n)))
end CY

set_option Elab.async false
set_option linter.all false
set_option maxRecDepth 100000
namespace CY
open PySem PySem.Spec PyProof.Rows L2
/-- rising lists with the same members are one -/
theorem rise_ext : ∀ {xs ys : List Int}, xs.Pairwise (· < ·) → ys.Pairwise (· < ·) → (∀ x, x ∈ xs ↔ x ∈ ys) → xs = ys
  | [], [], _, _, _ => rfl
  | [], y :: ys, _, _, h => absurd ((h y).mpr List.mem_cons_self) (by simp)
  | x :: xs, [], _, _, h => absurd ((h x).mp List.mem_cons_self) (by simp)
  | x :: xs, y :: ys, hx, hy, h => by
    obtain ⟨x1, x2⟩ := List.pairwise_cons.mp hx
    obtain ⟨y1, y2⟩ := List.pairwise_cons.mp hy
    have e : x = y := by
      rcases List.mem_cons.mp ((h x).mp List.mem_cons_self) with z | z
      · exact z
      · rcases List.mem_cons.mp ((h y).mpr List.mem_cons_self) with u | u
        · exact u.symm
        · have := x1 y u
          have := y1 x z
          omega
    subst e
    congr 1
    refine rise_ext x2 y2 fun z => ?_
    constructor
    · intro hz
      rcases List.mem_cons.mp ((h z).mp (List.mem_cons_of_mem _ hz)) with u | u
      · have := x1 z hz; omega
      · exact u
    · intro hz
      rcases List.mem_cons.mp ((h z).mpr (List.mem_cons_of_mem _ hz)) with u | u
      · have := y1 z hz; omega
      · exact u
/-- a made sum that is no two made sums together -/
def Prime (cs : List Int) (c : Int) : Prop := 0 < c ∧ Made cs c ∧ ∀ a b : Int, 0 < a → 0 < b → Made cs a → Made cs b → a + b ≠ c
theorem lp_prime {cs : List Int} (h : Pos cs) (c : Int) : c ∈ lp cs ↔ Prime cs c := by
  unfold lp
  rw [List.mem_filter]
  constructor
  · rintro ⟨hc, hm⟩
    refine ⟨h c hc, .one hc, fun a b ha hb ma mb e => ?_⟩
    have less : ∀ {k : Int}, k < c → Made cs k → Made (cs.filter fun d => decide (d < c)) k := fun {k} hk m =>
      (m.le h).mono fun d hd => by
        obtain ⟨h1, h2⟩ := List.mem_filter.mp hd
        exact List.mem_filter.mpr ⟨h1, decide_eq_true (by have := of_decide_eq_true h2; omega)⟩
    have := (less (by omega) ma).plus (less (by omega) mb)
    rw [e] at this
    rw [mk_iff.mpr this] at hm
    cases hm
  · rintro ⟨hc, hm, hp⟩
    have key : ∀ {ds : List Int}, (∀ d ∈ ds, d ∈ cs) → Made ds c → c ∈ ds := fun {ds} hs m => by
      cases m with
      | zero => omega
      | @add n d m hd =>
        have hpd : Pos ds := pos_sub h hs
        have n0 := m.nonneg hpd
        rcases Int.lt_or_le 0 n with z | z
        · exact absurd rfl (hp n d z (hpd d hd) (m.mono hs) (.one (hs d hd)))
        · have : n = 0 := by omega
          subst this
          rw [Int.zero_add]
          exact hd
    refine ⟨key (fun d hd => hd) hm, ?_⟩
    cases q : mk (cs.filter fun d => decide (d < c)) c with
    | false => rfl
    | true =>
      have := key (fun d hd => (List.mem_filter.mp hd).1) (mk_iff.mp q)
      have := of_decide_eq_true (List.mem_filter.mp this).2
      omega
end CY

set_option Elab.async false
set_option linter.all false
set_option maxRecDepth 100000
namespace CY
open PySem PySem.Spec PyProof.Rows L2

/-! ### one coin more in the table of least sums -/
abbrev Tb := List (Option Nat)
abbrev gv (L : Tb) (r : Nat) : Option Nat := L.getD r none
def relax (m c : Nat) (L : Tb) (r : Nat) : Tb :=
  match gv L r with
  | none => L
  | some x => match gv L ((r + c) % m) with
    | none => L.set ((r + c) % m) (some (x + c))
    | some y => if x + c < y then L.set ((r + c) % m) (some (x + c)) else L
def Rel (m c : Nat) (L : Tb) (r : Nat) : Prop := ∀ x, gv L r = some x → ∃ y, gv L ((r + c) % m) = some y ∧ y ≤ x + c
theorem gv_set {L : Tb} {i j : Nat} {v : Option Nat} (hi : i < L.length) : gv (L.set i v) j = if j = i then v else gv L j := by
  unfold gv
  rw [List.getD_eq_getElem?_getD, List.getElem?_set, List.getD_eq_getElem?_getD]
  by_cases e : i = j
  · subst e
    rw [if_pos rfl, if_pos hi, if_pos rfl]
    rfl
  · rw [if_neg e, if_neg (fun z => e z.symm)]
theorem relax_len (m c : Nat) (L : Tb) (r : Nat) : (relax m c L r).length = L.length := by
  unfold relax
  split
  · rfl
  · split
    · rw [List.length_set]
    · split
      · rw [List.length_set]
      · rfl
/-- what a step changes -/
theorem relax_at {m c : Nat} {L : Tb} {r : Nat} (hm : 0 < m) (hL : L.length = m) (j : Nat) : gv (relax m c L r) j = gv L j ∨ (j = (r + c) % m ∧ ∃ x, gv L r = some x ∧ gv (relax m c L r) j = some (x + c) ∧ ∀ y, gv L j = some y → x + c < y) := by
  have ho : (r + c) % m < L.length := by rw [hL]; exact Nat.mod_lt _ hm
  unfold relax
  split
  · exact .inl rfl
  · rename_i x hx
    split
    · rename_i hy
      rw [gv_set ho]
      by_cases e : j = (r + c) % m
      · rw [if_pos e]
        exact .inr ⟨e, x, hx, rfl, fun y h => by rw [e, hy] at h; cases h⟩
      · rw [if_neg e]
        exact .inl rfl
    · rename_i y hy
      split
      · rename_i hlt
        rw [gv_set ho]
        by_cases e : j = (r + c) % m
        · rw [if_pos e]
          exact .inr ⟨e, x, hx, rfl, fun z h => by rw [e, hy] at h; cases h; exact hlt⟩
        · rw [if_neg e]
          exact .inl rfl
      · exact .inl rfl
theorem relax_dec {m c : Nat} {L : Tb} {r : Nat} (hm : 0 < m) (hL : L.length = m) {j x : Nat} (h : gv L j = some x) : ∃ y, gv (relax m c L r) j = some y ∧ y ≤ x := by
  rcases relax_at hm hL (c := c) (r := r) j with e | ⟨_, z, _, e, k⟩
  · exact ⟨x, by rw [e]; exact h, Nat.le_refl _⟩
  · exact ⟨z + c, e, Nat.le_of_lt (k x h)⟩
theorem relax_rel {m c : Nat} {L : Tb} {r : Nat} (hm : 0 < m) (hL : L.length = m) : Rel m c (relax m c L r) r := by
  intro x hx
  have ho : (r + c) % m < L.length := by rw [hL]; exact Nat.mod_lt _ hm
  -- the source is as it was
  have src : gv L r = some x := by
    rcases relax_at hm hL (c := c) (r := r) r with e | ⟨_, z, hz, e, k⟩
    · rw [← e]; exact hx
    · have := k z hz
      omega
  unfold relax
  rw [src]
  dsimp only
  split
  · rw [gv_set ho, if_pos rfl]
    exact ⟨_, rfl, Nat.le_refl _⟩
  · rename_i y hy
    split
    · rw [gv_set ho, if_pos rfl]
      exact ⟨_, rfl, Nat.le_refl _⟩
    · exact ⟨y, hy, by omega⟩
theorem relax_id {m c : Nat} {L : Tb} {r : Nat} (h : Rel m c L r) : relax m c L r = L := by
  unfold relax
  split
  · rfl
  · rename_i x hx
    obtain ⟨y, hy, hle⟩ := h x hx
    rw [hy]
    dsimp only
    rw [if_neg (by omega)]

/-! ### a walk along one circle -/
def pos (m c start k : Nat) : Nat := (start + k * c) % m
def runs (m c start : Nat) (L : Tb) : Nat → Tb
  | 0 => L
  | k + 1 => relax m c (runs m c start L k) (pos m c start k)
theorem pos_succ (m c start k : Nat) : (pos m c start k + c) % m = pos m c start (k + 1) := by
  unfold pos
  rw [Nat.mod_add_mod, Nat.add_mul, Nat.one_mul, Nat.add_assoc]
theorem runs_len (m c start : Nat) (L : Tb) : ∀ k, (runs m c start L k).length = L.length
  | 0 => rfl
  | k + 1 => by
    show (relax _ _ _ _).length = _
    rw [relax_len]
    exact runs_len m c start L k
theorem least_nat (P : Nat → Prop) (h : ∃ n, P n) : ∃ n, P n ∧ ∀ k, P k → n ≤ k := by
  obtain ⟨n, hn⟩ := h
  induction n using Nat.strongRecOn with
  | ind n ih =>
    by_cases z : ∃ k, k < n ∧ P k
    · obtain ⟨k, hk, pk⟩ := z
      exact ih k hk pk
    · exact ⟨n, hn, fun k pk => Nat.le_of_not_lt fun hk => z ⟨k, hk, pk⟩⟩
section
variable {m c start T : Nat} {L : Tb}
theorem circle (hm : 0 < m) (hL : L.length = m) (hc : 0 < c) (hT : 0 < T) (per : ∀ i, pos m c start (i + T) = pos m c start i) (inj : ∀ i j, i < j → j < i + T → pos m c start i ≠ pos m c start j) (k : Nat) : Rel m c (runs m c start L (2 * T)) (pos m c start k) := by
  have len : ∀ k, (runs m c start L k).length = m := fun k => by rw [runs_len, hL]
  have perN : ∀ i n, pos m c start (i + n * T) = pos m c start i := by
    intro i n
    induction n with
    | zero => rw [Nat.zero_mul, Nat.add_zero]
    | succ n ih => rw [Nat.add_mul, Nat.one_mul, ← Nat.add_assoc, per, ih]
  by_cases hz : ∃ n, ∃ i, gv L (pos m c start i) = some n
  · obtain ⟨u, ⟨i0, hi0⟩, hmin⟩ := least_nat _ hz
    -- i0 may be taken below T
    have red : pos m c start (i0 % T) = pos m c start i0 := by
      have e := perN (i0 % T) (i0 / T)
      rw [Nat.mul_comm, Nat.mod_add_div] at e
      exact e.symm
    rw [← red] at hi0
    have hlt : i0 % T < T := Nat.mod_lt _ hT
    generalize i0 % T = b at hi0 hlt
    have A : ∀ k, (∀ i x, gv (runs m c start L k) (pos m c start i) = some x → u ≤ x) ∧ gv (runs m c start L k) (pos m c start b) = some u := by
      intro k
      induction k with
      | zero => exact ⟨fun i x h => hmin x ⟨i, h⟩, hi0⟩
      | succ k ih =>
        refine ⟨fun i x h => ?_, ?_⟩
        · rcases relax_at hm (len k) (c := c) (r := pos m c start k) (pos m c start i) with e | ⟨_, z, hz, e, _⟩
          · exact ih.1 i x (by rw [← e]; exact h)
          · have h2 : some (z + c) = some x := e.symm.trans h
            have := ih.1 k z hz
            cases h2
            omega
        · rcases relax_at hm (len k) (c := c) (r := pos m c start k) (pos m c start b) with e | ⟨_, z, hz, e, kk⟩
          · exact e.trans ih.2
          · have := kk u ih.2
            have := ih.1 k z hz
            omega
    have B : ∀ t, t ≤ T → ∀ s, s < t → Rel m c (runs m c start L (b + t)) (pos m c start (b + s)) := by
      intro t
      induction t with
      | zero => exact fun _ s hs => absurd hs (Nat.not_lt_zero _)
      | succ t ih =>
        intro ht s hs
        show Rel m c (relax m c (runs m c start L (b + t)) (pos m c start (b + t))) _
        rcases Nat.lt_or_ge s t with hst | hst
        · have old := ih (by omega) s hst
          intro x hx
          -- the source of an elder edge has not changed
          have src : gv (runs m c start L (b + t)) (pos m c start (b + s)) = some x := by
            rcases relax_at hm (len (b + t)) (c := c) (r := pos m c start (b + t)) (pos m c start (b + s)) with e | ⟨e1, z, hz, e, kk⟩
            · rw [← e]; exact hx
            · rw [pos_succ] at e1
              have hT2 : t + 1 = T ∧ s = 0 := by
                rcases Nat.lt_or_ge (t + 1 - s) T with y | y
                · exact absurd e1 (inj (b + s) (b + t + 1) (by omega) (by omega))
                · omega
              obtain ⟨_, rfl⟩ := hT2
              have h1 := (A (b + t)).2
              have h2 := kk u h1
              have h3 := (A (b + t)).1 (b + t) z hz
              omega
          obtain ⟨y, hy, hle⟩ := old x src
          obtain ⟨y', hy', hle'⟩ := relax_dec hm (len (b + t)) (c := c) (r := pos m c start (b + t)) hy
          exact ⟨y', hy', by omega⟩
        · have e : s = t := by omega
          subst e
          exact relax_rel hm (len (b + s))
    have all : ∀ i, Rel m c (runs m c start L (b + T)) (pos m c start i) := fun i => by
      -- i is b + s by the period
      have h1 := B T (Nat.le_refl _) ((i + (T - b % T)) % T) (Nat.mod_lt _ hT)
      have e : pos m c start (b + (i + (T - b % T)) % T) = pos m c start i := by
        have e1 := perN (b + (i + (T - b % T)) % T) ((i + (T - b % T)) / T)
        have hbT : b % T = b := Nat.mod_eq_of_lt hlt
        have e2 : b + (i + (T - b % T)) % T + (i + (T - b % T)) / T * T = i + 1 * T := by
          have := Nat.mod_add_div (i + (T - b % T)) T
          rw [Nat.mul_comm] at this
          rw [hbT] at this ⊢
          omega
        rw [e2, perN] at e1
        exact e1.symm
      rw [e] at h1
      exact h1
    have stay : ∀ d, runs m c start L (b + T + d) = runs m c start L (b + T) := by
      intro d
      induction d with
      | zero => rfl
      | succ d ih =>
        show relax m c (runs m c start L (b + T + d)) _ = _
        rw [ih, relax_id (all _)]
    have e : 2 * T = b + T + (T - b) := by omega
    rw [e, stay]
    exact all k
  · have none_ : ∀ i, gv L (pos m c start i) = none := fun i => by
      cases e : gv L (pos m c start i) with
      | none => rfl
      | some x => exact absurd ⟨x, i, e⟩ hz
    have stay : ∀ d, runs m c start L d = L := by
      intro d
      induction d with
      | zero => rfl
      | succ d ih =>
        show relax m c (runs m c start L d) _ = _
        rw [ih]
        refine relax_id fun x hx => ?_
        rw [none_] at hx
        cases hx
    rw [stay]
    intro x hx
    rw [none_] at hx
    cases hx
end
/-! ### numbers: the circles -/
theorem bezout (a b : Nat) : ∃ x y : Int, (a : Int) * x + (b : Int) * y = (Nat.gcd a b : Nat) := by
  induction a, b using Nat.gcd.induction with
  | H0 n => exact ⟨0, 1, by simp⟩
  | H1 m n hm ih =>
    obtain ⟨x, y, e⟩ := ih
    refine ⟨y - (n / m : Nat) * x, x, ?_⟩
    rw [Nat.gcd_rec, ← e]
    have h := Nat.mod_add_div n m
    have h2 : ((n % m : Nat) : Int) = (n : Int) - (m : Int) * ((n / m : Nat) : Int) := by
      have : (n : Int) = ((n % m + m * (n / m) : Nat) : Int) := by rw [h]
      rw [this]
      push_cast
      omega
    rw [h2]
    simp only [Int.mul_sub, Int.sub_mul, Int.mul_assoc]
    omega
end CY

set_option Elab.async false
set_option linter.all false
set_option maxRecDepth 100000
namespace CY
open PySem PySem.Spec PyProof.Rows L2
section
variable {m c : Nat}
theorem per_ok (start i : Nat) : pos m c start (i + m / Nat.gcd m c) = pos m c start i := by
  unfold pos
  have h1 : m / Nat.gcd m c * c = m * (c / Nat.gcd m c) := by
    obtain ⟨a, ha⟩ := Nat.gcd_dvd_left m c
    obtain ⟨b, hb⟩ := Nat.gcd_dvd_right m c
    rcases Nat.eq_zero_or_pos (Nat.gcd m c) with z | z
    · rw [z] at ha hb
      rw [ha, hb]
      simp
    · have e1 : m / Nat.gcd m c = a := by
        conv => lhs; rw [ha]
        conv => lhs; arg 2; rw [← ha]
        exact Nat.mul_div_cancel_left _ z
      have e2 : c / Nat.gcd m c = b := by
        conv => lhs; rw [hb]
        conv => lhs; arg 2; rw [← hb]
        exact Nat.mul_div_cancel_left _ z
      rw [e1, e2]
      conv => lhs; rw [hb]
      conv => rhs; rw [ha]
      rw [← Nat.mul_assoc, Nat.mul_comm a, Nat.mul_assoc]
  rw [Nat.add_mul, h1, ← Nat.add_assoc, Nat.add_mul_mod_self_left]
theorem inj_ok (hm : 0 < m) (start : Nat) (i j : Nat) (hij : i < j) (hj : j < i + m / Nat.gcd m c) : pos m c start i ≠ pos m c start j := by
  unfold pos
  intro e
  have hg : 0 < Nat.gcd m c := Nat.gcd_pos_of_pos_left _ hm
  have hd : m ∣ (j - i) * c := by
    have h2 : start + j * c = start + i * c + (j - i) * c := by
      have : j = i + (j - i) := by omega
      conv => lhs; rw [this, Nat.add_mul]
      omega
    rw [h2] at e
    have h3 : (start + i * c + (j - i) * c) % m = (start + i * c + 0) % m := by rw [Nat.add_zero]; exact e.symm
    have h4 : (start + i * c + (j - i) * c) - (start + i * c) = (j - i) * c := by omega
    have h5 := (Nat.sub_mod_eq_zero_of_mod_eq h3)
    rw [Nat.add_zero, h4] at h5
    exact Nat.dvd_of_mod_eq_zero h5
  have hc1 : m / Nat.gcd m c ∣ (j - i) * (c / Nat.gcd m c) := by
    have h6 : Nat.gcd m c * (m / Nat.gcd m c) = m := Nat.mul_div_cancel' (Nat.gcd_dvd_left m c)
    have h7 : Nat.gcd m c * (c / Nat.gcd m c) = c := Nat.mul_div_cancel' (Nat.gcd_dvd_right m c)
    refine Nat.dvd_of_mul_dvd_mul_left hg ?_
    rw [h6, ← Nat.mul_assoc, Nat.mul_comm (Nat.gcd m c), Nat.mul_assoc, h7]
    exact hd
  have hco : Nat.Coprime (m / Nat.gcd m c) (c / Nat.gcd m c) := Nat.coprime_div_gcd_div_gcd hg
  rw [Nat.mul_comm] at hc1
  have := Nat.le_of_dvd (by omega) (hco.dvd_of_dvd_mul_left hc1)
  omega
theorem pos_mod (start k : Nat) : pos m c start k % Nat.gcd m c = start % Nat.gcd m c := by
  unfold pos
  rw [Nat.mod_mod_of_dvd _ (Nat.gcd_dvd_left m c)]
  obtain ⟨b, hb⟩ := Nat.gcd_dvd_right m c
  have : k * c = Nat.gcd m c * (b * k) := by
    conv => lhs; rw [hb]
    rw [Nat.mul_comm k, Nat.mul_assoc]
  rw [this, Nat.add_mul_mod_self_left]
theorem surj_ok (hm : 0 < m) {r start : Nat} (hr : r < m) (hs : r % Nat.gcd m c = start) : ∃ k, pos m c start k = r := by
  obtain ⟨x, y, e⟩ := bezout m c
  have hmi : (m : Int) ≠ 0 := by omega
  have hr2 := Nat.mod_add_div r (Nat.gcd m c)
  rw [hs] at hr2
  generalize r / Nat.gcd m c = q at hr2
  generalize Nat.gcd m c = g at e hr2
  have hk0 := Int.emod_nonneg ((q : Int) * y) hmi
  obtain ⟨k, hk⟩ := Int.eq_ofNat_of_zero_le hk0
  refine ⟨k, ?_⟩
  unfold pos
  have key : ((start : Int) + (k : Int) * (c : Int)) % (m : Int) = (r : Int) := by
    rw [← hk]
    have h1 : ((start : Int) + (q : Int) * y % (m : Int) * (c : Int)) % (m : Int) = ((start : Int) + (q : Int) * y * (c : Int)) % (m : Int) := by
      rw [Int.add_emod, Int.mul_emod, Int.emod_emod_of_dvd _ (Int.dvd_refl _), ← Int.mul_emod, ← Int.add_emod]
    rw [h1]
    have h2 : (q : Int) * y * (c : Int) = (q : Int) * (g : Int) + (m : Int) * (-(x * (q : Int))) := by
      rw [← e]
      simp only [Int.mul_add, Int.mul_neg]
      have a1 : (q : Int) * y * (c : Int) = (q : Int) * ((c : Int) * y) := by rw [Int.mul_assoc, Int.mul_comm y]
      have a2 : (q : Int) * ((m : Int) * x) = (m : Int) * (x * (q : Int)) := by rw [← Int.mul_assoc, Int.mul_comm (q : Int), Int.mul_assoc, Int.mul_comm (q : Int)]
      rw [a1, a2]
      omega
    rw [h2, ← Int.add_assoc, Int.add_mul_emod_self_left]
    have h3 : (start : Int) + (q : Int) * (g : Int) = (r : Int) := by
      have : ((start + g * q : Nat) : Int) = (r : Int) := by rw [hr2]
      rw [← this]
      push_cast
      rw [Int.mul_comm]
    rw [h3]
    exact Int.emod_eq_of_lt (by omega) (by omega)
  have h4 : (((start + k * c) % m : Nat) : Int) = (r : Int) := by
    push_cast
    exact key
  exact Int.ofNat.inj h4
end

/-! ### the table of least sums -/
structure LT (ks : List Int) (m : Nat) (L : Tb) : Prop where
  len : L.length = m
  sound : ∀ r x, gv L r = some x → Made ks (x : Int) ∧ x % m = r
  best : ∀ n : Nat, Made ks (n : Int) → ∃ y, gv L (n % m) = some y ∧ y ≤ n
def outer (m c N : Nat) (L : Tb) : Nat → Tb
  | 0 => L
  | s + 1 => runs m c s (outer m c N L s) N
/-- a made sum, the coin c taken out -/
theorem made_split {ks : List Int} {c : Int} {n : Int} (m : Made (ks ++ [c]) n) : ∃ (j : Nat) (a : Int), Made ks a ∧ n = a + j * c := by
  induction m with
  | zero => exact ⟨0, 0, .zero, by simp⟩
  | @add a b m hb ih =>
    obtain ⟨j, d, hd, e⟩ := ih
    rcases List.mem_append.mp hb with z | z
    · exact ⟨j, d + b, hd.add z, by rw [e]; omega⟩
    · refine ⟨j + 1, d, hd, ?_⟩
      rw [e, List.mem_singleton.mp z]
      push_cast
      rw [Int.add_mul]
      omega
theorem LT.add {ks : List Int} {m c : Nat} {L : Tb} (h : LT ks m L) (hp : Pos ks) (hm : 0 < m) (hc : 0 < c) : LT (ks ++ [(c : Int)]) m (outer m c (2 * (m / Nat.gcd m c)) L (Nat.gcd m c)) := by
  have hg : 0 < Nat.gcd m c := Nat.gcd_pos_of_pos_left _ hm
  have hT : 0 < m / Nat.gcd m c := Nat.div_pos (Nat.le_of_dvd hm (Nat.gcd_dvd_left m c)) hg
  -- one walk
  have walk : ∀ (s : Nat) (M : Tb), M.length = m → (∀ r x, gv M r = some x → Made (ks ++ [(c : Int)]) (x : Int) ∧ x % m = r) → ∀ k,
      (∀ r x, gv (runs m c s M k) r = some x → Made (ks ++ [(c : Int)]) (x : Int) ∧ x % m = r) ∧ (∀ r x, gv M r = some x → ∃ y, gv (runs m c s M k) r = some y ∧ y ≤ x) ∧ (∀ r, r % Nat.gcd m c ≠ s % Nat.gcd m c → gv (runs m c s M k) r = gv M r) := by
    intro s M hl hs k
    induction k with
    | zero => exact ⟨hs, fun r x e => ⟨x, e, Nat.le_refl _⟩, fun _ _ => rfl⟩
    | succ k ih =>
      have lk : (runs m c s M k).length = m := by rw [runs_len, hl]
      refine ⟨fun r x e => ?_, fun r x e => ?_, fun r hr => ?_⟩
      · rcases relax_at hm lk (c := c) (r := pos m c s k) r with z | ⟨e1, x0, hx0, e2, _⟩
        · exact ih.1 r x (z.symm.trans e)
        · have e3 : some (x0 + c) = some x := e2.symm.trans e
          cases e3
          obtain ⟨a1, a2⟩ := ih.1 _ _ hx0
          refine ⟨?_, ?_⟩
          · have := a1.add (c := (c : Int)) (List.mem_append_right _ List.mem_cons_self)
            push_cast
            exact this
          · rw [e1, ← a2, Nat.mod_add_mod]
      · obtain ⟨y, e1, h1⟩ := ih.2.1 r x e
        obtain ⟨y', e2, h2⟩ := relax_dec hm lk (c := c) (r := pos m c s k) e1
        exact ⟨y', e2, by omega⟩
      · rcases relax_at hm lk (c := c) (r := pos m c s k) r with z | ⟨e1, _⟩
        · exact z.trans (ih.2.2 r hr)
        · rw [pos_succ] at e1
          rw [e1, pos_mod] at hr
          exact absurd rfl hr
  have inv : ∀ s, s ≤ Nat.gcd m c → (outer m c (2 * (m / Nat.gcd m c)) L s).length = m ∧ (∀ r x, gv (outer m c (2 * (m / Nat.gcd m c)) L s) r = some x → Made (ks ++ [(c : Int)]) (x : Int) ∧ x % m = r) ∧
      (∀ r x, gv L r = some x → ∃ y, gv (outer m c (2 * (m / Nat.gcd m c)) L s) r = some y ∧ y ≤ x) ∧ ∀ r, r < m → r % Nat.gcd m c < s → Rel m c (outer m c (2 * (m / Nat.gcd m c)) L s) r := by
    intro s
    induction s with
    | zero => exact fun _ => ⟨h.len, fun r x e => ⟨(h.sound r x e).1.mono fun y hy => List.mem_append_left _ hy, (h.sound r x e).2⟩, fun r x e => ⟨x, e, Nat.le_refl _⟩, fun r _ z => absurd z (Nat.not_lt_zero _)⟩
    | succ s ih =>
      intro hs
      obtain ⟨i1, i2, i3, i4⟩ := ih (by omega)
      obtain ⟨w1, w2, w3⟩ := walk s _ i1 i2 (2 * (m / Nat.gcd m c))
      refine ⟨by show (runs _ _ _ _ _).length = m; rw [runs_len]; exact i1, w1, fun r x e => ?_, fun r hr z => ?_⟩
      · obtain ⟨y, e1, h1⟩ := i3 r x e
        obtain ⟨y', e2, h2⟩ := w2 r y e1
        exact ⟨y', e2, by omega⟩
      · rcases Nat.lt_or_ge (r % Nat.gcd m c) s with y | y
        · -- another circle: as it was
          have ss : s % Nat.gcd m c = s := Nat.mod_eq_of_lt (by omega)
          have a1 : gv (runs m c s (outer m c (2 * (m / Nat.gcd m c)) L s) (2 * (m / Nat.gcd m c))) r = gv (outer m c (2 * (m / Nat.gcd m c)) L s) r := w3 r (by rw [ss]; omega)
          have a2 : gv (runs m c s (outer m c (2 * (m / Nat.gcd m c)) L s) (2 * (m / Nat.gcd m c))) ((r + c) % m) = gv (outer m c (2 * (m / Nat.gcd m c)) L s) ((r + c) % m) := by
            refine w3 _ ?_
            have : (r + c) % m % Nat.gcd m c = r % Nat.gcd m c := by
              have := pos_mod (m := m) (c := c) r 1
              unfold pos at this
              rw [Nat.one_mul] at this
              exact this
            rw [this, ss]
            omega
          intro x hx
          show ∃ y, gv (runs _ _ _ _ _) _ = some y ∧ _
          rw [a2]
          exact i4 r hr y x (a1.symm.trans hx)
        · have e : r % Nat.gcd m c = s := by omega
          obtain ⟨k, hk⟩ := surj_ok hm hr e
          rw [← hk]
          exact circle hm i1 hc hT (per_ok s) (inj_ok hm s) k
  obtain ⟨i1, i2, i3, i4⟩ := inv _ (Nat.le_refl _)
  refine ⟨i1, i2, fun n mn => ?_⟩
  have hpc : Pos (ks ++ [(c : Int)]) := fun x hx => (List.mem_append.mp hx).elim (hp x) fun z => by rw [List.mem_singleton.mp z]; omega
  obtain ⟨j, a, ha, e⟩ := made_split mn
  have a0 := ha.nonneg hp
  -- up the circle, j times
  have up : ∀ j : Nat, ∃ y, gv (outer m c (2 * (m / Nat.gcd m c)) L (Nat.gcd m c)) ((a.toNat + j * c) % m) = some y ∧ y ≤ a.toNat + j * c := by
    intro j
    induction j with
    | zero =>
      rw [Nat.zero_mul, Nat.add_zero]
      obtain ⟨y, e1, h1⟩ := h.best a.toNat (by rw [Int.toNat_of_nonneg a0]; exact ha)
      obtain ⟨y', e2, h2⟩ := i3 _ _ e1
      exact ⟨y', e2, by omega⟩
    | succ j ih =>
      obtain ⟨y, e1, h1⟩ := ih
      obtain ⟨y', e2, h2⟩ := i4 ((a.toNat + j * c) % m) (Nat.mod_lt _ hm) (Nat.mod_lt _ hg) y e1
      have e3 : ((a.toNat + j * c) % m + c) % m = (a.toNat + (j + 1) * c) % m := by
        rw [Nat.mod_add_mod, Nat.add_mul, Nat.one_mul, Nat.add_assoc]
      rw [e3] at e2
      refine ⟨y', e2, ?_⟩
      rw [Nat.add_mul, Nat.one_mul]
      omega
  obtain ⟨y, e1, h1⟩ := up j
  have en : a.toNat + j * c = n := by
    have : ((a.toNat + j * c : Nat) : Int) = (n : Int) := by
      push_cast
      rw [Int.toNat_of_nonneg a0]
      exact e.symm
    omega
  rw [en] at e1 h1
  exact ⟨y, e1, h1⟩
end CY

set_option Elab.async false
set_option linter.all false
set_option maxRecDepth 100000
namespace CY
open PySem PySem.Spec PyProof.Rows L2

/-! ### least sums as a list of the program -/
def ov : Option Nat → V
  | none => .non
  | some s => .int (s : Int)
abbrev ovs (L : Tb) : List V := L.map ov
theorem ov_at {L : Tb} {r : Nat} (h : r < L.length) : atI (ovs L) (r : Int) = some (ov (gv L r)) := by
  refine atI_nat ?_
  unfold ovs gv
  rw [List.getElem?_map, List.getD_eq_getElem?_getD, List.getElem?_eq_getElem h]
  rfl
theorem ovs_len (L : Tb) : (ovs L).length = L.length := List.length_map ..
theorem ixN_nat {n o : Nat} (h : o < n) : ixN n (o : Int) = some o := by
  unfold ixN
  rw [if_pos (by omega), if_pos (by omega)]
  congr 1
theorem upd_id {H : Hp} {l : Addr} {o : HO} (h : H l = some o) : upd H l o = H := by
  funext b
  by_cases e : b = l
  · rw [e, upd_same, h]
  · rw [upd_ne e]
/-- the least coin -/
def m0 (cs : List Int) : Nat := (cs.headD 0).toNat
def sp_addonce : Sp := fun vs H Q _ => ∃ (l : Addr) (L : Tb) (m c r : Nat), vs = [.ref l, .int (r : Int), .int (c : Int)] ∧ H l = some (.lst (ovs L)) ∧ L.length = m ∧ 0 < m ∧ r < m ∧ Q (.int (((r + c) % m : Nat) : Int)) (upd H l (.lst (ovs (relax m c L r))))
def sp_addleast : Sp := fun vs H Q _ => ∃ (l : Addr) (L : Tb) (m c : Nat), vs = [.ref l, .int (c : Int)] ∧ H l = some (.lst (ovs L)) ∧ L.length = m ∧ 0 < m ∧ m ≤ 8000 ∧ 0 < c ∧ c ≤ 400 ∧ Q .non (upd H l (.lst (ovs (outer m c (2 * (m / Nat.gcd m c)) L (Nat.gcd m c)))))
def sp_lsums : Sp := fun vs H Q _ => ∃ (t : Addr) (cs : List Int), vs = [.ref t] ∧ H t = some (.tup (ivs cs)) ∧ Purse 400 cs ∧ ∀ (l : Addr) (L : Tb) (H' : Hp), Same H H' → H l = none → H' l = some (.lst (ovs L)) → LT cs (m0 cs) L → Q (.ref l) H'
theorem outer_len (m c N : Nat) (L : Tb) : ∀ s, (outer m c N L s).length = L.length
  | 0 => rfl
  | s + 1 => by
    show (runs _ _ _ _ _).length = _
    rw [runs_len]
    exact outer_len m c N L s
/-- the table of the least coin alone -/
theorem LT.first {c : Int} (hc : 1 ≤ c) : LT [c] c.toNat ((List.replicate c.toNat none).set 0 (some 0)) := by
  have h0 : 0 < c.toNat := by omega
  have g : ∀ r, gv ((List.replicate c.toNat none).set 0 (some 0)) r = if r = 0 then some 0 else none := fun r => by
    rw [gv_set (by rw [List.length_replicate]; exact h0)]
    split
    · rfl
    · unfold gv
      rw [List.getD_eq_getElem?_getD, List.getElem?_replicate]
      split <;> rfl
  refine ⟨by rw [List.length_set, List.length_replicate], fun r x e => ?_, fun n mn => ?_⟩
  · rw [g] at e
    split at e
    · cases e
      rename_i hr
      rw [hr]
      exact ⟨.zero, Nat.zero_mod _⟩
    · cases e
  · have : n % c.toNat = 0 := by
      have key : ∀ a : Int, Made [c] a → ∃ k : Nat, a = k * c := fun a ma => by
        induction ma with
        | zero => exact ⟨0, by simp⟩
        | @add a b m hb ih =>
          obtain ⟨k, e⟩ := ih
          refine ⟨k + 1, ?_⟩
          rw [List.mem_singleton.mp hb, e]
          push_cast
          rw [Int.add_mul]
          omega
      obtain ⟨k, e⟩ := key _ mn
      have e2 : n = k * c.toNat := by
        have : (n : Int) = ((k * c.toNat : Nat) : Int) := by
          push_cast
          rw [e, Int.toNat_of_nonneg (by omega)]
        omega
      rw [e2, Nat.mul_mod_left]
    rw [this, g]
    exact ⟨0, rfl, Nat.zero_le _⟩
/-- whether a sum is made, by the table -/
theorem lt_made {cs : List Int} {m : Nat} {L : Tb} (h : LT cs m L) (hm : (m : Int) ∈ cs) (h0 : 0 < m) (n : Nat) : mk cs (n : Int) = (match gv L (n % m) with | none => false | some s => decide (s ≤ n)) := by
  rw [Bool.eq_iff_iff, mk_iff]
  constructor
  · intro mn
    obtain ⟨y, e, hle⟩ := h.best n mn
    rw [e]
    exact decide_eq_true hle
  · intro z
    cases e : gv L (n % m) with
    | none => rw [e] at z; cases z
    | some s =>
      rw [e] at z
      have hle : s ≤ n := of_decide_eq_true z
      obtain ⟨ms, er⟩ := h.sound _ _ e
      have hd : m ∣ n - s := Nat.dvd_of_mod_eq_zero (Nat.sub_mod_eq_zero_of_mod_eq er.symm)
      obtain ⟨k, ek⟩ := hd
      have up : ∀ k : Nat, Made cs ((s + m * k : Nat) : Int) := fun k => by
        induction k with
        | zero => simpa using ms
        | succ k ih =>
          have := ih.add hm
          have e : ((s + m * (k + 1) : Nat) : Int) = ((s + m * k : Nat) : Int) + (m : Int) := by
            rw [Nat.mul_add]
            omega
          rw [e]
          exact this
      have := up k
      rw [← ek, show s + (n - s) = n by omega] at this
      exact this
end CY

set_option Elab.async false
set_option linter.all false
set_option maxRecDepth 100000
namespace CY
open PySem PySem.Spec PyProof.Rows L2

/-! ### how far the least sums go -/
def mx (cs : List Int) : Nat := (cs.getLastD 0).toNat
def far (cs : List Int) : Nat := m0 cs * mx cs
theorem cnt_lt {α : Type} {p q : α → Bool} : ∀ {l : List α}, (∀ x ∈ l, p x = true → q x = true) → (∃ x ∈ l, p x = false ∧ q x = true) → l.countP p + 1 ≤ l.countP q
  | [], _, h => by obtain ⟨x, hx, _⟩ := h; cases hx
  | y :: r, h, ⟨x, hx, h1, h2⟩ => by
    have le : r.countP p ≤ r.countP q := List.countP_mono_left fun z hz => h z (List.mem_cons_of_mem _ hz)
    rw [List.countP_cons, List.countP_cons]
    rcases List.mem_cons.mp hx with e | hx
    · subst e
      rw [if_neg (by rw [h1]; exact Bool.false_ne_true), if_pos h2]
      omega
    · have := cnt_lt (l := r) (fun z hz => h z (List.mem_cons_of_mem _ hz)) ⟨x, hx, h1, h2⟩
      have hy := h y List.mem_cons_self
      split
      · rw [if_pos (hy ‹_›)]
        omega
      · split <;> omega
def below (L : Tb) (s : Nat) (r : Nat) : Bool := match gv L r with
  | none => false
  | some y => decide (y < s)
theorem LT.bound {cs : List Int} {m : Nat} {L : Tb} {M : Nat} (h : LT cs m L) (hm : 0 < m) (hp : Pos cs) (hM : ∀ c ∈ cs, c ≤ (M : Int)) : ∀ n : Int, Made cs n → ∀ s : Nat, n = (s : Int) → gv L (s % m) = some s → s ≤ M * (List.range m).countP (below L s) := by
  intro n mn
  induction mn with
  | zero =>
    intro s e _
    have : s = 0 := by omega
    subst this
    exact Nat.zero_le _
  | @add a c ma hc ih =>
    intro s e hs
    have a0 := ma.nonneg hp
    have c0 := hp c hc
    have cM := hM c hc
    -- what is before is least, too
    have ea : a = ((a.toNat : Nat) : Int) := by omega
    obtain ⟨y, ey, hy⟩ := h.best a.toNat (by rw [← ea]; exact ma)
    obtain ⟨my, ry⟩ := h.sound _ _ ey
    have hy2 : y = a.toNat := by
      rcases Nat.lt_or_ge y a.toNat with z | z
      · exfalso
        have m1 := my.add hc
        have e1 : (y : Int) + c = ((y + c.toNat : Nat) : Int) := by omega
        rw [e1] at m1
        obtain ⟨u, eu, hu⟩ := h.best _ m1
        have e2 : (y + c.toNat) % m = s % m := by
          have e3 : s = a.toNat + c.toNat := by omega
          rw [e3, Nat.add_mod, ry, ← Nat.add_mod]
        rw [e2, hs] at eu
        cases eu
        omega
      · omega
    rw [hy2] at ey
    have := ih a.toNat ea ey
    have step : (List.range m).countP (below L a.toNat) + 1 ≤ (List.range m).countP (below L s) := by
      refine cnt_lt (fun r _ hr => ?_) ⟨a.toNat % m, List.mem_range.mpr (Nat.mod_lt _ hm), ?_, ?_⟩
      · unfold below at hr ⊢
        split at hr
        · cases hr
        · rename_i z ez
          have := of_decide_eq_true hr
          exact decide_eq_true (by omega)
      · unfold below
        rw [ey]
        exact decide_eq_false (by omega)
      · unfold below
        rw [ey]
        exact decide_eq_true (by omega)
    have h3 := Nat.mul_le_mul_left M step
    rw [Nat.mul_add, Nat.mul_one] at h3
    omega
theorem LT.far {cs : List Int} {m : Nat} {L : Tb} {M : Nat} (h : LT cs m L) (hm : 0 < m) (hp : Pos cs) (hM : ∀ c ∈ cs, c ≤ (M : Int)) {r x : Nat} (e : gv L r = some x) : x ≤ m * M := by
  obtain ⟨mx, er⟩ := h.sound _ _ e
  have h1 := h.bound hm hp hM _ mx x rfl (by rw [er]; exact e)
  have h2 : (List.range m).countP (below L x) ≤ m := by
    have := List.countP_le_length (p := below L x) (l := List.range m)
    rwa [List.length_range] at this
  have := Nat.mul_le_mul_left M h2
  rw [Nat.mul_comm m]
  omega
/-! ### a walk by steps -/
/-! ### the purse's ends -/
theorem le_last {cs : List Int} (h : cs.Pairwise (· < ·)) (hn : cs ≠ []) : ∀ c ∈ cs, c ≤ cs.getLast hn := by
  intro c hc
  have e := List.dropLast_concat_getLast hn
  rw [← e] at hc h
  rcases List.mem_append.mp hc with z | z
  · have := (List.pairwise_append.mp h).2.2 c z _ (List.mem_singleton.mpr rfl)
    omega
  · rw [List.mem_singleton.mp z]
    exact Int.le_refl _
theorem Purse.mx {m : Int} {cs : List Int} (p : Purse m cs) : ((mx cs : Nat) : Int) = cs.getLast p.ne ∧ ∀ c ∈ cs, c ≤ ((CY.mx cs : Nat) : Int) := by
  have e : cs.getLastD 0 = cs.getLast p.ne := by
    rw [List.getLastD_eq_getLast?, List.getLast?_eq_some_getLast p.ne]
    rfl
  have h1 := p.lo _ (List.getLast_mem p.ne)
  have e2 : ((CY.mx cs : Nat) : Int) = cs.getLast p.ne := by
    unfold CY.mx
    rw [e]
    omega
  exact ⟨e2, fun c hc => by rw [e2]; exact le_last p.rise p.ne c hc⟩
theorem Purse.m0 {m : Int} {cs : List Int} (p : Purse m cs) : ((m0 cs : Nat) : Int) ∈ cs ∧ atI (ivs cs) 0 = some (.int ((CY.m0 cs : Nat) : Int)) := by
  cases h : cs with
  | nil => exact absurd h p.ne
  | cons c r =>
    have h1 := p.lo c (by rw [h]; exact List.mem_cons_self)
    have e : ((CY.m0 (c :: r) : Nat) : Int) = c := by
      unfold CY.m0
      show ((c.toNat : Nat) : Int) = c
      omega
    rw [e]
    exact ⟨List.mem_cons_self, atI_nat (j := 0) rfl⟩
end CY

set_option Elab.async false
set_option linter.all false
set_option maxRecDepth 100000
namespace CY
open PySem PySem.Spec PyProof.Rows L2

/-! ### beyond the product of the ends -/
theorem made_dvd {cs : List Int} (hp : Pos cs) {n : Int} (m : Made cs n) : ((gcdL cs : Nat) : Int) ∣ n := by
  induction m with
  | zero => exact Int.dvd_zero _
  | @add a c ma hc ih =>
    refine Int.dvd_add ih ?_
    have h := gcdL_dvd cs c hc
    have := hp c hc
    have e : c = ((c.toNat : Nat) : Int) := by omega
    rw [e]
    exact Int.natCast_dvd_natCast.mpr h
theorem made_times {cs : List Int} {c : Int} (hc : c ∈ cs) : ∀ k : Nat, Made cs (k * c)
  | 0 => by simpa using Made.zero
  | k + 1 => by
    have := (made_times hc k).add hc
    have e : ((k + 1 : Nat) : Int) * c = (k : Int) * c + c := by
      push_cast
      rw [Int.add_mul]
      omega
    rw [e]
    exact this
/-- each multiple of the divisor has the rest of a made sum -/
theorem made_rest {m : Nat} (hm : 0 < m) : ∀ {cs : List Int}, Pos cs → ∀ z : Int, ((gcdL cs : Nat) : Int) ∣ z → ∃ s : Int, Made cs s ∧ s % (m : Int) = z % (m : Int)
  | [], _, z, h => by
    have : z = 0 := by
      have h2 : ((0 : Nat) : Int) ∣ z := h
      exact Int.zero_dvd.mp h2
    subst this
    exact ⟨0, .zero, rfl⟩
  | c :: r, hp, z, ⟨k, hk⟩ => by
    have c0 := hp c List.mem_cons_self
    have ec : c = ((c.toNat : Nat) : Int) := by omega
    obtain ⟨x, y, e⟩ := bezout c.toNat (gcdL r)
    rw [← ec, ← gcdL_cons] at e
    obtain ⟨s, ms, es⟩ := made_rest hm (cs := r) (fun d hd => hp d (List.mem_cons_of_mem _ hd)) (((gcdL r : Nat) : Int) * (y * k)) (Int.dvd_mul_right _ _)
    have hmi : (m : Int) ≠ 0 := by omega
    have hk0 := Int.emod_nonneg (x * k) hmi
    obtain ⟨j, hj⟩ := Int.eq_ofNat_of_zero_le hk0
    refine ⟨s + (j : Int) * c, (ms.mono fun d hd => List.mem_cons_of_mem _ hd).plus (made_times List.mem_cons_self j), ?_⟩
    have e1 : z = ((gcdL r : Nat) : Int) * (y * k) + x * k * c := by
      rw [hk, ← e, Int.add_mul]
      have a1 : c * x * k = x * k * c := by rw [Int.mul_comm c x, Int.mul_assoc, Int.mul_comm c k, Int.mul_assoc]
      rw [a1, Int.mul_assoc ((gcdL r : Nat) : Int) y k]
      omega
    rw [e1]
    generalize ((gcdL r : Nat) : Int) * (y * k) = u at es
    rw [← hj, Int.add_emod, es, Int.mul_emod, Int.emod_emod_of_dvd _ (Int.dvd_refl _), ← Int.mul_emod, ← Int.add_emod]
theorem mk_far {cs : List Int} {m : Nat} {L : Tb} {M : Nat} (h : LT cs m L) (hm : 0 < m) (hmc : (m : Int) ∈ cs) (hp : Pos cs) (hM : ∀ c ∈ cs, c ≤ (M : Int)) (hg : 0 < gcdL cs) {n : Int} (hn : ((m * M : Nat) : Int) ≤ n) : mk cs n = decide (n % ((gcdL cs : Nat) : Int) = 0) := by
  rw [Bool.eq_iff_iff, mk_iff, decide_eq_true_iff]
  have en : n = ((n.toNat : Nat) : Int) := by omega
  constructor
  · exact fun z => Int.emod_eq_zero_of_dvd (made_dvd hp z)
  · intro z
    obtain ⟨s, ms, es⟩ := made_rest hm hp n (Int.dvd_of_emod_eq_zero z)
    have s0 := ms.nonneg hp
    have ess : s = ((s.toNat : Nat) : Int) := by omega
    obtain ⟨y, ey, _⟩ := h.best s.toNat (by rw [← ess]; exact ms)
    have er : s.toNat % m = n.toNat % m := by
      have : ((s.toNat % m : Nat) : Int) = ((n.toNat % m : Nat) : Int) := by
        push_cast
        rw [← ess, ← en]
        exact es
      exact Int.ofNat.inj this
    rw [er] at ey
    have hy := h.far hm hp hM ey
    have hle : y ≤ n.toNat := by omega
    have q := lt_made h hmc hm n.toNat
    rw [ey] at q
    have q2 : mk cs ((n.toNat : Nat) : Int) = true := q.trans (decide_eq_true hle)
    rw [← en] at q2
    exact mk_iff.mp q2
/-- a table of least sums there is -/
theorem LT.ex {c : Int} (hc : 1 ≤ c) : ∀ r : List Int, (∀ d ∈ r, 1 ≤ d) → ∀ ks : List Int, Pos (c :: ks) → (∃ L, LT (c :: ks) c.toNat L) → ∃ L, LT (c :: (ks ++ r)) c.toNat L
  | [], _, ks, _, h => by rw [List.append_nil]; exact h
  | d :: r, hr, ks, hp, ⟨L, h⟩ => by
    have d1 := hr d List.mem_cons_self
    have ed : d = ((d.toNat : Nat) : Int) := by omega
    have h2 := h.add (c := d.toNat) hp (by omega) (by omega)
    rw [← ed] at h2
    have := LT.ex hc r (fun z hz => hr z (List.mem_cons_of_mem _ hz)) (ks ++ [d]) (fun z hz => ?_) ⟨_, h2⟩
    · rw [List.append_assoc] at this
      exact this
    · rcases List.mem_cons.mp hz with y | y
      · rw [y]; omega
      · rcases List.mem_append.mp y with y | y
        · exact hp z (List.mem_cons_of_mem _ y)
        · rw [List.mem_singleton.mp y]; omega
theorem Purse.table {m : Int} {cs : List Int} (p : Purse m cs) : ∃ L, LT cs (CY.m0 cs) L := by
  cases h : cs with
  | nil => exact absurd h p.ne
  | cons c r =>
    have c1 := p.lo c (by rw [h]; exact List.mem_cons_self)
    exact LT.ex c1 r (fun d hd => p.lo d (by rw [h]; exact List.mem_cons_of_mem _ hd)) [] (fun z hz => by rw [List.mem_singleton.mp hz]; omega) ⟨_, LT.first c1⟩
def sp_makes : Sp := fun vs H Q _ => ∃ (t : Addr) (cs : List Int) (n : Int), vs = [.ref t, .int n] ∧ H t = some (.tup (ivs cs)) ∧ Purse 400 cs ∧ 0 ≤ n ∧ ∀ H', Same H H' → Q (.bl (mk cs n)) H'
def sp_issum : Sp := fun vs H Q _ => ∃ i : Int, vs = [.int i] ∧ Q (.bl (decide (i ≥ 0))) H
end CY

set_option Elab.async false
set_option linter.all false
set_option maxRecDepth 100000
namespace CY
open PySem PySem.Spec PyProof.Rows L2

/-! ### gaps -/
abbrev ints0 (n : Nat) : List Int := (List.range n).map fun (i : Nat) => (i : Int)
theorem mem_ints0 {n : Nat} {x : Int} : x ∈ ints0 n ↔ 0 ≤ x ∧ x < n := by
  constructor
  · intro h
    obtain ⟨i, hi, rfl⟩ := List.mem_map.mp h
    have := List.mem_range.mp hi
    omega
  · rintro ⟨h0, h1⟩
    exact List.mem_map.mpr ⟨x.toNat, List.mem_range.mpr (by omega), by omega⟩
theorem ints0_rise (n : Nat) : (ints0 n).Pairwise (· < ·) := by
  rw [List.pairwise_map]
  exact (List.pairwise_lt_range (n := n)).imp fun h => by omega
noncomputable def gaps (cs : List Int) : List Int := (ints0 (far cs)).filter fun n => !mk cs n
theorem beyond_far {m : Int} {cs : List Int} (p : Purse m cs) (hg : gcdL cs = 1) {n : Int} (hn : ((far cs : Nat) : Int) ≤ n) : mk cs n = true := by
  obtain ⟨L, hL⟩ := p.table
  have h1 := p.lo _ p.m0.1
  have hm : 0 < m0 cs := by omega
  rw [mk_far hL hm p.m0.1 p.pos p.mx.2 (by omega) hn, hg]
  simp [Int.emod_one]
theorem mem_gaps {m : Int} {cs : List Int} (p : Purse m cs) (hg : gcdL cs = 1) {x : Int} : x ∈ gaps cs ↔ 0 ≤ x ∧ mk cs x = false := by
  unfold gaps
  rw [List.mem_filter, mem_ints0]
  constructor
  · rintro ⟨⟨h0, _⟩, h⟩
    exact ⟨h0, by simpa using h⟩
  · rintro ⟨h0, h⟩
    refine ⟨⟨h0, ?_⟩, by simpa using h⟩
    by_cases z : x < ((far cs : Nat) : Int)
    · exact z
    · rw [beyond_far p hg (by omega)] at h
      cases h
theorem gaps_rise (cs : List Int) : (gaps cs).Pairwise (· < ·) := (ints0_rise _).filter _
/-- the greatest gap, or -1 -/
noncomputable def fr (cs : List Int) : Int := (gaps cs).getLastD (-1)
theorem fr_nil {cs : List Int} (h : gaps cs = []) : fr cs = -1 := by unfold fr; rw [h]; rfl
theorem fr_last {cs : List Int} (h : gaps cs ≠ []) : fr cs = (gaps cs).getLast h := by
  unfold fr
  rw [List.getLastD_eq_getLast?, List.getLast?_eq_some_getLast h]
  rfl
theorem fr_mem {cs : List Int} (h : gaps cs ≠ []) : fr cs ∈ gaps cs := by rw [fr_last h]; exact List.getLast_mem h
theorem le_fr {cs : List Int} {x : Int} (h : x ∈ gaps cs) : x ≤ fr cs := by
  have hn : gaps cs ≠ [] := fun z => by rw [z] at h; cases h
  rw [fr_last hn]
  exact le_last (gaps_rise cs) hn x h
theorem fr_ge {m : Int} {cs : List Int} (p : Purse m cs) (hg : gcdL cs = 1) : -1 ≤ fr cs := by
  by_cases h : gaps cs = []
  · rw [fr_nil h]; exact Int.le_refl _
  · have := ((mem_gaps p hg).mp (fr_mem h)).1
    omega
section
variable {m : Int} {cs : List Int}
theorem beyond_fr (p : Purse m cs) (hg : gcdL cs = 1) {n : Int} (hn : fr cs < n) (h0 : 0 ≤ n) : mk cs n = true := by
  cases e : mk cs n with
  | true => rfl
  | false =>
    have := le_fr ((mem_gaps p hg).mpr ⟨h0, e⟩)
    omega
theorem fr_gap (p : Purse m cs) (hg : gcdL cs = 1) (h : 0 ≤ fr cs) : mk cs (fr cs) = false := by
  have hn : gaps cs ≠ [] := fun z => by rw [fr_nil z] at h; omega
  exact ((mem_gaps p hg).mp (fr_mem hn)).2
theorem mk_add {n : Int} {c : Int} (h : mk cs n = true) (g : mk cs c = true) : mk cs (n + c) = true := mk_iff.mpr ((mk_iff.mp h).plus (mk_iff.mp g))
theorem mk_coin {c : Int} (h : c ∈ cs) : mk cs c = true := mk_iff.mpr (Made.one h)
/-- of two that come to the greatest gap not both are made -/
theorem not_both (p : Purse m cs) (hg : gcdL cs = 1) (h0 : 0 ≤ fr cs) {n : Int} (h : mk cs n = true) : mk cs (fr cs - n) = false := by
  cases e : mk cs (fr cs - n) with
  | false => rfl
  | true =>
    have := mk_add h e
    rw [show n + (fr cs - n) = fr cs by omega, fr_gap p hg h0] at this
    cases this
end
noncomputable def evenB (cs : List Int) : Bool := (ints0 (fr cs + 1).toNat).all fun n => mk cs n != mk cs (fr cs - n)
/-! ### counting -/
theorem cnt_or {α : Type} {p q : α → Bool} : ∀ {l : List α}, (∀ x ∈ l, p x = true → q x = false) → l.countP (fun x => p x || q x) = l.countP p + l.countP q
  | [], _ => rfl
  | x :: r, h => by
    rw [List.countP_cons, List.countP_cons, List.countP_cons, cnt_or (l := r) fun y hy => h y (List.mem_cons_of_mem _ hy)]
    have hx := h x List.mem_cons_self
    cases hp : p x <;> cases hq : q x <;> simp
    · omega
    · omega
    · rw [hp, hq] at hx; cases hx rfl
theorem cnt_not {α : Type} (p : α → Bool) : ∀ l : List α, l.countP p + l.countP (fun x => !p x) = l.length
  | [] => rfl
  | x :: r => by
    have := cnt_not p r
    rw [List.countP_cons, List.countP_cons, List.length_cons]
    cases p x <;> simp <;> omega
theorem ints0_rev (n : Nat) : (ints0 n).map (fun x => (n : Int) - 1 - x) = (ints0 n).reverse := by
  refine List.ext_getElem (by simp) fun i h1 h2 => ?_
  have hi : i < n := by simpa using h1
  simp
  omega
theorem cnt_rev (p : Int → Bool) (n : Nat) : (ints0 n).countP (fun x => p ((n : Int) - 1 - x)) = (ints0 n).countP p := by
  have e : (ints0 n).countP (fun x => p ((n : Int) - 1 - x)) = ((ints0 n).map fun x => (n : Int) - 1 - x).countP p := by
    rw [List.countP_map (l := ints0 n)]
    rfl
  rw [e, ints0_rev, List.countP_reverse]
section
variable {m : Int} {cs : List Int}
theorem gaps_len (p : Purse m cs) (hg : gcdL cs = 1) : (gaps cs).length = (ints0 (fr cs + 1).toNat).countP fun n => !mk cs n := by
  have h1 := fr_ge p hg
  have e : gaps cs = (ints0 (fr cs + 1).toNat).filter fun n => !mk cs n := by
    have hN : (fr cs + 1).toNat ≤ far cs := by
      by_cases z : gaps cs = []
      · rw [fr_nil z]; exact Nat.zero_le _
      · have := fr_mem z
        unfold gaps at this
        have := (mem_ints0.mp (List.mem_filter.mp this).1).2
        omega
    have e2 : far cs = (fr cs + 1).toNat + (far cs - (fr cs + 1).toNat) := by omega
    conv => lhs; unfold gaps
    unfold ints0
    rw [e2, List.range_add, List.map_append, List.filter_append]
    have : (((List.range (far cs - (fr cs + 1).toNat)).map fun x => (fr cs + 1).toNat + x).map fun (i : Nat) => (i : Int)).filter (fun n => !mk cs n) = [] := by
      rw [List.filter_eq_nil_iff]
      intro a ha z
      obtain ⟨b, hb, rfl⟩ := List.mem_map.mp ha
      obtain ⟨c, _, rfl⟩ := List.mem_map.mp hb
      rw [beyond_fr p hg (by omega) (by omega)] at z
      cases z
    rw [this, List.append_nil]
  conv => lhs; rw [e]
  rw [List.countP_eq_length_filter]
/-- half of them at least; just half, where the purse is even -/
theorem gaps_half (p : Purse m cs) (hg : gcdL cs = 1) : fr cs + 1 ≤ 2 * ((gaps cs).length : Int) ∧ decide (2 * ((gaps cs).length : Int) = fr cs + 1) = evenB cs := by
  have h1 := fr_ge p hg
  generalize hn : (fr cs + 1).toNat = n
  have en : fr cs = (n : Int) - 1 := by omega
  have c1 := cnt_not (fun x => mk cs x) (ints0 n)
  have c2 := cnt_rev (fun x => mk cs x) n
  have gl := gaps_len p hg
  rw [hn] at gl
  have hl : (ints0 n).length = n := by simp
  have dis : ∀ x ∈ ints0 n, mk cs x = true → mk cs ((n : Int) - 1 - x) = false := fun x hx h => by
    have h2 := mem_ints0.mp hx
    rw [← en]
    exact not_both p hg (by omega) h
  have c3 := cnt_or (p := fun x => mk cs x) (q := fun x => mk cs ((n : Int) - 1 - x)) dis
  have c4 := List.countP_le_length (p := fun x => mk cs x || mk cs ((n : Int) - 1 - x)) (l := ints0 n)
  refine ⟨by omega, ?_⟩
  rw [Bool.eq_iff_iff, decide_eq_true_iff]
  have all : (ints0 n).countP (fun x => mk cs x || mk cs ((n : Int) - 1 - x)) = (ints0 n).length ↔ evenB cs = true := by
    rw [List.countP_eq_length]
    unfold evenB
    rw [hn, List.all_eq_true]
    constructor
    · intro h x hx
      have h3 := h x hx
      have h4 := dis x hx
      rw [← en] at h3 h4
      cases e1 : mk cs x <;> cases e2 : mk cs (fr cs - x) <;> simp_all
    · intro h x hx
      have h3 := h x hx
      rw [← en]
      cases e1 : mk cs x <;> cases e2 : mk cs (fr cs - x) <;> simp_all
  rw [← all]
  omega

/-! ### ends -/
end
end CY

set_option Elab.async false
set_option linter.all false
set_option maxRecDepth 100000
namespace CY
open PySem PySem.Spec PyProof.Rows L2

/-! ### gaps by the table of least sums -/
section
variable {w : Int} {cs : List Int} {L : Tb}
/-- the numbers of the table -/
def nums (L : Tb) : List Nat := L.map fun o => o.getD 0
end
/-! ### what the functions of coinyard.gaps promise: C is the class Endless -/
end CY

set_option Elab.async false
set_option linter.all false
set_option maxRecDepth 100000
namespace CY
open PySem PySem.Spec PyProof.Rows L2
section
variable {w : Int} {cs : List Int} {L : Tb}
theorem m0_le (p : Purse w cs) : ∀ c ∈ cs, ((m0 cs : Nat) : Int) ≤ c := by
  have hr := p.rise
  have hl := p.lo
  cases cs with
  | nil => intro c hc; cases hc
  | cons a r =>
    have ha := hl a List.mem_cons_self
    have e : ((m0 (a :: r) : Nat) : Int) = a := by
      show ((a.toNat : Nat) : Int) = a
      omega
    intro c hc
    rw [e]
    rcases List.mem_cons.mp hc with z | z
    · rw [z]; exact Int.le_refl _
    · exact Int.le_of_lt ((List.pairwise_cons.mp hr).1 c z)
theorem made_m0 (p : Purse w cs) {n : Int} (h : Made cs n) : n = 0 ∨ ((m0 cs : Nat) : Int) ≤ n := by
  induction h with
  | zero => exact .inl rfl
  | @add k c hk hc ih =>
    have := m0_le p c hc
    have := hk.nonneg p.pos
    right
    omega
end
/-! ### promises of the helpers -/
end CY

set_option Elab.async false
set_option linter.all false
set_option maxRecDepth 100000
namespace CY
open PySem PySem.Spec PyProof.Rows L2

/-! ### two coins without a common divisor -/
section
variable {a b : Nat}
theorem made2 {n : Int} : Made [(a : Int), (b : Int)] n ↔ ∃ i j : Nat, n = i * a + j * b := by
  constructor
  · intro h
    induction h with
    | zero => exact ⟨0, 0, by simp⟩
    | @add k c hk hc ih =>
      obtain ⟨i, j, e⟩ := ih
      rcases List.mem_cons.mp hc with z | z
      · refine ⟨i + 1, j, ?_⟩
        rw [e, z]
        push_cast
        rw [Int.add_mul]
        omega
      · rw [List.mem_singleton] at z
        refine ⟨i, j + 1, ?_⟩
        rw [e, z]
        push_cast
        rw [Int.add_mul]
        omega
  · rintro ⟨i, j, rfl⟩
    exact (made_times List.mem_cons_self i).plus (made_times (List.mem_cons_of_mem _ List.mem_cons_self) j)
/-- the rest by b times a -/
theorem split2 (hb : 0 < b) (hg : Nat.gcd a b = 1) (n : Int) : ∃ (x : Nat) (y : Int), x < b ∧ n = x * a + y * b := by
  obtain ⟨u, v, e⟩ := bezout a b
  rw [hg] at e
  have hbi : (b : Int) ≠ 0 := by omega
  have h0 := Int.emod_nonneg (n * u) hbi
  have h1 := Int.emod_lt_of_pos (n * u) (show 0 < (b : Int) by omega)
  obtain ⟨x, hx⟩ := Int.eq_ofNat_of_zero_le h0
  refine ⟨x, n * v + (n * u / b) * a, by omega, ?_⟩
  have h2 := Int.emod_add_mul_ediv (n * u) b
  rw [hx] at h2
  have e1 : n = n * u * a + n * v * b := by
    have : n = n * ((1 : Nat) : Int) := by simp
    conv => lhs; rw [this, ← e]
    rw [Int.mul_add]
    have a1 : n * ((a : Int) * u) = n * u * a := by rw [Int.mul_comm (a : Int) u, Int.mul_assoc]
    have a2 : n * ((b : Int) * v) = n * v * b := by rw [Int.mul_comm (b : Int) v, Int.mul_assoc]
    rw [a1, a2]
  have e2 : n * u * a = x * a + (n * u / b) * a * b := by
    conv => lhs; rw [← h2]
    rw [Int.add_mul]
    have : (b : Int) * (n * u / b) * a = (n * u / b) * a * b := by rw [Int.mul_comm (b : Int), Int.mul_assoc, Int.mul_comm (b : Int), ← Int.mul_assoc]
    rw [this]
  rw [Int.add_mul]
  omega
variable (ha : 2 ≤ a) (hab : a < b) (hg : Nat.gcd a b = 1)
include ha hab hg
theorem either2 (n : Int) : mk [(a : Int), (b : Int)] n = true ∨ mk [(a : Int), (b : Int)] ((a : Int) * b - a - b - n) = true := by
  obtain ⟨x, y, hx, e⟩ := split2 (by omega) hg n
  by_cases hy : 0 ≤ y
  · exact .inl (mk_iff.mpr (made2.mpr ⟨x, y.toNat, by rw [Int.toNat_of_nonneg hy]; exact e⟩))
  · refine .inr (mk_iff.mpr (made2.mpr ⟨b - 1 - x, (-1 - y).toNat, ?_⟩))
    rw [Int.toNat_of_nonneg (by omega)]
    have e1 : ((b - 1 - x : Nat) : Int) = (b : Int) - 1 - x := by omega
    rw [e1, e]
    simp only [Int.sub_mul, Int.neg_mul, Int.one_mul]
    rw [Int.mul_comm (a : Int) b]
    omega
theorem top2 : mk [(a : Int), (b : Int)] ((a : Int) * b - a - b) = false := by
  cases q : mk [(a : Int), (b : Int)] ((a : Int) * b - a - b) with
  | false => rfl
  | true =>
    exfalso
    obtain ⟨i, j, e⟩ := made2.mp (mk_iff.mp q)
    have e1 : ((a * b : Nat) : Int) = (((i + 1) * a + (j + 1) * b : Nat) : Int) := by
      push_cast
      rw [Int.add_mul, Int.add_mul]
      omega
    have e2 : a * b = (i + 1) * a + (j + 1) * b := Int.ofNat.inj e1
    have d : b ∣ (i + 1) * a := by
      have : b ∣ (i + 1) * a + (j + 1) * b := by rw [← e2]; exact Nat.dvd_mul_left _ _
      exact (Nat.dvd_add_left (Nat.dvd_mul_left b (j + 1))).mp this
    have d2 : b ∣ i + 1 := (Nat.Coprime.symm hg : Nat.Coprime b a).dvd_of_dvd_mul_right d
    have h3 := Nat.le_of_dvd (by omega) d2
    have h4 := Nat.mul_le_mul_right a h3
    have h5 : 0 < (j + 1) * b := Nat.mul_pos (by omega) (by omega)
    rw [Nat.mul_comm a b] at e2
    omega
theorem big2 : (0 : Int) ≤ (a : Int) * b - a - b := by
  have h1 : 2 * b ≤ a * b := Nat.mul_le_mul_right b ha
  have h2 : ((a * b : Nat) : Int) = (a : Int) * b := by push_cast; rfl
  omega
theorem gcd2 : gcdL [(a : Int), (b : Int)] = 1 := by
  rw [gcdL_cons, gcdL_cons]
  show Nat.gcd ((a : Int)).toNat (Nat.gcd ((b : Int)).toNat 0) = 1
  rw [Nat.gcd_zero_right, Int.toNat_natCast, Int.toNat_natCast]
  exact hg
theorem fr2 {m : Int} (p : Purse m [(a : Int), (b : Int)]) : fr [(a : Int), (b : Int)] = (a : Int) * b - a - b := by
  have g1 := gcd2 ha hab hg
  have hm : (a : Int) * b - a - b ∈ gaps [(a : Int), (b : Int)] := (mem_gaps p g1).mpr ⟨big2 ha hab hg, top2 ha hab hg⟩
  have hn : gaps [(a : Int), (b : Int)] ≠ [] := fun z => by rw [z] at hm; cases hm
  have h1 := le_fr hm
  have h2 := (mem_gaps p g1).mp (fr_mem hn)
  rcases either2 ha hab hg (fr [(a : Int), (b : Int)]) with z | z
  · rw [h2.2] at z; cases z
  · have := (mk_iff.mp z).nonneg p.pos
    omega
theorem just2 {m : Int} (p : Purse m [(a : Int), (b : Int)]) (n : Int) : mk [(a : Int), (b : Int)] n ≠ mk [(a : Int), (b : Int)] (fr [(a : Int), (b : Int)] - n) := by
  have g1 := gcd2 ha hab hg
  have e := fr2 ha hab hg p
  have f0 : 0 ≤ fr [(a : Int), (b : Int)] := by rw [e]; exact big2 ha hab hg
  intro z
  rcases either2 ha hab hg n with y | y
  · have := not_both p g1 f0 y
    rw [← z, y] at this
    cases this
  · rw [← e] at y
    rw [y] at z
    have := not_both p g1 f0 z
    rw [y] at this
    cases this
theorem even2 {m : Int} (p : Purse m [(a : Int), (b : Int)]) : evenB [(a : Int), (b : Int)] = true := by
  unfold evenB
  rw [List.all_eq_true]
  intro x _
  simpa using just2 ha hab hg p x
theorem len2 {m : Int} (p : Purse m [(a : Int), (b : Int)]) : ((gaps [(a : Int), (b : Int)]).length : Int) * 2 = ((a : Int) - 1) * ((b : Int) - 1) := by
  have h1 := (gaps_half p (gcd2 ha hab hg)).2
  rw [even2 ha hab hg p] at h1
  have h2 := of_decide_eq_true h1
  rw [fr2 ha hab hg p] at h2
  simp only [Int.sub_mul, Int.mul_sub, Int.mul_one, Int.one_mul]
  omega
end
end CY

set_option Elab.async false
set_option linter.all false
set_option maxRecDepth 100000
namespace CY
open PySem PySem.Spec PyProof.Rows L2

/-! ### paying: with so many coins -/
inductive MadeK (cs : List Int) : Nat → Int → Prop where
  | zero : MadeK cs 0 0
  | add {k : Nat} {n c : Int} : MadeK cs k n → c ∈ cs → MadeK cs (k + 1) (n + c)
section
variable {cs : List Int}
theorem MadeK.made {k : Nat} {n : Int} (h : MadeK cs k n) : Made cs n := by
  induction h with
  | zero => exact .zero
  | add _ hc ih => exact ih.add hc
theorem Made.madeK {n : Int} (h : Made cs n) : ∃ k, MadeK cs k n := by
  induction h with
  | zero => exact ⟨0, .zero⟩
  | add _ hc ih =>
    obtain ⟨k, hk⟩ := ih
    exact ⟨k + 1, hk.add hc⟩
theorem MadeK.mono {ds : List Int} (h : ∀ c ∈ cs, c ∈ ds) {k : Nat} {n : Int} (m : MadeK cs k n) : MadeK ds k n := by
  induction m with
  | zero => exact .zero
  | add _ hc ih => exact .add ih (h _ hc)
theorem MadeK.nonneg (h : Pos cs) {k : Nat} {n : Int} (m : MadeK cs k n) : (k : Int) ≤ n := by
  induction m with
  | zero => simp
  | add _ hc ih => have := h _ hc; push_cast; omega
open Classical in
/-- the fewest coins -/
noncomputable def fw (cs : List Int) (n : Int) : Option Nat := if h : ∃ k, MadeK cs k n then some (Classical.choose (least_nat (fun k => MadeK cs k n) h)) else none
theorem fw_some {n : Int} {k : Nat} : fw cs n = some k ↔ MadeK cs k n ∧ ∀ j, MadeK cs j n → k ≤ j := by
  unfold fw
  constructor
  · intro h
    split at h
    · rename_i hx
      have e := Option.some.inj h
      have sp := Classical.choose_spec (least_nat (fun k => MadeK cs k n) hx)
      rw [e] at sp
      exact sp
    · cases h
  · rintro ⟨h1, h2⟩
    have hx : ∃ k, MadeK cs k n := ⟨k, h1⟩
    rw [dif_pos hx]
    have sp := Classical.choose_spec (least_nat (fun k => MadeK cs k n) hx)
    have a := h2 _ sp.1
    have b := sp.2 k h1
    exact congrArg some (Nat.le_antisymm b a)
theorem fw_none {n : Int} : fw cs n = none ↔ mk cs n = false := by
  unfold fw
  constructor
  · intro h
    split at h
    · cases h
    · rename_i hx
      cases e : mk cs n with
      | false => rfl
      | true => exact absurd (mk_iff.mp e).madeK hx
  · intro h
    rw [dif_neg]
    rintro ⟨k, hk⟩
    rw [mk_iff.mpr hk.made] at h
    cases h
theorem fw_zero (h : Pos cs) : fw cs 0 = some 0 := fw_some.mpr ⟨.zero, fun _ _ => Nat.zero_le _⟩
theorem fw_is {n : Int} (h : mk cs n = true) : ∃ k, fw cs n = some k := by
  cases e : fw cs n with
  | some k => exact ⟨k, rfl⟩
  | none => rw [fw_none.mp e] at h; cases h
theorem fw_step {n : Int} {c : Int} {j : Nat} (hc : c ∈ cs) (h : fw cs (n - c) = some j) : ∃ k, fw cs n = some k ∧ k ≤ j + 1 := by
  obtain ⟨h1, _⟩ := fw_some.mp h
  have h2 := h1.add hc
  rw [show n - c + c = n by omega] at h2
  obtain ⟨k, hk⟩ := fw_is (mk_iff.mpr h2.made)
  exact ⟨k, hk, (fw_some.mp hk).2 _ h2⟩
/-! ### ways -/
def dot (ws cs : List Int) : Int := (List.zipWith (· * ·) ws cs).sum
end
/-! ### the greatest coin first -/
/-- coins falling: how often each is taken, and what is left -/
def grR : List Int → Int → List Int × Int
  | [], n => ([], n)
  | c :: r, n => ((n / c) :: (grR r (n % c)).1, (grR r (n % c)).2)
/-- coins rising -/
def gw (cs : List Int) (n : Int) : List Int := (grR cs.reverse n).1.reverse
def gl (cs : List Int) (n : Int) : Int := (grR cs.reverse n).2
/-! ### what coinyard.paying and coinyard.greedy promise: B is BadSum -/
end CY

set_option Elab.async false
set_option linter.all false
set_option maxRecDepth 100000
namespace CY
open PySem PySem.Spec PyProof.Rows L2

/-! ### the first fault -/
section
variable {m : Int} {cs : List Int}
/-- how many coins the greatest first takes -/
def gs (cs : List Int) (n : Int) : Int := (gw cs n).sum
end
end CY

set_option Elab.async false
set_option linter.all false
set_option maxRecDepth 100000
namespace CY
open PySem PySem.Spec PyProof.Rows L2

/-! ### how many ways -/
def cw : List Int → Int → Nat
  | [], n => if n = 0 then 1 else 0
  | c :: cs, n => ((List.range (if n < 0 then 0 else (n / c).toNat + 1)).map fun (i : Nat) => cw cs (n - (i : Int) * c)).sum
theorem cw_neg : ∀ (cs : List Int) {n : Int}, n < 0 → cw cs n = 0
  | [], n, h => by unfold cw; rw [if_neg (by omega)]
  | c :: cs, n, h => by unfold cw; rw [if_pos h]; rfl
theorem cw_step {c : Int} (cs : List Int) (hc : 0 < c) {n : Int} (h0 : 0 ≤ n) : cw (c :: cs) n = cw cs n + cw (c :: cs) (n - c) := by
  have e1 : cw (c :: cs) n = ((List.range ((n / c).toNat + 1)).map fun (i : Nat) => cw cs (n - (i : Int) * c)).sum := by
    conv => lhs; unfold cw
    rw [if_neg (by omega)]
  rw [e1, List.range_succ_eq_map, List.map_cons, List.sum_cons, List.map_map]
  have e2 : cw cs (n - ((0 : Nat) : Int) * c) = cw cs n := by
    rw [show ((0 : Nat) : Int) * c = 0 by simp, Int.sub_zero]
  rw [e2]
  congr 1
  by_cases z : n < c
  · rw [cw_neg _ (by omega), Int.ediv_eq_zero_of_lt h0 z]
    rfl
  · have e3 : (n - c) / c = n / c - 1 := by
      have : n - c = n + c * (-1) := by omega
      rw [this, Int.add_mul_ediv_left _ _ (Int.ne_of_gt hc)]
      omega
    have h1 : 1 ≤ n / c := Int.le_ediv_of_mul_le hc (by omega)
    conv => rhs; unfold cw
    rw [if_neg (by omega), e3, show (n / c - 1).toNat + 1 = (n / c).toNat by omega]
    congr 1
    refine List.map_congr_left fun i _ => ?_
    show cw cs (n - ((i + 1 : Nat) : Int) * c) = cw cs (n - c - (i : Int) * c)
    congr 1
    push_cast
    rw [Int.add_mul]
    omega
/-- any coin may be the one -/
theorem cw_any : ∀ (cs : List Int) (k : Nat) (c : Int), Pos cs → cs[k]? = some c → ∀ n : Int, 0 ≤ n → cw cs n = cw (cs.eraseIdx k) n + cw cs (n - c)
  | [], _, _, _, h => by simp at h
  | d :: cs, 0, c, hp, h => by
    have e : d = c := by simpa using h
    subst e
    intro n h0
    exact cw_step cs (hp d List.mem_cons_self) h0
  | d :: cs, k + 1, c, hp, h => by
    have hc : cs[k]? = some c := by simpa using h
    have hp' : Pos cs := fun x hx => hp x (List.mem_cons_of_mem _ hx)
    have c0 := hp' c (List.mem_of_getElem? hc)
    have d0 := hp d List.mem_cons_self
    have ih := cw_any cs k c hp' hc
    have ih' : ∀ n : Int, cw cs n = cw (cs.eraseIdx k) n + cw cs (n - c) := fun n => by
      by_cases z : 0 ≤ n
      · exact ih n z
      · rw [cw_neg _ (by omega), cw_neg _ (by omega), cw_neg _ (by omega)]
    have main : ∀ m : Nat, ∀ n : Int, n.toNat = m → cw (d :: cs) n = cw (d :: cs.eraseIdx k) n + cw (d :: cs) (n - c) := by
      intro m
      induction m using Nat.strongRecOn with
      | ind m im =>
        intro n hn
        by_cases z : 0 ≤ n
        · have s1 := cw_step cs d0 z
          have s2 := cw_step (cs.eraseIdx k) d0 z
          have i1 := ih' n
          have i2 : cw (d :: cs) (n - d) = cw (d :: cs.eraseIdx k) (n - d) + cw (d :: cs) (n - d - c) := by
            by_cases y : 0 ≤ n - d
            · exact im (n - d).toNat (by omega) (n - d) rfl
            · rw [cw_neg _ (by omega), cw_neg _ (by omega), cw_neg _ (by omega)]
          have s3 : cw (d :: cs) (n - c) = cw cs (n - c) + cw (d :: cs) (n - d - c) := by
            by_cases y : 0 ≤ n - c
            · rw [cw_step cs d0 y, show n - c - d = n - d - c by omega]
            · rw [cw_neg _ (by omega), cw_neg _ (by omega), cw_neg _ (by omega)]
          omega
        · rw [cw_neg _ (by omega), cw_neg _ (by omega), cw_neg _ (by omega)]
    intro n _
    exact main _ n rfl
/-- a sum has ways just if it is made -/
theorem cw_made : ∀ (cs : List Int), Pos cs → ∀ n : Int, 0 < cw cs n ↔ Made cs n
  | [], _, n => by
    unfold cw
    constructor
    · intro h
      by_cases z : n = 0
      · rw [z]; exact .zero
      · rw [if_neg z] at h; omega
    · intro h
      have : n = 0 := by
        cases h with
        | zero => rfl
        | add _ hc => cases hc
      rw [if_pos this]
      omega
  | c :: cs, hp, n => by
    have hp' : Pos cs := fun x hx => hp x (List.mem_cons_of_mem _ hx)
    have c0 := hp c List.mem_cons_self
    have main : ∀ m : Nat, ∀ n : Int, n.toNat = m → (0 < cw (c :: cs) n ↔ Made (c :: cs) n) := by
      intro m
      induction m using Nat.strongRecOn with
      | ind m im =>
        intro n hn
        by_cases z : 0 ≤ n
        · rw [cw_step cs c0 z]
          have i1 := cw_made cs hp' n
          have i2 : 0 < cw (c :: cs) (n - c) ↔ Made (c :: cs) (n - c) := by
            by_cases y : 0 ≤ n - c
            · exact im (n - c).toNat (by omega) (n - c) rfl
            · rw [cw_neg _ (by omega)]
              exact ⟨fun z => by omega, fun z => by have := z.nonneg hp; omega⟩
          constructor
          · intro h
            by_cases y : 0 < cw cs n
            · exact (i1.mp y).mono fun x hx => List.mem_cons_of_mem _ hx
            · have := (i2.mp (by omega)).add (List.mem_cons_self (a := c) (l := cs))
              rwa [show n - c + c = n by omega] at this
          · intro h
            have key : Made cs n ∨ Made (c :: cs) (n - c) := by
              clear i1 i2 im hn z
              induction h with
              | zero => exact .inl .zero
              | @add k d hk hd ih =>
                rcases List.mem_cons.mp hd with e | e
                · right
                  rw [e, show k + c - c = k by omega]
                  exact hk
                · rcases ih with ih | ih
                  · exact .inl (ih.add e)
                  · right
                    have := ih.add (List.mem_cons_of_mem c e)
                    rwa [show k - c + d = k + d - c by omega] at this
            rcases key with y | y
            · have := i1.mpr y; omega
            · have := i2.mpr y; omega
        · rw [cw_neg _ (by omega)]
          exact ⟨fun z => by omega, fun z => by have := z.nonneg hp; omega⟩
    exact main _ n rfl
/-! ### the fewest, with and without a coin -/
theorem madeK_split {cs ds : List Int} {c : Int} (hd : ∀ x ∈ cs, x = c ∨ x ∈ ds) {k : Nat} {n : Int} (h : MadeK cs k n) : MadeK ds k n ∨ ∃ j, k = j + 1 ∧ MadeK cs j (n - c) := by
  induction h with
  | zero => exact .inl .zero
  | @add j m x hm hx ih =>
    rcases hd x hx with e | e
    · exact .inr ⟨j, rfl, by rw [e, show m + c - c = m by omega]; exact hm⟩
    · rcases ih with ih | ⟨i, e2, ih⟩
      · exact .inl (ih.add e)
      · refine .inr ⟨j, rfl, ?_⟩
        have := ih.add hx
        rw [show m - c + x = m + x - c by omega] at this
        rw [e2]
        exact this
theorem fw_any {cs ds : List Int} {c : Int} {n : Int} (hp : Pos cs) (hc : c ∈ cs) (hd : ∀ x ∈ cs, x = c ∨ x ∈ ds) (hs : ∀ x ∈ ds, x ∈ cs) :
    fw cs n = match fw ds n, fw cs (n - c) with
      | none, none => none
      | some a, none => some a
      | none, some b => some (b + 1)
      | some a, some b => some (min a (b + 1)) := by
  have up : ∀ {a : Nat}, fw ds n = some a → ∃ k, fw cs n = some k ∧ k ≤ a := fun {a} h => by
    have h1 := (fw_some.mp h).1.mono hs
    obtain ⟨k, hk⟩ := fw_is (mk_iff.mpr h1.made)
    exact ⟨k, hk, (fw_some.mp hk).2 _ h1⟩
  have down : ∀ {k : Nat}, fw cs n = some k → (∃ a, fw ds n = some a ∧ a ≤ k) ∨ ∃ b, fw cs (n - c) = some b ∧ b + 1 ≤ k := fun {k} h => by
    rcases madeK_split hd (fw_some.mp h).1 with z | ⟨j, e, z⟩
    · obtain ⟨a, ha⟩ := fw_is (mk_iff.mpr z.made)
      exact .inl ⟨a, ha, (fw_some.mp ha).2 _ z⟩
    · obtain ⟨b, hb⟩ := fw_is (mk_iff.mpr z.made)
      have := (fw_some.mp hb).2 _ z
      exact .inr ⟨b, hb, by omega⟩
  cases ea : fw ds n with
  | none =>
    cases eb : fw cs (n - c) with
    | none =>
      cases ek : fw cs n with
      | none => rfl
      | some k =>
        rcases down ek with ⟨a, h, _⟩ | ⟨b, h, _⟩
        · rw [ea] at h; cases h
        · rw [eb] at h; cases h
    | some b =>
      obtain ⟨k, hk, hle⟩ := fw_step hc eb
      rw [hk]
      rcases down hk with ⟨a, h, _⟩ | ⟨b', h, h2⟩
      · rw [ea] at h; cases h
      · rw [eb] at h
        cases h
        exact congrArg some (by omega)
  | some a =>
    obtain ⟨k, hk, hle⟩ := up ea
    rw [hk]
    cases eb : fw cs (n - c) with
    | none =>
      rcases down hk with ⟨a', h, h2⟩ | ⟨b', h, h2⟩
      · rw [ea] at h
        cases h
        exact congrArg some (by omega)
      · rw [eb] at h; cases h
    | some b =>
      obtain ⟨k', hk', hle'⟩ := fw_step hc eb
      rw [hk] at hk'
      cases hk'
      rcases down hk with ⟨a', h, h2⟩ | ⟨b', h, h2⟩
      · rw [ea] at h
        cases h
        exact congrArg some (by omega)
      · rw [eb] at h
        cases h
        exact congrArg some (by omega)
/-- B is BadSum -/
def sp_count (B : Addr) : Sp := fun vs H Q E => ∃ (t : Addr) (cs : List Int) (n : Int), vs = [.ref t, .int n] ∧ H t = some (.tup (ivs cs)) ∧ Purse 400 cs ∧ (0 ≤ n → n ≤ 400 → ∀ H', Same H H' → Q (.int ((cw cs n : Nat) : Int)) H') ∧ (¬ (0 ≤ n ∧ n ≤ 400) → ∀ H', Same H H' → E (.ref B) none H')
end CY

set_option Elab.async false
set_option linter.all false
set_option maxRecDepth 100000
namespace CY
open PySem PySem.Spec PyProof.Rows L2
/-! ### the fewest, coin by coin -/
noncomputable def fewT (cs : List Int) (N : Nat) : List V := (List.range (N + 1)).map fun (n : Nat) => ov (fw cs (n : Int))
/-- halfway: the coin c is in below k -/
noncomputable def fewM (ds : List Int) (c : Int) (N k : Nat) : List V := (List.range (N + 1)).map fun (n : Nat) => ov (if n < k then fw (ds ++ [c]) (n : Int) else fw ds (n : Int))
theorem fw_snoc {ds : List Int} {c : Int} {n : Int} (hp : Pos (ds ++ [c])) : fw (ds ++ [c]) n = match fw ds n, fw (ds ++ [c]) (n - c) with
      | none, none => none
      | some a, none => some a
      | none, some b => some (b + 1)
      | some a, some b => some (min a (b + 1)) :=
  fw_any hp (List.mem_append_right _ List.mem_cons_self) (fun x hx => by
    rcases List.mem_append.mp hx with z | z
    · exact .inr z
    · exact .inl (List.mem_singleton.mp z)) fun x hx => List.mem_append_left _ hx
theorem fw_neg {cs : List Int} (hp : Pos cs) {n : Int} (h : n < 0) : fw cs n = none := by
  cases e : fw cs n with
  | none => rfl
  | some k =>
    have := (fw_some.mp e).1.nonneg hp
    omega
theorem fw_nil {n : Int} (h : n ≠ 0) : fw [] n = none := by
  cases e : fw [] n with
  | none => rfl
  | some k =>
    have := (fw_some.mp e).1
    cases this with
    | zero => exact absurd rfl h
    | add _ hc => cases hc
theorem few_zero (N : Nat) : fewT [] N = V.int 0 :: List.replicate N .non := by
  unfold fewT
  rw [List.range_succ_eq_map, List.map_cons, List.map_map]
  have e0 : ov (fw [] ((0 : Nat) : Int)) = .int 0 := by
    rw [show ((0 : Nat) : Int) = 0 from rfl, fw_zero (cs := []) (fun c hc => by cases hc)]
    rfl
  rw [e0]
  congr 1
  rw [List.eq_replicate_iff]
  refine ⟨by simp, fun b hb => ?_⟩
  obtain ⟨i, _, rfl⟩ := List.mem_map.mp hb
  show ov (fw [] ((i + 1 : Nat) : Int)) = .non
  rw [fw_nil (by omega)]
  rfl
theorem fewM_at (ds : List Int) (c : Int) {N k i : Nat} (h : i ≤ N) : atI (fewM ds c N k) (i : Int) = some (ov (if i < k then fw (ds ++ [c]) (i : Int) else fw ds (i : Int))) := by
  refine atI_nat ?_
  unfold fewM
  rw [List.getElem?_map, List.getElem?_range (by omega)]
  rfl
theorem fewM_len (ds : List Int) (c : Int) (N k : Nat) : (fewM ds c N k).length = N + 1 := by unfold fewM; simp
/-- below the coin nothing changes -/
theorem few_start {ds : List Int} {c : Int} {N : Nat} (hp : Pos (ds ++ [c])) : fewM ds c N c.toNat = fewT ds N := by
  unfold fewM fewT
  refine List.map_congr_left fun n hn => ?_
  by_cases z : n < c.toNat
  · rw [if_pos z, fw_snoc hp, fw_neg hp (n := (n : Int) - c) (by omega)]
    cases fw ds (n : Int) <;> rfl
  · rw [if_neg z]
theorem few_end (ds : List Int) (c : Int) {N k : Nat} (h : N < k) : fewM ds c N k = fewT (ds ++ [c]) N := by
  unfold fewM fewT
  refine List.map_congr_left fun n hn => ?_
  have := List.mem_range.mp hn
  rw [if_pos (by omega)]
/-- one step: the new value put in place k -/
theorem few_step (ds : List Int) (c : Int) {N k : Nat} (h : k ≤ N) : (fewM ds c N k).set k (ov (fw (ds ++ [c]) (k : Int))) = fewM ds c N (k + 1) := by
  refine List.ext_getElem? fun i => ?_
  rw [List.getElem?_set, fewM_len]
  unfold fewM
  rw [List.getElem?_map, List.getElem?_map]
  by_cases z : k = i
  · subst z
    rw [if_pos rfl, if_pos (by omega), List.getElem?_range (by omega)]
    show _ = some (ov (if k < k + 1 then _ else _))
    rw [if_pos (by omega)]
  · rw [if_neg z]
    by_cases y : i < N + 1
    · rw [List.getElem?_range y]
      show some (ov (if i < k then _ else _)) = some (ov (if i < k + 1 then _ else _))
      by_cases x : i < k
      · rw [if_pos x, if_pos (by omega)]
      · rw [if_neg x, if_neg (by omega)]
    · rw [List.getElem?_eq_none (by simp; omega)]
      rfl
theorem few_stay (ds : List Int) (c : Int) {N k : Nat} (h : fw (ds ++ [c]) (k : Int) = fw ds (k : Int)) : fewM ds c N k = fewM ds c N (k + 1) := by
  unfold fewM
  refine List.map_congr_left fun n hn => ?_
  by_cases z : n = k
  · subst z
    rw [if_neg (by omega), if_pos (by omega), h]
  · by_cases y : n < k
    · rw [if_pos y, if_pos (by omega)]
    · rw [if_neg y, if_neg (by omega)]
def sp_fewup : Sp := fun vs H Q _ => ∃ (t : Addr) (cs : List Int) (N : Nat), vs = [.ref t, .int (N : Int)] ∧ H t = some (.tup (ivs cs)) ∧ Purse 400 cs ∧ N ≤ 1000 ∧ ∀ (l : Addr) (H' : Hp), Same H H' → H l = none → H' l = some (.lst (fewT cs N)) → Q (.ref l) H'
/-! ### the ways, coin by coin -/
def cwT (cs : List Int) (N : Nat) : List Int := (List.range (N + 1)).map fun (n : Nat) => ((cw cs (n : Int) : Nat) : Int)
def cwM (ds : List Int) (c : Int) (N k : Nat) : List Int := (List.range (N + 1)).map fun (n : Nat) => ((if n < k then cw (ds ++ [c]) (n : Int) else cw ds (n : Int) : Nat) : Int)
theorem cw_snoc {ds : List Int} {c : Int} (hp : Pos (ds ++ [c])) {n : Int} (h0 : 0 ≤ n) : cw (ds ++ [c]) n = cw ds n + cw (ds ++ [c]) (n - c) := by
  have := cw_any (ds ++ [c]) ds.length c hp (by simp) n h0
  rw [List.eraseIdx_append_of_length_le (Nat.le_refl _), Nat.sub_self] at this
  simpa using this
theorem cwM_at (ds : List Int) (c : Int) {N k i : Nat} (h : i ≤ N) : atI (ivs (cwM ds c N k)) (i : Int) = some (.int ((if i < k then cw (ds ++ [c]) (i : Int) else cw ds (i : Int) : Nat) : Int)) := by
  refine atI_nat ?_
  unfold ivs cwM
  rw [List.getElem?_map, List.getElem?_map, List.getElem?_range (by omega)]
  rfl
theorem cwT_at (cs : List Int) {N i : Nat} (h : i ≤ N) : atI (ivs (cwT cs N)) (i : Int) = some (.int ((cw cs (i : Int) : Nat) : Int)) := by
  refine atI_nat ?_
  unfold ivs cwT
  rw [List.getElem?_map, List.getElem?_map, List.getElem?_range (by omega)]
  rfl
theorem cwM_len (ds : List Int) (c : Int) (N k : Nat) : (cwM ds c N k).length = N + 1 := by unfold cwM; simp
theorem cw_zero (N : Nat) : cwT [] N = 1 :: List.replicate N 0 := by
  unfold cwT
  rw [List.range_succ_eq_map, List.map_cons, List.map_map]
  congr 1
  rw [List.eq_replicate_iff]
  refine ⟨by simp, fun b hb => ?_⟩
  obtain ⟨i, _, rfl⟩ := List.mem_map.mp hb
  show ((cw [] ((i + 1 : Nat) : Int) : Nat) : Int) = 0
  unfold cw
  rw [if_neg (by omega)]
  rfl
theorem cw_start {ds : List Int} {c : Int} {N : Nat} (hp : Pos (ds ++ [c])) : cwM ds c N c.toNat = cwT ds N := by
  unfold cwM cwT
  refine List.map_congr_left fun n hn => ?_
  by_cases z : n < c.toNat
  · rw [if_pos z, cw_snoc hp (by omega), cw_neg _ (n := (n : Int) - c) (by omega)]
    rfl
  · rw [if_neg z]
theorem cw_end (ds : List Int) (c : Int) {N k : Nat} (h : N < k) : cwM ds c N k = cwT (ds ++ [c]) N := by
  unfold cwM cwT
  refine List.map_congr_left fun n hn => ?_
  have := List.mem_range.mp hn
  rw [if_pos (by omega)]
theorem cw_put (ds : List Int) (c : Int) {N k : Nat} (h : k ≤ N) : (cwM ds c N k).set k ((cw (ds ++ [c]) (k : Int) : Nat) : Int) = cwM ds c N (k + 1) := by
  refine List.ext_getElem? fun i => ?_
  rw [List.getElem?_set, cwM_len]
  unfold cwM
  rw [List.getElem?_map, List.getElem?_map]
  by_cases z : k = i
  · subst z
    rw [if_pos rfl, if_pos (by omega), List.getElem?_range (by omega)]
    show _ = some (((if k < k + 1 then _ else _ : Nat)) : Int)
    rw [if_pos (by omega)]
  · rw [if_neg z]
    by_cases y : i < N + 1
    · rw [List.getElem?_range y]
      show some (((if i < k then _ else _ : Nat)) : Int) = some (((if i < k + 1 then _ else _ : Nat)) : Int)
      by_cases x : i < k
      · rw [if_pos x, if_pos (by omega)]
      · rw [if_neg x, if_neg (by omega)]
    · rw [List.getElem?_eq_none (by simp; omega)]
      rfl
/-! ### the greatest first, coin by coin -/
def sp_pay (B : Addr) : Sp := fun vs H Q E => ∃ (t : Addr) (cs : List Int) (n : Int), vs = [.ref t, .int n] ∧ H t = some (.tup (ivs cs)) ∧ Purse 400 cs ∧ (0 ≤ n → n ≤ 400 → Q .non H) ∧ (¬ (0 ≤ n ∧ n ≤ 400) → ∀ H', Same H H' → E (.ref B) none H')
/-! ### a way: what no best way of the rest has -/
/-! ### the two greatest coins -/
def two (cs : List Int) : List Int := cs.drop (cs.length - 2)
end CY

set_option Elab.async false
set_option linter.all false
set_option maxRecDepth 100000
namespace CY
open PySem PySem.Spec PyProof.Rows L2

/-! ### things that are no purse, no number -/
/-- a thing, and whether it is a whole number -/
inductive Kind (H : Hp) : V → Bool → Prop where
  | int (i : Int) : Kind H (.int i) true
  | bl (b : Bool) : Kind H (.bl b) false
  | str (s : Str) : Kind H (.str s) false
  | non : Kind H .non false
  | lst {a : Addr} {xs : List V} (e : H a = some (.lst xs)) : Kind H (.ref a) false
  | tup {a : Addr} {xs : List V} (e : H a = some (.tup xs)) : Kind H (.ref a) false
theorem Kind.keep {H H' : Hp} {v : V} {b : Bool} (s : Same H H') (k : Kind H v b) : Kind H' v b := by
  cases k with
  | int i => exact .int i
  | bl b => exact .bl b
  | str s => exact .str s
  | non => exact .non
  | lst e => exact .lst (s _ _ e)
  | tup e => exact .tup (s _ _ e)
/-- coins from b on -/
def risF : Int → List V → Bool
  | _, [] => true
  | b, .int c :: r => decide (b < c) && decide (c ≤ 400) && risF c r
  | _, _ :: _ => false
/-- no purse -/
inductive NoPurse (H : Hp) : V → Prop where
  | kind {v : V} {b : Bool} (k : Kind H v b) (h : ∀ a xs, v = .ref a → H a ≠ some (.tup xs)) : NoPurse H v
  | tup {a : Addr} {xs : List V} (e : H a = some (.tup xs)) (k : ∀ x ∈ xs, ∃ b, Kind H x b) (h : xs.length = 0 ∨ 40 < xs.length ∨ risF 0 xs = false) (hz : xs.length ≤ 1000) : NoPurse H (.ref a)
/-- one promise or another -/
def orSp (a b : Sp) : Sp := fun vs H Q E => a vs H Q E ∨ b vs H Q E
theorem FnOk.or {P : Program} {w : World} {K : PySem.W.Frag} {mg : Str → Option Value} {base : Heap} {k : Nat} {f : Addr} {fd : FuncData} {ps : List Str} {a b : Sp} (h1 : FnOk P w K mg base CX0 k f fd ps a) (h2 : FnOk P w K mg base (CX1 P w) k f fd ps b) :
    FnOk P w K mg base (CX1 P w) k f fd ps (orSp a b) := by
  refine ⟨fun vs H Q E h => h.elim (h1.len vs H Q E) (h2.len vs H Q E), fun A outer s H args us vs Q E hr he hb hv hs => ?_⟩
  rcases hs with hs | hs
  · refine codeAny_mono (h1.run A outer s H args us vs Q E hr he hb hv hs) fun r s' q => ?_
    cases r with
    | error e => exact q.elim
    | ok fl => cases fl <;> exact q
  · exact h2.run A outer s H args us vs Q E hr he hb hv hs
def sp_wholeG : Sp := fun vs H Q _ => ∃ v b, vs = [v] ∧ Kind H v b ∧ Q (.bl b) H
/-- B is BadPurse -/
def sp_no1 (B : Addr) : Sp := fun vs H Q E => ∃ v, vs = [v] ∧ NoPurse H v ∧ ∀ H', Same H H' → E (.ref B) none H'
def sp_no2 (B : Addr) : Sp := fun vs H Q E => ∃ v n, vs = [v, n] ∧ NoPurse H v ∧ ∀ H', Same H H' → E (.ref B) none H'
/-- whether a thing is a sum -/
def sumV : V → Bool
  | .int i => decide (i ≥ 0)
  | _ => false
def sp_sumG : Sp := fun vs H Q _ => ∃ v b, vs = [v] ∧ Kind H v b ∧ Q (.bl (sumV v)) H
/-- BS is BadSum -/
def sp_nosum (BS : Addr) : Sp := fun vs H Q E => ∃ (t : Addr) (cs : List Int) (v : V) (b : Bool), vs = [.ref t, v] ∧ H t = some (.tup (ivs cs)) ∧ Purse 400 cs ∧ Kind H v b ∧ sumV v = false ∧ ∀ H', Same H H' → E (.ref BS) none H'
def sp_noM (B BS : Addr) : Sp := orSp (sp_no2 B) (sp_nosum BS)
end CY

set_option Elab.async false
set_option linter.all false
set_option maxRecDepth 100000
namespace CY
open PySem PySem.Spec PyProof.Rows L2

/-! ### sets of sums -/
structure Sg (S : Int → Bool) : Prop where
  zero : S 0 = true
  add : ∀ {a b : Int}, S a = true → S b = true → S (a + b) = true
  neg : ∀ {a : Int}, a < 0 → S a = false
/-- not put together of two others -/
def Gn (S : Int → Bool) (n : Int) : Prop := S n = true ∧ 0 < n ∧ ∀ a, 0 < a → a < n → S a = true → S (n - a) = false
/-- the least purse -/
structure Lst (S : Int → Bool) (ds : List Int) : Prop where
  rise : ds.Pairwise (· < ·)
  mem : ∀ n, n ∈ ds ↔ Gn S n
section
variable {S : Int → Bool} {ds es : List Int}
theorem Lst.pos (a : Lst S ds) : Pos ds := fun c hc => ((a.mem c).mp hc).2.1
theorem sg_mk {cs : List Int} (h : Pos cs) : Sg (mk cs) where
  zero := mk_zero cs
  add := fun a b => mk_add a b
  neg := fun {a} h0 => by
    cases e : mk cs a with
    | false => rfl
    | true => have := (mk_iff.mp e).nonneg h; omega
theorem Sg.made (g : Sg S) (h : ∀ c ∈ ds, S c = true) {n : Int} (m : Made ds n) : S n = true := by
  induction m with
  | zero => exact g.zero
  | add _ hc ih => exact g.add ih (h _ hc)
/-- they make all -/
theorem lst_made (g : Sg S) (l : Lst S ds) (n : Int) : mk ds n = S n := by
  have up : ∀ m : Nat, ∀ n : Int, n.toNat = m → S n = true → Made ds n := by
    intro m
    induction m using Nat.strongRecOn with
    | ind m ih =>
      intro n hn hs
      by_cases z : n < 0
      · rw [g.neg z] at hs; cases hs
      by_cases z0 : n = 0
      · rw [z0]; exact .zero
      by_cases p : ∃ a, 0 < a ∧ a < n ∧ S a = true ∧ S (n - a) = true
      · obtain ⟨a, a0, a1, a2, a3⟩ := p
        have h1 := ih a.toNat (by omega) a rfl a2
        have h2 := ih (n - a).toNat (by omega) (n - a) rfl a3
        have := h1.plus h2
        rwa [show a + (n - a) = n by omega] at this
      · refine Made.one ((l.mem n).mpr ⟨hs, by omega, fun a a0 a1 a2 => ?_⟩)
        cases e : S (n - a) with
        | false => rfl
        | true => exact absurd ⟨a, a0, a1, a2, e⟩ p
  cases e : S n with
  | true => exact mk_iff.mpr (up _ n rfl e)
  | false =>
    cases e' : mk ds n with
    | false => rfl
    | true =>
      have := g.made (fun c hc => ((l.mem c).mp hc).1) (mk_iff.mp e')
      rw [e] at this
      cases this
theorem gn_prime {cs : List Int} (h : Pos cs) (n : Int) : Prime cs n ↔ Gn (mk cs) n := by
  constructor
  · rintro ⟨h0, h1, h2⟩
    refine ⟨mk_iff.mpr h1, h0, fun a a0 a1 a2 => ?_⟩
    cases e : mk cs (n - a) with
    | false => rfl
    | true => exact absurd (by omega) (h2 a (n - a) a0 (by omega) (mk_iff.mp a2) (mk_iff.mp e))
  · rintro ⟨h1, h0, h2⟩
    refine ⟨h0, mk_iff.mp h1, fun a b a0 b0 ma mb e => ?_⟩
    have := h2 a a0 (by omega) (mk_iff.mpr ma)
    rw [show n - a = b by omega, mk_iff.mpr mb] at this
    cases this
theorem lst_lp {cs : List Int} (h : Pos cs) (r : cs.Pairwise (· < ·)) : Lst (mk cs) (lp cs) := ⟨r.filter _, fun n => (lp_prime h n).trans (gn_prime h n)⟩
noncomputable def gnB (S : Int → Bool) (n : Int) : Bool := open Classical in decide (Gn S n)
theorem gnB_iff {n : Int} : gnB S n = true ↔ Gn S n := by unfold gnB; simp
noncomputable def gensUp (S : Int → Bool) (N : Nat) : List Int := (ints0 (N + 1)).filter (gnB S)
theorem gens_mem {N : Nat} {n : Int} : n ∈ gensUp S N ↔ n ≤ N ∧ Gn S n := by
  unfold gensUp
  rw [List.mem_filter, mem_ints0, gnB_iff]
  constructor
  · rintro ⟨⟨_, h⟩, g⟩
    exact ⟨by omega, g⟩
  · rintro ⟨h, g⟩
    have := g.2.1
    exact ⟨⟨by omega, by omega⟩, g⟩
theorem gens_lst {N : Nat} (h : ∀ n : Int, (N : Int) < n → ¬ Gn S n) : Lst S (gensUp S N) := by
  refine ⟨(ints0_rise _).filter _, fun n => gens_mem.trans ⟨fun z => z.2, fun z => ⟨?_, z⟩⟩⟩
  by_cases y : (N : Int) < n
  · exact absurd z (h n y)
  · omega
theorem gn_far {B m : Int} (hB : ∀ n, B ≤ n → S n = true) (m0 : 0 < m) (hm : S m = true) {n : Int} (h : Gn S n) : n ≤ m ∨ n < B + m := by
  by_cases z : n ≤ m
  · exact .inl z
  · right
    by_cases y : n < B + m
    · exact y
    · have := h.2.2 m m0 (by omega) hm
      rw [hB (n - m) (by omega)] at this
      cases this
end
/-! ### what coinyard.joins and coinyard.tree promise -/
def fits (ws : List Int) : Prop := ws.length ≤ 40 ∧ ∀ w ∈ ws, w ≤ 400
instance (ws : List Int) : Decidable (fits ws) := inferInstanceAs (Decidable (_ ∧ _))
/-- TB is TooBig -/
def outc (TB : Addr) (ws : List Int) (H : Hp) (Q : VK) (E : XK) : Prop := (fits ws → ∀ (p : Addr) (H' : Hp), Same H H' → H' p = some (.tup (ivs ws)) → Q (.ref p) H') ∧ (¬ fits ws → ∀ H', Same H H' → E (.ref TB) none H')
end CY

set_option Elab.async false
set_option linter.all false
set_option maxRecDepth 100000
namespace CY
open PySem PySem.Spec PyProof.Rows L2

/-! ### all ways -/
/-! ### texts -/
/-! ### figures -/
def wordN (n : Nat) : List Nat := (Nat.toDigits 10 n).map Char.toNat
/-- the figures ahead of a number's last one -/
def ahead (n : Nat) : List Nat := if n = 0 then [] else wordN n
def figs : Str := Str.ofString "0123456789"
end CY

set_option Elab.async false
set_option linter.all false
set_option maxRecDepth 100000
namespace CY
open PySem PySem.Spec PyProof.Rows L2
/-! ### ways begun, coin by coin -/
abbrev Bg := List (List Int × Int)
/-- one coin more, of which only so many as the later ones can end -/
def one (ds : List Int) (c : Int) (b : List Int × Int) : Bg := ((List.range ((b.2 / c).toNat + 1)).filter fun (i : Nat) => decide (0 < cw ds (b.2 - (i : Int) * c))).map fun (i : Nat) => (b.1 ++ [(i : Int)], b.2 - (i : Int) * c)
end CY

set_option Elab.async false
set_option linter.all false
set_option maxRecDepth 100000
namespace CY
open PySem PySem.Spec PyProof.Rows L2

/-! ### the least purse of coins in any order -/
structure Kp (ks : List Int) : Prop where
  rise : ks.Pairwise (· < ·)
  need : ∀ c ∈ ks, mk (ks.filter fun d => decide (d < c)) c = false
theorem kp_snoc {ks : List Int} {c : Int} (h : Kp ks) (hle : ∀ d ∈ ks, d ≤ c) (hm : mk ks c = false) : Kp (ks ++ [c]) := by
  have hlt : ∀ d ∈ ks, d < c := fun d hd => by
    have h1 := hle d hd
    by_cases z : d = c
    · rw [z] at hd
      rw [mk_coin hd] at hm
      cases hm
    · omega
  refine ⟨List.pairwise_append.mpr ⟨h.rise, List.pairwise_singleton _ _, fun a ha b hb => by rw [List.mem_singleton.mp hb]; exact hlt a ha⟩, fun d hd => ?_⟩
  have key : ∀ e, e ≤ c → (ks ++ [c]).filter (fun d => decide (d < e)) = ks.filter fun d => decide (d < e) := fun e he => by
    rw [List.filter_append]
    have : [c].filter (fun d => decide (d < e)) = [] := by
      rw [List.filter_cons, if_neg (by simp; omega)]
      rfl
    rw [this, List.append_nil]
  rcases List.mem_append.mp hd with z | z
  · rw [key d (hle d z)]
    exact h.need d z
  · rw [List.mem_singleton.mp z, key c (Int.le_refl _), List.filter_eq_self.mpr (fun d hd => decide_eq_true (hlt d hd))]
    exact hm
theorem kept_kp : ∀ (r ks : List Int), Kp ks → (∀ d ∈ ks, ∀ c ∈ r, d ≤ c) → r.Pairwise (· ≤ ·) → Kp (kept ks r)
  | [], ks, h, _, _ => h
  | c :: r, ks, h, hl, hr => by
    obtain ⟨r1, r2⟩ := List.pairwise_cons.mp hr
    unfold kept
    by_cases z : mk ks c = true
    · rw [if_pos z]
      exact kept_kp r ks h (fun d hd e he => hl d hd e (List.mem_cons_of_mem _ he)) r2
    · rw [if_neg z]
      refine kept_kp r _ (kp_snoc h (fun d hd => hl d hd c List.mem_cons_self) (Bool.eq_false_iff.mpr z)) (fun d hd e he => ?_) r2
      rcases List.mem_append.mp hd with y | y
      · exact hl d y e (List.mem_cons_of_mem _ he)
      · rw [List.mem_singleton.mp y]
        exact r1 e he
theorem kept_sub : ∀ (r ks : List Int), ∀ c ∈ kept ks r, c ∈ ks ∨ c ∈ r
  | [], ks, c, h => .inl h
  | d :: r, ks, c, h => by
    unfold kept at h
    by_cases z : mk ks d = true
    · rw [if_pos z] at h
      exact (kept_sub r ks c h).imp id (List.mem_cons_of_mem _)
    · rw [if_neg z] at h
      rcases kept_sub r _ c h with y | y
      · rcases List.mem_append.mp y with y | y
        · exact .inl y
        · rw [List.mem_singleton.mp y]
          exact .inr List.mem_cons_self
      · exact .inr (List.mem_cons_of_mem _ y)
theorem kp_lp {ks : List Int} (h : Kp ks) : lp ks = ks := by
  unfold lp
  exact List.filter_eq_self.mpr fun c hc => by rw [h.need c hc]; rfl
theorem kept_mk (cs : List Int) (n : Int) : mk (kept [] cs) n = mk cs n := mk_congr (fun n => by
  have := kept_same cs [] [] (fun _ => Iff.rfl) n
  rwa [List.nil_append] at this) n
theorem kept_lst {cs : List Int} (hp : Pos cs) (hr : cs.Pairwise (· ≤ ·)) : Lst (mk cs) (kept [] cs) := by
  have hk : Kp (kept [] cs) := kept_kp cs [] ⟨List.Pairwise.nil, fun c hc => by cases hc⟩ (fun d hd => by cases hd) hr
  have hs : Pos (kept [] cs) := fun c hc => hp c ((kept_sub cs [] c hc).elim (fun z => by cases z) id)
  have h := lst_lp hs hk.rise
  rw [kp_lp hk] at h
  have e : mk (kept [] cs) = mk cs := funext (kept_mk cs)
  rw [e] at h
  exact h
theorem lst_ne {S : Int → Bool} {ws : List Int} (g : Sg S) (h : Lst S ws) {n : Int} (hn : 0 < n) (hs : S n = true) : ws ≠ [] := by
  intro z
  have := lst_made g h n
  rw [z, hs] at this
  have := made_nil (mk_iff.mp this)
  omega
theorem kept_ne {cs : List Int} (hp : Pos cs) (hr : cs.Pairwise (· ≤ ·)) (hn : cs ≠ []) : kept [] cs ≠ [] := by
  cases cs with
  | nil => exact absurd rfl hn
  | cons c r => exact lst_ne (sg_mk hp) (kept_lst hp hr) (hp c List.mem_cons_self) (mk_coin List.mem_cons_self)
/-- coins in another order, or some twice -/
theorem mk_mem {cs ds : List Int} (h : ∀ c, c ∈ cs ↔ c ∈ ds) (n : Int) : mk cs n = mk ds n := mk_congr (fun n => ⟨fun m => m.mono fun c hc => (h c).mp hc, fun m => m.mono fun c hc => (h c).mpr hc⟩) n
theorem fits_last {ws : List Int} (h : ws.Pairwise (· < ·)) (hn : ws ≠ []) : fits ws ↔ ws.length ≤ 40 ∧ ws.getLast hn ≤ 400 := by
  unfold fits
  constructor
  · rintro ⟨h1, h2⟩
    exact ⟨h1, h2 _ (List.getLast_mem hn)⟩
  · rintro ⟨h1, h2⟩
    exact ⟨h1, fun w hw => by have := le_last h hn w hw; omega⟩

/-! ### a set of sums by its least ones -/
structure Tss (S : Int → Bool) (m : Nat) (M : List Nat) : Prop where
  len : M.length = m
  at_ : ∀ r x : Nat, M[r]? = some x → S (x : Int) = true ∧ x % m = r
  best : ∀ n : Nat, S (n : Int) = true → ∃ x, M[n % m]? = some x ∧ x ≤ n
theorem sg_times {S : Int → Bool} (g : Sg S) {m : Int} (hm : S m = true) : ∀ k : Nat, S ((k : Int) * m) = true
  | 0 => by
    rw [show ((0 : Nat) : Int) * m = 0 by simp]
    exact g.zero
  | k + 1 => by
    have := g.add (sg_times g hm k) hm
    have e : (k : Int) * m + m = ((k + 1 : Nat) : Int) * m := by
      push_cast
      rw [Int.add_mul]
      omega
    rwa [e] at this
theorem sg_mod {S : Int → Bool} (g : Sg S) {m x n : Nat} (hm : S (m : Int) = true) (hx : S (x : Int) = true) (e : x % m = n % m) (h : x ≤ n) : S (n : Int) = true := by
  have h1 : n = x + (n / m - x / m) * m := by
    have a := Nat.mod_add_div n m
    have b := Nat.mod_add_div x m
    have c : x / m ≤ n / m := Nat.div_le_div_right h
    rw [Nat.sub_mul, Nat.mul_comm (n / m), Nat.mul_comm (x / m)]
    have d : m * (x / m) ≤ m * (n / m) := Nat.mul_le_mul_left _ c
    omega
  have h2 := g.add hx (sg_times g hm (n / m - x / m))
  have e2 : (x : Int) + ((n / m - x / m : Nat) : Int) * (m : Int) = (n : Int) := by
    have : ((x + (n / m - x / m) * m : Nat) : Int) = (n : Int) := by rw [← h1]
    push_cast at this
    exact this
  rwa [e2] at h2
theorem Tss.iff {S : Int → Bool} {m : Nat} {M : List Nat} (g : Sg S) (hm : S (m : Int) = true) (h : Tss S m M) (n : Nat) : S (n : Int) = true ↔ ∃ x, M[n % m]? = some x ∧ x ≤ n := by
  refine ⟨h.best n, fun ⟨x, h1, h2⟩ => ?_⟩
  obtain ⟨a, b⟩ := h.at_ _ _ h1
  exact sg_mod g hm a (by rw [b]) h2
/-- what is not put together of others is the number itself or one of the least -/
theorem Tss.gen {S : Int → Bool} {m : Nat} {M : List Nat} (g : Sg S) (h0 : 0 < m) (hm : S (m : Int) = true) (h : Tss S m M) {n : Int} (hn : Gn S n) : n = m ∨ ∃ x ∈ M, n = (x : Int) := by
  obtain ⟨k, rfl⟩ : ∃ k : Nat, n = (k : Int) := ⟨n.toNat, by have := hn.2.1; omega⟩
  have k0 := hn.2.1
  obtain ⟨x, h1, h2⟩ := h.best k hn.1
  obtain ⟨a, b⟩ := h.at_ _ _ h1
  by_cases z : x = k
  · exact .inr ⟨x, List.mem_of_getElem? h1, by rw [z]⟩
  · left
    -- the number may be taken off
    have hxm : x + m ≤ k := by
      have e := Nat.sub_mod_eq_zero_of_mod_eq b.symm
      have := Nat.le_of_dvd (by omega) (Nat.dvd_of_mod_eq_zero e)
      omega
    have hkm : S ((k - m : Nat) : Int) = true := by
      refine sg_mod g hm a ?_ (by omega)
      rw [b, Nat.mod_eq_sub_mod (by omega : m ≤ k)]
    by_cases y : k = m
    · rw [y]
    · exfalso
      have := hn.2.2 (m : Int) (by omega) (by omega) hm
      rw [show (k : Int) - (m : Int) = ((k - m : Nat) : Int) by omega, hkm] at this
      cases this
/-- the coins that may be needed -/
def cand (m : Nat) (M : List Nat) : List Int := (m : Int) :: ((M.map fun (x : Nat) => (x : Int)).filter fun x => decide (0 < x) && decide (x ≤ 400))
theorem cand_pos {m : Nat} {M : List Nat} (h0 : 0 < m) : Pos (cand m M) := fun c hc => by
  rcases List.mem_cons.mp hc with z | z
  · omega
  · have := (List.mem_filter.mp z).2
    rw [Bool.and_eq_true, decide_eq_true_iff] at this
    exact this.1
section
variable {S : Int → Bool} {m : Nat} {M : List Nat} {ps ws : List Int}
theorem cand_in (hm : S (m : Int) = true) (h : Tss S m M) : ∀ c ∈ cand m M, S c = true := fun c hc => by
  rcases List.mem_cons.mp hc with z | z
  · rw [z]; exact hm
  · obtain ⟨x, hx, rfl⟩ := List.mem_map.mp (List.mem_filter.mp z).1
    obtain ⟨r, hr⟩ := List.getElem?_of_mem hx
    exact (h.at_ r x hr).1
theorem gen_cand (g : Sg S) (h0 : 0 < m) (hm : S (m : Int) = true) (h : Tss S m M) {n : Int} (hn : Gn S n) (h4 : n ≤ 400) : n ∈ cand m M := by
  rcases h.gen g h0 hm hn with z | ⟨x, hx, z⟩
  · rw [z]; exact List.mem_cons_self
  · refine List.mem_cons_of_mem _ (List.mem_filter.mpr ⟨List.mem_map.mpr ⟨x, hx, z.symm⟩, ?_⟩)
    have := hn.2.1
    rw [Bool.and_eq_true, decide_eq_true_iff, decide_eq_true_iff]
    exact ⟨this, h4⟩
/-- up to 400 the candidates make what is in the set -/
theorem cand_made (g : Sg S) (h0 : 0 < m) (hm : S (m : Int) = true) (h : Tss S m M) {n : Int} (hs : S n = true) (h4 : n ≤ 400) : mk (cand m M) n = true := by
  have up : ∀ k : Nat, ∀ n : Int, n.toNat = k → S n = true → n ≤ 400 → Made (cand m M) n := by
    intro k
    induction k using Nat.strongRecOn with
    | ind k ih =>
      intro n hn hs h4
      by_cases z : n < 0
      · rw [g.neg z] at hs; cases hs
      by_cases z0 : n = 0
      · rw [z0]; exact .zero
      by_cases p : ∃ a, 0 < a ∧ a < n ∧ S a = true ∧ S (n - a) = true
      · obtain ⟨a, a0, a1, a2, a3⟩ := p
        have h1 := ih a.toNat (by omega) a rfl a2 (by omega)
        have h2 := ih (n - a).toNat (by omega) (n - a) rfl a3 (by omega)
        have := h1.plus h2
        rwa [show a + (n - a) = n by omega] at this
      · refine Made.one (gen_cand g h0 hm h ⟨hs, by omega, fun a a0 a1 a2 => ?_⟩ h4)
        cases e : S (n - a) with
        | false => rfl
        | true => exact absurd ⟨a, a0, a1, a2, e⟩ p
  exact mk_iff.mpr (up _ n rfl hs h4)
theorem cand_sub (g : Sg S) (hm : S (m : Int) = true) (h : Tss S m M) {n : Int} (hn : mk (cand m M) n = true) : S n = true := g.made (cand_in hm h) (mk_iff.mp hn)
theorem cand_gen (g : Sg S) (h0 : 0 < m) (hm4 : m ≤ 400) (hm : S (m : Int) = true) (h : Tss S m M) (l : Lst (mk (cand m M)) ps) (n : Int) : n ∈ ps ↔ Gn S n ∧ n ≤ 400 := by
  have c4 : ∀ c ∈ cand m M, c ≤ 400 := fun c hc => by
    rcases List.mem_cons.mp hc with z | z
    · omega
    · have := (List.mem_filter.mp z).2
      rw [Bool.and_eq_true, decide_eq_true_iff, decide_eq_true_iff] at this
      exact this.2
  rw [l.mem]
  constructor
  · intro hn
    have hc : n ≤ 400 := by
      -- a coin that is needed is one of the candidates
      have hmade := mk_iff.mp hn.1
      have n0 := hn.2.1
      cases hmade with
      | zero => omega
      | @add k c m' hc =>
        have k0 := m'.nonneg (cand_pos h0)
        by_cases z : k = 0
        · rw [z, Int.zero_add]; exact c4 c hc
        · have := hn.2.2 k (by omega) (by have := cand_pos h0 c hc; omega) (mk_iff.mpr m')
          rw [show k + c - k = c by omega, mk_coin hc] at this
          cases this
    refine ⟨⟨cand_sub g hm h hn.1, hn.2.1, fun a a0 a1 a2 => ?_⟩, hc⟩
    cases e : S (n - a) with
    | false => rfl
    | true =>
      have h1 := cand_made g h0 hm h a2 (by omega)
      have h2 := cand_made g h0 hm h e (by omega)
      rw [hn.2.2 a a0 a1 h1] at h2
      cases h2
  · rintro ⟨hn, h4⟩
    refine ⟨cand_made g h0 hm h hn.1 h4, hn.2.1, fun a a0 a1 a2 => ?_⟩
    cases e : mk (cand m M) (n - a) with
    | false => rfl
    | true =>
      have := hn.2.2 a a0 a1 (cand_sub g hm h a2)
      rw [cand_sub g hm h e] at this
      cases this
theorem cand_all (g : Sg S) (h0 : 0 < m) (hm4 : m ≤ 400) (hm : S (m : Int) = true) (h : Tss S m M) (l : Lst (mk (cand m M)) ps) (lw : Lst S ws) (hw : ∀ x ∈ ws, x ≤ 400) : ps = ws := by
  refine rise_ext l.rise lw.rise fun x => ?_
  rw [cand_gen g h0 hm4 hm h l, lw.mem]
  exact ⟨fun z => z.1, fun z => ⟨z, hw x ((lw.mem x).mpr z)⟩⟩
/-- the least sums are the same just if the set is -/
theorem ts_eq {L : Tb} {qs : List Int} (g : Sg S) (h0 : 0 < m) (hm : S (m : Int) = true) (h : Tss S m M) (hq : Pos qs) (ht : LT qs m L) (hmq : mk qs (m : Int) = true) : L = M.map some ↔ ∀ n : Int, mk qs n = S n := by
  have gq : ∀ r, L[r]? = (M.map some)[r]? ↔ (∀ x, gv L r = some x ↔ M[r]? = some x) := fun r => by
    have e1 : gv L r = (L[r]?).getD none := by unfold gv; rw [List.getD_eq_getElem?_getD]
    rw [e1, List.getElem?_map]
    by_cases hr : r < m
    · have a1 : r < L.length := by rw [ht.len]; exact hr
      have a2 : r < M.length := by rw [h.len]; exact hr
      rw [List.getElem?_eq_getElem a1, List.getElem?_eq_getElem a2]
      simp only [Option.getD_some, Option.map_some, Option.some.injEq]
      constructor
      · intro e x; rw [e]; simp
      · intro e; exact (e M[r]).mpr rfl
    · have a1 : L.length ≤ r := by rw [ht.len]; omega
      have a2 : M.length ≤ r := by rw [h.len]; omega
      rw [List.getElem?_eq_none a1, List.getElem?_eq_none a2]
      simp
  constructor
  · intro e n
    by_cases z : n < 0
    · rw [g.neg z, (sg_mk hq).neg z]
    obtain ⟨k, rfl⟩ : ∃ k : Nat, n = (k : Int) := ⟨n.toNat, by omega⟩
    have ge := (gq (k % m)).mp (by rw [e])
    rw [Bool.eq_iff_iff, h.iff g hm]
    constructor
    · intro hk
      obtain ⟨y, y1, y2⟩ := ht.best k (mk_iff.mp hk)
      exact ⟨y, (ge y).mp y1, y2⟩
    · rintro ⟨x, x1, x2⟩
      obtain ⟨y1, y2⟩ := ht.sound _ _ ((ge x).mpr x1)
      exact sg_mod (sg_mk hq) hmq (mk_iff.mpr y1) (by rw [y2]) x2
  · intro e
    refine List.ext_getElem? fun r => (gq r).mpr fun x => ?_
    constructor
    · intro hx
      obtain ⟨y1, y2⟩ := ht.sound _ _ hx
      have hs : S (x : Int) = true := by rw [← e]; exact mk_iff.mpr y1
      obtain ⟨z, z1, z2⟩ := h.best x hs
      rw [y2] at z1
      obtain ⟨w1, w2⟩ := h.at_ _ _ z1
      obtain ⟨v, v1, v2⟩ := ht.best z (mk_iff.mp (by rw [e]; exact w1))
      rw [w2, hx] at v1
      cases v1
      rw [z1, show z = x by omega]
    · intro hx
      obtain ⟨y1, y2⟩ := h.at_ _ _ hx
      obtain ⟨z, z1, z2⟩ := ht.best x (mk_iff.mp (by rw [e]; exact y1))
      rw [y2] at z1
      obtain ⟨w1, w2⟩ := ht.sound _ _ z1
      obtain ⟨v, v1, v2⟩ := h.best z (by rw [← e]; exact mk_iff.mpr w1)
      rw [w2, hx] at v1
      cases v1
      rw [z1, show z = x by omega]
/-- the number itself changes nothing -/
theorem cand_num (g : Sg S) (h0 : 0 < m) (hm4 : m ≤ 400) (hm : S (m : Int) = true) (h : Tss S m M) (l : Lst (mk (cand m M)) ps) (n : Int) : mk ((m : Int) :: ps) n = mk (cand m M) n := by
  have e := lst_made (sg_mk (cand_pos h0)) l
  rw [← e]
  have hmm : mk ps (m : Int) = true := by rw [e]; exact mk_coin List.mem_cons_self
  refine mk_congr (fun n => ⟨fun z => z.trans fun c hc => ?_, fun z => z.mono fun c hc => List.mem_cons_of_mem _ hc⟩) n
  rcases List.mem_cons.mp hc with y | y
  · rw [y]; exact mk_iff.mp hmm
  · exact .one y
/-- whether they make all -/
theorem cand_fit {L : Tb} (g : Sg S) (h0 : 0 < m) (hm4 : m ≤ 400) (hm : S (m : Int) = true) (h : Tss S m M) (l : Lst (mk (cand m M)) ps) (lw : Lst S ws) (ht : LT ((m : Int) :: ps) m L) : (L = M.map some ↔ ∀ x ∈ ws, x ≤ 400) ∧ ((∀ x ∈ ws, x ≤ 400) → ps = ws) := by
  have hq : Pos ((m : Int) :: ps) := fun c hc => by
    rcases List.mem_cons.mp hc with z | z
    · omega
    · exact l.pos c z
  refine ⟨?_, cand_all g h0 hm4 hm h l lw⟩
  rw [ts_eq g h0 hm h hq ht (mk_coin List.mem_cons_self)]
  constructor
  · intro e x hx
    have hg := (lw.mem x).mp hx
    by_cases z : x ≤ 400
    · exact z
    · exfalso
      have hmade : mk ps x = true := by
        have := lst_made (sg_mk (cand_pos (M := M) h0)) l x
        rw [this, ← cand_num g h0 hm4 hm h l, e]
        exact hg.1
      have hmade := mk_iff.mp hmade
      have n0 := hg.2.1
      cases hmade with
      | zero => omega
      | @add k c m' hc =>
        have k0 := m'.nonneg l.pos
        obtain ⟨c1, c2⟩ := (cand_gen g h0 hm4 hm h l c).mp hc
        have hk : S k = true := g.made (fun c hc => ((cand_gen g h0 hm4 hm h l c).mp hc).1.1) m'
        have := hg.2.2 k (by omega) (by have := c1.2.1; omega) hk
        rw [show k + c - k = c by omega, c1.1] at this
        cases this
  · intro hw n
    rw [cand_num g h0 hm4 hm h l, ← lst_made (sg_mk (cand_pos h0)) l, cand_all g h0 hm4 hm h l lw hw]
    exact lst_made g lw n
end
end CY

set_option Elab.async false
set_option linter.all false
set_option maxRecDepth 100000
namespace CY
open PySem PySem.Spec PyProof.Rows L2

/-! ### tables of both, and of a divided purse -/
theorem lt_congr {ks ls : List Int} {m : Nat} {L : Tb} (h : LT ks m L) (e : ∀ n, Made ks n ↔ Made ls n) : LT ls m L :=
  ⟨h.len, fun r x z => ⟨(e _).mp (h.sound r x z).1, (h.sound r x z).2⟩, fun n z => h.best n ((e _).mpr z)⟩
theorem made_num {cs : List Int} {m : Int} (hm : Made cs m) (n : Int) : Made (m :: cs) n ↔ Made cs n := by
  refine ⟨fun z => z.trans fun c hc => ?_, fun z => z.mono fun c hc => List.mem_cons_of_mem _ hc⟩
  rcases List.mem_cons.mp hc with y | y
  · rw [y]; exact hm
  · exact .one y
theorem lt_all {cs : List Int} {m : Nat} {L : Tb} (hp : Pos cs) (hg : gcdL cs = 1) (h0 : 0 < m) (h : LT cs m L) {r : Nat} (hr : r < m) : ∃ x, gv L r = some x := by
  obtain ⟨s, h1, h2⟩ := made_rest h0 hp (r : Int) (by rw [hg]; exact ⟨(r : Int), by simp⟩)
  have s0 := h1.nonneg hp
  obtain ⟨k, rfl⟩ : ∃ k : Nat, s = (k : Int) := ⟨s.toNat, by omega⟩
  obtain ⟨y, y1, _⟩ := h.best k h1
  have e : k % m = r := by
    have : ((k % m : Nat) : Int) = ((r % m : Nat) : Int) := by push_cast; exact h2
    rw [Nat.mod_eq_of_lt hr] at this
    omega
  rw [e] at y1
  exact ⟨y, y1⟩
theorem nums_get {L : Tb} {r : Nat} : (nums L)[r]? = (L[r]?).map fun o => o.getD 0 := by
  unfold nums
  rw [List.getElem?_map]
theorem lt_ts {cs : List Int} {m : Nat} {L : Tb} (hp : Pos cs) (hg : gcdL cs = 1) (h0 : 0 < m) (h : LT cs m L) : Tss (mk cs) m (nums L) ∧ L = (nums L).map some := by
  have g : ∀ r x, (nums L)[r]? = some x ↔ gv L r = some x := fun r x => by
    rw [nums_get]
    have e1 : gv L r = (L[r]?).getD none := by unfold gv; rw [List.getD_eq_getElem?_getD]
    by_cases hr : r < m
    · obtain ⟨y, hy⟩ := lt_all hp hg h0 h hr
      have hl : r < L.length := by rw [h.len]; exact hr
      rw [hy]
      rw [hy, List.getElem?_eq_getElem hl] at e1
      rw [List.getElem?_eq_getElem hl]
      simp only [Option.getD_some] at e1
      rw [← e1]
      simp
    · have hl : L.length ≤ r := by rw [h.len]; omega
      rw [e1, List.getElem?_eq_none hl]
      simp
  refine ⟨⟨by unfold nums; rw [List.length_map, h.len], fun r x z => ?_, fun n z => ?_⟩, ?_⟩
  · obtain ⟨a, b⟩ := h.sound r x ((g r x).mp z)
    exact ⟨mk_iff.mpr a, b⟩
  · obtain ⟨y, y1, y2⟩ := h.best n (mk_iff.mp z)
    exact ⟨y, (g _ y).mpr y1, y2⟩
  · refine List.ext_getElem? fun r => ?_
    rw [List.getElem?_map]
    by_cases hr : r < m
    · obtain ⟨y, hy⟩ := lt_all hp hg h0 h hr
      rw [(g r y).mpr hy]
      have hl : r < L.length := by rw [h.len]; exact hr
      have e1 : gv L r = (L[r]?).getD none := by unfold gv; rw [List.getD_eq_getElem?_getD]
      rw [hy, List.getElem?_eq_getElem hl] at e1
      rw [List.getElem?_eq_getElem hl]
      simp only [Option.getD_some] at e1
      rw [← e1]
      rfl
    · have hl : L.length ≤ r := by rw [h.len]; omega
      rw [nums_get, List.getElem?_eq_none hl]
      rfl
theorem sg_and {S T : Int → Bool} (g : Sg S) (h : Sg T) : Sg fun n => S n && T n where
  zero := by rw [g.zero, h.zero]; rfl
  add := fun {a b} x y => by
    rw [Bool.and_eq_true] at x y ⊢
    exact ⟨g.add x.1 y.1, h.add x.2 y.2⟩
  neg := fun {a} z => by rw [g.neg z]; rfl
theorem ts_and {S T : Int → Bool} {m : Nat} {M N : List Nat} (g : Sg S) (h : Sg T) (h0 : 0 < m) (hm : S (m : Int) = true) (hn : T (m : Int) = true) (a : Tss S m M) (b : Tss T m N) : Tss (fun n => S n && T n) m (List.zipWith (fun x y => max x y) M N) := by
  refine ⟨by rw [List.length_zipWith, a.len, b.len, Nat.min_self], fun r x e => ?_, fun n e => ?_⟩
  · rw [List.getElem?_zipWith] at e
    cases e1 : M[r]? with
    | none => rw [e1] at e; cases e
    | some u =>
      cases e2 : N[r]? with
      | none => rw [e1, e2] at e; cases e
      | some v =>
        rw [e1, e2] at e
        cases e
        obtain ⟨a1, a2⟩ := a.at_ r u e1
        obtain ⟨b1, b2⟩ := b.at_ r v e2
        have hmod : max u v % m = r := by
          rcases Nat.le_total u v with z | z
          · rw [Nat.max_eq_right z]; exact b2
          · rw [Nat.max_eq_left z]; exact a2
        refine ⟨?_, hmod⟩
        rw [Bool.and_eq_true]
        exact ⟨sg_mod g hm a1 (by rw [a2, hmod]) (Nat.le_max_left _ _), sg_mod h hn b1 (by rw [b2, hmod]) (Nat.le_max_right _ _)⟩
  · rw [Bool.and_eq_true] at e
    obtain ⟨u, u1, u2⟩ := a.best n e.1
    obtain ⟨v, v1, v2⟩ := b.best n e.2
    refine ⟨max u v, ?_, Nat.max_le.mpr ⟨u2, v2⟩⟩
    rw [List.getElem?_zipWith, u1, v1]
/-! ### parent and children -/
/-! ### promises -/
def sp_needed (K : PySem.W.Frag) : Sp := fun vs H Q _ => ∃ (t : Addr) (cs : List Int), vs = [.ref t] ∧ (H t = some (.lst (ivs cs)) ∨ H t = some (.tup (ivs cs))) ∧ cs ≠ [] ∧ Pos cs ∧ cs.Pairwise (· ≤ ·) ∧ cs.length ≤ 1000 ∧ (∀ c ∈ cs, c ≤ 200000) ∧ ∀ (l : Addr) (H' : Hp), Same H H' → H l = none → H' l = some (.lst (ivs (kept [] cs))) → Q (.ref l) H'
def sp_lsby : Sp := fun vs H Q _ => ∃ (t : Addr) (m : Int) (cs : List Int), vs = [.int m, .ref t] ∧ H t = some (.tup (ivs cs)) ∧ 1 ≤ m ∧ m ≤ 8000 ∧ (∀ c ∈ cs, 1 ≤ c ∧ c ≤ 400) ∧ ∀ (l : Addr) (L : Tb) (H' : Hp), Same H H' → H l = none → H' l = some (.lst (ovs L)) → LT (m :: cs) m.toNat L → Q (.ref l) H'
def sp_endcheck (EN : Addr) : Sp := fun vs H Q E => ∃ (t : Addr) (cs : List Int), vs = [.ref t] ∧ H t = some (.tup (ivs cs)) ∧ Purse 400 cs ∧ (gcdL cs = 1 → Q .non H) ∧ (gcdL cs ≠ 1 → ∀ H', Same H H' → E (.ref EN) none H')
end CY

set_option Elab.async false
set_option linter.all false
set_option maxRecDepth 100000
namespace CY
open PySem L2

abbrev prog : Program := PySem.Challenge.pw_coinyard_k29_refusals_stand_apart
def top (i : Nat) : Stmt := prog.main.body.getD i (.Pass ⟨0, 0, 0, 0⟩)
abbrev s_is_whole : Stmt := top 12
theorem sc_is_whole : FnScope ["thing"] ["thing"] (defScope s_is_whole) := ⟨rfl, rfl, rfl, by decide +kernel, rfl, by decide +kernel, by decide +kernel⟩
abbrev s_common_divisor : Stmt := top 13
theorem sc_common_divisor : FnScope ["one", "other", "rest"] ["one", "other"] (defScope s_common_divisor) := ⟨rfl, rfl, rfl, by decide +kernel, rfl, by decide +kernel, by decide +kernel⟩
abbrev s_checked : Stmt := top 14
theorem sc_checked : FnScope ["purse", "before", "coin"] ["purse"] (defScope s_checked) := ⟨rfl, rfl, rfl, by decide +kernel, rfl, by decide +kernel, by decide +kernel⟩
abbrev s_divisor_of : Stmt := top 15
theorem sc_divisor_of : FnScope ["purse", "divisor", "coin"] ["purse"] (defScope s_divisor_of) := ⟨rfl, rfl, rfl, by decide +kernel, rfl, by decide +kernel, by decide +kernel⟩
abbrev s_add_coin : Stmt := top 16
theorem sc_add_coin : FnScope ["made", "coin", "number"] ["made", "coin"] (defScope s_add_coin) := ⟨rfl, rfl, rfl, by decide +kernel, rfl, by decide +kernel, by decide +kernel⟩
abbrev s_needed_of : Stmt := top 17
theorem sc_needed_of : FnScope ["coins", "made", "found", "coin"] ["coins"] (defScope s_needed_of) := ⟨rfl, rfl, rfl, by decide +kernel, rfl, by decide +kernel, by decide +kernel⟩
abbrev s_least_purse_of : Stmt := top 18
theorem sc_least_purse_of : FnScope ["coins", "needed"] ["coins"] (defScope s_least_purse_of) := ⟨rfl, rfl, rfl, by decide +kernel, rfl, by decide +kernel, by decide +kernel⟩
abbrev s_is_sum : Stmt := top 20
theorem sc_is_sum : FnScope ["thing"] ["thing"] (defScope s_is_sum) := ⟨rfl, rfl, rfl, by decide +kernel, rfl, by decide +kernel, by decide +kernel⟩
abbrev s_add_once : Stmt := top 21
theorem sc_add_once : FnScope ["least", "rest", "coin", "onward", "reached"] ["least", "rest", "coin"] (defScope s_add_once) := ⟨rfl, rfl, rfl, by decide +kernel, rfl, by decide +kernel, by decide +kernel⟩
abbrev s_add_coin_to_least : Stmt := top 22
theorem sc_add_coin_to_least : FnScope ["least", "coin", "circles", "steps", "start", "rest", "step"] ["least", "coin"] (defScope s_add_coin_to_least) := ⟨rfl, rfl, rfl, by decide +kernel, rfl, by decide +kernel, by decide +kernel⟩
abbrev s_least_sums_by : Stmt := top 23
theorem sc_least_sums_by : FnScope ["number", "coins", "least", "coin"] ["number", "coins"] (defScope s_least_sums_by) := ⟨rfl, rfl, rfl, by decide +kernel, rfl, by decide +kernel, by decide +kernel⟩
abbrev s_least_sums : Stmt := top 24
theorem sc_least_sums : FnScope ["purse"] ["purse"] (defScope s_least_sums) := ⟨rfl, rfl, rfl, by decide +kernel, rfl, by decide +kernel, by decide +kernel⟩
abbrev s_is_reached : Stmt := top 25
theorem sc_is_reached : FnScope ["least", "number", "start"] ["least", "number"] (defScope s_is_reached) := ⟨rfl, rfl, rfl, by decide +kernel, rfl, by decide +kernel, by decide +kernel⟩
abbrev s_makes : Stmt := top 26
theorem sc_makes : FnScope ["purse", "number", "least"] ["purse", "number"] (defScope s_makes) := ⟨rfl, rfl, rfl, by decide +kernel, rfl, by decide +kernel, by decide +kernel⟩
abbrev s_check_gaps_end : Stmt := top 28
theorem sc_check_gaps_end : FnScope ["purse"] ["purse"] (defScope s_check_gaps_end) := ⟨rfl, rfl, rfl, by decide +kernel, rfl, by decide +kernel, by decide +kernel⟩
abbrev s_least_sums_of_every_rest : Stmt := top 29
theorem sc_least_sums_of_every_rest : FnScope ["purse"] ["purse"] (defScope s_least_sums_of_every_rest) := ⟨rfl, rfl, rfl, by decide +kernel, rfl, by decide +kernel, by decide +kernel⟩
abbrev s_gaps_of : Stmt := top 30
theorem sc_gaps_of : FnScope ["purse", "least"] ["purse"] (defScope s_gaps_of) := ⟨rfl, rfl, rfl, by decide +kernel, rfl, by decide +kernel, by decide +kernel⟩
abbrev s_check_payment : Stmt := top 34
theorem sc_check_payment : FnScope ["purse", "number"] ["purse", "number"] (defScope s_check_payment) := ⟨rfl, rfl, rfl, by decide +kernel, rfl, by decide +kernel, by decide +kernel⟩
abbrev s_fewest_up_to : Stmt := top 35
theorem sc_fewest_up_to : FnScope ["purse", "bound", "few", "coin", "number", "before"] ["purse", "bound"] (defScope s_fewest_up_to) := ⟨rfl, rfl, rfl, by decide +kernel, rfl, by decide +kernel, by decide +kernel⟩
abbrev s_count_ways : Stmt := top 36
theorem sc_count_ways : FnScope ["purse", "number", "ways", "coin", "paid"] ["purse", "number"] (defScope s_count_ways) := ⟨rfl, rfl, rfl, by decide +kernel, rfl, by decide +kernel, by decide +kernel⟩
abbrev s_all_ways : Stmt := top 39
theorem sc_all_ways : FnScope ["purse", "number", "begun", "coin", "made"] ["purse", "number"] (defScope s_all_ways) := ⟨rfl, rfl, rfl, by decide +kernel, rfl, by decide +kernel, by decide +kernel⟩
abbrev s_first_fault : Stmt := top 42
theorem sc_first_fault : FnScope ["purse", "bound", "few", "number"] ["purse"] (defScope s_first_fault) := ⟨rfl, rfl, rfl, by decide +kernel, rfl, by decide +kernel, by decide +kernel⟩
abbrev s_purse_of_least_sums : Stmt := top 44
theorem sc_purse_of_least_sums : FnScope ["least", "number", "purse"] ["least"] (defScope s_purse_of_least_sums) := ⟨rfl, rfl, rfl, by decide +kernel, rfl, by decide +kernel, by decide +kernel⟩
abbrev s_least_common_sum : Stmt := top 45
theorem sc_least_common_sum : FnScope ["one", "other", "least_of_one", "least_of_other", "number"] ["one", "other"] (defScope s_least_common_sum) := ⟨rfl, rfl, rfl, by decide +kernel, rfl, by decide +kernel, by decide +kernel⟩
abbrev s_made_by_both : Stmt := top 46
theorem sc_made_by_both : FnScope ["one", "other", "number", "least_of_one", "least_of_other"] ["one", "other"] (defScope s_made_by_both) := ⟨rfl, rfl, rfl, by decide +kernel, rfl, by decide +kernel, by decide +kernel⟩
abbrev s_is_number_in_figures : Stmt := top 50
theorem sc_is_number_in_figures : FnScope ["text", "sign"] ["text"] (defScope s_is_number_in_figures) := ⟨rfl, rfl, rfl, by decide +kernel, rfl, by decide +kernel, by decide +kernel⟩
abbrev s_read : Stmt := top 51
theorem sc_read : FnScope ["text", "numbers", "number", "coins"] ["text"] (defScope s_read) := ⟨rfl, rfl, rfl, by decide +kernel, rfl, by decide +kernel, by decide +kernel⟩
abbrev s__law_cell : Stmt := top 53
theorem sc__law_cell : FnScope ["_law_script", "_law_k"] ["_law_script", "_law_k"] (defScope s__law_cell) := ⟨rfl, rfl, rfl, by decide +kernel, rfl, by decide +kernel, by decide +kernel⟩
abbrev s__law_deed : Stmt := top 54
theorem sc__law_deed : FnScope ["_law_way"] ["_law_way"] (defScope s__law_deed) := ⟨rfl, rfl, rfl, by decide +kernel, rfl, by decide +kernel, by decide +kernel⟩
abbrev s__law_kinds_of : Stmt := top 55
theorem sc__law_kinds_of : FnScope ["_law_way", "_law_some", "e"] ["_law_way"] (defScope s__law_kinds_of) := ⟨rfl, rfl, rfl, by decide +kernel, rfl, by decide +kernel, by decide +kernel⟩
abbrev s_law : Stmt := top 56
theorem sc_law : FnScope ["_law_script", "_law_way"] ["_law_script"] (defScope s_law) := ⟨rfl, rfl, rfl, by decide +kernel, rfl, by decide +kernel, by decide +kernel⟩
end CY

set_option Elab.async false
set_option linter.all false
set_option maxRecDepth 100000
set_option maxHeartbeats 4000000
namespace CY
open PySem PySem.Spec PyProof.Rows L2
section
variable {P : Program} {w : World} {K : PySem.W.Frag} {mg : Str → Option Value} {base : Heap}
theorem ok__law_cell {f : Addr} {fd : FuncData} (F : Fun K "_law_cell" "_law_cell" s__law_cell f fd) (T : Tx mg) : FnOk P w K mg base CX0 1 f fd ["_law_script", "_law_k"] (sp_cell K) := by
  refine F.ok sc__law_cell (fun vs H Q E h => ?_) (fun cdv A outer s H vs Q E hr h => ?_)
  · obtain ⟨a, ns, k, rfl, _⟩ := h
    rfl
  · obtain ⟨a, ns, k, rfl, hS, hk, q⟩ := h
    refine ⟨_, (pss_cons (ps_if (pt_cmpR op_lt (pv 1) (pe_callB call_len_seq (gl_of (by kernel_rfl)) T.b_len boot_len (pa_cons (pv 0) pa_nil)) (nomark _)) (pss_one (ps_ret (pe_ix ix_any (pv 0) (pv 1) (fun _ _ => rfl)))) pss_nil)
      (pss_one (ps_ret pe_int))), ?_⟩
    refine ⟨_, rfl, _, rfl, a, ivs ns, rfl, .inl hS, _, _, rfl, rfl, _, rfl, ?_⟩
    have hl : (ivs ns).length = ns.length := List.length_map ..
    rw [hl]
    refine ite2 (fun h1 => ?_) (fun h1 => ?_)
    · have h2 : k < (ns.length : Int) := of_decide_eq_true h1
      refine ⟨_, rfl, _, rfl, a, ivs ns, k, _, rfl, rfl, .inl hS, ?_, q⟩
      have e : k = ((k.toNat : Nat) : Int) := by omega
      unfold cell
      rw [if_pos h2]
      conv => lhs; rw [e]
      exact atI_nat (ivs_get (by omega))
    · have h2 : ¬ k < (ns.length : Int) := fun z => h1 (decide_eq_true z)
      unfold cell at q
      rw [if_neg h2] at q
      exact q
end
end CY

set_option Elab.async false
set_option linter.all false
set_option maxRecDepth 100000
set_option maxHeartbeats 4000000
namespace CY
open PySem PySem.Spec PyProof.Rows L2
theorem true_then {σ : L2.St} {H : Hp} {A B : Hp → Prop} (h : A H) : tTrue σ H fun c H2 => if c = true then A H2 else B H2 := by
  show if true = true then A H else B H
  rw [if_pos rfl]
  exact h
section
variable {P : Program} {w : World} {K : PySem.W.Frag} {mg : Str → Option Value} {base : Heap}
end
end CY

set_option Elab.async false
set_option linter.all false
set_option maxRecDepth 100000
set_option maxHeartbeats 4000000
namespace CY
open PySem PySem.Spec PyProof.Rows L2
theorem tab_succ (cs : List Int) (i : Nat) : tab cs (i + 1) = tab cs i ++ [V.bl (mk cs ((i : Int) + 1))] := by
  unfold tab
  rw [List.range_succ (n := i + 1), List.map_append]
  simp
theorem tab_len (cs : List Int) (i : Nat) : (tab cs i).length = i + 1 := by unfold tab; simp
theorem tab_at (cs : List Int) {i j : Nat} (h : j ≤ i) : (tab cs i)[j]? = some (.bl (mk cs j)) := by
  unfold tab
  simp [show j < i + 1 by omega]
theorem tab_atI (cs : List Int) {i : Nat} {z : Int} (h0 : 0 ≤ z) (h : z ≤ i) : atI (tab cs i) z = some (.bl (mk cs z)) := by
  have e : z = ((z.toNat : Nat) : Int) := by omega
  rw [e]
  exact atI_nat (tab_at cs (by omega))
section
variable {P : Program} {w : World} {K : PySem.W.Frag} {mg : Str → Option Value} {base : Heap}
end
end CY

set_option Elab.async false
set_option linter.all false
set_option maxRecDepth 100000
set_option maxHeartbeats 4000000
namespace CY
open PySem PySem.Spec PyProof.Rows L2
theorem ifT {c : Bool} {A B : Prop} (hc : c = true) (h : A) : if c = true then A else B := by
  rw [if_pos hc]
  exact h
theorem ifF {c : Bool} {A B : Prop} (hc : c = false) (h : B) : if c = true then A else B := by
  rw [hc, if_neg Bool.false_ne_true]
  exact h
theorem ifN {c : Bool} {A B : Prop} (hc : c = true) (h : B) : if (!c) = true then A else B := by
  rw [hc, if_neg (by decide)]
  exact h
theorem kit_ii (K : PySem.W.Frag) : PySem.W.kitOne K (.type "int") (.type "int") = some true := rfl
theorem kit_ib (K : PySem.W.Frag) : PySem.W.kitOne K (.type "int") (.type "bool") = some false := by kernel_rfl
theorem kit_tt (K : PySem.W.Frag) : PySem.W.kitOne K (.type "tuple") (.type "tuple") = some true := rfl
theorem kit_bb (K : PySem.W.Frag) : PySem.W.kitOne K (.type "bool") (.type "bool") = some true := rfl
section
variable {P : Program} {w : World} {K : PySem.W.Frag} {mg : Str → Option Value} {base : Heap}
theorem ok_is_whole {f : Addr} {fd : FuncData} (F : Fun K "is_whole" "is_whole" s_is_whole f fd) (T : Tx mg) : FnOk P w K mg base CX0 1 f fd ["thing"] sp_whole := by
  refine F.ok sc_is_whole (fun vs H Q E h => ?_) (fun cdv A outer s H vs Q E hr h => ?_)
  · obtain ⟨i, rfl, _⟩ := h
    rfl
  · obtain ⟨i, rfl, q⟩ := h
    refine ⟨_, (pss_one (ps_ret (pe_and (pe_callB (isinstK (K := K) rfl) (gl_of (by kernel_rfl)) T.b_isinstance boot_isinstance (pa_cons (pv 0) (pa_cons (pe_ty T.b_int boot_int) pa_nil))) (pe_one (pe_un (notK (K := K) rfl) (pe_callB (isinstK (K := K) rfl) (gl_of (by kernel_rfl)) T.b_isinstance boot_isinstance (pa_cons (pv 0) (pa_cons (pe_ty T.b_bool boot_bool) pa_nil)))))))), ?_⟩
    refine ⟨_, rfl, _, _, _, _, rfl, .int i, kit_ii K, _, rfl, ?_⟩
    refine iteT ?_
    refine ⟨_, rfl, _, _, _, _, rfl, .int i, kit_ib K, false, rfl, q⟩
theorem ok_common_divisor {f : Addr} {fd : FuncData} (F : Fun K "common_divisor" "common_divisor" s_common_divisor f fd) : FnOk P w K mg base CX0 1 f fd ["one", "other"] sp_gcd := by
  refine F.ok sc_common_divisor (fun vs H Q E h => ?_) (fun cdv A outer s H vs Q E hr h => ?_)
  · obtain ⟨a, b, rfl, _⟩ := h
    rfl
  · obtain ⟨a, b, rfl, ha, hb, q⟩ := h
    refine ⟨_, (pss_cons (ps_while PassesOwn.never (pt_cmpR op_ne (pv 1) pe_int (nomark _)) (pss_cons (ps_set (i := 2) sc_common_divisor.nd rfl (Or.inl (by kernel_rfl)) (pe_op op_mod (pv 0) (pv 1)))
      (pss_cons (ps_set (i := 0) sc_common_divisor.nd rfl (Or.inl (by kernel_rfl)) (pv 1))
      (pss_one (ps_set (i := 1) sc_common_divisor.nd rfl (Or.inl (by kernel_rfl)) (pv 2))))))
      (pss_one (ps_ret (pv 0)))), ?_⟩
    refine ⟨fun m σ H' => ∃ (x y : Int) (z : Option V), σ = [some (.int x), some (.int y), z] ∧ H' = H ∧ 0 ≤ x ∧ 0 ≤ y ∧ m = y.toNat ∧ Nat.gcd x.toNat y.toNat = Nat.gcd a.toNat b.toNat, ⟨b.toNat, a, b, none, rfl, rfl, ha, hb, rfl, rfl⟩, ?_⟩
    rintro m σ H' ⟨x, y, z, rfl, rfl, hx, hy, rfl, hg⟩
    refine ⟨_, rfl, rfl, _, rfl, ?_⟩
    refine ite2 (fun h1 => ?_) (fun h1 => ?_)
    · have h2 : y ≠ 0 := fun e => by subst e; simp at h1
      have hy' : 0 < y := by omega
      refine ⟨fun σ' H2 => ∃ z, σ' = [some (.int y), some (.int (x % y)), z] ∧ H2 = H', ?_, ?_⟩
      · rintro σ' H2 ⟨z, rfl, rfl⟩
        have m0 := Int.emod_nonneg x h2
        have m1 := Int.emod_lt_of_pos x hy'
        refine ⟨(x % y).toNat, by omega, y, x % y, z, rfl, rfl, hy, m0, rfl, ?_⟩
        rw [← hg, Int.toNat_emod hx hy, Nat.gcd_comm y.toNat, ← Nat.gcd_rec, Nat.gcd_comm]
      · exact ⟨_, rfl, _, rfl, _, _, rfl, rfl, hy', _, rfl, _, rfl, _, rfl, rfl⟩
    · have h2 : y = 0 := by
        cases Decidable.em (y = 0) with
        | inl e => exact e
        | inr e => exact absurd (by simp [e]) h1
      subst h2
      refine ⟨_, rfl, ?_⟩
      have e : x = ((Nat.gcd a.toNat b.toNat : Nat) : Int) := by
        rw [← hg]
        simp
        omega
      rw [e]
      exact q
theorem getI_last {cs : List Int} (h : cs ≠ []) : atI (ivs cs) (-1) = some (.int (cs.getLast h)) := by
  have e := List.dropLast_concat_getLast h
  have e2 : ivs cs = ivs cs.dropLast ++ [.int (cs.getLast h)] := by
    conv => lhs; rw [← e]
    unfold ivs
    rw [List.map_append]
    rfl
  rw [e2]
  exact atI_last _ _
theorem ivs_nth {cs : List Int} {i : Nat} {v : V} (h : (ivs cs)[i]? = some v) : ∃ c, v = .int c ∧ cs[i]? = some c := by
  unfold ivs at h
  rw [List.getElem?_map] at h
  cases e : cs[i]? with
  | none => rw [e] at h; cases h
  | some c => rw [e] at h; cases h; exact ⟨c, rfl, rfl⟩
theorem _root_.L2.SqL.keep {K : PySem.W.Frag} {H H' : Hp} {a : Addr} {xs : List V} (h : SqL K H a xs) (k : ∀ o, H a = some o → H' a = some o) : SqL K H' a xs := by
  rcases h with (h | ⟨o, h⟩) | h
  · exact .inl (.inl (k _ h))
  · exact .inl (.inr ⟨o, k _ h⟩)
  · exact .inr h
theorem _root_.L2.SqT.keep {K : PySem.W.Frag} {H H' : Hp} {a : Addr} {xs : List V} (h : SqT K H a xs) (k : ∀ o, H a = some o → H' a = some o) : SqT K H' a xs := by
  rcases h with (h | ⟨o, h⟩) | h
  · exact .inl (.inl (k _ h))
  · exact .inl (.inr ⟨o, k _ h⟩)
  · exact .inr h
/-- a loop over a tuple or a list that stays -/
theorem for_seq {K : PySem.W.Frag} {a : Addr} {xs : List V} {g : TG} {tb : TS} {D : Ends} {σ : L2.St} {H : Hp} (Pv : Nat → L2.St → Hp → Prop) (h : SqA K H a xs) (h0 : Pv 0 σ H) (hl : ∀ i σ' H', Pv i σ' H' → ∀ o, H a = some o → H' a = some o)
    (hs : ∀ i x σ H, xs[i]? = some x → Pv i σ H → g x σ H fun σ2 H2 => tb { D with nx := Pv (i + 1), ct := Pv (i + 1), bk := D.nx } σ2 H2) (hd : ∀ σ H, Pv xs.length σ H → D.nx σ H) :
    ((∃ xs, SqL K H a xs) ∧ ∃ W : Nat → Nat → L2.St → Hp → Prop, (∃ m, W 0 m σ H) ∧ ∀ i m σ H, W i m σ H →
      ((Itl K a).stop i H ∧ D.nx σ H) ∨ ((Itl K a).go i H ∧ ∃ N : L2.St → Hp → Prop, (∀ σ' H', N σ' H' → ∃ m', m' < m ∧ W (i + 1) m' σ' H') ∧ ∀ x H', (Itl K a).yld i H x H' → g x σ H' fun σ2 H2 => tb { D with nx := N, ct := N, bk := D.nx } σ2 H2)) ∨
    ((∃ xs, SqT K H a xs) ∧ ∃ W : Nat → Nat → L2.St → Hp → Prop, (∃ m, W 0 m σ H) ∧ ∀ i m σ H, W i m σ H →
      ((Itt K a).stop i H ∧ D.nx σ H) ∨ ((Itt K a).go i H ∧ ∃ N : L2.St → Hp → Prop, (∀ σ' H', N σ' H' → ∃ m', m' < m ∧ W (i + 1) m' σ' H') ∧ ∀ x H', (Itt K a).yld i H x H' → g x σ H' fun σ2 H2 => tb { D with nx := N, ct := N, bk := D.nx } σ2 H2)) := by
  rcases h with h | h
  · exact .inl ⟨⟨xs, h⟩, for_list Pv h0 (fun i σ' H' _ pv => h.keep (hl i σ' H' pv)) hs hd⟩
  · exact .inr ⟨⟨xs, h⟩, for_tup Pv h0 (fun i σ' H' _ pv => h.keep (hl i σ' H' pv)) hs hd⟩
theorem ok_checked {f : Addr} {fd : FuncData} {t1 t2 : Tok} (F : Fun K "checked" "checked" s_checked f fd) (T : Tx mg) (h_MOST_COINS : mg "MOST_COINS" = some (.int 40 t1)) (h_GREATEST_COIN : mg "GREATEST_COIN" = some (.int 400 t2))
    (C_is_whole : Fn P w K mg base "is_whole" ["thing"] 1 sp_whole) : FnOk P w K mg base CX0 2 f fd ["purse"] (sp_checked K) := by
  refine F.ok sc_checked (fun vs H Q E h => ?_) (fun cdv A outer s H vs Q E hr h => ?_)
  · obtain ⟨t, cs, rfl, _⟩ := h
    rfl
  · obtain ⟨t, cs, rfl, ht, hP, q⟩ := h
    have hS : SqA K H t (ivs cs) := .tpl ht
    refine ⟨_, (pss_cons (ps_if (pt_not (pt_val (pe_callB (isinstK (K := K) rfl) (gl_of (by kernel_rfl)) T.b_isinstance boot_isinstance (pa_cons (pv 0) (pa_cons (pe_ty T.b_tuple boot_tuple) pa_nil))))) pss_never pss_nil)
      (pss_cons (ps_if (pt_not (pt_chain op_le op_le pe_int (pe_callB (lenK (K := K) rfl) (gl_of (by kernel_rfl)) T.b_len boot_len (pa_cons (pv 0) pa_nil)) (pe_num h_MOST_COINS))) pss_never pss_nil)
      (pss_cons (ps_set (i := 1) sc_checked.nd rfl (Or.inl (by kernel_rfl)) pe_int)
      (pss_cons (ps_for PassesOwn.never rfl (pi_seqK (K := K) rfl (pv 0)) (pg_name (i := 2) sc_checked.nd rfl (Or.inl (by kernel_rfl))) (pss_cons (ps_if (pt_not (pt_val (pe_fn C_is_whole (hr.mono (by decide)) (pa_cons (pv 2) pa_nil)))) pss_never pss_nil)
      (pss_cons (ps_if (pt_not (pt_chain op_lt op_le (pv 1) (pv 2) (pe_num h_GREATEST_COIN))) pss_never pss_nil)
      (pss_one (ps_set (i := 1) sc_checked.nd rfl (Or.inl (by kernel_rfl)) (pv 2))))))
      (pss_one (ps_ret (pv 0))))))), ?_⟩
    refine ⟨_, rfl, _, _, _, _, rfl, .tup ht, kit_tt K, _, rfl, ?_⟩
    refine iteF ?_
    have hl : (ivs cs).length = cs.length := List.length_map ..
    have h1 : 1 ≤ cs.length := by
      cases hc : cs with
      | nil => exact absurd hc hP.ne
      | cons => simp
    have h40 := hP.few
    refine ⟨_, rfl, t, ivs cs, rfl, hS, _, _, rfl, rfl, _, rfl, ?_⟩
    rw [hl]
    refine ifT (by simp; omega) ?_
    refine ⟨_, _, rfl, rfl, _, rfl, ?_⟩
    refine ifN (by simp; omega) ?_
    refine ⟨_, rfl, t, rfl, ?_⟩
    refine for_seq (xs := ivs cs) (fun i σ H' => ∃ (b : Int) (x : Option V), σ = [some (.ref t), some (.int b), x] ∧ H' = H ∧ ∀ c, cs[i]? = some c → b < c) hS ⟨0, none, rfl, rfl, fun c hc => ?_⟩ (fun i σ' H' ⟨_, _, _, e, _⟩ => by rw [e]; exact fun _ z => z) ?_ ?_
    · have := hP.lo c (List.mem_of_getElem? hc)
      omega
    · rintro i v σ H' hv ⟨b, x, rfl, rfl, hb⟩
      obtain ⟨c, rfl, hc⟩ := ivs_nth hv
      have c1 := hb c hc
      have c2 := hP.hi c (List.mem_of_getElem? hc)
      refine ⟨_, rfl, c, rfl, _, rfl, ?_⟩
      refine iteF ?_
      refine ⟨_, rfl, _, rfl, _, _, rfl, rfl, _, rfl, ?_⟩
      refine ifT (by simpa using c1) ?_
      refine ⟨_, _, rfl, rfl, _, rfl, ?_⟩
      refine ifN (by simp; omega) ?_
      refine ⟨_, rfl, c, _, rfl, rfl, fun d hd => ?_⟩
      have h2 := (List.getElem?_eq_some_iff.mp hc)
      have h3 := (List.getElem?_eq_some_iff.mp hd)
      obtain ⟨a1, a2⟩ := h2
      obtain ⟨b1, b2⟩ := h3
      have := List.pairwise_iff_getElem.mp hP.rise i (i + 1) a1 b1 (by omega)
      rw [a2, b2] at this
      exact this
    · rintro σ H' ⟨b, x, rfl, rfl, _⟩
      exact ⟨_, rfl, q⟩
end
end CY

set_option Elab.async false
set_option linter.all false
set_option maxRecDepth 100000
set_option maxHeartbeats 4000000
namespace CY
open PySem PySem.Spec PyProof.Rows L2
theorem kept_cons (ks r : List Int) (c : Int) : kept ks (c :: r) = kept (if mk ks c = true then ks else ks ++ [c]) r := by rw [kept]
theorem upd_eta {H H' : Hp} {l : Addr} {o : HO} (h1 : H' l = some o) (h2 : ∀ b, b ≠ l → H' b = H b) : H' = upd H l o := by
  funext b
  by_cases e : b = l
  · rw [e, h1, upd_same]
  · rw [h2 b e, upd_ne e]
noncomputable def mixT (ds : List Int) (c k : Int) (n : Nat) : List V := (List.range (n + 1)).map fun (j : Nat) => V.bl (if (j : Int) < k then mk (ds ++ [c]) j else mk ds j)
theorem mixT_len (ds : List Int) (c k : Int) (n : Nat) : (mixT ds c k n).length = n + 1 := by unfold mixT; simp
theorem mixT_at (ds : List Int) (c k : Int) {n j : Nat} (h : j ≤ n) : (mixT ds c k n)[j]? = some (.bl (if (j : Int) < k then mk (ds ++ [c]) j else mk ds j)) := by
  unfold mixT
  simp [show j < n + 1 by omega]
theorem mixT_first {ds : List Int} {c : Int} (h : Pos ds) (hc : 0 < c) (n : Nat) : mixT ds c c n = tab ds n := by
  unfold mixT tab
  refine List.map_congr_left fun j _ => ?_
  split
  · rename_i hj
    rw [mk_snoc h hc, decide_eq_false (by omega)]
    simp
  · rfl
theorem mixT_last {ds : List Int} {c k : Int} {n : Nat} (h : (n : Int) < k) : mixT ds c k n = tab (ds ++ [c]) n := by
  unfold mixT tab
  refine List.map_congr_left fun j hj => ?_
  rw [if_pos (by have := List.mem_range.mp hj; omega)]
theorem mixT_yes {ds : List Int} {c : Int} {k n : Nat} (h : mk (ds ++ [c]) k = true) : (mixT ds c k n).set k (.bl true) = mixT ds c (k + 1) n := by
  refine List.ext_getElem? fun j => ?_
  rw [List.getElem?_set]
  by_cases hj : j ≤ n
  · rw [mixT_at _ _ _ hj, mixT_at _ _ _ hj, mixT_len]
    by_cases e : k = j
    · subst e
      rw [if_pos rfl, if_pos (by omega), if_pos (by omega), h]
    · rw [if_neg e]
      by_cases z : (j : Int) < k
      · rw [if_pos z, if_pos (by omega)]
      · rw [if_neg z, if_neg (by omega)]
  · have e1 : (mixT ds c k n)[j]? = none := List.getElem?_eq_none (by rw [mixT_len]; omega)
    have e2 : (mixT ds c (k + 1) n)[j]? = none := List.getElem?_eq_none (by rw [mixT_len]; omega)
    rw [e1, e2, mixT_len]
    split
    · rw [if_neg (by omega)]
    · rfl
theorem mixT_no {ds : List Int} {c : Int} {k n : Nat} (h : mk (ds ++ [c]) k = mk ds k) : mixT ds c k n = mixT ds c (k + 1) n := by
  unfold mixT
  refine List.map_congr_left fun j _ => ?_
  by_cases e : j = k
  · subst e
    rw [if_neg (by omega), if_pos (by omega), h]
  · by_cases z : (j : Int) < k
    · rw [if_pos z, if_pos (by omega)]
    · rw [if_neg z, if_neg (by omega)]
theorem tab_nil (n : Nat) : [V.bl true] ++ (List.replicate n [V.bl false]).flatten = tab [] n := by
  induction n with
  | zero => unfold tab; simp [mk_zero]
  | succ n ih =>
    rw [tab_succ, ← ih, List.replicate_succ', List.flatten_append]
    have e : mk [] ((n : Int) + 1) = false := by
      cases q : mk [] ((n : Int) + 1) with
      | false => rfl
      | true =>
        have := made_nil (mk_iff.mp q)
        omega
    rw [e]
    simp
theorem flat_ivs (ns : List Int) : (ivs ns).all flatV = true := flat_plain (plain_ints ns)
section
variable {P : Program} {w : World} {K : PySem.W.Frag} {mg : Str → Option Value} {base : Heap}
theorem ok_divisor_of {f : Addr} {fd : FuncData} (F : Fun K "divisor_of" "divisor_of" s_divisor_of f fd) (C_checked : Fn P w K mg base "checked" ["purse"] 2 (sp_checked K)) (C_common_divisor : Fn P w K mg base "common_divisor" ["one", "other"] 1 sp_gcd) :
    FnOk P w K mg base CX0 3 f fd ["purse"] (sp_divisor K) := by
  refine F.ok sc_divisor_of (fun vs H Q E h => ?_) (fun cdv A outer s H vs Q E hr h => ?_)
  · obtain ⟨t, cs, rfl, _⟩ := h
    rfl
  · obtain ⟨t, cs, rfl, ht, hP, q⟩ := h
    refine ⟨_, (pss_cons (ps_set (i := 1) sc_divisor_of.nd rfl (Or.inl (by kernel_rfl)) pe_int)
      (pss_cons (ps_for PassesOwn.never rfl (pi_seqK (K := K) rfl (pe_fn C_checked (hr.mono (by decide)) (pa_cons (pv 0) pa_nil))) (pg_name (i := 2) sc_divisor_of.nd rfl (Or.inl (by kernel_rfl))) (pss_one (ps_set (i := 1) sc_divisor_of.nd rfl (Or.inl (by kernel_rfl)) (pe_fn C_common_divisor (hr.mono (by decide)) (pa_cons (pv 1) (pa_cons (pv 2) pa_nil))))))
      (pss_one (ps_ret (pv 1))))), ?_⟩
    refine ⟨_, rfl, t, cs, rfl, ht, hP, t, rfl, ?_⟩
    refine for_seq (xs := ivs cs) (fun i σ H' => ∃ x, σ = [some (.ref t), some (.int (gcdL (cs.take i) : Nat)), x] ∧ H' = H) (.tpl ht) ⟨none, rfl, rfl⟩ (fun i σ' H' ⟨_, _, e⟩ => by rw [e]; exact fun _ z => z) ?_ ?_
    · rintro i v σ H' hv ⟨x, rfl, rfl⟩
      obtain ⟨c, rfl, hc⟩ := ivs_nth hv
      have c1 := hP.lo c (List.mem_of_getElem? hc)
      refine ⟨_, rfl, _, rfl, _, c, rfl, by omega, by omega, some (.int c), ?_, rfl⟩
      have e : gcdL (cs.take (i + 1)) = Nat.gcd (gcdL (cs.take i)) c.toNat := by
        rw [List.take_add_one, hc]
        show List.foldl _ 0 (cs.take i ++ [c]) = _
        rw [List.foldl_append]
        rfl
      rw [e]
      rfl
    · rintro σ H' ⟨x, rfl, rfl⟩
      have e : cs.take (ivs cs).length = cs := by rw [show (ivs cs).length = cs.length from List.length_map .., List.take_length]
      rw [e]
      exact ⟨_, rfl, q⟩
theorem ok_add_coin {f : Addr} {fd : FuncData} (F : Fun K "add_coin" "add_coin" s_add_coin f fd) (T : Tx mg) : FnOk P w K mg base CX0 1 f fd ["made", "coin"] sp_addcoin := by
  refine F.ok sc_add_coin (fun vs H Q E h => ?_) (fun cdv A outer s H vs Q E hr h => ?_)
  · obtain ⟨l, ds, n, c, rfl, _⟩ := h
    rfl
  · obtain ⟨l, ds, n, c, rfl, hl, hp, hc, hn, hc2, q⟩ := h
    refine ⟨_, (pss_one (ps_for PassesOwn.never rfl (pi_range2 (gl_of (by kernel_rfl)) T.b_range (pa_cons (pv 1) (pa_cons (pe_callB (lenK (K := K) rfl) (gl_of (by kernel_rfl)) T.b_len boot_len (pa_cons (pv 0) pa_nil)) pa_nil))) (pg_name (i := 2) sc_add_coin.nd rfl (Or.inl (by kernel_rfl))) (pss_one (ps_if (pt_val (pe_ix (ix_anyK (K := K) rfl) (pv 0) (pe_op op_sub (pv 2) (pv 1)) (fun _ _ => rfl))) (pss_one (ps_asg pe_bl (pg_sub (pv 0) (pv 2) set_list))) pss_nil)))), ?_⟩
    refine ⟨_, rfl, _, rfl, l, _, rfl, .inl (.of hl), c, _, rfl, ⟨by omega, by omega, by omega, by rw [tab_len]; omega⟩, ?_⟩
    rw [tab_len]
    generalize hN : (((n + 1 : Nat) : Int) - c).toNat = N
    refine for_range (lo := c) (n := N) (fun i σ H' => ∃ x, σ = [some (.ref l), some (.int c), x] ∧ H' l = some (.lst (mixT ds c (c + i) n)) ∧ ∀ b, b ≠ l → H' b = H b) ⟨none, rfl, ?_, fun _ _ => rfl⟩ ?_ ?_
    · rw [show c + ((0 : Nat) : Int) = c by simp, mixT_first hp hc]
      exact hl
    · rintro i σ H1 hi ⟨x, rfl, h1, h2⟩
      have ek : c + (i : Int) = (((c.toNat + i : Nat)) : Int) := by omega
      have hk : c.toNat + i ≤ n := by omega
      have hm : mk (ds ++ [c]) ((c.toNat + i : Nat) : Int) = (mk ds ((c.toNat + i : Nat) : Int) || mk (ds ++ [c]) (i : Int)) := by
        rw [mk_snoc hp hc, decide_eq_true (by omega), show (((c.toNat + i : Nat)) : Int) - c = (i : Int) by omega]
        simp
      refine ⟨_, rfl, _, rfl, _, rfl, _, _, rfl, rfl, l, _, _, .bl (mk (ds ++ [c]) (i : Int)), rfl, rfl, .lst h1, ?_, _, rfl, ?_⟩
      · rw [show c + (i : Int) - c = ((i : Nat) : Int) by omega]
        rw [atI_nat (mixT_at ds c (c + i) (show i ≤ n by omega)), if_pos (by omega)]
      · refine ite2 (fun h3 => ?_) (fun h3 => ?_)
        · refine ⟨_, rfl, _, rfl, l, _, _, c.toNat + i, rfl, rfl, h1, ?_, ⟨_, rfl, ?_, fun b hb => by rw [upd_ne hb]; exact h2 b hb⟩⟩
          · rw [mixT_len]
            unfold ixN
            rw [if_pos (by omega), if_pos (by omega)]
            congr 1
            omega
          · rw [upd_same, ek, mixT_yes (by rw [hm, h3]; simp)]
            congr 3
            omega
        · refine ⟨_, rfl, ?_, h2⟩
          rw [h1, ek, mixT_no (by rw [hm, Bool.eq_false_iff.mpr h3]; simp)]
          congr 3
          omega
    · rintro σ H1 ⟨x, rfl, h1, h2⟩
      have e := upd_eta h1 h2
      rw [mixT_last (by omega)] at e
      show Q .non H1
      rw [e]
      exact q
theorem ok_needed_of {f : Addr} {fd : FuncData} (F : Fun K "needed_of" "needed_of" s_needed_of f fd) (C_add_coin : Fn P w K mg base "add_coin" ["made", "coin"] 1 sp_addcoin) :
    FnOk P w K mg base CX0 2 f fd ["coins"] (sp_needed K) := by
  refine F.ok sc_needed_of (fun vs H Q E h => ?_) (fun cdv A outer s H vs Q E hr h => ?_)
  · obtain ⟨t, cs, rfl, _⟩ := h
    rfl
  · obtain ⟨t, cs, rfl, ht, hne, hpos, hrise, hlen, hmax, q⟩ := h
    refine ⟨_, (pss_cons (ps_set (i := 1) sc_needed_of.nd rfl (Or.inl (by kernel_rfl)) (pe_op op_cat (pe_lst (pa_cons pe_bl pa_nil)) (pe_op op_rep (pe_lst (pa_cons pe_bl pa_nil)) (pe_ix (ix_anyK (K := K) rfl) (pv 0) (pe_un un_neg pe_int) (fun _ _ => rfl)))))
      (pss_cons (ps_set (i := 2) sc_needed_of.nd rfl (Or.inl (by kernel_rfl)) (pe_lst pa_nil))
      (pss_cons (ps_for PassesOwn.never rfl (pi_seqK (K := K) rfl (pv 0)) (pg_name (i := 3) sc_needed_of.nd rfl (Or.inl (by kernel_rfl))) (pss_one (ps_if (pt_not (pt_val (pe_ix (ix_anyK (K := K) rfl) (pv 1) (pv 3) (fun _ _ => rfl)))) (pss_cons (ps_expr (pe_bm PySem.F.plainAttrs_list PySem.F.slot_list_append PySem.F.type_list_append mt_append (pv 2) (pa_cons (pv 3) pa_nil)))
      (pss_one (ps_expr (pe_fn C_add_coin (hr.mono (by decide)) (pa_cons (pv 1) (pa_cons (pv 3) pa_nil)))))) pss_nil)))
      (pss_one (ps_ret (pv 2)))))), ?_⟩
    have hS : SqA K H t (ivs cs) := ht.elim .lst .tpl
    have hlast := List.getLast_mem hne
    have l1 := hpos _ hlast
    have l2 := hmax _ hlast
    have hle : ∀ c ∈ cs, c ≤ cs.getLast hne := fun c hc => by
      have e := List.dropLast_concat_getLast hne
      rw [← e] at hc
      rcases List.mem_append.mp hc with z | z
      · have := hrise
        rw [← e] at this
        exact (List.pairwise_append.mp this).2.2 c z _ List.mem_cons_self
      · rw [List.mem_singleton.mp z]
        exact Int.le_refl _
    generalize hg : cs.getLast hne = g at l1 l2 hle
    have hgI : atI (ivs cs) (-1) = some (.int g) := by rw [getI_last hne, hg]
    refine ⟨by decide, fun p1 hp1 => ⟨by decide, fun p2 hp2 => ?_⟩⟩
    have s1 : Same H (upd H p1 (.lst [V.bl true])) := (Same.refl H).put hp1
    have s2 := s1.put (o := .lst [V.bl false]) hp2
    have n12 : p1 ≠ p2 := fun z => by rw [← z, upd_same] at hp2; cases hp2
    refine ⟨_, rfl, 1, rfl, t, _, _, _, rfl, rfl, s2.any hS, hgI, p2, _, _, rfl, rfl, upd_same, by omega, by omega, ?_, fun p3 hp3 => ?_⟩
    · show 1 * g.toNat ≤ sizeLine
      rw [sizeLine_eq]
      omega
    have s3 := s2.put (o := .lst (List.replicate g.toNat [V.bl false]).flatten) hp3
    have n13 : p1 ≠ p3 := fun z => by
      rw [← z, upd_ne n12, upd_same] at hp3
      cases hp3
    refine ⟨p1, p3, [V.bl true], _, rfl, rfl, by rw [upd_ne n13, upd_ne n12, upd_same], upd_same, ?_, fun lm hlm => ?_⟩
    · have e : ((List.replicate g.toNat [V.bl false]).flatten).length = g.toNat := by simp
      rw [e, sizeLine_eq]
      show 1 + g.toNat ≤ _
      omega
    rw [tab_nil]
    have s4 := s3.put (o := .lst (tab [] g.toNat)) hlm
    have hlmH : H lm = none := s3.free hlm
    refine ⟨by decide, fun lf hlf => ?_⟩
    have s5 := s4.put (o := .lst []) hlf
    have nlm : lm ≠ lf := fun z => by rw [← z, upd_same] at hlf; cases hlf
    have hlfH : H lf = none := s4.free hlf
    refine ⟨_, rfl, t, rfl, ?_⟩
    generalize hH0 : upd (upd (upd (upd (upd H p1 (.lst [V.bl true])) p2 (.lst [V.bl false])) p3 (.lst (List.replicate g.toNat [V.bl false]).flatten)) lm (.lst (tab [] g.toNat))) lf (.lst []) = H0 at s5
    have hm0 : H0 lm = some (.lst (tab [] g.toNat)) := by rw [← hH0, upd_ne nlm, upd_same]
    have hf0 : H0 lf = some (.lst []) := by rw [← hH0, upd_same]
    refine for_seq (xs := ivs cs) (fun i σ H' => ∃ (x : Option V) (ks : List Int), σ = [some (.ref t), some (.ref lm), some (.ref lf), x] ∧ (∀ b, b ≠ lm → b ≠ lf → ∀ o, H0 b = some o → H' b = some o) ∧ H' lm = some (.lst (tab ks g.toNat)) ∧ H' lf = some (.lst (ivs ks)) ∧ Pos ks ∧ ks.length ≤ i ∧
      kept [] cs = kept ks (cs.drop i) ∧ t ≠ lm ∧ t ≠ lf) (s5.any hS) ⟨none, [], rfl, fun _ _ _ _ e => e, hm0, hf0, fun c hc => (by cases hc), Nat.le_refl _, rfl, ?_, ?_⟩ ?_ ?_ ?_
    · exact ht.elim (fun z => ne_of_none z hlmH) fun z => ne_of_none z hlmH
    · exact ht.elim (fun z => ne_of_none z hlfH) fun z => ne_of_none z hlfH
    · rintro i σ' H' ⟨x, ks, _, k, _, _, _, _, _, n1, n2⟩ o e
      exact k t n1 n2 o e
    · rintro i v σ H' hv ⟨x, ks, rfl, k, h1, h2, hk, hdl, hd, n1, n2⟩
      obtain ⟨c, rfl, hc⟩ := ivs_nth hv
      have hcm := List.mem_of_getElem? hc
      have c1 := hpos c hcm
      have c2 := hle c hcm
      have e1 : cs.drop i = c :: cs.drop (i + 1) := by
        obtain ⟨a1, a2⟩ := List.getElem?_eq_some_iff.mp hc
        rw [← a2]
        exact List.drop_eq_getElem_cons a1
      rw [e1, kept_cons] at hd
      have hi : i < cs.length := (List.getElem?_eq_some_iff.mp hc).1
      refine ⟨_, rfl, _, rfl, lm, _, c, .bl (mk ks c), rfl, rfl, .lst h1, tab_atI ks (by omega) (by omega), _, rfl, ?_⟩
      by_cases h3 : mk ks c = true
      · rw [if_pos h3] at hd
        refine ifN h3 ?_
        exact ⟨some (.int c), ks, rfl, k, h1, h2, hk, by omega, hd, n1, n2⟩
      · rw [if_neg h3] at hd
        have h3' := Bool.eq_false_iff.mpr h3
        refine ifT (by rw [h3']; rfl) ?_
        refine ⟨_, rfl, .inl ⟨rfl, _, .of h2⟩, _, rfl, lf, ivs ks, .int c, rfl, rfl, h2, ?_, ?_⟩
        · rw [List.length_map, sizeLine_eq]
          omega
        have hn : (upd H' lf (.lst (ivs ks ++ [V.int c]))) lm = some (.lst (tab ks g.toNat)) := by rw [upd_ne nlm]; exact h1
        refine ⟨_, rfl, _, rfl, lm, ks, g.toNat, c, rfl, hn, hk, by omega, by omega, by omega, some (.int c), ks ++ [c], rfl, fun b b1 b2 o e => ?_, upd_same, ?_, ?_, ?_, hd, n1, n2⟩
        · rw [upd_ne b1, upd_ne b2]
          exact k b b1 b2 o e
        · rw [upd_ne (Ne.symm nlm), upd_same]
          unfold ivs
          rw [List.map_append]
          rfl
        · intro x hx
          rcases List.mem_append.mp hx with z | z
          · exact hk x z
          · rw [List.mem_singleton.mp z]
            omega
        · rw [List.length_append]
          simp
          omega
    · rintro σ H' ⟨x, ks, rfl, k, h1, h2, hk, hdl, hd, n1, n2⟩
      have e1 : cs.drop (ivs cs).length = [] := by
        rw [show (ivs cs).length = cs.length from List.length_map .., List.drop_length]
      rw [e1] at hd
      have e2 : kept [] cs = ks := by
        rw [hd]
        rfl
      refine ⟨_, rfl, q lf H' (fun b o e => ?_) hlfH (by rw [h2, e2])⟩
      exact k b (ne_of_none e hlmH) (ne_of_none e hlfH) o (s5 b o e)
end
end CY

set_option Elab.async false
set_option linter.all false
set_option maxRecDepth 100000
set_option maxHeartbeats 4000000
namespace CY
open PySem PySem.Spec PyProof.Rows L2
theorem rngV_nth {lo : Int} {n i : Nat} {v : V} (h : (rngV lo n)[i]? = some v) : i < n ∧ v = .int (lo + i) := by
  have hi : i < n := by
    have := (List.getElem?_eq_some_iff.mp h).1
    rw [rngV_len] at this
    exact this
  refine ⟨hi, ?_⟩
  unfold rngV at h
  simp [hi] at h
  exact h.symm
section
variable {P : Program} {w : World} {K : PySem.W.Frag} {mg : Str → Option Value} {base : Heap}
def sp_law (K : PySem.W.Frag) : Sp := fun vs H Q _ => ∃ (a : Addr) (ns : List Int), vs = [.ref a] ∧ SqL K H a (ivs ns) ∧ ns.length ≤ 63 ∧ ∀ H', Q (.bl true) H'
theorem ivs_filter (cs : List Int) (p : V → Bool) : ((ivs cs).filter p).map id = ivs (cs.filter fun c => p (.int c)) := by
  rw [List.map_id]
  unfold ivs
  rw [List.filter_map]
  rfl
end
end CY

set_option Elab.async false
set_option linter.all false
set_option maxRecDepth 100000
set_option maxHeartbeats 4000000
namespace CY
open PySem PySem.Spec PyProof.Rows L2
theorem cutD (xs : List V) (k : Nat) : cutV xs (some (k : Int)) none = xs.drop k := by
  unfold cutV
  rw [HT.sIx_nat, HT.sIx_none]
  by_cases h : k ≤ xs.length
  · rw [Nat.min_eq_left h, List.take_of_length_le (by rw [List.length_drop]; omega)]
  · rw [Nat.min_eq_right (by omega), List.drop_length, List.drop_of_length_le (by omega)]
    simp
section
variable {P : Program} {w : World} {K : PySem.W.Frag} {mg : Str → Option Value} {base : Heap}
theorem ok_add_once {f : Addr} {fd : FuncData} (F : Fun K "add_once" "add_once" s_add_once f fd) (T : Tx mg) : FnOk P w K mg base CX0 1 f fd ["least", "rest", "coin"] sp_addonce := by
  refine F.ok sc_add_once (fun vs H Q E h => ?_) (fun cdv A outer s H vs Q E hr h => ?_)
  · obtain ⟨l, L, m, c, r, rfl, _⟩ := h
    rfl
  · obtain ⟨l, L, m, c, r, rfl, hl, hm, h0, hrm, q⟩ := h
    refine ⟨_, (pss_cons (ps_set (i := 3) sc_add_once.nd rfl (Or.inl (by kernel_rfl)) (pe_op op_mod (pe_op op_add (pv 1) (pv 2)) (pe_callB (lenK (K := K) rfl) (gl_of (by kernel_rfl)) T.b_len boot_len (pa_cons (pv 0) pa_nil))))
      (pss_cons (ps_if (pt_cmp (pc_notN (pe_ix (ix_anyK (K := K) rfl) (pv 0) (pv 1) (fun _ _ => rfl)))) (pss_cons (ps_set (i := 4) sc_add_once.nd rfl (Or.inl (by kernel_rfl)) (pe_op op_add (pe_ix (ix_anyK (K := K) rfl) (pv 0) (pv 1) (fun _ _ => rfl)) (pv 2)))
      (pss_one (ps_if (PW.pt (pw_or (pt_cmp (pc_isN (pe_ix (ix_anyK (K := K) rfl) (pv 0) (pv 3) (fun _ _ => rfl)))) (pw_or1 (pt_cmpR op_lt (pv 4) (pe_ix (ix_anyK (K := K) rfl) (pv 0) (pv 3) (fun _ _ => rfl)) (nomark _))))) (pss_one (ps_asg (pv 4) (pg_sub (pv 0) (pv 3) set_list))) pss_nil))) pss_nil)
      (pss_one (ps_ret (pv 3))))), ?_⟩
    have ho : (r + c) % m < L.length := by rw [hm]; exact Nat.mod_lt _ h0
    have hrl : r < L.length := by omega
    have eo : ((r : Int) + (c : Int)) % ((ovs L).length : Int) = (((r + c) % m : Nat) : Int) := by
      rw [ovs_len, hm]
      push_cast
      rfl
    refine ⟨_, rfl, _, rfl, _, _, rfl, rfl, _, rfl, l, _, rfl, .inl (.of hl), _, _, rfl, rfl, by rw [ovs_len]; omega, ?_⟩
    dsimp only
    rw [eo]
    refine ⟨_, rfl, _, rfl, l, _, _, _, rfl, rfl, .lst hl, ov_at hrl, _, rfl, ?_⟩
    unfold relax at q
    cases e1 : gv L r with
    | none =>
      rw [e1] at q
      dsimp only at q
      rw [upd_id hl] at q
      refine iteF ?_
      exact ⟨_, rfl, q⟩
    | some x =>
      rw [e1] at q
      dsimp only at q
      refine iteT ?_
      refine ⟨_, rfl, _, rfl, l, _, _, _, rfl, rfl, .lst hl, (ov_at hrl).trans (by rw [e1]; rfl), _, rfl, _, _, rfl, rfl, ?_⟩
      refine ⟨_, rfl, _, rfl, l, _, _, _, rfl, rfl, .lst hl, ov_at ho, _, rfl, ?_⟩
      have st : ∀ y : Nat, (ovs L).set ((r + c) % m) (.int (y : Int)) = ovs (L.set ((r + c) % m) (some y)) := fun y => by
        unfold ovs
        rw [List.map_set]
        rfl
      have ec : (x : Int) + (c : Int) = ((x + c : Nat) : Int) := by push_cast; rfl
      cases e2 : gv L ((r + c) % m) with
      | none =>
        rw [e2] at q
        dsimp only at q
        refine iteT ?_
        refine ⟨_, rfl, _, rfl, _, rfl, l, _, _, _, rfl, rfl, hl, ixN_nat (by rw [ovs_len]; exact ho), ?_⟩
        rw [← st, ← ec] at q
        exact ⟨_, rfl, q⟩
      | some y =>
        rw [e2] at q
        dsimp only at q
        refine iteF ?_
        refine ⟨_, rfl, _, rfl, _, rfl, l, _, _, _, rfl, rfl, .lst hl, (ov_at ho).trans (by rw [e2]; rfl), _, _, rfl, rfl, _, rfl, ?_⟩
        refine ite2 (fun h1 => ?_) (fun h1 => ?_)
        · have h2 : x + c < y := by
            have := of_decide_eq_true h1
            omega
          rw [if_pos h2] at q
          refine ⟨_, rfl, _, rfl, _, rfl, l, _, _, _, rfl, rfl, hl, ixN_nat (by rw [ovs_len]; exact ho), ?_⟩
          rw [← st, ← ec] at q
          exact ⟨_, rfl, q⟩
        · have h2 : ¬ x + c < y := fun z => h1 (decide_eq_true (by omega))
          rw [if_neg h2, upd_id hl] at q
          exact ⟨_, rfl, q⟩
theorem ok_add_coin_to_least {f : Addr} {fd : FuncData} (F : Fun K "add_coin_to_least" "add_coin_to_least" s_add_coin_to_least f fd) (T : Tx mg) (C_common_divisor : Fn P w K mg base "common_divisor" ["one", "other"] 1 sp_gcd) (C_add_once : Fn P w K mg base "add_once" ["least", "rest", "coin"] 1 sp_addonce) :
    FnOk P w K mg base CX0 2 f fd ["least", "coin"] sp_addleast := by
  refine F.ok sc_add_coin_to_least (fun vs H Q E h => ?_) (fun cdv A outr s H vs Q E hr h => ?_)
  · obtain ⟨l, L, m, c, rfl, _⟩ := h
    rfl
  · obtain ⟨l, L, m, c, rfl, hl, hm, h0, hm4, hc0, hc4, q⟩ := h
    refine ⟨_, (pss_cons (ps_set (i := 2) sc_add_coin_to_least.nd rfl (Or.inl (by kernel_rfl)) (pe_fn C_common_divisor (hr.mono (by decide)) (pa_cons (pe_callB (lenK (K := K) rfl) (gl_of (by kernel_rfl)) T.b_len boot_len (pa_cons (pv 0) pa_nil)) (pa_cons (pv 1) pa_nil))))
      (pss_cons (ps_set (i := 3) sc_add_coin_to_least.nd rfl (Or.inl (by kernel_rfl)) (pe_op op_mul pe_int (pe_op op_fdiv (pe_callB (lenK (K := K) rfl) (gl_of (by kernel_rfl)) T.b_len boot_len (pa_cons (pv 0) pa_nil)) (pv 2))))
      (pss_one (ps_for PassesOwn.never rfl (pi_range1 (gl_of (by kernel_rfl)) T.b_range (pa_cons (pv 2) pa_nil)) (pg_name (i := 4) sc_add_coin_to_least.nd rfl (Or.inl (by kernel_rfl))) (pss_cons (ps_set (i := 5) sc_add_coin_to_least.nd rfl (Or.inl (by kernel_rfl)) (pv 4))
      (pss_one (ps_for PassesOwn.never rfl (pi_range1 (gl_of (by kernel_rfl)) T.b_range (pa_cons (pv 3) pa_nil)) (pg_name (i := 6) sc_add_coin_to_least.nd rfl (Or.inl (by kernel_rfl))) (pss_one (ps_set (i := 5) sc_add_coin_to_least.nd rfl (Or.inl (by kernel_rfl)) (pe_fn C_add_once (hr.mono (by decide)) (pa_cons (pv 0) (pa_cons (pv 5) (pa_cons (pv 1) pa_nil))))))))))))), ?_⟩
    have hg : 0 < Nat.gcd m c := Nat.gcd_pos_of_pos_left _ h0
    have hgm : Nat.gcd m c ≤ m := Nat.le_of_dvd h0 (Nat.gcd_dvd_left m c)
    have el : (ovs L).length = m := by rw [ovs_len, hm]
    refine ⟨_, rfl, l, _, rfl, .inl (.of hl), _, rfl, _, _, rfl, by rw [el]; omega, by omega, ?_⟩
    dsimp only
    rw [el, Int.toNat_natCast, Int.toNat_natCast]
    refine ⟨_, rfl, l, _, rfl, .inl (.of hl), _, rfl, _, _, rfl, rfl, ⟨by omega, by omega⟩, _, _, rfl, rfl, ?_, ?_⟩
    · exact .inl ⟨by decide, by decide⟩
    have e2 : 2 * ((m : Int) / ((Nat.gcd m c : Nat) : Int)) = ((2 * (m / Nat.gcd m c) : Nat) : Int) := by
      rw [← Int.natCast_ediv, Int.natCast_mul]
      rfl
    have hq : m / Nat.gcd m c ≤ m := Nat.div_le_self _ _
    dsimp only
    rw [el, e2]
    generalize hN : 2 * (m / Nat.gcd m c) = N at q ⊢
    have hNb : N ≤ 16000 := by omega
    generalize hG : Nat.gcd m c = G at q hg hgm ⊢
    refine ⟨_, rfl, (G : Int), rfl, by omega, by omega, ?_⟩
    rw [show ((G : Int)).toNat = G by omega]
    refine for_range (lo := 0) (n := G) (fun i σ H' => ∃ x y z, σ = [some (.ref l), some (.int (c : Int)), some (.int (G : Int)), some (.int (N : Int)), x, y, z] ∧ H' = upd H l (.lst (ovs (outer m c N L i)))) ⟨none, none, none, rfl, (upd_id hl).symm⟩ ?_ ?_
    · rintro i σ H1 hi ⟨x, y, z, rfl, rfl⟩
      refine ⟨_, rfl, _, rfl, (N : Int), rfl, by omega, by omega, ?_⟩
      rw [show ((N : Int)).toNat = N by omega, show (0 : Int) + (i : Int) = (i : Int) by omega]
      have lo : (outer m c N L i).length = m := by rw [outer_len, hm]
      refine for_range (lo := 0) (n := N) (fun k σ H' => ∃ x z, σ = [some (.ref l), some (.int (c : Int)), some (.int (G : Int)), some (.int (N : Int)), x, some (.int ((pos m c i k : Nat) : Int)), z] ∧ H' = upd H l (.lst (ovs (runs m c i (outer m c N L i) k)))) ⟨some (.int (i : Int)), z, ?_, rfl⟩ ?_ ?_
      · have e0 : pos m c i 0 = i := by
          unfold pos
          rw [Nat.zero_mul, Nat.add_zero, Nat.mod_eq_of_lt (by omega)]
        rw [e0]
        rfl
      · rintro k σ H1 hk ⟨x, z, rfl, rfl⟩
        have lr : (runs m c i (outer m c N L i) k).length = m := by rw [runs_len, lo]
        refine ⟨_, rfl, _, rfl, _, rfl, l, runs m c i (outer m c N L i) k, m, c, pos m c i k, rfl, upd_same, lr, h0, Nat.mod_lt _ h0, x, some (.int ((0 : Int) + (k : Int))), ?_, ?_⟩
        · rw [pos_succ]
          rfl
        · rw [upd_upd]
          rfl
      · rintro σ H1 ⟨x, z, rfl, rfl⟩
        exact ⟨_, _, _, rfl, rfl⟩
    · rintro σ H1 ⟨x, y, z, rfl, rfl⟩
      exact q
theorem ok_least_sums_by {f : Addr} {fd : FuncData} (F : Fun K "least_sums_by" "least_sums_by" s_least_sums_by f fd) (C_add_coin_to_least : Fn P w K mg base "add_coin_to_least" ["least", "coin"] 2 sp_addleast) :
    FnOk P w K mg base CX0 3 f fd ["number", "coins"] sp_lsby := by
  refine F.ok sc_least_sums_by (fun vs H Q E h => ?_) (fun cdv A outr s H vs Q E hr h => ?_)
  · obtain ⟨t, m, cs, rfl, _⟩ := h
    rfl
  · obtain ⟨t, c0, r0, rfl, ht, c1, c4, hcs, q⟩ := h
    refine ⟨_, (pss_cons (ps_set (i := 2) sc_least_sums_by.nd rfl (Or.inl (by kernel_rfl)) (pe_op op_rep (pe_lst (pa_cons pe_non pa_nil)) (pv 0)))
      (pss_cons (ps_asg pe_int (pg_sub (pv 2) pe_int set_list))
      (pss_cons (ps_for PassesOwn.never rfl (pi_seqK (K := K) rfl (pv 1)) (pg_name (i := 3) sc_least_sums_by.nd rfl (Or.inl (by kernel_rfl))) (pss_one (ps_expr (pe_fn C_add_coin_to_least (hr.mono (by decide)) (pa_cons (pv 2) (pa_cons (pv 3) pa_nil))))))
      (pss_one (ps_ret (pv 2)))))), ?_⟩
    refine ⟨by show 1 ≤ sizeLine; decide, fun l1 hl1 => ?_⟩
    have s1 := (Same.refl H).put (o := .lst [.non]) hl1
    refine ⟨_, rfl, l1, c0, [.non], rfl, rfl, upd_same, by omega, by omega, ?_, fun l2 hl2 => ?_⟩
    · show 1 * c0.toNat ≤ sizeLine
      rw [sizeLine_eq]
      omega
    have el : (List.replicate c0.toNat [V.non]).flatten = ovs (List.replicate c0.toNat none) := by
      unfold ovs
      rw [List.map_replicate]
      induction c0.toNat with
      | zero => rfl
      | succ n ih => rw [List.replicate_succ, List.flatten_cons, ih, List.replicate_succ]; rfl
    rw [el]
    have s2 := s1.put (o := .lst (ovs (List.replicate c0.toNat none))) hl2
    refine ⟨_, rfl, l2, ovs (List.replicate c0.toNat none), 0, 0, rfl, rfl, upd_same, ixN_nat (o := 0) (by rw [ovs_len, List.length_replicate]; omega), ?_⟩
    have e3 : (ovs (List.replicate c0.toNat none)).set 0 (.int 0) = ovs ((List.replicate c0.toNat none).set 0 (some 0)) := by
      unfold ovs
      rw [List.map_set]
      rfl
    rw [e3, upd_upd]
    have hl2' := s1.free hl2
    have s3 := s1.put (o := .lst (ovs ((List.replicate c0.toNat none).set 0 (some 0)))) hl2
    have npl : t ≠ l2 := ne_of_none ht hl2'
    refine ⟨_, rfl, t, rfl, ?_⟩
    refine for_seq (xs := ivs r0) (fun i σ H' => ∃ x L, σ = [some (.int c0), some (.ref t), some (.ref l2), x] ∧ H' l2 = some (.lst (ovs L)) ∧ LT (c0 :: r0.take i) c0.toNat L ∧ ∀ b, b ≠ l2 → H' b = (upd (upd H l1 (.lst [.non])) l2 (.lst (ovs ((List.replicate c0.toNat none).set 0 (some 0))))) b) (.tpl (s3 _ _ ht)) ⟨none, _, rfl, upd_same, LT.first c1, fun _ _ => rfl⟩ (fun i σ' H' ⟨_, _, _, _, _, z⟩ => fun o' e => by rw [z _ npl]; exact e) ?_ ?_
    · rintro i v σ H1 hv ⟨x, L, rfl, h1, hT, hb⟩
      obtain ⟨c, rfl, hc⟩ := ivs_nth hv
      obtain ⟨k1, k4⟩ := hcs c (List.mem_of_getElem? hc)
      have ec : c = ((c.toNat : Nat) : Int) := by omega
      refine ⟨_, rfl, _, rfl, l2, L, c0.toNat, c.toNat, by rw [← ec]; rfl, h1, hT.len, by omega, by omega, by omega, by omega, ?_⟩
      refine ⟨some (.int c), _, rfl, upd_same, ?_, fun b nb => by rw [upd_ne nb]; exact hb b nb⟩
      have := hT.add (c := c.toNat) (fun d hd => ?_) (by omega) (by omega)
      · have e4 : c0 :: r0.take (i + 1) = (c0 :: r0.take i) ++ [((c.toNat : Nat) : Int)] := by
          rw [List.take_add_one, hc, ← ec]
          rfl
        rw [e4]
        exact this
      · rcases List.mem_cons.mp hd with z | z
        · omega
        · have := (hcs d (List.mem_of_mem_take z)).1
          omega
    · rintro σ H1 ⟨x, L, rfl, h1, hT, hb⟩
      refine ⟨_, rfl, q l2 L H1 (fun b o e => ?_) (s1.free hl2) h1 ?_⟩
      · rw [hb b (ne_of_none e hl2'), s3 _ _ e]
      · have e5 : r0.take (ivs r0).length = r0 := by rw [show (ivs r0).length = r0.length from List.length_map .., List.take_length]
        rw [e5] at hT
        exact hT
theorem ok_least_sums {f : Addr} {fd : FuncData} (F : Fun K "least_sums" "least_sums" s_least_sums f fd) (C_checked : Fn P w K mg base "checked" ["purse"] 2 (sp_checked K)) (C_least_sums_by : Fn P w K mg base "least_sums_by" ["number", "coins"] 3 sp_lsby) :
    FnOk P w K mg base CX0 4 f fd ["purse"] sp_lsums := by
  refine F.ok sc_least_sums (fun vs H Q E h => ?_) (fun cdv A outr s H vs Q E hr h => ?_)
  · obtain ⟨t, cs, rfl, _⟩ := h
    rfl
  · obtain ⟨t, cs, rfl, ht, hP, q⟩ := h
    refine ⟨_, (pss_cons (ps_expr (pe_fn C_checked (hr.mono (by decide)) (pa_cons (pv 0) pa_nil)))
      (pss_one (ps_ret (pe_fn C_least_sums_by (hr.mono (by decide)) (pa_cons (pe_ix (ix_anyK (K := K) rfl) (pv 0) pe_int (fun _ _ => rfl)) (pa_cons (pe_slice (sl_tupK (K := K) rfl) (pv 0) (po_some pe_int) po_none) pa_nil)))))), ?_⟩
    obtain ⟨c0, r0, ecs⟩ : ∃ c r, cs = c :: r := by
      cases h : cs with
      | nil => exact absurd h hP.ne
      | cons c r => exact ⟨c, r, rfl⟩
    have c1 := hP.lo c0 (by rw [ecs]; exact List.mem_cons_self)
    have c4 := hP.hi c0 (by rw [ecs]; exact List.mem_cons_self)
    have a0 : atI (ivs cs) 0 = some (.int c0) := by rw [ecs]; exact atI_nat (j := 0) rfl
    refine ⟨_, rfl, t, cs, rfl, ht, hP, _, rfl, t, ivs cs, 0, .int c0, rfl, rfl, .tpl ht, a0, _, rfl, _, rfl, t, ivs cs, rfl, .of ht, ?_, fun p hp => ?_⟩
    · rw [ecs, show (1 : Int) = ((1 : Nat) : Int) from rfl, HT.sIx_nat]
      rintro ⟨z, _⟩
      have : 1 ≤ (ivs (c0 :: r0)).length := by simp
      omega
    have ed : cutV (ivs cs) (some 1) none = ivs r0 := by
      rw [show (1 : Int) = ((1 : Nat) : Int) from rfl, cutD, ecs]
      rfl
    rw [ed]
    refine ⟨p, c0, r0, rfl, upd_same, c1, by omega, fun c hc => ?_, fun l L H' s' hl h' hT => ?_⟩
    · have hc : c ∈ cs := by rw [ecs]; exact List.mem_cons_of_mem _ hc
      exact ⟨hP.lo c hc, hP.hi c hc⟩
    · have s0 : Same H (upd H p (.tup (ivs r0))) := (Same.refl H).put hp
      have em : m0 cs = c0.toNat := by rw [ecs]; rfl
      refine q l L H' (s0.trans s') (s0.free hl) h' ?_
      rw [em, ecs]
      exact hT
end
end CY

set_option Elab.async false
set_option linter.all false
set_option maxRecDepth 100000
set_option maxHeartbeats 4000000
namespace CY
open PySem PySem.Spec PyProof.Rows L2
theorem Purse.bounds {m : Int} {cs : List Int} (h : Purse m cs) : 1 ≤ CY.m0 cs ∧ ((CY.m0 cs : Nat) : Int) ≤ m ∧ 1 ≤ CY.mx cs ∧ ((CY.mx cs : Nat) : Int) ≤ m := by
  have h1 := h.lo _ h.m0.1
  have h2 := h.hi _ h.m0.1
  have e := h.mx.1
  have h3 := h.lo _ (List.getLast_mem h.ne)
  have h4 := h.hi _ (List.getLast_mem h.ne)
  rw [← e] at h3 h4
  omega
theorem Purse.far {m : Nat} {cs : List Int} (h : Purse (m : Int) cs) : 1 ≤ CY.far cs ∧ CY.far cs ≤ m * m := by
  obtain ⟨a, b, c, d⟩ := h.bounds
  refine ⟨Nat.mul_pos a c, Nat.mul_le_mul (by omega) (by omega)⟩
section
variable {P : Program} {w : World} {K : PySem.W.Frag} {mg : Str → Option Value} {base : Heap}
end
end CY

set_option Elab.async false
set_option linter.all false
set_option maxRecDepth 100000
set_option maxHeartbeats 4000000
namespace CY
open PySem PySem.Spec PyProof.Rows L2
def sp_reached : Sp := fun vs H Q _ => ∃ (l : Addr) (L : Tb) (cs : List Int) (n : Int), vs = [.ref l, .int n] ∧ H l = some (.lst (ovs L)) ∧ Purse 400 cs ∧ LT cs (m0 cs) L ∧ 0 ≤ n ∧ Q (.bl (mk cs n)) H
section
variable {P : Program} {w : World} {K : PySem.W.Frag} {mg : Str → Option Value} {base : Heap}
theorem ok_is_sum {f : Addr} {fd : FuncData} (F : Fun K "is_sum" "is_sum" s_is_sum f fd) (C_is_whole : Fn P w K mg base "is_whole" ["thing"] 1 sp_whole) : FnOk P w K mg base CX0 2 f fd ["thing"] sp_issum := by
  refine F.ok sc_is_sum (fun vs H Q E h => ?_) (fun cdv A outr s H vs Q E hr h => ?_)
  · obtain ⟨i, rfl, _⟩ := h
    rfl
  · obtain ⟨i, rfl, q⟩ := h
    refine ⟨_, (pss_one (ps_ret (pe_and (pe_fn C_is_whole (hr.mono (by decide)) (pa_cons (pv 0) pa_nil)) (pe_one (pe_cmpR op_ge (pv 0) pe_int (nomark _)))))), ?_⟩
    refine ⟨_, rfl, i, rfl, true, rfl, ?_⟩
    refine iteT ?_
    exact ⟨_, rfl, _, _, rfl, rfl, q⟩
theorem ok_is_reached {f : Addr} {fd : FuncData} (F : Fun K "is_reached" "is_reached" s_is_reached f fd) (T : Tx mg) : FnOk P w K mg base CX0 1 f fd ["least", "number"] sp_reached := by
  refine F.ok sc_is_reached (fun vs H Q E h => ?_) (fun cdv A outr s H vs Q E hr h => ?_)
  · obtain ⟨l, L, cs, n, rfl, _⟩ := h
    rfl
  · obtain ⟨l, L, cs, n, rfl, h1, hP, hT, hn, q⟩ := h
    refine ⟨_, (pss_cons (ps_set (i := 2) sc_is_reached.nd rfl (Or.inl (by kernel_rfl)) (pe_ix (ix_anyK (K := K) rfl) (pv 0) (pe_op op_mod (pv 1) (pe_callB (lenK (K := K) rfl) (gl_of (by kernel_rfl)) T.b_len boot_len (pa_cons (pv 0) pa_nil))) (fun _ _ => rfl)))
      (pss_one (ps_ret (pe_and (pe_cmp (pc_notN (pv 2))) (pe_one (pe_cmpR op_ge (pv 1) (pv 2) (nomark _))))))), ?_⟩
    obtain ⟨b1, b2, b3, b4⟩ := hP.bounds
    have el : (ovs L).length = m0 cs := by rw [ovs_len, hT.len]
    have er : n % ((m0 cs : Nat) : Int) = ((n.toNat % m0 cs : Nat) : Int) := by
      push_cast
      rw [Int.toNat_of_nonneg hn]
    have hlt : n.toNat % m0 cs < L.length := by rw [hT.len]; exact Nat.mod_lt _ b1
    refine ⟨_, rfl, _, rfl, _, rfl, l, _, rfl, .inl (.of h1), _, _, rfl, rfl, by rw [el]; omega, ?_⟩
    dsimp only
    rw [el, er]
    refine ⟨l, _, _, _, rfl, rfl, .lst h1, ov_at hlt, ?_⟩
    have em := lt_made hT hP.m0.1 b1 n.toNat
    rw [show ((n.toNat : Nat) : Int) = n by omega] at em
    refine ⟨_, rfl, _, rfl, ?_⟩
    cases e : gv L (n.toNat % m0 cs) with
    | none =>
      rw [e] at em
      refine iteF ?_
      rw [em] at q
      exact q
    | some x =>
      rw [e] at em
      refine iteT ?_
      refine ⟨_, rfl, _, rfl, _, _, rfl, rfl, ?_⟩
      rw [em] at q
      have e2 : decide (n ≥ (x : Int)) = decide (x ≤ n.toNat) := by
        rw [decide_eq_decide]
        omega
      dsimp only
      rw [e2]
      exact q
theorem ok_makes {f : Addr} {fd : FuncData} (F : Fun K "makes" "makes" s_makes f fd) (T : Tx mg) (C_least_sums : Fn P w K mg base "least_sums" ["purse"] 4 sp_lsums) (C_is_sum : Fn P w K mg base "is_sum" ["thing"] 2 sp_issum) (C_is_reached : Fn P w K mg base "is_reached" ["least", "number"] 1 sp_reached) : FnOk P w K mg base CX0 5 f fd ["purse", "number"] sp_makes := by
  refine F.ok sc_makes (fun vs H Q E h => ?_) (fun cdv A outr s H vs Q E hr h => ?_)
  · obtain ⟨t, cs, n, rfl, _⟩ := h
    rfl
  · obtain ⟨t, cs, n, rfl, ht, hP, hn, q⟩ := h
    refine ⟨_, (pss_cons (ps_set (i := 2) sc_makes.nd rfl (Or.inl (by kernel_rfl)) (pe_fn C_least_sums (hr.mono (by decide)) (pa_cons (pv 0) pa_nil)))
      (pss_cons (ps_if (pt_not (pt_val (pe_fn C_is_sum (hr.mono (by decide)) (pa_cons (pv 1) pa_nil)))) pss_never pss_nil)
      (pss_one (ps_ret (pe_fn C_is_reached (hr.mono (by decide)) (pa_cons (pv 2) (pa_cons (pv 1) pa_nil))))))), ?_⟩
    refine ⟨_, rfl, t, cs, rfl, ht, hP, fun l L H1 s1 hl h1 hT => ?_⟩
    refine ⟨_, rfl, n, rfl, _, rfl, ?_⟩
    refine ifN (decide_eq_true hn) ?_
    exact ⟨_, rfl, _, rfl, l, L, cs, n, rfl, h1, hP, hT, hn, q H1 s1⟩
end
end CY

set_option Elab.async false
set_option linter.all false
set_option maxRecDepth 100000
set_option maxHeartbeats 4000000
namespace CY
open PySem PySem.Spec PyProof.Rows L2
def onV (p : Int → Bool) : V → Bool
  | .int n => p n
  | _ => false
theorem ivs_on (cs : List Int) (p : Int → Bool) : ((ivs cs).filter (onV p)).map id = ivs (cs.filter p) := by
  rw [ivs_filter]
  rfl
section
variable {P : Program} {w : World} {K : PySem.W.Frag} {mg : Str → Option Value} {base : Heap}
end
end CY

set_option Elab.async false
set_option linter.all false
set_option maxRecDepth 100000
set_option maxHeartbeats 4000000
namespace CY
open PySem PySem.Spec PyProof.Rows L2
theorem ne_dec {a b : Int} : (!decide (V.int a = V.int b)) = !decide (a = b) := by
  congr 1
  rw [decide_eq_decide]
  exact ⟨fun h => by injection h, fun h => by rw [h]⟩
theorem eq_dec {a b : Int} : decide (V.int a = V.int b) = decide (a = b) := by
  rw [decide_eq_decide]
  exact ⟨fun h => by injection h, fun h => by rw [h]⟩
section
variable {P : Program} {w : World} {K : PySem.W.Frag} {mg : Str → Option Value} {base : Heap} {c_Endless c_CoinError : Addr}
theorem ok_check_gaps_end {f : Addr} {fd : FuncData} (F : Fun K "check_gaps_end" "check_gaps_end" s_check_gaps_end f fd) (X_Endless : Err K mg "Endless" c_Endless c_CoinError) (C_divisor_of : Fn P w K mg base "divisor_of" ["purse"] 3 (sp_divisor K)) :
    FnOk P w K mg base (CX1 P w) 4 f fd ["purse"] (sp_endcheck c_Endless) := by
  refine F.okX sc_check_gaps_end (fun vs H Q E h => ?_) (fun cdv A outer s H vs Q E hr h => ?_)
  · obtain ⟨t, cs, rfl, _⟩ := h
    rfl
  · obtain ⟨t, cs, rfl, ht, hP, q1, q2⟩ := h
    refine ⟨_, (pss_one (ps_if (pt_cmpR op_ne (pe_fn C_divisor_of (hr.mono (by decide)) (pa_cons (pv 0) pa_nil)) pe_int (nomark _)) (pss_one (ps_raise (throw1 fun _ _ _ z => z) rfl X_Endless.toExc (pa_cons pe_str pa_nil))) pss_nil)), ?_⟩
    refine ⟨_, rfl, t, cs, rfl, ht, hP, rfl, _, rfl, ?_⟩
    rw [ne_dec]
    by_cases hg : gcdL cs = 1
    · refine ifF (by rw [decide_eq_true (by omega)]; rfl) ?_
      exact q1 hg
    · refine ifT (by rw [decide_eq_false (by omega)]; rfl) ?_
      exact ⟨by show 1 ≤ sizeLine; decide, q2 hg _ (Same.refl _)⟩
end
end CY

set_option Elab.async false
set_option linter.all false
set_option maxRecDepth 100000
set_option maxHeartbeats 4000000
namespace CY
open PySem PySem.Spec PyProof.Rows L2
theorem few_list (N : Nat) : [V.int 0] ++ (List.replicate ((N : Int)).toNat [V.non]).flatten = fewT [] N := by
  rw [few_zero, Int.toNat_natCast]
  simp
theorem cw_list (N : Nat) : [V.int 1] ++ (List.replicate ((N : Int)).toNat [V.int 0]).flatten = ivs (cwT [] N) := by
  rw [cw_zero, Int.toNat_natCast]
  unfold ivs
  simp
theorem take_snoc {cs : List Int} {i : Nat} {c : Int} (h : cs[i]? = some c) : cs.take (i + 1) = cs.take i ++ [c] := by
  rw [List.take_succ, h]
  rfl
theorem pos_take {cs : List Int} (h : Pos cs) (i : Nat) : Pos (cs.take i) := fun x hx => h x (List.mem_of_mem_take hx)
theorem pos_snoc {cs : List Int} (h : Pos cs) {i : Nat} {c : Int} (hc : cs[i]? = some c) : Pos (cs.take i ++ [c]) := by
  rw [← take_snoc hc]
  exact pos_take h _
section
variable {P : Program} {w : World} {K : PySem.W.Frag} {mg : Str → Option Value} {base : Heap} {c_BadSum c_CoinError : Addr}
theorem ok_check_payment {f : Addr} {fd : FuncData} {t3 : Tok} (F : Fun K "check_payment" "check_payment" s_check_payment f fd) (h_GREATEST_PAID : mg "GREATEST_PAID" = some (.int 400 t3)) (X_BadSum : Err K mg "BadSum" c_BadSum c_CoinError) (C_checked : Fn P w K mg base "checked" ["purse"] 2 (sp_checked K)) (C_is_sum : Fn P w K mg base "is_sum" ["thing"] 2 sp_issum) :
    FnOk P w K mg base (CX1 P w) 3 f fd ["purse", "number"] (sp_pay c_BadSum) := by
  refine F.okX sc_check_payment (fun vs H Q E h => ?_) (fun cdv A outer s H vs Q E hr h => ?_)
  · obtain ⟨t, cs, n, rfl, _⟩ := h
    rfl
  · obtain ⟨t, cs, n, rfl, ht, hP, q1, q2⟩ := h
    refine ⟨_, (pss_cons (ps_expr (pe_fn C_checked (hr.mono (by decide)) (pa_cons (pv 0) pa_nil)))
      (pss_one (ps_if (PW.pt (pw_or (pt_not (pt_val (pe_fn C_is_sum (hr.mono (by decide)) (pa_cons (pv 1) pa_nil)))) (pw_or1 (pt_cmpR op_gt (pv 1) (pe_num h_GREATEST_PAID) (nomark _))))) (pss_one (ps_raise (throw1 fun _ _ _ z => z) rfl X_BadSum.toExc (pa_cons (pe_fstr (pj_cons pp_str (pj_cons (pp_int (pe_num h_GREATEST_PAID)) (pj_cons pp_str pj_nil)))) pa_nil))) pss_nil))), ?_⟩
    refine ⟨_, rfl, t, cs, rfl, ht, hP, ?_⟩
    refine ⟨_, rfl, n, rfl, _, rfl, ?_⟩
    by_cases h0 : 0 ≤ n
    · refine ifN (decide_eq_true h0) ?_
      refine ⟨_, rfl, _, _, rfl, rfl, _, rfl, ?_⟩
      by_cases h4 : n ≤ 400
      · refine ifF (decide_eq_false (by omega)) ?_
        exact q1 h0 h4
      · refine ifT (decide_eq_true (by omega)) ?_
        exact ⟨by decide +kernel, _, rfl, by decide +kernel, by decide +kernel, by decide +kernel, by decide +kernel, by show 1 ≤ sizeLine; decide, q2 (fun z => h4 z.2) _ (Same.refl _)⟩
    · refine ifT (by rw [decide_eq_false h0]; rfl) ?_
      exact ⟨by decide +kernel, _, rfl, by decide +kernel, by decide +kernel, by decide +kernel, by decide +kernel, by show 1 ≤ sizeLine; decide, q2 (fun z => h0 z.1) _ (Same.refl _)⟩
theorem ok_fewest_up_to {f : Addr} {fd : FuncData} (F : Fun K "fewest_up_to" "fewest_up_to" s_fewest_up_to f fd) (T : Tx mg) : FnOk P w K mg base CX0 1 f fd ["purse", "bound"] sp_fewup := by
  refine F.ok sc_fewest_up_to (fun vs H Q E h => ?_) (fun cdv A outer s H vs Q E hr h => ?_)
  · obtain ⟨t, cs, N, rfl, _⟩ := h
    rfl
  · obtain ⟨t, cs, N, rfl, ht, hP, hN, q⟩ := h
    refine ⟨_, (pss_cons (ps_set (i := 2) sc_fewest_up_to.nd rfl (Or.inl (by kernel_rfl)) (pe_op op_cat (pe_lst (pa_cons pe_int pa_nil)) (pe_op op_rep (pe_lst (pa_cons pe_non pa_nil)) (pv 1))))
      (pss_cons (ps_for PassesOwn.never rfl (pi_seqK (K := K) rfl (pv 0)) (pg_name (i := 3) sc_fewest_up_to.nd rfl (Or.inl (by kernel_rfl))) (pss_one (ps_for PassesOwn.never rfl (pi_range2 (gl_of (by kernel_rfl)) T.b_range (pa_cons (pv 3) (pa_cons (pe_op op_add (pv 1) pe_int) pa_nil))) (pg_name (i := 4) sc_fewest_up_to.nd rfl (Or.inl (by kernel_rfl))) (pss_cons (ps_set (i := 5) sc_fewest_up_to.nd rfl (Or.inl (by kernel_rfl)) (pe_ix (ix_anyK (K := K) rfl) (pv 2) (pe_op op_sub (pv 4) (pv 3)) (fun _ _ => rfl)))
      (pss_one (ps_if (PW.pt (pw_and (pt_cmp (pc_notN (pv 5))) (pw_and1 (PW.pt (pw_or (pt_cmp (pc_isN (pe_ix (ix_anyK (K := K) rfl) (pv 2) (pv 4) (fun _ _ => rfl)))) (pw_or1 (pt_cmpR op_lt (pe_op op_add (pv 5) pe_int) (pe_ix (ix_anyK (K := K) rfl) (pv 2) (pv 4) (fun _ _ => rfl)) (nomark _)))))))) (pss_one (ps_asg (pe_op op_add (pv 5) pe_int) (pg_sub (pv 2) (pv 4) set_list))) pss_nil))))))
      (pss_one (ps_ret (pv 2))))), ?_⟩
    refine ⟨by decide, fun p1 hp1 => ⟨by decide, fun p2 hp2 => ?_⟩⟩
    have s1 : Same H (upd H p1 (.lst [V.int 0])) := (Same.refl H).put hp1
    have s2 := s1.put (o := .lst [V.non]) hp2
    have n12 : p1 ≠ p2 := fun z => by rw [← z, upd_same] at hp2; cases hp2
    refine ⟨_, rfl, p2, _, _, rfl, rfl, upd_same, by omega, by omega, ?_, fun p3 hp3 => ?_⟩
    · show 1 * ((N : Int)).toNat ≤ sizeLine
      exact Nat.le_trans (by omega) (show 1000 ≤ sizeLine by decide)
    have s3 := s2.put (o := .lst (List.replicate ((N : Int)).toNat [V.non]).flatten) hp3
    have n13 : p1 ≠ p3 := fun z => by
      rw [← z, upd_ne n12, upd_same] at hp3
      cases hp3
    refine ⟨p1, p3, [V.int 0], _, rfl, rfl, by rw [upd_ne n13, upd_ne n12, upd_same], upd_same, ?_, fun lm hlm => ?_⟩
    · have e : ((List.replicate ((N : Int)).toNat [V.non]).flatten).length = N := by simp
      rw [e]
      exact Nat.le_trans (show 1 + N ≤ 1001 by omega) (by decide)
    rw [few_list]
    have s4 := s3.put (o := .lst (fewT [] N)) hlm
    have hlmH : H lm = none := s3.free hlm
    refine ⟨_, rfl, t, rfl, ?_⟩
    generalize hH0 : upd (upd (upd (upd H p1 (.lst [V.int 0])) p2 (.lst [V.non])) p3 (.lst (List.replicate ((N : Int)).toNat [V.non]).flatten)) lm (.lst (fewT [] N)) = H0 at s4
    have hm0 : H0 lm = some (.lst (fewT [] N)) := by rw [← hH0, upd_same]
    clear hH0
    refine for_seq (xs := ivs cs) (fun i σ H' => ∃ (x y z : Option V), σ = [some (.ref t), some (.int (N : Int)), some (.ref lm), x, y, z] ∧ Same H H' ∧ H' lm = some (.lst (fewT (cs.take i) N))) (.tpl (s4 _ _ ht)) ⟨none, none, none, rfl, s4, by rw [List.take_zero]; exact hm0⟩ (fun i σ' H' ⟨_, _, _, _, s', _⟩ o e => by rw [s4 _ _ ht] at e; cases e; exact s' _ _ ht) ?_ ?_
    · rintro i v σ H1 hv ⟨x, y, z, rfl, s5, h5⟩
      obtain ⟨c, rfl, hc⟩ := ivs_nth hv
      have c1 := hP.lo c (List.mem_of_getElem? hc)
      have c2 := hP.hi c (List.mem_of_getElem? hc)
      have hps := pos_snoc hP.pos hc
      generalize hds : cs.take i = ds at h5 hps
      have ets : cs.take (i + 1) = ds ++ [c] := by rw [take_snoc hc, hds]
      refine ⟨_, rfl, _, rfl, _, _, rfl, rfl, c, _, rfl, ⟨by omega, by omega, by omega, by omega⟩, ?_⟩
      generalize hM : ((N : Int) + 1 - c).toNat = M
      refine for_range (lo := c) (n := M) (fun j σ H' => ∃ (x y : Option V), σ = [some (.ref t), some (.int (N : Int)), some (.ref lm), some (.int c), x, y] ∧ Same H H' ∧ H' lm = some (.lst (fewM ds c N (c.toNat + j)))) ⟨_, _, rfl, s5, by rw [Nat.add_zero, few_start hps]; exact h5⟩ ?_ ?_
      · rintro j σ H2 hj ⟨x2, y2, rfl, s6, h6⟩
        have hk : c.toNat + j ≤ N := by omega
        have ek : c + (j : Int) = ((c.toNat + j : Nat) : Int) := by omega
        have hat1 : atI (fewM ds c N (c.toNat + j)) (c + (j : Int) - c) = some (ov (fw (ds ++ [c]) (j : Int))) := by
          rw [show c + (j : Int) - c = ((j : Nat) : Int) by omega, fewM_at ds c (show j ≤ N by omega), if_pos (by omega)]
        have hat2 : atI (fewM ds c N (c.toNat + j)) (c + (j : Int)) = some (ov (fw ds ((c.toNat + j : Nat) : Int))) := by
          rw [ek, fewM_at ds c hk, if_neg (by omega)]
        have hsn := fw_snoc (n := ((c.toNat + j : Nat) : Int)) hps
        rw [show ((c.toNat + j : Nat) : Int) - c = (j : Int) by omega] at hsn
        have stay : fw (ds ++ [c]) ((c.toNat + j : Nat) : Int) = fw ds ((c.toNat + j : Nat) : Int) → H2 lm = some (.lst (fewM ds c N (c.toNat + (j + 1)))) := fun e => by
          rw [h6, few_stay ds c e]
          rfl
        have put : ∀ b : Nat, fw (ds ++ [c]) ((c.toNat + j : Nat) : Int) = some (b + 1) → (fewM ds c N (c.toNat + j)).set (c.toNat + j) (.int ((b : Int) + 1)) = fewM ds c N (c.toNat + (j + 1)) := fun b e => by
          have := few_step ds c (N := N) hk
          rw [e] at this
          exact this
        have hix : ixN (fewM ds c N (c.toNat + j)).length (c + (j : Int)) = some (c.toNat + j) := by rw [fewM_len, ek]; exact ixN_nat (by omega)
        refine ⟨_, rfl, _, rfl, _, rfl, _, _, rfl, rfl, lm, _, _, _, rfl, rfl, .lst h6, hat1, ?_⟩
        refine ⟨_, rfl, _, rfl, ?_⟩
        cases eb : fw (ds ++ [c]) (j : Int) with
        | none =>
          refine iteF ?_
          exact ⟨_, _, rfl, s6, stay (by rw [hsn, eb]; cases fw ds ((c.toNat + j : Nat) : Int) <;> rfl)⟩
        | some b =>
          rw [eb] at hsn
          refine iteT ?_
          refine ⟨_, rfl, _, rfl, lm, _, _, _, rfl, rfl, .lst h6, hat2, _, rfl, ?_⟩
          cases ea : fw ds ((c.toNat + j : Nat) : Int) with
          | none =>
            rw [ea] at hsn
            refine iteT ?_
            refine ⟨_, rfl, _, _, rfl, rfl, _, rfl, _, rfl, lm, _, _, c.toNat + j, rfl, rfl, h6, hix, ⟨_, _, rfl, fun b o e => by rw [upd_ne (ne_of_none e hlmH)]; exact s6 _ _ e, ?_⟩⟩
            rw [upd_same]
            exact congrArg (fun z => some (HO.lst z)) (put b hsn)
          | some a =>
            rw [ea] at hsn hat2
            refine iteF ?_
            refine ⟨_, rfl, _, _, rfl, rfl, _, rfl, _, rfl, lm, _, _, _, rfl, rfl, .lst h6, hat2, _, _, rfl, rfl, _, rfl, ?_⟩
            refine ite2 (fun z => ?_) (fun z => ?_)
            · have z' : (b : Int) + 1 < (a : Int) := of_decide_eq_true z
              refine ⟨_, rfl, _, _, rfl, rfl, _, rfl, _, rfl, lm, _, _, c.toNat + j, rfl, rfl, h6, hix, ⟨_, _, rfl, fun b o e => by rw [upd_ne (ne_of_none e hlmH)]; exact s6 _ _ e, ?_⟩⟩
              rw [upd_same]
              exact congrArg (fun z => some (HO.lst z)) (put b (by rw [hsn]; exact congrArg some (by omega)))
            · have z' : ¬ (b : Int) + 1 < (a : Int) := of_decide_eq_false (Bool.eq_false_iff.mpr z)
              exact ⟨_, _, rfl, s6, stay (by rw [hsn, ea]; exact congrArg some (by omega))⟩
      · rintro σ H2 ⟨x2, y2, rfl, s6, h6⟩
        refine ⟨_, _, _, rfl, s6, ?_⟩
        rw [h6, few_end ds c (by omega), ets]
    · rintro σ H1 ⟨x, y, z, rfl, s5, h5⟩
      have el : (ivs cs).length = cs.length := List.length_map ..
      rw [el, List.take_length] at h5
      exact ⟨_, rfl, q lm H1 s5 hlmH h5⟩
theorem ok_count_ways {f : Addr} {fd : FuncData} (F : Fun K "count_ways" "count_ways" s_count_ways f fd) (T : Tx mg) (D_check_payment : FnX P w K mg base "check_payment" ["purse", "number"] 3 (sp_pay c_BadSum)) :
    FnOk P w K mg base (CX1 P w) 8 f fd ["purse", "number"] (sp_count c_BadSum) := by
  refine F.okX sc_count_ways (fun vs H Q E h => ?_) (fun cdv A outer s H vs Q E hr h => ?_)
  · obtain ⟨t, cs, n, rfl, _⟩ := h
    rfl
  · obtain ⟨t, cs, n, rfl, ht, hP, q1, q2⟩ := h
    refine ⟨_, (pss_cons (ps_expr (pe_fnX D_check_payment (pass1 fun _ _ _ z => z) (hr.mono (by decide)) (pa_cons (pv 0) (pa_cons (pv 1) pa_nil))))
      (pss_cons (ps_set (i := 2) sc_count_ways.nd rfl (Or.inl (by kernel_rfl)) (pe_op op_cat (pe_lst (pa_cons pe_int pa_nil)) (pe_op op_rep (pe_lst (pa_cons pe_int pa_nil)) (pv 1))))
      (pss_cons (ps_for (by passes_own) rfl (pi_seqK (K := K) rfl (pv 0)) (pg_name (i := 3) sc_count_ways.nd rfl (Or.inl (by kernel_rfl))) (pss_one (ps_for (by passes_own) rfl (pi_range2 (gl_of (by kernel_rfl)) T.b_range (pa_cons (pv 3) (pa_cons (pe_op op_add (pv 1) pe_int) pa_nil))) (pg_name (i := 4) sc_count_ways.nd rfl (Or.inl (by kernel_rfl))) (pss_one (ps_asg (pe_op op_add (pe_ix (ix_anyK (K := K) rfl) (pv 2) (pv 4) (fun _ _ => rfl)) (pe_ix (ix_anyK (K := K) rfl) (pv 2) (pe_op op_sub (pv 4) (pv 3)) (fun _ _ => rfl))) (pg_sub (pv 2) (pv 4) set_list))))))
      (pss_one (ps_ret (pe_ix (ix_anyK (K := K) rfl) (pv 2) (pv 1) (fun _ _ => rfl))))))), ?_⟩
    refine ⟨_, rfl, _, rfl, t, cs, n, rfl, ht, hP, fun h0 h4 => ?_, q2⟩
    obtain ⟨N, rfl⟩ : ∃ N : Nat, n = (N : Int) := ⟨n.toNat, by omega⟩
    refine ⟨by decide, fun p1 hp1 => ⟨by decide, fun p2 hp2 => ?_⟩⟩
    have s1 : Same H (upd H p1 (.lst [V.int 1])) := (Same.refl H).put hp1
    have s2 := s1.put (o := .lst [V.int 0]) hp2
    have n12 : p1 ≠ p2 := fun z => by rw [← z, upd_same] at hp2; cases hp2
    refine ⟨_, rfl, p2, _, _, rfl, rfl, upd_same, by omega, by omega, ?_, fun p3 hp3 => ?_⟩
    · show 1 * ((N : Int)).toNat ≤ sizeLine
      exact Nat.le_trans (by omega) (show 1000 ≤ sizeLine by decide)
    have s3 := s2.put (o := .lst (List.replicate ((N : Int)).toNat [V.int 0]).flatten) hp3
    have n13 : p1 ≠ p3 := fun z => by
      rw [← z, upd_ne n12, upd_same] at hp3
      cases hp3
    refine ⟨p1, p3, [V.int 1], _, rfl, rfl, by rw [upd_ne n13, upd_ne n12, upd_same], upd_same, ?_, fun lm hlm => ?_⟩
    · have e : ((List.replicate ((N : Int)).toNat [V.int 0]).flatten).length = N := by simp
      rw [e]
      exact Nat.le_trans (show 1 + N ≤ 1001 by omega) (by decide)
    rw [cw_list]
    have s4 := s3.put (o := .lst (ivs (cwT [] N))) hlm
    have hlmH : H lm = none := s3.free hlm
    refine ⟨_, rfl, t, rfl, ?_⟩
    generalize hH0 : upd (upd (upd (upd H p1 (.lst [V.int 1])) p2 (.lst [V.int 0])) p3 (.lst (List.replicate ((N : Int)).toNat [V.int 0]).flatten)) lm (.lst (ivs (cwT [] N))) = H0 at s4
    have hm0 : H0 lm = some (.lst (ivs (cwT [] N))) := by rw [← hH0, upd_same]
    clear hH0
    refine for_seq (xs := ivs cs) (fun i σ H' => ∃ (x y : Option V), σ = [some (.ref t), some (.int (N : Int)), some (.ref lm), x, y] ∧ Same H H' ∧ H' lm = some (.lst (ivs (cwT (cs.take i) N)))) (.tpl (s4 _ _ ht)) ⟨none, none, rfl, s4, by rw [List.take_zero]; exact hm0⟩ (fun i σ' H' ⟨_, _, _, s', _⟩ o e => by rw [s4 _ _ ht] at e; cases e; exact s' _ _ ht) ?_ ?_
    · rintro i v σ H1 hv ⟨x, y, rfl, s5, h5⟩
      obtain ⟨c, rfl, hc⟩ := ivs_nth hv
      have c1 := hP.lo c (List.mem_of_getElem? hc)
      have c2 := hP.hi c (List.mem_of_getElem? hc)
      have hps := pos_snoc hP.pos hc
      generalize hds : cs.take i = ds at h5 hps
      have ets : cs.take (i + 1) = ds ++ [c] := by rw [take_snoc hc, hds]
      refine ⟨_, rfl, _, rfl, _, _, rfl, rfl, c, _, rfl, ⟨by omega, by omega, by omega, by omega⟩, ?_⟩
      generalize hM : ((N : Int) + 1 - c).toNat = M
      refine for_range (lo := c) (n := M) (fun j σ H' => ∃ (x : Option V), σ = [some (.ref t), some (.int (N : Int)), some (.ref lm), some (.int c), x] ∧ Same H H' ∧ H' lm = some (.lst (ivs (cwM ds c N (c.toNat + j))))) ⟨_, rfl, s5, by rw [Nat.add_zero, cw_start hps]; exact h5⟩ ?_ ?_
      · rintro j σ H2 hj ⟨x2, rfl, s6, h6⟩
        have hk : c.toNat + j ≤ N := by omega
        have ek : c + (j : Int) = ((c.toNat + j : Nat) : Int) := by omega
        have hat1 : atI (ivs (cwM ds c N (c.toNat + j))) (c + (j : Int) - c) = some (.int ((cw (ds ++ [c]) (j : Int) : Nat) : Int)) := by
          rw [show c + (j : Int) - c = ((j : Nat) : Int) by omega, cwM_at ds c (show j ≤ N by omega), if_pos (by omega)]
        have hat2 : atI (ivs (cwM ds c N (c.toNat + j))) (c + (j : Int)) = some (.int ((cw ds ((c.toNat + j : Nat) : Int) : Nat) : Int)) := by
          rw [ek, cwM_at ds c hk, if_neg (by omega)]
        have hsn := cw_snoc hps (n := ((c.toNat + j : Nat) : Int)) (by omega)
        rw [show ((c.toNat + j : Nat) : Int) - c = (j : Int) by omega] at hsn
        have hix : ixN (ivs (cwM ds c N (c.toNat + j))).length (c + (j : Int)) = some (c.toNat + j) := by rw [List.length_map, cwM_len, ek]; exact ixN_nat (by omega)
        refine ⟨_, rfl, _, rfl, lm, _, _, _, rfl, rfl, .lst h6, hat2, ?_⟩
        refine ⟨_, rfl, _, rfl, _, rfl, _, _, rfl, rfl, lm, _, _, _, rfl, rfl, .lst h6, hat1, ?_⟩
        refine ⟨_, _, rfl, rfl, _, rfl, _, rfl, lm, _, _, c.toNat + j, rfl, rfl, h6, hix, ⟨_, rfl, ?_, ?_⟩⟩
        · exact fun b o e => by rw [upd_ne (ne_of_none e hlmH)]; exact s6 _ _ e
        · rw [upd_same]
          have e1 : (cw ds ((c.toNat + j : Nat) : Int) : Int) + (cw (ds ++ [c]) (j : Int) : Int) = ((cw (ds ++ [c]) ((c.toNat + j : Nat) : Int) : Nat) : Int) := by
            rw [hsn]
            push_cast
            rfl
          have e2 := cw_put ds c (N := N) hk
          dsimp only
          rw [e1]
          unfold ivs
          rw [← List.map_set, e2]
          rfl
      · rintro σ H2 ⟨x2, rfl, s6, h6⟩
        refine ⟨_, _, rfl, s6, ?_⟩
        rw [h6, cw_end ds c (by omega), ets]
    · rintro σ H1 ⟨x, y, rfl, s5, h5⟩
      have el : (ivs cs).length = cs.length := List.length_map ..
      rw [el, List.take_length] at h5
      exact ⟨_, rfl, _, rfl, lm, _, _, _, rfl, rfl, .lst h5, cwT_at cs (Nat.le_refl N), q1 h0 h4 H1 s5⟩
end
end CY

set_option Elab.async false
set_option linter.all false
set_option maxRecDepth 100000
set_option maxHeartbeats 4000000
namespace CY
open PySem PySem.Spec PyProof.Rows L2
def sp_lpofS (K : PySem.W.Frag) (TB : Addr) : Sp := fun vs H Q E => ∃ (t : Addr) (cs : List Int), vs = [.ref t] ∧ H t = some (.lst (ivs cs)) ∧ cs ≠ [] ∧ Pos cs ∧ cs.length < 64 ∧ (∀ c ∈ cs, c ≤ 200000) ∧ ∀ ws, Lst (mk cs) ws → outc TB ws H Q E
def few4 (M : List Nat) : Prop := ((M.map fun (x : Nat) => (x : Int)).filter fun x => decide (0 < x) && decide (x ≤ 400)).length < 63
section
variable {P : Program} {w : World} {K : PySem.W.Frag} {mg : Str → Option Value} {base : Heap} {c_TooBig c_Endless c_BadSum c_CoinError : Addr}
theorem ok_least_purse_of {f : Addr} {fd : FuncData} {t1 t2 : Tok} (F : Fun K "least_purse_of" "least_purse_of" s_least_purse_of f fd) (T : Tx mg) (h_MOST_COINS : mg "MOST_COINS" = some (.int 40 t1)) (h_GREATEST_COIN : mg "GREATEST_COIN" = some (.int 400 t2)) (X_TooBig : Err K mg "TooBig" c_TooBig c_CoinError)
    (C_needed_of : Fn P w K mg base "needed_of" ["coins"] 2 (sp_needed K)) : FnOk P w K mg base (CX1 P w) 3 f fd ["coins"] (sp_lpofS K c_TooBig) := by
  refine F.okX sc_least_purse_of (fun vs H Q E h => ?_) (fun cdv A outer s H vs Q E hr h => ?_)
  · obtain ⟨t, cs, rfl, _⟩ := h
    rfl
  · obtain ⟨t, cs, rfl, ht, hne, hpos, hlen, hmax, q⟩ := h
    refine ⟨_, (pss_cons (ps_set (i := 1) sc_least_purse_of.nd rfl (Or.inl (by kernel_rfl)) (pe_fn C_needed_of (hr.mono (by decide)) (pa_cons (pe_callB (sortedLK (K := K) rfl rfl) (gl_of (by kernel_rfl)) T.b_sorted boot_sorted (pa_cons (pv 0) pa_nil)) pa_nil)))
      (pss_cons (ps_if (PW.pt (pw_or (pt_cmpR op_gt (pe_callB (lenK (K := K) rfl) (gl_of (by kernel_rfl)) T.b_len boot_len (pa_cons (pv 1) pa_nil)) (pe_num h_MOST_COINS) (nomark _)) (pw_or1 (pt_cmpR op_gt (pe_ix (ix_anyK (K := K) rfl) (pv 1) (pe_un un_neg pe_int) (fun _ _ => rfl)) (pe_num h_GREATEST_COIN) (nomark _))))) (pss_one (ps_raise (throw1 fun _ _ _ z => z) rfl X_TooBig.toExc (pa_cons (pe_fstr (pj_cons pp_str (pj_cons (pp_int (pe_num h_MOST_COINS)) (pj_cons pp_str (pj_cons (pp_int (pe_num h_GREATEST_COIN)) pj_nil))))) pa_nil))) pss_nil)
      (pss_one (ps_ret (pe_callTy (tupleK (K := K) rfl) (gl_of (by kernel_rfl)) T.b_tuple boot_tuple (pa_cons (pv 1) pa_nil)))))), ?_⟩
    refine ⟨_, rfl, t, cs, rfl, .of ht, hlen, fun l ns hl pm pw => ?_⟩
    have hp2 : Pos ns := fun c hc => hpos c (pm.mem_iff.mp hc)
    have hne2 : ns ≠ [] := fun z => by
      rw [z] at pm
      exact hne pm.symm.eq_nil
    refine ⟨l, ns, rfl, .inl upd_same, hne2, hp2, pw, by rw [pm.length_eq]; omega, fun c hc => hmax c (pm.mem_iff.mp hc), fun lf H1 s1 hn hl1 => ?_⟩
    have hL := kept_lst hp2 pw
    have em : mk ns = mk cs := funext fun n => mk_mem (fun c => pm.mem_iff) n
    rw [em] at hL
    obtain ⟨q1, q2⟩ := q _ hL
    have s0 : Same H H1 := ((Same.refl H).put hl).trans s1
    have hk := kept_ne hp2 pw hne2
    generalize kept [] ns = ws at hL q1 q2 hl1 hk
    have hf := fits_last hL.rise hk
    have el : (ivs ws).length = ws.length := List.length_map ..
    refine ⟨_, rfl, lf, ivs ws, rfl, .inl (.of hl1), _, _, rfl, rfl, _, rfl, ?_⟩
    rw [el]
    by_cases z1 : 40 < (ws.length : Int)
    · refine ifT (decide_eq_true z1) ?_
      refine iteT ?_
      exact ⟨by decide +kernel, _, rfl, by decide +kernel, by decide +kernel, by decide +kernel, _, rfl, by decide +kernel, by decide +kernel, by decide +kernel, by show 1 ≤ sizeLine; decide, q2 (fun z => by have := z.1; omega) _ s0⟩
    · refine ifF (decide_eq_false z1) ?_
      refine ⟨_, rfl, 1, rfl, lf, ivs ws, -1, _, rfl, rfl, .lst hl1, getI_last hk, _, _, rfl, rfl, _, rfl, ?_⟩
      by_cases z2 : 400 < ws.getLast hk
      · refine ifT (decide_eq_true z2) ?_
        exact ⟨by decide +kernel, _, rfl, by decide +kernel, by decide +kernel, by decide +kernel, _, rfl, by decide +kernel, by decide +kernel, by decide +kernel, by show 1 ≤ sizeLine; decide, q2 (fun z => by have := (hf.mp z).2; omega) _ s0⟩
      · refine ifF (decide_eq_false z2) ?_
        refine ⟨_, rfl, lf, _, rfl, .inl ⟨.of hl1, fun t' ht' => ?_⟩⟩
        exact q1 (hf.mpr ⟨by omega, by omega⟩) t' _ (s0.put ht') upd_same
def sp_ofsums (TB : Addr) : Sp := fun vs H Q E => ∃ (l : Addr) (S : Int → Bool) (m : Nat) (M : List Nat), vs = [.ref l] ∧ H l = some (.lst (ivs (M.map fun (x : Nat) => (x : Int)))) ∧ Sg S ∧ 0 < m ∧ m ≤ 400 ∧ S (m : Int) = true ∧ Tss S m M ∧ few4 M ∧ ∀ ws, Lst S ws → outc TB ws H Q E
theorem ovs_eq {L : Tb} {M : List Nat} : eqVs (ovs L) (ivs (M.map fun (x : Nat) => (x : Int))) = decide (L = M.map some) := by
  have h1 : (ovs L).all plainV = true := by
    rw [List.all_eq_true]
    intro v hv
    obtain ⟨o, _, rfl⟩ := List.mem_map.mp hv
    cases o <;> rfl
  rw [eqVs_plain h1 (plain_ints _), decide_eq_decide]
  have e : ivs (M.map fun (x : Nat) => (x : Int)) = ovs (M.map some) := by
    unfold ivs ovs
    rw [List.map_map, List.map_map]
    rfl
  have e' : (M.map fun (x : Nat) => (x : Int)).map V.int = ovs (M.map some) := e
  rw [e']
  constructor
  · intro h
    have inj : ∀ a b : Option Nat, ov a = ov b → a = b := fun a b z => by
      cases a with
      | none => cases b with
        | none => rfl
        | some y => cases z
      | some x => cases b with
        | none => cases z
        | some y =>
          have z : (x : Int) = (y : Int) := by injection z
          rw [show x = y by omega]
    exact List.map_inj_right (fun a b z => inj a b z) |>.mp h
  · intro h; rw [h]
theorem flat_ovs (L : Tb) : (ovs L).all flatV = true := by
  rw [List.all_eq_true]
  intro v hv
  obtain ⟨o, _, rfl⟩ := List.mem_map.mp hv
  cases o <;> rfl
theorem le_sum_nat : ∀ (l : List Nat), ∀ x ∈ l, x ≤ l.sum
  | [], x, h => by cases h
  | a :: l, x, h => by
    rw [List.sum_cons]
    rcases List.mem_cons.mp h with e | h
    · omega
    · have := le_sum_nat l x h
      omega
theorem tss_lst {S : Int → Bool} {m : Nat} {M : List Nat} (g : Sg S) (h0 : 0 < m) (hm : S (m : Int) = true) (h : Tss S m M) : ∃ ws, Lst S ws := by
  refine ⟨gensUp S (m + M.sum), gens_lst fun n hn hg => ?_⟩
  rcases h.gen g h0 hm hg with e | ⟨x, hx, e⟩
  · push_cast at hn
    have : (0 : Int) ≤ ((M.sum : Nat) : Int) := Int.natCast_nonneg _
    omega
  · have := le_sum_nat M x hx
    push_cast at hn
    omega
theorem ok_purse_of_least_sums {f : Addr} {fd : FuncData} {t2 : Tok} (F : Fun K "purse_of_least_sums" "purse_of_least_sums" s_purse_of_least_sums f fd) (T : Tx mg) (h_GREATEST_COIN : mg "GREATEST_COIN" = some (.int 400 t2)) (X_TooBig : Err K mg "TooBig" c_TooBig c_CoinError)
    (D_least_purse_of : FnX P w K mg base "least_purse_of" ["coins"] 3 (sp_lpofS K c_TooBig)) (C_least_sums_by : Fn P w K mg base "least_sums_by" ["number", "coins"] 3 sp_lsby) : FnOk P w K mg base (CX1 P w) 4 f fd ["least"] (sp_ofsums c_TooBig) := by
  refine F.okX sc_purse_of_least_sums (fun vs H Q E h => ?_) (fun cdv A outer s H vs Q E hr h => ?_)
  · obtain ⟨l, S, m, M, rfl, _⟩ := h
    rfl
  · obtain ⟨l, S, m, M, rfl, hl, g, h0, h4, hm, hM, hfew, q⟩ := h
    have hu0 := hr.units0
    refine ⟨_, (pss_cons (ps_set (i := 1) sc_purse_of_least_sums.nd rfl (Or.inl (by kernel_rfl)) (pe_callB (lenK (K := K) rfl) (gl_of (by kernel_rfl)) T.b_len boot_len (pa_cons (pv 0) pa_nil)))
      (pss_cons (ps_set (i := 2) sc_purse_of_least_sums.nd rfl (Or.inl (by kernel_rfl)) (pe_fnX D_least_purse_of (pass1 fun _ _ _ z => z) (hr.mono (by decide)) (pa_cons (pe_op op_cat (pe_lst (pa_cons (pv 1) pa_nil)) (pe_comp (x := "start") (M := ["least", "number", "purse"]) rfl (CompScope.of (by kernel_rfl)) (pi_seqK (K := K) rfl (pv 0)) (fun _ _ _ _ _ => (pts_one (pt_chain op_lt op_le pe_int (pv 0) (pe_num h_GREATEST_COIN)))) (fun _ _ _ _ _ => (pv 0)))) pa_nil)))
      (pss_cons (ps_if (pt_cmpR (neLK (K := K) rfl hu0) (pe_fn C_least_sums_by (hr.mono (by decide)) (pa_cons (pv 1) (pa_cons (pv 2) pa_nil))) (pv 0) (nomark _)) (pss_one (ps_raise (throw1 fun _ _ _ z => z) rfl X_TooBig.toExc (pa_cons (pe_fstr (pj_cons pp_str (pj_cons (pp_int (pe_num h_GREATEST_COIN)) pj_nil))) pa_nil))) pss_nil)
      (pss_one (ps_ret (pv 2)))))), ?_⟩
    have el : (ivs (M.map fun (x : Nat) => (x : Int))).length = m := by rw [List.length_map, List.length_map, hM.len]
    refine ⟨_, rfl, l, _, rfl, .inl (.of hl), ?_⟩
    dsimp only
    rw [el]
    refine ⟨_, rfl, by show 1 ≤ sizeLine; decide, fun l1 hl1 => ?_⟩
    have s1 := (Same.refl H).put (o := .lst [V.int (m : Int)]) hl1
    refine ⟨_, rfl, l, rfl, ?_⟩
    refine comp_seq (fun _ H' => H' = upd H l1 (.lst [V.int (m : Int)])) (onV fun x => decide (0 < x) && decide (x ≤ 400)) id (by rw [el, sizeLine_eq]; omega) rfl (fun _ _ e => by rw [e]; exact Same.refl _) (.lst (s1 _ _ hl)) ?_ ?_
    · rintro j v H2 R R' hv rfl hR hR'
      obtain ⟨c, rfl, hc⟩ := ivs_nth hv
      refine ⟨_, rfl, _, _, rfl, rfl, _, rfl, ?_⟩
      by_cases z1 : 0 < c
      · refine ifT (decide_eq_true z1) ?_
        refine ⟨_, _, rfl, rfl, _, rfl, ?_⟩
        by_cases z2 : c ≤ 400
        · refine ifT (decide_eq_true z2) ?_
          exact ⟨_, rfl, hR _ (by show (decide (0 < c) && decide (c ≤ 400)) = true; rw [decide_eq_true z1, decide_eq_true z2]; rfl) rfl⟩
        · refine ifF (decide_eq_false z2) ?_
          exact hR' _ (by show (decide (0 < c) && decide (c ≤ 400)) = false; rw [decide_eq_false z2, Bool.and_false]) rfl
      · refine ifF (decide_eq_false z1) ?_
        refine ⟨_, rfl, ?_⟩
        refine iteF ?_
        exact hR' _ (by show (decide (0 < c) && decide (c ≤ 400)) = false; rw [decide_eq_false z1]; rfl) rfl
    · rintro H2 p rfl hp
      have nl : l1 ≠ p := fun z => by rw [← z, upd_same] at hp; cases hp
      have s2 := s1.put (o := .lst ((((ivs (M.map fun (x : Nat) => (x : Int))).filter (onV fun x => decide (0 < x) && decide (x ≤ 400))).map id))) hp
      rw [ivs_on] at s2 ⊢
      have hsz : ((M.map fun (x : Nat) => (x : Int)).filter fun x => decide (0 < x) && decide (x ≤ 400)).length ≤ 400 := by
        refine Nat.le_trans (List.length_filter_le _ _) ?_
        rw [List.length_map, hM.len]
        exact h4
      refine ⟨l1, p, [V.int (m : Int)], _, rfl, rfl, by rw [upd_ne nl, upd_same], upd_same, ?_, fun l3 hl3 => ?_⟩
      · rw [List.length_map, sizeLine_eq]
        show 1 + _ ≤ _
        omega
      have ec : [V.int (m : Int)] ++ ivs ((M.map fun (x : Nat) => (x : Int)).filter fun x => decide (0 < x) && decide (x ≤ 400)) = ivs (cand m M) := rfl
      rw [ec]
      have s3 := s2.put (o := .lst (ivs (cand m M))) hl3
      refine ⟨l3, cand m M, rfl, upd_same, (fun z => by cases z), cand_pos h0, ?_, ?_, fun ps hps => ?_⟩
      · show _ + 1 < 64
        have hfew : ((M.map fun (x : Nat) => (x : Int)).filter fun x => decide (0 < x) && decide (x ≤ 400)).length < 63 := hfew
        omega
      · intro c hc
        rcases List.mem_cons.mp hc with z | z
        · omega
        · have := (List.mem_filter.mp z).2
          rw [Bool.and_eq_true, decide_eq_true_iff, decide_eq_true_iff] at this
          omega
      · obtain ⟨ws, hw⟩ := tss_lst g h0 hm hM
        obtain ⟨q1, q2⟩ := q ws hw
        refine ⟨fun hf t H' s' ht => ?_, fun hf H' s' => q2 (fun z => hf (by rw [cand_all g h0 h4 hm hM hps hw z.2]; exact z)) H' (s3.trans s')⟩
        have hin : ∀ c ∈ ps, 1 ≤ c ∧ c ≤ 400 := fun c hc => ⟨by have := hps.pos c hc; omega, hf.2 c hc⟩
        refine ⟨_, rfl, _, rfl, t, (m : Int), ps, rfl, ht, by omega, by omega, hin, fun l4 L H4 s4 hn4 hl4 hT => ?_⟩
        rw [Int.toNat_natCast] at hT
        have hl' := s4 _ _ (s' _ _ (s3 _ _ hl))
        refine ⟨_, rfl, l4, l, ovs L, _, rfl, rfl, .of hl4, .of hl', flat_ovs L, flat_ivs _, _, rfl, ?_⟩
        rw [if_pos rfl, ovs_eq]
        obtain ⟨c1, c2⟩ := cand_fit g h0 h4 hm hM hps hw hT
        have sAll : Same H H4 := (s3.trans s').trans s4
        by_cases z : L = M.map some
        · refine ifF (by rw [decide_eq_true z]; rfl) ?_
          have hall := c1.mp z
          have e := c2 hall
          subst e
          exact ⟨_, rfl, q1 hf t H4 sAll (s4 _ _ ht)⟩
        · refine ifT (by rw [decide_eq_false z]; rfl) ?_
          exact ⟨by decide +kernel, _, rfl, by decide +kernel, by decide +kernel, by decide +kernel, by show 1 ≤ sizeLine; decide, q2 (fun y => z (c1.mpr y.2)) _ sAll⟩
def sp_lcs (TB : Addr) : Sp := fun vs H Q E => ∃ (t u : Addr) (cs ds : List Int), vs = [.ref t, .ref u] ∧ H t = some (.tup (ivs cs)) ∧ H u = some (.tup (ivs ds)) ∧ Purse 400 cs ∧ Purse 400 ds ∧
  (∀ n : Int, 1 ≤ n → n ≤ 400 → (mk cs n && mk ds n) = true → (∀ a, 1 ≤ a → a < n → (mk cs a && mk ds a) = false) → ∀ H', Same H H' → Q (.int n) H') ∧ ((∀ n : Int, 1 ≤ n → n ≤ 400 → (mk cs n && mk ds n) = false) → ∀ H', Same H H' → E (.ref TB) none H')
theorem ok_least_common_sum {f : Addr} {fd : FuncData} {t2 : Tok} (F : Fun K "least_common_sum" "least_common_sum" s_least_common_sum f fd) (T : Tx mg) (h_GREATEST_COIN : mg "GREATEST_COIN" = some (.int 400 t2)) (X_TooBig : Err K mg "TooBig" c_TooBig c_CoinError)
    (C_least_sums : Fn P w K mg base "least_sums" ["purse"] 4 sp_lsums) (C_is_reached : Fn P w K mg base "is_reached" ["least", "number"] 1 sp_reached) : FnOk P w K mg base (CX1 P w) 5 f fd ["one", "other"] (sp_lcs c_TooBig) := by
  refine F.okX sc_least_common_sum (fun vs H Q E h => ?_) (fun cdv A outer s H vs Q E hr h => ?_)
  · obtain ⟨t, u, cs, ds, rfl, _⟩ := h
    rfl
  · obtain ⟨t, u, cs, ds, rfl, ht, hu, hP, hR, q1, q2⟩ := h
    refine ⟨_, (pss_cons (ps_set (i := 2) sc_least_common_sum.nd rfl (Or.inl (by kernel_rfl)) (pe_fn C_least_sums (hr.mono (by decide)) (pa_cons (pv 0) pa_nil)))
      (pss_cons (ps_set (i := 3) sc_least_common_sum.nd rfl (Or.inl (by kernel_rfl)) (pe_fn C_least_sums (hr.mono (by decide)) (pa_cons (pv 1) pa_nil)))
      (pss_cons (ps_for (by passes_own) rfl (pi_range2 (gl_of (by kernel_rfl)) T.b_range (pa_cons pe_int (pa_cons (pe_op op_add (pe_num h_GREATEST_COIN) pe_int) pa_nil))) (pg_name (i := 4) sc_least_common_sum.nd rfl (Or.inl (by kernel_rfl))) (pss_one (ps_if (PW.pt (pw_and (pt_val (pe_fn C_is_reached (hr.mono (by decide)) (pa_cons (pv 2) (pa_cons (pv 4) pa_nil)))) (pw_and1 (pt_val (pe_fn C_is_reached (hr.mono (by decide)) (pa_cons (pv 3) (pa_cons (pv 4) pa_nil))))))) (pss_one (ps_ret (pv 4))) pss_nil)))
      (pss_one (ps_raise (throw1 fun _ _ _ z => z) rfl X_TooBig.toExc (pa_cons (pe_fstr (pj_cons pp_str (pj_cons (pp_int (pe_num h_GREATEST_COIN)) pj_nil))) pa_nil)))))), ?_⟩
    refine ⟨_, rfl, t, cs, rfl, ht, hP, fun l1 L1 H1 s1 hn1 hl1 hT1 => ?_⟩
    refine ⟨_, rfl, u, ds, rfl, s1 _ _ hu, hR, fun l2 M2 H2 s2 hn2 hl2 hT2 => ?_⟩
    have s12 := s1.trans s2
    refine ⟨_, _, rfl, rfl, 1, 400 + 1, rfl, ⟨by decide, by decide, by decide, by decide⟩, ?_⟩
    have hl1' := s2 _ _ hl1
    refine for_range (lo := 1) (n := 400) (fun i σ H' => ∃ x, σ = [some (.ref t), some (.ref u), some (.ref l1), some (.ref l2), x] ∧ H' = H2 ∧ ∀ a : Int, 1 ≤ a → a < 1 + (i : Int) → (mk cs a && mk ds a) = false) ⟨none, rfl, rfl, fun a a1 a2 => by omega⟩ ?_ ?_
    · rintro i σ H3 hi ⟨x, rfl, rfl, hno⟩
      refine ⟨_, rfl, _, rfl, l1, L1, cs, 1 + (i : Int), rfl, hl1', hP, hT1, by omega, _, rfl, ?_⟩
      by_cases z1 : mk cs (1 + (i : Int)) = true
      · refine ifT z1 ?_
        refine ⟨_, rfl, _, rfl, l2, M2, ds, 1 + (i : Int), rfl, hl2, hR, hT2, by omega, _, rfl, ?_⟩
        by_cases z2 : mk ds (1 + (i : Int)) = true
        · refine ifT z2 ?_
          exact ⟨_, rfl, q1 _ (by omega) (by omega) (by rw [z1, z2]; rfl) hno _ s12⟩
        · refine ifF (Bool.eq_false_iff.mpr z2) ?_
          refine ⟨_, rfl, rfl, fun a a1 a2 => ?_⟩
          by_cases e : a = 1 + (i : Int)
          · rw [e, Bool.eq_false_iff.mpr z2, Bool.and_false]
          · exact hno a a1 (by omega)
      · refine ifF (Bool.eq_false_iff.mpr z1) ?_
        refine iteF ?_
        refine ⟨_, rfl, rfl, fun a a1 a2 => ?_⟩
        by_cases e : a = 1 + (i : Int)
        · rw [e, Bool.eq_false_iff.mpr z1]; rfl
        · exact hno a a1 (by omega)
    · rintro σ H3 ⟨x, rfl, rfl, hno⟩
      exact ⟨by decide +kernel, _, rfl, by decide +kernel, by decide +kernel, by decide +kernel, by show 1 ≤ sizeLine; decide, q2 (fun n n1 n2 => hno n n1 (by omega)) _ s12⟩
def sp_bothS (EN TB : Addr) : Sp := fun vs H Q E => ∃ (t u : Addr) (cs ds : List Int), vs = [.ref t, .ref u] ∧ H t = some (.tup (ivs cs)) ∧ H u = some (.tup (ivs ds)) ∧ Purse 400 cs ∧ Purse 400 ds ∧ (∀ (m : Nat) (M : List Nat), 0 < m → Tss (fun n => mk cs n && mk ds n) m M → few4 M) ∧
  (¬ (gcdL cs = 1 ∧ gcdL ds = 1) → ∀ H', Same H H' → E (.ref EN) none H') ∧ (gcdL cs = 1 → gcdL ds = 1 → ∀ ws, Lst (fun n => mk cs n && mk ds n) ws → outc TB ws H Q E)
theorem ok_made_by_both {f : Addr} {fd : FuncData} (F : Fun K "made_by_both" "made_by_both" s_made_by_both f fd) (T : Tx mg) (C_checked : Fn P w K mg base "checked" ["purse"] 2 (sp_checked K)) (D_check_gaps_end : FnX P w K mg base "check_gaps_end" ["purse"] 4 (sp_endcheck c_Endless)) (D_least_common_sum : FnX P w K mg base "least_common_sum" ["one", "other"] 5 (sp_lcs c_TooBig))
    (C_least_sums_by : Fn P w K mg base "least_sums_by" ["number", "coins"] 3 sp_lsby) (D_purse_of_least_sums : FnX P w K mg base "purse_of_least_sums" ["least"] 4 (sp_ofsums c_TooBig)) : FnOk P w K mg base (CX1 P w) 12 f fd ["one", "other"] (sp_bothS c_Endless c_TooBig) := by
  refine F.okX sc_made_by_both (fun vs H Q E h => ?_) (fun cdv A outer s H vs Q E hr h => ?_)
  · obtain ⟨t, u, cs, ds, rfl, _⟩ := h
    rfl
  · obtain ⟨t, u, cs, ds, rfl, ht, hu, hP, hR, hfw, q1, q2⟩ := h
    refine ⟨_, (pss_cons (ps_expr (pe_fn C_checked (hr.mono (by decide)) (pa_cons (pv 0) pa_nil)))
      (pss_cons (ps_expr (pe_fn C_checked (hr.mono (by decide)) (pa_cons (pv 1) pa_nil)))
      (pss_cons (ps_expr (pe_fnX D_check_gaps_end (pass1 fun _ _ _ z => z) (hr.mono (by decide)) (pa_cons (pv 0) pa_nil)))
      (pss_cons (ps_expr (pe_fnX D_check_gaps_end (pass1 fun _ _ _ z => z) (hr.mono (by decide)) (pa_cons (pv 1) pa_nil)))
      (pss_cons (ps_set (i := 2) sc_made_by_both.nd rfl (Or.inl (by kernel_rfl)) (pe_fnX D_least_common_sum (pass1 fun _ _ _ z => z) (hr.mono (by decide)) (pa_cons (pv 0) (pa_cons (pv 1) pa_nil))))
      (pss_cons (ps_set (i := 3) sc_made_by_both.nd rfl (Or.inl (by kernel_rfl)) (pe_fn C_least_sums_by (hr.mono (by decide)) (pa_cons (pv 2) (pa_cons (pv 0) pa_nil))))
      (pss_cons (ps_set (i := 4) sc_made_by_both.nd rfl (Or.inl (by kernel_rfl)) (pe_fn C_least_sums_by (hr.mono (by decide)) (pa_cons (pv 2) (pa_cons (pv 1) pa_nil))))
      (pss_one (ps_ret (pe_fnX D_purse_of_least_sums (pass1 fun _ _ _ z => z) (hr.mono (by decide)) (pa_cons (pe_comp2K (K := K) rfl (x := "start") (x' := "another") (M := ["one", "other", "number", "least_of_one", "least_of_other"]) rfl (Comp2.of (by kernel_rfl)) (pi_zipL (K := K) rfl (gl_of (by kernel_rfl)) T.b_zip (pa_cons (pv 3) (pa_cons (pv 4) pa_nil))) (fun _ _ _ _ _ => pts_nil) (fun _ _ _ _ _ => (pe_callB (call_max2 rfl) (gl_of (by kernel_rfl)) T.b_max boot_max (pa_cons (pv 0) (pa_cons (pv 1) pa_nil))))) pa_nil))))))))))), ?_⟩
    refine ⟨_, rfl, t, cs, rfl, ht, hP, _, rfl, u, ds, rfl, hu, hR, _, rfl, t, cs, rfl, ht, hP, fun g1 => ?_, fun g1 => q1 fun z => g1 z.1⟩
    refine ⟨_, rfl, u, ds, rfl, hu, hR, fun g2 => ?_, fun g2 => q1 fun z => g2 z.2⟩
    have q2 := q2 g1 g2
    have gS : Sg fun n => mk cs n && mk ds n := sg_and (sg_mk hP.pos) (sg_mk hR.pos)
    refine ⟨_, rfl, _, rfl, t, u, cs, ds, rfl, ht, hu, hP, hR, fun n n1 n4 hn hmin H1 s1 => ?_, fun hno H1 s1 => ?_⟩
    · obtain ⟨m, rfl⟩ : ∃ m : Nat, n = (m : Int) := ⟨n.toNat, by omega⟩
      rw [Bool.and_eq_true] at hn
      refine ⟨_, rfl, _, rfl, t, (m : Int), cs, rfl, s1 _ _ ht, n1, by omega, fun c hc => ⟨hP.lo c hc, hP.hi c hc⟩, fun l1 L1 H2 s2 hn2 hl1 hT1 => ?_⟩
      have s12 := s1.trans s2
      refine ⟨_, rfl, _, rfl, u, (m : Int), ds, rfl, s12 _ _ hu, n1, by omega, fun c hc => ⟨hR.lo c hc, hR.hi c hc⟩, fun l2 M2 H3 s3 hn3 hl2 hT2 => ?_⟩
      rw [Int.toNat_natCast] at hT1 hT2
      have s13 := s12.trans s3
      have m0 : 0 < m := by omega
      have T1 := lt_congr hT1 (made_num (mk_iff.mp hn.1))
      have T2 := lt_congr hT2 (made_num (mk_iff.mp hn.2))
      obtain ⟨t1, e1⟩ := lt_ts hP.pos g1 m0 T1
      obtain ⟨t2, e2⟩ := lt_ts hR.pos g2 m0 T2
      have hM := ts_and (sg_mk hP.pos) (sg_mk hR.pos) m0 hn.1 hn.2 t1 t2
      have ov1 : ∀ M : List Nat, ovs (M.map some) = ivs (M.map fun (x : Nat) => (x : Int)) := fun M => by
        unfold ivs ovs
        rw [List.map_map, List.map_map]
        rfl
      have hl1' : H3 l1 = some (.lst (ivs ((nums L1).map fun (x : Nat) => (x : Int)))) := by rw [s3 _ _ hl1, ← ov1, ← e1]
      have hl2' : H3 l2 = some (.lst (ivs ((nums M2).map fun (x : Nat) => (x : Int)))) := by rw [hl2, ← ov1, ← e2]
      have len1 : (ivs ((nums L1).map fun (x : Nat) => (x : Int))).length = m := by rw [List.length_map, List.length_map, t1.len]
      have len2 : (ivs ((nums M2).map fun (x : Nat) => (x : Int))).length = m := by rw [List.length_map, List.length_map, t2.len]
      refine ⟨_, rfl, _, rfl, l1, l2, _, _, rfl, .of hl1', .of hl2', ?_⟩
      refine comp_zipL (fun v w => match v, w with | .int a, .int b => .int (max a b) | _, _ => .non) (by rw [len1, len2]) (by rw [len1, sizeLine_eq]; omega) (.of hl1') (.of hl2') ?_ ?_
      · intro i x y H4 hx hy s4 R hRR
        obtain ⟨a, rfl, _⟩ := ivs_nth hx
        obtain ⟨b, rfl, _⟩ := ivs_nth hy
        refine ⟨_, rfl, _, rfl, a, b, rfl, ?_⟩
        have e : (if b > a then b else a) = max a b := by
          split <;> omega
        rw [e]
        exact hRR
      · intro H4 p s4 hp
        have s14 := (s13.trans s4)
        have ez : ∀ A B : List Nat, List.zipWith (fun v w => match v, w with | V.int a, V.int b => V.int (max a b) | _, _ => V.non) (ivs (A.map fun (x : Nat) => (x : Int))) (ivs (B.map fun (x : Nat) => (x : Int))) = ivs ((List.zipWith (fun x y => max x y) A B).map fun (x : Nat) => (x : Int)) := by
          intro A
          induction A with
          | nil => intro B; rfl
          | cons a A ih =>
            intro B
            cases B with
            | nil => rfl
            | cons b B =>
              have := ih B
              simp only [ivs, List.map_cons, List.zipWith_cons_cons] at this ⊢
              rw [this]
              congr 2
              omega
        rw [ez]
        refine ⟨p, _, m, _, rfl, upd_same, gS, m0, by omega, by rw [hn.1, hn.2]; rfl, hM, hfw m _ m0 hM, fun ws hw => ?_⟩
        obtain ⟨r1, r2⟩ := q2 ws hw
        exact ⟨fun hf t' H' s' ht' => r1 hf t' H' ((s14.put hp).trans s') ht', fun hf H' s' => r2 hf H' ((s14.put hp).trans s')⟩
    · -- no sum up to 400 is made by both
      have hB : ∀ n : Int, ((far cs + far ds : Nat) : Int) ≤ n → (mk cs n && mk ds n) = true := fun n hn => by
        rw [beyond_far hP g1 (by omega), beyond_far hR g2 (by omega)]
        rfl
      obtain ⟨f1, _⟩ := Purse.far (m := 400) hP
      have b0 : (0 : Int) < ((far cs + far ds : Nat) : Int) := by omega
      obtain ⟨ws, hw⟩ : ∃ ws, Lst (fun n => mk cs n && mk ds n) ws := ⟨gensUp _ (far cs + far ds + (far cs + far ds)), gens_lst fun n hn hg => by
        rcases gn_far hB b0 (hB _ (Int.le_refl _)) hg with z | z <;> omega⟩
      have hne := lst_ne gS hw b0 (hB _ (Int.le_refl _))
      refine (q2 ws hw).2 (fun hf => ?_) _ s1
      cases ws with
      | nil => exact hne rfl
      | cons x r =>
        have hx := (hw.mem x).mp List.mem_cons_self
        have h4 := hf.2 x List.mem_cons_self
        have h1 : (mk cs x && mk ds x) = true := hx.1
        have h0 := hx.2.1
        rw [hno x (by omega) h4] at h1
        cases h1
end
end CY

set_option Elab.async false
set_option linter.all false
set_option maxRecDepth 100000
set_option maxHeartbeats 4000000
namespace CY
open PySem PySem.Spec PyProof.Rows L2
def sp_end6 (EN : Addr) : Sp := fun vs H Q E => ∃ (t : Addr) (cs : List Int), vs = [.ref t] ∧ H t = some (.tup (ivs cs)) ∧ Purse 400 cs ∧ gcdL cs ≠ 1 ∧ ∀ H', Same H H' → E (.ref EN) none H'
section
variable {P : Program} {w : World} {K : PySem.W.Frag} {mg : Str → Option Value} {base : Heap} {c_Endless : Addr}
end
end CY

set_option Elab.async false
set_option linter.all false
set_option maxRecDepth 100000
set_option maxHeartbeats 4000000
namespace CY
open PySem PySem.Spec PyProof.Rows L2
theorem kit_bi (K : PySem.W.Frag) : PySem.W.kitOne K (.type "bool") (.type "int") = some true := by kernel_rfl
theorem kit_si (K : PySem.W.Frag) : PySem.W.kitOne K (.type "str") (.type "int") = some false := by kernel_rfl
theorem kit_ni (K : PySem.W.Frag) : PySem.W.kitOne K (.type "NoneType") (.type "int") = some false := by kernel_rfl
theorem kit_li (K : PySem.W.Frag) : PySem.W.kitOne K (.type "list") (.type "int") = some false := by kernel_rfl
theorem kit_ti (K : PySem.W.Frag) : PySem.W.kitOne K (.type "tuple") (.type "int") = some false := by kernel_rfl
theorem kit_it (K : PySem.W.Frag) : PySem.W.kitOne K (.type "int") (.type "tuple") = some false := by kernel_rfl
theorem kit_bt (K : PySem.W.Frag) : PySem.W.kitOne K (.type "bool") (.type "tuple") = some false := by kernel_rfl
theorem kit_st (K : PySem.W.Frag) : PySem.W.kitOne K (.type "str") (.type "tuple") = some false := by kernel_rfl
theorem kit_nt (K : PySem.W.Frag) : PySem.W.kitOne K (.type "NoneType") (.type "tuple") = some false := by kernel_rfl
theorem kit_lt (K : PySem.W.Frag) : PySem.W.kitOne K (.type "list") (.type "tuple") = some false := by kernel_rfl
theorem Kind.noTup {K : PySem.W.Frag} {H : Hp} {v : V} {b : Bool} (k : Kind H v b) (h : ∀ a xs, v = .ref a → H a ≠ some (.tup xs)) : ∃ t, TyOf K H v t ∧ PySem.W.kitOne K t (.type "tuple") = some false := by
  cases k with
  | int i => exact ⟨_, .int i, kit_it K⟩
  | bl b => exact ⟨_, .bl b, kit_bt K⟩
  | str s => exact ⟨_, .str s, kit_st K⟩
  | non => exact ⟨_, .non, kit_nt K⟩
  | lst e => exact ⟨_, .lst e, kit_lt K⟩
  | tup e => exact absurd e (h _ _ rfl)
/-- no promise -/
def spNo : Sp := fun _ _ _ _ => False
theorem FnOk.inR {P : Program} {w : World} {K : PySem.W.Frag} {mg : Str → Option Value} {base : Heap} {k : Nat} {f : Addr} {fd : FuncData} {ps : List Str} {b : Sp} (F : FnOk P w K mg base (CX1 P w) k f fd ps b) : FnOk P w K mg base (CX1 P w) k f fd ps (orSp spNo b) :=
  F.imp fun _ _ _ _ h => h.elim False.elim id
section
variable {P : Program} {w : World} {K : PySem.W.Frag} {mg : Str → Option Value} {base : Heap} {c_BadPurse c_BadSum c_CoinError : Addr}
theorem no_is_whole {f : Addr} {fd : FuncData} (F : Fun K "is_whole" "is_whole" s_is_whole f fd) (T : Tx mg) : FnOk P w K mg base CX0 1 f fd ["thing"] sp_wholeG := by
  refine F.ok sc_is_whole (fun vs H Q E h => ?_) (fun cdv A outer s H vs Q E hr h => ?_)
  · obtain ⟨v, b, rfl, _⟩ := h
    rfl
  · obtain ⟨v, b, rfl, k, q⟩ := h
    refine ⟨_, (pss_one (ps_ret (pe_and (pe_callB (isinstK (K := K) rfl) (gl_of (by kernel_rfl)) T.b_isinstance boot_isinstance (pa_cons (pv 0) (pa_cons (pe_ty T.b_int boot_int) pa_nil))) (pe_one (pe_un (notK (K := K) rfl) (pe_callB (isinstK (K := K) rfl) (gl_of (by kernel_rfl)) T.b_isinstance boot_isinstance (pa_cons (pv 0) (pa_cons (pe_ty T.b_bool boot_bool) pa_nil)))))))), ?_⟩
    cases k with
    | int i =>
      refine ⟨_, rfl, _, _, _, _, rfl, .int i, kit_ii K, _, rfl, ?_⟩
      refine iteT ?_
      exact ⟨_, rfl, _, _, _, _, rfl, .int i, kit_ib K, false, rfl, q⟩
    | bl b =>
      refine ⟨_, rfl, _, _, _, _, rfl, .bl b, kit_bi K, _, rfl, ?_⟩
      refine iteT ?_
      exact ⟨_, rfl, _, _, _, _, rfl, .bl b, kit_bb K, true, rfl, q⟩
    | str s =>
      refine ⟨_, rfl, _, _, _, _, rfl, .str s, kit_si K, _, rfl, ?_⟩
      exact iteF q
    | non =>
      refine ⟨_, rfl, _, _, _, _, rfl, .non, kit_ni K, _, rfl, ?_⟩
      exact iteF q
    | lst e =>
      refine ⟨_, rfl, _, _, _, _, rfl, .lst e, kit_li K, _, rfl, ?_⟩
      exact iteF q
    | tup e =>
      refine ⟨_, rfl, _, _, _, _, rfl, .tup e, kit_ti K, _, rfl, ?_⟩
      exact iteF q
theorem no_checked {f : Addr} {fd : FuncData} {t1 t2 : Tok} (F : Fun K "checked" "checked" s_checked f fd) (T : Tx mg) (h_MOST_COINS : mg "MOST_COINS" = some (.int 40 t1)) (h_GREATEST_COIN : mg "GREATEST_COIN" = some (.int 400 t2)) (X_BadPurse : Err K mg "BadPurse" c_BadPurse c_CoinError)
    (W_is_whole : Fn P w K mg base "is_whole" ["thing"] 1 sp_wholeG) : FnOk P w K mg base (CX1 P w) 2 f fd ["purse"] (sp_no1 c_BadPurse) := by
  refine F.okX sc_checked (fun vs H Q E h => ?_) (fun cdv A outer s H vs Q E hr h => ?_)
  · obtain ⟨v, rfl, _⟩ := h
    rfl
  · obtain ⟨v, rfl, np, q⟩ := h
    refine ⟨_, (pss_cons (ps_if (pt_not (pt_val (pe_callB (isinstK (K := K) rfl) (gl_of (by kernel_rfl)) T.b_isinstance boot_isinstance (pa_cons (pv 0) (pa_cons (pe_ty T.b_tuple boot_tuple) pa_nil))))) (pss_one (ps_raise (throw1 fun _ _ _ z => z) rfl X_BadPurse.toExc (pa_cons pe_str pa_nil))) pss_nil)
      (pss_cons (ps_if (pt_not (pt_chain op_le op_le pe_int (pe_callB (lenK (K := K) rfl) (gl_of (by kernel_rfl)) T.b_len boot_len (pa_cons (pv 0) pa_nil)) (pe_num h_MOST_COINS))) (pss_one (ps_raise (throw1 fun _ _ _ z => z) rfl X_BadPurse.toExc (pa_cons (pe_fstr (pj_cons pp_str (pj_cons (pp_int (pe_num h_MOST_COINS)) (pj_cons pp_str pj_nil)))) pa_nil))) pss_nil)
      (pss_cons (ps_set (i := 1) sc_checked.nd rfl (Or.inl (by kernel_rfl)) pe_int)
      (pss_cons (ps_for (by passes_own) rfl (pi_seqK (K := K) rfl (pv 0)) (pg_name (i := 2) sc_checked.nd rfl (Or.inl (by kernel_rfl))) (pss_cons (ps_if (pt_not (pt_val (pe_fn W_is_whole (hr.mono (by decide)) (pa_cons (pv 2) pa_nil)))) (pss_one (ps_raise (throw1 fun _ _ _ z => z) rfl X_BadPurse.toExc (pa_cons pe_str pa_nil))) pss_nil)
      (pss_cons (ps_if (pt_not (pt_chain op_lt op_le (pv 1) (pv 2) (pe_num h_GREATEST_COIN))) (pss_one (ps_raise (throw1 fun _ _ _ z => z) rfl X_BadPurse.toExc (pa_cons (pe_fstr (pj_cons pp_str (pj_cons (pp_int (pe_num h_GREATEST_COIN)) (pj_cons pp_str pj_nil)))) pa_nil))) pss_nil)
      (pss_one (ps_set (i := 1) sc_checked.nd rfl (Or.inl (by kernel_rfl)) (pv 2))))))
      (pss_one (ps_ret (pv 0))))))), ?_⟩
    cases np with
    | kind k h =>
      obtain ⟨t, ht, hk⟩ := k.noTup (K := K) h
      refine ⟨_, rfl, _, _, _, _, rfl, ht, hk, _, rfl, ?_⟩
      refine iteT ?_
      exact ⟨by show 1 ≤ sizeLine; decide, q _ (Same.refl _)⟩
    | @tup t xs e k h hz =>
      have hS : SqA K H t xs := .tpl e
      refine ⟨_, rfl, _, _, _, _, rfl, .tup e, kit_tt K, _, rfl, ?_⟩
      refine iteF ?_
      refine ⟨_, rfl, t, xs, rfl, hS, _, _, rfl, rfl, _, rfl, ?_⟩
      by_cases h1 : 1 ≤ xs.length
      · refine ifT (decide_eq_true (by omega)) ?_
        refine ⟨_, _, rfl, rfl, _, rfl, ?_⟩
        by_cases h2 : xs.length ≤ 40
        · refine ifN (decide_eq_true (by omega)) ?_
          have hr0 : risF 0 xs = false := by
            rcases h with z | z | z
            · omega
            · omega
            · exact z
          refine ⟨_, rfl, t, rfl, ?_⟩
          refine for_seq (xs := xs) (fun i σ H' => ∃ (b : Int) (x : Option V), σ = [some (.ref t), some (.int b), x] ∧ H' = H ∧ risF b (xs.drop i) = false) hS ⟨0, none, rfl, rfl, hr0⟩ (fun i σ' H' ⟨_, _, _, e, _⟩ => by rw [e]; exact fun _ z => z) ?_ ?_
          · rintro i v σ H' hv ⟨b, x, rfl, rfl, hb⟩
            obtain ⟨kb, kd⟩ := k v (List.mem_of_getElem? hv)
            have ed : xs.drop i = v :: xs.drop (i + 1) := by
              obtain ⟨a1, a2⟩ := List.getElem?_eq_some_iff.mp hv
              rw [← a2, List.getElem_cons_drop]
            rw [ed] at hb
            refine ⟨_, rfl, v, kb, rfl, kd, _, rfl, ?_⟩
            cases kd with
            | int c =>
              refine iteF ?_
              have hb' : (decide (b < c) && decide (c ≤ 400) && risF c (xs.drop (i + 1))) = false := hb
              refine ⟨_, rfl, _, rfl, _, _, rfl, rfl, _, rfl, ?_⟩
              by_cases g1 : b < c
              · refine ifT (decide_eq_true g1) ?_
                refine ⟨_, _, rfl, rfl, _, rfl, ?_⟩
                by_cases g2 : c ≤ 400
                · refine ifN (decide_eq_true g2) ?_
                  rw [decide_eq_true g1, decide_eq_true g2, Bool.true_and, Bool.true_and] at hb'
                  exact ⟨_, rfl, c, _, rfl, rfl, hb'⟩
                · refine ifT (by show (!decide (c ≤ 400)) = true; rw [decide_eq_false g2]; rfl) ?_
                  exact ⟨by decide +kernel, _, rfl, by decide +kernel, by decide +kernel, by decide +kernel, by decide +kernel, by show 1 ≤ sizeLine; decide, q _ (Same.refl _)⟩
              · refine ifF (decide_eq_false g1) ?_
                refine ⟨_, rfl, ?_⟩
                refine iteT ?_
                exact ⟨by decide +kernel, _, rfl, by decide +kernel, by decide +kernel, by decide +kernel, by decide +kernel, by show 1 ≤ sizeLine; decide, q _ (Same.refl _)⟩
            | bl _ => exact iteT ⟨by show 1 ≤ sizeLine; decide, q _ (Same.refl _)⟩
            | str _ => exact iteT ⟨by show 1 ≤ sizeLine; decide, q _ (Same.refl _)⟩
            | non => exact iteT ⟨by show 1 ≤ sizeLine; decide, q _ (Same.refl _)⟩
            | lst _ => exact iteT ⟨by show 1 ≤ sizeLine; decide, q _ (Same.refl _)⟩
            | tup _ => exact iteT ⟨by show 1 ≤ sizeLine; decide, q _ (Same.refl _)⟩
          · rintro σ H' ⟨b, x, rfl, rfl, hb⟩
            rw [List.drop_length] at hb
            cases hb
        · refine ifT (by show (!decide (((xs.length : Nat) : Int) ≤ 40)) = true; rw [decide_eq_false (by omega)]; rfl) ?_
          exact ⟨by decide +kernel, _, rfl, by decide +kernel, by decide +kernel, by decide +kernel, by decide +kernel, by show 1 ≤ sizeLine; decide, q _ (Same.refl _)⟩
      · refine ifF (decide_eq_false (by omega)) ?_
        refine ⟨_, rfl, ?_⟩
        refine iteT ?_
        exact ⟨by decide +kernel, _, rfl, by decide +kernel, by decide +kernel, by decide +kernel, by decide +kernel, by show 1 ≤ sizeLine; decide, q _ (Same.refl _)⟩
theorem no_divisor_of {f : Addr} {fd : FuncData} (F : Fun K "divisor_of" "divisor_of" s_divisor_of f fd) (D_checked : FnX P w K mg base "checked" ["purse"] 2 (orSp (sp_checked K) (sp_no1 c_BadPurse))) : FnOk P w K mg base (CX1 P w) 3 f fd ["purse"] (sp_no1 c_BadPurse) := by
  refine F.okX sc_divisor_of (fun vs H Q E h => ?_) (fun cdv A outer s H vs Q E hr h => ?_)
  · obtain ⟨v, rfl, _⟩ := h
    rfl
  · obtain ⟨v, rfl, np, q⟩ := h
    exact ⟨_, (pss_cons (ps_set (i := 1) sc_divisor_of.nd rfl (Or.inl (by kernel_rfl)) pe_int) (pss_cons (ps_for (by passes_own) rfl (pi_seqK (K := K) rfl (pe_fnX D_checked (pass1 fun _ _ _ z => z) (hr.mono (by decide)) (pa_cons (pv 0) pa_nil))) (pg_name (i := 2) sc_divisor_of.nd rfl (Or.inl (by kernel_rfl))) pss_never) pss_never)), _, rfl, .inr ⟨v, rfl, np, q⟩⟩
theorem no_least_sums {f : Addr} {fd : FuncData} (F : Fun K "least_sums" "least_sums" s_least_sums f fd) (D_checked : FnX P w K mg base "checked" ["purse"] 2 (orSp (sp_checked K) (sp_no1 c_BadPurse))) : FnOk P w K mg base (CX1 P w) 4 f fd ["purse"] (sp_no1 c_BadPurse) := by
  refine F.okX sc_least_sums (fun vs H Q E h => ?_) (fun cdv A outer s H vs Q E hr h => ?_)
  · obtain ⟨v, rfl, _⟩ := h
    rfl
  · obtain ⟨v, rfl, np, q⟩ := h
    exact ⟨_, (pss_cons (ps_expr (pe_fnX D_checked (pass1 fun _ _ _ z => z) (hr.mono (by decide)) (pa_cons (pv 0) pa_nil))) pss_never), _, rfl, .inr ⟨v, rfl, np, q⟩⟩
theorem no_is_sum {f : Addr} {fd : FuncData} (F : Fun K "is_sum" "is_sum" s_is_sum f fd) (W_is_whole : Fn P w K mg base "is_whole" ["thing"] 1 sp_wholeG) : FnOk P w K mg base CX0 2 f fd ["thing"] sp_sumG := by
  refine F.ok sc_is_sum (fun vs H Q E h => ?_) (fun cdv A outr s H vs Q E hr h => ?_)
  · obtain ⟨v, b, rfl, _⟩ := h
    rfl
  · obtain ⟨v, b, rfl, k, q⟩ := h
    refine ⟨_, (pss_one (ps_ret (pe_and (pe_fn W_is_whole (hr.mono (by decide)) (pa_cons (pv 0) pa_nil)) (pe_one (pe_cmpR op_ge (pv 0) pe_int (nomark _)))))), ?_⟩
    refine ⟨_, rfl, v, b, rfl, k, b, rfl, ?_⟩
    cases k with
    | int i => exact iteT ⟨_, rfl, _, _, rfl, rfl, q⟩
    | bl b => exact iteF q
    | str s => exact iteF q
    | non => exact iteF q
    | lst e => exact iteF q
    | tup e => exact iteF q
theorem no_makes {f : Addr} {fd : FuncData} (F : Fun K "makes" "makes" s_makes f fd) (T : Tx mg) (X_BadSum : Err K mg "BadSum" c_BadSum c_CoinError) (D_least_sums : FnX P w K mg base "least_sums" ["purse"] 4 (orSp sp_lsums (sp_no1 c_BadPurse))) (W_is_sum : Fn P w K mg base "is_sum" ["thing"] 2 sp_sumG) : FnOk P w K mg base (CX1 P w) 5 f fd ["purse", "number"] (sp_noM c_BadPurse c_BadSum) := by
  refine F.okX sc_makes (fun vs H Q E h => ?_) (fun cdv A outer s H vs Q E hr h => ?_)
  · rcases h with ⟨v, n, rfl, _⟩ | ⟨t, cs, v, b, rfl, _⟩ <;> rfl
  · refine ⟨_, (pss_cons (ps_set (i := 2) sc_makes.nd rfl (Or.inl (by kernel_rfl)) (pe_fnX D_least_sums (pass1 fun _ _ _ z => z) (hr.mono (by decide)) (pa_cons (pv 0) pa_nil))) (pss_cons (ps_if (pt_not (pt_val (pe_fn W_is_sum (hr.mono (by decide)) (pa_cons (pv 1) pa_nil)))) (pss_one (ps_raise (throw1 fun _ _ _ z => z) rfl X_BadSum.toExc (pa_cons pe_str pa_nil))) pss_nil) pss_never)), ?_⟩
    rcases h with ⟨v, n, rfl, np, q⟩ | ⟨t, cs, v, b, rfl, ht, hP, k, hb, q⟩
    · exact ⟨_, rfl, .inr ⟨v, rfl, np, q⟩⟩
    · refine ⟨_, rfl, .inl ⟨t, cs, rfl, ht, hP, fun l L H1 s1 hl h1 hT => ?_⟩⟩
      refine ⟨_, rfl, v, b, rfl, k.keep s1, _, rfl, ?_⟩
      rw [hb]
      refine iteT ?_
      exact ⟨by show 1 ≤ sizeLine; decide, q _ s1⟩
end
end CY

set_option Elab.async false
set_option linter.all false
set_option maxRecDepth 100000
set_option maxHeartbeats 4000000
namespace CY
open PySem PySem.Spec PyProof.Rows L2
/-- a number in figures, no 0 ahead -/
def figL (l : List Nat) : Bool := decide (1 ≤ l.length ∧ l.length ≤ 3) && decide (l.head? ≠ some 48) && l.all fun c => decide (c ∈ figs.cps.toList)
def sp_fig : Sp := fun vs H Q _ => ∃ z : Str, vs = [.str z] ∧ z.length ≤ 10000 ∧ Q (.bl (figL z.cps.toList)) H
theorem kit_strstr (K : PySem.W.Frag) : PySem.W.kitOne K (.type "str") (.type "str") = some true := by kernel_rfl
section
variable {P : Program} {w : World} {K : PySem.W.Frag} {mg : Str → Option Value} {base : Heap} {c_BadPurse c_BadText c_CoinError : Addr}
theorem ok_is_number_in_figures {f : Addr} {fd : FuncData} {t5 t6 : Tok} (F : Fun K "is_number_in_figures" "is_number_in_figures" s_is_number_in_figures f fd) (T : Tx mg) (h_FIGURES : mg "FIGURES" = some (.str "0123456789" t5)) (h_MOST_FIGURES : mg "MOST_FIGURES" = some (.int 3 t6)) : FnOk P w K mg base CX0 1 f fd ["text"] sp_fig := by
  refine F.ok sc_is_number_in_figures (fun vs H Q E h => ?_) (fun cdv A outer s H vs Q E hr h => ?_)
  · obtain ⟨z, rfl, _⟩ := h
    rfl
  · obtain ⟨z, rfl, hz, q⟩ := h
    have hz2 : z.length ≤ sizeLine := by rw [sizeLine_eq]; omega
    have ez : z.length = z.cps.toList.length := Array.length_toList.symm
    refine ⟨_, (pss_cons (ps_if (PW.pt (pw_or (pt_not (pt_chain op_le op_le pe_int (pe_callB len_txt (gl_of (by kernel_rfl)) T.b_len boot_len (pa_cons (pv 0) pa_nil)) (pe_num h_MOST_FIGURES))) (pw_or1 (pt_cmpR op_eq (pe_ix ix_str (pv 0) pe_int (fun _ _ => rfl)) pe_str (nomark _))))) (pss_one (ps_ret pe_bl)) pss_nil)
      (pss_cons (ps_for PassesOwn.never rfl (pi_str (pv 0)) (pg_name (i := 1) sc_is_number_in_figures.nd rfl (Or.inl (by kernel_rfl))) (pss_one (ps_if (pt_cmpR op_notin_str (pv 1) (pe_glob (v := V.str "0123456789") (gl_of (by kernel_rfl)) h_FIGURES ⟨_, rfl⟩) (by with_unfolding_all rfl)) (pss_one (ps_ret pe_bl)) pss_nil)))
      (pss_one (ps_ret pe_bl)))), ?_⟩
    refine ⟨_, rfl, z, rfl, hz2, _, _, rfl, rfl, _, rfl, ?_⟩
    by_cases h1 : 1 ≤ z.length
    · refine ifT (decide_eq_true (by omega)) ?_
      refine ⟨_, _, rfl, rfl, _, rfl, ?_⟩
      by_cases h2 : z.length ≤ 3
      · refine ifN (decide_eq_true (by omega)) ?_
        obtain ⟨c0, r0, hl⟩ : ∃ c0 r0, z.cps.toList = c0 :: r0 := by
          cases hc : z.cps.toList with
          | nil => rw [hc] at ez; simp at ez; omega
          | cons c0 r0 => exact ⟨c0, r0, rfl⟩
        have h0 : atI z.cps.toList 0 = some c0 := by
          show atI _ ((0 : Nat) : Int) = _
          exact atI_nat (by rw [hl]; rfl)
        have hlen : decide (1 ≤ z.cps.toList.length ∧ z.cps.toList.length ≤ 3) = true := decide_eq_true (by omega)
        refine ⟨_, rfl, z, 0, c0, rfl, rfl, hz2, h0, rfl, _, rfl, ?_⟩
        by_cases hc0 : c0 = 48
        · refine ifT (decide_eq_true (by rw [hc0]; rfl)) ?_
          have e : figL z.cps.toList = false := by
            unfold figL
            rw [hlen, hl, hc0]
            rfl
          rw [e] at q
          exact q
        · refine ifF (decide_eq_false fun y => hc0 ?_) ?_
          · injection y with y
            have := congrArg (fun w : Str => w.cps.toList) y
            have h' : [c0] = [48] := this
            exact (List.cons.inj h').1
          refine ⟨_, rfl, z, rfl, ?_⟩
          have hh : decide (z.cps.toList.head? ≠ some 48) = true := decide_eq_true (by rw [hl]; simpa using hc0)
          refine for_text (fun i σ H' => ∃ x, σ = [some (.str z), x] ∧ H' = H ∧ (z.cps.toList.take i).all (fun c => decide (c ∈ figs.cps.toList)) = true) ⟨none, rfl, rfl, rfl⟩ ?_ ?_
          · rintro i c σ H' hc ⟨x, rfl, rfl, ha⟩
            have hc' : z.cps.toList[i]? = some c := by rw [Array.getElem?_toList]; exact hc
            refine ⟨_, rfl, _, _, rfl, rfl, _, rfl, ?_⟩
            have fo := StrLaws.found_one figs c
            have fo' : (!(Builtin.Str.occurrences (Str.ofString "0123456789") ⟨#[c]⟩ 0 (Str.ofString "0123456789").length 1).isEmpty) = decide (c ∈ figs.cps.toList) := fo
            rw [fo']
            by_cases hm : c ∈ figs.cps.toList
            · refine ifF (by rw [decide_eq_true hm]; rfl) ?_
              refine ⟨_, rfl, rfl, ?_⟩
              rw [List.take_add_one, hc', List.all_append, ha]
              show (true && (decide (c ∈ figs.cps.toList) && true)) = true
              rw [decide_eq_true hm]
              rfl
            · refine ifT (by rw [decide_eq_false hm]; rfl) ?_
              have e : figL z.cps.toList = false := by
                unfold figL
                rw [hlen, hh]
                show z.cps.toList.all _ = false
                rw [List.all_eq_false]
                exact ⟨c, List.mem_of_getElem? hc', by rw [decide_eq_false hm]; exact Bool.false_ne_true⟩
              rw [e] at q
              exact q
          · rintro σ H' ⟨x, rfl, rfl, ha⟩
            have e : figL z.cps.toList = true := by
              unfold figL
              rw [hlen, hh]
              show z.cps.toList.all _ = true
              have : z.cps.size = z.cps.toList.length := Array.length_toList.symm
              rw [this, List.take_length] at ha
              exact ha
            rw [e] at q
            exact q
      · refine ifT (by show (!decide (((z.length : Nat) : Int) ≤ 3)) = true; rw [decide_eq_false (by omega)]; rfl) ?_
        have e : figL z.cps.toList = false := by
          unfold figL
          rw [decide_eq_false (show ¬ (1 ≤ z.cps.toList.length ∧ z.cps.toList.length ≤ 3) by omega)]
          rfl
        rw [e] at q
        exact q
    · refine ifF (decide_eq_false (by omega)) ?_
      have e : figL z.cps.toList = false := by
        unfold figL
        rw [decide_eq_false (show ¬ (1 ≤ z.cps.toList.length ∧ z.cps.toList.length ≤ 3) by omega)]
        rfl
      rw [e] at q
      refine ⟨_, rfl, ?_⟩
      refine iteT ?_
      exact q
end
end CY

set_option Elab.async false
set_option linter.all false
set_option maxRecDepth 100000
set_option maxHeartbeats 4000000
namespace CY
open PySem PySem.Spec PyProof.Rows L2
def sp_ff6 (N : Addr) : Sp := fun vs H Q E => ∃ (t : Addr) (cs : List Int), vs = [.ref t] ∧ H t = some (.tup (ivs cs)) ∧ Purse 400 cs ∧ m0 cs ≠ 1 ∧ ∀ H', Same H H' → E (.ref N) none H'
def sp_aw6 (M : Addr) : Sp := fun vs H Q E => ∃ (t : Addr) (cs : List Int) (n : Int), vs = [.ref t, .int n] ∧ H t = some (.tup (ivs cs)) ∧ Purse 400 cs ∧ 0 ≤ n ∧ n ≤ 400 ∧ 200 < cw cs n ∧ ∀ H', Same H H' → E (.ref M) none H'
def sp_rd6 (T : Addr) : Sp := fun vs H Q E => vs = [.str ""] ∧ ∀ H', Same H H' → E (.ref T) none H'
section
variable {P : Program} {w : World} {K : PySem.W.Frag} {mg : Str → Option Value} {base : Heap} {c_BadPurse c_BadSum c_Endless c_NoOne c_TooMany c_BadText c_CoinError : Addr} {r1 : Sp}
theorem no_least_sums_of_every_rest {f : Addr} {fd : FuncData} (F : Fun K "least_sums_of_every_rest" "least_sums_of_every_rest" s_least_sums_of_every_rest f fd) (D_check_gaps_end : FnX P w K mg base "check_gaps_end" ["purse"] 4 (sp_endcheck c_Endless)) : FnOk P w K mg base (CX1 P w) 5 f fd ["purse"] (sp_end6 c_Endless) := by
  refine F.okX sc_least_sums_of_every_rest (fun vs H Q E h => ?_) (fun cdv A outer s H vs Q E hr h => ?_)
  · obtain ⟨t, cs, rfl, _⟩ := h
    rfl
  · obtain ⟨t, cs, rfl, ht, hP, hg, q⟩ := h
    exact ⟨_, (pss_cons (ps_expr (pe_fnX D_check_gaps_end (pass1 fun _ _ _ z => z) (hr.mono (by decide)) (pa_cons (pv 0) pa_nil))) pss_never), _, rfl, t, cs, rfl, ht, hP, fun g => absurd g hg, fun _ => q⟩
theorem no_gaps_of {f : Addr} {fd : FuncData} (F : Fun K "gaps_of" "gaps_of" s_gaps_of f fd) (D_least_sums_of_every_rest : FnX P w K mg base "least_sums_of_every_rest" ["purse"] 5 (orSp r1 (sp_end6 c_Endless))) : FnOk P w K mg base (CX1 P w) 8 f fd ["purse"] (sp_end6 c_Endless) := by
  refine F.okX sc_gaps_of (fun vs H Q E h => ?_) (fun cdv A outer s H vs Q E hr h => ?_)
  · obtain ⟨t, cs, rfl, _⟩ := h
    rfl
  · obtain ⟨t, cs, rfl, ht, hP, hg, q⟩ := h
    exact ⟨_, (pss_cons (ps_set (i := 1) sc_gaps_of.nd rfl (Or.inr (by kernel_rfl)) (pe_fnX D_least_sums_of_every_rest (pass1 fun _ _ _ z => z) (hr.mono (by decide)) (pa_cons (pv 0) pa_nil))) pss_never), _, rfl, .inr ⟨t, cs, rfl, ht, hP, hg, q⟩⟩
theorem no_first_fault {f : Addr} {fd : FuncData} (F : Fun K "first_fault" "first_fault" s_first_fault f fd) (T : Tx mg) (X_NoOne : Err K mg "NoOne" c_NoOne c_CoinError) (D_checked : FnX P w K mg base "checked" ["purse"] 2 (orSp (sp_checked K) (sp_no1 c_BadPurse))) : FnOk P w K mg base (CX1 P w) 9 f fd ["purse"] (sp_ff6 c_NoOne) := by
  refine F.okX sc_first_fault (fun vs H Q E h => ?_) (fun cdv A outer s H vs Q E hr h => ?_)
  · obtain ⟨t, cs, rfl, _⟩ := h
    rfl
  · obtain ⟨t, cs, rfl, ht, hP, hm, q⟩ := h
    refine ⟨_, (pss_cons (ps_expr (pe_fnX D_checked (pass1 fun _ _ _ z => z) (hr.mono (by decide)) (pa_cons (pv 0) pa_nil))) (pss_cons (ps_if (pt_cmpR op_ne (pe_ix (ix_anyK (K := K) rfl) (pv 0) pe_int (fun _ _ => rfl)) pe_int (nomark _)) (pss_one (ps_raise (throw1 fun _ _ _ z => z) rfl X_NoOne.toExc (pa_cons pe_str pa_nil))) pss_nil) pss_never)), ?_⟩
    refine ⟨_, rfl, .inl ⟨t, cs, rfl, ht, hP, ?_⟩⟩
    refine ⟨_, rfl, t, _, 0, _, rfl, rfl, .tpl ht, hP.m0.2, rfl, _, rfl, ?_⟩
    rw [ne_dec]
    refine ifT (by rw [decide_eq_false (by omega)]; rfl) ?_
    exact ⟨by show 1 ≤ sizeLine; decide, q _ (Same.refl _)⟩
theorem no_all_ways {f : Addr} {fd : FuncData} {t4 : Tok} (F : Fun K "all_ways" "all_ways" s_all_ways f fd) (T : Tx mg) (h_MOST_WAYS : mg "MOST_WAYS" = some (.int 200 t4)) (X_TooMany : Err K mg "TooMany" c_TooMany c_CoinError) (D_count_ways : FnX P w K mg base "count_ways" ["purse", "number"] 8 (sp_count c_BadSum)) : FnOk P w K mg base (CX1 P w) 9 f fd ["purse", "number"] (sp_aw6 c_TooMany) := by
  refine F.okX sc_all_ways (fun vs H Q E h => ?_) (fun cdv A outer s H vs Q E hr h => ?_)
  · obtain ⟨t, cs, n, rfl, _⟩ := h
    rfl
  · obtain ⟨t, cs, n, rfl, ht, hP, h0, hn, hw, q⟩ := h
    refine ⟨_, (pss_cons (ps_if (pt_cmpR op_gt (pe_fnX D_count_ways (pass1 fun _ _ _ z => z) (hr.mono (by decide)) (pa_cons (pv 0) (pa_cons (pv 1) pa_nil))) (pe_num h_MOST_WAYS) (nomark _)) (pss_one (ps_raise (throw1 fun _ _ _ z => z) rfl X_TooMany.toExc (pa_cons (pe_fstr (pj_cons pp_str (pj_cons (pp_int (pe_num h_MOST_WAYS)) (pj_cons pp_str pj_nil)))) pa_nil))) pss_nil) pss_never), ?_⟩
    refine ⟨_, rfl, _, rfl, t, cs, n, rfl, ht, hP, fun _ _ H1 s1 => ?_, fun z => absurd ⟨h0, hn⟩ z⟩
    refine ⟨_, _, rfl, rfl, _, rfl, ?_⟩
    refine ifT (decide_eq_true (by omega)) ?_
    exact ⟨by decide +kernel, _, rfl, by decide +kernel, by decide +kernel, by decide +kernel, by decide +kernel, by show 1 ≤ sizeLine; decide, q _ s1⟩
theorem no_read {f : Addr} {fd : FuncData} (F : Fun K "read" "read" s_read f fd) (T : Tx mg) (X_BadText : Err K mg "BadText" c_BadText c_CoinError) (C_is_number_in_figures : Fn P w K mg base "is_number_in_figures" ["text"] 1 sp_fig) : FnOk P w K mg base (CX1 P w) 6 f fd ["text"] (sp_rd6 c_BadText) := by
  refine F.okX sc_read (fun vs H Q E h => ?_) (fun cdv A outer s H vs Q E hr h => ?_)
  · obtain ⟨rfl, _⟩ := h
    rfl
  · obtain ⟨rfl, q⟩ := h
    refine ⟨_, (pss_cons (ps_if (pt_not (pt_val (pe_callB (isinstK (K := K) rfl) (gl_of (by kernel_rfl)) T.b_isinstance boot_isinstance (pa_cons (pv 0) (pa_cons (pe_ty T.b_str boot_str) pa_nil))))) (pss_one (ps_raise (throw1 fun _ _ _ z => z) rfl X_BadText.toExc (pa_cons pe_str pa_nil))) pss_nil) (pss_cons (ps_set (i := 1) sc_read.nd rfl (Or.inl (by kernel_rfl)) (pe_bm PySem.F.plainAttrs_str PySem.F.slot_str_split PySem.F.type_str_split mt_split (pv 0) (pa_cons pe_str pa_nil))) (pss_cons (ps_for (by passes_own) rfl (pi_seqK (K := K) rfl (pv 1)) (pg_name (i := 2) sc_read.nd rfl (Or.inl (by kernel_rfl))) (pss_one (ps_if (pt_not (pt_val (pe_fn C_is_number_in_figures (hr.mono (by decide)) (pa_cons (pv 2) pa_nil)))) (pss_one (ps_raise (throw1 fun _ _ _ z => z) rfl X_BadText.toExc (pa_cons pe_str pa_nil))) pss_nil))) pss_never))), ?_⟩
    refine ⟨_, rfl, _, _, _, _, rfl, .str _, kit_strstr K, _, rfl, ?_⟩
    refine iteF ?_
    have e : Txt.split (Str.ofString "") ⟨#[32]⟩ = [(⟨#[]⟩ : Str)] := split_is (ws := [[]]) (by simp) (by simp) rfl
    refine ⟨_, rfl, rfl, Str.ofString "", ⟨#[32]⟩, rfl, rfl, rfl, by decide +kernel, fun l hl => ?_⟩
    rw [e, show List.map V.str [(⟨#[]⟩ : Str)] = [V.str ⟨#[]⟩] from rfl]
    have s1 := (Same.refl H).put (o := .lst [V.str ⟨#[]⟩]) hl
    have h1 : (upd H l (.lst [V.str ⟨#[]⟩])) l = some (.lst [V.str ⟨#[]⟩]) := upd_same
    generalize upd H l (.lst [V.str ⟨#[]⟩]) = H1 at s1 h1 ⊢
    refine ⟨_, rfl, l, rfl, ?_⟩
    refine for_seq (xs := [V.str ⟨#[]⟩]) (fun i σ H' => i = 0 ∧ ∃ x y, σ = [some (.str (Str.ofString "")), some (.ref l), x, y] ∧ H' = H1) (.lst h1) ⟨rfl, none, none, rfl, rfl⟩ (fun i σ' H' ⟨_, _, _, _, e⟩ => by rw [e]; exact fun _ z => z) ?_ ?_
    · rintro i v σ H' hv ⟨rfl, x, y, rfl, rfl⟩
      have ev : V.str ⟨#[]⟩ = v := Option.some.inj hv
      subst ev
      refine ⟨_, rfl, ⟨#[]⟩, rfl, by decide, _, rfl, ?_⟩
      refine iteT ?_
      exact ⟨by show 1 ≤ sizeLine; decide, q _ s1⟩
    · rintro σ H' ⟨z, _⟩
      cases z
end
end CY

set_option Elab.async false
set_option linter.all false
set_option maxRecDepth 100000
set_option maxHeartbeats 4000000
namespace CY
open PySem PySem.Spec PyProof.Rows L2
theorem purse_of {cs : List Int} (h1 : cs.Pairwise (· < ·)) (h2 : cs ≠ []) (h3 : cs.length ≤ 40) (h4 : ∀ c ∈ cs, 1 ≤ c) (h5 : ∀ c ∈ cs, c ≤ 400) : Purse 400 cs := ⟨h1, h2, h3, h4, h5⟩
theorem pu1 : Purse 400 [1] := purse_of (by decide) (by decide) (by decide) (by decide) (by decide)
theorem pu2 : Purse 400 [2] := purse_of (by decide) (by decide) (by decide) (by decide) (by decide)
theorem pu23 : Purse 400 [2, 3] := purse_of (by decide) (by decide) (by decide) (by decide) (by decide)
theorem pu4 : Purse 400 [1, 2, 3, 4] := purse_of (by decide) (by decide) (by decide) (by decide) (by decide)
theorem puA : Purse 400 [399, 400] := purse_of (by decide) (by decide) (by decide) (by decide) (by decide)
theorem puB : Purse 400 [398, 399] := purse_of (by decide) (by decide) (by decide) (by decide) (by decide)
theorem many_ways : 200 < cw [1, 2, 3, 4] 200 := by
  have a : cw [1, 2, 3] 200 ≤ cw [1, 2, 3, 4] 200 := by
    have := cw_any [1, 2, 3, 4] 3 4 (fun c hc => by simp at hc; omega) rfl 200 (by decide)
    have e : [1, 2, 3, 4].eraseIdx 3 = ([1, 2, 3] : List Int) := rfl
    rw [e] at this
    omega
  have st : ∀ n : Int, 0 ≤ n → cw [1, 2, 3] n = cw [1, 2] n + cw [1, 2, 3] (n - 3) := fun n hn => by
    have := cw_any [1, 2, 3] 2 3 (fun c hc => by simp at hc; omega) rfl n hn
    have e : [1, 2, 3].eraseIdx 2 = ([1, 2] : List Int) := rfl
    rw [e] at this
    exact this
  have b1 := st 200 (by decide)
  have b2 := st 197 (by decide)
  have b3 := st 194 (by decide)
  have d1 : cw [1, 2] 200 = 101 := by decide +kernel
  have d2 : cw [1, 2] 197 = 99 := by decide +kernel
  have d3 : cw [1, 2] 194 = 98 := by decide +kernel
  rw [show (200 : Int) - 3 = 197 from rfl] at b1
  rw [show (197 : Int) - 3 = 194 from rfl] at b2
  omega
/-- what both make has a coin beyond 400 -/
theorem tss_nodup {S : Int → Bool} {m : Nat} {M : List Nat} (h : Tss S m M) : M.Nodup := by
  refine List.pairwise_iff_getElem.mpr fun i j hi hj lt e => ?_
  have a := (h.at_ i _ (List.getElem?_eq_getElem hi)).2
  have b := (h.at_ j _ (List.getElem?_eq_getElem hj)).2
  rw [e] at a
  omega
theorem one_of {α : Type} {l : List α} {a : α} (nd : l.Nodup) (h : ∀ x ∈ l, x = a) : l.length ≤ 1 := by
  match l, nd, h with
  | [], _, _ => exact Nat.zero_le _
  | [_], _, _ => exact Nat.le_refl _
  | x :: y :: r, nd, h =>
    have e1 := h x List.mem_cons_self
    have e2 := h y (List.mem_cons_of_mem _ List.mem_cons_self)
    exact absurd (e1.trans e2.symm) ((List.pairwise_cons.mp nd).1 y List.mem_cons_self)
theorem only_399 {n : Int} (h1 : 1 ≤ n) (h2 : n ≤ 400) (hb : (mk [399, 400] n && mk [398, 399] n) = true) : n = 399 := by
  rw [Bool.and_eq_true] at hb
  have key : ∀ n : Int, Made [398, 399] n → n = 0 ∨ n = 398 ∨ n = 399 ∨ 796 ≤ n := fun n hn => by
    induction hn with
    | zero => exact .inl rfl
    | @add k c _ hc ih =>
      simp only [List.mem_cons, List.not_mem_nil, or_false] at hc
      omega
  have b := key n (mk_iff.mp hb.2)
  rcases made_m0 puA (mk_iff.mp hb.1) with z | z
  · omega
  · have e : m0 [399, 400] = 399 := rfl
    rw [e] at z
    omega
theorem few29 (m : Nat) (M : List Nat) (_ : 0 < m) (h : Tss (fun n => mk [399, 400] n && mk [398, 399] n) m M) : few4 M := by
  refine Nat.lt_of_le_of_lt (one_of (a := (399 : Int)) ?_ fun x hx => ?_) (show 1 < 63 by decide)
  · refine List.Nodup.sublist List.filter_sublist ?_
    exact List.pairwise_map.mpr ((tss_nodup h).imp fun {a b} ne e => ne (by omega))
  · obtain ⟨hm, hp⟩ := List.mem_filter.mp hx
    rw [Bool.and_eq_true, decide_eq_true_iff, decide_eq_true_iff] at hp
    obtain ⟨y, hy, rfl⟩ := List.mem_map.mp hm
    obtain ⟨r, hr, e⟩ := List.getElem_of_mem hy
    have := (h.at_ r y (by rw [List.getElem?_eq_getElem hr, e])).1
    exact only_399 (by omega) hp.2 this
theorem too_big {ws : List Int} (h : Lst (fun n => mk [399, 400] n && mk [398, 399] n) ws) : ¬ fits ws := by
  intro hf
  -- only 399 of the numbers to 400 is made by both
  have A : ∀ n : Int, 1 ≤ n → n ≤ 400 → mk [399, 400] n = true → n = 399 ∨ n = 400 := fun n h1 h2 hm => by
    rcases made_m0 puA (mk_iff.mp hm) with z | z
    · omega
    · have e : m0 [399, 400] = 399 := rfl
      rw [e] at z
      omega
  have B : mk [398, 399] 400 = false := by
    cases e : mk [398, 399] 400 with
    | false => rfl
    | true =>
      exfalso
      have key : ∀ n : Int, Made [398, 399] n → n = 0 ∨ n = 398 ∨ n = 399 ∨ 796 ≤ n := fun n hn => by
        induction hn with
        | zero => exact .inl rfl
        | @add k c _ hc ih =>
          simp only [List.mem_cons, List.not_mem_nil, or_false] at hc
          omega
      have := key 400 (mk_iff.mp e)
      omega
  have W : ∀ w ∈ ws, w = 399 := fun w hw => by
    obtain ⟨g1, g2, _⟩ := (h.mem w).mp hw
    have w4 := hf.2 w hw
    rw [Bool.and_eq_true] at g1
    rcases A w (by omega) w4 g1.1 with z | z
    · exact z
    · rw [z, B] at g1
      cases g1.2
  have sA := sg_mk puA.pos
  have sB := sg_mk puB.pos
  have S : Sg (fun n => mk [399, 400] n && mk [398, 399] n) := ⟨by rw [sA.zero, sB.zero]; rfl, fun {a b} h1 h2 => by
    rw [Bool.and_eq_true] at h1 h2 ⊢
    exact ⟨sA.add h1.1 h2.1, sB.add h1.2 h2.2⟩, fun {a} h0 => by rw [sA.neg h0]; rfl⟩
  have big : (mk [399, 400] 159601 && mk [398, 399] 159601) = true := by
    rw [beyond_far puA (by decide) (by show ((159600 : Nat) : Int) ≤ 159601; decide), beyond_far puB (by decide) (by show ((158802 : Nat) : Int) ≤ 159601; decide)]
    rfl
  have md : Made ws 159601 := mk_iff.mp (by rw [lst_made S h]; exact big)
  have dv : ∀ n : Int, Made ws n → (399 : Int) ∣ n := fun n hn => by
    induction hn with
    | zero => exact Int.dvd_zero _
    | add _ hc ih =>
      rw [W _ hc]
      exact Int.dvd_add ih (Int.dvd_refl _)
  have := dv _ md
  omega
def cls7 (a b c d e f g : Addr) : Nat → Addr
  | 0 => a | 1 => b | 2 => c | 3 => d | 4 => e | 5 => f | _ => g
def sp_deed29 (C : Nat → Addr) : Sp := fun vs H Q E => ∃ k : Nat, vs = [.int (k : Int)] ∧ k < 7 ∧ ∀ H', Same H H' → E (.ref (C k)) none H'
def sp_kinds : Sp := fun vs H Q E => ∃ k : Nat, vs = [.int (k : Int)] ∧ k < 7 ∧ ∀ (l : Addr) (H' : Hp), Same H H' → H' l = some (.lst ((List.range 7).map fun j => V.bl (decide (j = k)))) → Q (.ref l) H'
section
variable {P : Program} {w : World} {K : PySem.W.Frag} {mg : Str → Option Value} {base : Heap} {c_BadPurse c_BadSum c_Endless c_NoOne c_TooBig c_TooMany c_BadText c_CoinError : Addr} {r1 r2 r3 r4 r5 r6 : Sp}
theorem ok__law_deed {f : Addr} {fd : FuncData} (F : Fun K "_law_deed" "_law_deed" s__law_deed f fd) (D_checked : FnX P w K mg base "checked" ["purse"] 2 (orSp r1 (sp_no1 c_BadPurse))) (D_makes : FnX P w K mg base "makes" ["purse", "number"] 5 (orSp r2 (sp_noM c_BadPurse c_BadSum))) (D_gaps_of : FnX P w K mg base "gaps_of" ["purse"] 8 (orSp r3 (sp_end6 c_Endless))) (D_first_fault : FnX P w K mg base "first_fault" ["purse"] 9 (orSp r4 (sp_ff6 c_NoOne))) (D_made_by_both : FnX P w K mg base "made_by_both" ["one", "other"] 12 (sp_bothS c_Endless c_TooBig)) (D_all_ways : FnX P w K mg base "all_ways" ["purse", "number"] 9 (orSp r6 (sp_aw6 c_TooMany))) (D_read : FnX P w K mg base "read" ["text"] 6 (orSp r5 (sp_rd6 c_BadText))) :
    FnOk P w K mg base (CX1 P w) 13 f fd ["_law_way"] (sp_deed29 (cls7 c_BadPurse c_BadSum c_Endless c_NoOne c_TooBig c_TooMany c_BadText)) := by
  refine F.okX sc__law_deed (fun vs H Q E h => ?_) (fun cdv A outer s H vs Q E hr h => ?_)
  · obtain ⟨k, rfl, _⟩ := h
    rfl
  · obtain ⟨k, rfl, hk, q⟩ := h
    refine ⟨_, (pss_cons (ps_if (pt_cmpR op_eq (pv 0) pe_int (nomark _)) (pss_one (ps_ret (pe_fnX D_checked (pass1 fun _ _ _ z => z) (hr.mono (by decide)) (pa_cons (pe_tup pa_nil) pa_nil)))) pss_nil)
      (pss_cons (ps_if (pt_cmpR op_eq (pv 0) pe_int (nomark _)) (pss_one (ps_ret (pe_fnX D_makes (pass1 fun _ _ _ z => z) (hr.mono (by decide)) (pa_cons (pe_tup (pa_cons pe_int pa_nil)) (pa_cons (pe_un un_neg pe_int) pa_nil))))) pss_nil)
      (pss_cons (ps_if (pt_cmpR op_eq (pv 0) pe_int (nomark _)) (pss_one (ps_ret (pe_fnX D_gaps_of (pass1 fun _ _ _ z => z) (hr.mono (by decide)) (pa_cons (pe_tup (pa_cons pe_int pa_nil)) pa_nil)))) pss_nil)
      (pss_cons (ps_if (pt_cmpR op_eq (pv 0) pe_int (nomark _)) (pss_one (ps_ret (pe_fnX D_first_fault (pass1 fun _ _ _ z => z) (hr.mono (by decide)) (pa_cons (pe_tup (pa_cons pe_int (pa_cons pe_int pa_nil))) pa_nil)))) pss_nil)
      (pss_cons (ps_if (pt_cmpR op_eq (pv 0) pe_int (nomark _)) (pss_one (ps_ret (pe_fnX D_made_by_both (pass1 fun _ _ _ z => z) (hr.mono (by decide)) (pa_cons (pe_tup (pa_cons pe_int (pa_cons pe_int pa_nil))) (pa_cons (pe_tup (pa_cons pe_int (pa_cons pe_int pa_nil))) pa_nil))))) pss_nil)
      (pss_cons (ps_if (pt_cmpR op_eq (pv 0) pe_int (nomark _)) (pss_one (ps_ret (pe_fnX D_all_ways (pass1 fun _ _ _ z => z) (hr.mono (by decide)) (pa_cons (pe_tup (pa_cons pe_int (pa_cons pe_int (pa_cons pe_int (pa_cons pe_int pa_nil))))) (pa_cons pe_int pa_nil))))) pss_nil)
      (pss_one (ps_ret (pe_fnX D_read (pass1 fun _ _ _ z => z) (hr.mono (by decide)) (pa_cons pe_str pa_nil)))))))))), ?_⟩
    have ne : ∀ {a b : Nat}, a ≠ b → decide (V.int ((a : Nat) : Int) = V.int (b : Int)) = false := fun {a b} z => decide_eq_false fun y => z (by injection y; omega)
    have put : ∀ {H' : Hp} {a : Addr} {o : HO}, Same H H' → H' a = none → Same H (upd H' a o) := fun s z => s.put z
    have s0 := Same.refl H
    refine ⟨_, rfl, rfl, _, rfl, ?_⟩
    refine ite2 (fun z => ?_) (fun z0 => ?_)
    · have e : k = 0 := by have := of_decide_eq_true z; injection this; omega
      subst e
      exact ⟨by show 0 ≤ sizeLine; decide, fun t ht => .inr ⟨.ref t, rfl, .tup (xs := []) upd_same (fun x hx => by cases hx) (.inl rfl) (by decide), fun H' s' => q H' ((s0.put ht).trans s')⟩⟩
    refine ⟨_, rfl, rfl, _, rfl, ?_⟩
    refine ite2 (fun z => ?_) (fun z1 => ?_)
    · have e : k = 1 := by have := of_decide_eq_true z; injection this; omega
      subst e
      exact ⟨by show 1 ≤ sizeLine; decide, fun t ht => ⟨1, rfl, .inr (.inr ⟨t, [1], .int (-1), true, rfl, upd_same, pu1, .int _, rfl, fun H' s' => q H' ((s0.put ht).trans s')⟩)⟩⟩
    refine ⟨_, rfl, rfl, _, rfl, ?_⟩
    refine ite2 (fun z => ?_) (fun z2 => ?_)
    · have e : k = 2 := by have := of_decide_eq_true z; injection this; omega
      subst e
      exact ⟨by show 1 ≤ sizeLine; decide, fun t ht => .inr ⟨t, [2], rfl, upd_same, pu2, by decide, fun H' s' => q H' ((s0.put ht).trans s')⟩⟩
    refine ⟨_, rfl, rfl, _, rfl, ?_⟩
    refine ite2 (fun z => ?_) (fun z3 => ?_)
    · have e : k = 3 := by have := of_decide_eq_true z; injection this; omega
      subst e
      exact ⟨by show 2 ≤ sizeLine; decide, fun t ht => .inr ⟨t, [2, 3], rfl, upd_same, pu23, by decide, fun H' s' => q H' ((s0.put ht).trans s')⟩⟩
    refine ⟨_, rfl, rfl, _, rfl, ?_⟩
    refine ite2 (fun z => ?_) (fun z4 => ?_)
    · have e : k = 4 := by have := of_decide_eq_true z; injection this; omega
      subst e
      refine ⟨by show 2 ≤ sizeLine; decide, fun t ht => ⟨by show 2 ≤ sizeLine; decide, fun u hu => ⟨t, u, [399, 400], [398, 399], rfl, by rw [upd_ne (ne_of_none upd_same hu)]; exact upd_same, upd_same, puA, puB, few29, fun g => absurd ⟨by decide, by decide⟩ g, fun _ _ ws hw => ⟨fun ft => absurd ft (too_big hw), fun _ H' s' => q H' (((s0.put ht).put hu).trans s')⟩⟩⟩⟩
    refine ⟨_, rfl, rfl, _, rfl, ?_⟩
    refine ite2 (fun z => ?_) (fun z5 => ?_)
    · have e : k = 5 := by have := of_decide_eq_true z; injection this; omega
      subst e
      exact ⟨by show 4 ≤ sizeLine; decide, fun t ht => .inr ⟨t, [1, 2, 3, 4], 200, rfl, upd_same, pu4, by decide, by decide, many_ways, fun H' s' => q H' ((s0.put ht).trans s')⟩⟩
    have e : k = 6 := by
      have y : ∀ j : Nat, ¬ decide (V.int ((k : Nat) : Int) = V.int (j : Int)) = true → k ≠ j := fun j h e => h (decide_eq_true (by rw [e]))
      have := y 0 z0; have := y 1 z1; have := y 2 z2; have := y 3 z3; have := y 4 z4; have := y 5 z5
      omega
    subst e
    exact .inr ⟨rfl, q⟩
theorem ok__law_kinds_of {f : Addr} {fd : FuncData} (F : Fun K "_law_kinds_of" "_law_kinds_of" s__law_kinds_of f fd) (T : Tx mg) (X_CoinError : Exc K mg "CoinError" c_CoinError) (X_BadPurse : Err K mg "BadPurse" c_BadPurse c_CoinError) (X_BadSum : Err K mg "BadSum" c_BadSum c_CoinError) (X_Endless : Err K mg "Endless" c_Endless c_CoinError) (X_NoOne : Err K mg "NoOne" c_NoOne c_CoinError) (X_TooBig : Err K mg "TooBig" c_TooBig c_CoinError) (X_TooMany : Err K mg "TooMany" c_TooMany c_CoinError) (X_BadText : Err K mg "BadText" c_BadText c_CoinError) (K_BadPurse : ExcLook K c_BadPurse) (K_BadSum : ExcLook K c_BadSum) (K_Endless : ExcLook K c_Endless) (K_NoOne : ExcLook K c_NoOne) (K_TooBig : ExcLook K c_TooBig) (K_TooMany : ExcLook K c_TooMany) (K_BadText : ExcLook K c_BadText)
    (I_01 : PySem.W.kitOne K (.ref c_BadPurse) (.ref c_BadSum) = some false) (I_02 : PySem.W.kitOne K (.ref c_BadPurse) (.ref c_Endless) = some false) (I_03 : PySem.W.kitOne K (.ref c_BadPurse) (.ref c_NoOne) = some false) (I_04 : PySem.W.kitOne K (.ref c_BadPurse) (.ref c_TooBig) = some false) (I_05 : PySem.W.kitOne K (.ref c_BadPurse) (.ref c_TooMany) = some false) (I_06 : PySem.W.kitOne K (.ref c_BadPurse) (.ref c_BadText) = some false) (I_10 : PySem.W.kitOne K (.ref c_BadSum) (.ref c_BadPurse) = some false) (I_12 : PySem.W.kitOne K (.ref c_BadSum) (.ref c_Endless) = some false) (I_13 : PySem.W.kitOne K (.ref c_BadSum) (.ref c_NoOne) = some false) (I_14 : PySem.W.kitOne K (.ref c_BadSum) (.ref c_TooBig) = some false) (I_15 : PySem.W.kitOne K (.ref c_BadSum) (.ref c_TooMany) = some false) (I_16 : PySem.W.kitOne K (.ref c_BadSum) (.ref c_BadText) = some false) (I_20 : PySem.W.kitOne K (.ref c_Endless) (.ref c_BadPurse) = some false) (I_21 : PySem.W.kitOne K (.ref c_Endless) (.ref c_BadSum) = some false) (I_23 : PySem.W.kitOne K (.ref c_Endless) (.ref c_NoOne) = some false) (I_24 : PySem.W.kitOne K (.ref c_Endless) (.ref c_TooBig) = some false) (I_25 : PySem.W.kitOne K (.ref c_Endless) (.ref c_TooMany) = some false) (I_26 : PySem.W.kitOne K (.ref c_Endless) (.ref c_BadText) = some false) (I_30 : PySem.W.kitOne K (.ref c_NoOne) (.ref c_BadPurse) = some false) (I_31 : PySem.W.kitOne K (.ref c_NoOne) (.ref c_BadSum) = some false) (I_32 : PySem.W.kitOne K (.ref c_NoOne) (.ref c_Endless) = some false) (I_34 : PySem.W.kitOne K (.ref c_NoOne) (.ref c_TooBig) = some false) (I_35 : PySem.W.kitOne K (.ref c_NoOne) (.ref c_TooMany) = some false) (I_36 : PySem.W.kitOne K (.ref c_NoOne) (.ref c_BadText) = some false) (I_40 : PySem.W.kitOne K (.ref c_TooBig) (.ref c_BadPurse) = some false) (I_41 : PySem.W.kitOne K (.ref c_TooBig) (.ref c_BadSum) = some false) (I_42 : PySem.W.kitOne K (.ref c_TooBig) (.ref c_Endless) = some false) (I_43 : PySem.W.kitOne K (.ref c_TooBig) (.ref c_NoOne) = some false) (I_45 : PySem.W.kitOne K (.ref c_TooBig) (.ref c_TooMany) = some false) (I_46 : PySem.W.kitOne K (.ref c_TooBig) (.ref c_BadText) = some false) (I_50 : PySem.W.kitOne K (.ref c_TooMany) (.ref c_BadPurse) = some false) (I_51 : PySem.W.kitOne K (.ref c_TooMany) (.ref c_BadSum) = some false) (I_52 : PySem.W.kitOne K (.ref c_TooMany) (.ref c_Endless) = some false) (I_53 : PySem.W.kitOne K (.ref c_TooMany) (.ref c_NoOne) = some false) (I_54 : PySem.W.kitOne K (.ref c_TooMany) (.ref c_TooBig) = some false) (I_56 : PySem.W.kitOne K (.ref c_TooMany) (.ref c_BadText) = some false) (I_60 : PySem.W.kitOne K (.ref c_BadText) (.ref c_BadPurse) = some false) (I_61 : PySem.W.kitOne K (.ref c_BadText) (.ref c_BadSum) = some false) (I_62 : PySem.W.kitOne K (.ref c_BadText) (.ref c_Endless) = some false) (I_63 : PySem.W.kitOne K (.ref c_BadText) (.ref c_NoOne) = some false) (I_64 : PySem.W.kitOne K (.ref c_BadText) (.ref c_TooBig) = some false) (I_65 : PySem.W.kitOne K (.ref c_BadText) (.ref c_TooMany) = some false)
    (D__law_deed : FnX P w K mg base "_law_deed" ["_law_way"] 13 (sp_deed29 (cls7 c_BadPurse c_BadSum c_Endless c_NoOne c_TooBig c_TooMany c_BadText))) : FnOk P w K mg base CX0 14 f fd ["_law_way"] sp_kinds := by
  refine F.ok sc__law_kinds_of (fun vs H Q E h => ?_) (fun cdv A outer s H vs Q E hr h => ?_)
  · obtain ⟨k, rfl, _⟩ := h
    rfl
  · obtain ⟨k, rfl, hk, q⟩ := h
    refine ⟨_, (pss_cons (ps_set (i := 1) sc__law_kinds_of.nd rfl (Or.inl (by kernel_rfl)) (pe_lst pa_nil))
      (pss_cons (ps_tryAs (i := 2) X_CoinError rfl rfl rfl sc__law_kinds_of.nd rfl (by kernel_rfl) (fun pn xe E hx => (pss_one (ps_expr (pe_fnX D__law_deed hx (hr.mono (by decide)) (pa_cons (pv 0) pa_nil))))) (fun pn y oy hp => (pss_cons (ps_set (i := 1) sc__law_kinds_of.nd rfl (Or.inl (by kernel_rfl)) (pe_lst (pa_cons (pe_callB (call_isiX (K := K) rfl hp) (gl_of (by kernel_rfl)) T.b_isinstance boot_isinstance (pa_cons (pv 2) (pa_cons (pe_glob (v := V.ref c_BadPurse) (gl_of (by kernel_rfl)) X_BadPurse.mg rfl) pa_nil))) (pa_cons (pe_callB (call_isiX (K := K) rfl hp) (gl_of (by kernel_rfl)) T.b_isinstance boot_isinstance (pa_cons (pv 2) (pa_cons (pe_glob (v := V.ref c_BadSum) (gl_of (by kernel_rfl)) X_BadSum.mg rfl) pa_nil))) (pa_cons (pe_callB (call_isiX (K := K) rfl hp) (gl_of (by kernel_rfl)) T.b_isinstance boot_isinstance (pa_cons (pv 2) (pa_cons (pe_glob (v := V.ref c_Endless) (gl_of (by kernel_rfl)) X_Endless.mg rfl) pa_nil))) (pa_cons (pe_callB (call_isiX (K := K) rfl hp) (gl_of (by kernel_rfl)) T.b_isinstance boot_isinstance (pa_cons (pv 2) (pa_cons (pe_glob (v := V.ref c_NoOne) (gl_of (by kernel_rfl)) X_NoOne.mg rfl) pa_nil))) pa_nil))))))
      (pss_one (ps_set (i := 1) sc__law_kinds_of.nd rfl (Or.inl (by kernel_rfl)) (pe_op op_cat (pv 1) (pe_lst (pa_cons (pe_callB (call_isiX (K := K) rfl hp) (gl_of (by kernel_rfl)) T.b_isinstance boot_isinstance (pa_cons (pv 2) (pa_cons (pe_glob (v := V.ref c_TooBig) (gl_of (by kernel_rfl)) X_TooBig.mg rfl) pa_nil))) (pa_cons (pe_callB (call_isiX (K := K) rfl hp) (gl_of (by kernel_rfl)) T.b_isinstance boot_isinstance (pa_cons (pv 2) (pa_cons (pe_glob (v := V.ref c_TooMany) (gl_of (by kernel_rfl)) X_TooMany.mg rfl) pa_nil))) (pa_cons (pe_callB (call_isiX (K := K) rfl hp) (gl_of (by kernel_rfl)) T.b_isinstance boot_isinstance (pa_cons (pv 2) (pa_cons (pe_glob (v := V.ref c_BadText) (gl_of (by kernel_rfl)) X_BadText.mg rfl) pa_nil))) pa_nil))))))))))
      (pss_one (ps_ret (pv 1))))), ?_⟩
    refine ⟨by show 0 ≤ sizeLine; decide, fun l0 hl0 => ?_⟩
    refine ⟨_, rfl, k, rfl, hk, fun H' sx => ?_⟩
    have s' := ((Same.refl H).put (o := .lst []) hl0).trans sx
    clear sx
    match k, hk with
      | 0, _ =>
        refine ⟨c_BadPurse, rfl, X_BadPurse.ok, X_BadPurse.up, fun y oy σ hc hf hl => ?_⟩
        match σ, hl with
        | [x0, x1, x2], _ =>
          refine ⟨_, rfl, c_BadPurse, _, _, true, rfl, hc, hf, rfl, K_BadPurse, if_pos (beq_self_eq_true _), ?_⟩
          refine ⟨_, rfl, c_BadPurse, _, _, false, rfl, hc, hf, rfl, K_BadPurse, I_01, ?_⟩
          refine ⟨_, rfl, c_BadPurse, _, _, false, rfl, hc, hf, rfl, K_BadPurse, I_02, ?_⟩
          refine ⟨_, rfl, c_BadPurse, _, _, false, rfl, hc, hf, rfl, K_BadPurse, I_03, ?_⟩
          refine ⟨by show 4 ≤ sizeLine; decide, fun l1 hl1 => ?_⟩
          refine ⟨_, rfl, ?_⟩
          refine ⟨_, rfl, c_BadPurse, _, _, false, rfl, hc, hf, rfl, K_BadPurse, I_04, ?_⟩
          refine ⟨_, rfl, c_BadPurse, _, _, false, rfl, hc, hf, rfl, K_BadPurse, I_05, ?_⟩
          refine ⟨_, rfl, c_BadPurse, _, _, false, rfl, hc, hf, rfl, K_BadPurse, I_06, ?_⟩
          refine ⟨by show 3 ≤ sizeLine; decide, fun l2 hl2 => ?_⟩
          refine ⟨l1, l2, _, _, rfl, rfl, by rw [upd_ne (ne_of_none upd_same hl2)]; exact upd_same, upd_same, by show 7 ≤ sizeLine; decide, fun l3 hl3 => ?_⟩
          exact ⟨_, rfl, q l3 _ (((s'.put hl1).put hl2).put hl3) upd_same⟩
      | 1, _ =>
        refine ⟨c_BadSum, rfl, X_BadSum.ok, X_BadSum.up, fun y oy σ hc hf hl => ?_⟩
        match σ, hl with
        | [x0, x1, x2], _ =>
          refine ⟨_, rfl, c_BadSum, _, _, false, rfl, hc, hf, rfl, K_BadSum, I_10, ?_⟩
          refine ⟨_, rfl, c_BadSum, _, _, true, rfl, hc, hf, rfl, K_BadSum, if_pos (beq_self_eq_true _), ?_⟩
          refine ⟨_, rfl, c_BadSum, _, _, false, rfl, hc, hf, rfl, K_BadSum, I_12, ?_⟩
          refine ⟨_, rfl, c_BadSum, _, _, false, rfl, hc, hf, rfl, K_BadSum, I_13, ?_⟩
          refine ⟨by show 4 ≤ sizeLine; decide, fun l1 hl1 => ?_⟩
          refine ⟨_, rfl, ?_⟩
          refine ⟨_, rfl, c_BadSum, _, _, false, rfl, hc, hf, rfl, K_BadSum, I_14, ?_⟩
          refine ⟨_, rfl, c_BadSum, _, _, false, rfl, hc, hf, rfl, K_BadSum, I_15, ?_⟩
          refine ⟨_, rfl, c_BadSum, _, _, false, rfl, hc, hf, rfl, K_BadSum, I_16, ?_⟩
          refine ⟨by show 3 ≤ sizeLine; decide, fun l2 hl2 => ?_⟩
          refine ⟨l1, l2, _, _, rfl, rfl, by rw [upd_ne (ne_of_none upd_same hl2)]; exact upd_same, upd_same, by show 7 ≤ sizeLine; decide, fun l3 hl3 => ?_⟩
          exact ⟨_, rfl, q l3 _ (((s'.put hl1).put hl2).put hl3) upd_same⟩
      | 2, _ =>
        refine ⟨c_Endless, rfl, X_Endless.ok, X_Endless.up, fun y oy σ hc hf hl => ?_⟩
        match σ, hl with
        | [x0, x1, x2], _ =>
          refine ⟨_, rfl, c_Endless, _, _, false, rfl, hc, hf, rfl, K_Endless, I_20, ?_⟩
          refine ⟨_, rfl, c_Endless, _, _, false, rfl, hc, hf, rfl, K_Endless, I_21, ?_⟩
          refine ⟨_, rfl, c_Endless, _, _, true, rfl, hc, hf, rfl, K_Endless, if_pos (beq_self_eq_true _), ?_⟩
          refine ⟨_, rfl, c_Endless, _, _, false, rfl, hc, hf, rfl, K_Endless, I_23, ?_⟩
          refine ⟨by show 4 ≤ sizeLine; decide, fun l1 hl1 => ?_⟩
          refine ⟨_, rfl, ?_⟩
          refine ⟨_, rfl, c_Endless, _, _, false, rfl, hc, hf, rfl, K_Endless, I_24, ?_⟩
          refine ⟨_, rfl, c_Endless, _, _, false, rfl, hc, hf, rfl, K_Endless, I_25, ?_⟩
          refine ⟨_, rfl, c_Endless, _, _, false, rfl, hc, hf, rfl, K_Endless, I_26, ?_⟩
          refine ⟨by show 3 ≤ sizeLine; decide, fun l2 hl2 => ?_⟩
          refine ⟨l1, l2, _, _, rfl, rfl, by rw [upd_ne (ne_of_none upd_same hl2)]; exact upd_same, upd_same, by show 7 ≤ sizeLine; decide, fun l3 hl3 => ?_⟩
          exact ⟨_, rfl, q l3 _ (((s'.put hl1).put hl2).put hl3) upd_same⟩
      | 3, _ =>
        refine ⟨c_NoOne, rfl, X_NoOne.ok, X_NoOne.up, fun y oy σ hc hf hl => ?_⟩
        match σ, hl with
        | [x0, x1, x2], _ =>
          refine ⟨_, rfl, c_NoOne, _, _, false, rfl, hc, hf, rfl, K_NoOne, I_30, ?_⟩
          refine ⟨_, rfl, c_NoOne, _, _, false, rfl, hc, hf, rfl, K_NoOne, I_31, ?_⟩
          refine ⟨_, rfl, c_NoOne, _, _, false, rfl, hc, hf, rfl, K_NoOne, I_32, ?_⟩
          refine ⟨_, rfl, c_NoOne, _, _, true, rfl, hc, hf, rfl, K_NoOne, if_pos (beq_self_eq_true _), ?_⟩
          refine ⟨by show 4 ≤ sizeLine; decide, fun l1 hl1 => ?_⟩
          refine ⟨_, rfl, ?_⟩
          refine ⟨_, rfl, c_NoOne, _, _, false, rfl, hc, hf, rfl, K_NoOne, I_34, ?_⟩
          refine ⟨_, rfl, c_NoOne, _, _, false, rfl, hc, hf, rfl, K_NoOne, I_35, ?_⟩
          refine ⟨_, rfl, c_NoOne, _, _, false, rfl, hc, hf, rfl, K_NoOne, I_36, ?_⟩
          refine ⟨by show 3 ≤ sizeLine; decide, fun l2 hl2 => ?_⟩
          refine ⟨l1, l2, _, _, rfl, rfl, by rw [upd_ne (ne_of_none upd_same hl2)]; exact upd_same, upd_same, by show 7 ≤ sizeLine; decide, fun l3 hl3 => ?_⟩
          exact ⟨_, rfl, q l3 _ (((s'.put hl1).put hl2).put hl3) upd_same⟩
      | 4, _ =>
        refine ⟨c_TooBig, rfl, X_TooBig.ok, X_TooBig.up, fun y oy σ hc hf hl => ?_⟩
        match σ, hl with
        | [x0, x1, x2], _ =>
          refine ⟨_, rfl, c_TooBig, _, _, false, rfl, hc, hf, rfl, K_TooBig, I_40, ?_⟩
          refine ⟨_, rfl, c_TooBig, _, _, false, rfl, hc, hf, rfl, K_TooBig, I_41, ?_⟩
          refine ⟨_, rfl, c_TooBig, _, _, false, rfl, hc, hf, rfl, K_TooBig, I_42, ?_⟩
          refine ⟨_, rfl, c_TooBig, _, _, false, rfl, hc, hf, rfl, K_TooBig, I_43, ?_⟩
          refine ⟨by show 4 ≤ sizeLine; decide, fun l1 hl1 => ?_⟩
          refine ⟨_, rfl, ?_⟩
          refine ⟨_, rfl, c_TooBig, _, _, true, rfl, hc, hf, rfl, K_TooBig, if_pos (beq_self_eq_true _), ?_⟩
          refine ⟨_, rfl, c_TooBig, _, _, false, rfl, hc, hf, rfl, K_TooBig, I_45, ?_⟩
          refine ⟨_, rfl, c_TooBig, _, _, false, rfl, hc, hf, rfl, K_TooBig, I_46, ?_⟩
          refine ⟨by show 3 ≤ sizeLine; decide, fun l2 hl2 => ?_⟩
          refine ⟨l1, l2, _, _, rfl, rfl, by rw [upd_ne (ne_of_none upd_same hl2)]; exact upd_same, upd_same, by show 7 ≤ sizeLine; decide, fun l3 hl3 => ?_⟩
          exact ⟨_, rfl, q l3 _ (((s'.put hl1).put hl2).put hl3) upd_same⟩
      | 5, _ =>
        refine ⟨c_TooMany, rfl, X_TooMany.ok, X_TooMany.up, fun y oy σ hc hf hl => ?_⟩
        match σ, hl with
        | [x0, x1, x2], _ =>
          refine ⟨_, rfl, c_TooMany, _, _, false, rfl, hc, hf, rfl, K_TooMany, I_50, ?_⟩
          refine ⟨_, rfl, c_TooMany, _, _, false, rfl, hc, hf, rfl, K_TooMany, I_51, ?_⟩
          refine ⟨_, rfl, c_TooMany, _, _, false, rfl, hc, hf, rfl, K_TooMany, I_52, ?_⟩
          refine ⟨_, rfl, c_TooMany, _, _, false, rfl, hc, hf, rfl, K_TooMany, I_53, ?_⟩
          refine ⟨by show 4 ≤ sizeLine; decide, fun l1 hl1 => ?_⟩
          refine ⟨_, rfl, ?_⟩
          refine ⟨_, rfl, c_TooMany, _, _, false, rfl, hc, hf, rfl, K_TooMany, I_54, ?_⟩
          refine ⟨_, rfl, c_TooMany, _, _, true, rfl, hc, hf, rfl, K_TooMany, if_pos (beq_self_eq_true _), ?_⟩
          refine ⟨_, rfl, c_TooMany, _, _, false, rfl, hc, hf, rfl, K_TooMany, I_56, ?_⟩
          refine ⟨by show 3 ≤ sizeLine; decide, fun l2 hl2 => ?_⟩
          refine ⟨l1, l2, _, _, rfl, rfl, by rw [upd_ne (ne_of_none upd_same hl2)]; exact upd_same, upd_same, by show 7 ≤ sizeLine; decide, fun l3 hl3 => ?_⟩
          exact ⟨_, rfl, q l3 _ (((s'.put hl1).put hl2).put hl3) upd_same⟩
      | 6, _ =>
        refine ⟨c_BadText, rfl, X_BadText.ok, X_BadText.up, fun y oy σ hc hf hl => ?_⟩
        match σ, hl with
        | [x0, x1, x2], _ =>
          refine ⟨_, rfl, c_BadText, _, _, false, rfl, hc, hf, rfl, K_BadText, I_60, ?_⟩
          refine ⟨_, rfl, c_BadText, _, _, false, rfl, hc, hf, rfl, K_BadText, I_61, ?_⟩
          refine ⟨_, rfl, c_BadText, _, _, false, rfl, hc, hf, rfl, K_BadText, I_62, ?_⟩
          refine ⟨_, rfl, c_BadText, _, _, false, rfl, hc, hf, rfl, K_BadText, I_63, ?_⟩
          refine ⟨by show 4 ≤ sizeLine; decide, fun l1 hl1 => ?_⟩
          refine ⟨_, rfl, ?_⟩
          refine ⟨_, rfl, c_BadText, _, _, false, rfl, hc, hf, rfl, K_BadText, I_64, ?_⟩
          refine ⟨_, rfl, c_BadText, _, _, false, rfl, hc, hf, rfl, K_BadText, I_65, ?_⟩
          refine ⟨_, rfl, c_BadText, _, _, true, rfl, hc, hf, rfl, K_BadText, if_pos (beq_self_eq_true _), ?_⟩
          refine ⟨by show 3 ≤ sizeLine; decide, fun l2 hl2 => ?_⟩
          refine ⟨l1, l2, _, _, rfl, rfl, by rw [upd_ne (ne_of_none upd_same hl2)]; exact upd_same, upd_same, by show 7 ≤ sizeLine; decide, fun l3 hl3 => ?_⟩
          exact ⟨_, rfl, q l3 _ (((s'.put hl1).put hl2).put hl3) upd_same⟩
theorem ok_law {f : Addr} {fd : FuncData} (F : Fun K "law" "law" s_law f fd) (T : Tx mg) (C__law_cell : Fn P w K mg base "_law_cell" ["_law_script", "_law_k"] 1 (sp_cell K)) (C__law_kinds_of : Fn P w K mg base "_law_kinds_of" ["_law_way"] 14 sp_kinds) : FnOk P w K mg base CX0 15 f fd ["_law_script"] (sp_law K) := by
  refine F.ok sc_law (fun vs H Q E h => ?_) (fun cdv A outer s H vs Q E hr h => ?_)
  · obtain ⟨a, ns, rfl, _⟩ := h
    rfl
  · obtain ⟨a, ns, rfl, hS, hlen, q⟩ := h
    have hu0 := hr.units0
    refine ⟨_, (pss_cons (ps_set (i := 1) sc_law.nd rfl (Or.inr (by kernel_rfl)) (pe_op op_mod (pe_fn C__law_cell (hr.mono (by decide)) (pa_cons (pv 0) (pa_cons pe_int pa_nil))) pe_int))
      (pss_one (ps_ret (pe_cmpR (eqLK (K := K) rfl hu0) (pe_fn C__law_kinds_of (hr.mono (by decide)) (pa_cons (pv 1) pa_nil)) (pe_comp (x := "_law_k") (M := ["_law_script", "_law_way"]) rfl (CompScope.of (by kernel_rfl)) (pi_range1 (gl_of (by kernel_rfl)) T.b_range (pa_cons pe_int pa_nil)) (fun _ _ _ _ _ => pts_nil) (fun _ _ _ _ _ => (pe_cmpR op_eq (pv 0) (pv 2) (nomark _)))) (nomark _))))), ?_⟩
    have m0 := Int.emod_nonneg (cell ns 0) (show (7 : Int) ≠ 0 by decide)
    have m1 := Int.emod_lt_of_pos (cell ns 0) (show (0 : Int) < 7 by decide)
    refine ⟨_, rfl, a, ns, 0, rfl, hS, by decide, _, _, rfl, rfl, by show (0 : Int) < 7; decide, ?_⟩
    obtain ⟨k, hk⟩ : ∃ k : Nat, cell ns 0 % 7 = (k : Int) := ⟨(cell ns 0 % 7).toNat, by omega⟩
    dsimp only
    rw [hk]
    refine ⟨_, rfl, k, rfl, by omega, fun l H1 s1 h1 => ?_⟩
    refine ⟨7, rfl, by decide, by decide, ?_⟩
    refine comp_range (fun _ H' => H' = H1) (fun _ => true) (fun v => V.bl (decide (v = V.int (k : Int)))) (by decide) rfl ?_ ?_
    · rintro i x H2 R R' hx rfl hR hR'
      obtain ⟨hi, rfl⟩ := rngV_nth hx
      exact true_then ⟨_, rfl, _, rfl, rfl, hR H2 rfl rfl⟩
    · rintro H2 l2 rfl hl2
      have e : ((rngV 0 7).filter fun _ => true).map (fun v => V.bl (decide (v = V.int (k : Int)))) = (List.range 7).map fun j => V.bl (decide (j = k)) := by
        rw [List.filter_eq_self.mpr fun _ _ => rfl]
        unfold rngV
        rw [List.map_map]
        refine List.map_congr_left fun j _ => ?_
        show V.bl (decide (V.int (0 + (j : Int)) = V.int (k : Int))) = V.bl (decide (j = k))
        rw [eq_dec]
        congr 1
        rw [decide_eq_decide]
        omega
      rw [show ((7 : Int)).toNat = 7 from rfl, e]
      have hk7 : k < 7 := by omega
      have hn : l ≠ l2 := ne_of_none h1 hl2
      refine ⟨l, l2, _, _, rfl, rfl, .of (by rw [upd_ne hn]; exact h1), .of upd_same, ?_, ?_, ?_⟩
      · match k, hk7 with
        | 0, _ | 1, _ | 2, _ | 3, _ | 4, _ | 5, _ | 6, _ => rfl
      · match k, hk7 with
        | 0, _ | 1, _ | 2, _ | 3, _ | 4, _ | 5, _ | 6, _ => rfl
      · have ee : ∀ xs : List V, xs = (List.range 7).map (fun j => V.bl (decide (j = k))) → (if false = true then !eqVs xs xs else eqVs xs xs) = true := fun xs hx => by
          rw [if_neg Bool.false_ne_true, hx]
          match k, hk7 with
          | 0, _ | 1, _ | 2, _ | 3, _ | 4, _ | 5, _ | 6, _ => rfl
        have := ee _ rfl
        dsimp only
        rw [this]
        exact q _
end
end CY

set_option Elab.async false
set_option linter.all false
set_option maxRecDepth 100000
namespace L2
open PySem PySem.Spec PyProof.Rows
/-- the same end behind the other head -/
theorem walkZ_of {l : PySem.W.OpenLaw} {n k : Nat} {q : Program} {loose : List Str} {XP : (Str → Option Value) → Heap → Prop} {d : DefRec} {K : Params → PySem.W.Frag} {CX : World → CXT} {sp : World → Sp} {x : Str} {as : List Addr} {m t : Nat}
    (e : ∀ P, as = (K P).map (·.1)) (hn : l.most = some n) (hn2 : n ≤ sizeLine) (hdf : d.params.defaults = []) (hr : Room k callerA)
    (F : ∀ (w : World) (mg : Str → Option Value) (fa : Addr) (h : Heap), (K w.params).In h → h.Ns mainGlobals mg → mg d.name = some (.ref fa) →
      ∃ fd : FuncData, (∀ (s : Shared) (u : Value), BindsTo s fd ⟨[u], []⟩ [(x, u)]) ∧
        ∀ base : Heap, (K w.params).In base → base.Ns mainGlobals mg → FnOk l.prog w (K w.params) mg base (CX w) k fa fd [x] (sp w))
    (hsp : ∀ (w : World) (H : Hp) (a : Addr) (ns : List Int), ns.length ≤ n → Only H → SqL (K w.params) H a (ns.map V.int) → sp w [.ref a] H (fun v _ => v = .bl true) fun _ _ _ => False)
    (hCX : ∀ (w : World) (H : Hp) (s : Shared) (e : Value) (s' : Shared), CX w [] H s (fun _ _ _ => False) e s' → False) :
    PySem.W.WalkX q loose XP (PySem.W.X.obsZ as) (PySem.W.X.valZ K m t) l.row.toRowW d [] (fun f vs => PySem.call f vs) := by
  have W := walk_of (l := l) (q := q) (loose := loose) (XP := XP) (YP := fun w h => (K w.params).In h) (d := d) (K := K) (CX := CX) (sp := sp) (x := x) hn hn2 hdf hr (fun _ _ z => z) F hsp hCX
  intro w s₀ s₁ mg mb G y a o pm cd doc dV kV ho hd hcd hD hmg hg args vals as' L hpre hlay hrd hwl hlo
  have hin : (K w.params).In s₀.heap := (PySem.W.X.z_facts e y).2.1
  exact W w s₀ s₁ mg mb G (PySem.W.Frag.In.keeps hin L.keeps) a o pm cd doc dV kV ho hd hcd hD hmg hg args vals as' hpre hlay hrd hwl hlo
end L2

set_option Elab.async false
set_option linter.all false
set_option maxRecDepth 100000
set_option maxHeartbeats 4000000
namespace CY
open PySem PySem.Spec PyProof.Rows L2
theorem all_mk {l : PySem.W.OpenLaw} {w : World} {K : PySem.W.Frag} {h : Heap} {mg : Str → Option Value} {fa x_is_whole x_common_divisor x_checked x_divisor_of x_add_coin x_needed_of x_least_purse_of x_is_sum x_add_once x_add_coin_to_least x_least_sums_by x_least_sums x_is_reached x_makes x_check_gaps_end x_least_sums_of_every_rest x_gaps_of x_check_payment x_count_ways x_all_ways x_first_fault x_purse_of_least_sums x_least_common_sum x_made_by_both x_is_number_in_figures x_read x__law_cell x__law_deed x__law_kinds_of x_law : Addr} {od_is_whole an_is_whole od_common_divisor an_common_divisor od_checked an_checked od_divisor_of an_divisor_of od_add_coin an_add_coin od_needed_of an_needed_of od_least_purse_of an_least_purse_of od_is_sum an_is_sum od_add_once an_add_once od_add_coin_to_least an_add_coin_to_least od_least_sums_by an_least_sums_by od_least_sums an_least_sums od_is_reached an_is_reached od_makes an_makes od_check_gaps_end an_check_gaps_end od_least_sums_of_every_rest an_least_sums_of_every_rest od_gaps_of an_gaps_of od_check_payment an_check_payment od_count_ways an_count_ways od_all_ways an_all_ways od_first_fault an_first_fault od_purse_of_least_sums an_purse_of_least_sums od_least_common_sum an_least_common_sum od_made_by_both an_made_by_both od_is_number_in_figures an_is_number_in_figures od_read an_read od__law_cell an__law_cell od__law_deed an__law_deed od__law_kinds_of an__law_kinds_of od_law an_law : Option Addr} {sl_is_whole sl_common_divisor sl_checked sl_divisor_of sl_add_coin sl_needed_of sl_least_purse_of sl_is_sum sl_add_once sl_add_coin_to_least sl_least_sums_by sl_least_sums sl_is_reached sl_makes sl_check_gaps_end sl_least_sums_of_every_rest sl_gaps_of sl_check_payment sl_count_ways sl_all_ways sl_first_fault sl_purse_of_least_sums sl_least_common_sum sl_made_by_both sl_is_number_in_figures sl_read sl__law_cell sl__law_deed sl__law_kinds_of sl_law : Array (Option Value)} {oc_is_whole kV_is_whole dc_is_whole pm_is_whole cd_is_whole ct_is_whole oc_common_divisor kV_common_divisor dc_common_divisor pm_common_divisor cd_common_divisor ct_common_divisor oc_checked kV_checked dc_checked pm_checked cd_checked ct_checked oc_divisor_of kV_divisor_of dc_divisor_of pm_divisor_of cd_divisor_of ct_divisor_of oc_add_coin kV_add_coin dc_add_coin pm_add_coin cd_add_coin ct_add_coin oc_needed_of kV_needed_of dc_needed_of pm_needed_of cd_needed_of ct_needed_of oc_least_purse_of kV_least_purse_of dc_least_purse_of pm_least_purse_of cd_least_purse_of ct_least_purse_of oc_is_sum kV_is_sum dc_is_sum pm_is_sum cd_is_sum ct_is_sum oc_add_once kV_add_once dc_add_once pm_add_once cd_add_once ct_add_once oc_add_coin_to_least kV_add_coin_to_least dc_add_coin_to_least pm_add_coin_to_least cd_add_coin_to_least ct_add_coin_to_least oc_least_sums_by kV_least_sums_by dc_least_sums_by pm_least_sums_by cd_least_sums_by ct_least_sums_by oc_least_sums kV_least_sums dc_least_sums pm_least_sums cd_least_sums ct_least_sums oc_is_reached kV_is_reached dc_is_reached pm_is_reached cd_is_reached ct_is_reached oc_makes kV_makes dc_makes pm_makes cd_makes ct_makes oc_check_gaps_end kV_check_gaps_end dc_check_gaps_end pm_check_gaps_end cd_check_gaps_end ct_check_gaps_end oc_least_sums_of_every_rest kV_least_sums_of_every_rest dc_least_sums_of_every_rest pm_least_sums_of_every_rest cd_least_sums_of_every_rest ct_least_sums_of_every_rest oc_gaps_of kV_gaps_of dc_gaps_of pm_gaps_of cd_gaps_of ct_gaps_of oc_check_payment kV_check_payment dc_check_payment pm_check_payment cd_check_payment ct_check_payment oc_count_ways kV_count_ways dc_count_ways pm_count_ways cd_count_ways ct_count_ways oc_all_ways kV_all_ways dc_all_ways pm_all_ways cd_all_ways ct_all_ways oc_first_fault kV_first_fault dc_first_fault pm_first_fault cd_first_fault ct_first_fault oc_purse_of_least_sums kV_purse_of_least_sums dc_purse_of_least_sums pm_purse_of_least_sums cd_purse_of_least_sums ct_purse_of_least_sums oc_least_common_sum kV_least_common_sum dc_least_common_sum pm_least_common_sum cd_least_common_sum ct_least_common_sum oc_made_by_both kV_made_by_both dc_made_by_both pm_made_by_both cd_made_by_both ct_made_by_both oc_is_number_in_figures kV_is_number_in_figures dc_is_number_in_figures pm_is_number_in_figures cd_is_number_in_figures ct_is_number_in_figures oc_read kV_read dc_read pm_read cd_read ct_read oc__law_cell kV__law_cell dc__law_cell pm__law_cell cd__law_cell ct__law_cell oc__law_deed kV__law_deed dc__law_deed pm__law_deed cd__law_deed ct__law_deed oc__law_kinds_of kV__law_kinds_of dc__law_kinds_of pm__law_kinds_of cd__law_kinds_of ct__law_kinds_of oc_law kV_law dc_law pm_law cd_law ct_law : Value} {t_MOST_COINS t_GREATEST_COIN t_GREATEST_PAID t_MOST_WAYS t_MOST_FIGURES t_FIGURES : Tok} {c_CoinError c_BadPurse c_BadSum c_BadText c_Endless c_NoOne c_TooBig c_TooMany : Addr} (X : K.In h) (G : h.Ns mainGlobals mg) (hfa : mg "law" = some (.ref fa))
    (a_is_whole : PySem.W.nsIn K mainGlobals "is_whole" = some (some (.ref x_is_whole)))
    (l_is_whole : K.lookup x_is_whole = some ⟨oc_is_whole, od_is_whole, .func (PySem.W.fnOf "is_whole" "is_whole" (defArgs s_is_whole) (defBody s_is_whole) (defScope s_is_whole) .none kV_is_whole dc_is_whole pm_is_whole an_is_whole cd_is_whole ct_is_whole), sl_is_whole⟩)
    (c_is_whole : PySem.W.codeIn K cd_is_whole "is_whole" = true)
    (k_is_whole : PySem.W.keepIn K (.ref x_is_whole) = true)
    (a_common_divisor : PySem.W.nsIn K mainGlobals "common_divisor" = some (some (.ref x_common_divisor)))
    (l_common_divisor : K.lookup x_common_divisor = some ⟨oc_common_divisor, od_common_divisor, .func (PySem.W.fnOf "common_divisor" "common_divisor" (defArgs s_common_divisor) (defBody s_common_divisor) (defScope s_common_divisor) .none kV_common_divisor dc_common_divisor pm_common_divisor an_common_divisor cd_common_divisor ct_common_divisor), sl_common_divisor⟩)
    (c_common_divisor : PySem.W.codeIn K cd_common_divisor "common_divisor" = true)
    (k_common_divisor : PySem.W.keepIn K (.ref x_common_divisor) = true)
    (a_checked : PySem.W.nsIn K mainGlobals "checked" = some (some (.ref x_checked)))
    (l_checked : K.lookup x_checked = some ⟨oc_checked, od_checked, .func (PySem.W.fnOf "checked" "checked" (defArgs s_checked) (defBody s_checked) (defScope s_checked) .none kV_checked dc_checked pm_checked an_checked cd_checked ct_checked), sl_checked⟩)
    (c_checked : PySem.W.codeIn K cd_checked "checked" = true)
    (k_checked : PySem.W.keepIn K (.ref x_checked) = true)
    (a_divisor_of : PySem.W.nsIn K mainGlobals "divisor_of" = some (some (.ref x_divisor_of)))
    (l_divisor_of : K.lookup x_divisor_of = some ⟨oc_divisor_of, od_divisor_of, .func (PySem.W.fnOf "divisor_of" "divisor_of" (defArgs s_divisor_of) (defBody s_divisor_of) (defScope s_divisor_of) .none kV_divisor_of dc_divisor_of pm_divisor_of an_divisor_of cd_divisor_of ct_divisor_of), sl_divisor_of⟩)
    (c_divisor_of : PySem.W.codeIn K cd_divisor_of "divisor_of" = true)
    (k_divisor_of : PySem.W.keepIn K (.ref x_divisor_of) = true)
    (a_add_coin : PySem.W.nsIn K mainGlobals "add_coin" = some (some (.ref x_add_coin)))
    (l_add_coin : K.lookup x_add_coin = some ⟨oc_add_coin, od_add_coin, .func (PySem.W.fnOf "add_coin" "add_coin" (defArgs s_add_coin) (defBody s_add_coin) (defScope s_add_coin) .none kV_add_coin dc_add_coin pm_add_coin an_add_coin cd_add_coin ct_add_coin), sl_add_coin⟩)
    (c_add_coin : PySem.W.codeIn K cd_add_coin "add_coin" = true)
    (k_add_coin : PySem.W.keepIn K (.ref x_add_coin) = true)
    (a_needed_of : PySem.W.nsIn K mainGlobals "needed_of" = some (some (.ref x_needed_of)))
    (l_needed_of : K.lookup x_needed_of = some ⟨oc_needed_of, od_needed_of, .func (PySem.W.fnOf "needed_of" "needed_of" (defArgs s_needed_of) (defBody s_needed_of) (defScope s_needed_of) .none kV_needed_of dc_needed_of pm_needed_of an_needed_of cd_needed_of ct_needed_of), sl_needed_of⟩)
    (c_needed_of : PySem.W.codeIn K cd_needed_of "needed_of" = true)
    (k_needed_of : PySem.W.keepIn K (.ref x_needed_of) = true)
    (a_least_purse_of : PySem.W.nsIn K mainGlobals "least_purse_of" = some (some (.ref x_least_purse_of)))
    (l_least_purse_of : K.lookup x_least_purse_of = some ⟨oc_least_purse_of, od_least_purse_of, .func (PySem.W.fnOf "least_purse_of" "least_purse_of" (defArgs s_least_purse_of) (defBody s_least_purse_of) (defScope s_least_purse_of) .none kV_least_purse_of dc_least_purse_of pm_least_purse_of an_least_purse_of cd_least_purse_of ct_least_purse_of), sl_least_purse_of⟩)
    (c_least_purse_of : PySem.W.codeIn K cd_least_purse_of "least_purse_of" = true)
    (k_least_purse_of : PySem.W.keepIn K (.ref x_least_purse_of) = true)
    (a_is_sum : PySem.W.nsIn K mainGlobals "is_sum" = some (some (.ref x_is_sum)))
    (l_is_sum : K.lookup x_is_sum = some ⟨oc_is_sum, od_is_sum, .func (PySem.W.fnOf "is_sum" "is_sum" (defArgs s_is_sum) (defBody s_is_sum) (defScope s_is_sum) .none kV_is_sum dc_is_sum pm_is_sum an_is_sum cd_is_sum ct_is_sum), sl_is_sum⟩)
    (c_is_sum : PySem.W.codeIn K cd_is_sum "is_sum" = true)
    (k_is_sum : PySem.W.keepIn K (.ref x_is_sum) = true)
    (a_add_once : PySem.W.nsIn K mainGlobals "add_once" = some (some (.ref x_add_once)))
    (l_add_once : K.lookup x_add_once = some ⟨oc_add_once, od_add_once, .func (PySem.W.fnOf "add_once" "add_once" (defArgs s_add_once) (defBody s_add_once) (defScope s_add_once) .none kV_add_once dc_add_once pm_add_once an_add_once cd_add_once ct_add_once), sl_add_once⟩)
    (c_add_once : PySem.W.codeIn K cd_add_once "add_once" = true)
    (k_add_once : PySem.W.keepIn K (.ref x_add_once) = true)
    (a_add_coin_to_least : PySem.W.nsIn K mainGlobals "add_coin_to_least" = some (some (.ref x_add_coin_to_least)))
    (l_add_coin_to_least : K.lookup x_add_coin_to_least = some ⟨oc_add_coin_to_least, od_add_coin_to_least, .func (PySem.W.fnOf "add_coin_to_least" "add_coin_to_least" (defArgs s_add_coin_to_least) (defBody s_add_coin_to_least) (defScope s_add_coin_to_least) .none kV_add_coin_to_least dc_add_coin_to_least pm_add_coin_to_least an_add_coin_to_least cd_add_coin_to_least ct_add_coin_to_least), sl_add_coin_to_least⟩)
    (c_add_coin_to_least : PySem.W.codeIn K cd_add_coin_to_least "add_coin_to_least" = true)
    (k_add_coin_to_least : PySem.W.keepIn K (.ref x_add_coin_to_least) = true)
    (a_least_sums_by : PySem.W.nsIn K mainGlobals "least_sums_by" = some (some (.ref x_least_sums_by)))
    (l_least_sums_by : K.lookup x_least_sums_by = some ⟨oc_least_sums_by, od_least_sums_by, .func (PySem.W.fnOf "least_sums_by" "least_sums_by" (defArgs s_least_sums_by) (defBody s_least_sums_by) (defScope s_least_sums_by) .none kV_least_sums_by dc_least_sums_by pm_least_sums_by an_least_sums_by cd_least_sums_by ct_least_sums_by), sl_least_sums_by⟩)
    (c_least_sums_by : PySem.W.codeIn K cd_least_sums_by "least_sums_by" = true)
    (k_least_sums_by : PySem.W.keepIn K (.ref x_least_sums_by) = true)
    (a_least_sums : PySem.W.nsIn K mainGlobals "least_sums" = some (some (.ref x_least_sums)))
    (l_least_sums : K.lookup x_least_sums = some ⟨oc_least_sums, od_least_sums, .func (PySem.W.fnOf "least_sums" "least_sums" (defArgs s_least_sums) (defBody s_least_sums) (defScope s_least_sums) .none kV_least_sums dc_least_sums pm_least_sums an_least_sums cd_least_sums ct_least_sums), sl_least_sums⟩)
    (c_least_sums : PySem.W.codeIn K cd_least_sums "least_sums" = true)
    (k_least_sums : PySem.W.keepIn K (.ref x_least_sums) = true)
    (a_is_reached : PySem.W.nsIn K mainGlobals "is_reached" = some (some (.ref x_is_reached)))
    (l_is_reached : K.lookup x_is_reached = some ⟨oc_is_reached, od_is_reached, .func (PySem.W.fnOf "is_reached" "is_reached" (defArgs s_is_reached) (defBody s_is_reached) (defScope s_is_reached) .none kV_is_reached dc_is_reached pm_is_reached an_is_reached cd_is_reached ct_is_reached), sl_is_reached⟩)
    (c_is_reached : PySem.W.codeIn K cd_is_reached "is_reached" = true)
    (k_is_reached : PySem.W.keepIn K (.ref x_is_reached) = true)
    (a_makes : PySem.W.nsIn K mainGlobals "makes" = some (some (.ref x_makes)))
    (l_makes : K.lookup x_makes = some ⟨oc_makes, od_makes, .func (PySem.W.fnOf "makes" "makes" (defArgs s_makes) (defBody s_makes) (defScope s_makes) .none kV_makes dc_makes pm_makes an_makes cd_makes ct_makes), sl_makes⟩)
    (c_makes : PySem.W.codeIn K cd_makes "makes" = true)
    (k_makes : PySem.W.keepIn K (.ref x_makes) = true)
    (a_check_gaps_end : PySem.W.nsIn K mainGlobals "check_gaps_end" = some (some (.ref x_check_gaps_end)))
    (l_check_gaps_end : K.lookup x_check_gaps_end = some ⟨oc_check_gaps_end, od_check_gaps_end, .func (PySem.W.fnOf "check_gaps_end" "check_gaps_end" (defArgs s_check_gaps_end) (defBody s_check_gaps_end) (defScope s_check_gaps_end) .none kV_check_gaps_end dc_check_gaps_end pm_check_gaps_end an_check_gaps_end cd_check_gaps_end ct_check_gaps_end), sl_check_gaps_end⟩)
    (c_check_gaps_end : PySem.W.codeIn K cd_check_gaps_end "check_gaps_end" = true)
    (k_check_gaps_end : PySem.W.keepIn K (.ref x_check_gaps_end) = true)
    (a_least_sums_of_every_rest : PySem.W.nsIn K mainGlobals "least_sums_of_every_rest" = some (some (.ref x_least_sums_of_every_rest)))
    (l_least_sums_of_every_rest : K.lookup x_least_sums_of_every_rest = some ⟨oc_least_sums_of_every_rest, od_least_sums_of_every_rest, .func (PySem.W.fnOf "least_sums_of_every_rest" "least_sums_of_every_rest" (defArgs s_least_sums_of_every_rest) (defBody s_least_sums_of_every_rest) (defScope s_least_sums_of_every_rest) .none kV_least_sums_of_every_rest dc_least_sums_of_every_rest pm_least_sums_of_every_rest an_least_sums_of_every_rest cd_least_sums_of_every_rest ct_least_sums_of_every_rest), sl_least_sums_of_every_rest⟩)
    (c_least_sums_of_every_rest : PySem.W.codeIn K cd_least_sums_of_every_rest "least_sums_of_every_rest" = true)
    (k_least_sums_of_every_rest : PySem.W.keepIn K (.ref x_least_sums_of_every_rest) = true)
    (a_gaps_of : PySem.W.nsIn K mainGlobals "gaps_of" = some (some (.ref x_gaps_of)))
    (l_gaps_of : K.lookup x_gaps_of = some ⟨oc_gaps_of, od_gaps_of, .func (PySem.W.fnOf "gaps_of" "gaps_of" (defArgs s_gaps_of) (defBody s_gaps_of) (defScope s_gaps_of) .none kV_gaps_of dc_gaps_of pm_gaps_of an_gaps_of cd_gaps_of ct_gaps_of), sl_gaps_of⟩)
    (c_gaps_of : PySem.W.codeIn K cd_gaps_of "gaps_of" = true)
    (k_gaps_of : PySem.W.keepIn K (.ref x_gaps_of) = true)
    (a_check_payment : PySem.W.nsIn K mainGlobals "check_payment" = some (some (.ref x_check_payment)))
    (l_check_payment : K.lookup x_check_payment = some ⟨oc_check_payment, od_check_payment, .func (PySem.W.fnOf "check_payment" "check_payment" (defArgs s_check_payment) (defBody s_check_payment) (defScope s_check_payment) .none kV_check_payment dc_check_payment pm_check_payment an_check_payment cd_check_payment ct_check_payment), sl_check_payment⟩)
    (c_check_payment : PySem.W.codeIn K cd_check_payment "check_payment" = true)
    (k_check_payment : PySem.W.keepIn K (.ref x_check_payment) = true)
    (a_count_ways : PySem.W.nsIn K mainGlobals "count_ways" = some (some (.ref x_count_ways)))
    (l_count_ways : K.lookup x_count_ways = some ⟨oc_count_ways, od_count_ways, .func (PySem.W.fnOf "count_ways" "count_ways" (defArgs s_count_ways) (defBody s_count_ways) (defScope s_count_ways) .none kV_count_ways dc_count_ways pm_count_ways an_count_ways cd_count_ways ct_count_ways), sl_count_ways⟩)
    (c_count_ways : PySem.W.codeIn K cd_count_ways "count_ways" = true)
    (k_count_ways : PySem.W.keepIn K (.ref x_count_ways) = true)
    (a_all_ways : PySem.W.nsIn K mainGlobals "all_ways" = some (some (.ref x_all_ways)))
    (l_all_ways : K.lookup x_all_ways = some ⟨oc_all_ways, od_all_ways, .func (PySem.W.fnOf "all_ways" "all_ways" (defArgs s_all_ways) (defBody s_all_ways) (defScope s_all_ways) .none kV_all_ways dc_all_ways pm_all_ways an_all_ways cd_all_ways ct_all_ways), sl_all_ways⟩)
    (c_all_ways : PySem.W.codeIn K cd_all_ways "all_ways" = true)
    (k_all_ways : PySem.W.keepIn K (.ref x_all_ways) = true)
    (a_first_fault : PySem.W.nsIn K mainGlobals "first_fault" = some (some (.ref x_first_fault)))
    (l_first_fault : K.lookup x_first_fault = some ⟨oc_first_fault, od_first_fault, .func (PySem.W.fnOf "first_fault" "first_fault" (defArgs s_first_fault) (defBody s_first_fault) (defScope s_first_fault) .none kV_first_fault dc_first_fault pm_first_fault an_first_fault cd_first_fault ct_first_fault), sl_first_fault⟩)
    (c_first_fault : PySem.W.codeIn K cd_first_fault "first_fault" = true)
    (k_first_fault : PySem.W.keepIn K (.ref x_first_fault) = true)
    (a_purse_of_least_sums : PySem.W.nsIn K mainGlobals "purse_of_least_sums" = some (some (.ref x_purse_of_least_sums)))
    (l_purse_of_least_sums : K.lookup x_purse_of_least_sums = some ⟨oc_purse_of_least_sums, od_purse_of_least_sums, .func (PySem.W.fnOf "purse_of_least_sums" "purse_of_least_sums" (defArgs s_purse_of_least_sums) (defBody s_purse_of_least_sums) (defScope s_purse_of_least_sums) .none kV_purse_of_least_sums dc_purse_of_least_sums pm_purse_of_least_sums an_purse_of_least_sums cd_purse_of_least_sums ct_purse_of_least_sums), sl_purse_of_least_sums⟩)
    (c_purse_of_least_sums : PySem.W.codeIn K cd_purse_of_least_sums "purse_of_least_sums" = true)
    (k_purse_of_least_sums : PySem.W.keepIn K (.ref x_purse_of_least_sums) = true)
    (a_least_common_sum : PySem.W.nsIn K mainGlobals "least_common_sum" = some (some (.ref x_least_common_sum)))
    (l_least_common_sum : K.lookup x_least_common_sum = some ⟨oc_least_common_sum, od_least_common_sum, .func (PySem.W.fnOf "least_common_sum" "least_common_sum" (defArgs s_least_common_sum) (defBody s_least_common_sum) (defScope s_least_common_sum) .none kV_least_common_sum dc_least_common_sum pm_least_common_sum an_least_common_sum cd_least_common_sum ct_least_common_sum), sl_least_common_sum⟩)
    (c_least_common_sum : PySem.W.codeIn K cd_least_common_sum "least_common_sum" = true)
    (k_least_common_sum : PySem.W.keepIn K (.ref x_least_common_sum) = true)
    (a_made_by_both : PySem.W.nsIn K mainGlobals "made_by_both" = some (some (.ref x_made_by_both)))
    (l_made_by_both : K.lookup x_made_by_both = some ⟨oc_made_by_both, od_made_by_both, .func (PySem.W.fnOf "made_by_both" "made_by_both" (defArgs s_made_by_both) (defBody s_made_by_both) (defScope s_made_by_both) .none kV_made_by_both dc_made_by_both pm_made_by_both an_made_by_both cd_made_by_both ct_made_by_both), sl_made_by_both⟩)
    (c_made_by_both : PySem.W.codeIn K cd_made_by_both "made_by_both" = true)
    (k_made_by_both : PySem.W.keepIn K (.ref x_made_by_both) = true)
    (a_is_number_in_figures : PySem.W.nsIn K mainGlobals "is_number_in_figures" = some (some (.ref x_is_number_in_figures)))
    (l_is_number_in_figures : K.lookup x_is_number_in_figures = some ⟨oc_is_number_in_figures, od_is_number_in_figures, .func (PySem.W.fnOf "is_number_in_figures" "is_number_in_figures" (defArgs s_is_number_in_figures) (defBody s_is_number_in_figures) (defScope s_is_number_in_figures) .none kV_is_number_in_figures dc_is_number_in_figures pm_is_number_in_figures an_is_number_in_figures cd_is_number_in_figures ct_is_number_in_figures), sl_is_number_in_figures⟩)
    (c_is_number_in_figures : PySem.W.codeIn K cd_is_number_in_figures "is_number_in_figures" = true)
    (k_is_number_in_figures : PySem.W.keepIn K (.ref x_is_number_in_figures) = true)
    (a_read : PySem.W.nsIn K mainGlobals "read" = some (some (.ref x_read)))
    (l_read : K.lookup x_read = some ⟨oc_read, od_read, .func (PySem.W.fnOf "read" "read" (defArgs s_read) (defBody s_read) (defScope s_read) .none kV_read dc_read pm_read an_read cd_read ct_read), sl_read⟩)
    (c_read : PySem.W.codeIn K cd_read "read" = true)
    (k_read : PySem.W.keepIn K (.ref x_read) = true)
    (a__law_cell : PySem.W.nsIn K mainGlobals "_law_cell" = some (some (.ref x__law_cell)))
    (l__law_cell : K.lookup x__law_cell = some ⟨oc__law_cell, od__law_cell, .func (PySem.W.fnOf "_law_cell" "_law_cell" (defArgs s__law_cell) (defBody s__law_cell) (defScope s__law_cell) .none kV__law_cell dc__law_cell pm__law_cell an__law_cell cd__law_cell ct__law_cell), sl__law_cell⟩)
    (c__law_cell : PySem.W.codeIn K cd__law_cell "_law_cell" = true)
    (k__law_cell : PySem.W.keepIn K (.ref x__law_cell) = true)
    (a__law_deed : PySem.W.nsIn K mainGlobals "_law_deed" = some (some (.ref x__law_deed)))
    (l__law_deed : K.lookup x__law_deed = some ⟨oc__law_deed, od__law_deed, .func (PySem.W.fnOf "_law_deed" "_law_deed" (defArgs s__law_deed) (defBody s__law_deed) (defScope s__law_deed) .none kV__law_deed dc__law_deed pm__law_deed an__law_deed cd__law_deed ct__law_deed), sl__law_deed⟩)
    (c__law_deed : PySem.W.codeIn K cd__law_deed "_law_deed" = true)
    (k__law_deed : PySem.W.keepIn K (.ref x__law_deed) = true)
    (a__law_kinds_of : PySem.W.nsIn K mainGlobals "_law_kinds_of" = some (some (.ref x__law_kinds_of)))
    (l__law_kinds_of : K.lookup x__law_kinds_of = some ⟨oc__law_kinds_of, od__law_kinds_of, .func (PySem.W.fnOf "_law_kinds_of" "_law_kinds_of" (defArgs s__law_kinds_of) (defBody s__law_kinds_of) (defScope s__law_kinds_of) .none kV__law_kinds_of dc__law_kinds_of pm__law_kinds_of an__law_kinds_of cd__law_kinds_of ct__law_kinds_of), sl__law_kinds_of⟩)
    (c__law_kinds_of : PySem.W.codeIn K cd__law_kinds_of "_law_kinds_of" = true)
    (k__law_kinds_of : PySem.W.keepIn K (.ref x__law_kinds_of) = true)
    (a_law : PySem.W.nsIn K mainGlobals "law" = some (some (.ref x_law)))
    (l_law : K.lookup x_law = some ⟨oc_law, od_law, .func (PySem.W.fnOf "law" "law" (defArgs s_law) (defBody s_law) (defScope s_law) .none kV_law dc_law pm_law an_law cd_law ct_law), sl_law⟩)
    (c_law : PySem.W.codeIn K cd_law "law" = true)
    (k_law : PySem.W.keepIn K (.ref x_law) = true)
    (v_MOST_COINS : PySem.W.nsIn K mainGlobals "MOST_COINS" = some (some (.int 40 t_MOST_COINS)))
    (v_GREATEST_COIN : PySem.W.nsIn K mainGlobals "GREATEST_COIN" = some (some (.int 400 t_GREATEST_COIN)))
    (v_GREATEST_PAID : PySem.W.nsIn K mainGlobals "GREATEST_PAID" = some (some (.int 400 t_GREATEST_PAID)))
    (v_MOST_WAYS : PySem.W.nsIn K mainGlobals "MOST_WAYS" = some (some (.int 200 t_MOST_WAYS)))
    (v_MOST_FIGURES : PySem.W.nsIn K mainGlobals "MOST_FIGURES" = some (some (.int 3 t_MOST_FIGURES)))
    (v_FIGURES : PySem.W.nsIn K mainGlobals "FIGURES" = some (some (.str "0123456789" t_FIGURES)))
    (z_len : PySem.W.nsIn K mainGlobals "len" = some none)
    (z_isinstance : PySem.W.nsIn K mainGlobals "isinstance" = some none)
    (z_max : PySem.W.nsIn K mainGlobals "max" = some none)
    (z_sorted : PySem.W.nsIn K mainGlobals "sorted" = some none)
    (z_set : PySem.W.nsIn K mainGlobals "set" = some none)
    (z_tuple : PySem.W.nsIn K mainGlobals "tuple" = some none)
    (z_list : PySem.W.nsIn K mainGlobals "list" = some none)
    (z_int : PySem.W.nsIn K mainGlobals "int" = some none)
    (z_bool : PySem.W.nsIn K mainGlobals "bool" = some none)
    (z_range : PySem.W.nsIn K mainGlobals "range" = some none)
    (z_min : PySem.W.nsIn K mainGlobals "min" = some none)
    (z_sum : PySem.W.nsIn K mainGlobals "sum" = some none)
    (z_zip : PySem.W.nsIn K mainGlobals "zip" = some none)
    (z_str : PySem.W.nsIn K mainGlobals "str" = some none)
    (z_ValueError : PySem.W.nsIn K mainGlobals "ValueError" = some none)
    (z_reversed : PySem.W.nsIn K mainGlobals "reversed" = some none)
    (z_enumerate : PySem.W.nsIn K mainGlobals "enumerate" = some none)
    (e_CoinError : PySem.W.nsIn K mainGlobals "CoinError" = some (some (.ref c_CoinError)))
    (f_CoinError : PySem.W.excIn K c_CoinError bmV "ValueError.__new__" = true)
    (e_BadPurse : PySem.W.nsIn K mainGlobals "BadPurse" = some (some (.ref c_BadPurse)))
    (f_BadPurse : PySem.W.excIn K c_BadPurse bmV "ValueError.__new__" = true)
    (g_BadPurse : PySem.W.mroIn K c_BadPurse (.ref c_CoinError) = some true)
    (v_BadPurse : PySem.W.kitOne K (.ref c_BadPurse) (.type "ValueError") = some true)
    (e_BadSum : PySem.W.nsIn K mainGlobals "BadSum" = some (some (.ref c_BadSum)))
    (f_BadSum : PySem.W.excIn K c_BadSum bmV "ValueError.__new__" = true)
    (g_BadSum : PySem.W.mroIn K c_BadSum (.ref c_CoinError) = some true)
    (v_BadSum : PySem.W.kitOne K (.ref c_BadSum) (.type "ValueError") = some true)
    (e_BadText : PySem.W.nsIn K mainGlobals "BadText" = some (some (.ref c_BadText)))
    (f_BadText : PySem.W.excIn K c_BadText bmV "ValueError.__new__" = true)
    (g_BadText : PySem.W.mroIn K c_BadText (.ref c_CoinError) = some true)
    (v_BadText : PySem.W.kitOne K (.ref c_BadText) (.type "ValueError") = some true)
    (e_Endless : PySem.W.nsIn K mainGlobals "Endless" = some (some (.ref c_Endless)))
    (f_Endless : PySem.W.excIn K c_Endless bmV "ValueError.__new__" = true)
    (g_Endless : PySem.W.mroIn K c_Endless (.ref c_CoinError) = some true)
    (v_Endless : PySem.W.kitOne K (.ref c_Endless) (.type "ValueError") = some true)
    (e_NoOne : PySem.W.nsIn K mainGlobals "NoOne" = some (some (.ref c_NoOne)))
    (f_NoOne : PySem.W.excIn K c_NoOne bmV "ValueError.__new__" = true)
    (g_NoOne : PySem.W.mroIn K c_NoOne (.ref c_CoinError) = some true)
    (v_NoOne : PySem.W.kitOne K (.ref c_NoOne) (.type "ValueError") = some true)
    (e_TooBig : PySem.W.nsIn K mainGlobals "TooBig" = some (some (.ref c_TooBig)))
    (f_TooBig : PySem.W.excIn K c_TooBig bmV "ValueError.__new__" = true)
    (g_TooBig : PySem.W.mroIn K c_TooBig (.ref c_CoinError) = some true)
    (v_TooBig : PySem.W.kitOne K (.ref c_TooBig) (.type "ValueError") = some true)
    (e_TooMany : PySem.W.nsIn K mainGlobals "TooMany" = some (some (.ref c_TooMany)))
    (f_TooMany : PySem.W.excIn K c_TooMany bmV "ValueError.__new__" = true)
    (g_TooMany : PySem.W.mroIn K c_TooMany (.ref c_CoinError) = some true)
    (v_TooMany : PySem.W.kitOne K (.ref c_TooMany) (.type "ValueError") = some true)
    (h1_BadPurse : (PySem.W.clsIn K c_BadPurse).isSome = true)
    (h2_BadPurse : PySem.W.findIn K (.ref c_BadPurse) "__getattribute__" = some (some (.builtin "BaseException.__getattribute__")))
    (h3_BadPurse : PySem.W.findIn K (.ref c_BadPurse) "__getattr__" = some none)
    (h4_BadPurse : PySem.W.findIn K (.ref c_BadPurse) "__class__" = some (some (.builtin "object.__class__")))
    (h7_BadPurse : PySem.W.mroIn K c_BadPurse (.type "object") = some true)
    (h8_BadPurse : PySem.W.mroIn K c_BadPurse (.type "BaseException") = some true)
    (h1_BadSum : (PySem.W.clsIn K c_BadSum).isSome = true)
    (h2_BadSum : PySem.W.findIn K (.ref c_BadSum) "__getattribute__" = some (some (.builtin "BaseException.__getattribute__")))
    (h3_BadSum : PySem.W.findIn K (.ref c_BadSum) "__getattr__" = some none)
    (h4_BadSum : PySem.W.findIn K (.ref c_BadSum) "__class__" = some (some (.builtin "object.__class__")))
    (h7_BadSum : PySem.W.mroIn K c_BadSum (.type "object") = some true)
    (h8_BadSum : PySem.W.mroIn K c_BadSum (.type "BaseException") = some true)
    (h1_BadText : (PySem.W.clsIn K c_BadText).isSome = true)
    (h2_BadText : PySem.W.findIn K (.ref c_BadText) "__getattribute__" = some (some (.builtin "BaseException.__getattribute__")))
    (h3_BadText : PySem.W.findIn K (.ref c_BadText) "__getattr__" = some none)
    (h4_BadText : PySem.W.findIn K (.ref c_BadText) "__class__" = some (some (.builtin "object.__class__")))
    (h7_BadText : PySem.W.mroIn K c_BadText (.type "object") = some true)
    (h8_BadText : PySem.W.mroIn K c_BadText (.type "BaseException") = some true)
    (h1_Endless : (PySem.W.clsIn K c_Endless).isSome = true)
    (h2_Endless : PySem.W.findIn K (.ref c_Endless) "__getattribute__" = some (some (.builtin "BaseException.__getattribute__")))
    (h3_Endless : PySem.W.findIn K (.ref c_Endless) "__getattr__" = some none)
    (h4_Endless : PySem.W.findIn K (.ref c_Endless) "__class__" = some (some (.builtin "object.__class__")))
    (h7_Endless : PySem.W.mroIn K c_Endless (.type "object") = some true)
    (h8_Endless : PySem.W.mroIn K c_Endless (.type "BaseException") = some true)
    (h1_NoOne : (PySem.W.clsIn K c_NoOne).isSome = true)
    (h2_NoOne : PySem.W.findIn K (.ref c_NoOne) "__getattribute__" = some (some (.builtin "BaseException.__getattribute__")))
    (h3_NoOne : PySem.W.findIn K (.ref c_NoOne) "__getattr__" = some none)
    (h4_NoOne : PySem.W.findIn K (.ref c_NoOne) "__class__" = some (some (.builtin "object.__class__")))
    (h7_NoOne : PySem.W.mroIn K c_NoOne (.type "object") = some true)
    (h8_NoOne : PySem.W.mroIn K c_NoOne (.type "BaseException") = some true)
    (h1_TooBig : (PySem.W.clsIn K c_TooBig).isSome = true)
    (h2_TooBig : PySem.W.findIn K (.ref c_TooBig) "__getattribute__" = some (some (.builtin "BaseException.__getattribute__")))
    (h3_TooBig : PySem.W.findIn K (.ref c_TooBig) "__getattr__" = some none)
    (h4_TooBig : PySem.W.findIn K (.ref c_TooBig) "__class__" = some (some (.builtin "object.__class__")))
    (h7_TooBig : PySem.W.mroIn K c_TooBig (.type "object") = some true)
    (h8_TooBig : PySem.W.mroIn K c_TooBig (.type "BaseException") = some true)
    (h1_TooMany : (PySem.W.clsIn K c_TooMany).isSome = true)
    (h2_TooMany : PySem.W.findIn K (.ref c_TooMany) "__getattribute__" = some (some (.builtin "BaseException.__getattribute__")))
    (h3_TooMany : PySem.W.findIn K (.ref c_TooMany) "__getattr__" = some none)
    (h4_TooMany : PySem.W.findIn K (.ref c_TooMany) "__class__" = some (some (.builtin "object.__class__")))
    (h7_TooMany : PySem.W.mroIn K c_TooMany (.type "object") = some true)
    (h8_TooMany : PySem.W.mroIn K c_TooMany (.type "BaseException") = some true)
    (h5 : PySem.W.specialIn K (.builtin "object.__class__") "__get__" = some (some (.builtin "getset_descriptor.__get__")))
    (h6 : PySem.W.takesIn K (.builtin "object.__class__") = some true)
    (I_01 : PySem.W.kitOne K (.ref c_BadPurse) (.ref c_BadSum) = some false)
    (I_02 : PySem.W.kitOne K (.ref c_BadPurse) (.ref c_Endless) = some false)
    (I_03 : PySem.W.kitOne K (.ref c_BadPurse) (.ref c_NoOne) = some false)
    (I_04 : PySem.W.kitOne K (.ref c_BadPurse) (.ref c_TooBig) = some false)
    (I_05 : PySem.W.kitOne K (.ref c_BadPurse) (.ref c_TooMany) = some false)
    (I_06 : PySem.W.kitOne K (.ref c_BadPurse) (.ref c_BadText) = some false)
    (I_10 : PySem.W.kitOne K (.ref c_BadSum) (.ref c_BadPurse) = some false)
    (I_12 : PySem.W.kitOne K (.ref c_BadSum) (.ref c_Endless) = some false)
    (I_13 : PySem.W.kitOne K (.ref c_BadSum) (.ref c_NoOne) = some false)
    (I_14 : PySem.W.kitOne K (.ref c_BadSum) (.ref c_TooBig) = some false)
    (I_15 : PySem.W.kitOne K (.ref c_BadSum) (.ref c_TooMany) = some false)
    (I_16 : PySem.W.kitOne K (.ref c_BadSum) (.ref c_BadText) = some false)
    (I_20 : PySem.W.kitOne K (.ref c_Endless) (.ref c_BadPurse) = some false)
    (I_21 : PySem.W.kitOne K (.ref c_Endless) (.ref c_BadSum) = some false)
    (I_23 : PySem.W.kitOne K (.ref c_Endless) (.ref c_NoOne) = some false)
    (I_24 : PySem.W.kitOne K (.ref c_Endless) (.ref c_TooBig) = some false)
    (I_25 : PySem.W.kitOne K (.ref c_Endless) (.ref c_TooMany) = some false)
    (I_26 : PySem.W.kitOne K (.ref c_Endless) (.ref c_BadText) = some false)
    (I_30 : PySem.W.kitOne K (.ref c_NoOne) (.ref c_BadPurse) = some false)
    (I_31 : PySem.W.kitOne K (.ref c_NoOne) (.ref c_BadSum) = some false)
    (I_32 : PySem.W.kitOne K (.ref c_NoOne) (.ref c_Endless) = some false)
    (I_34 : PySem.W.kitOne K (.ref c_NoOne) (.ref c_TooBig) = some false)
    (I_35 : PySem.W.kitOne K (.ref c_NoOne) (.ref c_TooMany) = some false)
    (I_36 : PySem.W.kitOne K (.ref c_NoOne) (.ref c_BadText) = some false)
    (I_40 : PySem.W.kitOne K (.ref c_TooBig) (.ref c_BadPurse) = some false)
    (I_41 : PySem.W.kitOne K (.ref c_TooBig) (.ref c_BadSum) = some false)
    (I_42 : PySem.W.kitOne K (.ref c_TooBig) (.ref c_Endless) = some false)
    (I_43 : PySem.W.kitOne K (.ref c_TooBig) (.ref c_NoOne) = some false)
    (I_45 : PySem.W.kitOne K (.ref c_TooBig) (.ref c_TooMany) = some false)
    (I_46 : PySem.W.kitOne K (.ref c_TooBig) (.ref c_BadText) = some false)
    (I_50 : PySem.W.kitOne K (.ref c_TooMany) (.ref c_BadPurse) = some false)
    (I_51 : PySem.W.kitOne K (.ref c_TooMany) (.ref c_BadSum) = some false)
    (I_52 : PySem.W.kitOne K (.ref c_TooMany) (.ref c_Endless) = some false)
    (I_53 : PySem.W.kitOne K (.ref c_TooMany) (.ref c_NoOne) = some false)
    (I_54 : PySem.W.kitOne K (.ref c_TooMany) (.ref c_TooBig) = some false)
    (I_56 : PySem.W.kitOne K (.ref c_TooMany) (.ref c_BadText) = some false)
    (I_60 : PySem.W.kitOne K (.ref c_BadText) (.ref c_BadPurse) = some false)
    (I_61 : PySem.W.kitOne K (.ref c_BadText) (.ref c_BadSum) = some false)
    (I_62 : PySem.W.kitOne K (.ref c_BadText) (.ref c_Endless) = some false)
    (I_63 : PySem.W.kitOne K (.ref c_BadText) (.ref c_NoOne) = some false)
    (I_64 : PySem.W.kitOne K (.ref c_BadText) (.ref c_TooBig) = some false)
    (I_65 : PySem.W.kitOne K (.ref c_BadText) (.ref c_TooMany) = some false) :
    ∃ fd : FuncData, (∀ (s : Shared) (v : Value), BindsTo s fd ⟨[v], []⟩ [("_law_script", v)]) ∧ ∀ base : Heap, K.In base → base.Ns mainGlobals mg → FnOk l.prog w K mg base CX0 15 fa fd ["_law_script"] (sp_law K) := by
  have e := hfa.symm.trans (PySem.W.mg_of X G a_law)
  cases e
  have T : Tx mg := ⟨PySem.W.mg_none_of X G z_len, PySem.W.mg_none_of X G z_isinstance, PySem.W.mg_none_of X G z_max, PySem.W.mg_none_of X G z_sorted, PySem.W.mg_none_of X G z_set, PySem.W.mg_none_of X G z_tuple, PySem.W.mg_none_of X G z_list, PySem.W.mg_none_of X G z_int, PySem.W.mg_none_of X G z_bool, PySem.W.mg_none_of X G z_range, PySem.W.mg_none_of X G z_min, PySem.W.mg_none_of X G z_sum, PySem.W.mg_none_of X G z_zip, PySem.W.mg_none_of X G z_str, PySem.W.mg_none_of X G z_ValueError, PySem.W.mg_none_of X G z_reversed, PySem.W.mg_none_of X G z_enumerate⟩
  have h_MOST_COINS := PySem.W.mg_of X G v_MOST_COINS
  have h_GREATEST_COIN := PySem.W.mg_of X G v_GREATEST_COIN
  have h_GREATEST_PAID := PySem.W.mg_of X G v_GREATEST_PAID
  have h_MOST_WAYS := PySem.W.mg_of X G v_MOST_WAYS
  have h_MOST_FIGURES := PySem.W.mg_of X G v_MOST_FIGURES
  have h_FIGURES := PySem.W.mg_of X G v_FIGURES
  have X_CoinError : Exc K mg "CoinError" c_CoinError := ⟨PySem.W.mg_of X G e_CoinError, f_CoinError⟩
  have X_BadPurse : Err K mg "BadPurse" c_BadPurse c_CoinError := ⟨⟨PySem.W.mg_of X G e_BadPurse, f_BadPurse⟩, g_BadPurse, v_BadPurse⟩
  have X_BadSum : Err K mg "BadSum" c_BadSum c_CoinError := ⟨⟨PySem.W.mg_of X G e_BadSum, f_BadSum⟩, g_BadSum, v_BadSum⟩
  have X_BadText : Err K mg "BadText" c_BadText c_CoinError := ⟨⟨PySem.W.mg_of X G e_BadText, f_BadText⟩, g_BadText, v_BadText⟩
  have X_Endless : Err K mg "Endless" c_Endless c_CoinError := ⟨⟨PySem.W.mg_of X G e_Endless, f_Endless⟩, g_Endless, v_Endless⟩
  have X_NoOne : Err K mg "NoOne" c_NoOne c_CoinError := ⟨⟨PySem.W.mg_of X G e_NoOne, f_NoOne⟩, g_NoOne, v_NoOne⟩
  have X_TooBig : Err K mg "TooBig" c_TooBig c_CoinError := ⟨⟨PySem.W.mg_of X G e_TooBig, f_TooBig⟩, g_TooBig, v_TooBig⟩
  have X_TooMany : Err K mg "TooMany" c_TooMany c_CoinError := ⟨⟨PySem.W.mg_of X G e_TooMany, f_TooMany⟩, g_TooMany, v_TooMany⟩
  have K_BadPurse : ExcLook K c_BadPurse := ⟨h1_BadPurse, h2_BadPurse, h3_BadPurse, h4_BadPurse, h5, h6, h7_BadPurse, h8_BadPurse⟩
  have K_BadSum : ExcLook K c_BadSum := ⟨h1_BadSum, h2_BadSum, h3_BadSum, h4_BadSum, h5, h6, h7_BadSum, h8_BadSum⟩
  have K_BadText : ExcLook K c_BadText := ⟨h1_BadText, h2_BadText, h3_BadText, h4_BadText, h5, h6, h7_BadText, h8_BadText⟩
  have K_Endless : ExcLook K c_Endless := ⟨h1_Endless, h2_Endless, h3_Endless, h4_Endless, h5, h6, h7_Endless, h8_Endless⟩
  have K_NoOne : ExcLook K c_NoOne := ⟨h1_NoOne, h2_NoOne, h3_NoOne, h4_NoOne, h5, h6, h7_NoOne, h8_NoOne⟩
  have K_TooBig : ExcLook K c_TooBig := ⟨h1_TooBig, h2_TooBig, h3_TooBig, h4_TooBig, h5, h6, h7_TooBig, h8_TooBig⟩
  have K_TooMany : ExcLook K c_TooMany := ⟨h1_TooMany, h2_TooMany, h3_TooMany, h4_TooMany, h5, h6, h7_TooMany, h8_TooMany⟩
  have F_is_whole := fun_mk (st := s_is_whole) l_is_whole c_is_whole k_is_whole
  have F_common_divisor := fun_mk (st := s_common_divisor) l_common_divisor c_common_divisor k_common_divisor
  have F_checked := fun_mk (st := s_checked) l_checked c_checked k_checked
  have F_divisor_of := fun_mk (st := s_divisor_of) l_divisor_of c_divisor_of k_divisor_of
  have F_add_coin := fun_mk (st := s_add_coin) l_add_coin c_add_coin k_add_coin
  have F_needed_of := fun_mk (st := s_needed_of) l_needed_of c_needed_of k_needed_of
  have F_least_purse_of := fun_mk (st := s_least_purse_of) l_least_purse_of c_least_purse_of k_least_purse_of
  have F_is_sum := fun_mk (st := s_is_sum) l_is_sum c_is_sum k_is_sum
  have F_add_once := fun_mk (st := s_add_once) l_add_once c_add_once k_add_once
  have F_add_coin_to_least := fun_mk (st := s_add_coin_to_least) l_add_coin_to_least c_add_coin_to_least k_add_coin_to_least
  have F_least_sums_by := fun_mk (st := s_least_sums_by) l_least_sums_by c_least_sums_by k_least_sums_by
  have F_least_sums := fun_mk (st := s_least_sums) l_least_sums c_least_sums k_least_sums
  have F_is_reached := fun_mk (st := s_is_reached) l_is_reached c_is_reached k_is_reached
  have F_makes := fun_mk (st := s_makes) l_makes c_makes k_makes
  have F_check_gaps_end := fun_mk (st := s_check_gaps_end) l_check_gaps_end c_check_gaps_end k_check_gaps_end
  have F_least_sums_of_every_rest := fun_mk (st := s_least_sums_of_every_rest) l_least_sums_of_every_rest c_least_sums_of_every_rest k_least_sums_of_every_rest
  have F_gaps_of := fun_mk (st := s_gaps_of) l_gaps_of c_gaps_of k_gaps_of
  have F_check_payment := fun_mk (st := s_check_payment) l_check_payment c_check_payment k_check_payment
  have F_count_ways := fun_mk (st := s_count_ways) l_count_ways c_count_ways k_count_ways
  have F_all_ways := fun_mk (st := s_all_ways) l_all_ways c_all_ways k_all_ways
  have F_first_fault := fun_mk (st := s_first_fault) l_first_fault c_first_fault k_first_fault
  have F_purse_of_least_sums := fun_mk (st := s_purse_of_least_sums) l_purse_of_least_sums c_purse_of_least_sums k_purse_of_least_sums
  have F_least_common_sum := fun_mk (st := s_least_common_sum) l_least_common_sum c_least_common_sum k_least_common_sum
  have F_made_by_both := fun_mk (st := s_made_by_both) l_made_by_both c_made_by_both k_made_by_both
  have F_is_number_in_figures := fun_mk (st := s_is_number_in_figures) l_is_number_in_figures c_is_number_in_figures k_is_number_in_figures
  have F_read := fun_mk (st := s_read) l_read c_read k_read
  have F__law_cell := fun_mk (st := s__law_cell) l__law_cell c__law_cell k__law_cell
  have F__law_deed := fun_mk (st := s__law_deed) l__law_deed c__law_deed k__law_deed
  have F__law_kinds_of := fun_mk (st := s__law_kinds_of) l__law_kinds_of c__law_kinds_of k__law_kinds_of
  have F_law := fun_mk (st := s_law) l_law c_law k_law
  refine ⟨PySem.W.fnOf "law" "law" (defArgs s_law) (defBody s_law) (defScope s_law) .none kV_law dc_law pm_law an_law cd_law ct_law, fun s v => .of_eq rfl, fun base _ _ => ?_⟩
  have W_is_whole : Fn l.prog w K mg base "is_whole" ["thing"] 1 sp_wholeG := ⟨x_is_whole, _, no_is_whole F_is_whole T, PySem.W.mg_of X G a_is_whole, k_is_whole, F_is_whole.binds (ps := ["thing"]) fun _ _ _ _ _ _ us hl => match us, hl with | [_], _ => rfl⟩
  have C_is_whole : Fn l.prog w K mg base "is_whole" ["thing"] 1 sp_whole := ⟨x_is_whole, _, ok_is_whole F_is_whole T, PySem.W.mg_of X G a_is_whole, k_is_whole, F_is_whole.binds (ps := ["thing"]) fun _ _ _ _ _ _ us hl => match us, hl with | [_], _ => rfl⟩
  have C_common_divisor : Fn l.prog w K mg base "common_divisor" ["one", "other"] 1 sp_gcd := ⟨x_common_divisor, _, ok_common_divisor F_common_divisor, PySem.W.mg_of X G a_common_divisor, k_common_divisor, F_common_divisor.binds (ps := ["one", "other"]) fun _ _ _ _ _ _ us hl => match us, hl with | [_, _], _ => rfl⟩
  have D_checked : FnX l.prog w K mg base "checked" ["purse"] 2 (orSp (sp_checked K) (sp_no1 c_BadPurse)) := ⟨x_checked, _, FnOk.or (ok_checked F_checked T h_MOST_COINS h_GREATEST_COIN C_is_whole) (no_checked F_checked T h_MOST_COINS h_GREATEST_COIN X_BadPurse W_is_whole), PySem.W.mg_of X G a_checked, k_checked, F_checked.binds (ps := ["purse"]) fun _ _ _ _ _ _ us hl => match us, hl with | [_], _ => rfl⟩
  have C_checked : Fn l.prog w K mg base "checked" ["purse"] 2 (sp_checked K) := ⟨x_checked, _, ok_checked F_checked T h_MOST_COINS h_GREATEST_COIN C_is_whole, PySem.W.mg_of X G a_checked, k_checked, F_checked.binds (ps := ["purse"]) fun _ _ _ _ _ _ us hl => match us, hl with | [_], _ => rfl⟩
  have D_divisor_of : FnX l.prog w K mg base "divisor_of" ["purse"] 3 (orSp (sp_divisor K) (sp_no1 c_BadPurse)) := ⟨x_divisor_of, _, FnOk.or (ok_divisor_of F_divisor_of C_checked C_common_divisor) (no_divisor_of F_divisor_of D_checked), PySem.W.mg_of X G a_divisor_of, k_divisor_of, F_divisor_of.binds (ps := ["purse"]) fun _ _ _ _ _ _ us hl => match us, hl with | [_], _ => rfl⟩
  have C_divisor_of : Fn l.prog w K mg base "divisor_of" ["purse"] 3 (sp_divisor K) := ⟨x_divisor_of, _, ok_divisor_of F_divisor_of C_checked C_common_divisor, PySem.W.mg_of X G a_divisor_of, k_divisor_of, F_divisor_of.binds (ps := ["purse"]) fun _ _ _ _ _ _ us hl => match us, hl with | [_], _ => rfl⟩
  have C_add_coin : Fn l.prog w K mg base "add_coin" ["made", "coin"] 1 sp_addcoin := ⟨x_add_coin, _, ok_add_coin F_add_coin T, PySem.W.mg_of X G a_add_coin, k_add_coin, F_add_coin.binds (ps := ["made", "coin"]) fun _ _ _ _ _ _ us hl => match us, hl with | [_, _], _ => rfl⟩
  have C_needed_of : Fn l.prog w K mg base "needed_of" ["coins"] 2 (sp_needed K) := ⟨x_needed_of, _, ok_needed_of F_needed_of C_add_coin, PySem.W.mg_of X G a_needed_of, k_needed_of, F_needed_of.binds (ps := ["coins"]) fun _ _ _ _ _ _ us hl => match us, hl with | [_], _ => rfl⟩
  have D_least_purse_of : FnX l.prog w K mg base "least_purse_of" ["coins"] 3 (sp_lpofS K c_TooBig) := ⟨x_least_purse_of, _, ok_least_purse_of F_least_purse_of T h_MOST_COINS h_GREATEST_COIN X_TooBig C_needed_of, PySem.W.mg_of X G a_least_purse_of, k_least_purse_of, F_least_purse_of.binds (ps := ["coins"]) fun _ _ _ _ _ _ us hl => match us, hl with | [_], _ => rfl⟩
  have C_least_purse_of := D_least_purse_of.plain
  have W_is_sum : Fn l.prog w K mg base "is_sum" ["thing"] 2 sp_sumG := ⟨x_is_sum, _, no_is_sum F_is_sum W_is_whole, PySem.W.mg_of X G a_is_sum, k_is_sum, F_is_sum.binds (ps := ["thing"]) fun _ _ _ _ _ _ us hl => match us, hl with | [_], _ => rfl⟩
  have C_is_sum : Fn l.prog w K mg base "is_sum" ["thing"] 2 sp_issum := ⟨x_is_sum, _, ok_is_sum F_is_sum C_is_whole, PySem.W.mg_of X G a_is_sum, k_is_sum, F_is_sum.binds (ps := ["thing"]) fun _ _ _ _ _ _ us hl => match us, hl with | [_], _ => rfl⟩
  have C_add_once : Fn l.prog w K mg base "add_once" ["least", "rest", "coin"] 1 sp_addonce := ⟨x_add_once, _, ok_add_once F_add_once T, PySem.W.mg_of X G a_add_once, k_add_once, F_add_once.binds (ps := ["least", "rest", "coin"]) fun _ _ _ _ _ _ us hl => match us, hl with | [_, _, _], _ => rfl⟩
  have C_add_coin_to_least : Fn l.prog w K mg base "add_coin_to_least" ["least", "coin"] 2 sp_addleast := ⟨x_add_coin_to_least, _, ok_add_coin_to_least F_add_coin_to_least T C_common_divisor C_add_once, PySem.W.mg_of X G a_add_coin_to_least, k_add_coin_to_least, F_add_coin_to_least.binds (ps := ["least", "coin"]) fun _ _ _ _ _ _ us hl => match us, hl with | [_, _], _ => rfl⟩
  have C_least_sums_by : Fn l.prog w K mg base "least_sums_by" ["number", "coins"] 3 sp_lsby := ⟨x_least_sums_by, _, ok_least_sums_by F_least_sums_by C_add_coin_to_least, PySem.W.mg_of X G a_least_sums_by, k_least_sums_by, F_least_sums_by.binds (ps := ["number", "coins"]) fun _ _ _ _ _ _ us hl => match us, hl with | [_, _], _ => rfl⟩
  have D_least_sums : FnX l.prog w K mg base "least_sums" ["purse"] 4 (orSp sp_lsums (sp_no1 c_BadPurse)) := ⟨x_least_sums, _, FnOk.or (ok_least_sums F_least_sums C_checked C_least_sums_by) (no_least_sums F_least_sums D_checked), PySem.W.mg_of X G a_least_sums, k_least_sums, F_least_sums.binds (ps := ["purse"]) fun _ _ _ _ _ _ us hl => match us, hl with | [_], _ => rfl⟩
  have C_least_sums : Fn l.prog w K mg base "least_sums" ["purse"] 4 sp_lsums := ⟨x_least_sums, _, ok_least_sums F_least_sums C_checked C_least_sums_by, PySem.W.mg_of X G a_least_sums, k_least_sums, F_least_sums.binds (ps := ["purse"]) fun _ _ _ _ _ _ us hl => match us, hl with | [_], _ => rfl⟩
  have C_is_reached : Fn l.prog w K mg base "is_reached" ["least", "number"] 1 sp_reached := ⟨x_is_reached, _, ok_is_reached F_is_reached T, PySem.W.mg_of X G a_is_reached, k_is_reached, F_is_reached.binds (ps := ["least", "number"]) fun _ _ _ _ _ _ us hl => match us, hl with | [_, _], _ => rfl⟩
  have D_makes : FnX l.prog w K mg base "makes" ["purse", "number"] 5 (orSp sp_makes (sp_noM c_BadPurse c_BadSum)) := ⟨x_makes, _, FnOk.or (ok_makes F_makes T C_least_sums C_is_sum C_is_reached) (no_makes F_makes T X_BadSum D_least_sums W_is_sum), PySem.W.mg_of X G a_makes, k_makes, F_makes.binds (ps := ["purse", "number"]) fun _ _ _ _ _ _ us hl => match us, hl with | [_, _], _ => rfl⟩
  have C_makes : Fn l.prog w K mg base "makes" ["purse", "number"] 5 sp_makes := ⟨x_makes, _, ok_makes F_makes T C_least_sums C_is_sum C_is_reached, PySem.W.mg_of X G a_makes, k_makes, F_makes.binds (ps := ["purse", "number"]) fun _ _ _ _ _ _ us hl => match us, hl with | [_, _], _ => rfl⟩
  have D_check_gaps_end : FnX l.prog w K mg base "check_gaps_end" ["purse"] 4 (sp_endcheck c_Endless) := ⟨x_check_gaps_end, _, ok_check_gaps_end F_check_gaps_end X_Endless C_divisor_of, PySem.W.mg_of X G a_check_gaps_end, k_check_gaps_end, F_check_gaps_end.binds (ps := ["purse"]) fun _ _ _ _ _ _ us hl => match us, hl with | [_], _ => rfl⟩
  have C_check_gaps_end := D_check_gaps_end.plain
  have D_least_sums_of_every_rest : FnX l.prog w K mg base "least_sums_of_every_rest" ["purse"] 5 (orSp spNo (sp_end6 c_Endless)) := ⟨x_least_sums_of_every_rest, _, FnOk.inR (no_least_sums_of_every_rest F_least_sums_of_every_rest D_check_gaps_end), PySem.W.mg_of X G a_least_sums_of_every_rest, k_least_sums_of_every_rest, F_least_sums_of_every_rest.binds (ps := ["purse"]) fun _ _ _ _ _ _ us hl => match us, hl with | [_], _ => rfl⟩
  have D_gaps_of : FnX l.prog w K mg base "gaps_of" ["purse"] 8 (orSp spNo (sp_end6 c_Endless)) := ⟨x_gaps_of, _, FnOk.inR (no_gaps_of F_gaps_of D_least_sums_of_every_rest), PySem.W.mg_of X G a_gaps_of, k_gaps_of, F_gaps_of.binds (ps := ["purse"]) fun _ _ _ _ _ _ us hl => match us, hl with | [_], _ => rfl⟩
  have D_check_payment : FnX l.prog w K mg base "check_payment" ["purse", "number"] 3 (sp_pay c_BadSum) := ⟨x_check_payment, _, ok_check_payment F_check_payment h_GREATEST_PAID X_BadSum C_checked C_is_sum, PySem.W.mg_of X G a_check_payment, k_check_payment, F_check_payment.binds (ps := ["purse", "number"]) fun _ _ _ _ _ _ us hl => match us, hl with | [_, _], _ => rfl⟩
  have C_check_payment := D_check_payment.plain
  have D_count_ways : FnX l.prog w K mg base "count_ways" ["purse", "number"] 8 (sp_count c_BadSum) := ⟨x_count_ways, _, ok_count_ways F_count_ways T D_check_payment, PySem.W.mg_of X G a_count_ways, k_count_ways, F_count_ways.binds (ps := ["purse", "number"]) fun _ _ _ _ _ _ us hl => match us, hl with | [_, _], _ => rfl⟩
  have C_count_ways := D_count_ways.plain
  have D_all_ways : FnX l.prog w K mg base "all_ways" ["purse", "number"] 9 (orSp spNo (sp_aw6 c_TooMany)) := ⟨x_all_ways, _, FnOk.inR (no_all_ways F_all_ways T h_MOST_WAYS X_TooMany D_count_ways), PySem.W.mg_of X G a_all_ways, k_all_ways, F_all_ways.binds (ps := ["purse", "number"]) fun _ _ _ _ _ _ us hl => match us, hl with | [_, _], _ => rfl⟩
  have D_first_fault : FnX l.prog w K mg base "first_fault" ["purse"] 9 (orSp spNo (sp_ff6 c_NoOne)) := ⟨x_first_fault, _, FnOk.inR (no_first_fault F_first_fault T X_NoOne D_checked), PySem.W.mg_of X G a_first_fault, k_first_fault, F_first_fault.binds (ps := ["purse"]) fun _ _ _ _ _ _ us hl => match us, hl with | [_], _ => rfl⟩
  have D_purse_of_least_sums : FnX l.prog w K mg base "purse_of_least_sums" ["least"] 4 (sp_ofsums c_TooBig) := ⟨x_purse_of_least_sums, _, ok_purse_of_least_sums F_purse_of_least_sums T h_GREATEST_COIN X_TooBig D_least_purse_of C_least_sums_by, PySem.W.mg_of X G a_purse_of_least_sums, k_purse_of_least_sums, F_purse_of_least_sums.binds (ps := ["least"]) fun _ _ _ _ _ _ us hl => match us, hl with | [_], _ => rfl⟩
  have C_purse_of_least_sums := D_purse_of_least_sums.plain
  have D_least_common_sum : FnX l.prog w K mg base "least_common_sum" ["one", "other"] 5 (sp_lcs c_TooBig) := ⟨x_least_common_sum, _, ok_least_common_sum F_least_common_sum T h_GREATEST_COIN X_TooBig C_least_sums C_is_reached, PySem.W.mg_of X G a_least_common_sum, k_least_common_sum, F_least_common_sum.binds (ps := ["one", "other"]) fun _ _ _ _ _ _ us hl => match us, hl with | [_, _], _ => rfl⟩
  have C_least_common_sum := D_least_common_sum.plain
  have D_made_by_both : FnX l.prog w K mg base "made_by_both" ["one", "other"] 12 (sp_bothS c_Endless c_TooBig) := ⟨x_made_by_both, _, ok_made_by_both F_made_by_both T C_checked D_check_gaps_end D_least_common_sum C_least_sums_by D_purse_of_least_sums, PySem.W.mg_of X G a_made_by_both, k_made_by_both, F_made_by_both.binds (ps := ["one", "other"]) fun _ _ _ _ _ _ us hl => match us, hl with | [_, _], _ => rfl⟩
  have C_made_by_both := D_made_by_both.plain
  have C_is_number_in_figures : Fn l.prog w K mg base "is_number_in_figures" ["text"] 1 sp_fig := ⟨x_is_number_in_figures, _, ok_is_number_in_figures F_is_number_in_figures T h_FIGURES h_MOST_FIGURES, PySem.W.mg_of X G a_is_number_in_figures, k_is_number_in_figures, F_is_number_in_figures.binds (ps := ["text"]) fun _ _ _ _ _ _ us hl => match us, hl with | [_], _ => rfl⟩
  have D_read : FnX l.prog w K mg base "read" ["text"] 6 (orSp spNo (sp_rd6 c_BadText)) := ⟨x_read, _, FnOk.inR (no_read F_read T X_BadText C_is_number_in_figures), PySem.W.mg_of X G a_read, k_read, F_read.binds (ps := ["text"]) fun _ _ _ _ _ _ us hl => match us, hl with | [_], _ => rfl⟩
  have C__law_cell : Fn l.prog w K mg base "_law_cell" ["_law_script", "_law_k"] 1 (sp_cell K) := ⟨x__law_cell, _, ok__law_cell F__law_cell T, PySem.W.mg_of X G a__law_cell, k__law_cell, F__law_cell.binds (ps := ["_law_script", "_law_k"]) fun _ _ _ _ _ _ us hl => match us, hl with | [_, _], _ => rfl⟩
  have D__law_deed : FnX l.prog w K mg base "_law_deed" ["_law_way"] 13 (sp_deed29 (cls7 c_BadPurse c_BadSum c_Endless c_NoOne c_TooBig c_TooMany c_BadText)) := ⟨x__law_deed, _, ok__law_deed F__law_deed D_checked D_makes D_gaps_of D_first_fault D_made_by_both D_all_ways D_read, PySem.W.mg_of X G a__law_deed, k__law_deed, F__law_deed.binds (ps := ["_law_way"]) fun _ _ _ _ _ _ us hl => match us, hl with | [_], _ => rfl⟩
  have C__law_deed := D__law_deed.plain
  have C__law_kinds_of : Fn l.prog w K mg base "_law_kinds_of" ["_law_way"] 14 sp_kinds := ⟨x__law_kinds_of, _, ok__law_kinds_of F__law_kinds_of T X_CoinError X_BadPurse X_BadSum X_Endless X_NoOne X_TooBig X_TooMany X_BadText K_BadPurse K_BadSum K_Endless K_NoOne K_TooBig K_TooMany K_BadText I_01 I_02 I_03 I_04 I_05 I_06 I_10 I_12 I_13 I_14 I_15 I_16 I_20 I_21 I_23 I_24 I_25 I_26 I_30 I_31 I_32 I_34 I_35 I_36 I_40 I_41 I_42 I_43 I_45 I_46 I_50 I_51 I_52 I_53 I_54 I_56 I_60 I_61 I_62 I_63 I_64 I_65 D__law_deed, PySem.W.mg_of X G a__law_kinds_of, k__law_kinds_of, F__law_kinds_of.binds (ps := ["_law_way"]) fun _ _ _ _ _ _ us hl => match us, hl with | [_], _ => rfl⟩
  exact ok_law F_law T C__law_cell C__law_kinds_of
end CY
open PySem PySem.W PyProof.Rows
set_option maxRecDepth 100000 in
set_option maxHeartbeats 0 in
theorem PySem.Challenge.cw_coinyard_k29_refusals_stand_apart_holds : PySem.Challenge.rw_coinyard_k29_refusals_stand_apart.Holds := by
  w_on; o_law; z_head; (case hw => w_witness2)
  k_fill
  refine L2.walkZ_of (l := PySem.Challenge.rw_coinyard_k29_refusals_stand_apart) (n := 63) (k := 15) (x := "_law_script") (CX := fun _ => L2.CX0) (sp := fun w => CY.sp_law _) (fun _ => by kernel_rfl) rfl (by decide) rfl ⟨rfl, by decide, by decide⟩ ?F (fun _ _ a ns hl _ hS => ⟨a, ns, rfl, hS, hl, fun _ => rfl⟩) fun _ _ _ _ _ z => z
  case F =>
    intro w mg fa h KX G hmg
    refine' CY.all_mk KX G hmg ?a_is_whole ?l_is_whole ?c_is_whole ?k_is_whole ?a_common_divisor ?l_common_divisor ?c_common_divisor ?k_common_divisor ?a_checked ?l_checked ?c_checked ?k_checked ?a_divisor_of ?l_divisor_of ?c_divisor_of ?k_divisor_of ?a_add_coin ?l_add_coin ?c_add_coin ?k_add_coin ?a_needed_of ?l_needed_of ?c_needed_of ?k_needed_of ?a_least_purse_of ?l_least_purse_of ?c_least_purse_of ?k_least_purse_of ?a_is_sum ?l_is_sum ?c_is_sum ?k_is_sum ?a_add_once ?l_add_once ?c_add_once ?k_add_once ?a_add_coin_to_least ?l_add_coin_to_least ?c_add_coin_to_least ?k_add_coin_to_least ?a_least_sums_by ?l_least_sums_by ?c_least_sums_by ?k_least_sums_by ?a_least_sums ?l_least_sums ?c_least_sums ?k_least_sums ?a_is_reached ?l_is_reached ?c_is_reached ?k_is_reached ?a_makes ?l_makes ?c_makes ?k_makes ?a_check_gaps_end ?l_check_gaps_end ?c_check_gaps_end ?k_check_gaps_end ?a_least_sums_of_every_rest ?l_least_sums_of_every_rest ?c_least_sums_of_every_rest ?k_least_sums_of_every_rest ?a_gaps_of ?l_gaps_of ?c_gaps_of ?k_gaps_of ?a_check_payment ?l_check_payment ?c_check_payment ?k_check_payment ?a_count_ways ?l_count_ways ?c_count_ways ?k_count_ways ?a_all_ways ?l_all_ways ?c_all_ways ?k_all_ways ?a_first_fault ?l_first_fault ?c_first_fault ?k_first_fault ?a_purse_of_least_sums ?l_purse_of_least_sums ?c_purse_of_least_sums ?k_purse_of_least_sums ?a_least_common_sum ?l_least_common_sum ?c_least_common_sum ?k_least_common_sum ?a_made_by_both ?l_made_by_both ?c_made_by_both ?k_made_by_both ?a_is_number_in_figures ?l_is_number_in_figures ?c_is_number_in_figures ?k_is_number_in_figures ?a_read ?l_read ?c_read ?k_read ?a__law_cell ?l__law_cell ?c__law_cell ?k__law_cell ?a__law_deed ?l__law_deed ?c__law_deed ?k__law_deed ?a__law_kinds_of ?l__law_kinds_of ?c__law_kinds_of ?k__law_kinds_of ?a_law ?l_law ?c_law ?k_law ?v_MOST_COINS ?v_GREATEST_COIN ?v_GREATEST_PAID ?v_MOST_WAYS ?v_MOST_FIGURES ?v_FIGURES ?z_len ?z_isinstance ?z_max ?z_sorted ?z_set ?z_tuple ?z_list ?z_int ?z_bool ?z_range ?z_min ?z_sum ?z_zip ?z_str ?z_ValueError ?z_reversed ?z_enumerate ?e_CoinError ?f_CoinError ?e_BadPurse ?f_BadPurse ?g_BadPurse ?v_BadPurse ?e_BadSum ?f_BadSum ?g_BadSum ?v_BadSum ?e_BadText ?f_BadText ?g_BadText ?v_BadText ?e_Endless ?f_Endless ?g_Endless ?v_Endless ?e_NoOne ?f_NoOne ?g_NoOne ?v_NoOne ?e_TooBig ?f_TooBig ?g_TooBig ?v_TooBig ?e_TooMany ?f_TooMany ?g_TooMany ?v_TooMany ?h1_BadPurse ?h2_BadPurse ?h3_BadPurse ?h4_BadPurse ?h7_BadPurse ?h8_BadPurse ?h1_BadSum ?h2_BadSum ?h3_BadSum ?h4_BadSum ?h7_BadSum ?h8_BadSum ?h1_BadText ?h2_BadText ?h3_BadText ?h4_BadText ?h7_BadText ?h8_BadText ?h1_Endless ?h2_Endless ?h3_Endless ?h4_Endless ?h7_Endless ?h8_Endless ?h1_NoOne ?h2_NoOne ?h3_NoOne ?h4_NoOne ?h7_NoOne ?h8_NoOne ?h1_TooBig ?h2_TooBig ?h3_TooBig ?h4_TooBig ?h7_TooBig ?h8_TooBig ?h1_TooMany ?h2_TooMany ?h3_TooMany ?h4_TooMany ?h7_TooMany ?h8_TooMany ?h5 ?h6 ?I_01 ?I_02 ?I_03 ?I_04 ?I_05 ?I_06 ?I_10 ?I_12 ?I_13 ?I_14 ?I_15 ?I_16 ?I_20 ?I_21 ?I_23 ?I_24 ?I_25 ?I_26 ?I_30 ?I_31 ?I_32 ?I_34 ?I_35 ?I_36 ?I_40 ?I_41 ?I_42 ?I_43 ?I_45 ?I_46 ?I_50 ?I_51 ?I_52 ?I_53 ?I_54 ?I_56 ?I_60 ?I_61 ?I_62 ?I_63 ?I_64 ?I_65
    (case a_is_whole => k_is)
    (case l_is_whole => k_is)
    (case c_is_whole => k_is)
    (case k_is_whole => k_is)
    (case a_common_divisor => k_is)
    (case l_common_divisor => k_is)
    (case c_common_divisor => k_is)
    (case k_common_divisor => k_is)
    (case a_checked => k_is)
    (case l_checked => k_is)
    (case c_checked => k_is)
    (case k_checked => k_is)
    (case a_divisor_of => k_is)
    (case l_divisor_of => k_is)
    (case c_divisor_of => k_is)
    (case k_divisor_of => k_is)
    (case a_add_coin => k_is)
    (case l_add_coin => k_is)
    (case c_add_coin => k_is)
    (case k_add_coin => k_is)
    (case a_needed_of => k_is)
    (case l_needed_of => k_is)
    (case c_needed_of => k_is)
    (case k_needed_of => k_is)
    (case a_least_purse_of => k_is)
    (case l_least_purse_of => k_is)
    (case c_least_purse_of => k_is)
    (case k_least_purse_of => k_is)
    (case a_is_sum => k_is)
    (case l_is_sum => k_is)
    (case c_is_sum => k_is)
    (case k_is_sum => k_is)
    (case a_add_once => k_is)
    (case l_add_once => k_is)
    (case c_add_once => k_is)
    (case k_add_once => k_is)
    (case a_add_coin_to_least => k_is)
    (case l_add_coin_to_least => k_is)
    (case c_add_coin_to_least => k_is)
    (case k_add_coin_to_least => k_is)
    (case a_least_sums_by => k_is)
    (case l_least_sums_by => k_is)
    (case c_least_sums_by => k_is)
    (case k_least_sums_by => k_is)
    (case a_least_sums => k_is)
    (case l_least_sums => k_is)
    (case c_least_sums => k_is)
    (case k_least_sums => k_is)
    (case a_is_reached => k_is)
    (case l_is_reached => k_is)
    (case c_is_reached => k_is)
    (case k_is_reached => k_is)
    (case a_makes => k_is)
    (case l_makes => k_is)
    (case c_makes => k_is)
    (case k_makes => k_is)
    (case a_check_gaps_end => k_is)
    (case l_check_gaps_end => k_is)
    (case c_check_gaps_end => k_is)
    (case k_check_gaps_end => k_is)
    (case a_least_sums_of_every_rest => k_is)
    (case l_least_sums_of_every_rest => k_is)
    (case c_least_sums_of_every_rest => k_is)
    (case k_least_sums_of_every_rest => k_is)
    (case a_gaps_of => k_is)
    (case l_gaps_of => k_is)
    (case c_gaps_of => k_is)
    (case k_gaps_of => k_is)
    (case a_check_payment => k_is)
    (case l_check_payment => k_is)
    (case c_check_payment => k_is)
    (case k_check_payment => k_is)
    (case a_count_ways => k_is)
    (case l_count_ways => k_is)
    (case c_count_ways => k_is)
    (case k_count_ways => k_is)
    (case a_all_ways => k_is)
    (case l_all_ways => k_is)
    (case c_all_ways => k_is)
    (case k_all_ways => k_is)
    (case a_first_fault => k_is)
    (case l_first_fault => k_is)
    (case c_first_fault => k_is)
    (case k_first_fault => k_is)
    (case a_purse_of_least_sums => k_is)
    (case l_purse_of_least_sums => k_is)
    (case c_purse_of_least_sums => k_is)
    (case k_purse_of_least_sums => k_is)
    (case a_least_common_sum => k_is)
    (case l_least_common_sum => k_is)
    (case c_least_common_sum => k_is)
    (case k_least_common_sum => k_is)
    (case a_made_by_both => k_is)
    (case l_made_by_both => k_is)
    (case c_made_by_both => k_is)
    (case k_made_by_both => k_is)
    (case a_is_number_in_figures => k_is)
    (case l_is_number_in_figures => k_is)
    (case c_is_number_in_figures => k_is)
    (case k_is_number_in_figures => k_is)
    (case a_read => k_is)
    (case l_read => k_is)
    (case c_read => k_is)
    (case k_read => k_is)
    (case a__law_cell => k_is)
    (case l__law_cell => k_is)
    (case c__law_cell => k_is)
    (case k__law_cell => k_is)
    (case a__law_deed => k_is)
    (case l__law_deed => k_is)
    (case c__law_deed => k_is)
    (case k__law_deed => k_is)
    (case a__law_kinds_of => k_is)
    (case l__law_kinds_of => k_is)
    (case c__law_kinds_of => k_is)
    (case k__law_kinds_of => k_is)
    (case a_law => k_is)
    (case l_law => k_is)
    (case c_law => k_is)
    (case k_law => k_is)
    (case v_MOST_COINS => k_is)
    (case v_GREATEST_COIN => k_is)
    (case v_GREATEST_PAID => k_is)
    (case v_MOST_WAYS => k_is)
    (case v_MOST_FIGURES => k_is)
    (case v_FIGURES => k_is)
    (case z_len => k_is)
    (case z_isinstance => k_is)
    (case z_max => k_is)
    (case z_sorted => k_is)
    (case z_set => k_is)
    (case z_tuple => k_is)
    (case z_list => k_is)
    (case z_int => k_is)
    (case z_bool => k_is)
    (case z_range => k_is)
    (case z_min => k_is)
    (case z_sum => k_is)
    (case z_zip => k_is)
    (case z_str => k_is)
    (case z_ValueError => k_is)
    (case z_reversed => k_is)
    (case z_enumerate => k_is)
    (case e_CoinError => first | k_is | k_exc | kernel_rfl)
    (case f_CoinError => first | k_is | k_exc | kernel_rfl)
    (case e_BadPurse => first | k_is | k_exc | kernel_rfl)
    (case f_BadPurse => first | k_is | k_exc | kernel_rfl)
    (case g_BadPurse => first | k_is | k_exc | kernel_rfl)
    (case v_BadPurse => first | k_is | k_exc | kernel_rfl)
    (case e_BadSum => first | k_is | k_exc | kernel_rfl)
    (case f_BadSum => first | k_is | k_exc | kernel_rfl)
    (case g_BadSum => first | k_is | k_exc | kernel_rfl)
    (case v_BadSum => first | k_is | k_exc | kernel_rfl)
    (case e_BadText => first | k_is | k_exc | kernel_rfl)
    (case f_BadText => first | k_is | k_exc | kernel_rfl)
    (case g_BadText => first | k_is | k_exc | kernel_rfl)
    (case v_BadText => first | k_is | k_exc | kernel_rfl)
    (case e_Endless => first | k_is | k_exc | kernel_rfl)
    (case f_Endless => first | k_is | k_exc | kernel_rfl)
    (case g_Endless => first | k_is | k_exc | kernel_rfl)
    (case v_Endless => first | k_is | k_exc | kernel_rfl)
    (case e_NoOne => first | k_is | k_exc | kernel_rfl)
    (case f_NoOne => first | k_is | k_exc | kernel_rfl)
    (case g_NoOne => first | k_is | k_exc | kernel_rfl)
    (case v_NoOne => first | k_is | k_exc | kernel_rfl)
    (case e_TooBig => first | k_is | k_exc | kernel_rfl)
    (case f_TooBig => first | k_is | k_exc | kernel_rfl)
    (case g_TooBig => first | k_is | k_exc | kernel_rfl)
    (case v_TooBig => first | k_is | k_exc | kernel_rfl)
    (case e_TooMany => first | k_is | k_exc | kernel_rfl)
    (case f_TooMany => first | k_is | k_exc | kernel_rfl)
    (case g_TooMany => first | k_is | k_exc | kernel_rfl)
    (case v_TooMany => first | k_is | k_exc | kernel_rfl)
    (case h1_BadPurse => first | k_is | k_exc | kernel_rfl)
    (case h2_BadPurse => first | k_is | k_exc | kernel_rfl)
    (case h3_BadPurse => first | k_is | k_exc | kernel_rfl)
    (case h4_BadPurse => first | k_is | k_exc | kernel_rfl)
    (case h7_BadPurse => first | k_is | k_exc | kernel_rfl)
    (case h8_BadPurse => first | k_is | k_exc | kernel_rfl)
    (case h1_BadSum => first | k_is | k_exc | kernel_rfl)
    (case h2_BadSum => first | k_is | k_exc | kernel_rfl)
    (case h3_BadSum => first | k_is | k_exc | kernel_rfl)
    (case h4_BadSum => first | k_is | k_exc | kernel_rfl)
    (case h7_BadSum => first | k_is | k_exc | kernel_rfl)
    (case h8_BadSum => first | k_is | k_exc | kernel_rfl)
    (case h1_BadText => first | k_is | k_exc | kernel_rfl)
    (case h2_BadText => first | k_is | k_exc | kernel_rfl)
    (case h3_BadText => first | k_is | k_exc | kernel_rfl)
    (case h4_BadText => first | k_is | k_exc | kernel_rfl)
    (case h7_BadText => first | k_is | k_exc | kernel_rfl)
    (case h8_BadText => first | k_is | k_exc | kernel_rfl)
    (case h1_Endless => first | k_is | k_exc | kernel_rfl)
    (case h2_Endless => first | k_is | k_exc | kernel_rfl)
    (case h3_Endless => first | k_is | k_exc | kernel_rfl)
    (case h4_Endless => first | k_is | k_exc | kernel_rfl)
    (case h7_Endless => first | k_is | k_exc | kernel_rfl)
    (case h8_Endless => first | k_is | k_exc | kernel_rfl)
    (case h1_NoOne => first | k_is | k_exc | kernel_rfl)
    (case h2_NoOne => first | k_is | k_exc | kernel_rfl)
    (case h3_NoOne => first | k_is | k_exc | kernel_rfl)
    (case h4_NoOne => first | k_is | k_exc | kernel_rfl)
    (case h7_NoOne => first | k_is | k_exc | kernel_rfl)
    (case h8_NoOne => first | k_is | k_exc | kernel_rfl)
    (case h1_TooBig => first | k_is | k_exc | kernel_rfl)
    (case h2_TooBig => first | k_is | k_exc | kernel_rfl)
    (case h3_TooBig => first | k_is | k_exc | kernel_rfl)
    (case h4_TooBig => first | k_is | k_exc | kernel_rfl)
    (case h7_TooBig => first | k_is | k_exc | kernel_rfl)
    (case h8_TooBig => first | k_is | k_exc | kernel_rfl)
    (case h1_TooMany => first | k_is | k_exc | kernel_rfl)
    (case h2_TooMany => first | k_is | k_exc | kernel_rfl)
    (case h3_TooMany => first | k_is | k_exc | kernel_rfl)
    (case h4_TooMany => first | k_is | k_exc | kernel_rfl)
    (case h7_TooMany => first | k_is | k_exc | kernel_rfl)
    (case h8_TooMany => first | k_is | k_exc | kernel_rfl)
    (case h5 => first | k_is | k_exc | kernel_rfl)
    (case h6 => first | k_is | k_exc | kernel_rfl)
    (case I_01 => first | k_is | k_exc | kernel_rfl)
    (case I_02 => first | k_is | k_exc | kernel_rfl)
    (case I_03 => first | k_is | k_exc | kernel_rfl)
    (case I_04 => first | k_is | k_exc | kernel_rfl)
    (case I_05 => first | k_is | k_exc | kernel_rfl)
    (case I_06 => first | k_is | k_exc | kernel_rfl)
    (case I_10 => first | k_is | k_exc | kernel_rfl)
    (case I_12 => first | k_is | k_exc | kernel_rfl)
    (case I_13 => first | k_is | k_exc | kernel_rfl)
    (case I_14 => first | k_is | k_exc | kernel_rfl)
    (case I_15 => first | k_is | k_exc | kernel_rfl)
    (case I_16 => first | k_is | k_exc | kernel_rfl)
    (case I_20 => first | k_is | k_exc | kernel_rfl)
    (case I_21 => first | k_is | k_exc | kernel_rfl)
    (case I_23 => first | k_is | k_exc | kernel_rfl)
    (case I_24 => first | k_is | k_exc | kernel_rfl)
    (case I_25 => first | k_is | k_exc | kernel_rfl)
    (case I_26 => first | k_is | k_exc | kernel_rfl)
    (case I_30 => first | k_is | k_exc | kernel_rfl)
    (case I_31 => first | k_is | k_exc | kernel_rfl)
    (case I_32 => first | k_is | k_exc | kernel_rfl)
    (case I_34 => first | k_is | k_exc | kernel_rfl)
    (case I_35 => first | k_is | k_exc | kernel_rfl)
    (case I_36 => first | k_is | k_exc | kernel_rfl)
    (case I_40 => first | k_is | k_exc | kernel_rfl)
    (case I_41 => first | k_is | k_exc | kernel_rfl)
    (case I_42 => first | k_is | k_exc | kernel_rfl)
    (case I_43 => first | k_is | k_exc | kernel_rfl)
    (case I_45 => first | k_is | k_exc | kernel_rfl)
    (case I_46 => first | k_is | k_exc | kernel_rfl)
    (case I_50 => first | k_is | k_exc | kernel_rfl)
    (case I_51 => first | k_is | k_exc | kernel_rfl)
    (case I_52 => first | k_is | k_exc | kernel_rfl)
    (case I_53 => first | k_is | k_exc | kernel_rfl)
    (case I_54 => first | k_is | k_exc | kernel_rfl)
    (case I_56 => first | k_is | k_exc | kernel_rfl)
    (case I_60 => first | k_is | k_exc | kernel_rfl)
    (case I_61 => first | k_is | k_exc | kernel_rfl)
    (case I_62 => first | k_is | k_exc | kernel_rfl)
    (case I_63 => first | k_is | k_exc | kernel_rfl)
    (case I_64 => first | k_is | k_exc | kernel_rfl)
    (case I_65 => first | k_is | k_exc | kernel_rfl)
#print axioms PySem.Challenge.cw_coinyard_k29_refusals_stand_apart_holds
