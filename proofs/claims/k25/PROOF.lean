import PyProof.Rows.All
import Wide.All
import OpenK.AllK
import Wide.FinOn
import Lean
import PyProof.EqAt
import PyProof.EqKinds
import PyProof.TupleCall
import PyProof.NeKinds
import PyProof.Rows.SetFrom
import PyProof.Rows.SortWalk
import PyProof.CollectWalk
import PyProof.ListNew
import PyProof.SetKind
import PyProof.StationsW
import PyProof.SliceStr2
import PyProof.StrBlock
import PyProof.StrLawsIdx
import PyProof.Rows.StrNews
import PyProof.Rows.StrWeight2
import PyProof.Rows.StrItems
import PyProof.StrWalks
import PyProof.StrLawsTight
import PyProof.StrLawsIn
import KE.KIntText
import PySem.Challenge.RW_coinyard_k25_spoilt_texts
set_option Elab.async false
set_option linter.all false
set_option maxRecDepth 100000
/-! THE HAND LAYER, for ints, bools, texts, own classes, LISTS and tuples (index, slices, in, append, pop ..), calls, loops. Paste it whole ahead of your own text; what your proof does not reach may be deleted. -/
namespace L2
open PySem PySem.Spec PyProof.Rows

/-- a key: an int or a str -/
abbrev Key := Sum Int Str
def keyIs : Key → Value → Bool
  | .inl k, v => Value.isInt k v
  | .inr x, v => Value.isStrOf x v
def keyH (w : World) : Key → Int
  | .inl k => hashInt k
  | .inr x => hashStr w x
theorem keyIs_shape : ∀ {k : Key} {v : Value}, keyIs k v = true → (∃ i t, k = Sum.inl i ∧ v = Value.int i t) ∨ (∃ x t, k = Sum.inr x ∧ v = Value.str x t)
  | .inl i, v, h => by
    obtain ⟨t, e⟩ := Value.isInt_shape (k := i) (v := v) h
    exact .inl ⟨i, t, rfl, e⟩
  | .inr x, v, h => by
    obtain ⟨t, e⟩ := Value.isStrOf_shape (x := x) (v := v) h
    exact .inr ⟨x, t, rfl, e⟩
theorem key_ll (a b : Int) : decide ((Sum.inl a : Key) = Sum.inl b) = (a == b) := by
  by_cases e : a = b
  · subst e; simp
  · have h : ¬ (Sum.inl a : Key) = Sum.inl b := fun q => e (Sum.inl.inj q)
    rw [decide_eq_false h]
    exact (beq_eq_false_iff_ne.mpr e).symm
theorem key_rr (a b : Str) : decide ((Sum.inr a : Key) = Sum.inr b) = decide (a = b) := by
  by_cases e : a = b
  · subst e; simp
  · have h : ¬ (Sum.inr a : Key) = Sum.inr b := fun q => e (Sum.inr.inj q)
    rw [decide_eq_false h, decide_eq_false e]
theorem key_lr (a : Int) (b : Str) : decide ((Sum.inl a : Key) = Sum.inr b) = false := decide_eq_false (fun q => nomatch q)
theorem key_rl (a : Str) (b : Int) : decide ((Sum.inr a : Key) = Sum.inl b) = false := decide_eq_false (fun q => nomatch q)

def mixKind (prog : Program) (w : World) : PySem.KeyKind prog w Key where
  is := keyIs
  hash := keyH w
  inj := fun v a b ha hb => by
    rcases keyIs_shape ha with ⟨i, t, rfl, rfl⟩ | ⟨x, t, rfl, rfl⟩
    · rcases keyIs_shape hb with ⟨j, u, rfl, e⟩ | ⟨y, u, rfl, e⟩
      · injection e with e1 _; rw [e1]
      · exact nomatch e
    · rcases keyIs_shape hb with ⟨j, u, rfl, e⟩ | ⟨y, u, rfl, e⟩
      · exact nomatch e
      · injection e with e1 _; rw [e1]
  byValue := fun k v h => by
    rcases keyIs_shape h with ⟨i, t, rfl, rfl⟩ | ⟨x, t, rfl, rfl⟩ <;> rfl
  pyHash := fun hv h => by
    rcases keyIs_shape hv with ⟨i, t, rfl, rfl⟩ | ⟨x, t, rfl, rfl⟩
    · exact wpAny_pyHash_int h
    · exact wpAny_pyHash_str h
  eqBool := fun hu hv h => by
    rcases keyIs_shape hu with ⟨i, t, rfl, rfl⟩ | ⟨x, t, rfl, rfl⟩
    · rcases keyIs_shape hv with ⟨j, u, rfl, rfl⟩ | ⟨y, u, rfl, rfl⟩
      · rw [key_ll] at h; exact wpAny_eqBool_int h
      · rw [key_lr] at h; exact SeqAt.EqAt.int_str i t y u _ _ _ _ h
    · rcases keyIs_shape hv with ⟨j, u, rfl, rfl⟩ | ⟨y, u, rfl, rfl⟩
      · rw [key_rl] at h; exact SeqAt.EqAt.str_int x t j u _ _ _ _ h
      · rw [key_rr] at h; exact wpAny_eqBool_str h
  «strs» := fun k x t v h => by
    rcases keyIs_shape h with ⟨i, u, rfl, e⟩ | ⟨y, u, rfl, e⟩
    · exact nomatch e
    · injection e with e1 _
      subst e1
      cases v <;> rfl

end L2

namespace L2
open PySem PySem.Spec PyProof.Rows

/-- a value, without the heap -/
inductive V where
  | non | bl (b : Bool) | int (i : Int) | str (x : Str) | byt (b : Array UInt8) | flt (b : UInt64) | ref (a : Addr) | ty (n : String)
  deriving DecidableEq

def RelV : V → Value → Prop
  | .non, u => u = Value.none
  | .bl b, u => u = Value.bool b
  | .int i, u => ∃ t, u = Value.int i t
  | .str x, u => ∃ t, u = Value.str x t
  | .byt b, u => ∃ t, u = Value.bytes b t
  | .flt b, u => ∃ t, u = Value.float b t
  | .ref a, u => u = Value.ref a
  | .ty n, u => u = Value.type n

abbrev Vals : List V → List Value → Prop := Paired RelV
theorem Vals.length {xs : List V} {us : List Value} (r : Vals xs us) : xs.length = us.length := Paired.length r
theorem Vals.get : ∀ {xs : List V} {us : List Value} {i : Nat} {x : V}, Vals xs us → xs[i]? = some x → ∃ u, us[i]? = some u ∧ RelV x u
  | _, _, _, _, .nil, e => by simp at e
  | _, _, 0, _, .cons r _, e => by simp at e; subst e; exact ⟨_, rfl, r⟩
  | _, _, i + 1, x, .cons _ t, e => by
    obtain ⟨u, h1, h2⟩ := Vals.get (i := i) (x := x) t (by simpa using e)
    exact ⟨u, by simpa using h1, h2⟩
theorem Vals.append : ∀ {xs ys : List V} {us ws : List Value}, Vals xs us → Vals ys ws → Vals (xs ++ ys) (us ++ ws)
  | _, _, _, _, .nil, s => s
  | _, _, _, _, .cons r t, s => .cons r (Vals.append t s)
theorem Vals.take : ∀ {xs : List V} {us : List Value} (n : Nat), Vals xs us → Vals (xs.take n) (us.take n)
  | _, _, 0, _ => .nil
  | _, _, _ + 1, .nil => .nil
  | _, _, n + 1, .cons r t => .cons r (Vals.take n t)
theorem Vals.drop : ∀ {xs : List V} {us : List Value} (n : Nat), Vals xs us → Vals (xs.drop n) (us.drop n)
  | _, _, 0, r => r
  | _, _, _ + 1, .nil => .nil
  | _, _, n + 1, .cons _ t => Vals.drop n t
def RelO : Option V → Option Value → Prop
  | some v, some u => RelV v u
  | none, none => True
  | _, _ => False
def KV {κ : Type} : List (κ × V) → List (κ × Value) → Prop := Paired fun (p : κ × V) (q : κ × Value) => p.1 = q.1 ∧ RelV p.2 q.2

/-- a key of a dict (00_mix): an int or a text -/
def kV : Key → V
  | .inl i => .int i
  | .inr x => .str x

/-- what stands at a tracked address -/
inductive HO where
  /-- a list -/
  | lst (xs : List V)
  /-- a tuple (never changes) -/
  | tup (xs : List V)
  /-- a dict whose keys are ints and texts; one whose keys are tuples of ints and texts (the empty one is both) -/
  | dK (kvs : List (Key × V)) | dT (kvs : List (List Key × V))
  /-- a set of ints: its members, its size -/
  | set (S : Int → Bool) (n : Nat)
  /-- an instance of the class at C, its dict at dx, its attributes -/
  | ins (C dx : Addr) (fs : List (Str × V))
  /-- the dict of the instance at x -/
  | own (x : Addr)
  /-- the dict of an exception -/
  | xd (fs : List (Str × V))
  /-- a bound method, f of x -/
  | met (f x : Addr)
  /-- a range object lo, lo + 1, .. below hi -/
  | rng (lo hi : Int)
  /-- a thing that is known to the object (the script; a dict while a loop walks it): read, never written while it is so -/
  | frz (o : Obj) (u : HO)
  /-- a code object's table -/
  | tbl (ps : Array Value)
  /-- any other thing, by what is true of its one object (a def of one's own: SetO a S n := HO.ext fun h => ..) -/
  | ext (φ : Heap → Prop)

abbrev Hp := Addr → Option HO
def upd (H : Hp) (a : Addr) (o : HO) : Hp := fun b => if b = a then some o else H b
theorem upd_same {H : Hp} {a : Addr} {o : HO} : upd H a o a = some o := by unfold upd; rw [if_pos rfl]
theorem upd_ne {H : Hp} {a b : Addr} {o : HO} (h : b ≠ a) : upd H a o b = H b := by unfold upd; rw [if_neg h]
theorem upd_upd {H : Hp} {a : Addr} {o u : HO} : upd (upd H a o) a u = upd H a u := by
  funext b; unfold upd; split <;> rfl
theorem ne_of_none {H : Hp} {a b : Addr} {o : HO} (h : H a = some o) (h' : H b = none) : a ≠ b := by
  intro e; subst e; rw [h] at h'; cases h'

section
variable (P : Program) (w : World)
def ObjOk (H : Hp) (h : Heap) (a : Addr) : HO → Prop
  | .lst xs => xs.length ≤ sizeLine ∧ ∃ (its : List Value) (n : Nat), Vals xs its ∧ h.get? a = some { cls := .type "list", data := .seq its.toArray n }
  | .tup xs => xs.length ≤ sizeLine ∧ ∃ its : List Value, Vals xs its ∧ IsTup h a its.toArray
  | .dK kvs => kvs.length ≤ sizeLine ∧ (a == sysModules) = false ∧ ∃ vs, KV kvs vs ∧ h.DictOf (mixKind P w) a vs
  | .dT kvs => kvs.length ≤ sizeLine ∧ (a == sysModules) = false ∧ ∃ xs : List (List Key × Addr × Value),
      Paired (fun (p : List Key × V) (q : List Key × Addr × Value) => p.1 = q.1 ∧ H q.2.1 = some (.tup (p.1.map kV)) ∧ RelV p.2 q.2.2) kvs xs ∧
      ∃ o es ep, h.get? a = some o ∧ o.ExactDict ∧ o.data = .dict es ep ∧ es.toList = xs.map (entryOfKey (tupleKind (mixKind P w))) ∧ (xs.map (·.1)).Nodup
  | .set S n => h.SetOf (intKind P w) a S n
  | .ins C dx fs => H dx = some (.own a) ∧ fs.length ≤ 1000 ∧ dx ≠ a ∧ h.get? a = some (PySem.W.instObj C dx) ∧
      ∃ mA, h.Ns1 dx mA ∧ (∀ f, RelO (fs.lookup f) (mA f)) ∧ PySem.Within mA (fs.map (·.1))
  | .own _ => ∃ o, h.get? a = some o
  | .xd fs => ∃ mA, h.Ns1 a mA ∧ ∀ f, RelO (fs.lookup f) (mA f)
  | .rng lo hi => ∃ t u v, h.get? a = some { cls := .type "range", data := .fields #[.int lo t, .int hi u, .int 1 v] }
  | .frz o u => h.get? a = some o ∧ ObjOk H h a u
  | .tbl ps => h.get? a = some { cls := .none, data := .fields ps }
  | .met f x => h.get? a = some (PySem.W.methodObj (.ref f) (.ref x))
  | .ext φ => φ h ∧ (∃ o, h.get? a = some o) ∧ ∀ h1 h2 : Heap, φ h1 → (∀ o, h1.get? a = some o → h2.get? a = some o) → φ h2
/-- the abstract heap is held -/
def HOk (H : Hp) (h : Heap) : Prop := ∀ a o, H a = some o → ObjOk P w H h a o
end

section
variable {P : Program} {w : World} {H H' : Hp} {h h' : Heap} {a : Addr} {o : HO}
theorem ObjOk.lt (x : ObjOk P w H h a o) : a < h.objs.size := by
  cases o with
  | lst xs => obtain ⟨_, _, _, _, e⟩ := x; exact Heap.lt_size e
  | tup xs => obtain ⟨_, _, _, p⟩ := x; exact p.lt
  | dK kvs => obtain ⟨_, _, _, _, o, _, _, e, _⟩ := x; exact Heap.lt_size e
  | dT kvs => obtain ⟨_, _, _, _, o, _, _, e, _⟩ := x; exact Heap.lt_size e
  | set S n => obtain ⟨o, _, _, _, e, _⟩ := x; exact Heap.lt_size e
  | ins C dx fs => obtain ⟨_, _, _, e, _⟩ := x; exact Heap.lt_size e
  | own y => obtain ⟨_, e⟩ := x; exact Heap.lt_size e
  | xd fs => obtain ⟨_, ⟨_, _, _, e, _⟩, _⟩ := x; exact Heap.lt_size e
  | rng lo hi => obtain ⟨_, _, _, e⟩ := x; exact Heap.lt_size e
  | frz ob u => obtain ⟨e, _⟩ := x; exact Heap.lt_size e
  | tbl ps => exact Heap.lt_size (show h.get? a = some _ from x)
  | met f y => exact Heap.lt_size (show h.get? a = some _ from x)
  | ext φ => obtain ⟨_, ⟨_, e⟩, _⟩ := x; exact Heap.lt_size e
theorem Paired.mapP {α β : Type} {F G : α → β → Prop} : ∀ {l₁ : List α} {l₂ : List β}, Paired F l₁ l₂ → (∀ a b, F a b → G a b) → Paired G l₁ l₂
  | _, _, .nil, _ => .nil
  | _, _, .cons r t, f => .cons (f _ _ r) (Paired.mapP t f)
/-- what an object's description leans on: its own object, its own dict, the tuples -/
theorem ObjOk.stay (x : ObjOk P w H h a o) (k : ∀ b u, (b = a ∨ H b = some (.own a)) → h.get? b = some u → h'.get? b = some u)
    (ho : ∀ b, H b = some (.own a) → H' b = some (.own a)) (ht : ∀ b xs, H b = some (.tup xs) → H' b = some (.tup xs)) : ObjOk P w H' h' a o := by
  induction o with
  | lst xs => obtain ⟨z, its, n, r, e⟩ := x; exact ⟨z, its, n, r, k _ _ (.inl rfl) e⟩
  | tup xs => obtain ⟨z, its, r, ob, e, c⟩ := x; exact ⟨z, its, r, ob, k _ _ (.inl rfl) e, c⟩
  | dK kvs => obtain ⟨z, y, vs, r, ob, es, ep, e, c⟩ := x; exact ⟨z, y, vs, r, ob, es, ep, k _ _ (.inl rfl) e, c⟩
  | dT kvs =>
    obtain ⟨z, y, xs, r, ob, es, ep, e, c⟩ := x
    exact ⟨z, y, xs, Paired.mapP r fun p q z => ⟨z.1, ht _ _ z.2.1, z.2.2⟩, ob, es, ep, k _ _ (.inl rfl) e, c⟩
  | set S n => obtain ⟨ob, es, ep, t, e, c⟩ := x; exact ⟨ob, es, ep, t, k _ _ (.inl rfl) e, c⟩
  | ins C dx fs =>
    obtain ⟨d, z, ne, e, mA, ⟨od, es, ep, e2, c⟩, r⟩ := x
    exact ⟨ho _ d, z, ne, k _ _ (.inl rfl) e, mA, ⟨od, es, ep, k _ _ (.inr d) e2, c⟩, r⟩
  | own y => obtain ⟨ob, e⟩ := x; exact ⟨ob, k _ _ (.inl rfl) e⟩
  | xd fs => obtain ⟨mA, ⟨od, es, ep, e, c⟩, r⟩ := x; exact ⟨mA, ⟨od, es, ep, k _ _ (.inl rfl) e, c⟩, r⟩
  | rng lo hi => obtain ⟨t, u, v, e⟩ := x; exact ⟨t, u, v, k _ _ (.inl rfl) e⟩
  | frz ob u ih => obtain ⟨e, q⟩ := x; exact ⟨k _ _ (.inl rfl) e, ih q⟩
  | tbl ps =>
    have e : h.get? a = some { cls := .none, data := .fields ps } := x
    show h'.get? a = some { cls := .none, data := .fields ps }
    exact k a _ (.inl rfl) e
  | met f y =>
    have e : h.get? a = some (PySem.W.methodObj (.ref f) (.ref y)) := x
    show h'.get? a = some (PySem.W.methodObj (.ref f) (.ref y))
    exact k a _ (.inl rfl) e
  | ext φ => obtain ⟨p, ⟨o, e⟩, st⟩ := x; exact ⟨st _ _ p fun o q => k _ _ (.inl rfl) q, ⟨o, k _ _ (.inl rfl) e⟩, st⟩
theorem HOk.lt (x : HOk P w H h) (e : H a = some o) : a < h.objs.size := (x a o e).lt
theorem HOk.fresh (x : HOk P w H h) (e : h.objs.size ≤ a) : H a = none := by
  cases q : H a with
  | none => rfl
  | some u => exact absurd (Nat.lt_of_lt_of_le (x.lt q) e) (Nat.lt_irrefl _)
/-- every object of the heap is kept -/
theorem HOk.kept (x : HOk P w H h) (k : ∀ b u, h.get? b = some u → h'.get? b = some u) : HOk P w H h' := fun a o e =>
  (x a o e).stay (fun b u _ q => k b u q) (fun _ q => q) fun _ _ q => q
/-- a new object is laid and tracked -/
theorem HOk.laid (x : HOk P w H h) (k : ∀ b u, h.get? b = some u → h'.get? b = some u) (hp : h.objs.size ≤ a) (new : ObjOk P w (upd H a o) h' a o) : HOk P w (upd H a o) h' := fun b u e => by
  have hn := x.fresh hp
  by_cases hb : b = a
  · subst hb; rw [upd_same] at e; cases e; exact new
  · rw [upd_ne hb] at e
    exact (x b u e).stay (fun c v _ q => k c v q) (fun c q => by rw [upd_ne (ne_of_none q hn)]; exact q) fun c xs q => by rw [upd_ne (ne_of_none q hn)]; exact q
end

/-- what may be read as u: it is u, or a known u -/
def Rd (H : Hp) (a : Addr) (u : HO) : Prop := H a = some u ∨ ∃ o, H a = some (.frz o u)
theorem Rd.ok {P : Program} {w : World} {H : Hp} {h : Heap} {a : Addr} {u : HO} (r : Rd H a u) (x : HOk P w H h) : ObjOk P w H h a u := by
  rcases r with r | ⟨o, r⟩
  · exact x a u r
  · obtain ⟨_, q⟩ := x a _ r
    exact q
/-- what may be written -/
def Mut : Option HO → Prop
  | some (.lst _) => True
  | some (.dK _) => True
  | some (.dT _) => True
  | some (.set _ _) => True
  | some (.ins _ _ _) => True
  | some (.ext _) => True
  | _ => False
section
variable {P : Program} {w : World} {H : Hp} {h h' : Heap} {x e : Addr} {o' : HO}
/-- the object at e is changed: x itself, or the dict of the instance x -/
theorem HOk.write (ok : HOk P w H h) (mu : Mut (H x)) (he : e = x ∨ H e = some (.own x)) (k : ∀ b u, b ≠ e → h.get? b = some u → h'.get? b = some u) (heo : ∃ u, h'.get? e = some u)
    (new : ObjOk P w (upd H x o') h' x o') : HOk P w (upd H x o') h' := fun b u q => by
  have nown : ∀ c y, H c = some (.own y) → c ≠ x := fun c y r z => by subst z; rw [r] at mu; exact mu
  have ntup : ∀ c xs, H c = some (.tup xs) → c ≠ x := fun c xs r z => by subst z; rw [r] at mu; exact mu
  by_cases hb : b = x
  · subst hb; rw [upd_same] at q; cases q; exact new
  · rw [upd_ne hb] at q
    by_cases hbe : b = e
    · have q' : H b = some (.own x) := by
        rcases he with z | z
        · exact absurd (hbe.trans z) hb
        · rw [hbe]; exact z
      rw [q] at q'; cases q'
      obtain ⟨v, hv⟩ := heo
      exact ⟨v, by rw [hbe]; exact hv⟩
    · refine (ok b u q).stay (fun c v hc r => k c v ?_ r) (fun c r => by rw [upd_ne (nown c b r)]; exact r) fun c xs r => by rw [upd_ne (ntup c xs r)]; exact r
      rcases hc with rfl | hc
      · exact hbe
      · rintro rfl
        rcases he with z | z
        · exact nown c b hc z
        · rw [hc] at z; cases z; exact hb rfl
end

/-! ### kept unless tracked; of the frames at fs (the callers') the slots may change (an exception that passes writes there); of the records at ex (iterators) nothing is said -/
structure Un (fs ex : List Addr) (H H' : Hp) (h h' : Heap) : Prop where
  keep : ∀ b o, h.get? b = some o → H b = none → b ∉ fs → b ∉ ex → h'.get? b = some o
  slot : ∀ b o, h.get? b = some o → H b = none → b ∈ fs → b ∉ ex → ∃ sl, h'.get? b = some { o with slots := sl }
  free : ∀ b o, h.get? b = some o → H b = none → b ∉ ex → H' b = none
  there : ∀ b o, h.get? b = some o → b ∉ ex → ∃ o', h'.get? b = some o'
  tups : ∀ b xs, H b = some (.tup xs) → H' b = some (.tup xs)
  frzs : ∀ b o u, H b = some (.frz o u) → H' b = some (.frz o u)
  tbls : ∀ b ps, H b = some (.tbl ps) → ∃ more, H' b = some (.tbl (ps ++ more))
section
variable {fs fs' ex ex' : List Addr} {H H1 H2 : Hp} {h h1 h2 h' : Heap} {a x e : Addr} {o : HO}
theorem Un.any (u : Un fs ex H H1 h h1) {b : Addr} {ob : Obj} (q : h.get? b = some ob) (n : H b = none) (hx : b ∉ ex) : ∃ sl, h1.get? b = some { ob with slots := sl } := by
  by_cases hb : b ∈ fs
  · exact u.slot b ob q n hb hx
  · exact ⟨ob.slots, u.keep b ob q n hb hx⟩
theorem Un.kept (k : ∀ b u, h.get? b = some u → h'.get? b = some u) : Un fs ex H H h h' :=
  ⟨fun b ob q _ _ _ => k b ob q, fun b ob q _ _ _ => ⟨ob.slots, k b ob q⟩, fun _ _ _ n _ => n, fun b ob q _ => ⟨ob, k b ob q⟩, fun _ _ q => q, fun _ _ _ q => q, fun _ ps q => ⟨#[], by rw [q]; simp⟩⟩
theorem Un.refl : Un fs ex H H h h := Un.kept fun _ _ q => q
theorem Un.laid (k : ∀ b u, h.get? b = some u → h'.get? b = some u) (hp : h.objs.size ≤ a) (hn : H a = none) : Un fs ex H (upd H a o) h h' where
  keep := fun b u q _ _ _ => k b u q
  slot := fun b u q _ _ _ => ⟨u.slots, k b u q⟩
  free := fun b u q n _ => by rw [upd_ne (Nat.ne_of_lt (Nat.lt_of_lt_of_le (Heap.lt_size q) hp))]; exact n
  there := fun b u q _ => ⟨u, k b u q⟩
  tups := fun b xs q => by rw [upd_ne (ne_of_none q hn)]; exact q
  frzs := fun b u xs q => by rw [upd_ne (ne_of_none q hn)]; exact q
  tbls := fun b ps q => ⟨#[], by rw [upd_ne (ne_of_none q hn), q]; simp⟩
theorem Un.write (mu : Mut (H x)) (he : e = x ∨ H e = some (.own x)) (k : ∀ b u, b ≠ e → h.get? b = some u → h'.get? b = some u) (heo : ∃ u, h'.get? e = some u) : Un fs ex H (upd H x o) h h' := by
  have hx : ∀ b, H b = none → b ≠ x := fun b n z => by subst z; rw [n] at mu; exact mu
  have hb : ∀ b, H b = none → b ≠ e := fun b n z => by
    subst z
    rcases he with r | r
    · exact hx b n r
    · rw [n] at r; cases r
  have hm : ∀ b u, H b = some u → ¬ Mut (some u) → b ≠ x := fun b u q nm z => by subst z; rw [q] at mu; exact nm mu
  refine ⟨fun b u q n _ _ => k b u (hb b n) q, fun b u q n _ _ => ⟨u.slots, k b u (hb b n) q⟩, fun b u q n _ => by rw [upd_ne (hx b n)]; exact n, fun b u q _ => ?_,
    fun b xs q => by rw [upd_ne (hm b _ q fun z => z)]; exact q, fun b u xs q => by rw [upd_ne (hm b _ q fun z => z)]; exact q, fun b ps q => ⟨#[], by rw [upd_ne (hm b _ q fun z => z), q]; simp⟩⟩
  by_cases hbe : b = e
  · subst hbe; exact heo
  · exact ⟨u, k b u hbe q⟩
end

/-! ### the heap without what is tracked -/
def trk (h : Heap) (H : Hp) : List Addr := (List.range h.objs.size).filter fun a => (H a).isSome
def hidT (h : Heap) (H : Hp) : Heap := PySem.W.hideAll h (trk h H)
theorem hidT_size (h : Heap) (H : Hp) : (hidT h H).objs.size = h.objs.size := PySem.W.hideAll_size _ _
theorem hidT_get {h : Heap} {H : Hp} {b : Addr} {o : Obj} (e : h.get? b = some o) (n : H b = none) : (hidT h H).get? b = some o :=
  PySem.W.hideAll_get _ e fun hm => by
    have q : (H b).isSome = true := (List.mem_filter.mp hm).2
    rw [n] at q; simp at q
theorem of_hidT {h : Heap} {H : Hp} {b : Addr} {o : Obj} (e : (hidT h H).get? b = some o) : h.get? b = some o ∧ H b = none := by
  have e' : h.get? b = some o := PySem.W.of_hideAll (trk h H) e
  refine ⟨e', ?_⟩
  cases q : H b with
  | none => rfl
  | some x =>
    have hm : b ∈ trk h H := List.mem_filter.mpr ⟨List.mem_range.mpr (Heap.lt_size e'), by simp [q]⟩
    have z : (hidT h H).get? b = none := PySem.W.hideAll_none (trk h H) hm
    rw [z] at e; cases e

/-! ### OpenK's ledger, filled with every new object but one -/
def allNews (g h : Heap) (L : Addr) : List (Addr × Obj) := (List.range h.objs.size).filterMap fun a => if a = L ∨ (g.get? a).isSome = true then none else (h.get? a).map fun o => (a, o)
def rest (g h : Heap) (L d : Addr) : List (Addr × Obj) := (allNews g h L).filter fun p => decide (p.1 ≠ d)
end L2

namespace L2
open PySem PySem.Spec PyProof.Rows

/-- the module's facts, over the base: the heap at the law's entry without what is tracked there -/
structure Mod (K : PySem.W.Frag) (mg : Str → Option Value) (base : Heap) : Prop where
  kin : K.In base
  glob : base.Ns mainGlobals mg
  blt : ∃ mb, base.Ns builtinsNs mb ∧ ∀ x : Str, x ≠ "__name__" → mb x = bootBuiltins x
  nolimit : base.NoLimit

/-- the context: a def's body (or a comprehension's block) running. base: fixed through the whole law; s₀, H₀: the entry; outer: the frames whose slots others may change (a def's callers); stack: all frames that run;
   ex: iterators that were made ahead of the entry and are walked here (a comprehension's); fn: the names whose cells were made at the entry (a def: all; a comprehension's block: its own); calm: not within an except suite; pn: pins that every state bears; xe: what is wanted of an exception that leaves the code -/
structure Cx where
  prog : Program
  w : World
  K : PySem.W.Frag
  mg : Str → Option Value
  base : Heap
  A : Around
  N : List Str
  s₀ : Shared
  H₀ : Hp
  env : Env
  outer : List Env
  stack : List Env
  ex : List Addr
  fn : Str → Bool
  calm : Bool
  pn : List (Addr × Obj)
  xe : Value → Shared → Prop
/-- the callers' frames -/
def frs (l : List Env) : List Addr := l.filterMap (·.frame)
abbrev Cx.fs (X : Cx) : List Addr := frs X.outer

def Vis (sc : Scope) (x : Str) : Prop := sc.names.lookup x = some .local ∨ sc.names.lookup x = some .cell ∨ sc.names.lookup x = some .free
def Loc (sc : Scope) (x : Str) : Prop := sc.names.lookup x = some .local ∨ sc.names.lookup x = some .cell
def Look (env : Env) (h : Heap) (m : Str → Option Value) (x : Str) (u : Value) : Prop :=
  (env.kindOf x = some .local ∧ m x = some u) ∨ ((env.kindOf x = some .cell ∨ env.kindOf x = some .free) ∧ ∃ c, env.cells.lookup x = some c ∧ h.IsCell c (some u))

structure Cx.Ok (X : Cx) : Prop where
  mod : Mod X.K X.mg X.base
  kind : X.env.scope.kind = .function
  glob : X.env.globals = mainGlobals
  blt : X.env.builtins = builtinsNs
  above : X.s₀.heap.objs.size ≤ X.env.locals
  inj : ∀ x y c, X.env.cells.lookup x = some c → X.env.cells.lookup y = some c → x = y
  has : ∀ x, (X.env.kindOf x = some .cell ∨ X.env.kindOf x = some .free) → ∃ c, X.env.cells.lookup x = some c
  cab : ∀ x c, X.fn x = true → X.env.cells.lookup x = some c → X.s₀.heap.objs.size ≤ c
  hd : X.calm = true → X.A.handled = none
  frames : X.A.frames = some X.stack
  stk : X.stack = X.outer ∨ (X.stack = X.env :: X.outer ∧ X.env.frame = some X.env.locals)
  exf : ∀ b ∈ X.ex, b ≠ X.env.locals ∧ ∀ x c, X.env.cells.lookup x = some c → c ≠ b
  bs : ∀ b o, X.base.get? b = some o → X.s₀.heap.get? b = some o ∧ X.H₀ b = none
  bsz : X.base.objs.size ≤ X.s₀.heap.objs.size
  noex : ∀ b o, X.base.get? b = some o → b ∉ X.ex
  exfs : ∀ b ∈ X.ex, b ∉ X.fs
  funs : X.s₀.heap.FunFrames X.base X.outer
  frf : ∀ b ∈ X.fs, X.H₀ b = none

structure Inv (X : Cx) (pins : List (Addr × Obj)) (σ : List (Option V)) (H : Hp) (s : Shared) : Prop where
  ok : X.Ok
  os : s.os = X.s₀.os
  bare : AllBare s.gens
  base : Un X.fs X.ex X.H₀ H X.s₀.heap s.heap
  loc : ∃ m, s.heap.Ns X.env.locals m ∧ ∀ (i : Nat) (x : Str) (v : V), X.N[i]? = some x → σ[i]? = some (some v) → Vis X.env.scope x → ∃ u, RelV v u ∧ Look X.env s.heap m x u
  cell : ∀ x c, X.env.cells.lookup x = some c → ∃ v, s.heap.IsCell c v
  free : H X.env.locals = none
  freeC : ∀ x c, X.env.cells.lookup x = some c → H c = none
  pin : ∀ p ∈ X.pn ++ pins, s.heap.get? p.1 = some p.2 ∧ H p.1 = none ∧ p.1 ≠ X.env.locals ∧ p.1 ∉ X.fs ∧ ∀ v, p.2.data ≠ .cell v
  hok : HOk X.prog X.w H s.heap
  len : σ.length = X.N.length

section
variable {X : Cx} {pins : List (Addr × Obj)} {σ : List (Option V)} {H H' : Hp} {s : Shared} {h' : Heap}

theorem Cx.Ok.nofr (ok : X.Ok) {b : Addr} {o : Obj} (e : X.base.get? b = some o) : b ∉ X.fs := fun hb => by
  have := (ok.funs.mem hb).1
  rw [e] at this; cases this
theorem Inv.bs (I : Inv X pins σ H s) : ∀ b o, X.base.get? b = some o → s.heap.get? b = some o ∧ H b = none := fun b o e =>
  ⟨I.base.keep b o (I.ok.bs b o e).1 (I.ok.bs b o e).2 (I.ok.nofr e) (I.ok.noex b o e), I.base.free b o (I.ok.bs b o e).1 (I.ok.bs b o e).2 (I.ok.noex b o e)⟩
theorem Inv.bk (I : Inv X pins σ H s) : ∀ b o, X.base.get? b = some o → s.heap.get? b = some o := fun b o e => (I.bs b o e).1
theorem Inv.mod (I : Inv X pins σ H s) : Mod X.K X.mg X.base := I.ok.mod
theorem Inv.kIn (I : Inv X pins σ H s) : X.K.In s.heap := I.ok.mod.kin.keeps I.bk
/-- the frame over the base: for OpenK's rules (K.In X.base is I.mod.kin) -/
theorem Inv.fr (I : Inv X pins σ H s) : ∃ m, Fr X.base X.env.locals s.heap m :=
  let ⟨m, hn, _⟩ := I.loc
  ⟨m, hn, I.bk, Nat.le_trans I.ok.bsz I.ok.above⟩
theorem Inv.lt (I : Inv X pins σ H s) : X.env.locals < s.heap.objs.size := let ⟨_, hn, _⟩ := I.loc; hn.lt
theorem Inv.sz (I : Inv X pins σ H s) : X.s₀.heap.objs.size ≤ s.heap.objs.size := Nat.le_trans I.ok.above (Nat.le_of_lt I.lt)
theorem Inv.nofs (I : Inv X pins σ H s) {a : Addr} (h : s.heap.objs.size ≤ a) : a ∉ X.fs := fun hb => by
  obtain ⟨_, o, ho, _⟩ := I.ok.funs.mem hb
  exact absurd (Nat.lt_of_lt_of_le (Heap.lt_size ho) (Nat.le_trans I.sz h)) (Nat.lt_irrefl _)
theorem Inv.cne (I : Inv X pins σ H s) : ∀ x c, X.env.cells.lookup x = some c → c ≠ X.env.locals := fun x c e z => by
  obtain ⟨v, o, ho, hd⟩ := I.cell x c e
  obtain ⟨m, ⟨o', es, ep, ho', hd', _⟩, _⟩ := I.loc
  rw [z, ho'] at ho; cases ho; rw [hd'] at hd; cases hd
theorem Inv.funs (I : Inv X pins σ H s) : s.heap.FunFrames X.base X.outer := by
  have all : ∀ (l : List Env), (∀ b ∈ frs l, b ∈ X.fs) → X.s₀.heap.FunFrames X.base l → s.heap.FunFrames X.base l := by
    intro l
    induction l with
    | nil => intro _ _; trivial
    | cons env r ih =>
      intro hs hl
      obtain ⟨hk, ⟨L, o, hf, hn, ho, hd⟩, hr⟩ := hl
      have hL : L ∈ X.fs := hs L (by unfold frs; rw [List.filterMap_cons, hf]; exact List.mem_cons_self)
      obtain ⟨sl, e⟩ := I.base.slot L o ho (I.ok.frf L hL) hL fun z => I.ok.exfs L z hL
      exact ⟨hk, ⟨L, _, hf, hn, e, hd⟩, ih (fun b hb => hs b (by unfold frs; rw [List.filterMap_cons, hf]; exact List.mem_cons_of_mem _ hb)) hr⟩
  exact all X.outer (fun _ hb => hb) I.ok.funs

/-- the frames that run, for a call -/
theorem Inv.stack (I : Inv X pins σ H s) : s.heap.FunFrames X.base X.stack := by
  rcases I.ok.stk with e | ⟨e, hf⟩
  · rw [e]; exact I.funs
  · rw [e]
    obtain ⟨m, hn, _⟩ := I.loc
    refine .cons (by rw [I.ok.kind]; decide) hf hn ?_ I.funs
    exact Heap.get?_none_of_le (Nat.le_trans I.ok.bsz I.ok.above)
theorem Inv.stkSub (I : Inv X pins σ H s) : ∀ b ∈ frs X.stack, b ∈ X.env.locals :: X.fs := fun b hb => by
  rcases I.ok.stk with e | ⟨e, hf⟩
  · rw [e] at hb; exact List.mem_cons_of_mem _ hb
  · rw [e] at hb
    unfold frs at hb
    rw [List.filterMap_cons, hf] at hb
    exact hb
theorem Inv.stkFree (I : Inv X pins σ H s) : ∀ b ∈ frs X.stack, H b = none := fun b hb => by
  rcases List.mem_cons.mp (I.stkSub b hb) with e | hb
  · rw [e]; exact I.free
  · obtain ⟨_, o, ho, _⟩ := I.ok.funs.mem hb
    exact I.base.free b o ho (I.ok.frf b hb) fun z => I.ok.exfs b z hb

/-- THE STEP: the untracked objects but the frame and the records at ch are kept (the callers' frames up to slots), the frame's map is kept, the new abstract heap is held -/
theorem Inv.step {g' : Array GenState} {t' : Nat} {d' : Drawn} {ch : List Addr} (I : Inv X pins σ H s)
    (hch : ∀ b ∈ ch, (b ∈ X.ex ∨ X.s₀.heap.objs.size ≤ b) ∧ b ≠ X.env.locals ∧ (∀ x c, X.env.cells.lookup x = some c → c ≠ b) ∧ ∀ p ∈ X.pn ++ pins, p.1 ≠ b)
    (keep : ∀ b o, b ≠ X.env.locals → b ∉ X.fs → b ∉ ch → s.heap.get? b = some o → H b = none → h'.get? b = some o)
    (slot : ∀ b o, b ≠ X.env.locals → b ∈ X.fs → b ∉ ch → s.heap.get? b = some o → H b = none → ∃ sl, h'.get? b = some { o with slots := sl }) (free : ∀ b o, b ∉ ch → s.heap.get? b = some o → H b = none → H' b = none)
    (there : ∀ b o, b ∉ ch → s.heap.get? b = some o → ∃ o', h'.get? b = some o')
    (tups : ∀ b xs, H b = some (.tup xs) → H' b = some (.tup xs)) (frzs : ∀ b o u, H b = some (.frz o u) → H' b = some (.frz o u)) (tbls : ∀ b ps, H b = some (.tbl ps) → ∃ more, H' b = some (.tbl (ps ++ more)))
    (ns : ∀ m, s.heap.Ns X.env.locals m → h'.Ns X.env.locals m) (hok : HOk X.prog X.w H' h') (hg : AllBare g') :
    Inv X pins σ H' { s with heap := h', gens := g', drawn := d', toks := t' } := by
  have neL : ∀ b o, X.s₀.heap.get? b = some o → b ≠ X.env.locals := fun b o e => Nat.ne_of_lt (Nat.lt_of_lt_of_le (Heap.lt_size e) I.ok.above)
  have neC : ∀ b o, X.s₀.heap.get? b = some o → b ∉ X.ex → b ∉ ch := fun b o e hx hb => by
    rcases (hch b hb).1 with z | z
    · exact hx z
    · exact absurd (Nat.lt_of_lt_of_le (Heap.lt_size e) z) (Nat.lt_irrefl _)
  have cellK : ∀ x c, X.env.cells.lookup x = some c → ∀ v, s.heap.IsCell c v → h'.IsCell c v := fun x c e v ⟨o, ho, hd⟩ => by
    have nch : c ∉ ch := fun z => (hch c z).2.2.1 x c e rfl
    by_cases hc : c ∈ X.fs
    · obtain ⟨sl, q⟩ := slot c o (I.cne x c e) hc nch ho (I.freeC x c e)
      exact ⟨_, q, hd⟩
    · exact ⟨o, keep c o (I.cne x c e) hc nch ho (I.freeC x c e), hd⟩
  refine ⟨I.ok, I.os, hg, ⟨fun b o e n hb hx => ?_, fun b o e n hb hx => ?_, fun b o e n hx => ?_, fun b o e hx => ?_, fun b xs e => tups b xs (I.base.tups b xs e), fun b o xs e => frzs b o xs (I.base.frzs b o xs e), fun b ps e => ?_⟩, ?_, fun x c e => ?_, ?_, fun x c e => ?_, fun p hp => ?_, hok, I.len⟩
  · exact keep b o (neL b o e) hb (neC b o e hx) (I.base.keep b o e n hb hx) (I.base.free b o e n hx)
  · obtain ⟨sl, e1⟩ := I.base.slot b o e n hb hx
    obtain ⟨sl', e2⟩ := slot b _ (neL b o e) hb (neC b o e hx) e1 (I.base.free b o e n hx)
    exact ⟨sl', e2⟩
  · obtain ⟨o', e1⟩ := I.base.there b o e hx
    exact free b o' (neC b o e hx) e1 (I.base.free b o e n hx)
  · obtain ⟨o', e1⟩ := I.base.there b o e hx
    exact there b o' (neC b o e hx) e1
  · obtain ⟨m1, e1⟩ := I.base.tbls b ps e
    obtain ⟨m2, e2⟩ := tbls b _ e1
    exact ⟨m1 ++ m2, by rw [e2, Array.append_assoc]⟩
  · obtain ⟨m, hn, hl⟩ := I.loc
    refine ⟨m, ns m hn, fun i x v e1 e2 e3 => ?_⟩
    obtain ⟨u, r, l⟩ := hl i x v e1 e2 e3
    refine ⟨u, r, ?_⟩
    rcases l with l | ⟨k, c, e, z⟩
    · exact .inl l
    · exact .inr ⟨k, c, e, cellK x c e _ z⟩
  · obtain ⟨v, z⟩ := I.cell x c e
    exact ⟨v, cellK x c e v z⟩
  · obtain ⟨m, ⟨o, _, _, ho, _⟩, _⟩ := I.loc
    exact free _ o (fun z => (hch _ z).2.1 rfl) ho I.free
  · obtain ⟨v, o, ho, hd⟩ := I.cell x c e
    exact free c o (fun z => (hch c z).2.2.1 x c e rfl) ho (I.freeC x c e)
  · obtain ⟨e, n, ne, nf, d⟩ := I.pin p hp
    have nch : p.1 ∉ ch := fun z => (hch p.1 z).2.2.2 p hp rfl
    exact ⟨keep p.1 p.2 ne nf nch e n, free p.1 p.2 nch e n, ne, nf, d⟩
/-- .. where the frame's own object is kept too -/
theorem Inv.un {t' : Nat} (I : Inv X pins σ H s) (u : Un X.fs [] H H' s.heap h') (hok : HOk X.prog X.w H' h') : Inv X pins σ H' { s with heap := h', toks := t' } := by
  obtain ⟨m, ⟨o, es, ep, ho, r⟩, _⟩ := id I.loc
  obtain ⟨sl, hL⟩ := u.any ho I.free (by simp)
  exact I.step (g' := s.gens) (d' := s.drawn) (ch := []) (fun _ z => nomatch z) (fun b o _ hb _ e n => u.keep b o e n hb (by simp)) (fun b o _ hb _ e n => u.slot b o e n hb (by simp)) (fun b o _ e n => u.free b o e n (by simp)) (fun b o _ e => u.there b o e (by simp)) u.tups u.frzs u.tbls (fun m' hm => by
    obtain ⟨o', es', ep', ho', r'⟩ := hm
    rw [ho] at ho'; cases ho'
    exact ⟨_, es', ep', hL, r'⟩) hok I.bare
/-- behind a call (or a comprehension's block): the slots of this frame may have changed too, the records at ch may have turned -/
theorem Inv.call {g' : Array GenState} {t' : Nat} {d' : Drawn} {ch : List Addr} (I : Inv X pins σ H s) (u : Un (frs X.stack) ch H H' s.heap h') (hok : HOk X.prog X.w H' h') (hg : AllBare g')
    (hch : ∀ b ∈ ch, (b ∈ X.ex ∨ X.s₀.heap.objs.size ≤ b) ∧ b ≠ X.env.locals ∧ (∀ x c, X.env.cells.lookup x = some c → c ≠ b) ∧ ∀ p ∈ X.pn ++ pins, p.1 ≠ b) :
    Inv X pins σ H' { s with heap := h', gens := g', drawn := d', toks := t' } := by
  obtain ⟨m, ⟨o, es, ep, ho, r⟩, _⟩ := id I.loc
  obtain ⟨sl, hL⟩ := u.any ho I.free fun z => (hch _ z).2.1 rfl
  exact I.step (ch := ch) hch (fun b o hL hb hc e n => u.keep b o e n (fun z => (List.mem_cons.mp (I.stkSub b z)).elim hL hb) hc) (fun b o _ _ hc e n => u.any e n hc) (fun b o hc e n => u.free b o e n hc) (fun b o hc e => u.there b o e hc) u.tups u.frzs u.tbls (fun m' hm => by
    obtain ⟨o', es', ep', ho', r'⟩ := hm
    rw [ho] at ho'; cases ho'
    exact ⟨_, es', ep', hL, r'⟩) hok hg
/-- an untracked record of ours (an iterator) has turned -/
theorem Inv.turned {t' : Nat} {it : Addr} (I : Inv X pins σ H s) (k : ∀ b o, b ≠ it → s.heap.get? b = some o → h'.get? b = some o) (hn : H it = none) (hL : it ≠ X.env.locals)
    (h1 : it ∈ X.ex ∨ X.s₀.heap.objs.size ≤ it) (h2 : ∀ x c, X.env.cells.lookup x = some c → c ≠ it) (h3 : ∀ p ∈ X.pn ++ pins, p.1 ≠ it) : Inv X pins σ H { s with heap := h', toks := t' } := by
  have nit : ∀ b u, H b = some u → b ≠ it := fun b u e z => by rw [z, hn] at e; cases e
  refine I.step (g' := s.gens) (d' := s.drawn) (ch := [it]) (fun b hb => ?_) (fun b o _ _ hc e _ => k b o (fun z => hc (by simp [z])) e) (fun b o _ _ hc e _ => ⟨o.slots, k b o (fun z => hc (by simp [z])) e⟩) (fun _ _ _ _ n => n)
    (fun b o hc e => ⟨o, k b o (fun z => hc (by simp [z])) e⟩) (fun _ _ e => e) (fun _ _ _ e => e) (fun b ps e => ⟨#[], by rw [e]; simp⟩) (fun m hm => ?_) (fun b u e => ?_) I.bare
  · have e : b = it := by simpa using hb
    subst e
    exact ⟨h1, hL, h2, h3⟩
  · obtain ⟨o, es, ep, ho, r⟩ := hm
    exact ⟨o, es, ep, k _ o (Ne.symm hL) ho, r⟩
  · refine (I.hok b u e).stay (fun c v hc q => k c v ?_ q) (fun _ q => q) fun _ _ q => q
    rcases hc with z | z
    · rw [z]; exact nit b u e
    · exact nit c _ z
theorem Inv.tok (I : Inv X pins σ H s) (t : Nat) : Inv X pins σ H { s with toks := t } := I.un (h' := s.heap) (t' := t) Un.refl I.hok
/-- all objects kept -/
theorem Inv.kept {t' : Nat} (I : Inv X pins σ H s) (k : ∀ b u, s.heap.get? b = some u → h'.get? b = some u) : Inv X pins σ H { s with heap := h', toks := t' } := I.un (Un.kept k) (I.hok.kept k)
/-- a new object laid and tracked -/
theorem Inv.laid {a : Addr} {o : HO} {t' : Nat} (I : Inv X pins σ H s) (k : ∀ b u, s.heap.get? b = some u → h'.get? b = some u) (hp : s.heap.objs.size ≤ a) (new : ObjOk X.prog X.w (upd H a o) h' a o) :
    Inv X pins σ (upd H a o) { s with heap := h', toks := t' } := I.un (Un.laid k hp (I.hok.fresh hp)) (I.hok.laid k hp new)
/-- an object written -/
theorem Inv.write {x e : Addr} {o : HO} {t' : Nat} (I : Inv X pins σ H s) (mu : Mut (H x)) (he : e = x ∨ H e = some (.own x)) (k : ∀ b u, b ≠ e → s.heap.get? b = some u → h'.get? b = some u) (heo : ∃ u, h'.get? e = some u)
    (new : ObjOk X.prog X.w (upd H x o) h' x o) : Inv X pins σ (upd H x o) { s with heap := h', toks := t' } := I.un (Un.write mu he k heo) (I.hok.write mu he k heo new)
/-- forgetting slots, pins -/
theorem Inv.weak {σ' : List (Option V)} (I : Inv X pins σ H s) (hl : σ'.length = σ.length) (w : ∀ (i : Nat) v, σ'[i]? = some (some v) → σ[i]? = some (some v)) : Inv X pins σ' H s :=
  ⟨I.ok, I.os, I.bare, I.base, let ⟨m, hn, hl'⟩ := I.loc; ⟨m, hn, fun i x v e1 e2 e3 => hl' i x v e1 (w i v e2) e3⟩, I.cell, I.free, I.freeC, I.pin, I.hok, hl.trans I.len⟩
theorem Inv.pins_of {pins' : List (Addr × Obj)} (I : Inv X pins σ H s) (h : ∀ p ∈ pins', s.heap.get? p.1 = some p.2 ∧ H p.1 = none ∧ p.1 ≠ X.env.locals ∧ p.1 ∉ X.fs ∧ ∀ v, p.2.data ≠ .cell v) : Inv X pins' σ H s :=
  ⟨I.ok, I.os, I.bare, I.base, I.loc, I.cell, I.free, I.freeC, fun p hp => (List.mem_append.mp hp).elim (fun z => I.pin p (List.mem_append_left _ z)) (h p), I.hok, I.len⟩

theorem nodup_ix {N : List Str} (hN : N.Nodup) {i j : Nat} {x : Str} (a : N[i]? = some x) (b : N[j]? = some x) : i = j := by
  obtain ⟨h1, e1⟩ := List.getElem?_eq_some_iff.mp a
  obtain ⟨h2, e2⟩ := List.getElem?_eq_some_iff.mp b
  exact (List.getElem_inj hN).mp (e1.trans e2.symm)

/-- a name is stored; what changed -/
theorem store_ok2 {M : Model} {A : Around} {E : Value → Shared → Prop} {i : Nat} {x : Str} {v : V} {u : Value} {Q : Unit → Shared → Prop} (I : Inv X pins σ H s) (hN : X.N.Nodup) (hi : X.N[i]? = some x) (hx : Loc X.env.scope x) (r : RelV v u)
    (h : ∀ s', Inv X pins (σ.set i (some v)) H s' → (∃ a, Heap.SameBut a s.heap s'.heap ∧ (a = X.env.locals ∨ X.env.cells.lookup x = some a)) → Q () s') (hf : X.fn x = true ∨ X.env.scope.names.lookup x = some .local := by first | exact .inl rfl | exact .inr rfl | assumption) : wpAny M A (storeName X.env x u) Q E s := by
  obtain ⟨m, hn, hl⟩ := id I.loc
  have hcls : (X.env.scope.kind == .class || (X.env.scope.kind == .module && X.env.locals != X.env.globals)) = false := by rw [I.ok.kind]; rfl
  have hiσ : i < σ.length := by rw [I.len]; exact (List.getElem?_eq_some_iff.mp hi).1
  have cne := I.cne
  have tracked : ∀ {a : Addr} {h' : Heap}, (∃ o, s.heap.get? a = some o ∧ H a = none) → Heap.SameBut a s.heap h' → HOk X.prog X.w H h' := fun {a h'} ha hs b ob e => by
    obtain ⟨_, _, hfree⟩ := ha
    refine (I.hok b ob e).stay (fun c w' hc q => (hs.2 c ?_).trans q) (fun _ q => q) fun _ _ q => q
    rintro rfl
    rcases hc with rfl | hc
    · rw [hfree] at e; cases e
    · rw [hfree] at hc; cases hc
  rcases hx with hk | hk
  · refine wpAny_storeName_local hk hn (fun h' hn' hs => ?_) hcls
    obtain ⟨oL, _, _, hoL, _⟩ := id hn
    refine h _ ⟨I.ok, I.os, I.bare, ⟨fun b o e n hb hx => ?_, fun b o e n hb hx => ?_, I.base.free, fun b o e hx => ?_, I.base.tups, I.base.frzs, I.base.tbls⟩, ⟨_, hn', fun j y v' e1 e2 e3 => ?_⟩, fun y c e => ?_, I.free, I.freeC, fun p hp => ?_, tracked ⟨oL, hoL, I.free⟩ hs, by simpa using I.len⟩ ⟨_, hs, .inl rfl⟩
    · exact (hs.2 b (Nat.ne_of_lt (Nat.lt_of_lt_of_le (Heap.lt_size e) I.ok.above))).trans (I.base.keep b o e n hb hx)
    · obtain ⟨sl, e1⟩ := I.base.slot b o e n hb hx
      exact ⟨sl, (hs.2 b (Nat.ne_of_lt (Nat.lt_of_lt_of_le (Heap.lt_size e) I.ok.above))).trans e1⟩
    · obtain ⟨o', e1⟩ := I.base.there b o e hx
      exact ⟨o', (hs.2 b (Nat.ne_of_lt (Nat.lt_of_lt_of_le (Heap.lt_size e) I.ok.above))).trans e1⟩
    · by_cases hj : j = i
      · subst hj
        rw [hi] at e1; cases e1
        rw [List.getElem?_set_self hiσ] at e2
        cases e2
        exact ⟨u, r, .inl ⟨hk, by simp⟩⟩
      · rw [List.getElem?_set_ne (Ne.symm hj)] at e2
        obtain ⟨u', r', q⟩ := hl j y v' e1 e2 e3
        refine ⟨u', r', ?_⟩
        rcases q with ⟨k, e⟩ | ⟨k, c, e, z⟩
        · refine .inl ⟨k, ?_⟩
          have : y ≠ x := fun e => hj (nodup_ix hN e1 (e ▸ hi))
          simp [this, e]
        · exact .inr ⟨k, c, e, z.sameBut hs (cne y c e)⟩
    · obtain ⟨w', z⟩ := I.cell y c e
      exact ⟨w', z.sameBut hs (cne y c e)⟩
    · obtain ⟨e, n, ne, nf, d⟩ := I.pin p hp
      exact ⟨(hs.2 p.1 ne).trans e, n, ne, nf, d⟩
  · have hfn : X.fn x = true := by
      rcases hf with z | z
      · exact z
      · rw [z] at hk; cases hk
    obtain ⟨c, hc⟩ := I.ok.has x (.inl hk)
    obtain ⟨w', z⟩ := I.cell x c hc
    refine wpAny_storeName_cell I.ok.kind hk hc z (fun h' hc' hs => ?_)
    obtain ⟨oc, hoc, hocd⟩ := id z
    refine h { s with heap := h' } ⟨I.ok, I.os, I.bare, ⟨fun b o e n hb hx => ?_, fun b o e n hb hx => ?_, I.base.free, fun b o e hx => ?_, I.base.tups, I.base.frzs, I.base.tbls⟩, ⟨m, hn.sameBut hs (Ne.symm (cne x c hc)), fun j y v' e1 e2 e3 => ?_⟩, fun y c' e => ?_, I.free, I.freeC, fun p hp => ?_, tracked ⟨oc, hoc, I.freeC x c hc⟩ hs, by simpa using I.len⟩ ⟨c, hs, .inr hc⟩
    · exact (hs.2 b (Nat.ne_of_lt (Nat.lt_of_lt_of_le (Heap.lt_size e) (I.ok.cab x c hfn hc)))).trans (I.base.keep b o e n hb hx)
    · obtain ⟨sl, e1⟩ := I.base.slot b o e n hb hx
      exact ⟨sl, (hs.2 b (Nat.ne_of_lt (Nat.lt_of_lt_of_le (Heap.lt_size e) (I.ok.cab x c hfn hc)))).trans e1⟩
    · obtain ⟨o', e1⟩ := I.base.there b o e hx
      exact ⟨o', (hs.2 b (Nat.ne_of_lt (Nat.lt_of_lt_of_le (Heap.lt_size e) (I.ok.cab x c hfn hc)))).trans e1⟩
    · by_cases hj : j = i
      · subst hj
        rw [hi] at e1; cases e1
        rw [List.getElem?_set_self hiσ] at e2
        cases e2
        exact ⟨u, r, .inr ⟨.inl hk, c, hc, hc'⟩⟩
      · rw [List.getElem?_set_ne (Ne.symm hj)] at e2
        obtain ⟨u', r', q⟩ := hl j y v' e1 e2 e3
        refine ⟨u', r', ?_⟩
        rcases q with q | ⟨k, c', e, z'⟩
        · exact .inl q
        · refine .inr ⟨k, c', e, z'.sameBut hs ?_⟩
          rintro rfl
          exact hj (nodup_ix hN e1 (I.ok.inj _ _ _ e hc ▸ hi))
    · by_cases hcc : c' = c
      · subst hcc; exact ⟨_, hc'⟩
      · obtain ⟨w2, z2⟩ := I.cell y c' e
        exact ⟨w2, z2.sameBut hs hcc⟩
    · obtain ⟨e, n, ne, nf, d⟩ := I.pin p hp
      refine ⟨(hs.2 p.1 ?_).trans e, n, ne, nf, d⟩
      intro q
      rw [q, hoc] at e
      have q' : oc = p.2 := Option.some.inj e
      exact d w' (by rw [← q']; exact hocd)
theorem store_ok {M : Model} {A : Around} {E : Value → Shared → Prop} {i : Nat} {x : Str} {v : V} {u : Value} {Q : Unit → Shared → Prop} (I : Inv X pins σ H s) (hN : X.N.Nodup) (hi : X.N[i]? = some x) (hx : Loc X.env.scope x) (r : RelV v u)
    (h : ∀ s', Inv X pins (σ.set i (some v)) H s' → Q () s') (hf : X.fn x = true ∨ X.env.scope.names.lookup x = some .local := by first | exact .inl rfl | exact .inr rfl | assumption) : wpAny M A (storeName X.env x u) Q E s :=
  store_ok2 I hN hi hx r (fun s' I' _ => h s' I') hf
/-- behind a call or a block, the state as it is -/
theorem Inv.call' {s' : Shared} {ch : List Addr} (I : Inv X pins σ H s) (ho : s'.os = s.os) (u : Un (frs X.stack) ch H H' s.heap s'.heap) (hok : HOk X.prog X.w H' s'.heap) (hg : AllBare s'.gens)
    (hch : ∀ b ∈ ch, (b ∈ X.ex ∨ X.s₀.heap.objs.size ≤ b) ∧ b ≠ X.env.locals ∧ (∀ x c, X.env.cells.lookup x = some c → c ≠ b) ∧ ∀ p ∈ X.pn ++ pins, p.1 ≠ b) : Inv X pins σ H' s' := by
  obtain ⟨h', g', d', t', o'⟩ := s'
  have e : o' = s.os := ho
  subst e
  exact I.call (g' := g') (t' := t') (d' := d') u hok hg hch
end

/-! ### the judgements -/
/-- an exception: its class, its own dict's address (where it has one), the abstract heap behind it -/
abbrev XK := Value → Option Addr → Hp → Prop
abbrev St := List (Option V)
abbrev VK := V → Hp → Prop
/-- an expression's reading; a test's; an argument list's -/
abbrev TE := St → Hp → VK → Prop
abbrev TT := St → Hp → (Bool → Hp → Prop) → Prop
abbrev TA := St → Hp → (List V → Hp → Prop) → Prop
/-- what is wanted behind a statement -/
structure Ends where
  nx : St → Hp → Prop
  rt : VK
  bk : St → Hp → Prop := fun _ _ => False
  ct : St → Hp → Prop := fun _ _ => False
abbrev TS := Ends → St → Hp → Prop

def EP (X : Cx) (pins : List (Addr × Obj)) (σ : St) (Q : VK) (u : Value) (s' : Shared) : Prop := ∃ v H', Inv X pins σ H' s' ∧ RelV v u ∧ Q v H'
def TP (X : Cx) (pins : List (Addr × Obj)) (σ : St) (Q : Bool → Hp → Prop) (b : Bool) (s' : Shared) : Prop := ∃ H', Inv X pins σ H' s' ∧ Q b H'
def AP (X : Cx) (pins : List (Addr × Obj)) (σ : St) (Q : List V → Hp → Prop) (us : List Value) (s' : Shared) : Prop := ∃ vs H', Inv X pins σ H' s' ∧ Vals vs us ∧ Q vs H'
def SP (X : Cx) (pins : List (Addr × Obj)) (D : Ends) (f : Flow) (s' : Shared) : Prop :=
  match f with
  | .next => ∃ σ' H', Inv X pins σ' H' s' ∧ D.nx σ' H'
  | .brk => ∃ σ' H', Inv X pins σ' H' s' ∧ D.bk σ' H'
  | .cont => ∃ σ' H', Inv X pins σ' H' s' ∧ D.ct σ' H'
  | .ret u => ∃ v σ' H', Inv X pins σ' H' s' ∧ RelV v u ∧ D.rt v H'

def PE (X : Cx) (e : Expr) (t : TE) : Prop :=
  ∀ (pins : List (Addr × Obj)) (s : Shared) (σ : St) (H : Hp) (Q : VK), Inv X pins σ H s → t σ H Q → wpAny (model X.prog X.w) X.A (eval e X.env) (EP X pins σ Q) X.xe s
def PT (X : Cx) (e : Expr) (t : TT) : Prop :=
  ∀ (pins : List (Addr × Obj)) (s : Shared) (σ : St) (H : Hp) (Q : Bool → Hp → Prop), Inv X pins σ H s → t σ H Q → wpAny (model X.prog X.w) X.A (isTrue e X.env (eval e X.env)) (TP X pins σ Q) X.xe s
/-- a test whatever its 'whole' is (and, or) -/
def PW (X : Cx) (e : Expr) (t : TT) : Prop :=
  ∀ (whole : Sem Value) (pins : List (Addr × Obj)) (s : Shared) (σ : St) (H : Hp) (Q : Bool → Hp → Prop), Inv X pins σ H s → t σ H Q → wpAny (model X.prog X.w) X.A (isTrue e X.env whole) (TP X pins σ Q) X.xe s
theorem PW.pt {X : Cx} {e : Expr} {t : TT} (h : PW X e t) : PT X e t := h _
/-- an argument list (no star), from the left -/
def PA (X : Cx) (es : List Expr) (t : TA) : Prop :=
  ∀ (pos : Pos) (pins : List (Addr × Obj)) (s : Shared) (σ : St) (H : Hp) (Q : List V → Hp → Prop), Inv X pins σ H s → t σ H Q → wpAny (model X.prog X.w) X.A (spliced (backTo pos (starEach es X.env))) (AP X pins σ Q) X.xe s
def PS (X : Cx) (st : Stmt) (t : TS) : Prop :=
  ∀ (pins : List (Addr × Obj)) (s : Shared) (σ : St) (H : Hp) (D : Ends), Inv X pins σ H s → t D σ H → wpAny (model X.prog X.w) X.A (exec st X.env) (SP X pins D) X.xe s
def PSs (X : Cx) (st : List Stmt) (t : TS) : Prop :=
  ∀ (pins : List (Addr × Obj)) (s : Shared) (σ : St) (H : Hp) (D : Ends), Inv X pins σ H s → t D σ H → wpAny (model X.prog X.w) X.A (execs st X.env) (SP X pins D) X.xe s
/-- weaken the end -/
theorem thn {α : Type} {t : Sem α} {Q Q' : α → Shared → Prop} {M : Model} {A : Around} {E : Value → Shared → Prop} {s : Shared} (h : wpAny M A t Q E s) (hQ : ∀ a s, Q a s → Q' a s) : wpAny M A t Q' E s := wpAny_mono h hQ fun _ _ x => x
end L2

namespace L2
open PySem PySem.Spec PyProof.Rows
section
variable {X : Cx}

/-- two expressions in a row -/
theorem bin {a b : Expr} {ta tb : TE} (ha : PE X a ta) (hb : PE X b tb) {pins : List (Addr × Obj)} {s : Shared} {σ : St} {H : Hp} {R : V → V → Hp → Prop} (I : Inv X pins σ H s) (h : ta σ H fun x H1 => tb σ H1 fun y H2 => R x y H2)
    {α : Type} {Q : α → Shared → Prop} {f : Value → Value → Sem α}
    (hf : ∀ v u s2 x y H2, Inv X pins σ H2 s2 → RelV x v → RelV y u → R x y H2 → wpAny (model X.prog X.w) X.A (f v u) Q X.xe s2) :
    wpAny (model X.prog X.w) X.A (eval a X.env) (fun v s₁ => wpAny (model X.prog X.w) X.A (eval b X.env) (fun u s₂ => wpAny (model X.prog X.w) X.A (f v u) Q X.xe s₂) X.xe s₁) X.xe s := by
  refine thn (ha pins s σ H _ I h) fun v s1 ⟨x, H1, I1, r1, q1⟩ => ?_
  refine thn (hb pins s1 σ H1 _ I1 q1) fun u s2 ⟨y, H2, I2, r2, q2⟩ => ?_
  exact hf v u s2 x y H2 I2 r1 r2 q2

/-! ### names and constants -/
def tVar (i : Nat) : TE := fun σ H Q => ∃ v, σ[i]? = some (some v) ∧ Q v H
def tC (v : V) : TE := fun _ H Q => Q v H
theorem pe_var {i : Nat} {x : Str} {pos : Pos} (hN : X.N[i]? = some x) (hv : Vis X.env.scope x) (hd : (x == ("__debug__" : Str)) = false := by decide) (hcd : (x == ("__classdict__" : Str)) = false := by decide) : PE X (.Name x pos) (tVar i) := by
  intro pins s σ H Q I h
  obtain ⟨v, e, h⟩ := h
  obtain ⟨m, hn, hl⟩ := I.loc
  obtain ⟨u, r, l⟩ := hl i x v hN e hv
  have fin : EP X pins σ Q u s := ⟨v, H, I, r, h⟩
  rcases l with ⟨hk, hm⟩ | ⟨hk, c, hc, hcell⟩
  · exact wpAny_Name (wpAny_loadName_local I.ok.kind hk hn hm fin) hd
  · rcases hk with hk | hk
    · exact wpAny_Name (wpAny_loadName_cell I.ok.kind hk hc hcell fin) hd
    · exact wpAny_Name (wpAny_loadName_free I.ok.kind hk hc hcell fin hcd) hd
theorem pe_int {i j pos} : PE X (.Constant (.int i) j pos) (tC (.int i)) := fun _ _ _ H _ I h => wpAny_Constant_int ⟨.int i, H, I.tok _, ⟨_, rfl⟩, h⟩
theorem pe_bl {b j pos} : PE X (.Constant (.bool b) j pos) (tC (.bl b)) := fun _ _ _ H _ I h => Constant_bool ⟨.bl b, H, I, rfl, h⟩
theorem pe_non {j pos} : PE X (.Constant .none j pos) (tC .non) := fun _ _ _ H _ I h => Constant_none ⟨.non, H, I, rfl, h⟩
theorem pe_str {x j pos} : PE X (.Constant (.str x) j pos) (tC (.str x)) := fun _ _ _ H _ I h => Calls.Constant_str ⟨.str x, H, I.tok _, ⟨_, rfl⟩, h⟩

/-- a global name of the def -/
def Gl (X : Cx) (x : Str) : Prop := X.env.kindOf x = some .globalImplicit
theorem ld_glob {E : Value → Shared → Prop} {pins : List (Addr × Obj)} {s : Shared} {σ : St} {H : Hp} {x : Str} {u : Value} {pos : Pos} {Q : Value → Shared → Prop} (I : Inv X pins σ H s) (hg : Gl X x) (hm : X.mg x = some u) (h : Q u s)
    (hd : (x == ("__debug__" : Str)) = false := by decide) : wpAny (model X.prog X.w) X.A (eval (.Name x pos) X.env) Q E s :=
  Calls.Name_function_global I.ok.kind hg (Calls.loadGlobal_global (by rw [I.ok.glob]; exact I.mod.glob.keeps I.bk) hm h) hd
theorem ld_blt {E : Value → Shared → Prop} {pins : List (Addr × Obj)} {s : Shared} {σ : St} {H : Hp} {x : Str} {u : Value} {pos : Pos} {Q : Value → Shared → Prop} (I : Inv X pins σ H s) (hg : Gl X x) (hm : X.mg x = none) (hv : bootBuiltins x = some u) (h : Q u s)
    (hn : x ≠ "__name__" := by decide) (hd : (x == ("__debug__" : Str)) = false := by decide) : wpAny (model X.prog X.w) X.A (eval (.Name x pos) X.env) Q E s := by
  obtain ⟨mb, h1, h2⟩ := I.mod.blt
  exact Calls.Name_function_global I.ok.kind hg (Calls.loadGlobal_builtin (by rw [I.ok.glob]; exact I.mod.glob.keeps I.bk) hm (by rw [I.ok.blt]; exact h1.keeps I.bk) ((h2 x hn).trans hv) h) hd
/-- a module's constant, a class, a function, as a value -/
theorem pe_glob {x : Str} {v : V} {u : Value} {pos : Pos} (hg : Gl X x) (hm : X.mg x = some u) (r : RelV v u) (hd : (x == ("__debug__" : Str)) = false := by decide) : PE X (.Name x pos) (tC v) :=
  fun _ _ _ H _ I h => ld_glob I hg hm ⟨v, H, I, r, h⟩ hd
theorem pe_bltn {x : Str} {v : V} {u : Value} {pos : Pos} (hg : Gl X x) (hm : X.mg x = none) (hv : bootBuiltins x = some u) (r : RelV v u) (hn : x ≠ "__name__" := by decide) (hd : (x == ("__debug__" : Str)) = false := by decide) : PE X (.Name x pos) (tC v) :=
  fun _ _ _ H _ I h => ld_blt I hg hm hv ⟨v, H, I, r, h⟩ hn hd

/-! ### arithmetic -/
variable {a b : Expr} {ta tb : TE} {pos : Pos}
/-! ### comparisons -/
def PC (X : Cx) (op : CmpOp) (a b : Expr) (t : TE) : Prop :=
  ∀ (pins : List (Addr × Obj)) (s : Shared) (σ : St) (H : Hp) (Q : VK), Inv X pins σ H s → t σ H Q →
    wpAny (model X.prog X.w) X.A (eval a X.env) (fun v s₁ => wpAny (model X.prog X.w) X.A (eval b X.env) (fun u s₂ => wpAny (model X.prog X.w) X.A (compareOp op v u) (EP X pins σ Q) X.xe s₂) X.xe s₁) X.xe s
theorem nobehind (b : Expr) {op : CmpOp} (h : op ≠ .In) (h2 : op ≠ .NotIn) : behindInMarks op b = false := by
  have e1 : (op == CmpOp.In) = false := by cases op <;> first | rfl | exact absurd rfl h
  have e2 : (op == CmpOp.NotIn) = false := by cases op <;> first | rfl | exact absurd rfl h2
  cases b <;> simp [behindInMarks, e1, e2]
/-- is None -/
def tIsN (ta : TE) : TE := fun σ H Q => ta σ H fun x H1 => Q (.bl (decide (x = .non))) H1
theorem RelV.none_iff {x : V} {v : Value} (r : RelV x v) : (v == Value.none) = decide (x = .non) := by
  cases x with
  | non => cases r; rfl
  | bl _ => cases r; rfl
  | int _ => obtain ⟨t, rfl⟩ := r; rfl
  | str _ => obtain ⟨t, rfl⟩ := r; rfl
  | byt _ => obtain ⟨t, rfl⟩ := r; rfl
  | flt _ => obtain ⟨t, rfl⟩ := r; rfl
  | ref _ => cases r; rfl
  | ty _ => cases r; rfl
theorem pc_isN {j pos'} (ha : PE X a ta) : PC X .Is a (.Constant .none j pos') (tIsN ta) := by
  intro pins s σ H Q I h
  refine thn (ha pins s σ H _ I h) fun v s1 ⟨x, H1, I1, r1, q1⟩ => ?_
  exact Constant_none (is_none_gen ⟨.bl _, H1, I1, by rw [r1.none_iff]; rfl, q1⟩)
/-- a comparison as a value, as a test -/
def tB (t : TE) : TT := fun σ H Q => t σ H fun x H1 => ∃ c, x = .bl c ∧ Q c H1
theorem pt_cmp {op : CmpOp} {t : TE} (h : PC X op a b t) (h1 : behindInMarks op b = false := by first | exact nobehind _ (by decide) (by decide) | rfl) : PT X (.Compare a [op] [b] pos) (tB t) := by
  intro pins s σ H Q I hw
  refine wpAny_isTrue_Compare1 (thn (h pins s σ H _ I hw) fun v s1 h1 => thn h1 fun u s2 h2 => thn h2 fun c s3 ⟨x, H1, I1, r1, q1⟩ => ?_) h1
  obtain ⟨d, rfl, q⟩ := q1
  cases r1
  exact wpAny_truthy_bool ⟨H1, I1, q⟩
/-- an expression whose value is a bool, as a test -/
theorem pt_val {e : Expr} {t : TE} (h : PE X e t) (he : ∀ whole, isTrue e X.env whole = (do let v ← whole; standAt e.pos; holding [v] (truthy v)) := by intro _; rfl) : PT X e (tB t) := by
  intro pins s σ H Q I hw
  refine isTrue_plain (thn (h pins s σ H _ I hw) fun v s1 ⟨x, H1, I1, r1, q1⟩ => ?_) (he _)
  obtain ⟨d, rfl, q⟩ := q1
  cases r1
  exact wpAny_truthy_bool ⟨H1, I1, q⟩

/-! ### and, or, not -/
variable {tA tB' : TT} {rest : List Expr}
def tOr (t u : TT) : TT := fun σ H Q => t σ H fun c H1 => if c = true then Q true H1 else u σ H1 Q
def tNot (t : TT) : TT := fun σ H Q => t σ H fun c H1 => Q (!c) H1
theorem pw_or1 (ha : PT X a tA) : PW X (.BoolOp .Or [a] pos) tA := by
  intro wh pins s σ H Q I h
  refine isTrue_or (thn (ha pins s σ H Q I h) fun c s1 e => ?_)
  cases c with
  | false => exact isTrue_or_nil e
  | true => exact e
theorem pw_or (ha : PT X a tA) (hb : PW X (.BoolOp .Or (b :: rest) pos) tB') : PW X (.BoolOp .Or (a :: b :: rest) pos) (tOr tA tB') := by
  intro wh pins s σ H Q I h
  refine isTrue_or (thn (ha pins s σ H _ I h) fun c s1 ⟨H1, I1, q1⟩ => ?_)
  cases c with
  | true => exact ⟨H1, I1, q1⟩
  | false => exact hb wh pins s1 σ H1 Q I1 q1
theorem pt_not (ha : PT X a tA) : PT X (.UnaryOp .Not a pos) (tNot tA) := by
  intro pins s σ H Q I h
  exact isTrue_not (ha pins s σ H (fun c H1 => Q (!c) H1) I h)
/-- .. as values (bools) -/
def tAndV (ta tb : TE) : TE := fun σ H Q => ta σ H fun x H1 => ∃ c, x = .bl c ∧ if c = true then tb σ H1 Q else Q (.bl false) H1
theorem pe_one {op} {t : TE} (h : PE X a t) : PE X (.BoolOp op [a] pos) t := fun pins s σ H Q I hw => BoolOp_one (h pins s σ H Q I hw)
theorem pe_and (ha : PE X a ta) (hb : PE X (.BoolOp .And (b :: rest) pos) tb) : PE X (.BoolOp .And (a :: b :: rest) pos) (tAndV ta tb) := by
  intro pins s σ H Q I h
  refine BoolOp_and (thn (ha pins s σ H _ I h) fun v s1 ⟨x, H1, I1, r1, q1⟩ => ?_)
  obtain ⟨c, rfl, q1⟩ := q1
  cases r1
  refine wpAny_truthy_bool ?_
  cases c with
  | true => exact hb pins s1 σ H1 Q I1 q1
  | false => exact ⟨.bl false, H1, I1, rfl, q1⟩
end
end L2

namespace L2
open PySem PySem.Spec PyProof.Rows

/-! ### a list, a tuple that is read: tracked, frozen, or an object of the module -/
def SqL (K : PySem.W.Frag) (H : Hp) (a : Addr) (xs : List V) : Prop :=
  Rd H a (.lst xs) ∨
    ∃ (o : Obj) (its : Array Value) (n : Nat), K.lookup a = some o ∧ o.cls = .type "list" ∧ o.dict = none ∧ o.data = .seq its n ∧ its.size ≤ sizeLine ∧ Vals xs its.toList
def SqT (K : PySem.W.Frag) (H : Hp) (a : Addr) (xs : List V) : Prop :=
  Rd H a (.tup xs) ∨
    ∃ (o : Obj) (its : Array Value) (n : Nat), K.lookup a = some o ∧ o.cls = .type "tuple" ∧ o.data = .seq its n ∧ its.size ≤ sizeLine ∧ Vals xs its.toList
def absV : Value → Option V
  | .none => some .non
  | .bool b => some (.bl b)
  | .int i _ => some (.int i)
  | .str x _ => some (.str x)
  | .bytes b _ => some (.byt b)
  | .float b _ => some (.flt b)
  | .ref a => some (.ref a)
  | .type n => some (.ty n)
  | _ => none
theorem RelV.abs {x : V} {u : Value} (r : RelV x u) : absV u = some x := by
  cases x with
  | non => cases r; rfl
  | bl _ => cases r; rfl
  | int _ => obtain ⟨t, rfl⟩ := r; rfl
  | str _ => obtain ⟨t, rfl⟩ := r; rfl
  | byt _ => obtain ⟨t, rfl⟩ := r; rfl
  | flt _ => obtain ⟨t, rfl⟩ := r; rfl
  | ref _ => cases r; rfl
  | ty _ => cases r; rfl
theorem RelV.inj {x y : V} {u : Value} (r : RelV x u) (q : RelV y u) : x = y := Option.some.inj (r.abs.symm.trans q.abs)
theorem Vals.inj : ∀ {xs ys : List V} {us : List Value}, Vals xs us → Vals ys us → xs = ys
  | _, _, _, .nil, .nil => rfl
  | _, _, _, .cons r t, .cons r' t' => by rw [r.inj r', Vals.inj t t']
section
variable {X : Cx} {pins : List (Addr × Obj)} {σ : St} {H : Hp} {s : Shared} {a : Addr} {xs ys : List V}
theorem SqL.of {K : PySem.W.Frag} (h : H a = some (.lst xs)) : SqL K H a xs := .inl (.inl h)
theorem SqT.of {K : PySem.W.Frag} (h : H a = some (.tup xs)) : SqT K H a xs := .inl (.inl h)
theorem Inv.list (I : Inv X pins σ H s) (h : SqL X.K H a xs) : ∃ its : List Value, Vals xs its ∧ PlainL s.heap a its.toArray ∧ xs.length ≤ sizeLine := by
  rcases h with h | ⟨o, its, n, hk, hc, hd, hs, hz, r⟩
  · obtain ⟨z, its, n, r, e⟩ := h.ok I.hok
    exact ⟨its, r, ⟨_, n, e, rfl, rfl, rfl⟩, z⟩
  · refine ⟨its.toList, r, ⟨o, n, I.kIn a o hk, hc, hd, by simpa using hs⟩, ?_⟩
    have e := r.length
    simp only [Array.length_toList] at e
    omega
theorem Inv.tuple (I : Inv X pins σ H s) (h : SqT X.K H a xs) : ∃ its : List Value, Vals xs its ∧ IsTup s.heap a its.toArray ∧ xs.length ≤ sizeLine := by
  rcases h with h | ⟨o, its, n, hk, hc, hs, hz, r⟩
  · obtain ⟨z, its, r, p⟩ := h.ok I.hok
    exact ⟨its, r, p, z⟩
  · refine ⟨its.toList, r, ⟨o, I.kIn a o hk, hc, n, by simpa using hs⟩, ?_⟩
    have e := r.length
    simp only [Array.length_toList] at e
    omega
theorem Inv.list_inj (I : Inv X pins σ H s) (h : SqL X.K H a xs) (h' : SqL X.K H a ys) : xs = ys := by
  obtain ⟨its, r, ⟨o, n, e, _, _, d⟩, _⟩ := I.list h
  obtain ⟨its', r', ⟨o', n', e', _, _, d'⟩, _⟩ := I.list h'
  rw [e] at e'; cases e'
  rw [d] at d'
  injection d' with d1 _
  have : its = its' := by simpa using congrArg Array.toList d1
  subst this
  exact r.inj r'
theorem Inv.tuple_inj (I : Inv X pins σ H s) (h : SqT X.K H a xs) (h' : SqT X.K H a ys) : xs = ys := by
  obtain ⟨its, r, ⟨o, e, _, n, d⟩, _⟩ := I.tuple h
  obtain ⟨its', r', ⟨o', e', _, n', d'⟩, _⟩ := I.tuple h'
  rw [e] at e'; cases e'
  rw [d] at d'
  injection d' with d1 _
  have : its = its' := by simpa using congrArg Array.toList d1
  subst this
  exact r.inj r'
end

/-! ### another wish about exceptions -/
abbrev Cx.wish (X : Cx) (E : Value → Shared → Prop) : Cx := { X with xe := E }
/-- no exception leaves -/
abbrev Cx.nox (X : Cx) : Cx := X.wish fun _ _ => False
theorem Cx.Ok.wish {X : Cx} (ok : X.Ok) (E : Value → Shared → Prop) : (X.wish E).Ok :=
  ⟨ok.mod, ok.kind, ok.glob, ok.blt, ok.above, ok.inj, ok.has, ok.cab, ok.hd, ok.frames, ok.stk, ok.exf, ok.bs, ok.bsz, ok.noex, ok.exfs, ok.funs, ok.frf⟩
theorem Cx.Ok.unwish {X : Cx} {E : Value → Shared → Prop} (ok : (X.wish E).Ok) : X.Ok :=
  ⟨ok.mod, ok.kind, ok.glob, ok.blt, ok.above, ok.inj, ok.has, ok.cab, ok.hd, ok.frames, ok.stk, ok.exf, ok.bs, ok.bsz, ok.noex, ok.exfs, ok.funs, ok.frf⟩
section
variable {X : Cx} {pins : List (Addr × Obj)} {σ : St} {H : Hp} {s : Shared} {E : Value → Shared → Prop}
theorem Inv.wish (I : Inv X pins σ H s) (E : Value → Shared → Prop) : Inv (X.wish E) pins σ H s := ⟨I.ok.wish E, I.os, I.bare, I.base, I.loc, I.cell, I.free, I.freeC, I.pin, I.hok, I.len⟩
theorem Inv.unwish (I : Inv (X.wish E) pins σ H s) : Inv X pins σ H s := ⟨I.ok.unwish, I.os, I.bare, I.base, I.loc, I.cell, I.free, I.freeC, I.pin, I.hok, I.len⟩
theorem SP.unwish {D : Ends} {f : Flow} {s' : Shared} (h : SP (X.wish E) pins D f s') : SP X pins D f s' := by
  cases f with
  | next => obtain ⟨σ', H', I, q⟩ := h; exact ⟨σ', H', I.unwish, q⟩
  | brk => obtain ⟨σ', H', I, q⟩ := h; exact ⟨σ', H', I.unwish, q⟩
  | cont => obtain ⟨σ', H', I, q⟩ := h; exact ⟨σ', H', I.unwish, q⟩
  | ret u => obtain ⟨v, σ', H', I, r, q⟩ := h; exact ⟨v, σ', H', I.unwish, r, q⟩
theorem PSs.nox {st : List Stmt} {t : TS} (h : PSs X.nox st t) : PSs X st t := fun pins s σ H D I hw =>
  wpAny_mono (h pins s σ H D (I.wish _) hw) (fun _ _ q => q.unwish) fun _ _ z => False.elim z
end

/-! ### blocks and small statements -/
section
variable {X : Cx} {st : Stmt} {rest : List Stmt} {t u : TS} {e : Expr} {te : TE} {pos : Pos}
def tNext : TS := fun D σ H => D.nx σ H
def tSeq (t u : TS) : TS := fun D σ H => t { D with nx := u D } σ H
theorem pss_nil : PSs X [] tNext := fun _ _ σ H _ I h => wpAny_execs_nil ⟨σ, H, I, h⟩
theorem pss_cons (h1 : PS X st t) (h2 : PSs X rest u) : PSs X (st :: rest) (tSeq t u) := by
  intro pins s σ H D I h
  refine wpAny_execs_cons (thn (h1 pins s σ H { D with nx := u D } I h) fun f s1 q => ?_)
  cases f with
  | next =>
    obtain ⟨σ', H', I', q⟩ := q
    exact h2 pins s1 σ' H' D I' q
  | ret v => exact q
  | brk => exact q
  | cont => exact q
theorem pss_one (h1 : PS X st t) : PSs X [st] t := by
  intro pins s σ H D I h
  refine wpAny_execs_cons (thn (h1 pins s σ H D I h) fun f s1 q => ?_)
  cases f with
  | next => exact wpAny_execs_nil q
  | ret v => exact q
  | brk => exact q
  | cont => exact q
/-- in a def's body nothing is shown -/
theorem Inv.quiet {pins : List (Addr × Obj)} {σ : St} {H : Hp} {s : Shared} (I : Inv X pins σ H s) : interactive X.env = false := by simp [interactive, I.ok.kind]
/-- an expression whose value is dropped -/
def tDrop (te : TE) : TS := fun D σ H => te σ H fun _ H1 => D.nx σ H1
theorem ps_expr (he : PE X e te) (hs : swapsWith e none pos.line X.env = pure false := by rfl) : PS X (.Expr e pos) (tDrop te) := by
  intro pins s σ H D I h
  exact wpAny_Expr_any (thn (he pins s σ H _ I h) fun v s1 ⟨x, H1, I1, r1, q1⟩ => ⟨σ, H1, I1, q1⟩) I.quiet hs
def tRet (te : TE) : TS := fun D σ H => te σ H D.rt
theorem ps_ret (he : PE X e te) : PS X (.Return (some e) pos) (tRet te) := by
  intro pins s σ H D I h
  exact wpAny_Return_some (thn (he pins s σ H _ I h) fun v s1 ⟨x, H1, I1, r1, q1⟩ => ⟨x, σ, H1, I1, r1, q1⟩)
def tIfS (c : TT) (t u : TS) : TS := fun D σ H => c σ H fun b H1 => if b = true then t D σ H1 else u D σ H1
theorem ps_if {c : Expr} {a b : List Stmt} {tc : TT} (hc : PT X c tc) (ha : PSs X a t) (hb : PSs X b u) : PS X (.If c a b pos) (tIfS tc t u) := by
  intro pins s σ H D I h
  refine wpAny_If (thn (hc pins s σ H _ I h) fun d s1 ⟨H1, I1, q1⟩ => ?_)
  cases d with
  | true => exact ha pins s1 σ H1 D I1 q1
  | false => exact hb pins s1 σ H1 D I1 q1
/-- code that the proof never comes to -/
def tNever : TS := fun _ _ _ => False
theorem pss_never {sts : List Stmt} : PSs X sts tNever := fun _ _ _ _ _ _ h => h.elim
end

/-! ### targets -/
abbrev TG := V → St → Hp → (St → Hp → Prop) → Prop
def PG (X : Cx) (target : Expr) (t : TG) : Prop :=
  ∀ (pins : List (Addr × Obj)) (s : Shared) (σ : St) (H : Hp) (v : V) (u : Value) (Q : St → Hp → Prop), Inv X pins σ H s → RelV v u → t v σ H Q →
    wpAny (model X.prog X.w) X.A (assign target X.env u) (fun _ s' => ∃ σ' H', Inv X pins σ' H' s' ∧ Q σ' H') X.xe s
section
variable {X : Cx} {pos : Pos}
def gName (i : Nat) : TG := fun v σ H Q => Q (σ.set i (some v)) H
theorem pg_name {i : Nat} {x : Str} (hN : X.N.Nodup) (hi : X.N[i]? = some x) (hx : Loc X.env.scope x) (hf : X.fn x = true ∨ X.env.scope.names.lookup x = some .local := by first | exact .inl rfl | exact .inr rfl | assumption) : PG X (.Name x pos) (gName i) := by
  intro pins s σ H v u Q I r h
  exact wpAny_assign_Name (store_ok I hN hi hx r (fun s' I' => ⟨_, H, I', h⟩) hf)
/-- target = value -/
def tAsg (te : TE) (g : TG) : TS := fun D σ H => te σ H fun x H1 => g x σ H1 D.nx
/-- name = value -/
theorem ps_set {i : Nat} {x : Str} {e : Expr} {te : TE} {pos' : Pos} (hN : X.N.Nodup) (hi : X.N[i]? = some x) (hx : Loc X.env.scope x) (he : PE X e te) (hs : swapsWith e (some (.Name x pos')) pos.line X.env = pure false := by rfl) (hf : X.fn x = true ∨ X.env.scope.names.lookup x = some .local := by first | exact .inl rfl | exact .inr rfl | assumption) :
    PS X (.Assign [.Name x pos'] e pos) (tAsg te (gName i)) := by
  intro pins s σ H D I h
  refine wpAny_Assign_Name (thn (he pins s σ H _ I h) fun v s1 ⟨y, H1, I1, r1, q1⟩ => ?_) hs
  exact store_ok I1 hN hi hx r1 (fun s2 I2 => ⟨_, H1, I2, q1⟩) hf
end

/-! ### while -/
section
variable {X : Cx} {pos : Pos}
end

/-! ### what a loop or a comprehension walks -/
/-- at turn i: it yields x (the heap may grow), or it stops -/
structure It where
  go : Nat → Hp → Prop
  yld : Nat → Hp → V → Hp → Prop
  stop : Nat → Hp → Prop
/-- the iterator's own objects may turn: they are not the frame's, not pinned, younger than the entry (or a comprehension's own) -/
def FpOk (X : Cx) (pins : List (Addr × Obj)) (H : Hp) (b : Addr) : Prop :=
  H b = none ∧ b ≠ X.env.locals ∧ b ∉ X.fs ∧ (b ∈ X.ex ∨ X.s₀.heap.objs.size ≤ b) ∧ (∀ x c, X.env.cells.lookup x = some c → c ≠ b) ∧ ∀ p ∈ X.pn ++ pins, p.1 ≠ b
theorem Inv.fpOk {X : Cx} {pins : List (Addr × Obj)} {σ : St} {H H' : Hp} {s : Shared} {b : Addr} (I : Inv X pins σ H s) (hb : s.heap.objs.size ≤ b) (hn : H' b = none) : FpOk X pins H' b := by
  refine ⟨hn, Nat.ne_of_gt (Nat.lt_of_lt_of_le I.lt hb), I.nofs hb, .inr (Nat.le_trans I.sz hb), fun x c e z => ?_, fun p hp z => ?_⟩
  · obtain ⟨v, q⟩ := I.cell x c e
    exact absurd (Nat.lt_of_lt_of_le q.lt (by rw [z]; exact hb)) (Nat.lt_irrefl _)
  · exact absurd (Nat.lt_of_lt_of_le (Heap.lt_size (I.pin p hp).1) (by rw [z]; exact hb)) (Nat.lt_irrefl _)
structure Turn (P : Program) (w : World) (K : PySem.W.Frag) (tg : Expr) (J : It) (fp : List Addr) (it : Addr) (tn : Nat → Heap → Prop) : Prop where
  mem : it ∈ fp
  obj : ∀ i h, tn i h → ∀ b ∈ fp, ∃ o, h.get? b = some o ∧ ∀ v, o.data ≠ .cell v
  keep : ∀ i h h', tn i h → (∀ b ∈ fp, ∀ o, h.get? b = some o → h'.get? b = some o) → tn i h'
  item : ∀ (X : Cx), X.prog = P → X.w = w → X.K = K → X.calm = true → ∀ (i : Nat) (pins : List (Addr × Obj)) (s : Shared) (σ : St) (H : Hp) (E : Value → Shared → Prop), Inv X pins σ H s → (∀ b ∈ fp, FpOk X pins H b) → tn i s.heap → J.go i H →
    wpAny (model P w) X.A (pyNext (.ref it)) (fun r s1 => ∃ u, r = some u ∧
      wpAny (model P w) X.A (letOwnedTupleGo tg (.ref it) u) (fun _ s2 => ∃ x H', Inv X pins σ H' s2 ∧ RelV x u ∧ J.yld i H x H' ∧ tn (i + 1) s2.heap ∧ ∀ b ∈ fp, H' b = none) E s1) E s
  done : ∀ (X : Cx), X.prog = P → X.w = w → X.K = K → X.calm = true → ∀ (i : Nat) (pins : List (Addr × Obj)) (s : Shared) (σ : St) (H : Hp) (E : Value → Shared → Prop), Inv X pins σ H s → (∀ b ∈ fp, FpOk X pins H b) → tn i s.heap → J.stop i H →
    wpAny (model P w) X.A (pyNext (.ref it)) (fun r s1 => r = none ∧ Inv X pins σ H s1) E s
  self : ∀ (A : Around) (i : Nat) (s : Shared) (Q : Value → Shared → Prop) (E : Value → Shared → Prop), tn i s.heap → Q (.ref it) s → wpAny (model P w) A (pyIter (.ref it)) Q E s
abbrev TI := St → Hp → (It → Hp → Prop) → Prop
/-- an iterator has come -/
def PIE (X : Cx) (pins : List (Addr × Obj)) (σ : St) (tg : Expr) (R : It → Hp → Prop) (itv : Value) (s2 : Shared) : Prop :=
  ∃ (it : Addr) (fp : List Addr) (tn : Nat → Heap → Prop) (J : It) (H' : Hp), itv = .ref it ∧ Inv X pins σ H' s2 ∧ Turn X.prog X.w X.K tg J fp it tn ∧ tn 0 s2.heap ∧ (∀ b ∈ fp, FpOk X pins H' b) ∧ R J H'
def PI (X : Cx) (tg iter : Expr) (wi : TI) : Prop :=
  ∀ (pins : List (Addr × Obj)) (s : Shared) (σ : St) (H : Hp) (R : It → Hp → Prop), Inv X pins σ H s → wi σ H R →
    wpAny (model X.prog X.w) X.A (eval iter X.env) (fun v s1 => wpAny (model X.prog X.w) X.A (pyIter v) (PIE X pins σ tg R) X.xe s1) X.xe s

/-- the step ahead of the store is nothing for an iterator that keeps no tuple -/
theorem go_of {M : Model} {A : Around} {E : Value → Shared → Prop} {s : Shared} {tg : Expr} {it : Addr} {u : Value} {o : Obj} {n : String} {vs : Array Value} {Q : Unit → Shared → Prop} (ho : s.heap.get? it = some o) (hc : o.cls = .type n) (hd : o.data = .fields vs)
    (hn : ["enumerate", "zip", "dict_itemiterator", "dict_reverseitemiterator", "odict_iterator", "itertools.zip_longest", "itertools.pairwise"].contains n = false) (hQ : Q () s) : wpAny M A (letOwnedTupleGo tg (.ref it) u) Q E s := by
  unfold letOwnedTupleGo
  cases tg <;> first
    | exact wpAny_pure hQ
    | (cases u <;> first
        | exact wpAny_pure hQ
        | (refine wpAny_bind (wpAny_load ho ?_)
           rw [hc, hd]
           show wpAny M A (if (["enumerate", "zip", "dict_itemiterator", "dict_reverseitemiterator", "odict_iterator", "itertools.zip_longest", "itertools.pairwise"].contains n && vs[0]? == some (rawInt _)) = true then _ else _) Q E s
           rw [if_neg (by intro h; rw [hn, Bool.false_and] at h; cases h)]
           exact wpAny_pure hQ))

/-- the list at a, as it stands at each turn (a loop may append to it) -/
def Itl (K : PySem.W.Frag) (a : Addr) : It :=
  ⟨fun i H => ∃ xs x, SqL K H a xs ∧ xs[i]? = some x, fun i H x H' => H' = H ∧ ∀ xs, SqL K H a xs → xs[i]? = some x, fun i H => ∃ xs, SqL K H a xs ∧ xs.length ≤ i⟩
def Itt (K : PySem.W.Frag) (a : Addr) : It :=
  ⟨fun i H => ∃ xs x, SqT K H a xs ∧ xs[i]? = some x, fun i H x H' => H' = H ∧ ∀ xs, SqT K H a xs → xs[i]? = some x, fun i H => ∃ xs, SqT K H a xs ∧ xs.length ≤ i⟩
/-- lo, lo + 1, .. (n of them) -/
def Itr (lo : Int) (n : Nat) : It := ⟨fun i _ => i < n, fun i H x H' => H' = H ∧ x = .int (lo + i), fun i _ => n ≤ i⟩
theorem turn_list {P : Program} {w : World} {K : PySem.W.Frag} {tg : Expr} (a it : Addr) : Turn P w K tg (Itl K a) [it] it (fun i h => h.IsListIter it a i) where
  mem := by simp
  obj := fun i h st b hb => by
    have e : b = it := by simpa using hb
    subst e
    obtain ⟨o, e, c, d⟩ := st
    exact ⟨o, e, fun v z => by rw [d] at z; cases z⟩
  keep := fun i h h' st k => st.at fun o e => k it (by simp) o e
  item := by
    intro X hP hw hK hc i pins s σ H E I hf st hg
    subst hP hw hK
    obtain ⟨xs, x, hq, hx⟩ := hg
    obtain ⟨its, rv, p, hz⟩ := I.list hq
    obtain ⟨u, hu, ru⟩ := rv.get hx
    obtain ⟨f0, f1, f2, f3, f4, f5⟩ := hf it (by simp)
    refine wpAny_pyNext_list_item st p.isList (x := u) (by simpa using hu) fun h' st' sb => ?_
    have I1 : Inv X pins σ H { s with heap := h' } := I.turned (t' := s.toks) (fun b o hb e => (sb.2 b hb).trans e) f0 f1 f3 f4 f5
    obtain ⟨o, e, c, d⟩ := id st'
    exact ⟨u, rfl, go_of (s := { s with heap := h' }) e c d (by decide) ⟨x, H, I1, ru, ⟨rfl, fun ys hy => by rw [I.list_inj hy hq]; exact hx⟩, st', fun b hb => (hf b hb).1⟩⟩
  done := by
    intro X hP hw hK hc i pins s σ H E I hf st hg
    subst hP hw hK
    obtain ⟨xs, hq, hx⟩ := hg
    obtain ⟨its, rv, p, hz⟩ := I.list hq
    obtain ⟨f0, f1, f2, f3, f4, f5⟩ := hf it (by simp)
    have hl := rv.length
    exact wpAny_pyNext_list_end (I.ok.hd hc) st p.isList (by simp; omega) fun h' eb => ⟨rfl, I.turned (t' := s.toks) (fun b o hb e => eb b o hb e) f0 f1 f3 f4 f5⟩
  self := fun _ _ _ _ _ st h => wpAny_pyIter_listiter st h
theorem turn_tuple {P : Program} {w : World} {K : PySem.W.Frag} {tg : Expr} (a it : Addr) : Turn P w K tg (Itt K a) [it] it (fun i h => h.IsTupleIter it a i) where
  mem := by simp
  obj := fun i h st b hb => by
    have e : b = it := by simpa using hb
    subst e
    obtain ⟨o, e, c, d⟩ := st
    exact ⟨o, e, fun v z => by rw [d] at z; cases z⟩
  keep := fun i h h' st k => st.at fun o e => k it (by simp) o e
  item := by
    intro X hP hw hK hc i pins s σ H E I hf st hg
    subst hP hw hK
    obtain ⟨xs, x, hq, hx⟩ := hg
    obtain ⟨its, rv, p, hz⟩ := I.tuple hq
    obtain ⟨u, hu, ru⟩ := rv.get hx
    obtain ⟨f0, f1, f2, f3, f4, f5⟩ := hf it (by simp)
    refine wpAny_pyNext_tuple_item st (show s.heap.IsTuple a its.toArray from p) (x := u) (by simpa using hu) fun h' st' sb => ?_
    have I1 : Inv X pins σ H { s with heap := h' } := I.turned (t' := s.toks) (fun b o hb e => (sb.2 b hb).trans e) f0 f1 f3 f4 f5
    obtain ⟨o, e, c, d⟩ := id st'
    exact ⟨u, rfl, go_of (s := { s with heap := h' }) e c d (by decide) ⟨x, H, I1, ru, ⟨rfl, fun ys hy => by rw [I.tuple_inj hy hq]; exact hx⟩, st', fun b hb => (hf b hb).1⟩⟩
  done := by
    intro X hP hw hK hc i pins s σ H E I hf st hg
    subst hP hw hK
    obtain ⟨xs, hq, hx⟩ := hg
    obtain ⟨its, rv, p, hz⟩ := I.tuple hq
    obtain ⟨f0, f1, f2, f3, f4, f5⟩ := hf it (by simp)
    have hl := rv.length
    exact wpAny_pyNext_tuple_end (I.ok.hd hc) st (show s.heap.IsTuple a its.toArray from p) (by simp; omega) fun h' eb => ⟨rfl, I.turned (t' := s.toks) (fun b o hb e => eb b o hb e) f0 f1 f3 f4 f5⟩
  self := fun _ _ _ _ _ st h => wpAny_pyIter_tupleiter st h
theorem turn_range {P : Program} {w : World} {K : PySem.W.Frag} {tg : Expr} (it : Addr) (lo : Int) (n : Nat) : Turn P w K tg (Itr lo n) [it] it (fun i h => IsRangeIter h it (lo + (i : Nat) * 1) ((n : Int) - (i : Nat)) 1) where
  mem := by simp
  obj := fun i h st b hb => by
    have e : b = it := by simpa using hb
    subst e
    exact ⟨_, st, fun v z => by
      have z' : Data.fields _ = Data.cell v := z
      cases z'⟩
  keep := fun i h h' st k => k it (by simp) _ st
  item := by
    intro X hP hw hK hc i pins s σ H E I hf st hg
    subst hP hw hK
    obtain ⟨f0, f1, f2, f3, f4, f5⟩ := hf it (by simp)
    have W := Walks.range (prog := X.prog) (w := X.w) (I.ok.hd hc) it lo 1 n
    refine W.item i s _ _ hg st fun v h' tk hv st' kk => ?_
    obtain ⟨t, rfl⟩ := hv
    have I1 : Inv X pins σ H { s with heap := h', toks := tk } := I.turned (fun b o hb e => kk b o (by simpa using hb) e) f0 f1 f3 f4 f5
    refine ⟨_, rfl, go_of (s := { s with heap := h', toks := tk }) (n := "range_iterator") st' rfl rfl (by decide) ⟨.int (lo + i), H, I1, ⟨t, ?_⟩, ⟨rfl, rfl⟩, st', fun b hb => (hf b hb).1⟩⟩
    rw [Int.mul_one]
  done := by
    intro X hP hw hK hc i pins s σ H E I hf st hg
    subst hP hw hK
    obtain ⟨f0, f1, f2, f3, f4, f5⟩ := hf it (by simp)
    exact wpAny_pyNext_range_end (I.ok.hd hc) st (by have : n ≤ i := hg; omega) fun h' eb => ⟨rfl, I.turned (t' := s.toks) (fun b o hb e => eb b o hb e) f0 f1 f3 f4 f5⟩
  self := fun _ _ _ _ _ st h => wpAny_pyIter_rangeiter st h
end L2

namespace L2
open PySem PySem.Spec PyProof.Rows
section
variable {X : Cx} {tg : Expr}
/-- a range object just made, walked -/
theorem range_it {pins : List (Addr × Obj)} {σ : St} {H : Hp} {s : Shared} {R : It → Hp → Prop} {E : Value → Shared → Prop} {lo hi : Int} {t u v : Tok} {tk : Nat} (I : Inv X pins σ H s) (h1 : -(2 ^ 62) ≤ lo) (h2 : lo < 2 ^ 62) (h3 : -(2 ^ 62) ≤ hi) (h4 : hi < 2 ^ 62)
    (q : R (Itr lo (hi - lo).toNat) H) : wpAny (model X.prog X.w) X.A (pyIter (.ref s.heap.objs.size)) (PIE X pins σ tg R) E { s with heap := s.heap.push { cls := .type "range", data := .fields #[.int lo t, .int hi u, .int 1 v] }, toks := tk } := by
  refine wpAny_pyIter_range (IsRange.new ..) (small_one h1 h2 h3 h4) ?_
  have I1 : Inv X pins σ H { s with heap := s.heap.push { cls := .type "range", data := .fields #[.int lo t, .int hi u, .int 1 v] }, toks := tk } := I.kept fun b o e => Heap.get?_push_of_some _ e
  refine ⟨(s.heap.push { cls := .type "range", data := .fields #[.int lo t, .int hi u, .int 1 v] }).objs.size, [(s.heap.push { cls := .type "range", data := .fields #[.int lo t, .int hi u, .int 1 v] }).objs.size], _, _, H, rfl,
    I1.kept (t' := tk) fun b o e => Heap.get?_push_of_some _ e, turn_range _ lo (hi - lo).toNat, ?_, fun b hb => ?_, q⟩
  · have e1 : lo + ((0 : Nat) : Int) * 1 = lo := by simp
    have e2 : (((hi - lo).toNat : Nat) : Int) - ((0 : Nat) : Int) = Builtin.Range.rangeSize lo hi 1 := by rw [rangeSize_one]; split <;> omega
    show IsRangeIter _ _ (lo + ((0 : Nat) : Int) * 1) ((((hi - lo).toNat : Nat) : Int) - ((0 : Nat) : Int)) 1
    rw [e1, e2]
    exact Heap.get?_push_size _ rfl
  · have e : b = (s.heap.push { cls := .type "range", data := .fields #[.int lo t, .int hi u, .int 1 v] }).objs.size := by simpa using hb
    subst e
    exact I1.fpOk (Nat.le_refl _) (I1.hok.fresh (Nat.le_refl _))
def iRng1 (ta : TA) : TI := fun σ H R => ta σ H fun vs H1 => ∃ j : Int, vs = [.int j] ∧ -(2 ^ 62) ≤ j ∧ j < 2 ^ 62 ∧ R (Itr 0 j.toNat) H1
def iRng2 (ta : TA) : TI := fun σ H R => ta σ H fun vs H1 => ∃ i j : Int, vs = [.int i, .int j] ∧ (-(2 ^ 62) ≤ i ∧ i < 2 ^ 62 ∧ -(2 ^ 62) ≤ j ∧ j < 2 ^ 62) ∧ R (Itr i (j - i).toNat) H1
theorem pi_range1 {a : Expr} {ta : TA} {p pos : Pos} (hg : Gl X "range") (hm : X.mg "range" = none) (ha : PA X [a] ta) (hs : starEach [a] X.env = [(false, eval a X.env)] := by rfl) : PI X tg (.Call (.Name "range" p) [a] [] pos) (iRng1 ta) := by
  intro pins s σ H R I h
  refine Call_ (ld_blt I hg hm boot_range (PyProof.Rows.callWith_type1 (thn (ha pos pins s σ H _ I h) fun us s1 ⟨vs, H1, I1, r1, q1⟩ => ?_) hs rfl))
  obtain ⟨j, e, q1, q2, q⟩ := q1
  subst e
  cases r1 with
  | cons r rr =>
    cases rr
    obtain ⟨t, rfl⟩ := r
    exact call_range_1 (range_it I1 (by omega) (by omega) q1 q2 (by simpa using q))
theorem pi_range2 {a b : Expr} {ta : TA} {p pos : Pos} (hg : Gl X "range") (hm : X.mg "range" = none) (ha : PA X [a, b] ta) (hs : starEach [a, b] X.env = [(false, eval a X.env), (false, eval b X.env)] := by rfl) (hs2 : starEach [b] X.env = [(false, eval b X.env)] := by rfl) :
    PI X tg (.Call (.Name "range" p) [a, b] [] pos) (iRng2 ta) := by
  intro pins s σ H R I h
  refine Call_ (ld_blt I hg hm boot_range (PyProof.Rows.callWith_type1 (thn (ha pos pins s σ H _ I h) fun us s1 ⟨vs, H1, I1, r1, q1⟩ => ?_) (by rw [hs, hs2]) (by rw [hs2]; rfl)))
  obtain ⟨i, j, e, ⟨q1, q2, q3, q4⟩, q⟩ := q1
  subst e
  cases r1 with
  | cons r rr =>
    cases rr with
    | cons r' rr =>
      cases rr
      obtain ⟨t, rfl⟩ := r
      obtain ⟨t', rfl⟩ := r'
      exact call_range_2 (range_it I1 q1 q2 q3 q4 q)

/-! ### for -/
/-- W: the invariant by the turn and a measure; N: what the body is to reach -/
def tFor (wi : TI) (g : TG) (tb : TS) : TS := fun D σ H => wi σ H fun J H1 => ∃ W : Nat → Nat → St → Hp → Prop, (∃ m, W 0 m σ H1) ∧ ∀ i m σ H, W i m σ H →
  (J.stop i H ∧ D.nx σ H) ∨ (J.go i H ∧ ∃ N : St → Hp → Prop, (∀ σ' H', N σ' H' → ∃ m', m' < m ∧ W (i + 1) m' σ' H') ∧ ∀ x H', J.yld i H x H' → g x σ H' fun σ2 H2 => tb { D with nx := N, ct := N, bk := D.nx } σ2 H2)
/-- the records at fp as they stand -/
def pinsAt (fp : List Addr) (h : Heap) : List (Addr × Obj) := fp.filterMap fun b => (h.get? b).map fun o => (b, o)
theorem mem_pinsAt {fp : List Addr} {h : Heap} {b : Addr} {o : Obj} (hb : b ∈ fp) (e : h.get? b = some o) : (b, o) ∈ pinsAt fp h := List.mem_filterMap.mpr ⟨b, hb, by rw [e]; rfl⟩
theorem of_pinsAt {fp : List Addr} {h : Heap} {p : Addr × Obj} (hp : p ∈ pinsAt fp h) : p.1 ∈ fp ∧ h.get? p.1 = some p.2 := by
  obtain ⟨b, hb, e⟩ := List.mem_filterMap.mp hp
  cases q : h.get? b with
  | none => rw [q] at e; cases e
  | some o =>
    rw [q] at e
    have e' : (b, o) = p := Option.some.inj e
    subst e'
    exact ⟨hb, q⟩
theorem Inv.pinned {pins : List (Addr × Obj)} {σ : St} {H : Hp} {s : Shared} {fp : List Addr} (I : Inv X pins σ H s) (hf : ∀ b ∈ fp, FpOk X pins H b) (ho : ∀ b ∈ fp, ∃ o, s.heap.get? b = some o ∧ ∀ v, o.data ≠ .cell v) : Inv X (pins ++ pinsAt fp s.heap) σ H s :=
  I.pins_of fun p hp => (List.mem_append.mp hp).elim (fun z => I.pin p (List.mem_append_right _ z)) fun z => by
    obtain ⟨hb, e⟩ := of_pinsAt z
    obtain ⟨f0, f1, f2, _⟩ := hf p.1 hb
    obtain ⟨o, e', d⟩ := ho p.1 hb
    rw [e] at e'; cases e'
    exact ⟨e, f0, f1, f2, d⟩
theorem Inv.unpinned {pins pl : List (Addr × Obj)} {σ : St} {H : Hp} {s : Shared} (I : Inv X (pins ++ pl) σ H s) : Inv X pins σ H s := I.pins_of fun p hp => I.pin p (List.mem_append_right _ (List.mem_append_left _ hp))
theorem ps_for {iter : Expr} {body : List Stmt} {wi : TI} {g : TG} {tb : TS} {pos : Pos} (hp : PassesOwn (model X.prog X.w) X.A X.env X.xe) (hc : X.calm = true) (hi : PI X tg iter wi) (hg : PG X tg g) (hb : PSs X body tb)
    (hs : ∀ x, foldedSetIterable iter X.env x = pure x := by intro _; rfl) : PS X (.For tg iter body [] pos) (tFor wi g tb) := by
  intro pins s σ H D I h
  refine wpAny_For (thn (hi pins s σ H _ I h) fun v s1 h1 => thn h1 fun itv s2 h2 => ?_) hs
  obtain ⟨it, fp, tn, J, H2, e, I2, T, st2, f2, W, ⟨m0, w0⟩, turn⟩ := h2
  subst e
  -- what stays true of the iterator's objects through the loop
  have stat : ∀ {H' : Hp}, (∀ b ∈ fp, H' b = none) → ∀ b ∈ fp, FpOk X pins H' b := fun hn b hb => ⟨hn b hb, (f2 b hb).2⟩
  refine codeAny_forLoop_any (fun n s' => ∃ i σ' H', Inv X pins σ' H' s' ∧ tn i s'.heap ∧ (∀ b ∈ fp, H' b = none) ∧ W i n σ' H') ?_ m0 ⟨0, σ, H2, I2, st2, fun b hb => (f2 b hb).1, w0⟩
  rintro n s3 ⟨i, σ3, H3, I3, st3, fr3, w3⟩
  rcases turn i n σ3 H3 w3 with ⟨stop, qn⟩ | ⟨go, N, hN, step⟩
  · refine wpAny_passesOwn hp (thn (T.done X rfl rfl rfl hc i pins s3 σ3 H3 X.xe I3 (stat fr3) st3 stop) fun r s4 ⟨hr, I4⟩ => ?_)
    subst hr
    exact wpAny_execs_nil ⟨σ3, H3, I4, qn⟩
  · refine wpAny_passesOwn hp (thn (T.item X rfl rfl rfl hc i pins s3 σ3 H3 X.xe I3 (stat fr3) st3 go) fun r s4 ⟨u, hr, h4⟩ => ?_)
    subst hr
    refine wpAny_passesOwn hp (thn h4 fun _ s5 ⟨x, H5, I5, r5, y5, st5, fr5⟩ => ?_)
    have I5' := I5.pinned (stat fr5) (T.obj _ _ st5)
    refine wpAny_passesOwn hp (thn (hg _ s5 σ3 H5 x u _ I5' r5 (step x H5 y5)) fun _ s6 ⟨σ6, H6, I6, q6⟩ => ?_)
    refine wpAny_passesOwn hp (thn (hb _ s6 σ6 H6 _ I6 q6) fun f s7 q7 => ?_)
    have again : ∀ {σ7 : St} {H7 : Hp}, Inv X (pins ++ pinsAt fp s5.heap) σ7 H7 s7 → N σ7 H7 → ∃ m, m < n ∧ ∃ i σ' H', Inv X pins σ' H' s7 ∧ tn i s7.heap ∧ (∀ b ∈ fp, H' b = none) ∧ W i m σ' H' := fun {σ7 H7} I7 n7 => by
      obtain ⟨m', hm, w7⟩ := hN σ7 H7 n7
      refine ⟨m', hm, i + 1, σ7, H7, I7.unpinned, T.keep _ _ _ st5 fun b hb o e => (I7.pin (b, o) (List.mem_append_right _ (List.mem_append_right _ (mem_pinsAt hb e)))).1, fun b hb => ?_, w7⟩
      obtain ⟨o, e, d⟩ := T.obj _ _ st5 b hb
      exact (I7.pin (b, o) (List.mem_append_right _ (List.mem_append_right _ (mem_pinsAt hb e)))).2.1
    cases f with
    | next => obtain ⟨σ7, H7, I7, n7⟩ := q7; exact again I7 n7
    | cont => obtain ⟨σ7, H7, I7, n7⟩ := q7; exact again I7 n7
    | brk => obtain ⟨σ7, H7, I7, q7⟩ := q7; exact ⟨σ7, H7, I7.unpinned, q7⟩
    | ret v => obtain ⟨x7, σ7, H7, I7, r7, q7⟩ := q7; exact ⟨x7, σ7, H7, I7.unpinned, r7, q7⟩
end

/-! ### the forms one uses -/
/-- over a list that the body leaves as it is -/
theorem for_list {K : PySem.W.Frag} {a : Addr} {xs : List V} {g : TG} {tb : TS} {D : Ends} {σ : St} {H : Hp} (Pv : Nat → St → Hp → Prop) (h0 : Pv 0 σ H) (hl : ∀ i σ H, i ≤ xs.length → Pv i σ H → SqL K H a xs)
    (hs : ∀ i x σ H, xs[i]? = some x → Pv i σ H → g x σ H fun σ2 H2 => tb { D with nx := Pv (i + 1), ct := Pv (i + 1), bk := D.nx } σ2 H2) (hd : ∀ σ H, Pv xs.length σ H → D.nx σ H) :
    ∃ W : Nat → Nat → St → Hp → Prop, (∃ m, W 0 m σ H) ∧ ∀ i m σ H, W i m σ H →
      ((Itl K a).stop i H ∧ D.nx σ H) ∨ ((Itl K a).go i H ∧ ∃ N : St → Hp → Prop, (∀ σ' H', N σ' H' → ∃ m', m' < m ∧ W (i + 1) m' σ' H') ∧ ∀ x H', (Itl K a).yld i H x H' → g x σ H' fun σ2 H2 => tb { D with nx := N, ct := N, bk := D.nx } σ2 H2) := by
  refine ⟨fun i m σ H => m = xs.length - i ∧ i ≤ xs.length ∧ Pv i σ H, ⟨xs.length, by simp, Nat.zero_le _, h0⟩, ?_⟩
  rintro i m σ H ⟨rfl, hi, p⟩
  have q := hl i σ H hi p
  by_cases hlt : i < xs.length
  · refine .inr ⟨⟨xs, xs[i], q, by simp [hlt]⟩, Pv (i + 1), fun σ' H' p' => ⟨xs.length - (i + 1), by omega, rfl, hlt, p'⟩, fun x H' y => ?_⟩
    obtain ⟨e, y⟩ := y
    subst e
    exact hs i x σ _ (y xs q) p
  · have e : i = xs.length := by omega
    subst e
    exact .inl ⟨⟨xs, q, Nat.le_refl _⟩, hd σ H p⟩
theorem for_tup {K : PySem.W.Frag} {a : Addr} {xs : List V} {g : TG} {tb : TS} {D : Ends} {σ : St} {H : Hp} (Pv : Nat → St → Hp → Prop) (h0 : Pv 0 σ H) (hl : ∀ i σ H, i ≤ xs.length → Pv i σ H → SqT K H a xs)
    (hs : ∀ i x σ H, xs[i]? = some x → Pv i σ H → g x σ H fun σ2 H2 => tb { D with nx := Pv (i + 1), ct := Pv (i + 1), bk := D.nx } σ2 H2) (hd : ∀ σ H, Pv xs.length σ H → D.nx σ H) :
    ∃ W : Nat → Nat → St → Hp → Prop, (∃ m, W 0 m σ H) ∧ ∀ i m σ H, W i m σ H →
      ((Itt K a).stop i H ∧ D.nx σ H) ∨ ((Itt K a).go i H ∧ ∃ N : St → Hp → Prop, (∀ σ' H', N σ' H' → ∃ m', m' < m ∧ W (i + 1) m' σ' H') ∧ ∀ x H', (Itt K a).yld i H x H' → g x σ H' fun σ2 H2 => tb { D with nx := N, ct := N, bk := D.nx } σ2 H2) := by
  refine ⟨fun i m σ H => m = xs.length - i ∧ i ≤ xs.length ∧ Pv i σ H, ⟨xs.length, by simp, Nat.zero_le _, h0⟩, ?_⟩
  rintro i m σ H ⟨rfl, hi, p⟩
  have q := hl i σ H hi p
  by_cases hlt : i < xs.length
  · refine .inr ⟨⟨xs, xs[i], q, by simp [hlt]⟩, Pv (i + 1), fun σ' H' p' => ⟨xs.length - (i + 1), by omega, rfl, hlt, p'⟩, fun x H' y => ?_⟩
    obtain ⟨e, y⟩ := y
    subst e
    exact hs i x σ _ (y xs q) p
  · have e : i = xs.length := by omega
    subst e
    exact .inl ⟨⟨xs, q, Nat.le_refl _⟩, hd σ H p⟩
end L2

namespace L2
open PySem PySem.Spec PyProof.Rows

abbrev R2 := V → V → Hp → VK → Prop
/-- a two-place operation on values: f is binaryOp op, inplaceOp op or compareOp op -/
def OpR (X : Cx) (f : Value → Value → Sem Value) (r : R2) : Prop :=
  ∀ (pins : List (Addr × Obj)) (s : Shared) (σ : St) (H : Hp) (x y : V) (v u : Value) (Q : VK), Inv X pins σ H s → RelV x v → RelV y u → r x y H Q →
    wpAny (model X.prog X.w) X.A (f v u) (EP X pins σ Q) X.xe s
/-- a one-place operation -/
def UnR (X : Cx) (f : Value → Sem Value) (r : V → Hp → VK → Prop) : Prop :=
  ∀ (pins : List (Addr × Obj)) (s : Shared) (σ : St) (H : Hp) (x : V) (v : Value) (Q : VK), Inv X pins σ H s → RelV x v → r x H Q →
    wpAny (model X.prog X.w) X.A (f v) (EP X pins σ Q) X.xe s
/-- a call of a value that is known (a builtin, a type) with values -/
def CallR (X : Cx) (f : Value) (r : List V → Hp → VK → Prop) : Prop :=
  ∀ (pins : List (Addr × Obj)) (s : Shared) (σ : St) (H : Hp) (xs : List V) (us : List Value) (Q : VK), Inv X pins σ H s → Vals xs us → r xs H Q →
    wpAny (model X.prog X.w) X.A (call f us) (EP X pins σ Q) X.xe s
/-- a value's truth -/
def TruR (X : Cx) (r : V → Hp → (Bool → Hp → Prop) → Prop) : Prop :=
  ∀ (pins : List (Addr × Obj)) (s : Shared) (σ : St) (H : Hp) (x : V) (v : Value) (Q : Bool → Hp → Prop), Inv X pins σ H s → RelV x v → r x H Q →
    wpAny (model X.prog X.w) X.A (truthy v) (TP X pins σ Q) X.xe s

def tOp (r : R2) (ta tb : TE) : TE := fun σ H Q => ta σ H fun x H1 => tb σ H1 fun y H2 => r x y H2 Q
def tUn (r : V → Hp → VK → Prop) (ta : TE) : TE := fun σ H Q => ta σ H fun x H1 => r x H1 Q
/-- ints in, under C, and a value out -/
def rI (C : Int → Int → Prop) (g : Int → Int → V) : R2 := fun x y H Q => ∃ i j, x = .int i ∧ y = .int j ∧ C i j ∧ Q (g i j) H
def rI0 (g : Int → Int → V) : R2 := fun x y H Q => ∃ i j, x = .int i ∧ y = .int j ∧ Q (g i j) H
section
variable {X : Cx} {a b c : Expr} {ta tb tc : TE} {pos : Pos}

theorem binT (ha : PE X a ta) (hb : PE X b tb) {pins : List (Addr × Obj)} {s : Shared} {σ : St} {H : Hp} {R : V → V → Hp → Prop} (I : Inv X pins σ H s)
    (h : ta σ H fun x H1 => tb σ H1 fun y H2 => R x y H2) {Q : Value → Shared → Prop} {f : Value → Value → Sem Value}
    (hf : ∀ v u s2 x y H2, Inv X pins σ H2 s2 → RelV x v → RelV y u → R x y H2 → wpAny (model X.prog X.w) X.A (f v u) Q X.xe s2) :
    wpAny (model X.prog X.w) X.A (eval a X.env) (fun v s₁ => wpAny (model X.prog X.w) X.A (eval b X.env) (fun u s₂ => wpAny (model X.prog X.w) X.A (f v u) Q X.xe s₂) X.xe s₁) X.xe s := by
  refine thn (ha pins s σ H _ I h) fun v s1 ⟨x, H1, I1, r1, q1⟩ => ?_
  refine thn (hb pins s1 σ H1 _ I1 q1) fun u s2 ⟨y, H2, I2, r2, q2⟩ => ?_
  exact hf v u s2 x y H2 I2 r1 r2 q2

theorem pe_op {op : Operator} {r : R2} (ho : OpR X (binaryOp op) r) (ha : PE X a ta) (hb : PE X b tb) : PE X (.BinOp a op b pos) (tOp r ta tb) := by
  intro pins s σ H Q I h
  exact wpAny_BinOp (binT ha hb I h fun v u s2 x y H2 I2 rx ry q => ho pins s2 σ H2 x y v u Q I2 rx ry q)
theorem pe_un {op : UnaryOp} {r : V → Hp → VK → Prop} (ho : UnR X (unaryOp op) r) (ha : PE X a ta) : PE X (.UnaryOp op a pos) (tUn r ta) := by
  intro pins s σ H Q I h
  exact UnaryOp_ (thn (ha pins s σ H _ I h) fun v s1 ⟨x, H1, I1, r1, q1⟩ => ho pins s1 σ H1 x v Q I1 r1 q1)
/-! ### ints -/
theorem opI {f : Value → Value → Sem Value} {C : Int → Int → Prop} {g : Int → Int → Int}
    (rule : ∀ (i j : Int) (t u : Tok) (s : Shared) (Q : Value → Shared → Prop) (E : Value → Shared → Prop), C i j → Q (.int (g i j) s.toks) { s with toks := s.toks + 1 } → wpAny (model X.prog X.w) X.A (f (.int i t) (.int j u)) Q E s) :
    OpR X f (rI C fun i j => .int (g i j)) := by
  intro pins s σ H x y v u Q I rx ry h
  obtain ⟨i, j, rfl, rfl, hc, q⟩ := h
  obtain ⟨t, rfl⟩ := rx
  obtain ⟨t', rfl⟩ := ry
  exact rule i j t t' s _ _ hc ⟨.int (g i j), H, I.tok _, ⟨_, rfl⟩, q⟩
theorem opI0 {f : Value → Value → Sem Value} {g : Int → Int → Int}
    (rule : ∀ (i j : Int) (t u : Tok) (s : Shared) (Q : Value → Shared → Prop) (E : Value → Shared → Prop), Q (.int (g i j) s.toks) { s with toks := s.toks + 1 } → wpAny (model X.prog X.w) X.A (f (.int i t) (.int j u)) Q E s) :
    OpR X f (rI0 fun i j => .int (g i j)) := by
  intro pins s σ H x y v u Q I rx ry h
  obtain ⟨i, j, rfl, rfl, q⟩ := h
  obtain ⟨t, rfl⟩ := rx
  obtain ⟨t', rfl⟩ := ry
  exact rule i j t t' s _ _ ⟨.int (g i j), H, I.tok _, ⟨_, rfl⟩, q⟩
theorem opB0 {f : Value → Value → Sem Value} {g : Int → Int → Bool}
    (rule : ∀ (i j : Int) (t u : Tok) (s : Shared) (Q : Value → Shared → Prop) (E : Value → Shared → Prop), Q (.bool (g i j)) s → wpAny (model X.prog X.w) X.A (f (.int i t) (.int j u)) Q E s) :
    OpR X f (rI0 fun i j => .bl (g i j)) := by
  intro pins s σ H x y v u Q I rx ry h
  obtain ⟨i, j, rfl, rfl, q⟩ := h
  obtain ⟨t, rfl⟩ := rx
  obtain ⟨t', rfl⟩ := ry
  exact rule i j t t' s _ _ ⟨.bl (g i j), H, I, rfl, q⟩

def CMul (i j : Int) : Prop := (-(2 ^ 64) < i ∧ i < 2 ^ 64) ∨ (-(2 ^ 64) < j ∧ j < 2 ^ 64)
theorem CMul.ok {i j : Int} (h : CMul i j) : IntMulOk i j := by
  rcases h with ⟨h1, h2⟩ | ⟨h1, h2⟩
  · exact .of_left (intBits_le_64 h1 h2)
  · exact .of_right (intBits_le_64 h1 h2)
theorem op_add : OpR X (binaryOp .Add) (rI0 fun i j => .int (i + j)) := opI0 fun _ _ _ _ _ _ _ q => add_int q
theorem op_mul : OpR X (binaryOp .Mult) (rI CMul fun i j => .int (i * j)) := opI fun _ _ _ _ _ _ _ hc q => mul_int q hc.ok
/-- % by a positive divisor of any size -/
theorem op_mod : OpR X (binaryOp .Mod) (rI (fun _ j => 0 < j) fun i j => .int (i % j)) := opI fun i j _ _ _ _ _ hc q => by
  have h1 : (0 : Int) < j := hc
  exact mod_int' (by omega) (by rw [Int.fmod_eq_emod_of_nonneg i (by omega)]; exact q)
/-! ### bools among ints: n += (a < b) -/
end

/-! ### comparisons -/
/-- the scalars that == tells apart as data does -/
def scal : V → V → Bool
  | .non, .non => true | .non, .int _ => true | .int _, .non => true | .non, .bl _ => true | .bl _, .non => true | .non, .str _ => true | .str _, .non => true
  | .int _, .int _ => true | .bl _, .bl _ => true | .str _, .str _ => true | .byt _, .byt _ => true
  | .int _, .str _ => true | .str _, .int _ => true | .bl _, .str _ => true | .str _, .bl _ => true
  | _, _ => false
def rEq : R2 := fun x y H Q => scal x y = true ∧ Q (.bl (decide (x = y))) H
theorem dec_int {i j : Int} : decide (V.int i = V.int j) = (i == j) := by
  rw [Bool.eq_iff_iff]
  simp
theorem dec_bl {i j : Bool} : decide (V.bl i = V.bl j) = (i == j) := by
  rw [Bool.eq_iff_iff]
  simp
theorem dec_str {i j : Str} : decide (V.str i = V.str j) = (i == j) := by
  rw [Bool.eq_iff_iff]
  simp
theorem dec_byt {i j : Array UInt8} : decide (V.byt i = V.byt j) = (i.toList == j.toList) := by
  rw [Bool.eq_iff_iff]
  cases i
  cases j
  simp

section
variable {X : Cx} {a b c : Expr} {ta tb tc : TE} {pos : Pos}
theorem fin_bl {pins : List (Addr × Obj)} {σ : St} {H : Hp} {s : Shared} {Q : VK} {k k' : Bool} (I : Inv X pins σ H s) (q : Q (.bl k) H) (e : k = k') : EP X pins σ Q (.bool k') s := by
  subst e
  exact ⟨.bl k, H, I, rfl, q⟩
theorem op_eq : OpR X (compareOp .Eq) rEq := by
  intro pins s σ H x y v u Q I rx ry h
  obtain ⟨hs, q⟩ := h
  cases x with
  | non =>
    cases rx
    cases y with
    | non => cases ry; exact PySem.EqNone.eq_none_none (fin_bl I q (by simp))
    | bl j => cases ry; exact PySem.EqNone.eq_none_bool (fin_bl I q (by simp))
    | int j => obtain ⟨t', rfl⟩ := ry; exact PySem.EqNone.eq_none_int (fin_bl I q (by simp))
    | str j => obtain ⟨t', rfl⟩ := ry; exact PySem.EqNone.eq_none_str (fin_bl I q (by simp))
    | _ => exact absurd (show false = true from hs) Bool.false_ne_true
  | bl i =>
    cases rx
    cases y with
    | non => cases ry; exact PySem.EqNone.eq_bool_none (fin_bl I q (by simp))
    | bl j => cases ry; exact eq_bool (fin_bl I q dec_bl)
    | str j => obtain ⟨t', rfl⟩ := ry; exact PySem.EqMixed.eq_bool_str (fin_bl I q (by simp))
    | _ => exact absurd (show false = true from hs) Bool.false_ne_true
  | int i =>
    obtain ⟨t, rfl⟩ := rx
    cases y with
    | non => cases ry; exact PySem.EqNone.eq_int_none (fin_bl I q (by simp))
    | int j => obtain ⟨t', rfl⟩ := ry; exact eq_int (fin_bl I q dec_int)
    | str j => obtain ⟨t', rfl⟩ := ry; exact PySem.EqMixed.eq_int_str (fin_bl I q (by simp))
    | _ => exact absurd (show false = true from hs) Bool.false_ne_true
  | str i =>
    obtain ⟨t, rfl⟩ := rx
    cases y with
    | non => cases ry; exact PySem.EqNone.eq_str_none (fin_bl I q (by simp))
    | bl j => cases ry; exact PySem.EqMixed.eq_str_bool (fin_bl I q (by simp))
    | int j => obtain ⟨t', rfl⟩ := ry; exact PySem.EqMixed.eq_str_int (fin_bl I q (by simp))
    | str j => obtain ⟨t', rfl⟩ := ry; exact eq_str (fin_bl I q dec_str)
    | _ => exact absurd (show false = true from hs) Bool.false_ne_true
  | byt i =>
    obtain ⟨t, rfl⟩ := rx
    cases y with
    | byt j => obtain ⟨t', rfl⟩ := ry; exact PySem.W.eq_bytes (fin_bl I q dec_byt)
    | _ => exact absurd (show false = true from hs) Bool.false_ne_true
  | _ => cases y <;> exact absurd (show false = true from hs) Bool.false_ne_true
theorem op_lt : OpR X (compareOp .Lt) (rI0 fun i j => .bl (decide (i < j))) := opB0 fun _ _ _ _ _ _ _ q => lt_int q
theorem op_le : OpR X (compareOp .LtE) (rI0 fun i j => .bl (decide (i ≤ j))) := opB0 fun _ _ _ _ _ _ _ q => le_int q
theorem op_gt : OpR X (compareOp .Gt) (rI0 fun i j => .bl (decide (j < i))) := opB0 fun _ _ _ _ _ _ _ q => gt_int q
theorem op_notin_str : OpR X (compareOp .NotIn) (fun x y H Q => ∃ i j, x = .str i ∧ y = .str j ∧ Q (.bl (!(!(Builtin.Str.occurrences j i 0 j.length 1).isEmpty))) H) := by
  intro pins s σ H x y v u Q I rx ry h
  obtain ⟨i, j, rfl, rfl, q⟩ := h
  obtain ⟨t, rfl⟩ := rx
  obtain ⟨t', rfl⟩ := ry
  exact notIn_str (fin_bl I q rfl)
theorem nomark (b : Expr) {op : CmpOp} (h : op ≠ .In := by decide) (h2 : op ≠ .NotIn := by decide) : behindInMarks op b = false := by
  have e1 : (op == CmpOp.In) = false := by cases op <;> first | rfl | exact absurd rfl h
  have e2 : (op == CmpOp.NotIn) = false := by cases op <;> first | rfl | exact absurd rfl h2
  cases b <;> simp [behindInMarks, e1, e2]
/-- a comparison as a value; hm: nomark b, or (for in, not in) by with_unfolding_all rfl -/
theorem pe_cmpR {op : CmpOp} {r : R2} (ho : OpR X (compareOp op) r) (ha : PE X a ta) (hb : PE X b tb) (hm : behindInMarks op b = false) : PE X (.Compare a [op] [b] pos) (tOp r ta tb) := by
  intro pins s σ H Q I h
  exact wpAny_Compare1 (binT ha hb I h fun v u s2 x y H2 I2 rx ry q => ho pins s2 σ H2 x y v u Q I2 rx ry q) hm
/-- a reading of a value as a test -/
def tTest (t : TE) : TT := fun σ H Q => t σ H fun x H' => ∃ k, x = .bl k ∧ Q k H'
theorem pt_cmpR {op : CmpOp} {r : R2} (ho : OpR X (compareOp op) r) (ha : PE X a ta) (hb : PE X b tb) (hm : behindInMarks op b = false) : PT X (.Compare a [op] [b] pos) (tTest (tOp r ta tb)) := by
  intro pins s σ H Q I h
  refine wpAny_isTrue_Compare1 (thn (ha pins s σ H _ I h) fun v s1 ⟨x, H1, I1, r1, q1⟩ => thn (hb pins s1 σ H1 _ I1 q1) fun u s2 ⟨y, H2, I2, r2, q2⟩ =>
    thn (ho pins s2 σ H2 x y v u _ I2 r1 r2 q2) fun c s3 ⟨z, H3, I3, r3, k, e, q3⟩ => ?_) hm
  subst e
  cases r3
  exact wpAny_truthy_bool ⟨H3, I3, q3⟩
/-- a op1 b op2 c -/
def tChain (r r' : R2) (ta tb tc : TE) : TE := fun σ H Q => ta σ H fun x H1 => tb σ H1 fun y H2 => r x y H2 fun z H3 => ∃ k, z = .bl k ∧
  (if k = true then tc σ H3 fun w' H4 => r' y w' H4 Q else Q (.bl false) H3)
theorem pt_chain {op op' : CmpOp} {r r' : R2} (ho : OpR X (compareOp op) r) (ho' : OpR X (compareOp op') r') (ha : PE X a ta) (hb : PE X b tb) (hc : PE X c tc)
    (hm : lastMarks [op, op'] [b, c] = false := by with_unfolding_all rfl) : PT X (.Compare a [op, op'] [b, c] pos) (tTest (tChain r r' ta tb tc)) := by
  intro pins s σ H Q I h
  refine isTrue_chain (thn (ha pins s σ H _ I h) fun v s1 ⟨x, H1, I1, r1, q1⟩ => test_link (thn (hb pins s1 σ H1 _ I1 q1) fun u s2 ⟨y, H2, I2, r2, q2⟩ =>
    thn (ho pins s2 σ H2 x y v u _ I2 r1 r2 q2) fun d s3 ⟨z, H3, I3, r3, k, e, q3⟩ => ?_)) hm
  subst e
  cases r3
  refine wpAny_truthy_bool ?_
  cases k with
  | false =>
    obtain ⟨k', e', q'⟩ := q3
    cases e'
    exact ite_ff ⟨H3, I3, q'⟩
  | true =>
    refine ite_tt (test_last (thn (hc pins s3 σ H3 _ I3 q3) fun w' s4 ⟨z', H4, I4, r4, q4⟩ => thn (ho' pins s4 σ H4 y z' u w' _ I4 r2 r4 q4) fun d' s5 ⟨z2, H5, I5, r5, k2, e2, q5⟩ => ?_))
    subst e2
    cases r5
    exact wpAny_truthy_bool ⟨H5, I5, q5⟩

/-! ### truth -/
/-- a value's truth by the abstract heap -/
def TruV (K : PySem.W.Frag) (x : V) (H : Hp) (k : Bool) : Prop :=
  match x with
  | .non => k = false
  | .bl b => k = b
  | .int i => k = (i != 0)
  | .str y => y.length ≤ sizeLine ∧ k = ((y.length : Int) != 0)
  | .byt y => y.size ≤ sizeLine ∧ k = ((y.size : Int) != 0)
  | .ref p => (∃ xs, SqL K H p xs ∧ k = !xs.isEmpty) ∨ (∃ xs, SqT K H p xs ∧ k = !xs.isEmpty) ∨ ∃ kvs, H p = some (.dK kvs) ∧ k = !kvs.isEmpty
  | _ => False
theorem isEmpty_kv {κ : Type} {kvs : List (κ × V)} {vs : List (κ × Value)} (r : KV kvs vs) : (!vs.isEmpty) = !kvs.isEmpty := by
  cases r <;> rfl
theorem isEmpty_of {xs : List V} {its : List Value} (r : Vals xs its) : (!its.toArray.isEmpty) = !xs.isEmpty := by
  cases r <;> simp
theorem line63 : (sizeLine : Nat) < 2 ^ 63 := by rw [sizeLine_eq]; decide
theorem tru_ok : TruR X (fun x H Q => ∃ k, TruV X.K x H k ∧ Q k H) := by
  intro pins s σ H x v Q I rx h
  obtain ⟨k, e, q⟩ := h
  have hl := line63
  have hs : sizeLine = 16777216 := sizeLine_eq
  cases x with
  | non =>
    cases rx
    have e' : k = false := e
    subst e'
    exact truthy_none ⟨H, I, q⟩
  | bl b =>
    cases rx
    have e' : k = b := e
    subst e'
    exact wpAny_truthy_bool ⟨H, I, q⟩
  | int i =>
    obtain ⟨t, rfl⟩ := rx
    have e' : k = (i != 0) := e
    subst e'
    exact PySem.P.truthy_int ⟨H, I, q⟩
  | str y =>
    obtain ⟨t, rfl⟩ := rx
    obtain ⟨hy, e'⟩ : y.length ≤ sizeLine ∧ k = ((y.length : Int) != 0) := e
    subst e'
    exact PySem.P.truthy_str (by omega) ⟨H, I.tok _, q⟩
  | byt y =>
    obtain ⟨t, rfl⟩ := rx
    obtain ⟨hy, e'⟩ : y.size ≤ sizeLine ∧ k = ((y.size : Int) != 0) := e
    subst e'
    exact PySem.W.truthy_bytes (by omega) ⟨H, I.tok _, q⟩
  | ref p =>
    cases rx
    have e' : (∃ xs, SqL X.K H p xs ∧ k = !xs.isEmpty) ∨ (∃ xs, SqT X.K H p xs ∧ k = !xs.isEmpty) ∨ ∃ kvs, H p = some (.dK kvs) ∧ k = !kvs.isEmpty := e
    rcases e' with ⟨xs, hx, e'⟩ | ⟨xs, hx, e'⟩ | ⟨kvs, hx, e'⟩
    · subst e'
      obtain ⟨its, r, pl, hz⟩ := I.list hx
      have hlen := r.length
      exact wpAny_truthy_list pl.isList (by simp only [List.size_toArray]; omega) ⟨H, I.tok _, by rw [isEmpty_of r]; exact q⟩
    · subst e'
      obtain ⟨its, r, pl, hz⟩ := I.tuple hx
      have hlen := r.length
      exact truthy_tuple pl (by simp only [List.size_toArray]; omega) ⟨H, I.tok _, by rw [isEmpty_of r]; exact q⟩
    · subst e'
      obtain ⟨hz, hS, vs, r, m⟩ : kvs.length ≤ sizeLine ∧ (p == sysModules) = false ∧ ∃ vs, KV kvs vs ∧ s.heap.DictOf (mixKind X.prog X.w) p vs := I.hok p _ hx
      have hlen : kvs.length = vs.length := Paired.length r
      exact wpAny_truthy_dict hS m (by omega) ⟨H, I.tok _, by rw [isEmpty_kv r]; exact q⟩
  | _ => exact (show False from e).elim
/-- any expression whose test is its value's truth (a name, a call, a subscript, a field ..: he by fun _ => rfl) -/
theorem pt_truth (ha : PE X a ta) (he : ∀ whole, isTrue a X.env whole = (do let v ← whole; standAt a.pos; holding [v] (truthy v))) :
    PT X a (fun σ H Q => ta σ H fun x H' => ∃ k, TruV X.K x H' k ∧ Q k H') := by
  intro pins s σ H Q I h
  exact isTrue_plain (thn (ha pins s σ H _ I h) fun v s1 ⟨x, H1, I1, r1, q1⟩ => tru_ok pins s1 σ H1 x v Q I1 r1 q1) (he _)

/-! ### strs and bytes -/
theorem op_add_str : OpR X (binaryOp .Add) (fun x y H Q => ∃ i j, x = .str i ∧ y = .str j ∧ i.length + j.length ≤ sizeLine ∧ Q (.str (i ++ j)) H) := by
  intro pins s σ H x y v u Q I rx ry h
  obtain ⟨i, j, rfl, rfl, hz, q⟩ := h
  obtain ⟨t, rfl⟩ := rx
  obtain ⟨t', rfl⟩ := ry
  exact add_str (fun t' tk => ⟨.str (i ++ j), H, I.tok _, ⟨_, rfl⟩, q⟩) hz
/-! ### scalar builtins, by CallR -/
theorem vals1 {x : V} {us : List Value} (r : Vals [x] us) : ∃ u, us = [u] ∧ RelV x u := by
  cases r with
  | cons r1 r2 => cases r2; exact ⟨_, rfl, r1⟩
theorem vals2 {x y : V} {us : List Value} (r : Vals [x, y] us) : ∃ u w', us = [u, w'] ∧ RelV x u ∧ RelV y w' := by
  cases r with
  | cons r1 r2 =>
    cases r2 with
    | cons r3 r4 => cases r4; exact ⟨_, _, rfl, r1, r3⟩
theorem call_str_int : CallR X (.type "str") (fun xs H Q => ∃ i, xs = [.int i] ∧ i.natAbs.log2 < 1920 ∧ Q (.str (toString i)) H) := by
  intro pins s σ H xs us Q I r h
  obtain ⟨i, rfl, hz, q⟩ := h
  obtain ⟨u, rfl, t, rfl⟩ := vals1 r
  exact PySem.P.str_of_int hz ⟨.str _, H, I.tok _, ⟨_, rfl⟩, q⟩
/-- len of a str, a bytes, a list, a tuple -/
def LenV (K : PySem.W.Frag) (x : V) (H : Hp) (n : Nat) : Prop :=
  match x with
  | .str y => y.length ≤ sizeLine ∧ n = y.length
  | .byt y => y.size ≤ sizeLine ∧ n = y.size
  | .ref p => (∃ xs, SqL K H p xs ∧ n = xs.length) ∨ ∃ xs, SqT K H p xs ∧ n = xs.length
  | _ => False
theorem call_len : CallR X (.builtin "len") (fun xs H Q => ∃ x n, xs = [x] ∧ LenV X.K x H n ∧ Q (.int n) H) := by
  intro pins s σ H xs us Q I r h
  obtain ⟨x, n, rfl, e, q⟩ := h
  obtain ⟨u, rfl, rx⟩ := vals1 r
  have hl := line63
  have hs : sizeLine = 16777216 := sizeLine_eq
  cases x with
  | str y =>
    obtain ⟨t, rfl⟩ := rx
    obtain ⟨hy, e'⟩ : y.length ≤ sizeLine ∧ n = y.length := e
    subst e'
    exact len_str (by omega) ⟨.int _, H, I.tok _, ⟨_, rfl⟩, q⟩
  | byt y =>
    obtain ⟨t, rfl⟩ := rx
    obtain ⟨hy, e'⟩ : y.size ≤ sizeLine ∧ n = y.size := e
    subst e'
    exact PySem.W.len_bytes (by omega) ⟨.int _, H, I.tok _, ⟨_, rfl⟩, q⟩
  | ref p =>
    cases rx
    have e' : (∃ xs, SqL X.K H p xs ∧ n = xs.length) ∨ ∃ xs, SqT X.K H p xs ∧ n = xs.length := e
    rcases e' with ⟨xs, hx, e'⟩ | ⟨xs, hx, e'⟩
    · subst e'
      obtain ⟨its, r', pl, hz⟩ := I.list hx
      have hlen := r'.length
      exact Calls.call_len_list pl.isList (by simp only [List.size_toArray]; omega) ⟨.int xs.length, H, I.tok _, ⟨_, by simp only [List.size_toArray]; rw [hlen]⟩, q⟩
    · subst e'
      obtain ⟨its, r', pl, hz⟩ := I.tuple hx
      have hlen := r'.length
      exact len_tuple pl (by simp only [List.size_toArray]; omega) ⟨.int xs.length, H, I.tok _, ⟨_, by simp only [List.size_toArray]; rw [hlen]⟩, q⟩
  | _ => exact (show False from e).elim
end
end L2

namespace L2
open PySem PySem.Spec PyProof.Rows

/-! ### an instance, its attributes a map -/
structure ObjM (h : Heap) (x dx C : Addr) (mA : Str → Option Value) : Prop where
  obj : h.get? x = some (PySem.W.instObj C dx)
  ns : h.Ns1 dx mA
  ne : dx ≠ x

theorem lookIn_ns {h : Heap} {dx : Addr} {mA : Str → Option Value} (n : h.Ns1 dx mA) : ∃ od, h.get? dx = some od ∧ ∀ name, PySem.W.lookIn name od = some (mA name) := by
  obtain ⟨o, es, ep, ho, hd, hk, _, hm⟩ := n
  refine ⟨o, ho, fun name => ?_⟩
  have e := hm name
  unfold nsFind findBy at e
  rw [← Array.find?_toList] at e
  unfold PySem.W.lookIn
  rw [hd]
  dsimp only
  split
  · rename_i y q
    rw [q] at e
    exact congrArg some e
  · rename_i q
    rw [q] at e
    have a : es.toList.any (·.refKey) = false := by
      rw [List.any_eq_false]
      intro y hy
      obtain ⟨z, t, hkey⟩ := hk y (Array.mem_toList_iff.mp hy)
      simp [DictEntry.refKey, hkey]
    have a' : ¬ es.toList.any (·.refKey) = true := by rw [a]; exact Bool.false_ne_true
    rw [if_neg a']
    exact congrArg some e

theorem ObjM.look {h : Heap} {x dx C : Addr} {mA : Str → Option Value} (I : ObjM h x dx C mA) : ∃ od, PySem.W.InstAt h x (PySem.W.instObj C dx) C (some od) ∧ ∀ name, PySem.W.lookIn name od = some (mA name) :=
  let ⟨od, ho, hl⟩ := lookIn_ns I.ns
  ⟨od, ⟨I.obj, rfl, rfl, ho⟩, hl⟩

section
variable {prog : Program} {w : World} {A : Around} {E : Value → Shared → Prop} {s : Shared} {K : PySem.W.Frag} {x dx C f : Addr} {mA : Str → Option Value} {name : Str} {v : Value}

end

/-! ### the attributes as a list of pairs -/
section
variable {P : Program} {w : World} {H H' : Hp} {h h' : Heap} {a C dx : Addr} {fs fs' : List (Str × V)}
theorem ins_get (hok : HOk P w H h) (e : H a = some (.ins C dx fs)) : ∃ mA, ObjM h a dx C mA ∧ (∀ f, RelO (fs.lookup f) (mA f)) ∧ PySem.Within mA (fs.map (·.1)) ∧ fs.length ≤ 1000 ∧ H dx = some (.own a) := by
  obtain ⟨d, z, ne, ob, mA, n, r, q⟩ := (show ObjOk P w H h a (.ins C dx fs) from hok a _ e)
  exact ⟨mA, ⟨ob, n, ne⟩, r, q, z, d⟩
end

/-! ### what of the text a class must have -/
structure Cls (K : PySem.W.Frag) (C : Addr) : Prop where
  pg : PySem.W.plainGet K C Str.empty = true
  hd : PySem.W.hasDictIn K C = true
  po : PySem.W.plainOver K C = true
  sa : PySem.W.findIn K (.ref C) "__setattr__" = some (some (.builtin "object.__setattr__"))
theorem Cls.get {K : PySem.W.Frag} {C : Addr} (c : Cls K C) (f : Str) : PySem.W.plainGet K C f = true := c.pg
section
variable {X : Cx} {pins : List (Addr × Obj)} {σ : St} {H : Hp} {s : Shared} {a C dx : Addr} {fs : List (Str × V)} {f : Str} {v : V} {A : Around} {E : Value → Shared → Prop}

end

/-! ### readings and rules -/
section
variable {X : Cx} {o e value : Expr} {f : Str} {pos pos' tpos : Pos} {ta tv : TE}
end

/-! ### isinstance -/
section
variable {X : Cx} {pins : List (Addr × Obj)} {σ : St} {H : Hp} {s : Shared} {A : Around} {E : Value → Shared → Prop} {Q : Value → Shared → Prop} {c : Value} {b : Bool}
/-- the type of a value, as the fragment's deciders take it; for an instance its class -/
inductive TyOf (K : PySem.W.Frag) (H : Hp) : V → Value → Prop where
  | non : TyOf K H .non (.type "NoneType")
  | bl (x : Bool) : TyOf K H (.bl x) (.type "bool")
  | int (i : Int) : TyOf K H (.int i) (.type "int")
  | str (x : Str) : TyOf K H (.str x) (.type "str")
  | flt (x : UInt64) : TyOf K H (.flt x) (.type "float")
  | lst {a : Addr} {xs : List V} (e : H a = some (.lst xs)) : TyOf K H (.ref a) (.type "list")
  | frz {a : Addr} {o : Obj} {xs : List V} (e : H a = some (.frz o (.lst xs))) : TyOf K H (.ref a) (.type "list")
  | tup {a : Addr} {xs : List V} (e : H a = some (.tup xs)) : TyOf K H (.ref a) (.type "tuple")
  | dK {a : Addr} {kvs : List (Key × V)} (e : H a = some (.dK kvs)) : TyOf K H (.ref a) (.type "dict")
  | dT {a : Addr} {kvs : List (List Key × V)} (e : H a = some (.dT kvs)) : TyOf K H (.ref a) (.type "dict")
  | ins {a C dx : Addr} {fs : List (Str × V)} (e : H a = some (.ins C dx fs)) (cl : Cls K C) (ha : PySem.W.findIn K (.ref C) "__class__" = some (some (.builtin "object.__class__")))
      (hn : PySem.W.specialIn K (.builtin "object.__class__") "__get__" = some (some (.builtin "getset_descriptor.__get__"))) (htk : PySem.W.takesIn K (.builtin "object.__class__") = some true)
      (hm : PySem.W.mroIn K C (.type "object") = some true) : TyOf K H (.ref a) (.ref C)
/-- isinstance(x, c) for one class c, a built-in or an own one: kitOne's answer -/
theorem isinst_ok {x : V} {u t : Value} (I : Inv X pins σ H s) (rx : RelV x u) (ty : TyOf X.K H x t) (e : PySem.W.kitOne X.K t c = some b) (h : ∀ tk, Q (.bool b) { s with toks := tk }) :
    wpAny (model X.prog X.w) A (call (.builtin "isinstance") [u, c]) Q E s := by
  cases ty with
  | non => cases (show u = Value.none from rx); exact PySem.W.kia_one PySem.W.kitx_none I.kIn True.intro e (fun z => nomatch z) h
  | bl y => cases (show u = Value.bool y from rx); exact PySem.W.kia_one PySem.W.kitx_bool I.kIn True.intro e (fun z => nomatch z) h
  | int i => obtain ⟨t, q⟩ := (show ∃ t, u = Value.int i t from rx); cases q; exact PySem.W.kia_one PySem.W.kitx_int I.kIn True.intro e (fun z => nomatch z) h
  | str y => obtain ⟨t, q⟩ := (show ∃ t, u = Value.str y t from rx); cases q; exact PySem.W.kia_one PySem.W.kitx_str I.kIn True.intro e (fun z => nomatch z) h
  | flt y => obtain ⟨t, q⟩ := (show ∃ t, u = Value.float y t from rx); cases q; exact PySem.W.kia_one PySem.W.kitx_float I.kIn True.intro e (fun z => nomatch z) h
  | @lst a xs ea =>
    cases (show u = Value.ref a from rx)
    obtain ⟨_, _, n, _, h1⟩ := (show ObjOk X.prog X.w H s.heap a (.lst xs) from I.hok a _ ea)
    exact PySem.W.kia_one PySem.W.kitx_list I.kIn ⟨_, h1, rfl⟩ e (fun z => nomatch z) h
  | @frz a ob xs ea =>
    cases (show u = Value.ref a from rx)
    obtain ⟨_, _, _, n, _, h1⟩ := (show ObjOk X.prog X.w H s.heap a (.frz ob (.lst xs)) from I.hok a _ ea)
    exact PySem.W.kia_one PySem.W.kitx_list I.kIn ⟨_, h1, rfl⟩ e (fun z => nomatch z) h
  | @tup a xs ea =>
    cases (show u = Value.ref a from rx)
    obtain ⟨_, _, _, p⟩ := (show ObjOk X.prog X.w H s.heap a (.tup xs) from I.hok a _ ea)
    obtain ⟨o, h1, h2, _⟩ := p
    exact PySem.W.kia_one PySem.W.kitx_tuple I.kIn ⟨o, h1, h2⟩ e (fun z => nomatch z) h
  | @dK a kvs ea =>
    cases (show u = Value.ref a from rx)
    obtain ⟨_, _, vs, _, p⟩ := (show ObjOk X.prog X.w H s.heap a (.dK kvs) from I.hok a _ ea)
    obtain ⟨o, es, ep, h1, h2, _⟩ := p
    exact PySem.W.kia_one PySem.W.kitx_dict I.kIn ⟨o, h1, h2.1⟩ e (fun z => nomatch z) h
  | @dT a kvs ea =>
    cases (show u = Value.ref a from rx)
    obtain ⟨_, _, xs, _, o, es, ep, h1, h2, _⟩ := (show ObjOk X.prog X.w H s.heap a (.dT kvs) from I.hok a _ ea)
    exact PySem.W.kia_one PySem.W.kitx_dict I.kIn ⟨o, h1, h2.1⟩ e (fun z => nomatch z) h
  | @ins a C dx fs ea cl ha hn htk hm =>
    cases (show u = Value.ref a from rx)
    obtain ⟨mA, O, _⟩ := ins_get I.hok ea
    obtain ⟨od, J, _⟩ := O.look
    exact PySem.W.kia_one (PySem.W.kitx_own (cl.get _) cl.hd ha hn htk hm) I.kIn J e (fun z => nomatch z) h
end
end L2

namespace L2
open PySem PySem.Spec PyProof.Rows

/-! ### room -/
structure Room (k : Nat) (A : Around) : Prop where
  hd : A.handled = none
  dp : A.depth + 3 * k + 5 < recursionLimit
  un : A.units + 16 * k + 200 < cLine
theorem Room.mono {j k : Nat} {A : Around} (r : Room k A) (h : j ≤ k) : Room j A := ⟨r.hd, by have := r.dp; omega, by have := r.un; omega⟩
theorem Room.deeper {k : Nat} {A : Around} (r : Room (k + 1) A) (env : Env) : Room k (A.deeper env) :=
  ⟨r.hd, by have := r.dp; show A.depth + 1 + 3 * k + 5 < _; omega, by have := r.un; show A.units + 3 + 16 * k + 200 < _; omega⟩
theorem Room.depth {k : Nat} {A : Around} (r : Room k A) : A.depth < recursionLimit := by have := r.dp; omega
theorem Room.units0 {k : Nat} {A : Around} (r : Room k A) : A.units < cLine := by have := r.un; omega

/-! ### argument lists and displays -/
def tNil : TA := fun _ H Q => Q [] H
def tCons (ta : TE) (tr : TA) : TA := fun σ H Q => ta σ H fun x H1 => tr σ H1 fun xs H2 => Q (x :: xs) H2
section
variable {X : Cx} {e : Expr} {es : List Expr} {te : TE} {t : TA} {pos : Pos}
theorem pa_nil : PA X [] tNil := fun _ _ _ _ H Q I h => Calls.spliced_nil ⟨[], H, I, .nil, h⟩
theorem pa_cons (ha : PE X e te) (hr : PA X es t) (hs : starEach (e :: es) X.env = (false, eval e X.env) :: starEach es X.env := by rfl) : PA X (e :: es) (tCons te t) := by
  intro pos pins s σ H Q I h
  rw [hs]
  show wpAny _ _ (spliced ((false, eval e X.env) :: backTo pos (starEach es X.env))) _ _ s
  refine Calls.spliced_cons (thn (ha pins s σ H _ I h) fun u s1 ⟨x, H1, I1, r1, q1⟩ => ?_)
  exact thn (hr pos pins s1 σ H1 _ I1 q1) fun us s2 ⟨xs, H2, I2, r2, q2⟩ => ⟨x :: xs, H2, I2, .cons r1 r2, q2⟩

def tLst (t : TA) : TE := fun σ H Q => t σ H fun xs H1 => xs.length ≤ sizeLine ∧ ∀ p, H1 p = none → Q (.ref p) (upd H1 p (.lst xs))
theorem pe_lst (h : PA X es t) : PE X (.List es pos) (tLst t) := by
  intro pins s σ H Q I hq
  refine wpAny_List_spliced (thn (h pos pins s σ H _ I hq) fun us s1 ⟨xs, H1, I1, r, z, q⟩ => ⟨by rw [← r.length]; exact z, ?_⟩)
  have hf : H1 s1.heap.objs.size = none := I1.hok.fresh (Nat.le_refl _)
  refine ⟨.ref s1.heap.objs.size, upd H1 s1.heap.objs.size (.lst xs), I1.laid (t' := s1.toks) (fun b u e => Heap.get?_push_of_some _ e) (Nat.le_refl _) ?_, rfl, q _ hf⟩
  exact ⟨z, us, 0, r, Heap.get?_push_size _ rfl⟩
end

/-! ### what a def promises -/
/-- a def's promise: the bound arguments in the parameters' order, the heap, the wanted end, the wanted exception -/
abbrev Sp := List V → Hp → VK → XK → Prop
/-- how an exception lies behind a call (file 08 gives it): the callers' frames, abstract heap and state ahead of the call, the wish, the exception, the state -/
abbrev CXT := List Env → Hp → Shared → XK → Value → Shared → Prop

/-- the state at a call -/
structure Env0 (P : Program) (w : World) (K : PySem.W.Frag) (mg : Str → Option Value) (base : Heap) (A : Around) (outer : List Env) (s : Shared) (H : Hp) : Prop where
  frames : A.frames = some outer
  mod : Mod K mg base
  bs : ∀ b o, base.get? b = some o → s.heap.get? b = some o ∧ H b = none
  bsz : base.objs.size ≤ s.heap.objs.size
  funs : s.heap.FunFrames base outer
  frf : ∀ b ∈ frs outer, H b = none
  hok : HOk P w H s.heap
  bare : AllBare s.gens
/-- a call's end -/
def CE (outer : List Env) (P : Program) (w : World) (H : Hp) (s : Shared) (Q : VK) (u : Value) (s' : Shared) : Prop :=
  ∃ v H', s'.os = s.os ∧ AllBare s'.gens ∧ Un (frs outer) [] H H' s.heap s'.heap ∧ HOk P w H' s'.heap ∧ RelV v u ∧ Q v H'
def CR (CX : CXT) (outer : List Env) (P : Program) (w : World) (H : Hp) (s : Shared) (Q : VK) (E : XK) (r : Result) (s' : Shared) : Prop :=
  match r with
  | .ok (.ret u) => CE outer P w H s Q u s'
  | .ok _ => False
  | .error e => CX outer H s E e s'
structure FnOk (P : Program) (w : World) (K : PySem.W.Frag) (mg : Str → Option Value) (base : Heap) (CX : CXT) (k : Nat) (f : Addr) (fd : FuncData) (ps : List Str) (sp : Sp) : Prop where
  len : ∀ vs H Q E, sp vs H Q E → vs.length = ps.length
  run : ∀ (A : Around) (outer : List Env) (s : Shared) (H : Hp) (args : Args) (us : List Value) (vs : List V) (Q : VK) (E : XK), Room k A → Env0 P w K mg base A outer s H → BindsTo s fd args (ps.zip us) → Vals vs us → sp vs H Q E →
    codeAny (model P w) A (.call (.ref f) args) (CR CX outer P w H s Q E) s
section
variable {X : Cx} {pins : List (Addr × Obj)} {σ : St} {H : Hp} {s s' : Shared}
/-- from a body: what a callee wants -/
theorem Inv.env0 (I : Inv X pins σ H s) : Env0 X.prog X.w X.K X.mg X.base X.A X.stack s H :=
  ⟨I.ok.frames, I.ok.mod, I.bs, Nat.le_trans I.ok.bsz I.sz, I.stack, I.stkFree, I.hok, I.bare⟩
/-- behind a call -/
theorem Inv.after {Q : VK} {u : Value} (I : Inv X pins σ H s) (h : CE X.stack X.prog X.w H s Q u s') : EP X pins σ Q u s' := by
  obtain ⟨v, H', os, bare, un, hok, r, q⟩ := h
  obtain ⟨hh, g, d, t, os'⟩ := s'
  obtain rfl : os' = s.os := os
  exact ⟨v, H', I.call (h' := hh) (g' := g) (d' := d) (t' := t) (ch := []) un hok bare (fun b z => absurd z (by simp)), r, q⟩
end

/-! ### calls -/
/-- f(..): the written arguments, then the defaults dvs; E: what is wanted of an exception -/
def tCall (sp : Sp) (dvs : List V) (E : XK) (t : TA) : TE := fun σ H Q => t σ H fun vs H1 => sp (vs ++ dvs) H1 Q E
/-- how the parameters are bound: us the positional arguments, kw the keywords' values by name, ds the defaults that fill up -/
def Binds (K : PySem.W.Frag) (fd : FuncData) (ps : List Str) (ds : List Value) : Prop :=
  ∀ (s : Shared) (us : List Value), K.In s.heap → (us ++ ds).length = ps.length → BindsTo s fd ⟨us, []⟩ (ps.zip (us ++ ds))
/-- every parameter is given -/
theorem Binds.all {K : PySem.W.Frag} {fd : FuncData} {ps : List Str} (h : ∀ us : List Value, us.length = ps.length → bindArgs fd ⟨us, []⟩ = pure (ps.zip us)) : Binds K fd ps [] := fun s us _ hl => by
  rw [List.append_nil] at hl ⊢
  exact .of_eq (h us hl)

/-- an exception of a callee reaches what this body wants of exceptions -/
def Passes (CX : CXT) (X : Cx) (E : XK) : Prop := ∀ (pins : List (Addr × Obj)) (σ : St) (H : Hp) (s : Shared) (e : Value) (s' : Shared), Inv X pins σ H s → CX X.stack H s E e s' → X.xe e s'

section
variable {X : Cx} {CX : CXT} {k : Nat} {f C : Addr} {fd : FuncData} {ps : List Str} {sp : Sp} {dvs : List V} {ds : List Value} {E : XK} {x m : Str} {p pos apos : Pos} {e o : Expr} {es : List Expr} {ta : TE} {t : TA}

/-- the callee runs -/
theorem run_fn {pins : List (Addr × Obj)} {σ : St} {H : Hp} {s : Shared} {Q : VK} {us : List Value} {vs : List V} (F : FnOk X.prog X.w X.K X.mg X.base CX k f fd ps sp) (hr : Room k X.A) (hb : Binds X.K fd ps ds) (hd : Vals dvs ds) (hx : Passes CX X E)
    (I : Inv X pins σ H s) (r : Vals vs us) (h : sp (vs ++ dvs) H Q E) : wpAny (model X.prog X.w) X.A (call (.ref f) us) (EP X pins σ Q) X.xe s := by
  have r2 : Vals (vs ++ dvs) (us ++ ds) := r.append hd
  have hl : (us ++ ds).length = ps.length := by rw [← r2.length]; exact F.len _ _ _ _ h
  refine wpAny_call (codeAny_mono (F.run X.A X.stack s H ⟨us, []⟩ (us ++ ds) (vs ++ dvs) Q E hr I.env0 (hb s us I.kIn hl) r2 h) fun r s' hq => ?_)
  cases r with
  | error e => exact hx pins σ H s e s' I hq
  | ok fl =>
    cases fl with
    | ret u => exact I.after hq
    | next => exact False.elim hq
    | brk => exact False.elim hq
    | cont => exact False.elim hq

theorem pe_call (F : FnOk X.prog X.w X.K X.mg X.base CX k f fd ps sp) (hr : Room k X.A) (hg : Gl X x) (hm : X.mg x = some (.ref f)) (hk : PySem.W.keepIn X.K (.ref f) = true) (hb : Binds X.K fd ps ds) (hd : Vals dvs ds) (hx : Passes CX X E)
    (ha : PA X (e :: es) t) (hdb : (x == ("__debug__" : Str)) = false := by decide) (he : starEach (e :: es) X.env = (false, eval e X.env) :: starEach es X.env := by rfl) (hpl : (backTo pos (starEach es X.env)).any (·.1) = false := by rfl) :
    PE X (.Call (.Name x p) (e :: es) [] pos) (tCall sp dvs E t) := by
  intro pins s σ H Q I h
  refine wpAny_Call_Name_kw (ld_glob I hg hm ?_ hdb)
  refine PySem.W.callWith_K (h₀ := X.base) I.ok.mod.kin hk (thn (ha pos pins s σ H _ I h) fun us s1 ⟨vs, H1, I1, r, q⟩ => ⟨I1.kIn, ?_⟩) he hpl
  exact run_fn F hr hb hd hx I1 r q
end

/-! ### keywords -/
section
variable {X : Cx} {CX : CXT} {k : Nat} {f C : Addr} {fd : FuncData} {ps ks : List Str} {sp : Sp} {E : XK} {x m : Str} {p pos apos kpos : Pos} {e o : Expr} {es : List Expr} {kws : List Keyword} {te ta : TE} {t tk : TA} {nm : Option Str}
variable {g : List Value → List Value → List Value} {gV : List V → List V → List V}
end

/-! ### a def's body keeps its promise -/
/-- names: the parameters first -/
structure FnScope (N P : List Str) (sc : Scope) : Prop where
  kind : sc.kind = .function
  co : sc.isCoroutine = false
  gen : sc.isGenerator = false
  nd : N.Nodup
  pre : N.take P.length = P
  par : ∀ x ∈ P, sc.names.lookup x = some .local ∨ sc.names.lookup x = some .cell
  nofree : ∀ y ∈ sc.names, y.2 ≠ .free

theorem bindL_out {kindOf : Str → Option NameKind} {x : Str} : ∀ {binds : List (Str × Value)} {m : Str → Option Value}, (∀ v, (x, v) ∉ binds) → bindL kindOf binds m x = m x
  | [], _, _ => rfl
  | (n, v) :: r, m, h => by
    unfold bindL
    rw [bindL_out fun w hw => h w (List.mem_cons_of_mem _ hw)]
    split
    · have : x ≠ n := by rintro rfl; exact h v List.mem_cons_self
      simp [this]
    · rfl
theorem bindC_out {kindOf : Str → Option NameKind} {x : Str} : ∀ {binds : List (Str × Value)} {m : Str → Option Value}, (∀ v, (x, v) ∉ binds) → bindC kindOf binds m x = m x
  | [], _, _ => rfl
  | (n, v) :: r, m, h => by
    unfold bindC
    rw [bindC_out fun w hw => h w (List.mem_cons_of_mem _ hw)]
    split
    · rfl
    · have : x ≠ n := by rintro rfl; exact h v List.mem_cons_self
      simp [this]
theorem bindL_get {kindOf : Str → Option NameKind} {x : Str} {v : Value} : ∀ {P : List Str} {vs : List Value} {i : Nat} {m : Str → Option Value}, P.Nodup → P[i]? = some x → vs[i]? = some v → kindOf x = some .local →
    bindL kindOf (P.zip vs) m x = some v
  | [], _, _, _, _, h, _, _ => by simp at h
  | _ :: _, [], _, _, _, _, h, _ => by simp at h
  | p :: P, w :: vs, 0, m, nd, h1, h2, hk => by
    simp at h1 h2; subst h1; subst h2
    show bindL kindOf ((p, w) :: P.zip vs) m p = _
    unfold bindL
    rw [bindL_out fun v hv => (List.nodup_cons.mp nd).1 (List.of_mem_zip hv).1, if_pos hk]
    simp
  | p :: P, w :: vs, i + 1, m, nd, h1, h2, hk => by
    show bindL kindOf ((p, w) :: P.zip vs) m x = _
    unfold bindL
    exact bindL_get (i := i) (List.nodup_cons.mp nd).2 (by simpa using h1) (by simpa using h2) hk
theorem bindC_get {kindOf : Str → Option NameKind} {x : Str} {v : Value} : ∀ {P : List Str} {vs : List Value} {i : Nat} {m : Str → Option Value}, P.Nodup → P[i]? = some x → vs[i]? = some v → kindOf x ≠ some .local →
    bindC kindOf (P.zip vs) m x = some v
  | [], _, _, _, _, h, _, _ => by simp at h
  | _ :: _, [], _, _, _, _, h, _ => by simp at h
  | p :: P, w :: vs, 0, m, nd, h1, h2, hk => by
    simp at h1 h2; subst h1; subst h2
    show bindC kindOf ((p, w) :: P.zip vs) m p = _
    unfold bindC
    rw [bindC_out fun v hv => (List.nodup_cons.mp nd).1 (List.of_mem_zip hv).1, if_neg hk]
    simp
  | p :: P, w :: vs, i + 1, m, nd, h1, h2, hk => by
    show bindC kindOf ((p, w) :: P.zip vs) m x = _
    unfold bindC
    exact bindC_get (i := i) (List.nodup_cons.mp nd).2 (by simpa using h1) (by simpa using h2) hk

/-- the names' values at the entry -/
def start (N : List Str) (vs : List V) : St := vs.map some ++ List.replicate (N.length - vs.length) none

/-- the context of a def's body, at its entry; an exception leaves the frame, then lies as CX says -/
def cxOf (CX : CXT) (P : Program) (w : World) (K : PySem.W.Frag) (mg : Str → Option Value) (base : Heap) (N : List Str) (qual : Str) (scope : Scope) (f : Addr) (cd : Value) (A : Around) (outer : List Env) (s : Shared) (H : Hp) (E : XK) : Cx where
  prog := P
  w := w
  K := K
  mg := mg
  base := base
  A := A.deeper (envOfC qual scope s.heap.objs.size f cd)
  N := N
  s₀ := s
  H₀ := H
  env := envOfC qual scope s.heap.objs.size f cd
  outer := outer
  stack := envOfC qual scope s.heap.objs.size f cd :: outer
  ex := []
  calm := true
  fn := fun _ => true
  pn := []
  xe := fun e s' => wpAny (model P w) (A.deeper (envOfC qual scope s.heap.objs.size f cd)) (leaving (envOfC qual scope s.heap.objs.size f cd) e) (fun _ s'' => CX outer H s E e s'') (fun e' s'' => CX outer H s E e' s'') s'

theorem cell_has {sc : Scope} {n : Nat} {x : Str} (h : sc.names.lookup x = some .cell) : ∃ c, (cellsFrom n sc.names []).lookup x = some c := by
  have q := PySem.W.cellsFrom_some sc.names n [] (.inl h)
  exact Option.isSome_iff_exists.mp q

theorem inv_start {CX : CXT} {P : Program} {w : World} {K : PySem.W.Frag} {mg : Str → Option Value} {base : Heap} {N ps : List Str} {qual : Str} {scope : Scope} {f : Addr} {cd : Value} {A : Around} {outer : List Env} {s s1 : Shared} {H : Hp} {E : XK} {us : List Value} {vs : List V}
    (S : FnScope N ps scope) (hd : A.handled = none) (e0 : Env0 P w K mg base A outer s H) (hl : vs.length = ps.length) (r : Vals vs us)
    (x : InCallC s s.heap.objs.size (bindL (envOfC qual scope s.heap.objs.size f cd).kindOf (ps.zip us) fun _ => none) (cellsFrom (s.heap.objs.size + 1) scope.names []) (bindC (envOfC qual scope s.heap.objs.size f cd).kindOf (ps.zip us) fun _ => none) s1) :
    Inv (cxOf CX P w K mg base N qual scope f cd A outer s H E) [] (start N vs) H s1 := by
  have hpl : ps.length ≤ N.length := by have := congrArg List.length S.pre; rw [List.length_take] at this; omega
  obtain ⟨h1, tk, rfl, hk⟩ := x.done
  have noA : ∀ b : Addr, b ∉ (cxOf CX P w K mg base N qual scope f cd A outer s H E).ex := fun b z => absurd (show b ∈ ([] : List Addr) from z) (by simp)
  refine ⟨⟨e0.mod, S.kind, rfl, rfl, Nat.le_refl _, fun y z c h1 h2 => ?_, fun y hy => ?_, fun y c _ h => ?_, fun _ => hd, Around.frames_deeper e0.frames, .inr ⟨rfl, rfl⟩, fun b z => absurd z (noA b), e0.bs, e0.bsz, fun b _ _ => noA b, fun b z => absurd z (noA b), e0.funs, e0.frf⟩,
    rfl, e0.bare, Un.kept hk, ⟨_, x.toInCall.ns, fun i y v h1 h2 h3 => ?_⟩, fun y c h => ⟨_, x.cell y c h⟩, e0.hok.fresh (Nat.le_refl _), fun y c h => ?_, fun p hp => absurd (show p ∈ ([] : List (Addr × Obj)) from hp) (by simp), e0.hok.kept hk, ?_⟩
  · exact name_of_addr x.apart (PySem.mem_of_lookup h1) (PySem.mem_of_lookup h2)
  · have hy : scope.names.lookup y = some .cell ∨ scope.names.lookup y = some .free := hy
    rcases hy with hy | hy
    · exact cell_has hy
    · exact absurd rfl (S.nofree _ (PySem.mem_of_lookup hy))
  · exact Nat.le_of_lt (x.above y c (PySem.mem_of_lookup h))
  · have hi : i < vs.length := by
      unfold start at h2
      by_cases hi : i < vs.length
      · exact hi
      · rw [List.getElem?_append_right (by simpa using hi)] at h2
        rw [List.getElem?_replicate] at h2
        split at h2 <;> cases h2
    have ha : vs[i]? = some v := by
      unfold start at h2
      rw [List.getElem?_append_left (by simpa using hi), List.getElem?_map] at h2
      cases e : vs[i]? with
      | none => rw [e] at h2; cases h2
      | some a => rw [e] at h2; cases h2; rfl
    obtain ⟨u, hu, rv⟩ := r.get ha
    have hp : ps[i]? = some y := by
      rw [← S.pre, List.getElem?_take_of_lt (by omega)]; exact h1
    have ndP : ps.Nodup := by rw [← S.pre]; exact S.nd.sublist (List.take_sublist _ _)
    refine ⟨u, rv, ?_⟩
    rcases S.par y (List.mem_of_getElem? hp) with k | k
    · exact .inl ⟨k, bindL_get ndP hp hu k⟩
    · obtain ⟨c, e⟩ := cell_has (n := s.heap.objs.size + 1) k
      refine .inr ⟨.inl k, c, e, ?_⟩
      have q := x.cell y c e
      rw [bindC_get ndP hp hu (by show scope.names.lookup y ≠ _; rw [k]; decide)] at q
      exact q
  · exact e0.hok.fresh (Nat.le_of_lt (x.above y c (PySem.mem_of_lookup h)))
  · unfold start
    show _ = N.length
    rw [List.length_append, List.length_map, List.length_replicate]
    omega

/-- THE RULE: a def (or a method) of the text, by its body. The body's reading t is chosen for each entry; it is run at the parameters' values -/
theorem fn_of {CX : CXT} {P : Program} {w : World} {K : PySem.W.Frag} {mg : Str → Option Value} {base : Heap} {k : Nat} {f : Addr} {name qual : Str} {params : Arguments} {body : List Stmt} {scope : Scope} {dV kV doc pm cdv ct oc : Value} {an od : Option Addr}
    {osl : Array (Option Value)} {N ps : List Str} {sp : Sp} (lk : K.lookup f = some ⟨oc, od, .func (PySem.W.fnOf name qual params body scope dV kV doc pm an cdv ct), osl⟩) (hcd : PySem.W.codeIn K cdv qual = true) (S : FnScope N ps scope)
    (len : ∀ vs H Q E, sp vs H Q E → vs.length = ps.length)
    (hbody : ∀ (A : Around) (outer : List Env) (s : Shared) (H : Hp) (vs : List V) (Q : VK) (E : XK), Room k (A.deeper (envOfC qual scope s.heap.objs.size f cdv)) → sp vs H Q E →
      ∃ t, PSs (cxOf CX P w K mg base N qual scope f cdv A outer s H E) body t ∧ t { nx := fun _ H' => Q .non H', rt := Q } (start N vs) H) :
    FnOk P w K mg base CX (k + 1) f (PySem.W.fnOf name qual params body scope dV kV doc pm an cdv ct) ps sp := by
  refine ⟨len, fun A outer s H args us vs Q E hr e0 hb r hsp => ?_⟩
  have hl := len _ _ _ _ hsp
  have KX : K.In s.heap := e0.mod.kin.keeps fun b o e => (e0.bs b o e).1
  have lim : s.heap.NoLimit := e0.mod.nolimit.keeps fun b o e => (e0.bs b o e).1
  have hkind : ∀ y ∈ ps.zip us, scope.names.lookup y.1 = some .local ∨ (scope.names.lookup y.1 = some .cell ∧ ((cellsFrom (s.heap.objs.size + 1) scope.names []).lookup y.1).isSome = true) := fun ⟨n, v⟩ hy => by
    rcases S.par n (List.of_mem_zip hy).1 with q | q
    · exact .inl q
    · exact .inr ⟨q, PySem.W.cellsFrom_some _ _ _ (.inl q)⟩
  refine codeAny_call_function hr.depth (KX _ _ lk) rfl S.co S.gen rfl (PySem.W.codeRec_of KX hcd) (hb _ _ _ _ ?_)
  refine wpAny_newFunctionEnv_cells S.kind hkind fun env he s1 x => ?_
  subst he
  refine ⟨lim.keeps x.toInCall.keep, codeAny_func ?_⟩
  obtain ⟨t, ht, hq⟩ := hbody A outer s H vs Q E (hr.deeper _) hsp
  have I : Inv (cxOf CX P w K mg base N qual scope f cdv A outer s H E) [] (start N vs) H s1 := inv_start S hr.hd e0 hl r x
  refine wpAny_mono (ht [] s1 (start N vs) H _ I hq) (fun fl s' hs => ?_) fun e s' hs => hs
  have fin : ∀ {σ' : St} {H' : Hp} {v : V} {u : Value}, Inv (cxOf CX P w K mg base N qual scope f cdv A outer s H E) [] σ' H' s' → RelV v u → Q v H' → CE outer P w H s Q u s' :=
    fun {σ' H' v u} J rv q => ⟨v, H', J.os, J.bare, J.base, J.hok, rv, q⟩
  cases fl with
  | ret u =>
    obtain ⟨v, σ', H', J, rv, q⟩ := hs
    exact fin J rv q
  | next =>
    obtain ⟨σ', H', J, q⟩ := hs
    exact fin (v := V.non) (u := Value.none) J rfl q
  | brk =>
    obtain ⟨_, _, _, q⟩ := hs
    exact False.elim q
  | cont =>
    obtain ⟨_, _, _, q⟩ := hs
    exact False.elim q
end L2

namespace L2
open PySem PySem.Spec PyProof.Rows
section
variable {X : Cx} {x : Str} {p pos : Pos} {e : Expr} {es : List Expr} {t : TA} {id T : String} {r : List V → Hp → VK → Prop}

def tCB (r : List V → Hp → VK → Prop) (t : TA) : TE := fun σ H Q => t σ H fun vs H1 => r vs H1 Q
/-- f(e, ..), f a built-in function -/
theorem pe_callB (hc : CallR X (.builtin id) r) (hg : Gl X x) (hm : X.mg x = none) (hv : bootBuiltins x = some (.builtin id)) (ha : PA X (e :: es) t) (hn : x ≠ "__name__" := by decide) (hdb : (x == ("__debug__" : Str)) = false := by decide)
    (he : starEach (e :: es) X.env = (false, eval e X.env) :: starEach es X.env := by rfl) (hpl : (backTo pos (starEach es X.env)).any (·.1) = false := by rfl) : PE X (.Call (.Name x p) (e :: es) [] pos) (tCB r t) := by
  intro pins s σ H Q I h
  refine wpAny_Call_Name_kw (ld_blt I hg hm hv ?_ hn hdb)
  exact PyProof.Rows.callWith_builtin1 (thn (ha pos pins s σ H _ I h) fun us s1 ⟨vs, H1, I1, r1, q1⟩ => hc pins s1 σ H1 vs us Q I1 r1 q1) he hpl
/-- T(e, ..), T a built-in type -/
theorem pe_callTy (hc : CallR X (.type T) r) (hg : Gl X x) (hm : X.mg x = none) (hv : bootBuiltins x = some (.type T)) (ha : PA X (e :: es) t) (hn : x ≠ "__name__" := by decide) (hdb : (x == ("__debug__" : Str)) = false := by decide)
    (he : starEach (e :: es) X.env = (false, eval e X.env) :: starEach es X.env := by rfl) (hpl : (backTo pos (starEach es X.env)).any (·.1) = false := by rfl) : PE X (.Call (.Name x p) (e :: es) [] pos) (tCB r t) := by
  intro pins s σ H Q I h
  refine wpAny_Call_Name_kw (ld_blt I hg hm hv ?_ hn hdb)
  exact PyProof.Rows.callWith_type1 (thn (ha pos pins s σ H _ I h) fun us s1 ⟨vs, H1, I1, r1, q1⟩ => hc pins s1 σ H1 vs us Q I1 r1 q1) he hpl
end
end L2

namespace HT
open PySem PyProof.Rows

section
open PySem.SeqAt
open PySem.AutoSeq1 (wpAny_loadPart')
open PySem.MeetsSeq PySem.MeetsSeq2 PySem.MeetsSeq3

end

section
variable {prog : Program} {w : World} {A : Around} {E : Value → Shared → Prop} {s : Shared}

/-! ### t[a:b], not the whole -/
/-- a slice's bound as a place among n (d where it is left out) -/
def sIx (n d : Nat) : Option Int → Nat
  | none => d
  | some v => if v < 0 then (v + (n : Int)).toNat else min v.toNat n
end
end HT

namespace L2
open PySem PySem.Spec PyProof.Rows

/-! ### the parts of a slice -/
abbrev TO := St → Hp → (Option Int → Hp → Prop) → Prop
/-- a slice's part (left out, or an int) -/
def PO (X : Cx) (e : Option Expr) (t : TO) : Prop :=
  ∀ (pins : List (Addr × Obj)) (s : Shared) (σ : St) (H : Hp) (Q : Option Int → Hp → Prop), Inv X pins σ H s → t σ H Q →
    wpAny (model X.prog X.w) X.A (evalPart e X.env) (fun u s' => ∃ o H', Inv X pins σ H' s' ∧ IsPart u o ∧ Q o H') X.xe s
def tNoPart : TO := fun _ H Q => Q none H
def tPart (t : TE) : TO := fun σ H Q => t σ H fun x H1 => ∃ i, x = .int i ∧ Q (some i) H1

theorem intsAre_of {ns : List Int} : ∀ {us : List Value}, Vals (ns.map V.int) us → IntsAre us ns := by
  induction ns with
  | nil => intro us r; rw [List.map_nil] at r; cases r; exact .nil
  | cons n ns ih =>
    intro us r
    rw [List.map_cons] at r
    cases r with
    | cons r1 r2 =>
      obtain ⟨t, e⟩ := r1
      subst e
      exact .cons n t (ih r2)

section
variable {X : Cx} {e : Expr} {te : TE} {lo hi : Option Expr} {tl th : TO} {pos p2 : Pos}

theorem po_none : PO X none tNoPart := by
  intro pins s σ H Q I h
  rw [evalPart_none]
  exact wpAny_pure ⟨none, H, I, .none, h⟩
theorem po_some (h : PE X e te) : PO X (some e) (tPart te) := by
  intro pins s σ H Q I hw
  rw [evalPart_some]
  refine thn (h pins s σ H _ I hw) fun u s1 ⟨x, H1, I1, r1, q1⟩ => ?_
  obtain ⟨i, rfl, q⟩ := q1
  obtain ⟨t, rfl⟩ := r1
  exact ⟨some i, H1, I1, .int i t, q⟩

/-- what a slice of a value is, by values: the slice object stands at sl -/
def SlR (X : Cx) (r : V → Option Int → Option Int → Hp → VK → Prop) : Prop :=
  ∀ (pins : List (Addr × Obj)) (s : Shared) (σ : St) (H : Hp) (x : V) (v vl vu : Value) (lo hi : Option Int) (sl : Addr) (Q : VK), Inv X pins σ H s → RelV x v → s.heap.IsSliceOf sl vl vu .none → IsPart vl lo → IsPart vu hi → r x lo hi H Q →
    ∃ T id, typeLookup (.type T) "__getitem__" = pure (some (.builtin id)) ∧ s.TypeIs v T ∧ wpAny (model X.prog X.w) X.A (getItem v (.ref sl)) (EP X pins σ Q) X.xe s
def tSl (r : V → Option Int → Option Int → Hp → VK → Prop) (te : TE) (tl th : TO) : TE := fun σ H Q => te σ H fun x H1 => tl σ H1 fun l H2 => th σ H2 fun u H3 => r x l u H3 Q
/-- a[lo:hi], any a -/
theorem pe_slice {r : V → Option Int → Option Int → Hp → VK → Prop} (hr : SlR X r) (he : PE X e te) (hl : PO X lo tl) (hu : PO X hi th) : PE X (.Subscript e (.Slice lo hi none p2) pos) (tSl r te tl th) := by
  intro pins s σ H Q I h
  refine Subscript_ (thn (he pins s σ H _ I h) fun v s1 ⟨x, H1, I1, r1, q1⟩ => ?_)
  refine wpAny_Slice (thn (hl pins s1 σ H1 _ I1 q1) fun vl s2 ⟨l, H2, I2, pl, q2⟩ => thn (hu pins s2 σ H2 _ I2 q2) fun vu s3 ⟨u, H3, I3, pu, q3⟩ => ?_)
  rw [evalPart_none]
  refine wpAny_pure ?_
  have I4 : Inv X pins σ H3 { s3 with heap := s3.heap.push { cls := .type "slice", data := .fields #[vl, vu, .none] } } := I3.kept (t' := s3.toks) fun b ob q => Heap.get?_push_of_some _ q
  obtain ⟨T, id, hT, ht, hg⟩ := hr pins { s3 with heap := s3.heap.push { cls := .type "slice", data := .fields #[vl, vu, .none] } } σ H3 x v vl vu l u s3.heap.objs.size Q I4 r1 (Heap.IsSliceOf.new ..) pl pu q3
  show wpAny (model X.prog X.w) X.A (subscriptTail e (.Slice lo hi none p2) v (.ref s3.heap.objs.size)) (EP X pins σ Q) X.xe { s3 with heap := s3.heap.push { cls := .type "slice", data := .fields #[vl, vu, .none] } }
  exact tail_any (ops := [.ref s3.heap.objs.size, v]) ht hT hg (by with_unfolding_all rfl)

/-- the items of xs[lo:hi] -/
def cutV (xs : List V) (lo hi : Option Int) : List V := (xs.drop (HT.sIx xs.length 0 lo)).take (HT.sIx xs.length xs.length hi - HT.sIx xs.length 0 lo)
theorem cutV_length (xs : List V) (lo hi : Option Int) : (cutV xs lo hi).length ≤ xs.length := by
  unfold cutV
  rw [List.length_take, List.length_drop]
  omega
/-! ### t < u, t + u -/
end
end L2

namespace L2
open PySem PySem.Spec PyProof.Rows

/-! ### places -/
/-- the place that an index of any sign means -/
def ixN (n : Nat) (i : Int) : Option Nat := if 0 ≤ i then (if i < n then some i.toNat else none) else if -(n : Int) ≤ i then some (i + n).toNat else none
def atI {α : Type} (xs : List α) (i : Int) : Option α := (ixN xs.length i).bind fun j => xs[j]?
theorem ixN_seq {n : Nat} {i : Int} {j : Nat} (h : ixN n i = some j) : seqIndex? i n = some j ∧ j < n ∧ -(n : Int) ≤ i ∧ i < n := by
  unfold ixN at h
  by_cases h0 : 0 ≤ i
  · rw [if_pos h0] at h
    by_cases h1 : i < n
    · rw [if_pos h1] at h
      have e : i.toNat = j := Option.some.inj h
      exact ⟨by rw [seqIndex_of h0 h1, e], by omega, by omega, h1⟩
    · rw [if_neg h1] at h; cases h
  · rw [if_neg h0] at h
    by_cases h1 : -(n : Int) ≤ i
    · rw [if_pos h1] at h
      have e : (i + n).toNat = j := Option.some.inj h
      exact ⟨by rw [seqIndex_neg (by omega) h1, e], by omega, h1, by omega⟩
    · rw [if_neg h1] at h; cases h
theorem atI_get {α : Type} {xs : List α} {i : Int} {v : α} (h : atI xs i = some v) : ∃ j, seqIndex? i xs.length = some j ∧ xs[j]? = some v ∧ j < xs.length ∧ -(xs.length : Int) ≤ i ∧ i < xs.length := by
  unfold atI at h
  cases e : ixN xs.length i with
  | none => rw [e] at h; cases h
  | some j =>
    rw [e] at h
    obtain ⟨h1, h2, h3, h4⟩ := ixN_seq e
    exact ⟨j, h1, h, h2, h3, h4⟩
theorem atI_nat {α : Type} {xs : List α} {j : Nat} {v : α} (h : xs[j]? = some v) : atI xs (j : Int) = some v := by
  have hj : j < xs.length := (List.getElem?_eq_some_iff.mp h).1
  have e : ixN xs.length (j : Int) = some j := by
    unfold ixN
    rw [if_pos (by omega), if_pos (by omega)]; simp
  unfold atI; rw [e]; exact h
/-! ### what may be subscripted -/
/-- what stands as an index of a plain subscript -/
def PlainIx (b : Expr) : Prop := ∀ o i, subscripted b false o i = operate [o, i] (getItem o i)
/-- a subscript by values -/
def IxR (X : Cx) (r : R2) : Prop :=
  ∀ (value slice : Expr) (pins : List (Addr × Obj)) (s : Shared) (σ : St) (H : Hp) (x y : V) (v u : Value) (Q : VK), Inv X pins σ H s → RelV x v → RelV y u → r x y H Q →
    subscripted slice false v u = operate [v, u] (getItem v u) → wpAny (model X.prog X.w) X.A (subscriptTail value slice v u) (EP X pins σ Q) X.xe s
/-- a call of a builtin's method by values: the receiver, the arguments -/
def MtR (X : Cx) (id : String) (r : V → List V → Hp → VK → Prop) : Prop :=
  ∀ (pins : List (Addr × Obj)) (s : Shared) (σ : St) (H : Hp) (x : V) (xs : List V) (v : Value) (us : List Value) (Q : VK), Inv X pins σ H s → RelV x v → Vals xs us → r x xs H Q →
    wpAny (model X.prog X.w) X.A (call (.builtin id) (v :: us)) (EP X pins σ Q) X.xe s
section
variable {X : Cx} {a b : Expr} {ta tb : TE} {pos : Pos}
/-- a[b] -/
theorem pe_ix {r : R2} (hr : IxR X r) (ha : PE X a ta) (hb : PE X b tb) (hs : PlainIx b) : PE X (.Subscript a b pos) (tOp r ta tb) := by
  intro pins s σ H Q I h
  exact Subscript_ (binT ha hb I h fun v u s2 x y H2 I2 rx ry q => hr a b pins s2 σ H2 x y v u Q I2 rx ry q (hs _ _))

def rIxL (K : PySem.W.Frag) : R2 := fun x y H Q => ∃ p xs i v, x = .ref p ∧ y = .int i ∧ SqL K H p xs ∧ atI xs i = some v ∧ Q v H
def rIxT (K : PySem.W.Frag) : R2 := fun x y H Q => ∃ p xs i v, x = .ref p ∧ y = .int i ∧ SqT K H p xs ∧ atI xs i = some v ∧ Q v H
def rIxS : R2 := fun x y H Q => ∃ z i c, x = .str z ∧ y = .int i ∧ z.length ≤ sizeLine ∧ atI z.cps.toList i = some c ∧ Q (.str ⟨#[c]⟩) H
theorem ix_list : IxR X (rIxL X.K) := by
  intro value slice pins s σ H x y v u Q I rx ry h hs
  obtain ⟨p, xs, i, z, rfl, rfl, hq, he, q⟩ := h
  cases rx
  obtain ⟨t, rfl⟩ := ry
  obtain ⟨its, r, pl, hz⟩ := I.list hq
  obtain ⟨j, h1, h2, h3, h4, h5⟩ := atI_get he
  obtain ⟨w, ew, rw'⟩ := r.get h2
  have hl := r.length
  have hn := line63
  have fin : EP X pins σ Q w s := ⟨z, H, I, rw', q⟩
  by_cases h0 : 0 ≤ i
  · have hj : i.toNat = j := by
      rw [seqIndex_of h0 h5] at h1
      exact Option.some.inj h1
    exact item_listR pl.isList h0 (by omega) (by rw [hj]; simpa using ew) fin hs
  · have hj : (i + (its.toArray.size : Int)).toNat = j := by
      rw [seqIndex_neg (by omega) h4] at h1
      rw [List.size_toArray, ← hl]
      exact Option.some.inj h1
    exact subscriptTail_builtinR (x := w) pl.isList.typeIs slot_list_getitem.lookup
      (wpAny_getItem_list_neg (Q := fun r s' => r = w ∧ EP X pins σ Q r s') pl.isList (by omega) (by rw [List.size_toArray] <;> omega) (by omega) (by rw [hj]; simpa using ew) ⟨rfl, fin⟩) hs
theorem ix_tup : IxR X (rIxT X.K) := by
  intro value slice pins s σ H x y v u Q I rx ry h hs
  obtain ⟨p, xs, i, z, rfl, rfl, hq, he, q⟩ := h
  cases rx
  obtain ⟨t, rfl⟩ := ry
  obtain ⟨its, r, pl, hz⟩ := I.tuple hq
  obtain ⟨j, h1, h2, h3, h4, h5⟩ := atI_get he
  obtain ⟨w, ew, rw'⟩ := r.get h2
  have hl := r.length
  have hn := line63
  have fin : EP X pins σ Q w s := ⟨z, H, I, rw', q⟩
  exact subscriptTail_builtinR (x := w) pl.typeIs slot_tuple_getitem.lookup
    (getItem_tuple (j := j) (Q := fun r s' => r = w ∧ EP X pins σ Q r s') pl (by omega) (by omega) (by rw [List.size_toArray, ← hl]; exact h1) (by simpa using ew) ⟨rfl, fin⟩) hs
theorem ix_str : IxR X rIxS := by
  intro value slice pins s σ H x y v u Q I rx ry h hs
  obtain ⟨z, i, c, rfl, rfl, hz, he, q⟩ := h
  obtain ⟨t, rfl⟩ := rx
  obtain ⟨t', rfl⟩ := ry
  obtain ⟨j, h1, h2, h3, h4, h5⟩ := atI_get he
  have hl : z.cps.toList.length = z.length := by simp [Str.length]
  rw [hl] at h1 h4 h5
  have hn := line63
  exact tail_any (typeIs_str s z t) slot_str_getitem.lookup (getItem_str (c := c) (by
    have e1 : decide (i < -(2 ^ 63 : Int)) = false := decide_eq_false (by omega)
    have e2 : decide (i ≥ 2 ^ 63) = false := decide_eq_false (by omega)
    rw [e1, e2, Bool.or_false]) (by rw [h1]; simpa using h2) ⟨.str ⟨#[c]⟩, H, I.tok _, ⟨_, rfl⟩, q⟩) hs
/-! ### xs[i] = v, any sign -/
/-! ### slices -/
theorem slice_bounds (lo hi : Option Int) (n : Nat) : (sliceBounds lo hi none n).1 = ((HT.sIx n 0 lo : Nat) : Int) ∧ (sliceBounds lo hi none n).2.1 = ((HT.sIx n n hi : Nat) : Int) ∧ (sliceBounds lo hi none n).2.2 = 1 := by
  refine ⟨?_, ?_, rfl⟩
  · cases lo with
    | none => simp [sliceBounds, HT.sIx]
    | some i =>
      simp only [sliceBounds, HT.sIx, Option.getD_none, show (1 : Int) > 0 by decide, if_true]
      by_cases h : i < 0
      · simp only [h, if_true] <;> omega
      · simp only [h, if_false] <;> omega
  · cases hi with
    | none => simp [sliceBounds, HT.sIx]
    | some i =>
      simp only [sliceBounds, HT.sIx, Option.getD_none, show (1 : Int) > 0 by decide, if_true]
      by_cases h : i < 0
      · simp only [h, if_true] <;> omega
      · simp only [h, if_false] <;> omega
theorem slicePick_cut (its : List Value) (lo hi : Option Int) : slicePick its.toArray lo hi none = ((its.drop (HT.sIx its.length 0 lo)).take (HT.sIx its.length its.length hi - HT.sIx its.length 0 lo)).toArray := by
  obtain ⟨h1, h2, h3⟩ := slice_bounds lo hi its.toArray.size
  unfold slicePick
  rw [h1, h2, h3]
  simp only [sliceRange_one, pick_run, List.size_toArray] <;> rfl
/-- xs[lo:hi] of a list: a new list -/
def rSlL (K : PySem.W.Frag) : V → Option Int → Option Int → Hp → VK → Prop := fun x lo hi H Q => ∃ a xs, x = .ref a ∧ SqL K H a xs ∧ ∀ p, H p = none → Q (.ref p) (upd H p (.lst (cutV xs lo hi)))
theorem sl_list : SlR X (rSlL X.K) := by
  intro pins s σ H x v vl vu lo hi sl Q I rx hs pl pu h
  obtain ⟨a, xs, rfl, hx, q⟩ := h
  cases rx
  obtain ⟨its, r, ht, hz⟩ := I.list hx
  have hlen := r.length
  refine ⟨"list", _, slot_list_getitem.lookup, ht.isList.typeIs, ?_⟩
  refine wpAny_getItem_list_slice ht.isList hs pl pu .none (by simp) ?_ (by rw [List.size_toArray] <;> omega)
  rw [slicePick_cut, ← hlen]
  refine ⟨.ref s.heap.objs.size, _, I.laid (t' := s.toks) (o := .lst (cutV xs lo hi)) (fun b ob q => Heap.get?_push_of_some _ q) (Nat.le_refl _) ?_, rfl, q _ (I.hok.fresh (Nat.le_refl _))⟩
  exact ⟨Nat.le_trans (cutV_length xs lo hi) hz, _, 0, (r.drop (HT.sIx xs.length 0 lo)).take (HT.sIx xs.length xs.length hi - HT.sIx xs.length 0 lo), Heap.get?_push_size _ rfl⟩

/-! ### in, not in: flat items -/
def flatV : V → Bool
  | .non => true
  | .bl _ => true
  | .int _ => true
  | .str _ => true
  | _ => false
/-- == of flat values -/
def eqV : V → V → Bool
  | .non, .non => true
  | .bl a, .bl b => a == b
  | .bl a, .int b => (if a then 1 else 0) == b
  | .int a, .bl b => a == (if b then 1 else 0)
  | .int a, .int b => a == b
  | .str a, .str b => a == b
  | _, _ => false
theorem eqAt_V {A : Around} {s : Shared} {y x : V} {u v : Value} (ry : RelV y u) (rx : RelV x v) (fy : flatV y = true) (fx : flatV x = true) : SeqAt.EqAt A s u v (eqV y x) := by
  cases y with
  | non =>
    cases ry
    cases x with
    | non => cases rx; exact SeqAt.EqAt.same _
    | bl b => cases rx; exact SeqAt.EqAt.none_bool b
    | int b => obtain ⟨t, rfl⟩ := rx; exact SeqAt.EqAt.none_int b t
    | str b => obtain ⟨t, rfl⟩ := rx; exact SeqAt.EqAt.none_str b t
    | _ => exact absurd (show false = true from fx) Bool.false_ne_true
  | bl a =>
    cases ry
    cases x with
    | non => cases rx; exact SeqAt.EqAt.bool_none a
    | bl b => cases rx; exact SeqAt.EqAt.bool_bool a b
    | int b => obtain ⟨t, rfl⟩ := rx; exact SeqAt.EqAt.bool_int a b t
    | str b => obtain ⟨t, rfl⟩ := rx; exact SeqAt.EqAt.bool_str a b t
    | _ => exact absurd (show false = true from fx) Bool.false_ne_true
  | int a =>
    obtain ⟨t', rfl⟩ := ry
    cases x with
    | non => cases rx; exact SeqAt.EqAt.int_none a t'
    | bl b => cases rx; exact SeqAt.EqAt.int_bool a t' b
    | int b => obtain ⟨t, rfl⟩ := rx; exact SeqAt.EqAt.int_int a t' b t
    | str b => obtain ⟨t, rfl⟩ := rx; exact SeqAt.EqAt.int_str a t' b t
    | _ => exact absurd (show false = true from fx) Bool.false_ne_true
  | str a =>
    obtain ⟨t', rfl⟩ := ry
    cases x with
    | non => cases rx; exact SeqAt.EqAt.str_none a t'
    | bl b => cases rx; exact SeqAt.EqAt.str_bool a t' b
    | int b => obtain ⟨t, rfl⟩ := rx; exact SeqAt.EqAt.str_int a t' b t
    | str b => obtain ⟨t, rfl⟩ := rx; exact SeqAt.EqAt.str_str a t' b t
    | _ => exact absurd (show false = true from fx) Bool.false_ne_true
  | _ => exact absurd (show false = true from fy) Bool.false_ne_true
/-! ### len, list(x), tuple(x) of any list or tuple that is read -/
theorem call_len_seq : CallR X (.builtin "len") (fun xs H Q => ∃ p ys, xs = [.ref p] ∧ (SqL X.K H p ys ∨ SqT X.K H p ys) ∧ Q (.int ys.length) H) := by
  intro pins s σ H xs us Q I r h
  obtain ⟨p, ys, rfl, hq, q⟩ := h
  obtain ⟨u, rfl, rx⟩ := vals1 r
  cases rx
  have hn := line63
  rcases hq with hq | hq
  · obtain ⟨its, r', pl, hz⟩ := I.list hq
    have hlen := r'.length
    exact Calls.call_len_list pl.isList (by simp only [List.size_toArray] <;> omega) ⟨.int ys.length, H, I.tok _, ⟨s.toks + 1, by rw [List.size_toArray, hlen]⟩, q⟩
  · obtain ⟨its, r', pl, hz⟩ := I.tuple hq
    have hlen := r'.length
    exact len_tuple pl (by simp only [List.size_toArray] <;> omega) ⟨.int ys.length, H, I.tok _, ⟨s.toks + 1, by rw [List.size_toArray, hlen]⟩, q⟩
theorem call_tuple_of : CallR X (.type "tuple") (fun xs H Q => ∃ p ys, xs = [.ref p] ∧ ((SqL X.K H p ys ∧ ∀ l, H l = none → Q (.ref l) (upd H l (.tup ys))) ∨ (SqT X.K H p ys ∧ Q (.ref p) H))) := by
  intro pins s σ H xs us Q I r h
  obtain ⟨p, ys, rfl, h⟩ := h
  obtain ⟨u, rfl, rx⟩ := vals1 r
  cases rx
  rcases h with ⟨hq, q⟩ | ⟨hq, q⟩
  · obtain ⟨its, r', pl, hz⟩ := I.list hq
    have hlen := r'.length
    refine call_tuple_list pl.isList (fun h' kp => ?_) (by simp only [List.size_toArray] <;> omega)
    have I1 : Inv X pins σ H { s with heap := h' } := I.kept (t' := s.toks) kp
    have I2 : Inv X pins σ (upd H h'.objs.size (.tup ys)) { s with heap := h'.push { cls := .type "tuple", data := .seq its.toArray } } :=
      I1.laid (t' := s.toks) (fun b o e => Heap.get?_push_of_some _ e) (Nat.le_refl _) (show ObjOk X.prog X.w _ _ _ (.tup ys) from ⟨hz, its, r', IsTup.new _ _⟩)
    exact ⟨.ref h'.objs.size, _, I2, rfl, q _ (I1.hok.fresh (Nat.le_refl _))⟩
  · obtain ⟨its, r', pl, hz⟩ := I.tuple hq
    exact call_tuple_same pl ⟨.ref p, H, I, rfl, q⟩

/-! ### the call of a builtin's method: o.m(..) -/
/-- the value is of that builtin type -/
def tyV (K : PySem.W.Frag) (T : String) (x : V) (H : Hp) : Prop := match x with
  | .str _ => T = "str"
  | .int _ => T = "int"
  | .ref p => (T = "list" ∧ ∃ xs, SqL K H p xs) ∨ (T = "tuple" ∧ ∃ o, K.lookup p = some o ∧ o.cls = .type "tuple" ∧ o.dict = none) ∨
      (T = "dict" ∧ ((∃ kvs, H p = some (.dK kvs)) ∨ ∃ kvs, H p = some (.dT kvs))) ∨ (T = "set" ∧ ∃ S n, H p = some (.set S n))
  | _ => False
theorem tyV_is {pins : List (Addr × Obj)} {σ : St} {H : Hp} {s : Shared} {T : String} {x : V} {v : Value} (I : Inv X pins σ H s) (r : RelV x v) (ty : tyV X.K T x H) :
    s.TypeIs v T ∧ ∀ a, v = .ref a → ∃ ob, s.heap.get? a = some ob ∧ ob.dict = none := by
  cases x with
  | str z =>
    obtain ⟨t, rfl⟩ := r
    cases (show T = "str" from ty)
    exact ⟨typeIs_str s z t, fun _ e => nomatch e⟩
  | int i =>
    obtain ⟨t, rfl⟩ := r
    cases (show T = "int" from ty)
    exact ⟨typeIs_int s i t, fun _ e => nomatch e⟩
  | ref p =>
    cases r
    rcases ty with ⟨rfl, xs, hq⟩ | ⟨rfl, o, hk, hc, hd⟩ | ⟨rfl, hk⟩ | ⟨rfl, S, n, hk⟩
    · obtain ⟨its, _, pl, _⟩ := I.list hq
      refine ⟨pl.isList.typeIs, fun a e => ?_⟩
      cases e
      obtain ⟨o, n, e, c, hd, _⟩ := pl
      exact ⟨o, e, hd⟩
    · refine ⟨⟨o, I.kIn p o hk, hc⟩, fun a e => ?_⟩
      cases e
      exact ⟨o, I.kIn _ o hk, hd⟩
    · have z : ∃ o, s.heap.get? p = some o ∧ o.ExactDict := by
        rcases hk with ⟨kvs, hk⟩ | ⟨kvs, hk⟩
        · obtain ⟨_, _, _, _, o, _, _, e, ex, _⟩ := I.hok p _ hk
          exact ⟨o, e, ex⟩
        · obtain ⟨_, _, _, _, o, _, _, e, ex, _⟩ := I.hok p _ hk
          exact ⟨o, e, ex⟩
      obtain ⟨o, e, ex⟩ := z
      refine ⟨⟨o, e, ex.1⟩, fun a e2 => ?_⟩
      cases e2
      exact ⟨o, e, ex.2.1⟩
    · obtain ⟨o, _, _, _, e, ex, _⟩ := I.hok p _ hk
      refine ⟨⟨o, e, ex.1⟩, fun a e2 => ?_⟩
      cases e2
      exact ⟨o, e, ex.2.1⟩
  | _ => exact False.elim ty
def tBM (K : PySem.W.Frag) (T : String) (r : V → List V → Hp → VK → Prop) (to : TE) (t : TA) : TE := fun σ H Q => to σ H fun x H1 => tyV K T x H1 ∧ t σ H1 fun xs H2 => r x xs H2 Q
variable {o e : Expr} {es : List Expr} {to : TE} {t : TA} {name : Str} {apos cpos : Pos} {T id : String} {r : V → List V → Hp → VK → Prop}
theorem pe_bm (pa : PlainAttrs T) (slot : Slot T name id) (hty : typeOf (.builtin id) = pure (.type "method_descriptor")) (hm : MtR X id r) (ho : PE X o to) (ha : PA X (e :: es) t)
    (hbase : attributeBase o name X.env (eval o X.env) = eval o X.env := by rfl)
    (hfew : ((backTo cpos (starEach (e :: es) X.env)).all (fun x => !x.1) && (backToKw cpos (keywordEach [] X.env)).all (fun x => x.1.isSome)
      && decide ((e :: es).length + ([] : List Keyword).length + (if ([] : List Keyword).isEmpty then 0 else 1) < 30)) = true := by rfl)
    (hline : (apos.endLine == cpos.line) = true := by rfl) (hs : starEach (e :: es) X.env = (false, eval e X.env) :: starEach es X.env := by rfl) (hplain : (backTo cpos (starEach es X.env)).any (·.1) = false := by rfl) :
    PE X (.Call (.Attribute o name apos) (e :: es) [] cpos) (tBM X.K T r to t) := by
  intro pins s σ H Q I h
  refine wpAny_Call_method_late hbase hfew hline rfl (thn (ho pins s σ H _ I h) fun v s1 ⟨x, H1, I1, r1, ty, q1⟩ => ?_)
  obtain ⟨h1, h2⟩ := tyV_is I1 r1 ty
  refine ⟨T, id, pa, slot, hty, h1, h2, ?_⟩
  have hA := ha cpos pins s1 σ H1 _ I1 q1
  rw [hs] at hA ⊢
  refine Calls.callWith_builtin (by show (false || (backTo cpos (starEach es X.env)).any (·.1)) = false; rw [hplain] <;> rfl) (Calls.evalArgs_plain ?_)
  exact thn hA fun us s2 ⟨vs, H2, I2, r2, q2⟩ => hm pins s2 σ H2 x vs v us Q I2 r1 r2 q2
/- xs.append(e), list.index on a module's tuple .. are MtR facts of 06m -/
end
end L2

namespace L2
open PySem PySem.Spec PyProof.Rows

def MtM (X : Cx) (id : String) (r : V → List V → Hp → VK → Prop) : Prop :=
  ∀ (pins : List (Addr × Obj)) (s : Shared) (σ : St) (H : Hp) (x : V) (xs : List V) (v : Value) (us : List Value) (Q : VK), Inv X pins σ H s → RelV x v → Vals xs us → r x xs H Q →
    wpAny (model X.prog X.w) X.A (call (.builtin id) (v :: us)) (EP X pins σ Q) X.xe s

/-! ### lists of values -/
theorem Vals.one : ∀ {x : V} {us : List Value}, Vals [x] us → ∃ u, us = [u] ∧ RelV x u
  | _, _, .cons r .nil => ⟨_, rfl, r⟩
section
variable {X : Cx} {pins : List (Addr × Obj)} {σ : St} {H : Hp} {s : Shared} {l b : Addr} {xs ys zs : List V}

/-! ### the two steps: a tracked list is rewritten, a new list is laid -/
theorem Inv.lset {its its' : List Value} {n : Nat} {f : Array Value → Array Value} {t' : Nat} (I : Inv X pins σ H s) (hH : H l = some (.lst xs))
    (e : s.heap.get? l = some { cls := .type "list", data := .seq its.toArray n }) (hf : f its.toArray = its'.toArray) (hv : Vals ys its') (hz : ys.length ≤ sizeLine) :
    Inv X pins σ (upd H l (.lst ys)) { s with heap := s.heap.update l (Obj.mapSeq f), toks := t' } := by
  have q := PySem.IsL.update e f
  rw [hf] at q
  refine I.write (x := l) (e := l) (by rw [hH]; exact trivial) (.inl rfl) (fun b' u hb hu => (Heap.get?_update_other s.heap (Obj.mapSeq f) (Ne.symm hb)).trans hu) ⟨_, q⟩ ?_
  exact ⟨hz, its', _, hv, q⟩
theorem Inv.lnew {its : List Value} {t' : Nat} (I : Inv X pins σ H s) (hv : Vals ys its) (hz : ys.length ≤ sizeLine) :
    Inv X pins σ (upd H s.heap.objs.size (.lst ys)) { s with heap := s.heap.push { cls := .type "list", data := .seq its.toArray }, toks := t' } :=
  I.laid (fun _ _ q => Heap.get?_push_of_some _ q) (Nat.le_refl _) ⟨hz, its, 0, hv, Heap.get?_push_size _ rfl⟩
theorem Inv.fresh (I : Inv X pins σ H s) : H s.heap.objs.size = none := I.hok.fresh (Nat.le_refl _)
theorem Inv.lstM (I : Inv X pins σ H s) (hH : H l = some (.lst xs)) : xs.length ≤ sizeLine ∧ ∃ (its : List Value) (n : Nat), Vals xs its ∧ xs.length = its.length ∧ s.heap.get? l = some { cls := .type "list", data := .seq its.toArray n } := by
  obtain ⟨z, its, n, r, e⟩ := I.hok l _ hH
  exact ⟨z, its, n, r, r.length, e⟩

theorem notLongL {n : Nat} (h : n ≤ sizeLine) : Builtin.List.listTooLong n = false := by
  unfold Builtin.List.listTooLong
  exact decide_eq_false (by omega)
end

section
variable {X : Cx}

/-! ### methods -/
def rAppend : V → List V → Hp → VK → Prop := fun x vs H Q => ∃ l xs y, x = .ref l ∧ vs = [y] ∧ H l = some (.lst xs) ∧ xs.length < sizeLine ∧ Q .non (upd H l (.lst (xs ++ [y])))
theorem mt_append : MtM X "list.append" rAppend := by
  intro pins s σ H x vs v us Q I rx rv h
  obtain ⟨l, xs, y, rfl, rfl, hH, hz, q⟩ := h
  cases rx
  obtain ⟨u, rfl, ru⟩ := rv.one
  obtain ⟨z, its, n, r, hl, e⟩ := I.lstM hH
  refine call_meets F.slot_list_append ⟨_, e, rfl⟩ F.entry_list_append (F.args_list_append_2 _ _) (PySem.list_append l its.toArray n u (by rw [List.size_toArray]; omega)) ⟨e, ?_⟩
  refine ⟨.non, _, I.lset (its' := its ++ [u]) hH e (by simp) (r.append (.cons ru .nil)) ?_, rfl, q⟩
  rw [List.length_append, List.length_singleton]
  omega

def rExtend : V → List V → Hp → VK → Prop := fun x vs H Q => ∃ l b xs zs, x = .ref l ∧ vs = [.ref b] ∧ H l = some (.lst xs) ∧ H b = some (.lst zs) ∧ xs.length + zs.length ≤ sizeLine ∧ Q .non (upd H l (.lst (xs ++ zs)))
theorem mt_extend : MtM X "list.extend" rExtend := by
  intro pins s σ H x vs v us Q I rx rv h
  obtain ⟨l, b, xs, zs, rfl, rfl, hH, hB, hz, q⟩ := h
  cases rx
  obtain ⟨u, rfl, ru⟩ := rv.one
  cases ru
  obtain ⟨z, its, n, r, hl, e⟩ := I.lstM hH
  obtain ⟨z2, its2, n2, r2, hl2, e2⟩ := I.lstM hB
  have hsz : its.toArray.size + its2.toArray.size ≤ sizeLine := by rw [List.size_toArray, List.size_toArray]; omega
  have hlong : ¬ (!its.toArray.isEmpty && Builtin.List.listTooLong (its.toArray.size + its2.toArray.size)) = true := by
    rw [notLongL hsz, Bool.and_false]
    exact Bool.false_ne_true
  refine call_meets F.slot_list_extend ⟨_, e, rfl⟩ F.entry_list_extend (F.args_list_extend_2 _ _)
    (AutoSeq1.list_extend_list_list_0 l its.toArray n b its2.toArray n2 hlong (by rw [List.size_toArray]; omega) (by omega)) ⟨e, e2, ?_⟩
  refine ⟨.non, _, I.lset (its' := its ++ its2) hH e (by simp) (r.append r2) ?_, rfl, q⟩
  rw [List.length_append]
  omega

/-! ### list + list, list += list, list * int -/
def rCat : R2 := fun x y H Q => ∃ l b xs zs, x = .ref l ∧ y = .ref b ∧ H l = some (.lst xs) ∧ H b = some (.lst zs) ∧ xs.length + zs.length ≤ sizeLine ∧ ∀ p, H p = none → Q (.ref p) (upd H p (.lst (xs ++ zs)))
theorem op_cat : OpR X (binaryOp .Add) rCat := by
  intro pins s σ H x y v u Q I rx ry h
  obtain ⟨l, b, xs, zs, rfl, rfl, hH, hB, hz, q⟩ := h
  cases rx
  cases ry
  obtain ⟨z, its, n, r, hl, e⟩ := I.lstM hH
  obtain ⟨z2, its2, n2, r2, hl2, e2⟩ := I.lstM hB
  refine PySem.P.add_list e e2 ?_ (by rw [List.size_toArray, List.size_toArray]; omega)
  have ea : its.toArray ++ its2.toArray = (its ++ its2).toArray := by simp
  rw [ea]
  exact ⟨.ref _, _, I.lnew (t' := s.toks) (r.append r2) (by rw [List.length_append]; omega), rfl, q _ I.fresh⟩
/-! ### del xs[i] -/
end

/-! ### xs[a:b] = ys -/
section
variable {prog : Program} {w : World} {A : Around} {E : Value → Shared → Prop} {s : Shared}
end

section
variable {X : Cx}
end
end L2

namespace Att
open PySem PySem.W PySem.Calls PyProof.Rows

/-! ### the script -/
theorem ints_of_wellAll {P : Params} {h : Heap} : ∀ (ns : List Int) (vs : List Value), WellAll P h vs (ns.map WData.int) → IntsAre vs ns := by
  intro ns
  induction ns with
  | nil =>
    intro vs w
    rw [List.map_nil] at w
    cases w
    exact .nil
  | cons n ns ih =>
    intro vs w
    rw [List.map_cons] at w
    cases w with
    | cons a b =>
      cases a
      exact .cons _ _ (ih _ b)

theorem script_of {l : OpenLaw} {n : Nat} (hn : l.most = some n) {P : Params} {h : Heap} {args : List WData} {vals : List Value}
    (hpre : l.row.toRowW.claim.pre args = true) (hwl : WellAll P h vals args) :
    ∃ a vs ns, vals = [Value.ref a] ∧ args = [WData.list (ns.map WData.int)] ∧ h.get? a = some { cls := .type "list", data := .seq vs.toArray } ∧ IntsAre vs ns ∧ ns.length ≤ n := by
  have hsh : WShape.hasAll [] args [.list .int] = true := (pre_splitW hpre).1
  have hc : l.pre.holds [] { args := args } = true := (pre_splitW hpre).2
  obtain ⟨d, r, rfl, h1, h2⟩ := hasAllW_cons hsh
  obtain rfl := hasAllW_nil h2
  obtain ⟨xs, rfl, h3⟩ := hasW_list h1
  obtain ⟨ns, rfl⟩ := items_int h3
  have hlen : ns.length ≤ n := by
    unfold OpenLaw.pre at hc
    have h4 : (WTm.not (.lt (.lit (.int (n : Int))) (.len (.arg 0)))).holds [] { args := [.list (ns.map .int)] } = true := by
      have h4 := (holds_andW hc).1
      rw [hn] at h4
      exact h4
    have h5 := condW_of h4 (w_not (w_lt w_lit (w_len_list (w_arg rfl))))
    rw [List.length_map] at h5
    refine Nat.le_of_not_lt fun q => ?_
    have q' : (n : Int) < ((ns.length : Nat) : Int) := by omega
    first
      | (rw [decide_eq_true q'] at h5; exact absurd h5 (by decide))
      | (simp at h5; omega)
  cases hwl with
  | cons w1 w2 =>
    cases w2
    cases w1 with
    | list ho hall => exact ⟨_, _, ns, rfl, rfl, ho, ints_of_wellAll ns _ hall, hlen⟩

theorem post_true (l : OpenLaw) (args : List WData) : l.row.toRowW.claim.post args (.bool true) args = true :=
  postW_of (r := l.row.toRowW) (X := (true == true))
    (show WShape.has [] (.bool true) .bool = true by first | rfl | decide | simp [WShape.has, WShape.arms, WShape.armsAll])
    (show (WTm.eq .res (.lit (.bool true))).value [] { args := args, res := some (.bool true), after := args } = some (.bool (true == true)) from w_eq_bool (w_res rfl) w_lit) rfl

/-! ### the attachment: holds_open's last premise (the goal 'hc' behind k_head) from a wpAny of the law's body -/
/-- the same from a codeAny of the CALL (for a layer whose function contracts speak of calls) -/
theorem attach_call {l : OpenLaw} {n : Nat} {q : Program} {loose : List Str} {XP : (Str → Option Value) → Heap → Prop} {YP : World → Heap → Prop} {d : DefRec}
    (hn : l.most = some n) (hdf : d.params.defaults = [])
    (call : ∀ (w : World) (s₀ s₁ : Shared) (mg mb : Str → Option Value) (fa : Addr) (o : Obj) (pm cd doc : Value) (a : Addr) (vs : List Value) (ns : List Int),
      Ground q loose [] XP w s₀ mg mb s₁.heap → YP w s₁.heap →
      s₁.heap.get? fa = some o → o.data = .func (docDef d.name d.params d.body d.scope pm cd doc) → s₁.heap.CodeRec cd d.name → mg d.name = some (.ref fa) →
      s₁.heap.get? a = some { cls := .type "list", data := .seq vs.toArray } → IntsAre vs ns → ns.length ≤ n → s₁.gens = #[] →
      codeAny (model l.prog w) callerA (.call (.ref fa) ⟨[.ref a], []⟩) (fun r s' => r = .ok (.ret (.bool true)) ∧ OldK s₁.heap s'.heap ∧ s'.os = s₁.os ∧ AllBare s'.gens) s₁) :
    WalkO q loose XP YP l.row.toRowW d [] (fun f vs => PySem.call f vs) := by
  intro w s₀ s₁ mg mb G Y fa o pm cd doc dV kV ho hd hcd hD hmg hg args vals as hpre hlay hrd hwl hlo
  obtain rfl : dV = .none := Dflts.none hD hdf
  obtain rfl : kV = .none := Dflts.noKw hD
  obtain ⟨a, vs, ns, rfl, rfl, hobj, hints, hlen⟩ := script_of hn hpre hwl
  refine enter_call (codeAny_mono (call w s₀ s₁ mg mb fa o pm cd doc a vs ns G Y ho (fd_plain hd) hcd hmg hobj hints hlen hg) fun r s' hq => ?_)
  obtain ⟨rfl, h2, h3, h4⟩ := hq
  exact ⟨.inl ⟨.bool true, .bool true, [], rfl, fun _ => rfl, .bool true, post_true l _, fun _ => ⟨List.Pairwise.nil, fun _ hm => (nomatch hm)⟩⟩, h2, h3, h4⟩

/-! ### rules over ANY heap (no ledger) from facts about the written part K: the library's own take a ledger (News) for what they write -/
section
variable {prog : Program} {w : World} {A : Around} {E : Value → Shared → Prop} {s : Shared} {K : Frag}

/-! the whole heap as the ledger: makes every rule that writes through a ledger a rule over any heap -/
end
end Att

namespace L2
open PySem PySem.Spec PyProof.Rows

theorem vals_ints : ∀ {vs : List Value} {ns : List Int}, IntsAre vs ns → Vals (ns.map V.int) vs
  | _, _, .nil => .nil
  | _, _, .cons n t h => .cons ⟨t, rfl⟩ (vals_ints h)

/-- nothing is tracked but the script, known to the object (or it is an object of the module) -/
def Only (H : Hp) : Prop := ∀ b, H b = none ∨ ∃ o xs, H b = some (.frz o (.lst xs))

/-- THE HEAD: the law's promise, at the heap behind the top. F, the promise of the law's def, may use that base is part of the heap (so K.In base, base.Ns mainGlobals mg stand in Mod) -/
theorem law_call {P : Program} {w : World} {K : PySem.W.Frag} {mg mb : Str → Option Value} {CX : CXT} {k : Nat} {fa a : Addr} {fd : FuncData} {x : Str} {sp : Sp} {s₁ : Shared} {vs : List Value} {ns : List Int}
    (KX : K.In s₁.heap) (hns : s₁.heap.Ns mainGlobals mg) (hb : s₁.heap.Ns builtinsNs mb) (hbb : ∀ x : Str, x ≠ "__name__" → mb x = bootBuiltins x) (hlim : s₁.heap.NoLimit) (hg : s₁.gens = #[])
    (ha : s₁.heap.get? a = some { cls := .type "list", data := .seq vs.toArray }) (hi : IntsAre vs ns) (hl : ns.length ≤ sizeLine) (hr : Room k callerA)
    (F : ∀ base : Heap, K.In base → base.Ns mainGlobals mg → FnOk P w K mg base CX k fa fd [x] sp) (hbind : ∀ (s : Shared) (u : Value), BindsTo s fd ⟨[u], []⟩ [(x, u)])
    (hsp : ∀ H : Hp, Only H → SqL K H a (ns.map V.int) → sp [.ref a] H (fun v _ => v = .bl true) fun _ _ _ => False)
    (hCX : ∀ H e s', CX [] H s₁ (fun _ _ _ => False) e s' → False) :
    codeAny (model P w) callerA (.call (.ref fa) ⟨[.ref a], []⟩) (fun r s' => r = .ok (.ret (.bool true)) ∧ OldK s₁.heap s'.heap ∧ s'.os = s₁.os ∧ AllBare s'.gens) s₁ := by
  have rv := vals_ints hi
  have lenV := hi.length
  -- from an abstract heap in which nothing but the script may be tracked
  have core : ∀ H : Hp, Only H → SqL K H a (ns.map V.int) → HOk P w H s₁.heap → (∀ b, H b ≠ none → b = a) → (H a ≠ none → K.lookup a = none) →
      codeAny (model P w) callerA (.call (.ref fa) ⟨[.ref a], []⟩) (fun r s' => r = .ok (.ret (.bool true)) ∧ OldK s₁.heap s'.heap ∧ s'.os = s₁.os ∧ AllBare s'.gens) s₁ := by
    intro H hO hS hok hA hK
    have base_of : ∀ {b : Addr} {o : Obj}, s₁.heap.get? b = some o → H b = none → (hidT s₁.heap H).get? b = some o := fun e n => hidT_get e n
    have noA : ∀ {b : Addr} {o : Obj} {es : Array DictEntry} {ep : Nat}, s₁.heap.get? b = some o → o.data = .dict es ep → H b = none := fun {b o es ep} e d => by
      cases q : H b with
      | none => rfl
      | some u =>
        have e' : b = a := hA b (by rw [q]; simp)
        subst e'
        rw [ha] at e; cases e
        have d' : Data.seq vs.toArray _ = Data.dict es ep := d
        cases d'
    have nsK : ∀ {b : Addr} {m : Str → Option Value}, s₁.heap.Ns b m → (hidT s₁.heap H).Ns b m := fun {b m} ⟨o, es, ep, e, d, r⟩ => ⟨o, es, ep, base_of e (noA e d), d, r⟩
    have hKb : K.In (hidT s₁.heap H) := fun b o e => base_of (KX b o e) (by
      cases q : H b with
      | none => rfl
      | some u =>
        have e' : b = a := hA b (by rw [q]; simp)
        subst e'
        rw [hK (by rw [q]; simp)] at e; cases e)
    have hM : Mod K mg (hidT s₁.heap H) := ⟨hKb, nsK hns, ⟨mb, nsK hb, hbb⟩, let ⟨mc, h1, h2⟩ := hlim; ⟨mc, nsK h1, h2⟩⟩
    have e0 : Env0 P w K mg (hidT s₁.heap H) callerA [] s₁ H := ⟨rfl, hM, fun b o e => of_hidT e, Nat.le_of_eq (hidT_size _ _), trivial, fun b hb => absurd (show b ∈ ([] : List Addr) from hb) (by simp), hok, .of_eq hg⟩
    refine codeAny_mono ((F _ hKb (nsK hns)).run callerA [] s₁ H ⟨[.ref a], []⟩ [.ref a] [.ref a] _ _ hr e0 (hbind s₁ (.ref a)) (.cons rfl .nil) (hsp H hO hS)) fun r s' h => ?_
    cases r with
    | error e => exact (hCX H e s' h).elim
    | ok fl =>
      cases fl with
      | next => exact False.elim h
      | brk => exact False.elim h
      | cont => exact False.elim h
      | ret u =>
        obtain ⟨v, H', os, bare, un, hok', r', q⟩ := h
        have q' : v = .bl true := q
        subst q'
        obtain rfl : u = Value.bool true := r'
        refine ⟨rfl, OldK.of_keep fun b o e => ?_, os, bare⟩
        cases q : H b with
        | none => exact un.keep b o e q (by intro z; exact absurd (show b ∈ ([] : List Addr) from z) (by simp)) (by simp)
        | some u =>
          rcases hO b with z | ⟨ob, xs, z⟩
          · rw [q] at z; cases z
          · have z2 := un.frzs b ob _ z
            obtain ⟨e1, _⟩ := hok b _ z
            obtain ⟨e2, _⟩ := hok' b _ z2
            rw [e] at e1; cases e1
            exact e2
  cases hk : K.lookup a with
  | some o =>
    -- the script is one of the module's own objects
    have e := KX a o hk
    rw [ha] at e
    cases e
    refine core (fun _ => none) (fun _ => .inl rfl) (.inr ⟨_, vs.toArray, _, hk, rfl, rfl, rfl, by rw [List.size_toArray, lenV]; exact hl, by simpa using rv⟩) (fun b u z => by have z' : (none : Option HO) = some u := z; cases z') (fun b z => absurd rfl z) fun z => absurd rfl z
  | none =>
    refine core (fun b => if b = a then some (.frz { cls := .type "list", data := .seq vs.toArray } (.lst (ns.map V.int))) else none) (fun b => ?_) (.inl (.inr ⟨{ cls := .type "list", data := .seq vs.toArray }, if_pos rfl⟩)) (fun b u z => ?_) (fun b z => ?_) fun _ => hk
    · by_cases hb : b = a
      · exact .inr ⟨_, _, if_pos hb⟩
      · exact .inl (if_neg hb)
    · by_cases hb : b = a
      · have z' := (if_pos hb).symm.trans z
        cases z'
        subst hb
        exact ⟨ha, by rw [List.length_map]; exact hl, vs, _, rv, ha⟩
      · have z' := (if_neg hb).symm.trans z
        cases z'
    · by_cases hb : b = a
      · exact hb
      · exact absurd (if_neg hb) z
end L2

namespace L2
open PySem PySem.Spec PyProof.Rows

/-- the goal that k_head leaves (case hc), from the law's promise. F gives the function object fd (K's own) once, then the promise over every base -/
theorem walk_of {l : PySem.W.OpenLaw} {n k : Nat} {q : Program} {loose : List Str} {XP : (Str → Option Value) → Heap → Prop} {YP : World → Heap → Prop} {d : DefRec} {K : Params → PySem.W.Frag} {CX : World → CXT} {sp : World → Sp} {x : Str}
    (hn : l.most = some n) (hn2 : n ≤ sizeLine) (hdf : d.params.defaults = []) (hr : Room k callerA)
    (hY : ∀ (w : World) (h : Heap), YP w h → (K w.params).In h)
    (F : ∀ (w : World) (mg : Str → Option Value) (fa : Addr) (h : Heap), (K w.params).In h → h.Ns mainGlobals mg → mg d.name = some (.ref fa) →
      ∃ fd : FuncData, (∀ (s : Shared) (u : Value), BindsTo s fd ⟨[u], []⟩ [(x, u)]) ∧
        ∀ base : Heap, (K w.params).In base → base.Ns mainGlobals mg → FnOk l.prog w (K w.params) mg base (CX w) k fa fd [x] (sp w))
    (hsp : ∀ (w : World) (H : Hp) (a : Addr) (ns : List Int), ns.length ≤ n → Only H → SqL (K w.params) H a (ns.map V.int) → sp w [.ref a] H (fun v _ => v = .bl true) fun _ _ _ => False)
    (hCX : ∀ (w : World) (H : Hp) (s : Shared) (e : Value) (s' : Shared), CX w [] H s (fun _ _ _ => False) e s' → False) :
    PySem.W.WalkO q loose XP YP l.row.toRowW d [] (fun f vs => PySem.call f vs) := by
  refine Att.attach_call hn hdf fun w s₀ s₁ mg mb fa o pm cd doc a vs ns G Y ho hd hcd hmg hobj hints hlen hg => ?_
  have KX := hY w _ Y
  obtain ⟨fd, hb, hF⟩ := F w mg fa _ KX G.T.g hmg
  exact law_call KX G.T.g G.T.b G.T.builtins G.T.nolimit hg hobj hints (Nat.le_trans hlen hn2) hr hF hb (fun H hO hS => hsp w H a ns hlen hO hS) fun H e s' => hCX w H s₁ e s'
end L2

/- THE LAST THEOREM (shape; LID, My.* are yours):
   My.Adr: a structure of the addresses that your layer names (classes, functions); My.Txt K t: a structure (Prop) of the equations over K;
   My.txt_mk : {K} {implicit addresses ..} (e1 : nsIn K mainGlobals "law" = some (some (.ref f))) (e2 : K.lookup f = some ⟨oc, od, .func (fnOf "law" "law" params body scope dV kV doc pm an cdv ct), sl⟩) (e3 : codeIn K cdv "law" = true) .. : ∃ t, My.Txt K t

(the tactic k_is has no namespace: write k_is) -/

/-! SHORT WORDS over the layer: a def of the text, its body, what a loop and a test want. -/
namespace L2
open PySem PySem.Spec PyProof.Rows

/-! ### the text by places -/
def defArgs (s : Stmt) : Arguments := match s with
  | .FunctionDef _ a _ _ _ _ _ _ _ _ => a
  | _ => { posonlyargs := [], args := [], vararg := none, kwonlyargs := [], kw_defaults := [], kwarg := none, defaults := [] }
def defBody (s : Stmt) : List Stmt := match s with
  | .FunctionDef _ _ b _ _ _ _ _ _ _ => b
  | _ => []
def defScope (s : Stmt) : Scope := match s with
  | .FunctionDef _ _ _ _ _ _ sc _ _ _ => sc
  | _ => { kind := .function, names := [], isGenerator := false, isCoroutine := false }

/-! ### no exception leaves a def -/
abbrev CX0 : CXT := fun _ _ _ _ _ _ => False
abbrev E0 : XK := fun _ _ _ => False
theorem pass0 {X : Cx} : Passes CX0 X E0 := fun _ _ _ _ _ _ _ h => h.elim

/-! ### a def (or method) of the text as it stands behind the top -/
structure Fun (K : PySem.W.Frag) (x qual : Str) (st : Stmt) (f : Addr) (fd : FuncData) : Prop where
  ex : ∃ (oc : Value) (od : Option Addr) (kV doc pm : Value) (an : Option Addr) (cdv ct : Value) (osl : Array (Option Value)),
    fd = PySem.W.fnOf x qual (defArgs st) (defBody st) (defScope st) .none kV doc pm an cdv ct ∧ K.lookup f = some ⟨oc, od, .func fd, osl⟩ ∧ PySem.W.codeIn K cdv qual = true
  kp : PySem.W.keepIn K (.ref f) = true
section
variable {P : Program} {w : World} {K : PySem.W.Frag} {mg : Str → Option Value} {base : Heap}
/-- THE RULE for a def: its body as a term of rules, and the reading of that term -/
theorem Fun.ok {x qual : Str} {st : Stmt} {f : Addr} {fd : FuncData} {N ps : List Str} {k : Nat} {sp : Sp} (F : Fun K x qual st f fd) (S : FnScope N ps (defScope st)) (len : ∀ vs H Q E, sp vs H Q E → vs.length = ps.length)
    (hbody : ∀ (cdv : Value) (A : Around) (outer : List Env) (s : Shared) (H : Hp) (vs : List V) (Q : VK) (E : XK), Room k (A.deeper (envOfC qual (defScope st) s.heap.objs.size f cdv)) → sp vs H Q E →
      ∃ t, PSs (cxOf CX0 P w K mg base N qual (defScope st) f cdv A outer s H E).nox (defBody st) t ∧ t { nx := fun _ H' => Q .non H', rt := Q } (start N vs) H) : FnOk P w K mg base CX0 (k + 1) f fd ps sp := by
  obtain ⟨oc, od, kV, doc, pm, an, cdv, ct, osl, rfl, lk, hcd⟩ := F.ex
  refine fn_of lk hcd S len fun A outer s H vs Q E hr hsp => ?_
  obtain ⟨t, h, q⟩ := hbody cdv A outer s H vs Q E hr hsp
  exact ⟨t, h.nox, q⟩
/-- how its arguments bind (no defaults): h is «fun _ _ _ _ _ _ us hl => match us, hl with | [_, _], _ => rfl», one _ a parameter -/
theorem Fun.binds {x qual : Str} {st : Stmt} {f : Addr} {fd : FuncData} {ps : List Str} (F : Fun K x qual st f fd)
    (h : ∀ (kV doc pm : Value) (an : Option Addr) (cdv ct : Value) (us : List Value), us.length = ps.length → bindArgs (PySem.W.fnOf x qual (defArgs st) (defBody st) (defScope st) .none kV doc pm an cdv ct) ⟨us, []⟩ = pure (ps.zip us)) : Binds K fd ps [] := by
  obtain ⟨oc, od, kV, doc, pm, an, cdv, ct, osl, rfl, lk, hcd⟩ := F.ex
  exact .all (h kV doc pm an cdv ct)
theorem fun_mk {x qual : Str} {st : Stmt} {f : Addr} {oc : Value} {od an : Option Addr} {osl : Array (Option Value)} {kV doc pm cdv ct : Value} (l : K.lookup f = some ⟨oc, od, .func (PySem.W.fnOf x qual (defArgs st) (defBody st) (defScope st) .none kV doc pm an cdv ct), osl⟩)
    (c : PySem.W.codeIn K cdv qual = true) (k : PySem.W.keepIn K (.ref f) = true) : Fun K x qual st f (PySem.W.fnOf x qual (defArgs st) (defBody st) (defScope st) .none kV doc pm an cdv ct) := ⟨⟨oc, od, kV, doc, pm, an, cdv, ct, osl, rfl, l, c⟩, k⟩
end
/-! ### expressions in short: the name that stands in the i-th slot -/
section
variable {X : Cx}
theorem pv (i : Nat) {x : Str} {pos : Pos} (hN : X.N[i]? = some x := by rfl) (hv : Vis X.env.scope x := by first | exact Or.inl rfl | exact Or.inr (Or.inl rfl) | exact Or.inr (Or.inr rfl)) (hd : (x == ("__debug__" : Str)) = false := by decide)
    (hcd : (x == ("__classdict__" : Str)) = false := by decide) : PE X (.Name x pos) (tVar i) := pe_var hN hv hd hcd
end

/-! ### tests -/
theorem iteF {A B : Prop} (h : B) : if false = true then A else B := by
  rw [if_neg Bool.false_ne_true]
  exact h
theorem iteT {A B : Prop} (h : A) : if true = true then A else B := by
  rw [if_pos rfl]
  exact h
theorem ite2 {c A B : Prop} [Decidable c] (h1 : c → A) (h2 : ¬ c → B) : if c then A else B := by
  by_cases h : c
  · rw [if_pos h]
    exact h1 h
  · rw [if_neg h]
    exact h2 h
/-! ### heaps -/
/-- all that was tracked is as it was -/
def Same (H H' : Hp) : Prop := ∀ b o, H b = some o → H' b = some o
theorem Same.refl (H : Hp) : Same H H := fun _ _ h => h
theorem Same.trans {H H1 H2 : Hp} (a : Same H H1) (b : Same H1 H2) : Same H H2 := fun c o h => b c o (a c o h)
theorem Same.seq {K : PySem.W.Frag} {H H' : Hp} {a : Addr} {xs : List V} (e : Same H H') (h : SqL K H a xs) : SqL K H' a xs := by
  rcases h with (h | ⟨o, h⟩) | h
  · exact .inl (.inl (e _ _ h))
  · exact .inl (.inr ⟨o, e _ _ h⟩)
  · exact .inr h

end L2

set_option Elab.async false
set_option linter.all false
namespace L2
open PySem

/-! ### a set's table: its places rise -/
abbrev Rise (xs : Array Nat) : Prop := xs.toList.Pairwise (· < ·)
theorem rise_lt {xs : Array Nat} (h : Rise xs) {i j : Nat} (hij : i < j) (hj : j < xs.size) : xs[i]'(Nat.lt_trans hij hj) < xs[j] := by
  have := (List.pairwise_iff_getElem.mp h) i j (by simpa using Nat.lt_trans hij hj) (by simpa using hj) hij
  simpa using this
theorem below_go (xs : Array Nat) (h : Rise xs) (j : Nat) : ∀ (f lo hi : Nat), hi - lo ≤ f → lo ≤ hi → hi ≤ xs.size → (∀ i (hi' : i < xs.size), i < lo → xs[i] < j) → (∀ i (hi' : i < xs.size), hi ≤ i → j ≤ xs[i]) →
    SetTable.below.go xs j f lo hi ≤ xs.size ∧ (∀ i (hi' : i < xs.size), i < SetTable.below.go xs j f lo hi → xs[i] < j) ∧ (∀ i (hi' : i < xs.size), SetTable.below.go xs j f lo hi ≤ i → j ≤ xs[i])
  | 0, lo, hi, hf, hl, hs, h1, h2 => by
    have e : lo = hi := by omega
    unfold SetTable.below.go
    exact ⟨by omega, h1, fun i hi' q => h2 i hi' (by omega)⟩
  | f + 1, lo, hi, hf, hl, hs, h1, h2 => by
    unfold SetTable.below.go
    by_cases hlt : lo < hi
    · rw [if_pos hlt]
      have hm : (lo + hi) / 2 < xs.size := by omega
      have hg : xs.getD ((lo + hi) / 2) j = xs[(lo + hi) / 2] := by simp [Array.getD, hm]
      dsimp only
      rw [hg]
      by_cases hc : xs[(lo + hi) / 2] < j
      · rw [if_pos hc]
        refine below_go xs h j f _ _ (by omega) (by omega) hs (fun i hi' q => ?_) h2
        rcases Nat.lt_or_ge i ((lo + hi) / 2) with z | z
        · exact Nat.lt_trans (rise_lt h z hm) hc
        · have e : i = (lo + hi) / 2 := by omega
          subst e
          exact hc
      · rw [if_neg hc]
        refine below_go xs h j f _ _ (by omega) (by omega) (by omega) h1 fun i hi' q => ?_
        rcases Nat.lt_or_ge ((lo + hi) / 2) i with z | z
        · exact Nat.le_trans (Nat.le_of_not_lt hc) (Nat.le_of_lt (rise_lt h z hi'))
        · have e : i = (lo + hi) / 2 := by omega
          subst e
          exact Nat.le_of_not_lt hc
    · rw [if_neg hlt]
      have e : lo = hi := by omega
      exact ⟨by omega, h1, fun i hi' q => h2 i hi' (by omega)⟩
theorem below_ok (xs : Array Nat) (h : Rise xs) (j : Nat) : SetTable.below xs j ≤ xs.size ∧ (∀ i (hi' : i < xs.size), i < SetTable.below xs j → xs[i] < j) ∧ (∀ i (hi' : i < xs.size), SetTable.below xs j ≤ i → j ≤ xs[i]) := by
  unfold SetTable.below
  exact below_go xs h j xs.size 0 xs.size (by omega) (Nat.zero_le _) (Nat.le_refl _) (fun i _ q => by omega) fun i hi' q => by omega
theorem below_at {xs : Array Nat} (h : Rise xs) {i : Nat} (hi : i < xs.size) : SetTable.below xs (xs[i] + 1) = i + 1 := by
  obtain ⟨a, b, c⟩ := below_ok xs h (xs[i] + 1)
  rcases Nat.lt_trichotomy (SetTable.below xs (xs[i] + 1)) (i + 1) with z | z | z
  · have := c i hi (by omega); omega
  · exact z
  · have h1 : i + 1 < xs.size := by omega
    have := b (i + 1) h1 z
    have := rise_lt h (show i < i + 1 by omega) h1
    omega
theorem below_zero {xs : Array Nat} (h : Rise xs) : SetTable.below xs 0 = 0 := by
  obtain ⟨a, b, c⟩ := below_ok xs h 0
  rcases Nat.eq_zero_or_pos (SetTable.below xs 0) with z | z
  · exact z
  · have := b 0 (by omega) z; omega
theorem insert_rise {xs : Array Nat} (h : Rise xs) {j : Nat} (hn : xs[SetTable.below xs j]? ≠ some j) : Rise (SetTable.insertAt xs (SetTable.below xs j) j) := by
  obtain ⟨a, b, c⟩ := below_ok xs h j
  unfold Rise
  rw [SetTable.toList_insertAt]
  have gt : ∀ i (hi : i < xs.size), SetTable.below xs j ≤ i → j < xs[i] := fun i hi q => by
    have h0 := c i hi q
    rcases Nat.lt_or_ge (SetTable.below xs j) i with z | z
    · have h1 := rise_lt h z hi
      have h2 := c _ (Nat.lt_trans z hi) (Nat.le_refl _)
      omega
    · have e : i = SetTable.below xs j := by omega
      subst e
      rcases Nat.lt_or_ge j xs[SetTable.below xs j] with y | y
      · exact y
      · exfalso
        apply hn
        rw [Array.getElem?_eq_getElem hi]
        congr 1
        omega
  refine List.pairwise_append.mpr ⟨h.sublist (List.take_sublist _ _), List.pairwise_cons.mpr ⟨fun v hv => ?_, h.sublist (List.drop_sublist _ _)⟩, fun u hu v hv => ?_⟩
  · obtain ⟨i, hi, e⟩ := List.mem_iff_getElem.mp hv
    rw [List.length_drop] at hi
    rw [List.getElem_drop] at e
    rw [← e]
    simpa using gt (SetTable.below xs j + i) (by rw [Array.length_toList] at hi; omega) (by omega)
  · obtain ⟨i, hi, e⟩ := List.mem_iff_getElem.mp hu
    rw [List.length_take] at hi
    rw [List.getElem_take] at e
    have hi2 : i < xs.size := by rw [Array.length_toList] at hi; omega
    have hlt : xs[i] < j := b i hi2 (by omega)
    have hu' : u < j := by rw [← e]; simpa using hlt
    rcases List.mem_cons.mp hv with q | q
    · rw [q]; exact hu'
    · obtain ⟨k, hk, e2⟩ := List.mem_iff_getElem.mp q
      rw [List.length_drop] at hk
      rw [List.getElem_drop] at e2
      have := gt (SetTable.below xs j + k) (by rw [Array.length_toList] at hk; omega) (by omega)
      have hv' : j < v := by rw [← e2]; simpa using this
      omega
/-- the probe ends at a slot that holds nothing -/
theorem slot_free {t : SetTable} {j : Nat} (h : t.slot j = .empty ∨ t.slot j = .dummy) : t.place[SetTable.below t.place j]? ≠ some j := by
  intro e
  have : t.slot j = .live (SetTable.below t.place j) := by
    unfold SetTable.slot
    simp [e]
  rw [this] at h
  rcases h with h | h <;> cases h
theorem probe_go (t : SetTable) (hashAt : Nat → Int) (h : Int) : ∀ (f : Nat) (p : SetTable.Probe), (∀ d, p.dummy = some d → t.slot d = .dummy) → ∀ j dm, SetTable.probe.go t hashAt h f p = some (.empty j dm) → t.slot j = .empty ∧ ∀ d, dm = some d → t.slot d = .dummy
  | 0, p, _, j, dm, e => by unfold SetTable.probe.go at e; cases e
  | f + 1, p, hp, j, dm, e => by
    unfold SetTable.probe.go at e
    have adv : ∀ q : SetTable.Probe, (t.advance q).dummy = q.dummy := fun q => by unfold SetTable.advance; split <;> rfl
    cases hs : t.slot p.j with
    | empty =>
      rw [hs] at e
      simp only [Option.some.injEq, SetTable.Met.empty.injEq] at e
      obtain ⟨rfl, rfl⟩ := e
      exact ⟨hs, hp⟩
    | dummy =>
      rw [hs] at e
      refine probe_go t hashAt h f _ (fun d hd => ?_) j dm e
      rw [adv] at hd
      simp only [Option.some.injEq] at hd
      rw [← hd]
      exact hs
    | live i =>
      rw [hs] at e
      dsimp only at e
      split at e
      · cases e
      · exact probe_go t hashAt h f _ (fun d hd => hp d (by rw [adv] at hd; exact hd)) j dm e
theorem freeSlot_free {t : SetTable} {h : Int} {j : Nat} {b : Bool} (e : t.freeSlot h = some (j, b)) : t.place[SetTable.below t.place j]? ≠ some j := by
  unfold SetTable.freeSlot at e
  split at e
  · rename_i k dm q
    obtain ⟨h1, h2⟩ := probe_go t _ h _ _ (fun d hd => by unfold SetTable.probeStart at hd; cases hd) k dm q
    cases dm with
    | none =>
      simp only [Option.getD_none, Option.some.injEq, Prod.mk.injEq] at e
      rw [← e.1]
      exact slot_free (.inl h1)
    | some d =>
      simp only [Option.getD_some, Option.some.injEq, Prod.mk.injEq] at e
      rw [← e.1]
      exact slot_free (.inr (h2 d rfl))
  · cases e
theorem range_rise (n : Nat) : Rise (Array.range n) := by
  unfold Rise
  rw [Array.toList_range]
  exact List.pairwise_lt_range
theorem layNew_rise {t : SetTable} (h : Rise t.place) (es : Array (Int × Value)) (k : Int) (x : Value) : Rise (layNew t es k x).2.1.place ∧ (layNew t es k x).2.1.led = t.led := by
  unfold layNew
  split
  · rename_i slot wd q
    dsimp only
    unfold SetTable.orStandIn
    split
    · exact ⟨insert_rise h (freeSlot_free q), rfl⟩
    · exact ⟨range_rise _, rfl⟩
  · exact ⟨range_rise _, rfl⟩
theorem relaid_rise {t t' : SetTable} {hs : Array Int} {n : Nat} {o : Array Nat} (e : t.relaid hs n = some (t', o)) : Rise t'.place ∧ t'.led = t.led := by
  unfold SetTable.relaid SetTable.laid at e
  cases q : SetTable.layClean (SetTable.sizeAbove n - 1) hs with
  | none => rw [q] at e; cases e
  | some owner =>
    rw [q] at e
    simp only [Option.bind_eq_bind, Option.bind_some, Option.pure_def, Option.some.injEq, Prod.mk.injEq] at e
    obtain ⟨rfl, _⟩ := e
    refine ⟨?_, rfl⟩
    unfold Rise
    dsimp only
    rw [List.map_filterMap]
    refine List.Pairwise.filterMap _ ?_ List.pairwise_lt_range
    intro a a' hlt b hb b' hb'
    cases ha : owner.getD a none with
    | none => rw [ha] at hb; simp at hb
    | some z =>
      cases ha' : owner.getD a' none with
      | none => rw [ha'] at hb'; simp at hb'
      | some z' =>
        rw [ha] at hb
        rw [ha'] at hb'
        simp at hb hb'
        omega
theorem relayAll_rise (t : SetTable) (h : Rise t.place) (es : Array (Int × Value)) (n : Nat) : Rise (relayAll t es n).2.1.place ∧ (relayAll t es n).2.1.led = t.led := by
  unfold relayAll
  split
  · rename_i t' o q
    dsimp only
    split
    · exact relaid_rise q
    · exact ⟨range_rise _, rfl⟩
  · exact ⟨range_rise _, rfl⟩
end L2

set_option Elab.async false
set_option linter.all false
set_option maxRecDepth 100000
namespace L2
open PySem PySem.Spec PyProof.Rows

/-! ### a set of ints: its members, its table -/
def byT (w : World) : Bool := w.params.followText "set-order"
def IntE (e : Int × Value) (k : Int) : Prop := e.1 = hashInt k ∧ ∃ t, e.2 = Value.int k t
def SetO (w : World) (o : Obj) (ks : List Int) : Prop := ∃ es ep t is, o = { cls := .type "set", dict := none, data := .set es ep t, slots := #[] } ∧ Paired IntE es.toList is ∧ is.Perm ks ∧ ks.Nodup ∧
  es.size < scanBound ∧ t.fits es.size = true ∧ Rise t.place ∧ (byT w = false → t.led = true)
def SetI (w : World) (h : Heap) (a : Addr) (ks : List Int) : Prop := ∃ o, h.get? a = some o ∧ SetO w o ks

theorem paired_mem {α β : Type} {F : α → β → Prop} : ∀ {l : List α} {m : List β}, Paired F l m → (∀ a ∈ l, ∃ b ∈ m, F a b) ∧ (∀ b ∈ m, ∃ a ∈ l, F a b)
  | _, _, .nil => ⟨fun _ h => (nomatch h), fun _ h => (nomatch h)⟩
  | _, _, .cons r t => by
    obtain ⟨h1, h2⟩ := paired_mem t
    refine ⟨fun a ha => ?_, fun b hb => ?_⟩
    · rcases List.mem_cons.mp ha with e | ha
      · rw [e]; exact ⟨_, List.mem_cons_self, r⟩
      · obtain ⟨b, hb, q⟩ := h1 a ha
        exact ⟨b, List.mem_cons_of_mem _ hb, q⟩
    · rcases List.mem_cons.mp hb with e | hb
      · rw [e]; exact ⟨_, List.mem_cons_self, r⟩
      · obtain ⟨a, ha, q⟩ := h2 b hb
        exact ⟨a, List.mem_cons_of_mem _ ha, q⟩
theorem paired_perm {α β : Type} {F : α → β → Prop} {l l' : List α} (p : l.Perm l') : ∀ {m : List β}, Paired F l m → ∃ m', Paired F l' m' ∧ m.Perm m' := by
  induction p with
  | nil => intro m h; exact ⟨m, h, .rfl⟩
  | cons x _ ih =>
    intro m h
    cases h with
    | cons r t =>
      obtain ⟨m', h', q⟩ := ih t
      exact ⟨_, .cons r h', .cons _ q⟩
  | swap x y l =>
    intro m h
    cases h with
    | cons r t =>
      cases t with
      | cons r2 t2 => exact ⟨_, .cons r2 (.cons r t2), .swap _ _ _⟩
  | trans _ _ ih1 ih2 =>
    intro m h
    obtain ⟨m1, h1, q1⟩ := ih1 h
    obtain ⟨m2, h2, q2⟩ := ih2 h1
    exact ⟨m2, h2, q1.trans q2⟩
theorem paired_len {α β : Type} {F : α → β → Prop} : ∀ {l : List α} {m : List β}, Paired F l m → l.length = m.length
  | _, _, .nil => rfl
  | _, _, .cons _ t => by rw [List.length_cons, List.length_cons, paired_len t]
theorem paired_snoc {α β : Type} {F : α → β → Prop} {a : α} {b : β} : ∀ {l : List α} {m : List β}, Paired F l m → F a b → Paired F (l ++ [a]) (m ++ [b])
  | _, _, .nil, r => .cons r .nil
  | _, _, .cons q t, r => .cons q (paired_snoc t r)
theorem paired_get {α β : Type} {F : α → β → Prop} : ∀ {l : List α} {m : List β} {i : Nat} {a : α}, Paired F l m → l[i]? = some a → ∃ b, m[i]? = some b ∧ F a b
  | _, _, _, _, .nil, e => by simp at e
  | _, _, 0, _, .cons r _, e => by simp at e; subst e; exact ⟨_, rfl, r⟩
  | _, _, i + 1, a, .cons _ t, e => by
    obtain ⟨b, h1, h2⟩ := paired_get (i := i) (a := a) t (by simpa using e)
    exact ⟨b, by simpa using h1, h2⟩

section
variable {prog : Program} {w : World} {A : Around} {E : Value → Shared → Prop} {s : Shared}
theorem elems_of {es : List (Int × Value)} {ks : List Int} (p : Paired IntE es ks) : ElemsOf (intKind prog w) es := fun e he => by
  obtain ⟨k, _, h1, t, h2⟩ := (paired_mem p).1 e he
  refine ⟨⟨k, ?_, h1⟩, by rw [h2]; rfl⟩
  rw [h2]
  exact intKind_is _ _ _ _
theorem find_none {es : List (Int × Value)} {ks : List Int} (p : Paired IntE es ks) {k : Int} (h : k ∉ ks) : es.findIdx? (fun e => (intKind prog w).is k e.2) = none := by
  rw [List.findIdx?_eq_none_iff]
  intro e he
  obtain ⟨k', hk', h1, t, h2⟩ := (paired_mem p).1 e he
  rw [h2]
  have hne : k ≠ k' := fun z => h (z ▸ hk')
  show Value.isInt k (.int k' t) = false
  simp [Value.isInt, Ne.symm hne]
theorem find_some {es : List (Int × Value)} {ks : List Int} (p : Paired IntE es ks) {k : Int} (h : k ∈ ks) : ∃ j, es.findIdx? (fun e => (intKind prog w).is k e.2) = some j := by
  cases q : es.findIdx? (fun e => (intKind prog w).is k e.2) with
  | some j => exact ⟨j, rfl⟩
  | none =>
    obtain ⟨e, he, h1, t, h2⟩ := (paired_mem p).2 k h
    have := List.findIdx?_eq_none_iff.mp q e he
    rw [h2] at this
    have z : (intKind prog w).is k (.int k t) = true := intKind_is _ _ _ _
    rw [z] at this
    cases this

theorem store_I {a : Addr} {es es' : Array (Int × Value)} {ep : Nat} {t t' : SetTable} {Q : Unit → Shared → Prop} (ho : s.heap.get? a = some { cls := .type "set", dict := none, data := .set es ep t, slots := #[] }) (hz : es'.size < scanBound)
    (h : ∀ h', Heap.SameBut a s.heap h' → h'.get? a = some { cls := .type "set", dict := none, data := .set es' (ep + 1) t', slots := #[] } → Q () { s with heap := h' }) : wpAny (model prog w) A (storeSet a es' t') Q E s := by
  refine wpAny_storeSet_of ho rfl (h _ (Heap.SameBut.update ..) ?_) (fits_of_scanBound hz)
  have e := Heap.get?_update_self (Obj.putSet es' t') ho (by rw [putSet_of es' t' rfl]; rfl)
  rw [putSet_of es' t' rfl] at e
  exact e

set_option maxHeartbeats 1000000 in
theorem setAdd_I {a : Addr} {ks : List Int} {k : Int} {tk : Tok} {Q : Bool → Shared → Prop} (hS : SetI w s.heap a ks) (room : ks.length + 1 < scanBound)
    (h : ∀ b h', Heap.SameBut a s.heap h' → SetI w h' a (if k ∈ ks then ks else ks ++ [k]) → Q b { s with heap := h' }) : wpAny (model prog w) A (setAddHashed a (.int k tk) (hashInt k)) Q E s := by
  obtain ⟨o, ho, es, ep, t, is, rfl, p, pm, nd, hb, hf, hr, hl⟩ := hS
  have el : ElemsOf (intKind prog w) es.toList := elems_of p
  have hsz : es.size = ks.length := by rw [← pm.length_eq, ← paired_len p, Array.length_toList]
  have hkey : (intKind prog w).is k (.int k tk) = true := intKind_is _ _ _ _
  unfold setAddHashed setAddHashedIn
  refine wpAny_holding (wpAny_bind (wpAny_setState_of ho rfl hf ?_))
  dsimp only
  rw [byScan_of (knd := intKind prog w) (x := .int k tk) rfl hb el]
  simp only [if_true]
  unfold setAddByScan
  refine wpAny_bind (wpAny_bind (wpAny_rule ?_))
  refine wpAny_bind (wpAny_setScan_of (knd := intKind prog w) (k := k) hkey ho rfl hf el ?_)
  by_cases hk : k ∈ ks
  · obtain ⟨j, hj⟩ := find_some (prog := prog) (w := w) p (pm.mem_iff.mpr hk)
    rw [hj]
    refine wpAny_pure (wpAny_pure ?_)
    have := h false s.heap (Heap.SameBut.refl a s.heap) (by rw [if_pos hk]; exact ⟨_, ho, es, ep, t, is, rfl, p, pm, nd, hb, hf, hr, hl⟩)
    exact this
  · rw [find_none (prog := prog) (w := w) p (fun z => hk (pm.mem_iff.mp z))]
    rw [if_neg hk] at h
    have ndk : (ks ++ [k]).Nodup := List.nodup_append.mpr ⟨nd, by simp, fun u hu v hv z => hk (by rw [List.mem_singleton] at hv; rw [← hv, ← z]; exact hu)⟩
    have lp := layNew_perm t es (hashInt k) (.int k tk)
    have lf := layNew_fits t es (hashInt k) (.int k tk)
    obtain ⟨lr, ll⟩ := layNew_rise hr es (hashInt k) (.int k tk)
    dsimp only
    generalize hL : layNew t es (hashInt k) (Value.int k tk) = L at lp lf lr ll ⊢
    obtain ⟨es1, t1, wd, gv⟩ := L
    dsimp only at lp lf lr ll ⊢
    have p1 : Paired IntE (es.push (hashInt k, Value.int k tk)).toList (is ++ [k]) := by
      rw [Array.toList_push]
      exact paired_snoc p ⟨rfl, tk, rfl⟩
    obtain ⟨is1, q1, pm1⟩ := paired_perm lp.symm p1
    have pm1' : is1.Perm (ks ++ [k]) := pm1.symm.trans (pm.append_right [k])
    have hsz1 : es1.size = ks.length + 1 := by rw [← Array.length_toList, lp.length_eq, Array.length_toList, Array.size_push, hsz]
    have hb1 : es1.size < scanBound := by omega
    have hg : ∀ (b : Bool) {s₁ : Shared} {Q' : Unit → Shared → Prop}, Q' () s₁ → wpAny (model prog w) A (match b with | true => rule "set.scan.the-table-gave-way" | false => pure ()) Q' E s₁ := fun b s₁ Q' z => by cases b <;> first | exact wpAny_pure z | exact wpAny_rule z
    refine wpAny_bind (hg gv ?_)
    have ret : ∀ {b : Bool} {s' : Shared} {P : Bool → Shared → Prop}, P b s' → wpAny (model prog w) A (match some b with | some added => pure added | none => setAddHashedIn a (.int k tk) (hashInt k) 99999) P E s' := fun z => wpAny_pure z
    have fin : wpAny (model prog w) A (do
        storeSet a es1 t1
        if (!wd && t1.tooFull) = true then do
            (match (relayAll t1 es1 (SetTable.grown es1.size)).2.2 with | true => rule "set.scan.the-table-gave-way" | false => pure ())
            storeSet a (relayAll t1 es1 (SetTable.grown es1.size)).1 (relayAll t1 es1 (SetTable.grown es1.size)).2.1
            pure (some true)
          else pure (some true)) (fun r s' => r = some true ∧ ∃ h', Heap.SameBut a s.heap h' ∧ SetI w h' a (ks ++ [k]) ∧ s' = { s with heap := h' }) E s := by
      refine wpAny_bind (store_I ho hb1 fun h1 sb1 o1 => ?_)
      split
      · have rp := relayAll_perm t1 es1 (SetTable.grown es1.size)
        have rf := relayAll_fits t1 es1 (SetTable.grown es1.size)
        obtain ⟨rr, rl⟩ := relayAll_rise t1 lr es1 (SetTable.grown es1.size)
        generalize relayAll t1 es1 (SetTable.grown es1.size) = R at rp rf rr rl ⊢
        obtain ⟨es2, t2, gv2⟩ := R
        dsimp only at rp rf rr rl ⊢
        obtain ⟨is2, q2, pm2⟩ := paired_perm rp.symm q1
        have hsz2 : es2.size = es1.size := by rw [← Array.length_toList, rp.length_eq, Array.length_toList]
        refine wpAny_bind (hg gv2 ?_)
        refine wpAny_bind (store_I o1 (by rw [hsz2]; exact hb1) fun h2 sb2 o2 => ?_)
        exact wpAny_pure ⟨rfl, h2, sb1.trans sb2, ⟨_, o2, es2, _, t2, is2, rfl, q2, pm2.symm.trans pm1', ndk, by rw [hsz2]; exact hb1, rf, rr, fun z => by rw [rl, ll]; exact hl z⟩, rfl⟩
      · exact wpAny_pure ⟨rfl, h1, sb1, ⟨_, o1, es1, _, t1, is1, rfl, q1, pm1', ndk, hb1, lf, lr, fun z => by rw [ll]; exact hl z⟩, rfl⟩
    have hv : hashByValue 8 (Value.int k tk) = pure true := rfl
    have go : wpAny (model prog w) A (do
        let byValue ← if t1.plain = true then hashByValue 8 (Value.int k tk) else pure true
        storeSet a es1 (if byValue = true then t1 else { t1 with plain := false })
        if (!wd && (if byValue = true then t1 else { t1 with plain := false }).tooFull) = true then do
            (match (relayAll (if byValue = true then t1 else { t1 with plain := false }) es1 (SetTable.grown es1.size)).2.2 with | true => rule "set.scan.the-table-gave-way" | false => pure ())
            storeSet a (relayAll (if byValue = true then t1 else { t1 with plain := false }) es1 (SetTable.grown es1.size)).1 (relayAll (if byValue = true then t1 else { t1 with plain := false }) es1 (SetTable.grown es1.size)).2.1
            pure (some true)
          else pure (some true)) (fun r s' => r = some true ∧ ∃ h', Heap.SameBut a s.heap h' ∧ SetI w h' a (ks ++ [k]) ∧ s' = { s with heap := h' }) E s := by
      rw [hv]
      split
      · exact wpAny_bind (wpAny_pure fin)
      · exact wpAny_bind (wpAny_pure fin)
    refine wpAny_mono go (fun r s' ⟨hr', h', sb, hS', e⟩ => ?_) fun _ _ z => z
    subst hr'
    subst e
    exact wpAny_pure (h true h' sb hS')
end
end L2

set_option Elab.async false
set_option linter.all false
set_option maxRecDepth 100000
namespace L2
open PySem PySem.Spec PyProof.Rows

def add1 (ks : List Int) (k : Int) : List Int := if k ∈ ks then ks else ks ++ [k]
def addAll (ks ns : List Int) : List Int := ns.foldl add1 ks
theorem addAll_snoc (ks ns : List Int) (k : Int) : addAll ks (ns ++ [k]) = add1 (addAll ks ns) k := by unfold addAll; rw [List.foldl_append]; rfl
theorem addAll_len : ∀ (ns ks : List Int), (addAll ks ns).length ≤ ks.length + ns.length
  | [], ks => by unfold addAll; exact Nat.le_refl _
  | n :: r, ks => by
    have ih := addAll_len r (add1 ks n)
    have e : addAll ks (n :: r) = addAll (add1 ks n) r := rfl
    have h1 : (add1 ks n).length ≤ ks.length + 1 := by unfold add1; split <;> simp
    rw [e, List.length_cons]
    omega
theorem addAll_mem {k : Int} : ∀ (ns ks : List Int), k ∈ addAll ks ns ↔ k ∈ ks ∨ k ∈ ns
  | [], ks => by unfold addAll; simp
  | n :: r, ks => by
    have e : addAll ks (n :: r) = addAll (add1 ks n) r := rfl
    rw [e, addAll_mem r]
    have h1 : k ∈ add1 ks n ↔ k ∈ ks ∨ k = n := by
      unfold add1
      split
      · rename_i hn
        exact ⟨.inl, fun h => h.elim id fun z => z ▸ hn⟩
      · simp
    rw [h1, List.mem_cons, or_assoc]

section
variable {prog : Program} {w : World} {A : Around} {R : Result → Shared → Prop} {E : Value → Shared → Prop} {s : Shared}
theorem setLoop_I {I : Addr} {fp wr : List Addr} {G : Array GenState → Array GenState → Prop} {n : Nat} {P : Nat → Value → Prop} {St : Nat → Shared → Prop} (W : WalksS prog w A.in1 I fp wr G n P St) (S : Addr) (hSf : S ∉ fp)
    (ns : List Int) (hn : ns.length = n) (hval : ∀ i v, P i v → ∃ k t, ns[i]? = some k ∧ v = .int k t) (hb : n + 1 < scanBound) :
    ∀ (d i : Nat) (s : Shared), n - i = d → i ≤ n → St i s → SetI w s.heap S (addAll [] (ns.take i)) →
      (∀ s', Moved (S :: wr) G s s' → SetI w s'.heap S (addAll [] ns) → R (.ok (.ret .none)) s') → codeAny (model prog w) A (.builtin "set.update.loop" ⟨[.ref S, .ref I], []⟩) R s := by
  have nSw : S ∉ wr := fun z => hSf (W.sub _ z)
  have sub : ∀ b ∈ wr, b ∈ S :: wr := fun b z => List.mem_cons_of_mem _ z
  have kp : ∀ {s s' : Shared} {ks : List Int}, Moved wr G s s' → SetI w s.heap S ks → SetI w s'.heap S ks := fun m ⟨o, e, z⟩ => ⟨o, m.heap S _ nSw e, z⟩
  intro d
  induction d with
  | zero =>
    intro i s hd hi st hS hR
    have hin : i = n := by omega
    subst hin
    refine codeAny_builtin F.entry_set_update_loop ?_
    rw [Around.under_plainId F.plain_set_update_loop _]
    refine wpAny_bind (W.done s _ _ st fun s' m => ?_)
    rw [← hn, List.take_length] at hS
    exact wpAny_pure (hR s' (m.mono sub) (kp m hS))
  | succ d ih =>
    intro i s hd hi st hS hR
    have hlt : i < n := by omega
    refine codeAny_builtin F.entry_set_update_loop ?_
    rw [Around.under_plainId F.plain_set_update_loop _]
    refine wpAny_bind (W.item i s _ _ hlt st fun v s' hP st' m => ?_)
    obtain ⟨k, t, hk, rfl⟩ := hval i v hP
    refine wpAny_bind (wpAny_holding ?_)
    show wpAny _ A.in1 (setAdd S (.int k t)) _ _ s'
    unfold setAdd
    refine wpAny_holding (wpAny_bind ((intKind prog w).pyHash (k := k) (intKind_is _ _ _ _) ?_))
    have hl := addAll_len (ns.take i) []
    rw [List.length_take] at hl
    refine setAdd_I (s := { s' with toks := s'.toks + 1 }) (show SetI w s'.heap S _ from kp m hS) (by simp at hl; omega) fun b h' sb hS2 => ?_
    have e : ns.take (i + 1) = ns.take i ++ [k] := by rw [List.take_add_one, hk]; rfl
    have hS3 : SetI w h' S (addAll [] (ns.take (i + 1))) := by rw [e, addAll_snoc]; exact hS2
    refine wpAny_pure ⟨plainId_quiet F.plain_set_update_loop _, ih (i + 1) _ (by omega) hlt (W.frame _ s' _ _ st' (Nat.le_succ _) fun c hc o q => ?_) hS3 fun s2 m2 z => ?_⟩
    · rw [sb.2 c fun y : c = S => hSf (by rw [← y]; exact hc)]
      exact q
    · refine hR s2 (Moved.trans W.gtrans ((m.mono sub).then_heap (Nat.le_succ _) fun c o hc q => ?_) m2) z
      rw [sb.2 c fun y : c = S => hc (by rw [y]; exact List.mem_cons_self)]
      exact q

abbrev freshSet (w : World) : Obj := { cls := .type "set", dict := none, data := .set #[] 0 (.fresh 0 0 (!byT w)) }
theorem setNew_I (a : Value) {Q₁ : Value → Shared → Prop} (h : Q₁ (.ref s.heap.objs.size) { s with heap := s.heap.push (freshSet w) }) :
    codeAny (model prog w) A (.call (.builtin "set.__new__") ⟨[.type "set", a], []⟩) (wants Q₁ E) s := by
  refine codeAny_of_tree ?_
  show wpAny _ A.in1 (checkBuiltinCall "set.__new__" ⟨[.type "set", a], []⟩ >>= fun _ => again (.builtin "set.__new__" ⟨[.type "set", a], []⟩)) _ _ s
  refine wpAny_bind (wpAny_of_eq (F.newCall_set_1 a) (wpAny_pure ⟨plainId_quiet F.plain_set_new _, codeAny_builtin F.entry_set_new ?_⟩))
  rw [Around.under_plainId F.plain_set_new _]
  unfold Builtin.«set.__new__» Builtin.Frozenset.newClass
  have sub := sub_set_self
  obtain ⟨hp, g, d, tk, os⟩ := s
  dsimp only
  wp_walk
  refine wpAny_askSetting (wpAny_pure ?_)
  dsimp only
  simp only [newObj]
  exact wpAny_bind (wpAny_alloc (wpAny_pure (wpAny_pure h)))
theorem fresh_I : SetO w (freshSet w) [] := ⟨#[], 0, .fresh 0 0 (!byT w), [], rfl, .nil, .rfl, List.nodup_nil, by decide, rfl, List.Pairwise.nil, fun e => by show (!byT w) = true; rw [e]; rfl⟩

set_option maxHeartbeats 3200000 in
theorem callSet_I {l : Addr} {items : Array Value} {ns : List Int} {Q : Value → Shared → Prop} (hh : A.handled = none) (hl : s.heap.IsList l items) (hi : IntsAre items.toList ns) (hb : items.size + 1 < scanBound)
    (h : ∀ (h' : Heap) (tk : Nat), SetI w h' s.heap.objs.size (addAll [] ns) → (∀ b o, s.heap.get? b = some o → h'.get? b = some o) → Q (.ref s.heap.objs.size) { s with heap := h', toks := tk }) :
    wpAny (model prog w) A (call (.type "set") [.ref l]) Q E s := by
  have hlen : ns.length = items.size := by rw [← IntsAre.length hi, Array.length_toList]
  obtain ⟨c, tl, hmro⟩ := F.called_set.mro
  have hmade := F.called_set.made
  have hsub := F.called_set.sub
  refine wpAny_call (codeAny_of_tree ?_)
  show wpAny _ _ (callAny (.type "set") _) _ _ _
  refine wpAny_pure ⟨Code.quiet_builtin _ (by decide +kernel), codeAny_builtin F.entry_type_call ?_⟩
  rw [Around.under_plain (weight_type_call_type "set" [.ref l] []) rfl]
  have h1 := F.called_set.notType
  have h2 := F.called_set.canCreate
  have hct := F.typeCall_set_1 (.ref l)
  repeat (any_goals (first | assumption | wp_step))
  refine codeAny_mono (setNew_I (w := w) (.ref l) (E := E) (Q₁ := fun v s₁ => v = .ref s.heap.objs.size ∧ s₁ = { s with heap := s.heap.push (freshSet w) }) ⟨rfl, rfl⟩) fun r s₁ hr => ?_
  cases r with
  | error e => exact hr
  | ok fl =>
    cases fl with
    | ret obj =>
      obtain ⟨rfl, rfl⟩ := hr
      have hS : (s.heap.push (freshSet w)).get? s.heap.objs.size = some (freshSet w) := Heap.get?_push_size _ rfl
      have hT : Shared.TypeIs { s with heap := s.heap.push (freshSet w) } (.ref s.heap.objs.size) "set" := ⟨_, hS, rfl⟩
      have hli := F.called_set.init.lookup
      have hbi := F.called_set.init.bind (.ref s.heap.objs.size)
      repeat (any_goals (first | assumption | wp_step))
      refine codeAny_mono (codeAny_call_builtin (R := wants (fun r s₂ => r = .none ∧ ∃ h' tk, s₂ = { s with heap := h', toks := tk } ∧ SetI w h' s.heap.objs.size (addAll [] ns) ∧ (∀ b o, s.heap.get? b = some o → h'.get? b = some o)) E)
        F.called_set.init.plain F.entry_set_init (check_set_init_1 hT ?_)) fun r₂ s₂ hr₂ => ?_
      · obtain ⟨ol, hol, hcl, nl, hdl⟩ := hl
        obtain ⟨ocls, odict, odata, oslots⟩ := ol
        simp only at hcl hdl
        subst hcl; subst hdl
        have hol' : (s.heap.push (freshSet w)).get? l = some { cls := .type "list", dict := odict, data := .seq items nl, slots := oslots } := Heap.get?_push_of_some _ hol
        have hsls := F.sub_list_set
        have hslf := F.sub_list_frozenset
        have hne : (Value.type "list" == Value.type "dict") = false := by decide
        have hl1 : (s.heap.push (freshSet w)).IsList l items := ⟨_, hol', rfl, nl, rfl⟩
        unfold Builtin.«set.__init__» noKeywords Builtin.Frozenset.updateFrom
        generalize hPI : pyIter = PI
        wp_walk
        subst hPI
        refine wpAny_pyIter_list hl1 ?_
        refine wpAny_bind (wpAny_runValue ?_)
        have hlS : l < s.heap.objs.size := Heap.lt_size hol
        have hh3 : A.in1.in1.in1.handled = none := by simp [hh]
        have hneI : l ≠ (s.heap.push (freshSet w)).objs.size := by
          rw [Heap.size_push]; exact Nat.ne_of_lt (Nat.lt_succ_of_lt hlS)
        have hSf : s.heap.objs.size ∉ [(s.heap.push (freshSet w)).objs.size, l] := by
          rw [Heap.size_push]
          intro z
          rcases List.mem_cons.mp z with z | z
          · exact absurd z (Nat.ne_of_lt (Nat.lt_succ_self _))
          · exact absurd (List.mem_singleton.mp z) (Nat.ne_of_gt hlS)
        have hval : ∀ (i : Nat) (v : Value), items[i]? = some v → ∃ k t, ns[i]? = some k ∧ v = .int k t := fun i v hv => by
          obtain ⟨t, e⟩ := IntsAre.int_at hi i v (by rw [Array.getElem?_toList]; exact hv)
          have hlt : i < ns.length := by rw [hlen]; exact (Array.getElem?_eq_some_iff.mp hv).1
          exact ⟨ns[i], t, List.getElem?_eq_getElem hlt, by rw [e, List.getD_eq_getElem?_getD, List.getElem?_eq_getElem hlt]; rfl⟩
        refine setLoop_I ((Walks.list hh3 _ l hneI items).toS) s.heap.objs.size hSf ns hlen hval hb (items.size - 0) 0 _ (by omega) (Nat.zero_le _)
          ⟨⟨_, Heap.get?_push_size _ rfl, rfl, rfl⟩, (hl1.push _)⟩ ⟨_, Heap.get?_push_of_some _ hS, fresh_I⟩ ?hR
        case hR =>
          intro s' hm hS'
          obtain ⟨h', g', d', tk', os'⟩ := s'
          have eg : g' = s.gens := hm.gens
          have ed : d' = s.drawn := hm.drawn
          have eo : os' = s.os := hm.os
          subst eg; subst ed; subst eo
          refine wpAny_pure ?_
          refine wpAny_pure ⟨rfl, h', tk', rfl, hS', fun b o e => ?_⟩
          have hb0 := Heap.lt_size e
          have hb2 : b ≠ (s.heap.push (freshSet w)).objs.size := by
            rw [Heap.size_push]; exact Nat.ne_of_lt (Nat.lt_succ_of_lt hb0)
          refine hm.heap b o (fun z => ?_) (Heap.get?_push_of_some _ (Heap.get?_push_of_some _ e))
          rcases List.mem_cons.mp z with z | z
          · exact absurd z (Nat.ne_of_lt hb0)
          · exact hb2 (List.mem_singleton.mp z)
      · cases r₂ with
        | error e => exact hr₂
        | ok fl₂ =>
          cases fl₂ with
          | ret r =>
            obtain ⟨rfl, h', tk, rfl, hS', hk'⟩ := hr₂
            repeat (any_goals (first | assumption | wp_step))
            exact h _ _ hS' hk'
          | _ => exact hr₂.elim
    | _ => exact hr.elim
end
end L2

set_option Elab.async false
set_option linter.all false
set_option maxRecDepth 100000
namespace L2
open PySem PySem.Spec PyProof.Rows

theorem slot_set_it : Slot "set" "__iter__" "set.__iter__" :=
  .of (owner := "set") (n := "__iter__") (by rw [typeLookup_type, builtinLookup_eq_fast]; kernel_rfl) (by decide +kernel) (by decide +kernel) (by decide +kernel)
    (by first | exact .inl (by decide +kernel) | exact .inr (by decide +kernel)) (by rw [isSubtype_type]; kernel_rfl)
theorem entry_set_it : entryFor table "set.__iter__" = some Builtin.«frozenset.__iter__» := entryFor_alias (id' := "frozenset.__iter__") (by kernel_rfl) rfl (by decide +kernel) (by kernel_rfl)
theorem args_set_it (a : Value) : argsOk "set.__iter__" ⟨[a], []⟩ := by unfold argsOk; kernel_rfl
theorem slot_seti_next : Slot "set_iterator" "__next__" "set_iterator.__next__" :=
  .of (owner := "set_iterator") (n := "__next__") (by rw [typeLookup_type, builtinLookup_eq_fast]; kernel_rfl) (by decide +kernel) (by decide +kernel) (by decide +kernel)
    (by first | exact .inl (by decide +kernel) | exact .inr (by decide +kernel)) (by rw [isSubtype_type]; kernel_rfl)
theorem entry_seti_next : entryFor table "set_iterator.__next__" = some Builtin.«set_iterator.__next__» := entryFor_of_tree (by kernel_rfl)
theorem args_seti_next (a : Value) : argsOk "set_iterator.__next__" ⟨[a], []⟩ := by unfold argsOk; kernel_rfl

/-! ### the order in which a set is walked -/
theorem takeOut_perm {α : Type} : ∀ (xs : List α) (i : Nat) (h : i < xs.length), (xs[i] :: xs.eraseIdx i).Perm xs
  | [], i, h => by simp at h
  | x :: xs, 0, h => .rfl
  | x :: xs, i + 1, h => (List.Perm.swap x _ _).trans (List.Perm.cons x (takeOut_perm xs i (by simpa using h)))
theorem pickGo_perm {α : Type} (next : Nat → Nat) : ∀ (f k : Nat) (left : List α) (out : Array α), left.length = f → (pickOrder.go next f k left out).toList.Perm (out.toList ++ left)
  | 0, k, left, out, h => by
    have e : left = [] := List.length_eq_zero_iff.mp h
    unfold pickOrder.go
    rw [e, List.append_nil]
  | f + 1, k, left, out, h => by
    unfold pickOrder.go
    have hlt : next k % left.length < left.length := Nat.mod_lt _ (by omega)
    rw [List.getElem?_eq_getElem hlt]
    refine (pickGo_perm next f (k + 1) _ _ (by rw [List.length_eraseIdx]; simp [hlt]; omega)).trans ?_
    rw [Array.toList_push, List.append_assoc]
    refine List.Perm.append_left _ ?_
    exact takeOut_perm left _ hlt
theorem pick_perm {α : Type} (next : Nat → Nat) (xs : Array α) : (pickOrder next xs).toList.Perm xs.toList := by
  unfold pickOrder
  have := pickGo_perm next xs.size 0 xs.toList #[] (by simp)
  simpa using this

section
variable {prog : Program} {w : World} {A : Around} {E : Value → Shared → Prop} {s : Shared}
theorem choose_ok {src : Source} {n : Nat} {Q : Nat → Shared → Prop} (hn : n ≠ 0) (h : ∀ i d, i < n → Q i { s with drawn := d }) : wpAny (model prog w) A (choose src n) Q E s := fun Γ p hΓ => by
  unfold choose
  rw [Sem.wp_choose]
  refine ⟨hn, ?_⟩
  exact h _ _ (Nat.mod_lt _ (Nat.pos_of_ne_zero hn))
theorem drawOrder_ok {α : Type} : ∀ (n : Nat) (xs : List α) (s : Shared) (Q : List α → Shared → Prop), xs.length = n → (∀ ys d, ys.Perm xs → Q ys { s with drawn := d }) → wpAny (model prog w) A (drawOrder n xs) Q E s
  | 0, xs, s, Q, hl, h => by
    have e : xs = [] := List.length_eq_zero_iff.mp hl
    subst e
    exact wpAny_pure (h [] s.drawn .rfl)
  | n + 1, [], s, Q, hl, h => by cases hl
  | n + 1, x :: xs, s, Q, hl, h => by
    unfold drawOrder
    refine wpAny_bind (choose_ok (by simp) fun i d hi => ?_)
    rw [List.getElem?_eq_getElem hi]
    refine wpAny_bind (drawOrder_ok n _ _ _ (by rw [List.length_eraseIdx_of_lt hi, hl]; rfl) fun ys d' hp => wpAny_pure ?_)
    exact h _ _ ((List.Perm.cons _ hp).trans (takeOut_perm _ i hi))

/-- an iterator over the set at a: what it yields first (a place, or the tuple of drawn places), its turn -/
abbrev setIt (f : Value) (i a n ep : Nat) : Obj := { cls := .type "set_iterator", dict := none, data := .fields #[f, .int i 0, .ref a, .int n 0, .int ep 0], slots := #[] }
abbrev setOb (es : Array (Int × Value)) (ep : Nat) (t : SetTable) : Obj := { cls := .type "set", dict := none, data := .set es ep t, slots := #[] }

theorem setSize_ok {a : Addr} {es : Array (Int × Value)} {ep : Nat} {t : SetTable} {Q : Nat → Shared → Prop} (ho : s.heap.get? a = some (setOb es ep t)) (hf : t.fits es.size = true) (h : Q es.size s) : wpAny (model prog w) A (Builtin.Frozenset.sizeOf a) Q E s := by
  unfold Builtin.Frozenset.sizeOf
  exact wpAny_bind (wpAny_setEntries_of ho rfl hf (wpAny_pure h))
theorem byT_ok {Q : Bool → Shared → Prop} (h : Q (byT w) s) : wpAny (model prog w) A setsByText Q E s := by
  unfold setsByText
  exact wpAny_bind (wpAny_askSetting (wpAny_pure h))
theorem setDrawn_ok {a : Addr} {es : Array (Int × Value)} {ep : Nat} {t : SetTable} {Q : Bool → Shared → Prop} (ho : s.heap.get? a = some (setOb es ep t)) (hf : t.fits es.size = true) (h : Q (!byT w && (!t.plain && decide (es.size > 1))) s) :
    wpAny (model prog w) A (setDrawn a) Q E s := by
  unfold setDrawn
  refine wpAny_bind (wpAny_setState_of ho rfl hf ?_)
  exact wpAny_bind (byT_ok (wpAny_pure h))

theorem seti_next {it a : Addr} {f : Value} {i n ep : Nat} {Q : Option Value → Shared → Prop} (hi : s.heap.get? it = some (setIt f i a n ep))
    (h : wpAny (model prog w) A.in1 (Builtin.«set_iterator.__next__» ⟨[.ref it], []⟩) (fun fin s' => ∃ r, fin = .done (.ret r) ∧ Q (some r) s') (fun e s' => s'.TypeIs e "StopIteration" ∧ Q none s') s) :
    wpAny (model prog w) A (pyNext (.ref it)) Q E s := by
  have hT : s.TypeIs (.ref it) "set_iterator" := ⟨_, hi, rfl⟩
  unfold pyNext
  refine wpAny_bind (wpAny_attempt (wpAny_callSpecial?_slot (name := Str.ofString "__next__") hT slot_seti_next (wpAny_call_entry slot_seti_next hT entry_seti_next ?_ (args_seti_next _))))
  refine wpAny_mono h (fun fin s' ⟨r, e, q⟩ => ⟨r, e, wpAny_pure q⟩) fun e s' ⟨ht, q⟩ => ?_
  exact wpAny_bind (wpAny_isInstance (T := "StopIteration") (b := true) ht isSubtype_stop (wpAny_pure q))
end
end L2

set_option Elab.async false
set_option linter.all false
set_option maxRecDepth 100000
namespace L2
open PySem PySem.Spec PyProof.Rows
section
variable {prog : Program} {w : World} {A : Around} {E : Value → Shared → Prop} {s : Shared}
theorem seti_head {it a : Addr} {f : Value} {i n ep : Nat} {es : Array (Int × Value)} {t : SetTable} {P : Fin → Shared → Prop} (hi : s.heap.get? it = some (setIt f i a n ep)) (ha : s.heap.get? a = some (setOb es ep t)) (hf : t.fits es.size = true) (hn : n = es.size)
    (h : wpAny (model prog w) A (if let .int slot _ := f then do
        match ← setNext a slot.toNat ((i : Int)).toNat ((ep : Int)).toNat with
        | some (x, next) =>
          setField (.ref it) 0 (rawInt next)
          setField (.ref it) 1 (rawInt ((i : Int) + 1))
          ret x
        | none => do
          setField (.ref it) 2 .none
          raiseNew (← newExc (.type "StopIteration") [])
      else do
        let some places ← seqItems? f | unsupported "internal:set_iterator"
        match places[((i : Int)).toNat]? with
        | some (.int place _) =>
          let x ← setNextDrawn a place.toNat ((ep : Int)).toNat
          setField (.ref it) 1 (rawInt ((i : Int) + 1))
          ret x
        | some _ => unsupported "internal:set_iterator"
        | none => do
          setField (.ref it) 0 (rawInt 0)
          setField (.ref it) 2 .none
          raiseNew (← newExc (.type "StopIteration") [])) P E s) : wpAny (model prog w) A (Builtin.«set_iterator.__next__» ⟨[.ref it], []⟩) P E s := by
  unfold Builtin.«set_iterator.__next__»
  refine wpAny_bind (m := slotArgs "__next__" 0 _) (wpAny_pure ?_)
  refine wpAny_bind (wpAny_fieldsOf hi rfl ?_)
  refine wpAny_bind (wpAny_setEntries_of ha rfl hf ?_)
  refine wpAny_ite_split (fun z => ?_) fun _ => ?_
  · exfalso
    rw [hn] at z
    simp at z
  · exact h
theorem stop_ok {α : Type} {Q : α → Shared → Prop} {F : Value → Shared → Prop} (hh : A.handled = none) (h : ∀ e h', (∀ b o, s.heap.get? b = some o → h'.get? b = some o) → Shared.TypeIs { s with heap := h' } e "StopIteration" → F e { s with heap := h' }) :
    wpAny (model prog w) A (do raiseNew (← newExc (.type "StopIteration") []) : Sem α) Q F s := by
  refine wpAny_bind ?_
  simp only [newExc, newTuple]
  refine wpAny_bind (wpAny_newObj_type ?_ (by size_fits))
  refine wpAny_bind (m := firstArgMember _ _) (wpAny_of_eq (a := Value.none) (by first | rfl | (simp only [firstArgMember]; rfl)) ?_)
  refine wpAny_newObj_type ?_ (by size_fits)
  simp only [raiseNew]
  refine wpAny_bind (wpAny_handled ?_)
  rw [hh]
  refine wpAny_bind (wpAny_pure (wpAny_throw ?_))
  exact h _ _ (fun b o e => Heap.get?_push_of_some _ (Heap.get?_push_of_some _ e)) ⟨_, Heap.get?_push_size _ rfl, rfl⟩

/-- by places: the next one -/
theorem seti_item1 {it a : Addr} {slot i n ep nxt : Nat} {x : Value} {es : Array (Int × Value)} {t : SetTable} {Q : Option Value → Shared → Prop} (hi : s.heap.get? it = some (setIt (.int slot 0) i a n ep)) (ha : s.heap.get? a = some (setOb es ep t)) (hf : t.fits es.size = true) (hn : n = es.size)
    (hx : ∀ (A : Around) (Q' : Option (Value × Nat) → Shared → Prop) (E' : Value → Shared → Prop), Q' (some (x, nxt)) s → wpAny (model prog w) A (setNext a slot i ep) Q' E' s)
    (h : ∀ h', Heap.SameBut it s.heap h' → h'.get? it = some (setIt (.int nxt 0) (i + 1) a n ep) → Q (some x) { s with heap := h' }) : wpAny (model prog w) A (pyNext (.ref it)) Q E s := by
  refine seti_next hi (seti_head hi ha hf hn ?_)
  dsimp only
  simp only [Int.toNat_natCast]
  refine wpAny_bind (hx _ _ _ ?_)
  dsimp only
  refine wpAny_bind (wpAny_setField_rec hi (by simp) fun h1 o1 sb1 => ?_)
  refine wpAny_bind (wpAny_setField_rec o1 (by simp) fun h2 o2 sb2 => ?_)
  refine wpAny_pure ⟨x, rfl, h h2 (sb1.trans sb2) ?_⟩
  rw [o2]
  simp [rawInt]
theorem seti_done1 {it a : Addr} {slot i n ep : Nat} {es : Array (Int × Value)} {t : SetTable} {Q : Option Value → Shared → Prop} (hh : A.handled = none) (hi : s.heap.get? it = some (setIt (.int slot 0) i a n ep)) (ha : s.heap.get? a = some (setOb es ep t)) (hf : t.fits es.size = true) (hn : n = es.size)
    (hx : ∀ (A : Around) (Q' : Option (Value × Nat) → Shared → Prop) (E' : Value → Shared → Prop), Q' none s → wpAny (model prog w) A (setNext a slot i ep) Q' E' s)
    (h : ∀ h', Heap.ExtBut it s.heap h' → Q none { s with heap := h' }) : wpAny (model prog w) A (pyNext (.ref it)) Q E s := by
  refine seti_next hi (seti_head hi ha hf hn ?_)
  dsimp only
  simp only [Int.toNat_natCast]
  refine wpAny_bind (hx _ _ _ ?_)
  dsimp only
  refine wpAny_bind (wpAny_setField_rec hi (by simp) fun h1 o1 sb1 => ?_)
  exact stop_ok (s := { s with heap := h1 }) hh fun e h' k ht => ⟨ht, h h' fun b o hb q => k b o (sb1.extBut b o hb q)⟩
/-- by drawn places -/
theorem seti_item2 {it a T : Addr} {i n ep p : Nat} {x : Value} {k : Int} {ps : Array Value} {oT : Obj} {nT : Nat} {es : Array (Int × Value)} {t : SetTable} {Q : Option Value → Shared → Prop} (hi : s.heap.get? it = some (setIt (.ref T) i a n ep)) (ha : s.heap.get? a = some (setOb es ep t)) (hf : t.fits es.size = true) (hn : n = es.size)
    (hT : s.heap.get? T = some oT) (hTd : oT.data = .seq ps nT) (hp : ps[i]? = some (.int p 0)) (hx : es[p]? = some (k, x))
    (h : ∀ h', Heap.SameBut it s.heap h' → h'.get? it = some (setIt (.ref T) (i + 1) a n ep) → Q (some x) { s with heap := h' }) : wpAny (model prog w) A (pyNext (.ref it)) Q E s := by
  refine seti_next hi (seti_head hi ha hf hn ?_)
  dsimp only
  simp only [Int.toNat_natCast]
  refine wpAny_bind (wpAny_seqItems hT hTd ?_)
  dsimp only
  rw [hp]
  dsimp only
  refine wpAny_bind ?_
  unfold setNextDrawn
  simp only [Int.toNat_natCast]
  refine wpAny_bind (wpAny_setState_of ha rfl hf ?_)
  dsimp only
  refine wpAny_ite_split (fun z => absurd z (by simp)) fun _ => ?_
  simp only [hx]
  refine wpAny_pure ?_
  refine wpAny_bind (wpAny_setField_rec hi (by simp) fun h1 o1 sb1 => ?_)
  refine wpAny_pure ⟨x, rfl, h h1 sb1 ?_⟩
  rw [o1]
  simp [rawInt]
theorem seti_done2 {it a T : Addr} {i n ep : Nat} {ps : Array Value} {oT : Obj} {nT : Nat} {es : Array (Int × Value)} {t : SetTable} {Q : Option Value → Shared → Prop} (hh : A.handled = none) (hi : s.heap.get? it = some (setIt (.ref T) i a n ep)) (ha : s.heap.get? a = some (setOb es ep t)) (hf : t.fits es.size = true) (hn : n = es.size)
    (hT : s.heap.get? T = some oT) (hTd : oT.data = .seq ps nT) (hp : ps[i]? = none)
    (h : ∀ h', Heap.ExtBut it s.heap h' → Q none { s with heap := h' }) : wpAny (model prog w) A (pyNext (.ref it)) Q E s := by
  refine seti_next hi (seti_head hi ha hf hn ?_)
  dsimp only
  simp only [Int.toNat_natCast]
  refine wpAny_bind (wpAny_seqItems hT hTd ?_)
  dsimp only
  rw [hp]
  dsimp only
  refine wpAny_bind (wpAny_setField_rec hi (by simp) fun h1 o1 sb1 => ?_)
  refine wpAny_bind (wpAny_setField_rec o1 (by simp) fun h2 o2 sb2 => ?_)
  exact stop_ok (s := { s with heap := h2 }) hh fun e h' k ht => ⟨ht, h h' fun b o hb q => k b o ((sb1.trans sb2).extBut b o hb q)⟩

theorem setNext_text {a : Addr} {es : Array (Int × Value)} {slot i ep : Nat} {t : SetTable} (ha : s.heap.get? a = some (setOb es ep t)) (hf : t.fits es.size = true) (hb : byT w = true) (A : Around) (Q' : Option (Value × Nat) → Shared → Prop) (E' : Value → Shared → Prop)
    (h : Q' (((pickOrder (w.params.setOrder a ep) es)[i]?).map fun e => (e.2, slot)) s) : wpAny (model prog w) A (setNext a slot i ep) Q' E' s := by
  unfold setNext
  refine wpAny_bind (wpAny_setState_of ha rfl hf ?_)
  dsimp only
  refine wpAny_bind (byT_ok ?_)
  rw [if_pos hb]
  refine wpAny_ite_split (fun z => absurd z (by simp)) fun _ => ?_
  refine wpAny_bind ?_
  unfold setWalk
  refine wpAny_bind (wpAny_setState_of ha rfl hf ?_)
  dsimp only
  refine wpAny_bind (byT_ok ?_)
  rw [if_pos hb]
  refine wpAny_bind (wpAny_askSetting (wpAny_pure ?_))
  exact wpAny_pure h
theorem setNext_place {a : Addr} {es : Array (Int × Value)} {slot i ep : Nat} {t : SetTable} (ha : s.heap.get? a = some (setOb es ep t)) (hf : t.fits es.size = true) (hb : byT w = false) (hl : t.led = true) (hd : (!t.plain && decide (es.size > 1)) = false) (A : Around) (Q' : Option (Value × Nat) → Shared → Prop) (E' : Value → Shared → Prop)
    (h : Q' (match es[SetTable.below t.place slot]?, t.place[SetTable.below t.place slot]? with | some (_, x), some j => some (x, j + 1) | _, _ => none) s) : wpAny (model prog w) A (setNext a slot i ep) Q' E' s := by
  unfold setNext
  refine wpAny_bind (wpAny_setState_of ha rfl hf ?_)
  dsimp only
  refine wpAny_bind (byT_ok ?_)
  rw [if_neg (by rw [hb]; exact Bool.false_ne_true)]
  refine wpAny_ite_split (fun z => absurd (show (!t.plain && decide (es.size > 1)) = true from z) (by rw [hd]; exact Bool.false_ne_true)) fun _ => ?_
  refine wpAny_bind ?_
  refine wpAny_ite_split (fun z => absurd (show (!t.led && !es.isEmpty) = true from z) (by rw [hl]; exact Bool.false_ne_true)) fun _ => wpAny_pure ?_
  exact wpAny_pure h
end
end L2

set_option Elab.async false
set_option linter.all false
set_option maxRecDepth 100000
namespace L2
open PySem PySem.Spec PyProof.Rows
section
variable {prog : Program} {w : World} {A : Around} {E : Value → Shared → Prop} {s : Shared}
abbrev IntAt (is : List Int) (i : Nat) (v : Value) : Prop := ∃ k t, is[i]? = some k ∧ v = Value.int k t
theorem moved_of {I : Addr} {h' : Heap} {s : Shared} (k : ∀ b o, b ≠ I → s.heap.get? b = some o → h'.get? b = some o) : Moved [I] (fun x y => y = x) s { s with heap := h' } :=
  ⟨fun b o hb e => k b o (fun z => hb (by rw [z]; exact List.mem_singleton.mpr rfl)) e, rfl, rfl, rfl, Nat.le_refl _⟩
theorem slot_seti_it : Slot "set_iterator" "__iter__" "set_iterator.__iter__" :=
  .of (owner := "set_iterator") (n := "__iter__") (by rw [typeLookup_type, builtinLookup_eq_fast]; kernel_rfl) (by decide +kernel) (by decide +kernel) (by decide +kernel)
    (by first | exact .inl (by decide +kernel) | exact .inr (by decide +kernel)) (by rw [isSubtype_type]; kernel_rfl)
theorem entry_seti_it : entryFor table "set_iterator.__iter__" = some Builtin.«dict_keyiterator.__iter__» := entryFor_alias (id' := "dict_keyiterator.__iter__") (by kernel_rfl) rfl (by decide +kernel) (by kernel_rfl)
theorem args_seti_it (a : Value) : argsOk "set_iterator.__iter__" ⟨[a], []⟩ := by unfold argsOk; kernel_rfl
theorem seti_self {it a : Addr} {f : Value} {i n ep : Nat} {Q : Value → Shared → Prop} (hi : s.heap.get? it = some (setIt f i a n ep)) (h : Q (.ref it) s) : wpAny (model prog w) A (pyIter (.ref it)) Q E s := by
  have hT : s.TypeIs (.ref it) "set_iterator" := ⟨_, hi, rfl⟩
  refine wpAny_pyIter_slot hT slot_seti_it (wpAny_call_entry slot_seti_it hT entry_seti_it ?_ (args_seti_it _))
  exact wpAny_pure ⟨_, rfl, "set_iterator", _, hT, slot_seti_next.lookup, h⟩

def slotAt (t : SetTable) (i : Nat) : Nat := if i = 0 then 0 else t.place.getD (i - 1) 0 + 1
theorem below_slot {t : SetTable} (hr : Rise t.place) {i : Nat} (hi : i ≤ t.place.size) : SetTable.below t.place (slotAt t i) = i := by
  unfold slotAt
  by_cases z : i = 0
  · rw [if_pos z, z]; exact below_zero hr
  · rw [if_neg z]
    have hlt : i - 1 < t.place.size := by omega
    have e : t.place.getD (i - 1) 0 = t.place[i - 1] := by simp [Array.getD, hlt]
    rw [e, below_at hr hlt]
    omega
theorem fits_size {t : SetTable} {n : Nat} (h : t.fits n = true) : t.place.size = n := by
  unfold SetTable.fits at h
  simp at h
  exact h.1
theorem walk_place {a I : Addr} (hne : a ≠ I) (hh : A.handled = none) {es : Array (Int × Value)} {ep : Nat} {t : SetTable} {is : List Int} (p : Paired IntE es.toList is) (hf : t.fits es.size = true) (hr : Rise t.place) (hb : byT w = false) (hl : t.led = true) (hd : (!t.plain && decide (es.size > 1)) = false) :
    WalksS prog w A I [I, a] [I] (fun x y => y = x) es.size (IntAt is) (fun i s => s.heap.get? I = some (setIt (.int (slotAt t i) 0) i a es.size ep) ∧ s.heap.get? a = some (setOb es ep t)) where
  sub := fun b hb => by rw [List.mem_singleton.mp hb]; exact List.mem_cons_self
  grefl := fun _ => rfl
  gtrans := fun _ _ _ x y => y.trans x
  frame := fun i s h' tk st _ k => ⟨k I List.mem_cons_self _ st.1, k a (List.mem_cons_of_mem _ List.mem_cons_self) _ st.2⟩
  item := fun i s Q E hi st hQ => by
    have hps := fits_size hf
    have hi' : i < t.place.size := by omega
    have e1 : es[i]? = some es[i] := Array.getElem?_eq_getElem hi
    obtain ⟨k, hk, _, tk, hx⟩ := paired_get (i := i) (a := es[i]) p (by rw [Array.getElem?_toList]; exact e1)
    refine seti_item1 (x := es[i].2) (nxt := slotAt t (i + 1)) st.1 st.2 hf rfl (fun A' Q' E' q => setNext_place st.2 hf hb hl hd A' Q' E' ?_) fun h' sb o' => ?_
    · rw [below_slot hr (by omega), e1, Array.getElem?_eq_getElem hi']
      have e2 : slotAt t (i + 1) = t.place[i] + 1 := by
        unfold slotAt
        rw [if_neg (by omega)]
        simp [Array.getD, hi']
      dsimp only
      rw [← e2]
      exact q
    · exact hQ _ _ ⟨k, tk, hk, hx⟩ ⟨o', (sb.2 a hne).trans st.2⟩ (moved_of fun b o hb e => sb.extBut b o hb e)
  done := fun s Q E st hQ => by
    have hps := fits_size hf
    refine seti_done1 hh st.1 st.2 hf rfl (fun A' Q' E' q => setNext_place st.2 hf hb hl hd A' Q' E' ?_) fun h' eb => hQ _ (moved_of fun b o hb e => eb b o hb e)
    rw [below_slot hr (by omega), Array.getElem?_eq_none (Nat.le_refl _)]
    exact q
  self := fun i s Q E st q => seti_self st.1 q
theorem walk_text {a I : Addr} (hne : a ≠ I) (hh : A.handled = none) {es : Array (Int × Value)} {ep : Nat} {t : SetTable} {is : List Int} (p : Paired IntE (pickOrder (w.params.setOrder a ep) es).toList is) (hf : t.fits es.size = true) (hb : byT w = true) :
    WalksS prog w A I [I, a] [I] (fun x y => y = x) es.size (IntAt is) (fun i s => s.heap.get? I = some (setIt (.int (0 : Nat) 0) i a es.size ep) ∧ s.heap.get? a = some (setOb es ep t)) where
  sub := fun b hb => by rw [List.mem_singleton.mp hb]; exact List.mem_cons_self
  grefl := fun _ => rfl
  gtrans := fun _ _ _ x y => y.trans x
  frame := fun i s h' tk st _ k => ⟨k I List.mem_cons_self _ st.1, k a (List.mem_cons_of_mem _ List.mem_cons_self) _ st.2⟩
  item := fun i s Q E hi st hQ => by
    have hsz : (pickOrder (w.params.setOrder a ep) es).size = es.size := by
      have := (pick_perm (w.params.setOrder a ep) es).length_eq
      simpa using this
    have hi' : i < (pickOrder (w.params.setOrder a ep) es).size := by omega
    have e1 := Array.getElem?_eq_getElem hi'
    obtain ⟨k, hk, _, tk, hx⟩ := paired_get (i := i) p (by rw [Array.getElem?_toList]; exact e1)
    refine seti_item1 (x := (pickOrder (w.params.setOrder a ep) es)[i].2) (nxt := 0) st.1 st.2 hf rfl (fun A' Q' E' q => setNext_text st.2 hf hb A' Q' E' ?_) fun h' sb o' => ?_
    · rw [e1]
      exact q
    · exact hQ _ _ ⟨k, tk, hk, hx⟩ ⟨o', (sb.2 a hne).trans st.2⟩ (moved_of fun b o hb e => sb.extBut b o hb e)
  done := fun s Q E st hQ => by
    have hsz : (pickOrder (w.params.setOrder a ep) es).size = es.size := by
      have := (pick_perm (w.params.setOrder a ep) es).length_eq
      simpa using this
    refine seti_done1 hh st.1 st.2 hf rfl (fun A' Q' E' q => setNext_text st.2 hf hb A' Q' E' ?_) fun h' eb => hQ _ (moved_of fun b o hb e => eb b o hb e)
    rw [Array.getElem?_eq_none (by omega)]
    exact q
  self := fun i s Q E st q => seti_self st.1 q
abbrev tupOb (ps : List Nat) : Obj := { cls := .type "tuple", data := .seq (ps.map fun (i : Nat) => rawInt i).toArray }
theorem walk_drawn {a I T : Addr} (hne : a ≠ I) (hneT : T ≠ I) (hh : A.handled = none) {es : Array (Int × Value)} {ep : Nat} {t : SetTable} {is : List Int} {ps : List Nat} (p : Paired IntE es.toList is) (hf : t.fits es.size = true) (hp : ps.Perm (List.range es.size)) :
    WalksS prog w A I [I, a, T] [I] (fun x y => y = x) es.size (IntAt (ps.map fun j => is.getD j 0)) (fun i s => s.heap.get? I = some (setIt (.ref T) i a es.size ep) ∧ s.heap.get? a = some (setOb es ep t) ∧ s.heap.get? T = some (tupOb ps)) where
  sub := fun b hb => by rw [List.mem_singleton.mp hb]; exact List.mem_cons_self
  grefl := fun _ => rfl
  gtrans := fun _ _ _ x y => y.trans x
  frame := fun i s h' tk st _ k => ⟨k I List.mem_cons_self _ st.1, k a (List.mem_cons_of_mem _ List.mem_cons_self) _ st.2.1, k T (List.mem_cons_of_mem _ (List.mem_cons_of_mem _ List.mem_cons_self)) _ st.2.2⟩
  item := fun i s Q E hi st hQ => by
    have hl := hp.length_eq
    rw [List.length_range] at hl
    have hi' : i < ps.length := by omega
    have hm : ps[i] < es.size := List.mem_range.mp (hp.mem_iff.mp (List.getElem_mem hi'))
    have e1 : es[ps[i]]? = some es[ps[i]] := Array.getElem?_eq_getElem hm
    obtain ⟨k, hk, _, tk, hx⟩ := paired_get (i := ps[i]) p (by rw [Array.getElem?_toList]; exact e1)
    refine seti_item2 (p := ps[i]) (k := es[ps[i]].1) (x := es[ps[i]].2) st.1 st.2.1 hf rfl st.2.2 rfl ?_ e1 fun h' sb o' => ?_
    · simp [hi', rawInt]
    · refine hQ _ _ ⟨k, tk, ?_, hx⟩ ⟨o', (sb.2 a hne).trans st.2.1, (sb.2 T hneT).trans st.2.2⟩ (moved_of fun b o hb e => sb.extBut b o hb e)
      rw [List.getElem?_map, List.getElem?_eq_getElem hi']
      simp [List.getD_eq_getElem?_getD, hk]
  done := fun s Q E st hQ => by
    have hl := hp.length_eq
    rw [List.length_range] at hl
    refine seti_done2 hh st.1 st.2.1 hf rfl st.2.2 rfl ?_ fun h' eb => hQ _ (moved_of fun b o hb e => eb b o hb e)
    simp [hl]
  self := fun i s Q E st q => seti_self st.1 q

theorem set_iter_ok {a : Addr} {ks : List Int} {Q : Value → Shared → Prop} (hh : A.handled = none) (hS : SetI w s.heap a ks)
    (h : ∀ (s' : Shared) (I : Addr) (fp : List Addr) (St : Nat → Shared → Prop) (is : List Int), is.Perm ks → WalksS prog w A I fp [I] (fun x y => y = x) ks.length (IntAt is) St → St 0 s' → (∀ b o, s.heap.get? b = some o → s'.heap.get? b = some o) →
      s'.gens = s.gens → s'.os = s.os → s.heap.objs.size ≤ I → (∀ b ∈ fp, b = a ∨ s.heap.objs.size ≤ b) → SetI w s'.heap a ks → Q (.ref I) s') : wpAny (model prog w) A (pyIter (.ref a)) Q E s := by
  obtain ⟨o, ho, es, ep, t, is, rfl, p, pm, nd, hb, hf, hr, hl⟩ := hS
  have hsz : es.size = ks.length := by rw [← pm.length_eq, ← paired_len p, Array.length_toList]
  rw [← hsz] at h
  have hlt := Heap.lt_size ho
  have hT : s.TypeIs (.ref a) "set" := ⟨_, ho, rfl⟩
  have keepS : ∀ {h' : Heap}, h'.get? a = some (setOb es ep t) → SetI w h' a ks := fun e => ⟨_, e, es, ep, t, is, rfl, p, pm, nd, hb, hf, hr, hl⟩
  refine wpAny_pyIter_slot hT slot_set_it (wpAny_call_entry slot_set_it hT entry_set_it ?_ (args_set_it _))
  unfold Builtin.«frozenset.__iter__»
  refine wpAny_bind (m := Builtin.Frozenset.slot0 "__iter__" _) (wpAny_pure ?_)
  refine wpAny_bind (setSize_ok ho hf ?_)
  refine wpAny_bind (setDrawn_ok ho hf ?_)
  dsimp only
  refine wpAny_ite_split (fun z => ?_) fun z => ?_
  · refine wpAny_bind (drawOrder_ok es.size _ _ _ (by simp) fun ps d hp => ?_)
    have hpl := hp.length_eq
    rw [List.length_range] at hpl
    refine wpAny_bind (wpAny_newTuple ?_ (by rw [List.length_map, hpl]; exact fits_of_scanBound hb))
    have hoT : (s.heap.push (tupOb ps)).get? s.heap.objs.size = some (tupOb ps) := Heap.get?_push_size _ rfl
    have ho1 : (s.heap.push (tupOb ps)).get? a = some (setOb es ep t) := Heap.get?_push_of_some _ ho
    refine wpAny_bind ?_
    unfold setEpoch
    refine wpAny_bind (wpAny_setState_of (s := { s with heap := s.heap.push (tupOb ps), drawn := d }) ho1 rfl hf (wpAny_pure ?_))
    refine wpAny_bind (wpAny_newObj_type (wpAny_pure ⟨_, rfl, "set_iterator", _, ⟨_, Heap.get?_push_size _ rfl, rfl⟩, slot_seti_next.lookup, ?_⟩))
    refine h _ _ [(s.heap.push (tupOb ps)).objs.size, a, s.heap.objs.size] _ (ps.map fun j => is.getD j 0) ?_ (walk_drawn (T := s.heap.objs.size) (t := t) (ep := ep) ?_ ?_ hh p hf hp) ⟨Heap.get?_push_size _ rfl, Heap.get?_push_of_some _ ho1, Heap.get?_push_of_some _ hoT⟩ (fun b o e => Heap.get?_push_of_some _ (Heap.get?_push_of_some _ e)) rfl rfl (by rw [Heap.size_push]; exact Nat.le_succ _) (fun b hb => ?_) (keepS (Heap.get?_push_of_some _ ho1))
    · refine List.Perm.trans ?_ pm
      have e : is = (List.range es.size).map fun j => is.getD j 0 := by
        have hil : is.length = es.size := by rw [← paired_len p, Array.length_toList]
        refine List.ext_getElem (by simp [hil]) fun i h1 h2 => ?_
        simp [List.getD_eq_getElem?_getD, List.getElem?_eq_getElem h1]
      conv => rhs; rw [e]
      exact hp.map _
    · rw [Heap.size_push]; exact Nat.ne_of_lt (Nat.lt_succ_of_lt hlt)
    · rw [Heap.size_push]; exact Nat.ne_of_lt (Nat.lt_succ_self _)
    · rcases List.mem_cons.mp hb with q | q
      · rw [q, Heap.size_push]; exact .inr (Nat.le_succ _)
      · rcases List.mem_cons.mp q with q | q
        · exact .inl q
        · rw [List.mem_singleton.mp q]; exact .inr (Nat.le_refl _)
  · refine wpAny_bind (wpAny_pure ?_)
    refine wpAny_bind ?_
    unfold setEpoch
    refine wpAny_bind (wpAny_setState_of ho rfl hf (wpAny_pure ?_))
    refine wpAny_bind (wpAny_newObj_type (wpAny_pure ⟨_, rfl, "set_iterator", _, ⟨_, Heap.get?_push_size _ rfl, rfl⟩, slot_seti_next.lookup, ?_⟩))
    have hne : a ≠ s.heap.objs.size := Nat.ne_of_lt hlt
    have fpo : ∀ b ∈ [s.heap.objs.size, a], b = a ∨ s.heap.objs.size ≤ b := fun b hb => by
      rcases List.mem_cons.mp hb with q | q
      · rw [q]; exact .inr (Nat.le_refl _)
      · exact .inl (List.mem_singleton.mp q)
    cases hbt : byT w with
    | true =>
      obtain ⟨is', p', pm'⟩ := paired_perm (pick_perm (w.params.setOrder a ep) es).symm p
      exact h _ _ [s.heap.objs.size, a] _ is' (pm'.symm.trans pm) (walk_text (t := t) hne hh p' hf hbt) ⟨Heap.get?_push_size _ rfl, Heap.get?_push_of_some _ ho⟩ (fun b o e => Heap.get?_push_of_some _ e) rfl rfl (Nat.le_refl _) fpo (keepS (Heap.get?_push_of_some _ ho))
    | false =>
      have hd : (!t.plain && decide (es.size > 1)) = false := by
        rw [hbt] at z
        simpa using z
      exact h _ _ [s.heap.objs.size, a] _ is pm (walk_place (t := t) (ep := ep) hne hh p hf hr hbt (hl hbt) hd) ⟨Heap.get?_push_size _ rfl, Heap.get?_push_of_some _ ho⟩ (fun b o e => Heap.get?_push_of_some _ e) rfl rfl (Nat.le_refl _) fpo (keepS (Heap.get?_push_of_some _ ho))
end
end L2

set_option Elab.async false
set_option linter.all false
set_option maxRecDepth 100000
namespace L2
open PySem PySem.Spec PyProof.Rows
section
variable {prog : Program} {w : World} {A : Around} {E : Value → Shared → Prop} {s : Shared}
theorem set_hint {r : Addr} {Q : Bool → Shared → Prop} (hT : s.TypeIs (.ref r) "set") (h : Q false s) : wpAny (model prog w) A (Builtin.List.listLengthHint (.ref r)) Q E s := by
  unfold Builtin.List.listLengthHint
  refine wpAny_bind (wpAny_specialOf hT F.slot_set_len.lookup ?_)
  generalize hid : ("set.__len__" : String) = id0
  wp_delta
  rw [show splitId id0 = some ("set", "__len__") from by subst hid; decide +kernel]
  subst hid
  refine wpAny_bind (wpAny_isInstance (T := "set") (b := true) hT (by rw [isSubtype_type]; kernel_rfl) ?_)
  refine wpAny_ite_split (fun z => absurd z (by decide)) (fun _ => ?_)
  refine wpAny_ite_split (fun _ => ?_) (fun z => absurd (by decide +kernel) z)
  exact wpAny_bind (wpAny_typeOf hT (wpAny_pure h))

theorem set_extend {R : Result → Shared → Prop} {a S : Addr} {ks : List Int} (hh : A.handled = none) (hS : SetI w s.heap a ks) (hne : S ≠ a) (res : Value) (hL : s.heap.get? S = some { cls := .type "list", data := .seq #[] }) (hz : ks.length ≤ sizeLine)
    (hR : ∀ s' acc c is, (∀ b o, b ≠ S → s.heap.get? b = some o → s'.heap.get? b = some o) → s'.gens = s.gens → s'.os = s.os → s'.heap.get? S = some { cls := .type "list", dict := none, data := .seq acc c, slots := #[] } → is.Perm ks → ItemsOf (IntAt is) acc ks.length → R (.ok (.ret res)) s') :
    wpAny (model prog w) A.in1 (Builtin.List.listExtendWith (.ref S) (.ref a) res)
      (fun fin s' => match fin with | .done f => R (.ok f) s' | .again c' => c'.quiet = true ∧ codeAny (model prog w) A c' R s') (fun e s' => R (.error e) s') s := by
  have hT : s.TypeIs (.ref a) "set" := by
    obtain ⟨o, e, es, ep, t, is, rfl, _⟩ := id hS
    exact ⟨_, e, rfl⟩
  unfold Builtin.List.listExtendWith
  refine wpAny_bind (wpAny_typeOf hT ?_)
  have h1 : Builtin.List.listSameRef (.ref S) (.ref a) = false := by simp [Builtin.List.listSameRef, hne]
  have h2 : (Value.type "set" == Value.type "list") = false := by decide
  have h3 : (Value.type "set" == Value.type "tuple") = false := by decide
  simp only [h1, h2, h3, Bool.or_false, Bool.false_eq_true, if_false]
  refine wpAny_bind (set_iter_ok (A := A.in1) hh hS fun s1 I fp St is hp W st k1 g1 o1 hI hfp hS1 => ?_)
  have hSlt := Heap.lt_size hL
  have nSf : S ∉ fp := fun z => by
    rcases hfp S z with q | q
    · exact hne q
    · exact absurd (Nat.lt_of_lt_of_le hSlt q) (Nat.lt_irrefl _)
  have hL1 := k1 _ _ hL
  have hT1 : s1.TypeIs (.ref a) "set" := by
    obtain ⟨o, e, es, ep, t, is, rfl, _⟩ := id hS1
    exact ⟨_, e, rfl⟩
  refine wpAny_bind (wpAny_holding (set_hint hT1 ?_))
  have key : ∀ (h : Heap) (c tk : Nat), s1.toks ≤ tk → (∀ b o, b ≠ S → s1.heap.get? b = some o → h.get? b = some o) → h.get? S = some { cls := .type "list", data := .seq #[] c } →
      codeAny (model prog w) A (.builtin "list.extend.loop" ⟨[.ref S, .ref I, res], []⟩) R { s1 with heap := h, toks := tk } := by
    intro h c tk htk hk hLc
    refine codeAny_extend_loopS W hz S nSf res ks.length 0 _ #[] c rfl (Nat.zero_le _) (W.frame 0 s1 h tk st htk fun b hb o e => hk b o (fun z => nSf (z ▸ hb)) e) hLc (ItemsOf.nil _) fun s2 acc c' m o2 hacc => ?_
    refine hR s2 acc c' is (fun b o hb e => ?_) (m.gens.trans g1) (m.os.trans o1) o2 hp hacc
    refine m.heap b o (fun z => ?_) (hk b o hb (k1 b o e))
    rcases List.mem_cons.mp z with q | q
    · exact hb q
    · have := Heap.lt_size e
      rw [List.mem_singleton.mp q] at this
      exact absurd (Nat.lt_of_lt_of_le this hI) (Nat.lt_irrefl _)
  refine wpAny_ite_split (fun _ => ?_) (fun _ => wpAny_pure ⟨plainId_quiet F.plain_extend_loop _, key s1.heap 0 s1.toks (Nat.le_refl _) (fun _ _ _ e => e) hL1⟩)
  refine wpAny_bind (wpAny_rule ?_)
  refine wpAny_bind ?_
  show wpAny _ _ (updateSeq S (·.push .none) >>= fun _ => updateSeq S (·.pop)) _ _ _
  refine wpAny_bind (wpAny_updateSeq hL1 rfl ?_)
  have hL2 := Heap.get?_update_self (Obj.mapSeq (·.push Value.none)) hL1 rfl
  refine wpAny_updateSeq (hz := by seq_fits) hL2 rfl ?_
  have hL3 := Heap.get?_update_self (Obj.mapSeq (·.pop)) hL2 rfl
  refine wpAny_pure ⟨plainId_quiet F.plain_extend_loop _, key _ _ s1.toks (Nat.le_refl _) (fun b o hb e => ?_) hL3⟩
  exact (Heap.get?_update_other _ _ (Ne.symm hb)).trans ((Heap.get?_update_other _ _ (Ne.symm hb)).trans e)

theorem collect_set {a : Addr} {ks : List Int} {R : List Value → Shared → Prop} (hh : A.handled = none) (hS : SetI w s.heap a ks) (hz : ks.length ≤ sizeLine)
    (h : ∀ (s' : Shared) (acc : Array Value) (is : List Int), (∀ b o, s.heap.get? b = some o → s'.heap.get? b = some o) → s'.gens = s.gens → s'.os = s.os → is.Perm ks → ItemsOf (IntAt is) acc ks.length → R acc.toList s') :
    wpAny (model prog w) A (collect (.ref a)) R E s := by
  have hlt : a < s.heap.objs.size := let ⟨_, e, _⟩ := hS; Heap.lt_size e
  unfold collect
  refine wpAny_bind (wpAny_runValue (codeAny_builtin F.entry_proto_collect ?_))
  rw [Around.under_plainId F.plain_proto_collect _]
  show wpAny _ A.in1 (newList [] >>= fun l => again (.builtin "list.__iadd__" ⟨[l, .ref a], []⟩)) _ _ s
  refine wpAny_bind (wpAny_newObj_type ?_)
  refine wpAny_pure ⟨plainId_quiet F.plain_list_iadd _, codeAny_builtin F.entry_list_iadd ?_⟩
  rw [Around.under_plainId F.plain_list_iadd _]
  have hL : (s.heap.push { cls := .type "list", data := .seq ([] : List Value).toArray }).get? s.heap.objs.size = some { cls := .type "list", data := .seq #[] } := Heap.get?_push_size _ rfl
  have hS1 : SetI w (s.heap.push { cls := .type "list", data := .seq ([] : List Value).toArray }) a ks := let ⟨o, e, z⟩ := hS; ⟨o, Heap.get?_push_of_some _ e, z⟩
  show wpAny _ A.in1 (Builtin.List.listExtendWith (.ref s.heap.objs.size) (.ref a) (.ref s.heap.objs.size)) _ _ _
  have key := set_extend (prog := prog) (A := A) (s := { s with heap := s.heap.push { cls := .type "list", data := .seq ([] : List Value).toArray } })
    (R := fun (q : Result) (s' : Shared) => ∃ acc c is, q = .ok (.ret (.ref s.heap.objs.size)) ∧ (∀ b o, s.heap.get? b = some o → s'.heap.get? b = some o) ∧ s'.gens = s.gens ∧ s'.os = s.os ∧
      s'.heap.get? s.heap.objs.size = some { cls := .type "list", dict := none, data := .seq acc c, slots := #[] } ∧ is.Perm ks ∧ ItemsOf (IntAt is) acc ks.length)
    hh hS1 (Nat.ne_of_gt hlt) (.ref s.heap.objs.size) hL hz
    (fun s' acc c is k g o e p i => ⟨acc, c, is, rfl, fun b ob z => k b ob (Nat.ne_of_lt (Heap.lt_size z)) (Heap.get?_push_of_some _ z), g, o, e, p, i⟩)
  refine wpAny_mono key (fun fin s' x => ?_) fun e s' x => ?_
  · cases fin with
    | done f =>
      obtain ⟨acc, c, is, e, k, g, o, ob, p, i⟩ := x
      cases e
      show wpAny _ A (load s.heap.objs.size >>= _) _ _ _
      exact wpAny_bind (wpAny_load ob (wpAny_pure (h s' acc is k g o p i)))
    | again c₁ =>
      refine ⟨x.1, codeAny_mono x.2 fun q s₂ y => ?_⟩
      obtain ⟨acc, c, is, rfl, k, g, o, ob, p, i⟩ := y
      show wpAny _ A (load s.heap.objs.size >>= _) _ _ _
      exact wpAny_bind (wpAny_load ob (wpAny_pure (h s₂ acc is k g o p i)))
  · obtain ⟨_, _, _, e', _⟩ := x
    cases e'
theorem ints_items : ∀ {is : List Int} {vs : List Value}, vs.length = is.length → (∀ (j : Nat) v, vs[j]? = some v → IntAt is j v) → IntsAre vs is
  | [], [], _, _ => .nil
  | [], _ :: _, h, _ => by cases h
  | _ :: _, [], h, _ => by cases h
  | i :: is, v :: vs, h, k => by
    obtain ⟨z, t, e1, e2⟩ := k 0 v rfl
    simp only [List.getElem?_cons_zero, Option.some.injEq] at e1
    subst e1
    subst e2
    exact .cons _ _ (ints_items (by simpa using h) fun j u hu => by
      obtain ⟨z, t, e1, e2⟩ := k (j + 1) u (by simpa using hu)
      exact ⟨z, t, by simpa using e1, e2⟩)
set_option maxHeartbeats 2000000 in
theorem sorted_set {a : Addr} {ks : List Int} {Q : Value → Shared → Prop} (hh : A.handled = none) (hS : SetI w s.heap a ks) (h64 : ks.length < 64)
    (h : ∀ (s' : Shared) (l : Addr) (its : List Value) (ns : List Int) (e : Nat), (∀ b o, s.heap.get? b = some o → s'.heap.get? b = some o) → s'.gens = s.gens → s'.os = s.os → s.heap.get? l = none →
      s'.heap.get? l = some { cls := .type "list", data := .seq its.toArray e } → IntsAre its ns → ns.Perm ks → ns.Pairwise (· ≤ ·) → Q (.ref l) s') : wpAny (model prog w) A (call (.builtin "sorted") [.ref a]) Q E s := by
  have hz : ks.length ≤ sizeLine := by rw [sizeLine_eq]; omega
  refine Calls.call_function_entry kind_sorted plain_sorted entry_sorted (args_sorted1 _) ?_
  unfold Builtin.«sorted»
  refine wpAny_bind (m := checkCount "sorted" 1 1 _) (wpAny_pure ?_)
  refine wpAny_bind (collect_set (A := A.in1) hh hS hz fun s1 acc is k g o p hi => ?_)
  have hlen : acc.toList.length = ks.length := by rw [Array.length_toList]; exact hi.1
  have hI : IntsAre acc.toList is := ints_items (by rw [hlen, p.length_eq]) fun j v e => hi.2 j v (by rw [← Array.getElem?_toList]; exact e)
  refine wpAny_bind (wpAny_newList ?_ (by rw [hlen]; exact hz))
  have oL : (s1.heap.push (seqObj "list" acc.toList.toArray 0)).get? s1.heap.objs.size = some (seqObj "list" acc.toList.toArray 0) := Heap.get?_push_size _ rfl
  have hnew : s.heap.get? s1.heap.objs.size = none := by
    cases hq : s.heap.get? s1.heap.objs.size with
    | some ob => exact absurd (Heap.lt_size (k _ _ hq)) (Nat.lt_irrefl _)
    | none => rfl
  refine wpAny_bind (wpAny_holding (wpAny_call_entry slot_list_sort ⟨_, oL, rfl⟩ entry_list_sort (list_sort_tree (s := { s1 with heap := s1.heap.push (seqObj "list" acc.toList.toArray 0) }) oL hI (by rw [hlen]; exact h64) fun out ns' a1 a2 a3 => ⟨_, rfl, ?_⟩) (args_list_sort _)))
  obtain ⟨e, he⟩ := sortedHeap_at (out := out) oL
  refine wpAny_pure ⟨_, rfl, h _ _ out.toList ns' e (fun b ob z => ?_) g o hnew he a1 (a2.trans p) a3⟩
  have hb := Heap.lt_size (k b ob z)
  show (sortedHeap _ _ _ _).get? b = some ob
  rw [sortedHeap_old (Nat.ne_of_lt hb) (by rw [size_push']; exact Nat.lt_succ_of_lt hb), Heap.get?_push_ne _ _ _ (Nat.ne_of_lt hb)]
  exact k b ob z
end
end L2

set_option Elab.async false
set_option linter.all false
set_option maxRecDepth 100000
namespace L2
open PySem PySem.Spec PyProof.Rows
theorem ltN {a b : Nat} (h : a < b) : a < b := h
theorem leN {a b : Nat} (h : a ≤ b) : a ≤ b := h
theorem neN {a b : Nat} (h : a = b) : a = b := h

/-! ### comprehensions: the block's cells -/
def clOf (env : Env) : List (Str × NameKind) → List (Str × Addr) → List (Str × Addr)
  | [], acc => acc
  | (n, k) :: r, acc => if k == .free then (match env.cells.lookup n with | some a => clOf env r ((n, a) :: acc) | none => clOf env r acc) else clOf env r acc
theorem clOf_go (env : Env) : ∀ (names : List (Str × NameKind)) (acc : List (Str × Addr)), (∀ y ∈ names, y.2 = .free → ∃ c, env.cells.lookup y.1 = some c) →
    (forIn names acc fun (x : Str × NameKind) (cs : List (Str × Addr)) => (if x.2 == .free then do let a ← cellOf env x.1; pure (ForInStep.yield ((x.1, a) :: cs)) else pure (ForInStep.yield cs) : Sem (ForInStep (List (Str × Addr))))) = pure (clOf env names acc)
  | [], acc, _ => rfl
  | (n, k) :: r, acc, h => by
    have ih := fun acc' => clOf_go env r acc' fun y hy => h y (List.mem_cons_of_mem _ hy)
    rw [List.forIn_cons]
    unfold clOf
    by_cases hk : (k == NameKind.free) = true
    · obtain ⟨c, hc⟩ := h (n, k) List.mem_cons_self (by simpa using hk)
      have e : cellOf env n = pure c := by unfold cellOf; rw [hc]
      simp only [hk, if_true, hc, e, pure_bind]
      exact ih _
    · simp only [hk, if_false, pure_bind]
      exact ih _
theorem closure_cl {scope : Scope} {env : Env} (h : ∀ y ∈ scope.names, y.2 = .free → ∃ c, env.cells.lookup y.1 = some c) : closureFor scope env = pure (clOf env scope.names []) := by
  rw [← clOf_go env scope.names [] h]
  unfold closureFor
  first | rfl | simp
theorem clOf_sub (env : Env) {y : Str} {c : Addr} : ∀ (names : List (Str × NameKind)) (acc : List (Str × Addr)), (clOf env names acc).lookup y = some c → env.cells.lookup y = some c ∨ acc.lookup y = some c
  | [], acc, h => .inr h
  | (n, k) :: r, acc, h => by
    unfold clOf at h
    split at h
    · split at h
      · rename_i a ha
        rcases clOf_sub env r _ h with q | q
        · exact .inl q
        · rw [List.lookup_cons] at q
          cases hb : y == n with
          | true =>
            rw [hb] at q
            have e : y = n := eq_of_beq hb
            rw [e]
            simp only [Option.some.injEq] at q
            exact .inl (by rw [ha, q])
          | false =>
            rw [hb] at q
            exact .inr q
      · exact clOf_sub env r _ h
    · exact clOf_sub env r _ h
theorem clOf_keep (env : Env) {y : Str} {c : Addr} (hc : env.cells.lookup y = some c) : ∀ (names : List (Str × NameKind)) (acc : List (Str × Addr)), acc.lookup y = some c → (clOf env names acc).lookup y = some c
  | [], acc, h => h
  | (n, k) :: r, acc, h => by
    unfold clOf
    split
    · split
      · rename_i a ha
        refine clOf_keep env hc r _ ?_
        rw [List.lookup_cons]
        cases hb : y == n with
        | true =>
          have e : y = n := eq_of_beq hb
          subst e
          rw [hc] at ha
          cases ha
          rfl
        | false => exact h
      · exact clOf_keep env hc r _ h
    · exact clOf_keep env hc r _ h
theorem clOf_has (env : Env) {y : Str} {c : Addr} (hc : env.cells.lookup y = some c) : ∀ (names : List (Str × NameKind)) (acc : List (Str × Addr)), (y, NameKind.free) ∈ names → (clOf env names acc).lookup y = some c
  | [], _, h => by cases h
  | (n, k) :: r, acc, h => by
    unfold clOf
    rcases List.mem_cons.mp h with e | h
    · cases e
      simp only [beq_self_eq_true, if_true, hc]
      exact clOf_keep env hc r _ (by rw [List.lookup_cons]; simp)
    · split
      · split
        · exact clOf_has env hc r _ h
        · exact clOf_has env hc r _ h
      · exact clOf_has env hc r _ h
theorem cellsFrom_app : ∀ (names : List (Str × NameKind)) (n : Nat) (acc : List (Str × Addr)), cellsFrom n names acc = cellsFrom n names [] ++ acc
  | [], _, _ => rfl
  | (y, k) :: r, n, acc => by
    unfold cellsFrom
    split
    · rw [cellsFrom_app r (n + 1) ((y, n) :: acc), cellsFrom_app r (n + 1) [(y, n)], List.append_assoc]
      rfl
    · exact cellsFrom_app r n acc
theorem lookup_app {y : Str} : ∀ (a b : List (Str × Addr)), (a ++ b).lookup y = (match a.lookup y with | some c => some c | none => b.lookup y)
  | [], _ => rfl
  | (n, v) :: r, b => by
    rw [List.cons_append, List.lookup_cons, List.lookup_cons]
    cases y == n with
    | true => rfl
    | false => exact lookup_app r b
theorem cellsFrom_own {y : Str} {c : Addr} : ∀ (names : List (Str × NameKind)) (n : Nat) (acc : List (Str × Addr)), (y, c) ∈ cellsFrom n names acc → (n ≤ c ∧ (y, NameKind.cell) ∈ names) ∨ (y, c) ∈ acc
  | [], _, _, h => .inr h
  | (z, k) :: r, n, acc, h => by
    unfold cellsFrom at h
    split at h
    · rename_i hk
      rcases cellsFrom_own r (n + 1) _ h with ⟨a, b⟩ | q
      · exact .inl ⟨Nat.le_of_succ_le a, List.mem_cons_of_mem _ b⟩
      · rcases List.mem_cons.mp q with e | q
        · cases e
          have ek : k = NameKind.cell := by simpa using hk
          exact .inl ⟨Nat.le_refl _, by rw [ek]; exact List.mem_cons_self⟩
        · exact .inr q
    · rcases cellsFrom_own r n _ h with ⟨a, b⟩ | q
      · exact .inl ⟨a, List.mem_cons_of_mem _ b⟩
      · exact .inr q

/-- a comprehension's own frame: a dict, its own cells behind it -/
theorem env_comp {M : Model} {A : Around} {E : Value → Shared → Prop} {s : Shared} {scope : Scope} {g : Addr} {cl : List (Str × Addr)} {qual : Str} {env : Env} {Q : Env → Shared → Prop}
    (h : Q { scope, locals := s.heap.objs.size, globals := g, cells := cellsFrom (s.heap.objs.size + 1) scope.names cl, qual, func := none, code := env.code, frame := env.frame, builtins := env.builtins }
      { s with heap := pushCells (s.heap.push { cls := .type "dict", data := .dict #[] }) scope.names }) :
    wpAny M A (newFunctionEnv scope g cl [] qual none .none (some env)) Q E s := by
  simp only [newFunctionEnv, Option.isSome_some, if_true]
  refine wpAny_bind (wpAny_alloc ?_)
  refine wpAny_bind (wpAny_layCells _ (fun name kind cells => by cases hkc : kind == NameKind.cell <;> simp [hkc]) _ _ _ _ ?_)
  rw [show ({ s with heap := s.heap.push { cls := .type "dict", data := .dict #[] } } : Shared).heap.objs.size = s.heap.objs.size + 1 from Heap.size_push ..]
  first | exact wpAny_bind (wpAny_pure (wpAny_pure h)) | exact wpAny_pure h | exact wpAny_bind (wpAny_pure h)

/-! ### comprehensions: the block's context -/
def maskN (x : Str) (N : List Str) : List Str := N.map fun n => if n = x then "." else n
def cxComp (X : Cx) (x : Str) (M : List Str) (scope : Scope) (C : Addr) (cs : List (Str × Addr)) (s : Shared) (H : Hp) (fp : List Addr) : Cx :=
  { X with N := x :: M, s₀ := s, H₀ := H, env := compEnvC scope cs C X.env, outer := X.stack, ex := fp, fn := fun y => scope.names.lookup y == some .cell, pn := [], xe := fun _ _ => False }

def PTs (X : Cx) (ifs : List Expr) (t : TT) : Prop :=
  ∀ (pins : List (Addr × Obj)) (s : Shared) (σ : St) (H : Hp) (Q : Bool → Hp → Prop), Inv X pins σ H s → t σ H Q →
    wpAny (model X.prog X.w) X.A (forIn ifs true fun c r => if r = true then do let ok ← isTrue c X.env (eval c X.env); pure (ForInStep.yield ok) else pure (ForInStep.yield r)) (TP X pins σ Q) X.xe s
def tTrue : TT := fun _ H Q => Q true H
theorem pts_nil {X : Cx} : PTs X [] tTrue := fun _ _ _ H _ I h => wpAny_tests_nil ⟨H, I, h⟩
theorem pts_one {X : Cx} {c : Expr} {t : TT} (h : PT X c t) : PTs X [c] t := fun pins s σ H Q I q => wpAny_tests_one (h pins s σ H Q I q)

/-- W: what holds at the turn of the list made so far; the measure falls -/
def CompW (J : It) (tc : TT) (te : TE) (σ : St) (H : Hp) (Q : VK) : Prop := ∃ W : Nat → Nat → List V → Hp → Prop, (∃ m, W 0 m [] H) ∧ ∀ i m ys H, W i m ys H → ys.length < sizeLine ∧
  ((J.stop i H ∧ ∀ l, H l = none → Q (.ref l) (upd H l (.lst ys))) ∨
   (J.go i H ∧ ∀ v H', J.yld i H v H' → tc (some v :: σ) H' fun c H2 => if c = true then te (some v :: σ) H2 fun y H3 => ∃ m', m' < m ∧ W (i + 1) m' (ys ++ [y]) H3 else ∃ m', m' < m ∧ W (i + 1) m' ys H2))
def tComp (wi : TI) (tc : TT) (te : TE) : TE := fun σ H Q => wi σ H fun J H1 => CompW J tc te σ H1 Q

/-- what a comprehension asks of its table of names -/
structure CompScope (X : Cx) (x : Str) (M : List Str) (scope : Scope) : Prop where
  kind : scope.kind = .function
  once : ∀ y ∈ scope.names, scope.names.lookup y.1 = some y.2
  dot : ∀ y ∈ scope.names, y.1 ≠ "."
  free : ∀ y ∈ scope.names, y.2 = .free → X.env.kindOf y.1 = some .cell ∨ X.env.kindOf y.1 = some .free
  own : scope.names.lookup x = some .local ∨ scope.names.lookup x = some .cell
  mask : M = maskN x X.N
  nd : (x :: M).Nodup
  apart : ∀ y ∈ M, ¬ (scope.names.lookup y = some .local ∨ scope.names.lookup y = some .cell)

theorem lookup_map_kind (f : Str → NameKind → NameKind) (y : Str) : ∀ names : List (Str × NameKind), (names.map fun p => (p.1, f p.1 p.2)).lookup y = (names.lookup y).map (f y)
  | [] => rfl
  | (n, k) :: r => by
    rw [List.map_cons, List.lookup_cons, List.lookup_cons]
    cases hb : y == n with
    | true =>
      have e : y = n := eq_of_beq hb
      subst e
      rfl
    | false => exact lookup_map_kind f y r
theorem relabel_look (scope : Scope) (env : Env) (y : Str) : (relabel scope env).names.lookup y = (scope.names.lookup y).map fun k => if (k == .free && env.scope.kind == .function && env.kindOf y == some .cell) = true then NameKind.cell else k := by
  have e : (relabel scope env).names = scope.names.map fun p => (p.1, (fun n k => if (k == .free && env.scope.kind == .function && env.kindOf n == some .cell) = true then NameKind.cell else k) p.1 p.2) := by
    unfold relabel
    refine List.map_congr_left fun p _ => ?_
    obtain ⟨n, k⟩ := p
    dsimp only
    split <;> rfl
  rw [e]
  exact lookup_map_kind (fun n k => if (k == .free && env.scope.kind == .function && env.kindOf n == some .cell) = true then NameKind.cell else k) y scope.names

section
variable {X : Cx} {x : Str} {M : List Str} {scope : Scope}
theorem CompScope.cl (S : CompScope X x M scope) (ok : X.Ok) : ∀ y ∈ scope.names, y.2 = .free → ∃ c, X.env.cells.lookup y.1 = some c := fun y hy hf => ok.has y.1 (S.free y hy hf)
/-- a name of the block that is not its own: it is one of the outer context's cells -/
theorem CompScope.outer (S : CompScope X x M scope) {y : Str} (hy : y ∈ M) (hv : Vis (relabel scope X.env) y) : (y, NameKind.free) ∈ scope.names ∧ ((relabel scope X.env).names.lookup y = some .cell ∨ (relabel scope X.env).names.lookup y = some .free) := by
  have na := S.apart y hy
  unfold Vis at hv
  rw [relabel_look] at hv ⊢
  cases e : scope.names.lookup y with
  | none => rw [e] at hv; simp at hv
  | some k =>
    have hk : k = .free ∨ (k ≠ .local ∧ k ≠ .cell ∧ k ≠ .free) := by
      cases k with
      | «local» => exact absurd (.inl e) na
      | cell => exact absurd (.inr e) na
      | free => exact .inl rfl
      | globalExplicit => exact .inr ⟨(fun z => by cases z), (fun z => by cases z), (fun z => by cases z)⟩
      | globalImplicit => exact .inr ⟨(fun z => by cases z), (fun z => by cases z), (fun z => by cases z)⟩
    rcases hk with rfl | ⟨h1, h2, h3⟩
    · refine ⟨PySem.mem_of_lookup e, ?_⟩
      simp only [Option.map_some]
      split
      · exact .inl rfl
      · exact .inr rfl
    · exfalso
      rw [e] at hv
      simp only [Option.map_some] at hv
      have hb : (k == NameKind.free) = false := by simpa using h3
      simp only [hb, Bool.false_and, Bool.false_eq_true, if_false, Option.some.injEq] at hv
      rcases hv with z | z | z
      · exact h1 z
      · exact h2 z
      · exact h3 z

theorem CompScope.loc (S : CompScope X x M scope) : Loc (relabel scope X.env) x ∧ ((scope.names.lookup x == some NameKind.cell) = true ∨ (relabel scope X.env).names.lookup x = some .local) := by
  unfold Loc
  rw [relabel_look]
  rcases S.own with e | e
  · rw [e]
    exact ⟨.inl rfl, .inr rfl⟩
  · rw [e]
    exact ⟨.inr rfl, .inl rfl⟩
theorem maskN_get {N : List Str} {i : Nat} {y : Str} (h : (maskN x N)[i]? = some y) : y = "." ∨ N[i]? = some y := by
  unfold maskN at h
  rw [List.getElem?_map] at h
  cases e : N[i]? with
  | none => rw [e] at h; cases h
  | some n =>
    rw [e] at h
    simp only [Option.map_some, Option.some.injEq] at h
    split at h
    · exact .inl h.symm
    · exact .inr (by rw [h])

variable {pins : List (Addr × Obj)} {σ : St} {H : Hp} {s : Shared} {fp : List Addr}
abbrev newAcc (h : Heap) : Heap := h.push { cls := .type "list", dict := none, data := .seq ([] : List Value).toArray }
abbrev blockHeap (h : Heap) (scope : Scope) : Heap := pushCells ((newAcc h).push { cls := .type "dict", data := .dict #[] }) scope.names
abbrev blockCells (X : Cx) (scope : Scope) (C : Addr) : List (Str × Addr) := cellsFrom (C + 1) scope.names (clOf X.env scope.names [])
theorem newAcc_size (h : Heap) : (newAcc h).objs.size = h.objs.size + 1 := Heap.size_push ..
theorem blockHeap_keep {h : Heap} {b : Addr} {o : Obj} (e : h.get? b = some o) : (blockHeap h scope).get? b = some o := pushCells_keeps _ _ _ _ (Heap.get?_push_of_some _ (Heap.get?_push_of_some _ e))
theorem inv_block (S : CompScope X x M scope) (I : Inv X pins σ H s) (fpk : ∀ b ∈ fp, FpOk X pins H b) (fpo : ∀ b ∈ fp, b < s.heap.objs.size) :
    Inv (cxComp X x M scope (newAcc s.heap).objs.size (blockCells X scope (newAcc s.heap).objs.size) s H fp) [] (none :: σ) H { s with heap := blockHeap s.heap scope } := by
  have hC := newAcc_size s.heap
  generalize hCe : (newAcc s.heap).objs.size = C at hC ⊢
  have hD : ((newAcc s.heap).push { cls := .type "dict", data := .dict #[] }).objs.size = C + 1 := by rw [Heap.size_push, hCe]
  have ok := cellsFrom_ok scope.names ((newAcc s.heap).push { cls := .type "dict", data := .dict #[] }) (C + 1) [] ⟨fun _ _ hm => (nomatch hm), List.Pairwise.nil⟩ (by rw [hD]; exact Nat.le_refl _)
  rw [hD] at ok
  have keep : ∀ b o, s.heap.get? b = some o → (blockHeap s.heap scope).get? b = some o := fun b o e => blockHeap_keep e
  have clX : ∀ y c, X.env.cells.lookup y = some c → c < s.heap.objs.size := fun y c e => let ⟨_, z⟩ := I.cell y c e; z.lt
  have hcs : ∀ y c, (blockCells X scope C).lookup y = some c → ((y, c) ∈ cellsFrom (C + 1) scope.names [] ∧ C + 1 ≤ c ∧ (y, NameKind.cell) ∈ scope.names) ∨ X.env.cells.lookup y = some c := fun y c e => by
    unfold blockCells at e
    rw [cellsFrom_app, lookup_app] at e
    split at e
    · rename_i c' q
      cases e
      have hm := PySem.mem_of_lookup q
      rcases cellsFrom_own _ _ _ hm with ⟨a, b⟩ | z
      · exact .inl ⟨hm, a, b⟩
      · cases z
    · rcases clOf_sub X.env _ _ e with q | q
      · exact .inr q
      · cases q
  have nocell : ∀ y, (y, NameKind.free) ∈ scope.names → (cellsFrom (C + 1) scope.names []).lookup y = none := fun y hy => by
    cases q : (cellsFrom (C + 1) scope.names []).lookup y with
    | none => rfl
    | some c =>
      rcases cellsFrom_own _ _ _ (PySem.mem_of_lookup q) with ⟨_, b⟩ | z
      · have e1 := S.once _ hy
        have e2 := S.once _ b
        rw [e1] at e2
        cases e2
      · cases z
  have hfr : ∀ y c, (y, NameKind.free) ∈ scope.names → X.env.cells.lookup y = some c → (blockCells X scope C).lookup y = some c := fun y c hy hc => by
    unfold blockCells
    rw [cellsFrom_app, lookup_app, nocell y hy]
    exact clOf_has X.env hc _ _ hy
  have fsz : ∀ b ∈ fp, b ≠ C := fun b hb z => by have := ltN (fpo b hb); have := neN z; omega
  refine ⟨⟨I.mod, S.kind, I.ok.glob, I.ok.blt, (by show s.heap.objs.size ≤ C; omega), fun y z c h1 h2 => ?_, fun y hy => ?_, fun y c hf h => ?_, I.ok.hd, I.ok.frames, .inl rfl, fun b hb => ⟨fsz b hb, fun y c e z => ?_⟩, fun b o e => I.bs b o e, Nat.le_trans I.ok.bsz I.sz, fun b o e hb => ?_, fun b hb z => ?_, I.stack, I.stkFree⟩,
    rfl, I.bare, Un.kept keep, ⟨_, (by rw [← hCe]; exact (Heap.Ns.new (newAcc s.heap) (.type "dict")).keeps (pushCells_keeps _ _)), fun i y v h1 h2 h3 => ?_⟩, fun y c h => ?_, I.hok.fresh (by show s.heap.objs.size ≤ C; omega), fun y c h => ?_, fun p hp => absurd (show p ∈ ([] : List (Addr × Obj)) from hp) (by simp), I.hok.kept keep, ?_⟩
  · rcases hcs y c h1 with ⟨a1, a2, _⟩ | a <;> rcases hcs z c h2 with ⟨b1, b2, _⟩ | b
    · exact name_of_addr ok.apart a1 b1
    · have := ltN (clX z c b); have := leN a2; omega
    · have := ltN (clX y c a); have := leN b2; omega
    · exact I.ok.inj y z c a b
  · have hy' : (relabel scope X.env).names.lookup y = some .cell ∨ (relabel scope X.env).names.lookup y = some .free := hy
    rw [relabel_look] at hy'
    show ∃ c, (blockCells X scope C).lookup y = some c
    unfold blockCells
    rw [cellsFrom_app, lookup_app]
    cases q : (cellsFrom (C + 1) scope.names []).lookup y with
    | some c => exact ⟨c, rfl⟩
    | none =>
      cases e : scope.names.lookup y with
      | none => rw [e] at hy'; simp at hy'
      | some k =>
        cases k with
        | cell =>
          have := PySem.W.cellsFrom_some scope.names (C + 1) [] (.inl e)
          rw [q] at this
          cases this
        | free =>
          have hm := PySem.mem_of_lookup e
          obtain ⟨c, hc⟩ := S.cl I.ok _ hm rfl
          exact ⟨c, clOf_has X.env hc _ _ hm⟩
        | _ => rw [e] at hy'; simp at hy'
  · have hf' : (scope.names.lookup y == some NameKind.cell) = true := hf
    rcases hcs y c h with ⟨_, a, _⟩ | a
    · show s.heap.objs.size ≤ c; omega
    · exfalso
      have e1 : scope.names.lookup y = some .cell := by simpa using hf'
      have hm := PySem.mem_of_lookup e1
      have h' : (blockCells X scope C).lookup y = some c := h
      unfold blockCells at h'
      rw [cellsFrom_app, lookup_app] at h'
      have hs := PySem.W.cellsFrom_some scope.names (C + 1) [] (.inl e1)
      cases q : (cellsFrom (C + 1) scope.names []).lookup y with
      | none => rw [q] at hs; cases hs
      | some c' =>
        rw [q] at h'
        cases h'
        rcases cellsFrom_own _ _ _ (PySem.mem_of_lookup q) with ⟨z, _⟩ | z
        · have := ltN (clX y c a); have := leN z; omega
        · cases z
  · rcases hcs y c e with ⟨_, a, _⟩ | a
    · have := ltN (fpo b hb); have := leN a; have := neN z; omega
    · exact (fpk b hb).2.2.2.2.1 y c a z
  · rcases (fpk b hb).2.2.2.1 with z | z
    · exact I.ok.noex b o e z
    · exact absurd (Nat.lt_of_lt_of_le (Heap.lt_size e) (Nat.le_trans I.ok.bsz z)) (Nat.lt_irrefl _)
  · rcases List.mem_cons.mp (I.stkSub b z) with q | q
    · exact (fpk b hb).2.1 q
    · exact (fpk b hb).2.2.1 q
  · cases i with
    | zero =>
      have h2' : some (none : Option V) = some (some v) := h2
      cases h2'
    | succ i =>
      have h1' : M[i]? = some y := h1
      have h2' : σ[i]? = some (some v) := h2
      have h3' : Vis (relabel scope X.env) y := h3
      obtain ⟨fr, kd⟩ := S.outer (List.mem_of_getElem? h1') h3'
      rw [S.mask] at h1'
      rcases maskN_get h1' with q | q
      · exact absurd q (S.dot _ fr)
      · have kX := S.free _ fr rfl
        have vX : Vis X.env.scope y := .inr kX
        obtain ⟨m, _, hl⟩ := I.loc
        obtain ⟨u, r, l⟩ := hl i y v q h2' vX
        refine ⟨u, r, ?_⟩
        rcases l with ⟨k, _⟩ | ⟨_, c, e, z⟩
        · rcases kX with w | w
          · rw [k] at w; cases w
          · rw [k] at w; cases w
        · exact .inr ⟨kd, c, hfr y c fr e, z.keeps keep⟩
  · rcases hcs y c h with ⟨a1, _, _⟩ | a
    · exact ⟨none, (ok.empty y c a1).1⟩
    · obtain ⟨v, z⟩ := I.cell y c a
      exact ⟨v, z.keeps keep⟩
  · rcases hcs y c h with ⟨_, a, _⟩ | a
    · exact I.hok.fresh (by show s.heap.objs.size ≤ c; omega)
    · exact I.freeC y c a
  · show σ.length + 1 = M.length + 1
    rw [S.mask]
    unfold maskN
    rw [List.length_map, I.len]

/-- behind the block: the list is tracked -/
theorem inv_exit {C : Addr} {cs : List (Str × Addr)} {pins2 : List (Addr × Obj)} {σ2 : St} {H2 : Hp} {s2 : Shared} {ys : List V} {its : List Value} {k : Nat} (I : Inv X pins σ H s) (fpk : ∀ b ∈ fp, FpOk X pins H b)
    (J : Inv (cxComp X x M scope C cs s H fp) pins2 σ2 H2 s2) (hn : H2 s.heap.objs.size = none) (ho : s2.heap.get? s.heap.objs.size = some { cls := .type "list", data := .seq its.toArray k }) (r : Vals ys its) (hz : ys.length ≤ sizeLine) :
    Inv X pins σ (upd H2 s.heap.objs.size (.lst ys)) s2 := by
  have u : Un (frs X.stack) fp H H2 s.heap s2.heap := J.base
  have ne : ∀ b o, H2 b = some o → b ≠ s.heap.objs.size := fun b o e => ne_of_none e hn
  refine I.call' (ch := fp) J.os ⟨u.keep, u.slot, fun b o e n hx => ?_, u.there, fun b xs e => ?_, fun b o xs e => ?_, fun b ps e => ?_⟩ (fun b o e => ?_) J.bare fun b hb => ?_
  · rw [upd_ne (Nat.ne_of_lt (Heap.lt_size e))]
    exact u.free b o e n hx
  · have q := u.tups b xs e
    rw [upd_ne (ne _ _ q)]
    exact q
  · have q := u.frzs b o xs e
    rw [upd_ne (ne _ _ q)]
    exact q
  · obtain ⟨more, q⟩ := u.tbls b ps e
    exact ⟨more, by rw [upd_ne (ne _ _ q)]; exact q⟩
  · by_cases hb : b = s.heap.objs.size
    · subst hb
      rw [upd_same] at e
      cases e
      exact ⟨hz, its, k, r, ho⟩
    · rw [upd_ne hb] at e
      exact (J.hok b o e).stay (fun _ _ _ q => q) (fun c q => by rw [upd_ne (ne _ _ q)]; exact q) fun c xs q => by rw [upd_ne (ne _ _ q)]; exact q
  · obtain ⟨_, a, _, b1, b2, b3⟩ := fpk b hb
    exact ⟨b1, a, b2, b3⟩

theorem comp_run {px pos : Pos} {elt iter : Expr} {ifs : List Expr} {tc : TT} {te : TE} {it : Addr} {tn : Nat → Heap → Prop} {J : It} {Q : VK} {RR : Value → Addr → Result → Shared → Prop} (hcalm : X.calm = true) (S : CompScope X x M scope)
    (hc : ∀ C cs s H fp, PTs (cxComp X x M scope C cs s H fp) ifs tc) (he : ∀ C cs s H fp, PE (cxComp X x M scope C cs s H fp) elt te)
    (I : Inv X pins σ H s) (T : Turn X.prog X.w X.K (.Name x px) J fp it tn) (t0 : tn 0 s.heap) (fpk : ∀ b ∈ fp, FpOk X pins H b)
    (hw : CompW J tc te σ H Q)
    (hRR : ∀ (acc C : Addr) (s' : Shared) (H' : Hp) (m : Str → Option Value), Inv X pins σ H' s' → s'.heap.Ns C m → FpOk X pins H' C → Q (.ref acc) H' → RR (.ref acc) C (.ok .next) s') :
    wpAny (model X.prog X.w) X.A (newList []) (fun acc s₃ => wpAny (model X.prog X.w) X.A (newFunctionEnv scope X.env.globals (clOf X.env scope.names []) [] X.env.qual none .none (some X.env)) (fun cenv s₄ =>
      codeAny (model X.prog X.w) X.A (.compStart (.ListComp elt [⟨.Name x px, iter, ifs, 0⟩] scope pos) 0 (.ref it) acc { cenv with scope := relabel scope X.env }) (RR acc cenv.locals) s₄) X.xe s₃) X.xe s := by
  have fpo : ∀ b ∈ fp, b < s.heap.objs.size := fun b hb => let ⟨_, e, _⟩ := T.obj _ _ t0 b hb; Heap.lt_size e
  refine wpAny_newObj_type (env_comp ?_)
  have IB := inv_block S I fpk fpo
  have hC := newAcc_size s.heap
  obtain ⟨W, ⟨m0, w0⟩, turn⟩ := hw
  show codeAny _ _ (.compStart _ 0 (.ref it) (.ref s.heap.objs.size) (compEnvC scope (blockCells X scope (newAcc s.heap).objs.size) (newAcc s.heap).objs.size X.env)) (RR (.ref s.heap.objs.size) (newAcc s.heap).objs.size) { s with heap := blockHeap s.heap scope }
  generalize hCe : (newAcc s.heap).objs.size = C at hC IB ⊢
  have old : ∀ b o, s.heap.get? b = some o → (blockHeap s.heap scope).get? b = some o := fun b o e => blockHeap_keep e
  have t1 : tn 0 (blockHeap s.heap scope) := T.keep _ _ _ t0 fun b _ o e => old b o e
  have oacc : (blockHeap s.heap scope).get? s.heap.objs.size = some { cls := .type "list", data := .seq ([] : List Value).toArray 0 } :=
    pushCells_keeps _ _ _ _ (Heap.get?_push_of_some _ (Heap.get?_push_size _ rfl))
  have accC : s.heap.objs.size ≠ C := by omega
  have accF : s.heap.objs.size ∉ frs X.stack := fun z => by
    rcases List.mem_cons.mp (I.stkSub _ z) with q | q
    · exact absurd I.lt (by rw [← q]; exact Nat.lt_irrefl _)
    · exact I.nofs (Nat.le_refl _) q
  have stat : ∀ {H' : Hp} {o : Obj}, (∀ b ∈ fp, H' b = none) → ∀ b ∈ fp, FpOk (cxComp X x M scope C (blockCells X scope C) s H fp) [(s.heap.objs.size, o)] H' b := fun {H' o} hn b hb =>
    ⟨hn b hb, (IB.ok.exf b hb).1, IB.ok.exfs b hb, .inl hb, (IB.ok.exf b hb).2, fun p hp z => by
      have e : p = (s.heap.objs.size, o) := by simpa using (show p ∈ ([] : List (Addr × Obj)) ++ [(s.heap.objs.size, o)] from hp)
      have := ltN (fpo b hb)
      rw [e] at z
      have z' := neN (show s.heap.objs.size = b from z)
      omega⟩
  obtain ⟨hloc, hfn⟩ := S.loc
  have loop : codeAny (model X.prog X.w) X.A (.compLoop (.ListComp elt [⟨.Name x px, iter, ifs, 0⟩] scope pos) 0 (.ref it) (.ref s.heap.objs.size) (compEnvC scope (blockCells X scope C) C X.env)) (RR (.ref s.heap.objs.size) C) { s with heap := blockHeap s.heap scope } := by
    refine codeAny_compLoop_tests (fun n s' => ∃ i ys its k H', Inv (cxComp X x M scope C (blockCells X scope C) s H fp) [] (none :: σ) H' s' ∧ tn i s'.heap ∧ (∀ b ∈ fp, H' b = none) ∧ H' s.heap.objs.size = none ∧
      s'.heap.get? s.heap.objs.size = some { cls := .type "list", data := .seq its.toArray k } ∧ Vals ys its ∧ W i n ys H') ?_ m0 ⟨0, [], [], 0, H, IB, t1, fun b hb => (fpk b hb).1, I.hok.fresh (Nat.le_refl _), oacc, .nil, w0⟩
    rintro n s1 ⟨i, ys, its, k, H1, I1, u1, f1, a1, o1, r1, w1⟩
    obtain ⟨hlen, hcase⟩ := turn i n ys H1 w1
    have J1 : Inv (cxComp X x M scope C (blockCells X scope C) s H fp) [(s.heap.objs.size, { cls := .type "list", data := .seq its.toArray k })] (none :: σ) H1 s1 := I1.pins_of fun p hp => by
      have e : p = (s.heap.objs.size, { cls := .type "list", data := .seq its.toArray k }) := by simpa using hp
      subst e
      exact ⟨o1, a1, accC, accF, fun v z => by cases z⟩
    rcases hcase with ⟨stop, q⟩ | ⟨go, step⟩
    · refine thn (T.done (cxComp X x M scope C (blockCells X scope C) s H fp) rfl rfl rfl hcalm i _ s1 _ H1 _ J1 (stat f1) u1 stop) fun r s2 ⟨hr, I2⟩ => ?_
      subst hr
      obtain ⟨m, hns, _⟩ := I2.loc
      have p2 := I2.pin _ (List.mem_append_right _ List.mem_cons_self)
      refine hRR s.heap.objs.size C s2 _ m (inv_exit I fpk I2 a1 p2.1 r1 (Nat.le_of_lt hlen)) hns (I.fpOk (by omega) ?_) (q _ a1)
      rw [upd_ne (Ne.symm accC)]
      exact I2.free
    · refine thn (T.item (cxComp X x M scope C (blockCells X scope C) s H fp) rfl rfl rfl hcalm i _ s1 _ H1 _ J1 (stat f1) u1 go) fun r s2 ⟨u, hr, h2⟩ => ?_
      subst hr
      show wpAny _ _ (letOwnedTupleGo (.Name x px) (.ref it) u >>= fun _ => assign (.Name x px) (compEnvC scope (blockCells X scope C) C X.env) u) _ _ _
      refine wpAny_bind (thn h2 fun _ s3 ⟨v, H3, I3, r3, y3, u3, f3⟩ => ?_)
      have I3' := I3.pinned (stat f3) (T.obj _ _ u3)
      refine wpAny_assign_Name (store_ok I3' S.nd (i := 0) rfl hloc r3 (fun s4 I4 => ?_) hfn)
      refine wpAny_mono (hc _ _ _ _ _ _ s4 _ _ _ I4 (step v H3 y3)) (fun okv s5 ⟨H5, I5, q5⟩ => ?_) fun _ _ z => z.elim
      have back : ∀ {s' : Shared} {H' : Hp}, Inv (cxComp X x M scope C (blockCells X scope C) s H fp) ([(s.heap.objs.size, { cls := .type "list", data := .seq its.toArray k })] ++ pinsAt fp s3.heap) (some v :: σ) H' s' →
          Inv (cxComp X x M scope C (blockCells X scope C) s H fp) [] (none :: σ) H' s' ∧ tn (i + 1) s'.heap ∧ (∀ b ∈ fp, H' b = none) ∧ H' s.heap.objs.size = none ∧ s'.heap.get? s.heap.objs.size = some { cls := .type "list", data := .seq its.toArray k } := fun {s' H'} K => by
        have pk : ∀ b ∈ fp, ∀ o, s3.heap.get? b = some o → s'.heap.get? b = some o ∧ H' b = none := fun b hb o e =>
          let z := K.pin (b, o) (List.mem_append_right _ (List.mem_append_right _ (mem_pinsAt hb e)))
          ⟨z.1, z.2.1⟩
        have pa := K.pin _ (List.mem_append_right _ (List.mem_append_left _ List.mem_cons_self))
        refine ⟨(K.pins_of (pins' := []) fun p hp => by cases hp).weak rfl fun j v' e => ?_, T.keep _ _ _ u3 fun b hb o e => (pk b hb o e).1, fun b hb => ?_, pa.2.1, pa.1⟩
        · cases j with
          | zero => cases e
          | succ j => exact e
        · obtain ⟨o, e, _⟩ := T.obj _ _ u3 b hb
          exact (pk b hb o e).2
      cases okv with
      | false =>
        rw [if_neg Bool.false_ne_true] at q5 ⊢
        obtain ⟨m', lt, w5⟩ := q5
        obtain ⟨K1, K2, K3, K4, K5⟩ := back I5
        exact ⟨m', lt, i + 1, ys, its, k, H5, K1, K2, K3, K4, K5, r1, w5⟩
      | true =>
        rw [if_pos rfl] at q5 ⊢
        refine wpAny_mono (he _ _ _ _ _ _ s5 _ _ _ I5 q5) (fun yv s6 ⟨y, H6, I6, r6, m', lt, w6⟩ => ?_) fun _ _ z => z.elim
        obtain ⟨K1, K2, K3, K4, K5⟩ := back I6
        refine wpAny_list_append_plain (l := s.heap.objs.size) (items := its.toArray) ⟨k, K5⟩ (fun h' hl' hsb => ?_) (by rw [List.size_toArray, ← r1.length]; omega)
        obtain ⟨k', o'⟩ := hl'
        refine ⟨m', lt, i + 1, ys ++ [y], its ++ [yv], k', H6, ?_, T.keep _ _ _ K2 fun b hb o e => hsb.extBut b o (fun z => ?_) e, K3, K4, ?_, r1.append (.cons r6 .nil), w6⟩
        · refine K1.turned (t' := s6.toks) (it := s.heap.objs.size) (fun b o hb e => hsb.extBut b o hb e) K4 accC (.inr (Nat.le_refl _)) (fun y c e z => ?_) fun p hp => by cases hp
          obtain ⟨vv, ov, eov, dov⟩ := K1.cell y c e
          rw [z, K5] at eov
          cases eov
          cases dov
        · have := ltN (fpo b hb); have := neN z; omega
        · rw [o', List.push_toArray]
  exact codeAny_compStart_list loop (T.self X.A 0 _ _ _ t1 loop)

theorem pe_comp {px pos : Pos} {elt iter : Expr} {ifs : List Expr} {wi : TI} {tc : TT} {te : TE} (hcalm : X.calm = true) (S : CompScope X x M scope) (hi : PI X (.Name x px) iter wi)
    (hc : ∀ C cs s H fp, PTs (cxComp X x M scope C cs s H fp) ifs tc) (he : ∀ C cs s H fp, PE (cxComp X x M scope C cs s H fp) elt te) (hs : ∀ v, foldedSetIterable iter X.env v = pure v := by intro _; rfl) :
    PE X (.ListComp elt [⟨.Name x px, iter, ifs, 0⟩] scope pos) (tComp wi tc te) := by
  intro pins s σ H Q I h
  rw [eval_ListComp]
  refine wpAny_comprehension_free (cl := clOf X.env scope.names []) rfl hs (closure_cl (S.cl I.ok)) S.kind (fun y hy e => by rw [S.once y hy, e]) ?_
  refine thn (hi pins s σ H _ I h) fun v s1 h1 => thn h1 fun itv s2 h2 => ?_
  obtain ⟨it, fp, tn, J, H2, e, I2, T, t2, f2, hw⟩ := h2
  subst e
  refine comp_run (RR := fun acc C => compPost (model X.prog X.w) X.A X.xe none (EP X pins σ Q) acc C) hcalm S hc he I2 T t2 f2 hw fun acc C s' H' m I' hns fC q => ?_
  refine ⟨m, hns, fun h' hsb => ⟨.ref acc, H', ?_, rfl, q⟩⟩
  exact I'.turned (t' := s'.toks) (it := C) (fun b o hb e => hsb.extBut b o hb e) fC.1 fC.2.1 fC.2.2.2.1 fC.2.2.2.2.1 fC.2.2.2.2.2

/-- name = [..] where the two stores are exchanged -/
theorem ps_setComp {i : Nat} {y : Str} {py : Pos} {px pos cpos : Pos} {elt iter : Expr} {ifs : List Expr} {wi : TI} {tc : TT} {te : TE} (hN : X.N.Nodup) (hy : X.N[i]? = some y) (hl : Loc X.env.scope y)
    (hcalm : X.calm = true) (S : CompScope X x M scope) (hi : PI X (.Name x px) iter wi)
    (hc : ∀ C cs s H fp, PTs (cxComp X x M scope C cs s H fp) ifs tc) (he : ∀ C cs s H fp, PE (cxComp X x M scope C cs s H fp) elt te)
    (hsw : swapsWith (.ListComp elt [⟨.Name x px, iter, ifs, 0⟩] scope cpos) (some (.Name y py)) pos.line X.env = pure true := by rfl) (hs : ∀ v, foldedSetIterable iter X.env v = pure v := by intro _; rfl)
    (hf : X.fn y = true ∨ X.env.scope.names.lookup y = some .local := by first | exact .inl rfl | exact .inr rfl | assumption) :
    PS X (.Assign [.Name y py] (.ListComp elt [⟨.Name x px, iter, ifs, 0⟩] scope cpos) pos) (tAsg (tComp wi tc te) (gName i)) := by
  intro pins s σ H D I h
  rw [exec_Assign_Name_used _ _ _ _ hsw]
  refine wpAny_bind (wpAny_standAt (wpAny_bind ?_))
  show wpAny _ _ (comprehension _ scope X.env _ (newList []) false (eval iter X.env) (some (assign (.Name y py) X.env)) >>= fun _ => pure ()) _ _ s
  refine wpAny_bind (wpAny_comprehension_free (cl := clOf X.env scope.names []) rfl hs (closure_cl (S.cl I.ok)) S.kind (fun y hy e => by rw [S.once y hy, e]) ?_)
  refine thn (hi pins s σ H _ I h) fun v s1 h1 => thn h1 fun itv s2 h2 => ?_
  obtain ⟨it, fp, tn, J, H2, e, I2, T, t2, f2, hw⟩ := h2
  subst e
  refine comp_run (Q := fun v H' => gName i v σ H' D.nx) (RR := fun acc C => compPost (model X.prog X.w) X.A X.xe (some (assign (.Name y py) X.env)) _ acc C) hcalm S hc he I2 T t2 f2 hw fun acc C s' H' m I' hns fC q => ?_
  show wpAny _ _ (assign (.Name y py) X.env (.ref acc)) _ _ s'
  refine wpAny_assign_Name (store_ok2 I' hN hy hl (v := .ref acc) rfl (fun s'' I'' ⟨a, hsb, ha⟩ => ?_) hf)
  have hCa : C ≠ a := by
    rcases ha with z | z
    · rw [z]; exact fC.2.1
    · exact fun e => fC.2.2.2.2.1 y a z e.symm
  refine ⟨m, hns.sameBut hsb hCa, fun h' hsb' => wpAny_pure (wpAny_pure ⟨_, H', ?_, q⟩)⟩
  exact I''.turned (t' := s''.toks) (it := C) (fun b o hb e => hsb'.extBut b o hb e) fC.1 fC.2.1 fC.2.2.2.1 fC.2.2.2.2.1 fC.2.2.2.2.2
end
end L2

set_option Elab.async false
set_option linter.all false
set_option maxRecDepth 100000
namespace L2
open PySem PySem.Spec PyProof.Rows

/-! ### a new tracked object, however the state came -/
theorem ObjOk.there {P : Program} {w : World} {H : Hp} {h : Heap} {a : Addr} {o : HO} (x : ObjOk P w H h a o) : ∃ ob, h.get? a = some ob := by
  cases o with
  | lst xs => obtain ⟨_, _, _, _, e⟩ := x; exact ⟨_, e⟩
  | tup xs => obtain ⟨_, _, _, ob, e, _⟩ := x; exact ⟨_, e⟩
  | dK kvs => obtain ⟨_, _, _, _, o, _, _, e, _⟩ := x; exact ⟨_, e⟩
  | dT kvs => obtain ⟨_, _, _, _, o, _, _, e, _⟩ := x; exact ⟨_, e⟩
  | set S n => obtain ⟨o, _, _, _, e, _⟩ := x; exact ⟨_, e⟩
  | ins C dx fs => obtain ⟨_, _, _, e, _⟩ := x; exact ⟨_, e⟩
  | own y => obtain ⟨_, e⟩ := x; exact ⟨_, e⟩
  | xd fs => obtain ⟨_, ⟨_, _, _, e, _⟩, _⟩ := x; exact ⟨_, e⟩
  | rng lo hi => obtain ⟨_, _, _, e⟩ := x; exact ⟨_, e⟩
  | frz ob u => obtain ⟨e, _⟩ := x; exact ⟨_, e⟩
  | tbl ps => exact ⟨_, show h.get? a = some _ from x⟩
  | met f y => exact ⟨_, show h.get? a = some _ from x⟩
  | ext φ => obtain ⟨_, ⟨o, e⟩, _⟩ := x; exact ⟨o, e⟩
section
variable {X : Cx} {pins : List (Addr × Obj)} {σ : St} {H : Hp} {s s' : Shared}
theorem Inv.none_of (I : Inv X pins σ H s) {l : Addr} (hl : s.heap.get? l = none) : H l = none := by
  cases e : H l with
  | none => rfl
  | some o =>
    obtain ⟨ob, q⟩ := (I.hok l o e).there
    rw [hl] at q
    cases q
theorem Inv.newAt {l : Addr} {o : HO} (I : Inv X pins σ H s) (k : ∀ b u, s.heap.get? b = some u → s'.heap.get? b = some u) (hg : s'.gens = s.gens) (ho : s'.os = s.os) (hl : s.heap.get? l = none) (new : ObjOk X.prog X.w (upd H l o) s'.heap l o) :
    Inv X pins σ (upd H l o) s' := by
  have hn := I.none_of hl
  have ne : ∀ b u, s.heap.get? b = some u → b ≠ l := fun b u e z => by rw [z, hl] at e; cases e
  have neH : ∀ b u, H b = some u → b ≠ l := fun b u e => ne_of_none e hn
  refine I.call' (ch := []) ho ⟨fun b u e _ _ _ => k b u e, fun b u e _ _ _ => ⟨u.slots, k b u e⟩, fun b u e n _ => by rw [upd_ne (ne b u e)]; exact n, fun b u e _ => ⟨u, k b u e⟩, fun b xs e => by rw [upd_ne (neH _ _ e)]; exact e,
    fun b u xs e => by rw [upd_ne (neH _ _ e)]; exact e, fun b ps e => ⟨#[], by rw [upd_ne (neH _ _ e), e]; simp⟩⟩ (fun b u e => ?_) (by rw [hg]; exact I.bare) fun b hb => by cases hb
  by_cases hb : b = l
  · subst hb
    rw [upd_same] at e
    cases e
    exact new
  · rw [upd_ne hb] at e
    exact (I.hok b u e).stay (fun c v _ q => k c v q) (fun c q => by rw [upd_ne (neH _ _ q)]; exact q) fun c xs q => by rw [upd_ne (neH _ _ q)]; exact q
end

/-! ### set(xs), sorted(set) -/
/-- a set of ints -/
def setHO (w : World) (a : Addr) (ks : List Int) : HO := .ext fun h => SetI w h a ks
theorem setHO_ok {P : Program} {w : World} {H : Hp} {h : Heap} {a : Addr} {ks : List Int} (x : SetI w h a ks) : ObjOk P w H h a (setHO w a ks) :=
  ⟨x, (let ⟨o, e, _⟩ := x; ⟨o, e⟩), fun h1 h2 ⟨o, e, z⟩ k => ⟨o, k o e, z⟩⟩
section
variable {X : Cx}
theorem call_set (hc : X.calm = true) : CallR X (.type "set") (fun xs H Q => ∃ p ns, xs = [.ref p] ∧ SqL X.K H p (ns.map V.int) ∧ ns.length < 1000 ∧ ∀ a, H a = none → Q (.ref a) (upd H a (setHO X.w a (addAll [] ns)))) := by
  intro pins s σ H xs us Q I rv h
  obtain ⟨p, ns, rfl, hp, hl, q⟩ := h
  obtain ⟨u, rfl, r⟩ := vals1 rv
  cases r
  obtain ⟨its, ri, pl, hz⟩ := I.list hp
  have hlen : its.length = ns.length := by rw [← ri.length, List.length_map]
  have hi := intsAre_of ri
  refine callSet_I (I.ok.hd hc) pl.isList (by simpa using hi) (by rw [List.size_toArray, hlen]; unfold scanBound; omega) fun h' tk hS k => ?_
  have hn : s.heap.get? s.heap.objs.size = none := Heap.get?_none_of_le (Nat.le_refl _)
  exact ⟨.ref s.heap.objs.size, _, I.newAt k rfl rfl hn (setHO_ok hS), rfl, q _ (I.none_of hn)⟩
theorem call_sorted_set (hc : X.calm = true) : CallR X (.builtin "sorted") (fun xs H Q => ∃ a ks, xs = [.ref a] ∧ H a = some (setHO X.w a ks) ∧ ks.length < 64 ∧ ∀ (l : Addr) (ns : List Int), H l = none → ns.Perm ks → ns.Pairwise (· ≤ ·) → Q (.ref l) (upd H l (.lst (ns.map V.int)))) := by
  intro pins s σ H xs us Q I rv h
  obtain ⟨a, ks, rfl, ha, hl, q⟩ := h
  obtain ⟨u, rfl, r⟩ := vals1 rv
  cases r
  obtain ⟨hS, _, _⟩ := I.hok a _ ha
  refine sorted_set (I.ok.hd hc) hS hl fun s' l its ns e k hg ho hn he hi hp hs => ?_
  have hlen := hp.length_eq
  refine ⟨.ref l, _, I.newAt (o := .lst (ns.map V.int)) k hg ho hn ⟨?_, its, e, vals_ints hi, he⟩, rfl, q l ns (I.none_of hn) hp hs⟩
  rw [List.length_map, hlen, sizeLine_eq]
  omega

/-! ### max of a list of ints -/
theorem call_max_list (hc : X.calm = true) : CallR X (.builtin "max") (fun xs H Q => ∃ p ns, xs = [.ref p] ∧ SqL X.K H p (ns.map V.int) ∧ ns ≠ [] ∧ ∀ m, m ∈ ns → (∀ a ∈ ns, a ≤ m) → Q (.int m) H) := by
  intro pins s σ H xs us Q I rv h
  obtain ⟨p, ns, rfl, hp, hne, q⟩ := h
  obtain ⟨u, rfl, r⟩ := vals1 rv
  cases r
  obtain ⟨its, ri, pl, hz⟩ := I.list hp
  have hi := intsAre_of ri
  have hpos : 0 < ns.length := by cases ns with | nil => exact absurd rfl hne | cons => simp
  obtain ⟨xs, e⟩ := hi.allInts.items
  have hns : ns = xs.toList.map (·.1) := by rw [← hi.numsOf, ← nums_intItems, ← e]
  have hsz : 0 < xs.size := by
    rw [hns, List.length_map, Array.length_toList] at hpos
    exact hpos
  have pl' := pl.isList
  rw [e] at pl'
  refine max_intList (I.ok.hd hc) pl' hsz fun v h' tk hv k => ?_
  obtain ⟨t, rfl⟩ := intItems_at hv
  obtain ⟨h1, h2⟩ := argBest_gt (numAt xs) (xs.size - 1)
  refine ⟨.int _, H, I.kept k, ⟨t, rfl⟩, q _ ?_ fun a ha => ?_⟩
  · rw [hns, numAt_eq]
    exact getD_mem (by rw [List.length_map, Array.length_toList]; omega)
  · rw [hns] at ha
    obtain ⟨j, hj, rfl⟩ := mem_getD ha
    rw [List.length_map, Array.length_toList] at hj
    rw [← numAt_eq]
    exact h2 j (by omega)

/-! ### == and != of lists and of tuples, their items flat -/
def eqVs : List V → List V → Bool
  | [], [] => true
  | x :: xs, y :: ys => eqV x y && eqVs xs ys
  | _, _ => false
theorem all_shift (e : Nat → Bool) (n : Nat) : (List.range (n + 1)).all e = (e 0 && (List.range n).all fun j => e (j + 1)) := by
  rw [List.range_succ_eq_map, List.all_cons, List.all_map]
  rfl
theorem eqVs_range : ∀ {xs ys : List V}, xs.length = ys.length → (List.range xs.length).all (fun j => eqV (xs.getD j .non) (ys.getD j .non)) = eqVs xs ys
  | [], [], _ => rfl
  | [], _ :: _, h => by cases h
  | _ :: _, [], h => by cases h
  | x :: xs, y :: ys, h => by
    rw [List.length_cons, all_shift]
    have ih := eqVs_range (xs := xs) (ys := ys) (by simpa using h)
    show (eqV x y && (List.range xs.length).all fun j => eqV (xs.getD j .non) (ys.getD j .non)) = (eqV x y && eqVs xs ys)
    rw [ih]
theorem eqVs_len : ∀ {xs ys : List V}, xs.length ≠ ys.length → eqVs xs ys = false
  | [], [], h => absurd rfl h
  | [], _ :: _, _ => rfl
  | _ :: _, [], _ => rfl
  | x :: xs, y :: ys, h => by
    show (eqV x y && eqVs xs ys) = false
    rw [eqVs_len (fun z => h (by rw [List.length_cons, List.length_cons, z])), Bool.and_false]
/-- ints and None: == is being the same -/
def plainV : V → Bool
  | .int _ => true
  | .non => true
  | _ => false
theorem eqV_plain : ∀ {x y : V}, plainV x = true → plainV y = true → eqV x y = decide (x = y)
  | .int a, .int b, _, _ => by
    show (a == b) = _
    rw [← dec_int]
  | .int _, .non, _, _ => rfl
  | .non, .int _, _, _ => rfl
  | .non, .non, _, _ => rfl
theorem eqVs_plain : ∀ {xs ys : List V}, xs.all plainV = true → ys.all plainV = true → eqVs xs ys = decide (xs = ys)
  | [], [], _, _ => rfl
  | [], _ :: _, _, _ => rfl
  | _ :: _, [], _, _ => rfl
  | x :: xs, y :: ys, h, h' => by
    rw [List.all_cons, Bool.and_eq_true] at h h'
    show (eqV x y && eqVs xs ys) = _
    rw [eqV_plain h.1 h'.1, eqVs_plain h.2 h'.2]
    by_cases e : x = y <;> by_cases e' : xs = ys <;> simp [e, e']
theorem plain_ints (ns : List Int) : (ns.map V.int).all plainV = true := by
  induction ns with
  | nil => rfl
  | cons n r ih => rw [List.map_cons, List.all_cons, ih]; rfl
theorem flat_plain {xs : List V} (h : xs.all plainV = true) : xs.all flatV = true := by
  rw [List.all_eq_true] at h ⊢
  intro x hx
  have := h x hx
  cases x <;> first | rfl | cases this
theorem map_int_inj {ns ms : List Int} : ns.map V.int = ms.map V.int ↔ ns = ms := by
  constructor
  · intro h
    have h2 := congrArg (List.map fun v => match v with | V.int i => i | _ => 0) h
    rw [List.map_map, List.map_map] at h2
    have e : ((fun v => match v with | V.int i => i | _ => 0) ∘ V.int) = id := rfl
    rw [e, List.map_id, List.map_id] at h2
    exact h2
  · exact fun h => by rw [h]
theorem eqVs_ints (ns ms : List Int) : eqVs (ns.map V.int) (ms.map V.int) = decide (ns = ms) := by
  rw [eqVs_plain (plain_ints _) (plain_ints _)]
  by_cases e : ns = ms
  · subst e; simp
  · rw [decide_eq_false e, decide_eq_false fun z => e (map_int_inj.mp z)]
theorem items_eqAt {A : Around} {s : Shared} {xs ys : List V} {us ws : List Value} (r : Vals xs us) (r' : Vals ys ws) (hx : xs.all flatV = true) (hy : ys.all flatV = true) (j : Nat) (h1 : j < us.toArray.size) (h2 : j < ws.toArray.size) :
    SeqAt.EqAt A s us.toArray[j] ws.toArray[j] (eqV (xs.getD j .non) (ys.getD j .non)) := by
  have l1 := r.length
  have l2 := r'.length
  have k1 : j < xs.length := by rw [List.size_toArray] at h1; omega
  have k2 : j < ys.length := by rw [List.size_toArray] at h2; omega
  obtain ⟨u, e1, q1⟩ := r.get (List.getElem?_eq_getElem k1)
  obtain ⟨v, e2, q2⟩ := r'.get (List.getElem?_eq_getElem k2)
  have g1 : xs.getD j .non = xs[j] := by simp [List.getD_eq_getElem?_getD, k1]
  have g2 : ys.getD j .non = ys[j] := by simp [List.getD_eq_getElem?_getD, k2]
  rw [g1, g2]
  have a1 : us.toArray[j] = u := by
    have := List.getElem?_eq_some_iff.mp e1
    obtain ⟨_, z⟩ := this
    simpa using z
  have a2 : ws.toArray[j] = v := by
    have := List.getElem?_eq_some_iff.mp e2
    obtain ⟨_, z⟩ := this
    simpa using z
  rw [a1, a2]
  exact eqAt_V q1 q2 (List.all_eq_true.mp hx _ (List.getElem_mem k1)) (List.all_eq_true.mp hy _ (List.getElem_mem k2))
/-- a list and a list -/
def rEqL (K : PySem.W.Frag) (neg : Bool) : R2 := fun x y H Q => ∃ a b xs ys, x = .ref a ∧ y = .ref b ∧ SqL K H a xs ∧ SqL K H b ys ∧ xs.all flatV = true ∧ ys.all flatV = true ∧ Q (.bl (if neg then !eqVs xs ys else eqVs xs ys)) H
def rEqT (K : PySem.W.Frag) (neg : Bool) : R2 := fun x y H Q => ∃ a b xs ys, x = .ref a ∧ y = .ref b ∧ SqT K H a xs ∧ SqT K H b ys ∧ xs.all flatV = true ∧ ys.all flatV = true ∧ Q (.bl (if neg then !eqVs xs ys else eqVs xs ys)) H
theorem op_eqL (hu : X.A.units < cLine) : OpR X (compareOp .Eq) (rEqL X.K false) := by
  intro pins s σ H x y v u Q I rx ry h
  obtain ⟨a, b, xs, ys, rfl, rfl, ha, hb, fx, fy, q⟩ := h
  cases rx
  cases ry
  obtain ⟨us, r1, p1, _⟩ := I.list ha
  obtain ⟨ws, r2, p2, _⟩ := I.list hb
  have l1 := r1.length
  have l2 := r2.length
  by_cases hl : xs.length = ys.length
  · refine SeqAt.eq_listAt p1.isList p2.isList (by rw [List.size_toArray, List.size_toArray]; omega) hu (items_eqAt r1 r2 fx fy) ⟨.bl _, H, I, ?_, q⟩
    rw [List.size_toArray, ← l1, eqVs_range hl]
    rfl
  · refine SeqAt.eq_list_lengthsAt p1.isList p2.isList (by simp only [List.size_toArray, bne_iff_ne]; omega) hu ⟨.bl _, H, I, ?_, q⟩
    rw [eqVs_len hl]
    rfl
theorem op_neL (hu : X.A.units < cLine) : OpR X (compareOp .NotEq) (rEqL X.K true) := by
  intro pins s σ H x y v u Q I rx ry h
  obtain ⟨a, b, xs, ys, rfl, rfl, ha, hb, fx, fy, q⟩ := h
  cases rx
  cases ry
  obtain ⟨us, r1, p1, _⟩ := I.list ha
  obtain ⟨ws, r2, p2, _⟩ := I.list hb
  have l1 := r1.length
  have l2 := r2.length
  by_cases hl : xs.length = ys.length
  · refine SeqAt.RcNeAt.lists p1.isList p2.isList (by rw [List.size_toArray, List.size_toArray]; omega) hu (items_eqAt r1 r2 fx fy) _ _ _ _ ⟨.bl _, H, I, ?_, q⟩
    rw [List.size_toArray, ← l1, eqVs_range hl]
    rfl
  · refine SeqAt.RcNeAt.lists_lengths p1.isList p2.isList (by simp only [List.size_toArray, bne_iff_ne]; omega) hu _ _ _ _ ⟨.bl _, H, I, ?_, q⟩
    rw [eqVs_len hl]
    rfl
theorem tup_all {xs ys : List V} : ((List.range (min xs.length ys.length)).all (fun j => eqV (xs.getD j .non) (ys.getD j .non)) && xs.length == ys.length) = eqVs xs ys := by
  by_cases hl : xs.length = ys.length
  · have e : min xs.length ys.length = xs.length := by omega
    rw [e, eqVs_range hl, hl]
    simp
  · have e : (xs.length == ys.length) = false := by simpa using hl
    rw [e, Bool.and_false, eqVs_len hl]
theorem op_eqT (hu : X.A.units < cLine) : OpR X (compareOp .Eq) (rEqT X.K false) := by
  intro pins s σ H x y v u Q I rx ry h
  obtain ⟨a, b, xs, ys, rfl, rfl, ha, hb, fx, fy, q⟩ := h
  cases rx
  cases ry
  obtain ⟨us, r1, p1, _⟩ := I.tuple ha
  obtain ⟨ws, r2, p2, _⟩ := I.tuple hb
  have l1 := r1.length
  have l2 := r2.length
  refine SeqAt.eq_tupleAt (show s.heap.IsTuple a us.toArray from p1) (show s.heap.IsTuple b ws.toArray from p2) hu (items_eqAt r1 r2 fx fy) ⟨.bl _, H, I, ?_, q⟩
  rw [List.size_toArray, List.size_toArray, ← l1, ← l2, tup_all]
  rfl
/-! ### isinstance(x, T), T a built-in type -/
theorem call_isinst : CallR X (.builtin "isinstance") (fun xs H Q => ∃ x T t b, xs = [x, .ty T] ∧ TyOf X.K H x t ∧ PySem.W.kitOne X.K t (.type T) = some b ∧ Q (.bl b) H) := by
  intro pins s σ H xs us Q I rv h
  obtain ⟨x, T, t, b, rfl, ty, e, q⟩ := h
  obtain ⟨u, v, rfl, r1, r2⟩ := vals2 rv
  cases r2
  exact isinst_ok I r1 ty e fun tk => ⟨.bl b, H, I.tok _, rfl, q⟩

/-! ### range(a, b, c), c positive -/
end

/-! ### the forms one uses: a loop by steps; comprehensions -/
/-- any iterator whose items are known: the items that pass the test, mapped -/
abbrev CompT (xs : List V) (Pv : Nat → Hp → Prop) (p : V → Bool) (f : V → V) (tc : TT) (te : TE) (σ : St) : Prop :=
  ∀ i x H (R : V → Hp → Prop) (R' : Hp → Prop), xs[i]? = some x → Pv i H → (∀ H3, p x = true → Pv (i + 1) H3 → R (f x) H3) → (∀ H2, p x = false → Pv (i + 1) H2 → R' H2) →
    tc (some x :: σ) H fun c H2 => if c = true then te (some x :: σ) H2 R else R' H2
theorem comp_any {J : It} {xs : List V} {tc : TT} {te : TE} {σ : St} {H : Hp} {Q : VK} (Pv : Nat → Hp → Prop) (p : V → Bool) (f : V → V) (hz : xs.length < sizeLine) (h0 : Pv 0 H)
    (hst : ∀ H, Pv xs.length H → J.stop xs.length H) (hgo : ∀ i H, i < xs.length → Pv i H → J.go i H) (hy : ∀ i H x H', i < xs.length → Pv i H → J.yld i H x H' → H' = H ∧ xs[i]? = some x)
    (hs : CompT xs Pv p f tc te σ) (hd : ∀ H l, Pv xs.length H → H l = none → Q (.ref l) (upd H l (.lst ((xs.filter p).map f)))) : CompW J tc te σ H Q := by
  refine ⟨fun i m ys H => m = xs.length - i ∧ i ≤ xs.length ∧ Pv i H ∧ ys = ((xs.take i).filter p).map f, ⟨xs.length, by simp, Nat.zero_le _, h0, rfl⟩, ?_⟩
  rintro i m ys H1 ⟨rfl, hi, pv, rfl⟩
  have hlen : (((xs.take i).filter p).map f).length < sizeLine := by
    rw [List.length_map]
    have h1 := List.length_filter_le p (xs.take i)
    rw [List.length_take] at h1
    omega
  refine ⟨hlen, ?_⟩
  by_cases hlt : i < xs.length
  · refine .inr ⟨hgo i H1 hlt pv, fun v H' y => ?_⟩
    obtain ⟨e, hx⟩ := hy i H1 v H' hlt pv y
    subst e
    have tk : xs.take (i + 1) = xs.take i ++ [v] := by rw [List.take_add_one, hx]; rfl
    refine hs i v _ _ _ hx pv (fun H3 hp q => ?_) fun H2 hp q => ?_
    · exact ⟨xs.length - (i + 1), by omega, rfl, hlt, q, by rw [tk, List.filter_append, List.map_append]; simp [hp]⟩
    · exact ⟨xs.length - (i + 1), by omega, rfl, hlt, q, by rw [tk, List.filter_append]; simp [hp]⟩
  · have e : i = xs.length := by omega
    subst e
    refine .inl ⟨hst H1 pv, fun l hl => ?_⟩
    rw [List.take_length]
    exact hd H1 l pv hl
section
variable {K : PySem.W.Frag} {a : Addr} {xs : List V} {tc : TT} {te : TE} {σ : St} {H : Hp} {Q : VK}
theorem comp_list (Pv : Nat → Hp → Prop) (p : V → Bool) (f : V → V) (hz : xs.length < sizeLine) (h0 : Pv 0 H) (hl : ∀ i H, Pv i H → SqL K H a xs) (hs : CompT xs Pv p f tc te σ)
    (hd : ∀ H l, Pv xs.length H → H l = none → Q (.ref l) (upd H l (.lst ((xs.filter p).map f)))) : CompW (Itl K a) tc te σ H Q :=
  comp_any Pv p f hz h0 (fun H pv => ⟨xs, hl _ H pv, Nat.le_refl _⟩) (fun i H hi pv => ⟨xs, xs[i], hl _ H pv, by simp [hi]⟩) (fun i H x H' hi pv y => ⟨y.1, y.2 xs (hl _ H pv)⟩) hs hd
theorem comp_tup (Pv : Nat → Hp → Prop) (p : V → Bool) (f : V → V) (hz : xs.length < sizeLine) (h0 : Pv 0 H) (hl : ∀ i H, Pv i H → SqT K H a xs) (hs : CompT xs Pv p f tc te σ)
    (hd : ∀ H l, Pv xs.length H → H l = none → Q (.ref l) (upd H l (.lst ((xs.filter p).map f)))) : CompW (Itt K a) tc te σ H Q :=
  comp_any Pv p f hz h0 (fun H pv => ⟨xs, hl _ H pv, Nat.le_refl _⟩) (fun i H hi pv => ⟨xs, xs[i], hl _ H pv, by simp [hi]⟩) (fun i H x H' hi pv y => ⟨y.1, y.2 xs (hl _ H pv)⟩) hs hd
end
/-- lo, lo + 1, .. -/
def rngV (lo : Int) (n : Nat) : List V := (List.range n).map fun (i : Nat) => V.int (lo + i)
theorem rngV_len (lo : Int) (n : Nat) : (rngV lo n).length = n := by unfold rngV; simp
section
variable {tc : TT} {te : TE} {σ : St} {H : Hp} {Q : VK}
theorem comp_range {lo : Int} {n : Nat} (Pv : Nat → Hp → Prop) (p : V → Bool) (f : V → V) (hz : n < sizeLine) (h0 : Pv 0 H) (hs : CompT (rngV lo n) Pv p f tc te σ)
    (hd : ∀ H l, Pv n H → H l = none → Q (.ref l) (upd H l (.lst (((rngV lo n).filter p).map f)))) : CompW (Itr lo n) tc te σ H Q := by
  have hn := rngV_len lo n
  refine comp_any (xs := rngV lo n) Pv p f (by rw [hn]; exact hz) h0 (fun H pv => ?_) (fun i H hi pv => ?_) (fun i H x H' hi pv y => ⟨y.1, ?_⟩) hs (by rw [hn]; exact hd)
  · show n ≤ _
    rw [hn]; exact Nat.le_refl _
  · show i < n
    omega
  · rw [y.2]
    unfold rngV
    rw [hn] at hi
    simp [hi]
end
end L2

set_option Elab.async false
set_option linter.all false
set_option maxRecDepth 100000
namespace L2
open PySem PySem.Spec PyProof.Rows

/-! ### a def of the text, ready to be called -/
theorem gl_of {X : Cx} {x : Str} (h : X.env.kindOf x = some .globalImplicit) : Gl X x := h
structure Fn (P : Program) (w : World) (K : PySem.W.Frag) (mg : Str → Option Value) (base : Heap) (x : Str) (ps : List Str) (k : Nat) (sp : Sp) : Prop where
  ex : ∃ f fd, FnOk P w K mg base CX0 k f fd ps sp ∧ mg x = some (.ref f) ∧ PySem.W.keepIn K (.ref f) = true ∧ Binds K fd ps []
section
variable {X : Cx} {x : Str} {ps : List Str} {k : Nat} {sp : Sp} {p pos : Pos} {e : Expr} {es : List Expr} {t : TA}
theorem pe_fn (F : Fn X.prog X.w X.K X.mg X.base x ps k sp) (hr : Room k X.A) (ha : PA X (e :: es) t) (hg : Gl X x := by exact gl_of (by kernel_rfl)) (hdb : (x == ("__debug__" : Str)) = false := by decide)
    (he : starEach (e :: es) X.env = (false, eval e X.env) :: starEach es X.env := by rfl) (hpl : (backTo pos (starEach es X.env)).any (·.1) = false := by rfl) : PE X (.Call (.Name x p) (e :: es) [] pos) (tCall sp [] E0 t) := by
  obtain ⟨f, fd, h1, h2, h3, h4⟩ := F.ex
  exact pe_call h1 hr hg h2 h3 h4 .nil pass0 ha hdb he hpl
end
section
variable {X : Cx} {a b c : Expr} {ta : TE} {pos : Pos}
theorem un_notT : UnR X (unaryOp .Not) (fun x H Q => ∃ k, TruV X.K x H k ∧ Q (.bl (!k)) H) := by
  intro pins s σ H x v Q I rx h
  obtain ⟨k, e, q⟩ := h
  exact not_of (thn (tru_ok pins s σ H x v (fun c H' => Q (.bl (!c)) H') I rx ⟨k, e, q⟩) fun c s' ⟨H', I', q'⟩ => ⟨.bl (!c), H', I', rfl, q'⟩)
/-- a name of the module: a number -/
theorem pe_num {x : Str} {i : Int} {t : Tok} (hm : X.mg x = some (.int i t)) (hg : Gl X x := by exact gl_of (by kernel_rfl)) (hd : (x == ("__debug__" : Str)) = false := by decide) : PE X (.Name x pos) (tC (.int i)) := pe_glob hg hm ⟨t, rfl⟩ hd
/-- a built-in type as a value -/
theorem pe_ty {x : Str} {T : String} (hm : X.mg x = none) (hv : bootBuiltins x = some (.type T)) (hg : Gl X x := by exact gl_of (by kernel_rfl)) (hn : x ≠ "__name__" := by decide) (hd : (x == ("__debug__" : Str)) = false := by decide) : PE X (.Name x pos) (tC (.ty T)) := pe_bltn hg hm hv rfl hn hd
end

/-! ### a comprehension's names, by one look -/
def compChk (outer : List (Str × NameKind)) (N : List Str) (x : Str) (M : List Str) (sc : Scope) : Bool :=
  (sc.kind == .function) && sc.names.all (fun y => sc.names.lookup y.1 == some y.2 && y.1 != ".") && sc.names.all (fun y => y.2 != .free || (outer.lookup y.1 == some .cell || outer.lookup y.1 == some .free)) &&
    (sc.names.lookup x == some .local || sc.names.lookup x == some .cell) && (M == maskN x N) && decide ((x :: M).Nodup) && M.all (fun y => !(sc.names.lookup y == some .local || sc.names.lookup y == some .cell))
theorem CompScope.of {X : Cx} {x : Str} {M : List Str} {scope : Scope} (h : compChk X.env.scope.names X.N x M scope = true) : CompScope X x M scope := by
  unfold compChk at h
  simp only [Bool.and_eq_true, List.all_eq_true, Bool.or_eq_true, beq_iff_eq, bne_iff_ne, decide_eq_true_eq, Bool.not_eq_true', Bool.or_eq_false_iff, beq_eq_false_iff_ne] at h
  obtain ⟨⟨⟨⟨⟨⟨h1, h2⟩, h3⟩, h4⟩, h5⟩, h6⟩, h7⟩ := h
  exact ⟨h1, fun y hy => (h2 y hy).1, fun y hy => (h2 y hy).2, fun y hy e => (h3 y hy).elim (fun z => absurd e z) id, h4, h5, h6, fun y hy z => z.elim (h7 y hy).1 (h7 y hy).2⟩

/-! ### heaps that only grow -/
/-- what is new here was not there -/
theorem Same.put {H H1 : Hp} {p : Addr} {o : HO} (s : Same H H1) (h : H1 p = none) : Same H (upd H1 p o) := fun b u e => by
  have q := s b u e
  rw [upd_ne (ne_of_none q h)]
  exact q
theorem Same.tup {K : PySem.W.Frag} {H H' : Hp} {a : Addr} {xs : List V} (e : Same H H') (h : SqT K H a xs) : SqT K H' a xs := by
  rcases h with (h | ⟨o, h⟩) | h
  · exact .inl (.inl (e _ _ h))
  · exact .inl (.inr ⟨o, e _ _ h⟩)
  · exact .inr h

/-! ### a list or a tuple -/
def SqA (K : PySem.W.Frag) (H : Hp) (a : Addr) (xs : List V) : Prop := SqL K H a xs ∨ SqT K H a xs
theorem SqA.lst {K : PySem.W.Frag} {H : Hp} {a : Addr} {xs : List V} (h : H a = some (.lst xs)) : SqA K H a xs := .inl (.of h)
theorem SqA.tpl {K : PySem.W.Frag} {H : Hp} {a : Addr} {xs : List V} (h : H a = some (.tup xs)) : SqA K H a xs := .inr (.of h)
section
variable {X : Cx} {tg : Expr}
def iSeq (K : PySem.W.Frag) (tl : TE) : TI := fun σ H R => tl σ H fun x H1 => ∃ a, x = .ref a ∧ (((∃ xs, SqL K H1 a xs) ∧ R (Itl K a) H1) ∨ ((∃ xs, SqT K H1 a xs) ∧ R (Itt K a) H1))
theorem pi_seq {l : Expr} {tl : TE} (hl : PE X l tl) : PI X tg l (iSeq X.K tl) := by
  intro pins s σ H R I h
  refine thn (hl pins s σ H _ I h) fun v s1 ⟨x, H1, I1, r1, q1⟩ => ?_
  obtain ⟨a, e, q⟩ := q1
  subst e
  cases r1
  rcases q with ⟨⟨xs, hq⟩, q⟩ | ⟨⟨xs, hq⟩, q⟩
  · obtain ⟨its, rv, p, hz⟩ := I1.list hq
    refine wpAny_pyIter_list p.isList ?_
    refine ⟨s1.heap.objs.size, [s1.heap.objs.size], _, _, H1, rfl, I1.kept (t' := s1.toks) fun b o e => Heap.get?_push_of_some _ e, turn_list a _, ⟨_, Heap.get?_push_size _ rfl, rfl, rfl⟩, fun b hb => ?_, q⟩
    rw [show b = s1.heap.objs.size by simpa using hb]
    exact I1.fpOk (Nat.le_refl _) (I1.hok.fresh (Nat.le_refl _))
  · obtain ⟨its, rv, p, hz⟩ := I1.tuple hq
    refine wpAny_pyIter_tuple (show s1.heap.IsTuple a its.toArray from p) ?_
    refine ⟨s1.heap.objs.size, [s1.heap.objs.size], _, _, H1, rfl, I1.kept (t' := s1.toks) fun b o e => Heap.get?_push_of_some _ e, turn_tuple a _, ⟨_, Heap.get?_push_size _ rfl, rfl, rfl⟩, fun b hb => ?_, q⟩
    rw [show b = s1.heap.objs.size by simpa using hb]
    exact I1.fpOk (Nat.le_refl _) (I1.hok.fresh (Nat.le_refl _))
def rIxA (K : PySem.W.Frag) : R2 := fun x y H Q => ∃ p xs i v, x = .ref p ∧ y = .int i ∧ SqA K H p xs ∧ atI xs i = some v ∧ Q v H
theorem ix_any : IxR X (rIxA X.K) := by
  intro value slice pins s σ H x y v u Q I rx ry q hs
  obtain ⟨p, xs, i, z, e1, e2, h | h, e3, q⟩ := q
  · exact ix_list value slice pins s σ H x y v u Q I rx ry ⟨p, xs, i, z, e1, e2, h, e3, q⟩ hs
  · exact ix_tup value slice pins s σ H x y v u Q I rx ry ⟨p, xs, i, z, e1, e2, h, e3, q⟩ hs
end
theorem comp_seq {K : PySem.W.Frag} {a : Addr} {xs : List V} {tc : TT} {te : TE} {σ : St} {H : Hp} {Q : VK} (Pv : Nat → Hp → Prop) (p : V → Bool) (f : V → V) (hz : xs.length < sizeLine) (h0 : Pv 0 H) (hP : ∀ i H', Pv i H' → Same H H') (h : SqA K H a xs)
    (hs : CompT xs Pv p f tc te σ) (hd : ∀ H l, Pv xs.length H → H l = none → Q (.ref l) (upd H l (.lst ((xs.filter p).map f)))) :
    ((∃ xs, SqL K H a xs) ∧ CompW (Itl K a) tc te σ H Q) ∨ ((∃ xs, SqT K H a xs) ∧ CompW (Itt K a) tc te σ H Q) := by
  rcases h with h | h
  · exact .inl ⟨⟨xs, h⟩, comp_list Pv p f hz h0 (fun i H' pv => (hP i H' pv).seq h) hs hd⟩
  · exact .inr ⟨⟨xs, h⟩, comp_tup Pv p f hz h0 (fun i H' pv => (hP i H' pv).tup h) hs hd⟩

/-! ### the same rules, the written part as a letter (a comprehension's block has it by rfl) -/
section
variable {X : Cx} {K : PySem.W.Frag} {w : World}
theorem ix_anyK (h : X.K = K) : IxR X (rIxA K) := h ▸ ix_any
theorem lenK (h : X.K = K) : CallR X (.builtin "len") (fun xs H Q => ∃ p ys, xs = [.ref p] ∧ (SqL K H p ys ∨ SqT K H p ys) ∧ Q (.int ys.length) H) := h ▸ call_len_seq
theorem isinstK (h : X.K = K) : CallR X (.builtin "isinstance") (fun xs H Q => ∃ x T t b, xs = [x, .ty T] ∧ TyOf K H x t ∧ PySem.W.kitOne K t (.type T) = some b ∧ Q (.bl b) H) := h ▸ call_isinst
theorem neLK (h : X.K = K) (hu : X.A.units < cLine) : OpR X (compareOp .NotEq) (rEqL K true) := h ▸ op_neL hu
theorem eqTK (h : X.K = K) (hu : X.A.units < cLine) : OpR X (compareOp .Eq) (rEqT K false) := h ▸ op_eqT hu
theorem pi_seqK {tg l : Expr} {tl : TE} (h : X.K = K) (hl : PE X l tl) : PI X tg l (iSeq K tl) := h ▸ pi_seq hl
theorem tupleK (h : X.K = K) : CallR X (.type "tuple") (fun xs H Q => ∃ p ys, xs = [.ref p] ∧ ((SqL K H p ys ∧ ∀ l, H l = none → Q (.ref l) (upd H l (.tup ys))) ∨ (SqT K H p ys ∧ Q (.ref p) H))) := h ▸ call_tuple_of
theorem maxK (h : X.K = K) (hc : X.calm = true) : CallR X (.builtin "max") (fun xs H Q => ∃ p ns, xs = [.ref p] ∧ SqL K H p (ns.map V.int) ∧ ns ≠ [] ∧ ∀ m, m ∈ ns → (∀ a ∈ ns, a ≤ m) → Q (.int m) H) := h ▸ call_max_list hc
theorem setK (h : X.K = K) (h' : X.w = w) (hc : X.calm = true) : CallR X (.type "set") (fun xs H Q => ∃ p ns, xs = [.ref p] ∧ SqL K H p (ns.map V.int) ∧ ns.length < 1000 ∧ ∀ a, H a = none → Q (.ref a) (upd H a (setHO w a (addAll [] ns)))) := h ▸ h' ▸ call_set hc
theorem sortedK (h' : X.w = w) (hc : X.calm = true) : CallR X (.builtin "sorted") (fun xs H Q => ∃ a ks, xs = [.ref a] ∧ H a = some (setHO w a ks) ∧ ks.length < 64 ∧ ∀ (l : Addr) (ns : List Int), H l = none → ns.Perm ks → ns.Pairwise (· ≤ ·) → Q (.ref l) (upd H l (.lst (ns.map V.int)))) := h' ▸ call_sorted_set hc
theorem notK (h : X.K = K) : UnR X (unaryOp .Not) (fun x H Q => ∃ k, TruV K x H k ∧ Q (.bl (!k)) H) := h ▸ un_notT
theorem truthK {a : Expr} {ta : TE} (h : X.K = K) (ha : PE X a ta) (he : ∀ whole, isTrue a X.env whole = (do let v ← whole; standAt a.pos; holding [v] (truthy v))) : PT X a (fun σ H Q => ta σ H fun x H' => ∃ k, TruV K x H' k ∧ Q k H') := h ▸ pt_truth ha he
end

/-! ### a place where ways meet -/
end L2

set_option Elab.async false
set_option linter.all false
set_option maxRecDepth 100000
/-! exceptions over the hand layer: raise of an own class, passing on, try -/
namespace L2
open PySem PySem.Spec PyProof.Rows

section
variable {X : Cx} {pins : List (Addr × Obj)} {σ σ₀ : St} {H H₀ : Hp} {s s₀ : Shared} {h' : Heap}
/-- a step that keeps what is old or tracked, and of the frames all but their slots -/
theorem Inv.flown (hex : X.ex = []) (I0 : Inv X pins σ₀ H₀ s₀) (I : Inv X pins σ H s)
    (kp : ∀ b o, s.heap.get? b = some o → b ∉ frs X.stack → ((∃ o', s₀.heap.get? b = some o') ∨ ∃ o', H b = some o') → h'.get? b = some o) (up : s.heap.UpToSlots h') :
    Inv X pins σ H { s with heap := h' } := by
  have nex : ∀ b : Addr, b ∉ X.ex := fun b z => by rw [hex] at z; cases z
  have nst : ∀ b : Addr, b ≠ X.env.locals → b ∉ X.fs → b ∉ frs X.stack := fun b h1 h2 z => by
    rcases List.mem_cons.mp (I.stkSub b z) with e | e
    · exact h1 e
    · exact h2 e
  have old : ∀ b o, X.s₀.heap.get? b = some o → b ≠ X.env.locals := fun b o e z => by
    have := Nat.lt_of_lt_of_le (Heap.lt_size e) I.ok.above
    rw [z] at this
    exact Nat.lt_irrefl _ this
  have frame : ∀ b ∈ X.fs, ∃ o, s.heap.get? b = some o ∧ ∀ vs, o.data ≠ .fields vs := fun b hb => (I.funs.mem hb).2
  refine ⟨I.ok, I.os, I.bare, ⟨fun b o e n hb hx => ?_, fun b o e n hb hx => ?_, I.base.free, fun b o e hx => ?_, I.base.tups, I.base.frzs, I.base.tbls⟩, ?_, fun x c e => ?_, I.free, I.freeC, fun p hp => ?_, fun b o e => ?_, I.len⟩
  · exact kp b o (I.base.keep b o e n hb hx) (nst b (old b o e) hb) (.inl (I0.base.there b o e hx))
  · obtain ⟨sl, e1⟩ := I.base.slot b o e n hb hx
    obtain ⟨o2, e2, nf⟩ := frame b hb
    obtain ⟨sl', e3⟩ := up b o2 e2 nf
    rw [e1] at e2
    cases e2
    exact ⟨sl', e3⟩
  · obtain ⟨o', e1⟩ := I.base.there b o e hx
    by_cases hb : b ∈ X.fs
    · obtain ⟨o2, e2, nf⟩ := frame b hb
      obtain ⟨sl', e3⟩ := up b o2 e2 nf
      exact ⟨_, e3⟩
    · exact ⟨o', kp b o' e1 (nst b (old b o e) hb) (.inl (I0.base.there b o e hx))⟩
  · obtain ⟨m, hn, hl⟩ := I.loc
    refine ⟨m, up.ns hn, fun i x v e1 e2 e3 => ?_⟩
    obtain ⟨u, r, q⟩ := hl i x v e1 e2 e3
    refine ⟨u, r, ?_⟩
    rcases q with q | ⟨q1, c, q2, oc, q3, q4⟩
    · exact .inl q
    · refine .inr ⟨q1, c, q2, ?_⟩
      obtain ⟨sl, q5⟩ := up c oc q3 fun vs z => by rw [q4] at z; cases z
      exact ⟨_, q5, q4⟩
  · obtain ⟨v, oc, q3, q4⟩ := I.cell x c e
    obtain ⟨sl, q5⟩ := up c oc q3 fun vs z => by rw [q4] at z; cases z
    exact ⟨v, _, q5, q4⟩
  · obtain ⟨e, n, nl, nf, d⟩ := I.pin p hp
    refine ⟨kp _ _ e (nst _ nl nf) (.inl ⟨_, (I0.pin p hp).1⟩), n, nl, nf, d⟩
  · refine (I.hok b o e).stay (fun c u hc q => ?_) (fun _ q => q) fun _ _ q => q
    have tr : ∃ o', H c = some o' := by
      rcases hc with z | z
      · rw [z]; exact ⟨_, e⟩
      · exact ⟨_, z⟩
    refine kp c u q (fun z => ?_) (.inr tr)
    obtain ⟨o', e'⟩ := tr
    rw [I.stkFree c z] at e'
    cases e'
end

/-- an exception's object x of the class at C flies over the frames l: what s₀ held and what is tracked is apart from it -/
def Flies (l : List Env) (x C : Addr) (h₀ : Heap) (H : Hp) (h : Heap) : Prop :=
  ∃ B a0, Heap.FlyingW B l x (.ref C) a0 h ∧ (∀ b o, h₀.get? b = some o → b ∉ frs l → ∃ o', B.get? b = some o') ∧ ∀ b o, H b = some o → ∃ o', B.get? b = some o'
/-- the same with a base that is exact -/
theorem Flies.exact {l : List Env} {x C : Addr} {h₀ h : Heap} {H : Hp} (F : Flies l x C h₀ H h) :
    ∃ B a0, Heap.FlyingW B l x (.ref C) a0 h ∧ ∀ b o, h.get? b = some o → b ∉ frs l → ((∃ o', h₀.get? b = some o') ∨ ∃ o', H b = some o') → B.get? b = some o := by
  obtain ⟨B, a0, ⟨f1, f2, f3, oe, vs, T, oT, ts, he, hc, hd, h1, hnT, hTe, hT, hdT, h3⟩, d1, d2⟩ := F
  refine ⟨PySem.W.hideAll h (x :: T :: frs l), a0, ⟨fun b o q => PySem.W.of_hideAll _ q, PySem.W.hideAll_none _ (.head _), PySem.W.funFrames_hide f3 fun env he a ha => ?_, oe, vs, T, oT, ts, he, hc, hd, h1, PySem.W.hideAll_none _ (.tail _ (.head _)), hTe, hT, hdT, h3⟩, fun b o e nb hb => ?_⟩
  · exact .tail _ (.tail _ (List.mem_filterMap.mpr ⟨env, he, ha⟩))
  · have inB : ∃ o', B.get? b = some o' := by
      rcases hb with ⟨o', q⟩ | ⟨o', q⟩
      · exact d1 b o' q nb
      · exact d2 b o' q
    obtain ⟨o', hB⟩ := inB
    refine PySem.W.hideAll_get _ e fun z => ?_
    rcases List.mem_cons.mp z with z | z
    · rw [z, f2] at hB; cases hB
    · rcases List.mem_cons.mp z with z | z
      · rw [z, hnT] at hB; cases hB
      · exact nb z

/-- an exception has left a call -/
def CX1 (P : Program) (w : World) : CXT := fun outer H s E e s' => ∃ (x C : Addr) (H' : Hp), e = .ref x ∧ s'.os = s.os ∧ AllBare s'.gens ∧ Un (frs outer) [] H H' s.heap s'.heap ∧ HOk P w H' s'.heap ∧
  Flies outer x C s.heap H' s'.heap ∧ E (.ref C) none H'
/-- an exception made here -/
def Throws (X : Cx) (E : XK) : Prop := ∀ (pins : List (Addr × Obj)) (σ : St) (H : Hp) (s : Shared) (h' : Heap) (x C : Addr) (vs : List Value), Inv X pins σ H s → Heap.MadeExcOf s.heap h' x (.ref C) vs → E (.ref C) none H → X.xe (.ref x) { s with heap := h' }

section
variable {P : Program} {w : World} {K : PySem.W.Frag} {mg : Str → Option Value} {base : Heap} {N : List Str} {qual : Str} {scope : Scope} {f : Addr} {cd : Value} {A : Around} {outer : List Env} {s : Shared} {H : Hp} {E E' : XK}
theorem cx1_end {pins : List (Addr × Obj)} {σ : St} {H' : Hp} {s2 : Shared} {x C : Addr} {B : Heap} {a0 : Value} (J : Inv (cxOf (CX1 P w) P w K mg base N qual scope f cd A outer s H E) pins σ H' s2)
    (fl : Heap.FlyingW B outer x (.ref C) a0 s2.heap) (d1 : ∀ b o, s.heap.get? b = some o → b ∉ frs outer → ∃ o', B.get? b = some o') (d2 : ∀ b o, H' b = some o → ∃ o', B.get? b = some o') (q : E (.ref C) none H') : CX1 P w outer H s E (.ref x) s2 :=
  ⟨x, C, H', rfl, J.os, J.bare, J.base, J.hok, ⟨B, a0, fl, d1, d2⟩, q⟩
/-- an exception made in a def's body leaves it -/
theorem throw1 (hE : ∀ c d H', E' c d H' → E c d H') : Throws (cxOf (CX1 P w) P w K mg base N qual scope f cd A outer s H E) E' := by
  intro pins σ H1 s1 h1 x C vs I hx q
  have I' : Inv (cxOf (CX1 P w) P w K mg base N qual scope f cd A outer s H E) pins σ H1 { s1 with heap := h1 } := I.kept (t' := s1.toks) hx.keeps
  have hin : ∀ env ∈ (cxOf (CX1 P w) P w K mg base N qual scope f cd A outer s H E).stack, ∀ b, env.frame = some b → b ∈ frs (cxOf (CX1 P w) P w K mg base N qual scope f cd A outer s H E).stack := fun env he b hb => List.mem_filterMap.mpr ⟨env, he, hb⟩
  have trk : ∀ b o, H1 b = some o → ∃ o', s1.heap.get? b = some o' := fun b o e => by
    have := I.hok b o e
    cases q : s1.heap.get? b with
    | some o' => exact ⟨o', rfl⟩
    | none =>
      exfalso
      cases o with
      | lst xs => obtain ⟨_, _, _, _, z⟩ := this; rw [q] at z; cases z
      | tup xs => obtain ⟨_, _, _, _, z, _⟩ := this; rw [q] at z; cases z
      | dK kvs => obtain ⟨_, _, _, _, _, _, _, z, _⟩ := this; rw [q] at z; cases z
      | dT kvs => obtain ⟨_, _, _, _, _, _, _, z, _⟩ := this; rw [q] at z; cases z
      | set S n => obtain ⟨_, _, _, _, z, _⟩ := this; rw [q] at z; cases z
      | ins C dx fs => obtain ⟨_, _, _, z, _⟩ := this; rw [q] at z; cases z
      | own y => obtain ⟨_, z⟩ := this; rw [q] at z; cases z
      | xd fs => obtain ⟨_, ⟨_, _, _, z, _⟩, _⟩ := this; rw [q] at z; cases z
      | rng lo hi => obtain ⟨_, _, _, z⟩ := this; rw [q] at z; cases z
      | frz ob u => obtain ⟨z, _⟩ := this; rw [q] at z; cases z
      | tbl ps => rw [show s1.heap.get? b = some _ from this] at q; cases q
      | met f y => rw [show s1.heap.get? b = some _ from this] at q; cases q
      | ext φ => obtain ⟨_, ⟨_, z⟩, _⟩ := this; rw [q] at z; cases z
  refine wpAny_leaves_madeW (base := PySem.W.hideAll s1.heap (frs (cxOf (CX1 P w) P w K mg base N qual scope f cd A outer s H E).stack)) I.ok.frames rfl (fun b o z => PySem.W.of_hideAll _ z) (PySem.W.funFrames_hide I.stack hin) hx fun h2 t fl _ _ up => ?_
  have keep : ∀ b o, h1.get? b = some o → b ∉ frs (cxOf (CX1 P w) P w K mg base N qual scope f cd A outer s H E).stack → ((∃ o', s1.heap.get? b = some o') ∨ ∃ o', H1 b = some o') → (PySem.W.hideAll s1.heap (frs (cxOf (CX1 P w) P w K mg base N qual scope f cd A outer s H E).stack)).get? b = some o := fun b o e nb hb => by
    have : ∃ o', s1.heap.get? b = some o' := by
      rcases hb with z | ⟨_, z⟩
      · exact z
      · exact trk b _ z
    obtain ⟨o', e'⟩ := this
    have := hx.keeps b o' e'
    rw [e] at this
    cases this
    exact PySem.W.hideAll_get _ e' nb
  have J := Inv.flown rfl I I' (fun b o e nb hb => fl.1 _ _ (keep b o e nb hb)) up
  refine cx1_end J fl (fun b o e nb => ?_) (fun b o e => ?_) (hE _ _ _ q)
  · obtain ⟨o1, e1⟩ := I.base.there b o e (fun z => absurd (show b ∈ ([] : List Addr) from z) (by simp))
    refine ⟨o1, PySem.W.hideAll_get _ e1 fun z => ?_⟩
    rcases List.mem_cons.mp (I.stkSub b z) with y | y
    · have := Nat.lt_of_lt_of_le (Heap.lt_size e) I.ok.above
      rw [y] at this
      exact Nat.lt_irrefl _ this
    · exact nb y
  · obtain ⟨o', e'⟩ := trk b o e
    exact ⟨o', PySem.W.hideAll_get _ e' fun z => by rw [I.stkFree b z] at e; cases e⟩
end
end L2

set_option Elab.async false
set_option linter.all false
set_option maxRecDepth 100000
namespace L2
open PySem PySem.Spec PyProof.Rows

abbrev bmV : List Value := [.type "ValueError", .type "Exception", .type "BaseException", .type "object"]
/-- the error class that the name x is bound to: it stands under ValueError, own classes perhaps between -/
structure Exc (K : PySem.W.Frag) (mg : Str → Option Value) (x : Str) (C : Addr) : Prop where
  mg : mg x = some (.ref C)
  ok : PySem.W.excIn K C bmV "ValueError.__new__" = true
theorem Exc.own {K : PySem.W.Frag} {mg : Str → Option Value} {x : Str} {C : Addr} {h : Heap} (e : Exc K mg x C) (X : K.In h) : OwnCls x C bmV "ValueError.__new__" mg h := by
  refine ⟨e.mg, ?_⟩
  have q := e.ok
  unfold PySem.W.excIn at q
  split at q
  · rename_i dd cd sl ho
    split at q
    · rename_i C' bm k0 k1 k2 k3 n k5 hm hs
      simp only [Bool.and_eq_true, beq_iff_eq, Bool.not_eq_true'] at q
      obtain ⟨⟨⟨⟨⟨rfl, rfl⟩, hdel⟩, ht⟩, hok⟩, hni⟩ := q
      obtain ⟨nm, bs, mro, ns, qn, hd, sn, sub, ab, col, del⟩ := cd
      dsimp only at hm hdel hok hni
      subst hm hdel
      have hsl : sl = #[k0, k1, k2, k3, some (.builtin "ValueError.__new__"), k5] := by
        obtain ⟨l⟩ := sl
        simp only at hs
        rw [hs]
      subst hsl
      exact ⟨bm, ns, nm, qn, bs, hd, sn, sub, ab, col, dd, k0, k1, k2, k3, k5, _, X _ _ ho, .of_isNs (PySem.W.isNs_of_in X hok), PySem.W.nsMap_none_of_in X hok hni, PySem.W.tail_of_in X ht⟩
    · cases q
  · cases q

section
variable {X : Cx} {E : XK} {x : Str} {C : Addr} {np cpos pos : Pos} {e : Expr} {es : List Expr} {t : TA}
def tRaise (E : XK) (C : Addr) (t : TA) : TS := fun _ σ H => t σ H fun vs H1 => vs.length ≤ sizeLine ∧ E (.ref C) none H1
/-- raise C(e, ..) -/
theorem ps_raise (T : Throws X E) (hc : X.calm = true) (O : Exc X.K X.mg x C) (ha : PA X (e :: es) t) (hg : Gl X x := by exact gl_of (by kernel_rfl))
    (he : starEach (e :: es) X.env = (false, eval e X.env) :: starEach es X.env := by rfl) (hpl : (backTo cpos (starEach es X.env)).any (·.1) = false := by rfl) (hd : (x == ("__debug__" : Str)) = false := by decide) :
    PS X (.Raise (some (.Call (.Name x np) (e :: es) [] cpos)) none pos) (tRaise E C t) := by
  intro pins s σ H D I h
  obtain ⟨tl, N, nm, q, bs, hdct, sn, sub, ab, col, dd, k0, k1, k2, k3, k5, mN, hC, hN, hni, TL⟩ := (O.own I.mod.kin).obj
  refine wpAny_Raise_call_subT (C := C) (nm := nm) (q := q) (N := N) (bs := bs) (bm := tl) (hdct := hdct) (sn := sn) (sub := sub) (ab := ab) (col := col) (dd := dd) (k0 := k0) (k1 := k1) (k2 := k2) (k3 := k3) (k5 := k5)
    PySem.F.excBase_ValueError (mN := mN) (TL.hasType PySem.F.excBase_ValueError.hasBase) (I.ok.hd hc) (by rw [he]; show (false || (backTo cpos (starEach es X.env)).any (·.1)) = false; rw [hpl]; rfl) hni (ld_glob I hg O.mg ⟨rfl, ?_⟩ hd)
  have h1 := ha cpos pins s σ H _ I h
  rw [he] at h1 ⊢
  refine Calls.evalArgs_plain (thn h1 fun us s2 ⟨vs, H1, I1, r, z, q⟩ => ?_)
  exact ⟨rfl, by rw [← r.length]; exact z, I1.bk _ _ hC, hN.keeps I1.bk, TL.keeps I1.bk, fun h' e hm => T pins σ H1 s2 h' e C us I1 hm q⟩
end

/-- a def that may raise, by its name -/
structure FnX (P : Program) (w : World) (K : PySem.W.Frag) (mg : Str → Option Value) (base : Heap) (x : Str) (ps : List Str) (k : Nat) (sp : Sp) : Prop where
  ex : ∃ f fd, FnOk P w K mg base (CX1 P w) k f fd ps sp ∧ mg x = some (.ref f) ∧ PySem.W.keepIn K (.ref f) = true ∧ Binds K fd ps []
section
variable {X : Cx} {E : XK} {x : Str} {ps : List Str} {k : Nat} {sp : Sp} {p pos : Pos} {e : Expr} {es : List Expr} {t : TA}
theorem pe_fnX (F : FnX X.prog X.w X.K X.mg X.base x ps k sp) (hx : Passes (CX1 X.prog X.w) X E) (hr : Room k X.A) (ha : PA X (e :: es) t) (hg : Gl X x := by exact gl_of (by kernel_rfl)) (hdb : (x == ("__debug__" : Str)) = false := by decide)
    (he : starEach (e :: es) X.env = (false, eval e X.env) :: starEach es X.env := by rfl) (hpl : (backTo pos (starEach es X.env)).any (·.1) = false := by rfl) : PE X (.Call (.Name x p) (e :: es) [] pos) (tCall sp [] E t) := by
  obtain ⟨f, fd, h1, h2, h3, h4⟩ := F.ex
  exact pe_call h1 hr hg h2 h3 h4 .nil hx ha hdb he hpl
end
section
variable {P : Program} {w : World} {K : PySem.W.Frag} {mg : Str → Option Value} {base : Heap}
/-- THE RULE for a def that may raise -/
theorem Fun.okX {x qual : Str} {st : Stmt} {f : Addr} {fd : FuncData} {N ps : List Str} {k : Nat} {sp : Sp} (F : Fun K x qual st f fd) (S : FnScope N ps (defScope st)) (len : ∀ vs H Q E, sp vs H Q E → vs.length = ps.length)
    (hbody : ∀ (cdv : Value) (A : Around) (outer : List Env) (s : Shared) (H : Hp) (vs : List V) (Q : VK) (E : XK), Room k (A.deeper (envOfC qual (defScope st) s.heap.objs.size f cdv)) → sp vs H Q E →
      ∃ t, PSs (cxOf (CX1 P w) P w K mg base N qual (defScope st) f cdv A outer s H E) (defBody st) t ∧ t { nx := fun _ H' => Q .non H', rt := Q } (start N vs) H) : FnOk P w K mg base (CX1 P w) (k + 1) f fd ps sp := by
  obtain ⟨oc, od, kV, doc, pm, an, cdv, ct, osl, rfl, lk, hcd⟩ := F.ex
  exact fn_of lk hcd S len fun A outer s H vs Q E hr hsp => hbody cdv A outer s H vs Q E hr hsp
/-- where the promise lets no exception out -/
def sp0 (sp : Sp) : Sp := fun vs H Q _ => sp vs H Q E0
theorem FnX.plain {x : Str} {ps : List Str} {k : Nat} {sp : Sp} (F : FnX P w K mg base x ps k sp) : Fn P w K mg base x ps k (sp0 sp) := by
  obtain ⟨f, fd, h1, h2, h3, h4⟩ := F.ex
  refine ⟨f, fd, ⟨fun vs H Q E h => h1.len vs H Q E0 h, fun A outer s H args us vs Q E hr he hb hv hs => codeAny_mono (h1.run A outer s H args us vs Q E0 hr he hb hv hs) fun r s' q => ?_⟩, h2, h3, h4⟩
  cases r with
  | error e =>
    obtain ⟨_, _, _, _, _, _, _, _, _, z⟩ := q
    exact z
  | ok fl => cases fl <;> exact q
/-- the classes' facts: C of the name x, under CE -/
structure Err (K : PySem.W.Frag) (mg : Str → Option Value) (x : Str) (C CE : Addr) : Prop extends Exc K mg x C where
  up : PySem.W.mroIn K C (.ref CE) = some true
  isV : PySem.W.kitOne K (.ref C) (.type "ValueError") = some true
end
end L2

set_option Elab.async false
set_option linter.all false
set_option maxRecDepth 100000
namespace L2
open PySem PySem.Spec PyProof.Rows

section
variable {M : Model} {A : Around} {E : Value → Shared → Prop}
variable {nm q nm' q' : Str} {C N C' N' : Addr} {bs bm bs' bm' : List Value} {hdct hdct' : Bool} {sn sn' : List Str} {sub sub' : List Value} {ab ab' : Bool} {col col' : Option Bool} {dd dd' : Option Addr} {k0 k1 k2 k3 k5 l0 l1 l2 l3 l5 : Option Value} {newId newId' : String}
theorem excMatches_own {h : Heap} {g : Array GenState} {d : Drawn} {t : Nat} {os : OsState} {e : Addr} {oe : Obj} {b : Bool} {Q : Bool → Shared → Prop}
    (hC : h.get? C = some (excClassObj nm q C N bs bm hdct sn sub ab col dd k0 k1 k2 k3 k5 newId)) (hC' : h.get? C' = some (excClassObj nm' q' C' N' bs' bm' hdct' sn' sub' ab' col' dd' l0 l1 l2 l3 l5 newId'))
    (he : h.get? e = some oe) (hcls : oe.cls = .ref C) (hbase : bm'.contains (.type "BaseException") = true) (hb : (Value.ref C :: bm).contains (.ref C') = b)
    (hq : Q b ⟨h, g, d, t, os⟩) : wpAny M A (excMatches (.ref e) (.ref C')) Q E ⟨h, g, d, t, os⟩ := by
  have hcB : (Value.ref C' :: bm').contains (.type "BaseException") = true := by rw [List.contains_cons, hbase, Bool.or_true]
  have f := tc_notTuple
  unfold excMatches
  repeat (first | (with_reducible refine wpAny_loadPart_at he ?_; rw [hcls]) | with_reducible refine wpAny_loadPart_at hC' ?_ | (with_reducible refine wpAny_isSubtype_exc hC' ?_; rw [hcB]) | (with_reducible refine wpAny_isSubtype_exc hC ?_; rw [hb]) | wp_step)
  cases b <;> (wp_walk; exact hq)
end

/-- the class's object, and its line of bases -/
theorem Exc.line {K : PySem.W.Frag} {C : Addr} {h : Heap} (q : PySem.W.excIn K C bmV "ValueError.__new__" = true) (X : K.In h) :
    ∃ bm N nm qn bs hdct sn sub ab col dd k0 k1 k2 k3 k5, h.get? C = some (excClassObj nm qn C N bs bm hdct sn sub ab col dd k0 k1 k2 k3 k5 "ValueError.__new__") ∧ bm.contains (.type "BaseException") = true ∧ ∀ c b, PySem.W.mroIn K C c = some b → (Value.ref C :: bm).contains c = b := by
  unfold PySem.W.excIn at q
  split at q
  · rename_i dd cd sl ho
    split at q
    · rename_i C' bm k0 k1 k2 k3 n k5 hm hs
      simp only [Bool.and_eq_true, beq_iff_eq, Bool.not_eq_true'] at q
      obtain ⟨⟨⟨⟨⟨rfl, rfl⟩, hdel⟩, ht⟩, hok⟩, hni⟩ := q
      have hmro : ∀ c b, PySem.W.mroIn K C' c = some b → (Value.ref C' :: bm).contains c = b := fun c b e => by
        unfold PySem.W.mroIn PySem.W.clsIn at e
        rw [ho] at e
        have e2 : (if cd.mro.isEmpty = true then none else some (cd.mro.contains c)) = some b := e
        rw [hm] at e2
        exact Option.some.inj e2
      obtain ⟨nm, bs, mro, ns, qn, hd, sn, sub, ab, col, del⟩ := cd
      dsimp only at hm hdel hok hni
      subst hm hdel
      have hsl : sl = #[k0, k1, k2, k3, some (.builtin "ValueError.__new__"), k5] := by
        obtain ⟨l⟩ := sl
        simp only at hs
        rw [hs]
      subst hsl
      exact ⟨bm, ns, nm, qn, bs, hd, sn, sub, ab, col, dd, k0, k1, k2, k3, k5, X _ _ ho, (PySem.W.tail_of_in X ht).hasType PySem.F.excBase_ValueError.hasBase, hmro⟩
    · cases q
  · cases q

/-! ### pins into the context and back -/
section
variable {X : Cx} {pins pins' : List (Addr × Obj)} {σ : St} {H : Hp} {s : Shared} {xe xe' : Value → Shared → Prop}
theorem Inv.pinIn (I : Inv X pins σ H s) (xe : Value → Shared → Prop) : Inv { X with pn := X.pn ++ pins, xe := xe } [] σ H s :=
  ⟨⟨I.ok.mod, I.ok.kind, I.ok.glob, I.ok.blt, I.ok.above, I.ok.inj, I.ok.has, I.ok.cab, I.ok.hd, I.ok.frames, I.ok.stk, I.ok.exf, I.ok.bs, I.ok.bsz, I.ok.noex, I.ok.exfs, I.ok.funs, I.ok.frf⟩, I.os, I.bare, I.base, I.loc, I.cell, I.free, I.freeC, fun p hp => I.pin p (by simpa using hp), I.hok, I.len⟩
theorem Inv.pinOut (I : Inv { X with pn := X.pn ++ pins, xe := xe } pins' σ H s) : Inv X pins σ H s :=
  ⟨⟨I.ok.mod, I.ok.kind, I.ok.glob, I.ok.blt, I.ok.above, I.ok.inj, I.ok.has, I.ok.cab, I.ok.hd, I.ok.frames, I.ok.stk, I.ok.exf, I.ok.bs, I.ok.bsz, I.ok.noex, I.ok.exfs, I.ok.funs, I.ok.frf⟩, I.os, I.bare, I.base, I.loc, I.cell, I.free, I.freeC, fun p hp => I.pin p (List.mem_append_left _ hp), I.hok, I.len⟩
/-- within an except suite -/
abbrev Cx.within (X : Cx) (y : Addr) (pn : List (Addr × Obj)) : Cx := { X with A := X.A.mark (some (.ref y)), calm := false, pn := pn, xe := fun _ _ => False }
theorem Inv.goIn (I : Inv X pins σ H s) (y : Addr) (pn : List (Addr × Obj)) (h : ∀ p ∈ pn, s.heap.get? p.1 = some p.2 ∧ H p.1 = none ∧ p.1 ≠ X.env.locals ∧ p.1 ∉ X.fs ∧ ∀ v, p.2.data ≠ .cell v) : Inv (X.within y pn) [] σ H s :=
  ⟨⟨I.ok.mod, I.ok.kind, I.ok.glob, I.ok.blt, I.ok.above, I.ok.inj, I.ok.has, I.ok.cab, fun z => absurd (show false = true from z) Bool.false_ne_true, I.ok.frames, I.ok.stk, I.ok.exf, I.ok.bs, I.ok.bsz, I.ok.noex, I.ok.exfs, I.ok.funs, I.ok.frf⟩, I.os, I.bare, I.base, I.loc, I.cell, I.free, I.freeC, fun p hp => h p (by simpa using hp), I.hok, I.len⟩
theorem Inv.goOut {y : Addr} {pn : List (Addr × Obj)} (ok : X.Ok) (I : Inv (X.within y pn) pins' σ H s) (hp : ∀ p ∈ X.pn ++ pins, p ∈ pn) : Inv X pins σ H s :=
  ⟨ok, I.os, I.bare, I.base, I.loc, I.cell, I.free, I.freeC, fun p z => I.pin p (List.mem_append_left _ (hp p z)), I.hok, I.len⟩
/-- the name behind the suite is gone -/
theorem Inv.unname {M : Model} {A : Around} {E : Value → Shared → Prop} {i : Nat} {n : Str} {pos : Pos} {Q : Unit → Shared → Prop} (I : Inv X pins σ H s) (hN : X.N.Nodup) (hi : X.N[i]? = some n) (hlo : X.env.kindOf n = some .local)
    (h : ∀ s', Inv X pins (σ.set i none) H s' → Q () s') : wpAny M A (do bindName X.env n .none; unbindBehindTheSuite X.env n pos) Q E s := by
  obtain ⟨m, hn, hl⟩ := id I.loc
  have hcls : (X.env.scope.kind == .class || (X.env.scope.kind == .module && X.env.locals != X.env.globals)) = false := by rw [I.ok.kind]; rfl
  have hiσ : i < σ.length := by rw [I.len]; exact (List.getElem?_eq_some_iff.mp hi).1
  have cne := I.cne
  refine wpAny_nameGoes_keeps hlo hn hcls fun h' v hn' hs => ?_
  refine h _ ⟨I.ok, I.os, I.bare, ⟨fun b o e n hb hx => ?_, fun b o e n hb hx => ?_, I.base.free, fun b o e hx => ?_, I.base.tups, I.base.frzs, I.base.tbls⟩, ⟨_, hn', fun j y v' e1 e2 e3 => ?_⟩, fun y c e => ?_, I.free, I.freeC, fun p hp => ?_, fun b ob e => ?_, by simpa using I.len⟩
  · exact (hs.2 b (Nat.ne_of_lt (Nat.lt_of_lt_of_le (Heap.lt_size e) I.ok.above))).trans (I.base.keep b o e n hb hx)
  · obtain ⟨sl, e1⟩ := I.base.slot b o e n hb hx
    exact ⟨sl, (hs.2 b (Nat.ne_of_lt (Nat.lt_of_lt_of_le (Heap.lt_size e) I.ok.above))).trans e1⟩
  · obtain ⟨o', e1⟩ := I.base.there b o e hx
    exact ⟨o', (hs.2 b (Nat.ne_of_lt (Nat.lt_of_lt_of_le (Heap.lt_size e) I.ok.above))).trans e1⟩
  · have hji : j ≠ i := fun z => by
      subst z
      rw [List.getElem?_set_self hiσ] at e2
      cases e2
    rw [List.getElem?_set_ne (Ne.symm hji)] at e2
    obtain ⟨u', r', q⟩ := hl j y v' e1 e2 e3
    have hyn : y ≠ n := fun z => by
      subst z
      exact hji ((List.getElem?_inj (List.getElem?_eq_some_iff.mp e1).1 hN).mp (e1.trans hi.symm))
    refine ⟨u', r', ?_⟩
    rcases q with ⟨q1, q2⟩ | ⟨q1, c, q2, oc, q3, q4⟩
    · exact .inl ⟨q1, by show (if y = n then v else m y) = some u'; rw [if_neg hyn]; exact q2⟩
    · exact .inr ⟨q1, c, q2, oc, (hs.2 c (cne _ _ q2)).trans q3, q4⟩
  · obtain ⟨v, oc, q3, q4⟩ := I.cell y c e
    exact ⟨v, oc, (hs.2 c (cne _ _ e)).trans q3, q4⟩
  · obtain ⟨e, n', nl, nf, d⟩ := I.pin p hp
    exact ⟨(hs.2 _ nl).trans e, n', nl, nf, d⟩
  · refine (I.hok b ob e).stay (fun c u hc q => (hs.2 c fun z => ?_).trans q) (fun _ q => q) fun _ _ q => q
    rcases hc with y | y
    · rw [← y, z, I.free] at e; cases e
    · rw [z, I.free] at y; cases y
end

/-! ### try .. except C as n -/
/-- what is wanted of the suite: the name is gone behind it -/
def Ends.un (D : Ends) (i : Nat) : Ends := { nx := fun σ H => D.nx (σ.set i none) H, rt := D.rt, bk := fun σ H => D.bk (σ.set i none) H, ct := fun σ H => D.ct (σ.set i none) H }
/-- the wish about exceptions of the body: of a class under CE, and the suite's reading then -/
def exAs (K : PySem.W.Frag) (CE : Addr) (i len : Nat) (th : Addr → Obj → TS) (D : Ends) : XK := fun c _ H => ∃ C, c = .ref C ∧ PySem.W.excIn K C bmV "ValueError.__new__" = true ∧ PySem.W.mroIn K C (.ref CE) = some true ∧
  ∀ (y : Addr) (oy : Obj) (σ : St), oy.cls = .ref C → (∃ vs, oy.data = .fields vs) → σ.length = len → th y oy (D.un i) (σ.set i (some (.ref y))) H
def tTryAs (K : PySem.W.Frag) (CE : Addr) (i len : Nat) (tb : XK → TS) (th : Addr → Obj → TS) : TS := fun D σ H => tb (exAs K CE i len th D) D σ H
section
variable {X : Cx} {x n : Str} {i : Nat} {CE : Addr} {np hpos pos : Pos} {body suite : List Stmt} {b₀ : Stmt} {tb : XK → TS} {th : Addr → Obj → TS}
theorem ps_tryAs (O : Exc X.K X.mg x CE) (hst : X.stack = X.env :: X.outer) (hf : X.env.frame = some X.env.locals) (hex : X.ex = []) (hN : X.N.Nodup) (hi : X.N[i]? = some n) (hlo : X.env.scope.names.lookup n = some .local)
    (hb : ∀ pn xe E, Passes (CX1 X.prog X.w) { X with pn := pn, xe := xe } E → PSs { X with pn := pn, xe := xe } body (tb E))
    (hs : ∀ pn y oy, (y, oy) ∈ pn → PSs (X.within y pn) (b₀ :: suite) (th y oy)) (hg : Gl X x := by exact gl_of (by kernel_rfl)) (hd : (x == ("__debug__" : Str)) = false := by decide) :
    PS X (.Try body [.ExceptHandler (some (.Name x np)) (some n) (b₀ :: suite) hpos] [] [] pos) (tTryAs X.K CE i X.N.length tb th) := by
  intro pins s σ H D I h
  refine wpAny_Try_except ?_
  generalize hE1 : (fun (e : Value) (s₁ : Shared) => wpAny (model X.prog X.w) X.A (noteFrame e X.env) (fun _ s₂ => wpAny (model X.prog X.w) X.A (setFlight e none) (fun _ s₃ => wpAny (model X.prog X.w) X.A (handleBy e X.env [.ExceptHandler (some (.Name x np)) (some n) (b₀ :: suite) hpos]) (SP X pins D) X.xe s₃) X.xe s₂) X.xe s₁) = E1
  have pass : Passes (CX1 X.prog X.w) { X with pn := X.pn ++ pins, xe := E1 } (exAs X.K CE i X.N.length th D) := by
    intro pins' σ' H1 s1 e s' I1 ⟨y, C, H', he, os, bare, un, hok, F, C', hc', hxc, hmro, q⟩
    subst he
    cases hc'
    show E1 (.ref y) s'
    rw [← hE1]
    have I2 : Inv { X with pn := X.pn ++ pins, xe := E1 } pins' σ' H' s' := I1.call' os un hok bare (fun b z => absurd z (by simp))
    have F2 : Flies X.stack y C s1.heap H' s'.heap := F
    rw [hst] at F2
    obtain ⟨B, a0, fl, ex⟩ := F2.exact
    have nst : ∀ b : Addr, b ∉ frs X.stack → b ∉ frs (X.env :: X.outer) := fun b z => by rw [← hst]; exact z
    refine wpAny_looks_onW (I.ok.frames.trans (congrArg some hst)) hf fl fun h4 held4 up4 => ?_
    refine wpAny_landsW held4 fun h5 fl5 up5 => ?_
    have J5 : Inv { X with pn := X.pn ++ pins, xe := E1 } pins' σ' H' { s' with heap := h5 } := Inv.flown hex I1 I2 (fun b o e nb hb => fl5.1 _ _ (ex b o e (nst b nb) hb)) (up4.trans up5)
    obtain ⟨ob, hob, hobc⟩ := fl5.there
    obtain ⟨bm, N, nm, qn, bs, hdct, sn, sub, ab, col, dd, k0, k1, k2, k3, k5, hC, hbB, hmr⟩ := Exc.line hxc J5.kIn
    obtain ⟨bm', N', nm', qn', bs', hdct', sn', sub', ab', col', dd', l0, l1, l2, l3, l5, hC', hbB', hmr'⟩ := Exc.line O.ok J5.kIn
    have Jm : Inv (X.within y (X.pn ++ pins)) [] σ' H' { s' with heap := h5 } := J5.pinOut.goIn y _ fun p hp => J5.pin p (List.mem_append_left _ hp)
    refine wpAny_handleBy_cons (codeAny_handlers_test (ld_glob (X := X.within y (X.pn ++ pins)) Jm hg O.mg ?_ hd)) (by intro q; cases q)
    refine excMatches_own hC hC' hob hobc hbB' (hmr _ _ hmro) (codeAny_handlers_suite_as ?_)
    refine lands_againW fl5 fun h6 fl6 up6 => ?_
    have J6 : Inv { X with pn := X.pn ++ pins, xe := E1 } pins' σ' H' { s' with heap := h6 } := Inv.flown hex I1 I2 (fun b o e nb hb => fl6.1 _ _ (ex b o e (nst b nb) hb)) ((up4.trans up5).trans up6)
    obtain ⟨oy, vs, hoy, hoyc, hoyd, _⟩ := fl6.first
    have ynl : y ≠ X.env.locals := fun z => by
      obtain ⟨m, ⟨oL, es, ep, hoL, hxd, _⟩, _⟩ := J6.loc
      have e1 : h6.get? X.env.locals = some oL := hoL
      rw [← z, hoy] at e1
      cases e1
      rw [hoyd] at hxd
      cases hxd
    have ynf : y ∉ X.fs := fun z => by
      obtain ⟨_, o, ho, nf⟩ := J6.funs.mem z
      have e1 : h6.get? y = some o := ho
      rw [hoy] at e1
      cases e1
      exact nf vs hoyd
    have yH : H' y = none := by
      cases z : H' y with
      | none => rfl
      | some o =>
        obtain ⟨B2, _, fl2, _, d2⟩ := F
        obtain ⟨o2, q2⟩ := d2 y o z
        rw [fl2.2.1] at q2
        cases q2
    have Jw : Inv (X.within y ((y, oy) :: (X.pn ++ pins))) [] σ' H' { s' with heap := h6 } := J6.pinOut.goIn y _ fun p hp => by
      rcases List.mem_cons.mp hp with z | z
      · subst z
        exact ⟨hoy, yH, ynl, ynf, fun v z => by rw [hoyd] at z; cases z⟩
      · exact J6.pin p (List.mem_append_left _ z)
    refine store_ok (X := X.within y ((y, oy) :: (X.pn ++ pins))) (i := i) (v := .ref y) Jw hN hi (.inl hlo) rfl (fun s7 J7 => ?_) (.inr hlo)
    have run := hs ((y, oy) :: (X.pn ++ pins)) y oy (.head _) [] s7 _ H' (D.un i) J7 (q y oy σ' hoyc ⟨vs, hoyd⟩ J6.len)
    refine wpAny_mono run (fun f s8 z => ?_) fun _ _ z => False.elim z
    have back : ∀ {σ2 : St} {H2 : Hp}, Inv (X.within y ((y, oy) :: (X.pn ++ pins))) [] σ2 H2 s8 → Inv X pins σ2 H2 s8 := fun J => J.goOut I.ok fun p hp => List.mem_cons_of_mem _ hp
    cases f with
    | next =>
      obtain ⟨σ2, H2, J, q2⟩ := z
      exact (back J).unname hN hi hlo fun s9 J9 => ⟨_, _, J9, q2⟩
    | brk =>
      obtain ⟨σ2, H2, J, q2⟩ := z
      exact (back J).unname hN hi hlo fun s9 J9 => ⟨_, _, J9, q2⟩
    | cont =>
      obtain ⟨σ2, H2, J, q2⟩ := z
      exact (back J).unname hN hi hlo fun s9 J9 => ⟨_, _, J9, q2⟩
    | ret u =>
      obtain ⟨v, σ2, H2, J, r, q2⟩ := z
      exact (back J).unname hN hi hlo fun s9 J9 => ⟨v, _, _, J9, r, q2⟩
  have run := hb (X.pn ++ pins) E1 _ pass [] s σ H D (I.pinIn E1) h
  refine wpAny_mono run (fun f s1 z => ?_) fun e s1 z => z
  cases f with
  | next =>
    obtain ⟨σ2, H2, J, q2⟩ := z
    exact wpAny_execs_nil ⟨σ2, H2, J.pinOut, q2⟩
  | brk =>
    obtain ⟨σ2, H2, J, q2⟩ := z
    exact ⟨σ2, H2, J.pinOut, q2⟩
  | cont =>
    obtain ⟨σ2, H2, J, q2⟩ := z
    exact ⟨σ2, H2, J.pinOut, q2⟩
  | ret u =>
    obtain ⟨v, σ2, H2, J, r, q2⟩ := z
    exact ⟨v, σ2, H2, J.pinOut, r, q2⟩
end
end L2

set_option Elab.async false
set_option linter.all false
set_option maxRecDepth 100000
namespace L2
open PySem PySem.Spec PySem.W PyProof.Rows PySem.Builtin PySem.Builtin.ObjectAttr PySem.Builtin.Getset_descriptor

/-- what the written part tells of an error class: its attributes are looked up as for every exception -/
structure ExcLook (K : Frag) (C : Addr) : Prop where
  cls : (clsIn K C).isSome = true
  ga : findIn K (.ref C) "__getattribute__" = some (some (.builtin "BaseException.__getattribute__"))
  gt : findIn K (.ref C) "__getattr__" = some none
  at_ : findIn K (.ref C) "__class__" = some (some (.builtin "object.__class__"))
  gs : specialIn K (.builtin "object.__class__") "__get__" = some (some (.builtin "getset_descriptor.__get__"))
  tk : takesIn K (.builtin "object.__class__") = some true
  ob : mroIn K C (.type "object") = some true
  bx : mroIn K C (.type "BaseException") = some true
def ExcAt (y C : Addr) (h : Heap) : Prop := ∃ o vs, h.get? y = some o ∧ o.cls = .ref C ∧ o.data = .fields vs

section
variable {K : Frag} {C y : Addr} {prog : Program} {w : World} {A : Around} {E : Value → Shared → Prop} {s : Shared}
theorem ExcAt.type {M : Model} {h : Heap} (e : ExcAt y C h) : Looks M h (typeOf (.ref y)) (.ref C) := by
  obtain ⟨o, vs, h1, h2, _⟩ := e
  exact h2 ▸ (Looks.ld h1).andThen .now
theorem exc_find {M : Model} {h : Heap} (X : K.In h) (F : ExcLook K C) : Looks M h (find (.ref y) (.ref C) "__class__") (.bind (.builtin "getset_descriptor.__get__") (.builtin "object.__class__")) := by
  have L1 := looks_findIn (M := M) X F.at_
  have L2 := looks_specialIn (M := M) X F.gs
  have L3 := looks_takesIn (M := M) X F.tk
  intro A Q E s k q
  unfold find
  refine wpAny_bind (L1 A _ E s k ?_)
  refine wpAny_bind (L2 A _ E s k ?_)
  unfold dataDescriptor?
  refine wpAny_bind (wpAny_bind (L3 A _ E s k ?_))
  exact wpAny_pure (wpAny_bind (wpAny_rule (wpAny_pure q)))
theorem exc_class_get {R : Result → Shared → Prop} {tp : Value} (X : K.In s.heap) (F : ExcLook K C) (e : ExcAt y C s.heap) (h : R (.ok (.ret (.ref C))) s) : codeAny (model prog w) A (.call (.builtin "getset_descriptor.__get__") ⟨[.builtin "object.__class__", .ref y, tp], []⟩) R s := by
  obtain ⟨hh, g, dr, t, os⟩ := s
  have L0 := e.type (M := model prog w)
  have L1 := looks_mroIn (M := model prog w) X F.ob
  refine codeAny_call_builtin KF.slot_gs.plain KF.entry_gs (KF.slot_gs.check _ _ _ _ _ _ _ _ KF.type_class (KF.args_gs _ _ _) ?_)
  unfold Builtin.«getset_descriptor.__get__» descrGet
  rw [dga_obj]
  refine wpAny_bind (wpAny_pure ?_)
  unfold descrGetter descrCheckInstance descrNameAndClass isInstance
  simp only [KF.owner_class]
  repeat lk
  refine ⟨Code.quiet_builtin _ (by decide +kernel), codeAny_builtin KF.entry_class ?_⟩
  unfold Builtin.«object.__class__» shownTypeOf
  repeat lk
  exact h
theorem exc_class {Q : Option Value → Shared → Prop} (X : K.In s.heap) (F : ExcLook K C) (e : ExcAt y C s.heap) (h : Q (some (.ref C)) { s with toks := s.toks + 1 }) : wpAny (model prog w) A (getAttr? (.ref y) "__class__") Q E s := by
  obtain ⟨hh, g, d, t, os⟩ := s
  have L0 := e.type (M := model prog w)
  have L1 := looks_findIn (M := model prog w) X F.ga
  have L2 := looks_findIn (M := model prog w) X F.gt
  have L3 := looks_mroIn (M := model prog w) X F.bx
  have L4 := exc_find (M := model prog w) (y := y) X F
  have G := PySem.F.excAttr_ValueError.ga
  unfold getAttr? getAttrBy? getAttrBy
  refine wpAny_bind (wpAny_mkText (wpAny_bind (wpAny_attempt (wpAny_holding (wpAny_bind (L0.at (wpAny_bind (L1.at ?_))))))))
  dsimp only
  have hx2 : (Value.builtin "BaseException.__getattribute__" == Value.builtin "object.__getattribute__") = false := by decide +kernel
  rw [hx2, Bool.and_false, if_neg Bool.false_ne_true]
  unfold getAttrByItsOwn hookBefore
  rw [if_pos (show onTheHeap (Value.ref C) = true from rfl)]
  refine wpAny_bind (L2.at ?_)
  refine wpAny_bind (wpAny_attempt (wpAny_holding ?_))
  unfold callGetattribute boundAndCalled
  rw [if_neg (by decide)]
  refine wpAny_bind (wpAny_of_eq (G.bind (.ref y)) ?_)
  refine wpAny_call (codeAny_call_builtin G.plain PySem.F.entry_bexc_ga ?_)
  have hk : builtinKind "BaseException.__getattribute__" = some .slot := by decide +kernel
  have hsplit : splitId "BaseException.__getattribute__" = some ("BaseException", "__getattribute__") := by decide +kernel
  have ha := PySem.F.args_bexc_ga (.ref y) (.str "__class__" t)
  simp only [checkBuiltinCall, hk, hsplit]
  refine wpAny_bind ?_
  unfold isInstance
  repeat (first | with_reducible refine wpAny_call (exc_class_get X F e ?_) | lk | wp_step)
  exact h
end

theorem kitx_exc {K : Frag} {C y : Addr} (F : ExcLook K C) : KitX K (.ref y) (.ref C) (ExcAt y C) where
  ty := fun _ _ _ e => e.type
  it := fun _ _ X _ => by
    obtain ⟨cd, hc⟩ := Option.isSome_iff_exists.mp F.cls
    unfold clsIn at hc
    split at hc
    · rename_i c' d' cd' sl' ho
      intro A' Q' E' s' k q
      unfold isType loadHead
      exact wpAny_bind (wpAny_loadPart (k _ _ (X _ _ ho)) (wpAny_pure q))
    · cases hc
  ne := fun h tp dd its n sl X htp => by
    obtain ⟨cd, hc⟩ := Option.isSome_iff_exists.mp F.cls
    refine Bool.eq_false_iff.mpr fun q => ?_
    have e : C = tp := Value.ref.inj (beq_iff_eq.mp q)
    subst e
    unfold clsIn at hc
    split at hc
    · rename_i c' d' cd' sl' ho
      have z := (X _ _ ho).symm.trans htp
      cases z
    · cases hc
  ca := fun X e k => exc_class X F e k

/-- isinstance(e, c) of an exception that is held, c a built-in class or an own one -/
def rIsiX (K : Frag) (y : Addr) (oy : Obj) : List V → Hp → VK → Prop := fun xs H Q => ∃ C c vc b, xs = [.ref y, c] ∧ oy.cls = .ref C ∧ (∃ vs, oy.data = .fields vs) ∧ RelV c vc ∧ ExcLook K C ∧ kitOne K (.ref C) vc = some b ∧ Q (.bl b) H
theorem call_isiX {X : Cx} {K : Frag} {y : Addr} {oy : Obj} (hK : X.K = K) (hp : (y, oy) ∈ X.pn) : CallR X (.builtin "isinstance") (rIsiX K y oy) := by
  intro pins s σ H xs us Q I rv h
  subst hK
  obtain ⟨C, c, vc, b, rfl, hc, ⟨vs, hd⟩, rc, F, e, q⟩ := h
  obtain ⟨u, v, rfl, r1, r2⟩ := vals2 rv
  cases r1
  have ev : v = vc := by
    cases c with
    | ty T => cases r2; cases rc; rfl
    | ref a => cases r2; cases rc; rfl
    | non => cases r2; cases rc; rfl
    | bl b => cases r2; cases rc; rfl
    | int i => obtain ⟨t1, rfl⟩ := rc; unfold kitOne kitCls at e; cases e
    | str i => obtain ⟨t1, rfl⟩ := rc; unfold kitOne kitCls at e; cases e
    | byt i => obtain ⟨t1, rfl⟩ := rc; unfold kitOne kitCls at e; cases e
    | flt i => obtain ⟨t1, rfl⟩ := rc; unfold kitOne kitCls at e; cases e
  subst ev
  have hy := (I.pin (y, oy) (List.mem_append_left _ hp)).1
  exact kia_one (kitx_exc F) I.kIn ⟨oy, vs, hy, hc, hd⟩ e (fun z => nomatch z) fun tk => ⟨.bl b, H, I.tok _, rfl, q⟩
end L2

set_option Elab.async false
set_option linter.all false
set_option maxRecDepth 100000
namespace L2
open PySem PySem.Spec PyProof.Rows

/-! ### texts with {..} -/
abbrev TP1 := St → Hp → (Str → Hp → Prop) → Prop
abbrev TJ := Str → TP1
def PP (X : Cx) (e : Expr) (t : TP1) : Prop := ∀ (pins : List (Addr × Obj)) (s : Shared) (σ : St) (H : Hp) (Q : Str → Hp → Prop), Inv X pins σ H s → t σ H Q →
  wpAny (model X.prog X.w) X.A (eval e X.env) (fun v s' => ∃ y tk H', v = .str y tk ∧ Inv X pins σ H' s' ∧ Q y H') X.xe s
def PJ (X : Cx) (es : List Expr) (t : TJ) : Prop := ∀ (acc : Str) (pins : List (Addr × Obj)) (s : Shared) (σ : St) (H : Hp) (Q : Str → Hp → Prop), Inv X pins σ H s → t acc σ H Q →
  wpAny (model X.prog X.w) X.A (joinParts acc (evalEach es X.env)) (fun v s' => ∃ y tk H', v = .str y tk ∧ Inv X pins σ H' s' ∧ Q y H') X.xe s
section
variable {X : Cx} {e : Expr} {es : List Expr} {te : TE} {tp : TP1} {t : TJ} {pos : Pos}
theorem pp_str {x : Str} {j} : PP X (.Constant (.str x) j pos) (fun _ H Q => Q x H) := fun _ _ _ H _ I h => Calls.Constant_str ⟨x, _, H, rfl, I.tok _, h⟩
theorem pp_int (he : PE X e te) : PP X (.FormattedValue e (-1) none pos) (fun σ H Q => te σ H fun v H1 => ∃ i : Int, v = .int i ∧ i.natAbs.log2 < 1920 ∧ Q (toString i) H1) := by
  intro pins s σ H Q I h
  refine FormattedValue_plain (thn (he pins s σ H _ I h) fun v s1 ⟨x, H1, I1, r1, i, e, hd, q⟩ => ?_)
  subst e
  obtain ⟨tk, rfl⟩ := r1
  exact formatField_int_small hd ⟨_, _, H1, rfl, I1.tok _, q⟩
theorem pj_nil : PJ X [] (fun acc _ H Q => acc.length ≤ sizeLine ∧ Q acc H) := by
  intro acc pins s σ H Q I h
  exact joinParts_nil ⟨acc, _, H, rfl, I.tok _, h.2⟩ h.1
theorem pj_cons (he : PP X e tp) (hr : PJ X es t) : PJ X (e :: es) (fun acc σ H Q => tp σ H fun y H1 => (acc ++ y).length ≤ sizeLine ∧ t (acc ++ y) σ H1 Q) := by
  intro acc pins s σ H Q I h
  show wpAny _ _ (joinParts acc (eval e X.env :: evalEach es X.env)) _ _ s
  refine joinParts_cons (thn (he pins s σ H _ I h) fun v s1 ⟨y, tk, H1, ev, I1, z, q⟩ => ?_)
  subst ev
  exact ⟨z, hr _ pins s1 σ H1 Q I1 q⟩
theorem pe_fstr {v₁ v₂ : Expr} (h : PJ X (v₁ :: v₂ :: es) t) : PE X (.JoinedStr (v₁ :: v₂ :: es) pos) (fun σ H Q => t Str.empty σ H fun out H' => Q (.str out) H') := by
  intro pins s σ H Q I hq
  refine JoinedStr_many (thn (h Str.empty pins s σ H _ I hq) fun v s1 ⟨y, tk, H1, ev, I1, q⟩ => ?_)
  subst ev
  exact ⟨.str y, H1, I1, ⟨tk, rfl⟩, q⟩
end
end L2

set_option Elab.async false
set_option linter.all false
set_option maxRecDepth 100000
namespace L2
open PySem PySem.Spec PyProof.Rows

/-! ### try .. except C, without a name -/
def exOf (K : PySem.W.Frag) (CE : Addr) (len : Nat) (th : TS) (D : Ends) : XK := fun c _ H => ∃ C, c = .ref C ∧ PySem.W.excIn K C bmV "ValueError.__new__" = true ∧ PySem.W.mroIn K C (.ref CE) = some true ∧
  ∀ σ : St, σ.length = len → th D σ H
def tTryOf (K : PySem.W.Frag) (CE : Addr) (len : Nat) (tb : XK → TS) (th : TS) : TS := fun D σ H => tb (exOf K CE len th D) D σ H
section
variable {X : Cx} {x : Str} {CE : Addr} {np hpos pos : Pos} {body suite : List Stmt} {b₀ : Stmt} {tb : XK → TS} {th : TS}
theorem ps_tryOf (O : Exc X.K X.mg x CE) (hst : X.stack = X.env :: X.outer) (hf : X.env.frame = some X.env.locals) (hex : X.ex = [])
    (hb : ∀ pn xe E, Passes (CX1 X.prog X.w) { X with pn := pn, xe := xe } E → PSs { X with pn := pn, xe := xe } body (tb E))
    (hs : ∀ pn y, PSs (X.within y pn) (b₀ :: suite) th) (hg : Gl X x := by exact gl_of (by kernel_rfl)) (hd : (x == ("__debug__" : Str)) = false := by decide) :
    PS X (.Try body [.ExceptHandler (some (.Name x np)) none (b₀ :: suite) hpos] [] [] pos) (tTryOf X.K CE X.N.length tb th) := by
  intro pins s σ H D I h
  refine wpAny_Try_except ?_
  generalize hE1 : (fun (e : Value) (s₁ : Shared) => wpAny (model X.prog X.w) X.A (noteFrame e X.env) (fun _ s₂ => wpAny (model X.prog X.w) X.A (setFlight e none) (fun _ s₃ => wpAny (model X.prog X.w) X.A (handleBy e X.env [.ExceptHandler (some (.Name x np)) none (b₀ :: suite) hpos]) (SP X pins D) X.xe s₃) X.xe s₂) X.xe s₁) = E1
  have pass : Passes (CX1 X.prog X.w) { X with pn := X.pn ++ pins, xe := E1 } (exOf X.K CE X.N.length th D) := by
    intro pins' σ' H1 s1 e s' I1 ⟨y, C, H', he, os, bare, un, hok, F, C', hc', hxc, hmro, q⟩
    subst he
    cases hc'
    show E1 (.ref y) s'
    rw [← hE1]
    have I2 : Inv { X with pn := X.pn ++ pins, xe := E1 } pins' σ' H' s' := I1.call' os un hok bare (fun b z => absurd z (by simp))
    have F2 : Flies X.stack y C s1.heap H' s'.heap := F
    rw [hst] at F2
    obtain ⟨B, a0, fl, ex⟩ := F2.exact
    have nst : ∀ b : Addr, b ∉ frs X.stack → b ∉ frs (X.env :: X.outer) := fun b z => by rw [← hst]; exact z
    refine wpAny_looks_onW (I.ok.frames.trans (congrArg some hst)) hf fl fun h4 held4 up4 => ?_
    refine wpAny_landsW held4 fun h5 fl5 up5 => ?_
    have J5 : Inv { X with pn := X.pn ++ pins, xe := E1 } pins' σ' H' { s' with heap := h5 } := Inv.flown hex I1 I2 (fun b o e nb hb => fl5.1 _ _ (ex b o e (nst b nb) hb)) (up4.trans up5)
    obtain ⟨ob, hob, hobc⟩ := fl5.there
    obtain ⟨bm, N, nm, qn, bs, hdct, sn, sub, ab, col, dd, k0, k1, k2, k3, k5, hC, hbB, hmr⟩ := Exc.line hxc J5.kIn
    obtain ⟨bm', N', nm', qn', bs', hdct', sn', sub', ab', col', dd', l0, l1, l2, l3, l5, hC', hbB', hmr'⟩ := Exc.line O.ok J5.kIn
    have Jm : Inv (X.within y (X.pn ++ pins)) [] σ' H' { s' with heap := h5 } := J5.pinOut.goIn y _ fun p hp => J5.pin p (List.mem_append_left _ hp)
    refine wpAny_handleBy_cons (codeAny_handlers_test (ld_glob (X := X.within y (X.pn ++ pins)) Jm hg O.mg ?_ hd)) (by intro q; cases q)
    refine excMatches_own hC hC' hob hobc hbB' (hmr _ _ hmro) (codeAny_handlers_suite ?_)
    refine lands_againW fl5 fun h6 fl6 up6 => ?_
    have J6 : Inv { X with pn := X.pn ++ pins, xe := E1 } pins' σ' H' { s' with heap := h6 } := Inv.flown hex I1 I2 (fun b o e nb hb => fl6.1 _ _ (ex b o e (nst b nb) hb)) ((up4.trans up5).trans up6)
    have Jw : Inv (X.within y (X.pn ++ pins)) [] σ' H' { s' with heap := h6 } := J6.pinOut.goIn y _ fun p hp => J6.pin p (List.mem_append_left _ hp)
    have run := hs (X.pn ++ pins) y [] _ σ' H' D Jw (q σ' J6.len)
    refine wpAny_mono run (fun f s8 z => ?_) fun _ _ z => False.elim z
    have back : ∀ {σ2 : St} {H2 : Hp}, Inv (X.within y (X.pn ++ pins)) [] σ2 H2 s8 → Inv X pins σ2 H2 s8 := fun J => J.goOut I.ok fun p hp => hp
    cases f with
    | next =>
      obtain ⟨σ2, H2, J, q2⟩ := z
      exact ⟨σ2, H2, back J, q2⟩
    | brk =>
      obtain ⟨σ2, H2, J, q2⟩ := z
      exact ⟨σ2, H2, back J, q2⟩
    | cont =>
      obtain ⟨σ2, H2, J, q2⟩ := z
      exact ⟨σ2, H2, back J, q2⟩
    | ret u =>
      obtain ⟨v, σ2, H2, J, r, q2⟩ := z
      exact ⟨v, σ2, H2, back J, r, q2⟩
  have run := hb (X.pn ++ pins) E1 _ pass [] s σ H D (I.pinIn E1) h
  refine wpAny_mono run (fun f s1 z => ?_) fun e s1 z => z
  cases f with
  | next =>
    obtain ⟨σ2, H2, J, q2⟩ := z
    exact wpAny_execs_nil ⟨σ2, H2, J.pinOut, q2⟩
  | brk =>
    obtain ⟨σ2, H2, J, q2⟩ := z
    exact ⟨σ2, H2, J.pinOut, q2⟩
  | cont =>
    obtain ⟨σ2, H2, J, q2⟩ := z
    exact ⟨σ2, H2, J.pinOut, q2⟩
  | ret u =>
    obtain ⟨v, σ2, H2, J, r, q2⟩ := z
    exact ⟨v, σ2, H2, J.pinOut, r, q2⟩
end
end L2

set_option Elab.async false
set_option linter.all false
set_option maxRecDepth 100000
namespace L2
open PySem PySem.Spec PyProof.Rows

section
variable {prog : Program} {w : World} {A : Around} {E : Value → Shared → Prop} {s : Shared}
theorem call_tree_kw {id : String} {bf : Builtin} {us : List Value} {kw : List (Str × Value)} {Q : Value → Shared → Prop} (h1 : builtinKind id = none) (h2 : plainId id = true) (h3 : entryFor table id = some bf) (h4 : argsOk id ⟨us, kw⟩)
    (h : wpAny (model prog w) A.in1 (bf ⟨us, kw⟩) (fun fin t => match fin with
      | .done f => (match (Except.ok f : Result) with | .ok (.ret v) => Q v t | .ok _ => False | .error e => E e t)
      | .again c => c.quiet = true ∧ codeAny (model prog w) A c (fun r t => match r with | .ok (.ret v) => Q v t | .ok _ => False | .error e => E e t) t) E s) : wpAny (model prog w) A (call (.builtin id) us kw) Q E s := by
  refine wpAny_call (codeAny_call_builtin h2 h3 ?_)
  simp only [checkBuiltinCall, h1]
  cases z : Manifest.signature? id with
  | none => exact wpAny_pure h
  | some sig =>
    have e : Bind.checkArgs id sig ⟨us, kw⟩ = pure () := by simpa only [argsOk, z] using h4
    simp only [e]
    exact wpAny_pure h
end

/-! ### max with a default -/
section
variable {prog : Program} {w : World} {A : Around} {R : Result → Shared → Prop} {I : Addr} {fp wr : List Addr} {n : Nat} {P : Nat → Value → Prop} {St : Nat → Heap → Prop} {kw : List (Str × Value)}
theorem max_loop_kw (W : Walks prog w A.in1 I fp wr n P St) (bt : Nat → Nat → Bool) (hcmp : CmpOf prog w A.in1 .Gt P bt) (S : Addr) (hSf : S ∉ fp) :
    ∀ (k j : Nat) (s : Shared) (vb : Value) (c : Nat), n - (j + 1) = k → j + 1 ≤ n → St (j + 1) s.heap → P (argBest bt j) vb →
    s.heap.get? S = some { cls := .type "list", dict := none, data := .seq #[vb, vb] c, slots := #[] } →
    (∀ v h' tk, P (argBest bt (n - 1)) v → (∀ b o, b ∉ wr → b ≠ S → s.heap.get? b = some o → h'.get? b = some o) → R (.ok (.ret v)) { s with heap := h', toks := tk }) →
    codeAny (model prog w) A (.builtin "max.loop" ⟨[.ref I, .none, .ref S], kw⟩) R s := by
  have hSw : S ∉ wr := fun h => hSf (W.sub _ h)
  have hname : (toString "max" ++ toString ".loop" : String) = "max.loop" := by decide
  intro k
  induction k with
  | zero =>
    intro j s vb c hk hj hst hPb hS hR
    have hin : j + 1 = n := by omega
    refine codeAny_builtin F.entry_max_loop ?_
    rw [Around.under_plainId F.plain_max_loop _]
    show wpAny _ A.in1 (seqItems? (.ref S) >>= _) _ _ s
    refine wpAny_bind (wpAny_seqItems hS rfl ?_)
    show wpAny _ A.in1 (tryCatch (pyNext (.ref I)) _ >>= _) _ _ s
    refine wpAny_bind (wpAny_tryCatch (W.done s _ _ (hin ▸ hst) fun h' tk hk' => ?_))
    have hS' := hk' S _ hSw hS
    show wpAny _ A.in1 (updateSeq S (fun _ => #[]) >>= _) _ _ _
    refine wpAny_bind ?_
    refine wpAny_updateSeq hS' rfl (wpAny_bind (wpAny_letGo (wpAny_pure ?_)))
    refine hR vb _ tk (by rw [← hin]; exact hPb) fun b o hbw hbS e => (Heap.get?_update_other _ _ (Ne.symm hbS)).trans (hk' b o hbw e)
  | succ k ih =>
    intro j s vb c hk hj hst hPb hS hR
    have hlt : j + 1 < n := by omega
    refine codeAny_builtin F.entry_max_loop ?_
    rw [Around.under_plainId F.plain_max_loop _]
    show wpAny _ A.in1 (seqItems? (.ref S) >>= _) _ _ s
    refine wpAny_bind (wpAny_seqItems hS rfl ?_)
    show wpAny _ A.in1 (tryCatch (pyNext (.ref I)) _ >>= _) _ _ s
    refine wpAny_bind (wpAny_tryCatch (W.item (j + 1) s _ _ hlt hst fun v h' tk hP hst' hk' => ?_))
    have hS' := hk' S _ hSw hS
    show wpAny _ A.in1 (tryCatch (holding [v, v] (richCompare .Gt v vb >>= _)) _ >>= _) _ _ _
    refine wpAny_bind (wpAny_tryCatch (wpAny_holding (wpAny_bind (hcmp (j + 1) (argBest bt j) v vb _ _ _ hP hPb ?_))))
    refine wpAny_bind (wpAny_holding (wpAny_truthy_bool ?_))
    refine wpAny_bind (wpAny_letGo (wpAny_pure ?_))
    cases hb : bt (j + 1) (argBest bt j) with
    | true =>
      simp only [if_true]
      refine wpAny_bind ?_
      refine wpAny_updateSeq hS' rfl (wpAny_bind (wpAny_letGo ?_))
      rw [hname]
      refine wpAny_pure ⟨plainId_quiet F.plain_max_loop _, ih (j + 1) _ v _ (by omega) hlt (W.frame _ _ _ hst' fun b hbf o e => ?_) (by simp only [argBest, hb, if_true]; exact hP) (Heap.get?_update_self _ hS' rfl)
        fun v' h'' tk'' hP' hk'' => ?_⟩
      · exact (Heap.get?_update_other _ _ (fun h : S = b => hSf (by rw [h]; exact hbf))).trans e
      · exact hR v' h'' tk'' hP' fun b o hbw hbS e => hk'' b o hbw hbS ((Heap.get?_update_other _ _ (Ne.symm hbS)).trans (hk' b o hbw e))
    | false =>
      simp only [Bool.false_eq_true, if_false]
      refine wpAny_bind (wpAny_letGo ?_)
      rw [hname]
      refine wpAny_pure ⟨plainId_quiet F.plain_max_loop _, ih (j + 1) _ vb c (by omega) hlt hst' (by simp only [argBest, hb, Bool.false_eq_true, if_false]; exact hPb) hS' fun v' h'' tk'' hP' hk'' => ?_⟩
      exact hR v' h'' tk'' hP' fun b o hbw hbS e => hk'' b o hbw hbS (hk' b o hbw e)
theorem max_first_kw {d : Value} {q : Str} (W : Walks prog w A.in1 I fp wr n P St) (bt : Nat → Nat → Bool) (hcmp : CmpOf prog w A.in1 .Gt P bt) (S : Addr) (hSf : S ∉ fp) {s : Shared} {c : Nat} (hst : St 0 s.heap)
    (hS : s.heap.get? S = some { cls := .type "list", dict := none, data := .seq #[] c, slots := #[] })
    (hR : ∀ v h' tk, (0 < n → P (argBest bt (n - 1)) v) → (n = 0 → v = d) → (∀ b o, b ∉ wr → b ≠ S → s.heap.get? b = some o → h'.get? b = some o) → R (.ok (.ret v)) { s with heap := h', toks := tk }) :
    codeAny (model prog w) A (.builtin "max.loop" ⟨[.ref I, .none, .ref S], [(q, d)]⟩) R s := by
  have hSw : S ∉ wr := fun h => hSf (W.sub _ h)
  have hname : (toString "max" ++ toString ".loop" : String) = "max.loop" := by decide
  refine codeAny_builtin F.entry_max_loop ?_
  rw [Around.under_plainId F.plain_max_loop _]
  show wpAny _ A.in1 (seqItems? (.ref S) >>= _) _ _ s
  refine wpAny_bind (wpAny_seqItems hS rfl ?_)
  show wpAny _ A.in1 (tryCatch (pyNext (.ref I)) _ >>= _) _ _ s
  by_cases hn : 0 < n
  · refine wpAny_bind (wpAny_tryCatch (W.item 0 s _ _ hn hst fun v h' tk hP hst' hk' => ?_))
    have hS' := hk' S _ hSw hS
    show wpAny _ A.in1 (updateSeq S (fun _ => #[v, v]) >>= _) _ _ _
    refine wpAny_bind ?_
    refine wpAny_updateSeq hS' rfl ?_
    rw [hname]
    refine wpAny_pure ⟨plainId_quiet F.plain_max_loop _, max_loop_kw W bt hcmp S hSf _ 0 _ v _ rfl hn (W.frame _ _ _ hst' fun b hbf o e => ?_) hP (Heap.get?_update_self _ hS' rfl) fun v' h'' tk'' hP' hk'' => ?_⟩
    · exact (Heap.get?_update_other _ _ (fun h : S = b => hSf (by rw [h]; exact hbf))).trans e
    · exact hR v' h'' tk'' (fun _ => hP') (fun z => absurd hn (by omega)) fun b o hbw hbS e => hk'' b o hbw hbS ((Heap.get?_update_other _ _ (Ne.symm hbS)).trans (hk' b o hbw e))
  · have h0 : n = 0 := by omega
    refine wpAny_bind (wpAny_tryCatch (W.done s _ _ (h0 ▸ hst) fun h' tk hk' => ?_))
    refine wpAny_bind (wpAny_rule (wpAny_pure ?_))
    exact hR d h' tk (fun z => absurd z hn) (fun _ => rfl) fun b o hbw _ e => hk' b o hbw e
end
section
variable {prog : Program} {w : World} {A : Around} {E : Value → Shared → Prop} {s : Shared} {l : Addr} {xs : Array (Int × Tok)} {d : Value}
theorem args_max_default (a d : Value) : argsOk "max" ⟨[a], [(Str.ofString "default", d)]⟩ := by unfold argsOk; kernel_rfl
theorem max_intList_default {Q : Value → Shared → Prop} (hh : A.handled = none) (hl : s.heap.IsList l (intItems xs))
    (h : ∀ v h' tk, (0 < xs.size → (intItems xs)[argBest (fun i j => decide (numAt xs i > numAt xs j)) (xs.size - 1)]? = some v) → (xs.size = 0 → v = d) → (∀ b o, s.heap.get? b = some o → h'.get? b = some o) → Q v { s with heap := h', toks := tk }) :
    wpAny (model prog w) A (call (.builtin "max") [.ref l] [(Str.ofString "default", d)]) Q E s := by
  have hname : (toString "max" ++ toString ".loop" : String) = "max.loop" := by decide
  refine call_tree_kw F.kind_max F.plain_max F.entry_max (args_max_default _ _) ?_
  show wpAny _ A.in1 (Builtin.Builtins.bindParams "max" ["key", "default"] 0 ⟨[], [(Str.ofString "default", d)]⟩ >>= _) _ _ s
  refine wpAny_bind (wpAny_of_eq (show Builtin.Builtins.bindParams "max" ["key", "default"] 0 ⟨[], [(Str.ofString "default", d)]⟩ = pure [none, some d] from rfl) ?_)
  refine wpAny_bind (wpAny_pure ?_)
  refine wpAny_bind (iter_intList hl fun s₂ e st hfp hlI => ?_)
  subst e
  refine wpAny_bind (wpAny_newObj_type ?_)
  have W := Walks.list (prog := prog) (w := w) (A := A.in1) hh _ l hlI (intItems xs)
  rw [hname]
  refine wpAny_pure ⟨plainId_quiet F.plain_max_loop _, max_first_kw W (fun i j => decide (numAt xs i > numAt xs j)) (CmpOf.ints_gt (numAt xs) (fun _ _ => intItems_at)) _ (fun hm => Nat.lt_irrefl _ (hfp _ hm)) (W.frame _ _ _ st fun b _ o e => Heap.get?_push_of_some _ e) (Heap.get?_push_size _ rfl) fun v h' tk hP h0 hk => ?_⟩
  refine h v h' tk (fun z => ?_) (fun z => h0 (by simpa [intItems] using z)) (old_kept fun b o hbw e => hk b o hbw (Nat.ne_of_lt (Heap.lt_size e)) (Heap.get?_push_of_some _ e))
  have := hP (by simpa [intItems] using z)
  simpa [intItems] using this
end

/-! ### min with a default -/
section
variable {prog : Program} {w : World} {A : Around} {R : Result → Shared → Prop} {I : Addr} {fp wr : List Addr} {n : Nat} {P : Nat → Value → Prop} {St : Nat → Heap → Prop} {kw : List (Str × Value)}
theorem min_loop_kw (W : Walks prog w A.in1 I fp wr n P St) (bt : Nat → Nat → Bool) (hcmp : CmpOf prog w A.in1 .Lt P bt) (S : Addr) (hSf : S ∉ fp) :
    ∀ (k j : Nat) (s : Shared) (vb : Value) (c : Nat), n - (j + 1) = k → j + 1 ≤ n → St (j + 1) s.heap → P (argBest bt j) vb →
    s.heap.get? S = some { cls := .type "list", dict := none, data := .seq #[vb, vb] c, slots := #[] } →
    (∀ v h' tk, P (argBest bt (n - 1)) v → (∀ b o, b ∉ wr → b ≠ S → s.heap.get? b = some o → h'.get? b = some o) → R (.ok (.ret v)) { s with heap := h', toks := tk }) →
    codeAny (model prog w) A (.builtin "min.loop" ⟨[.ref I, .none, .ref S], kw⟩) R s := by
  have hSw : S ∉ wr := fun h => hSf (W.sub _ h)
  have hname : (toString "min" ++ toString ".loop" : String) = "min.loop" := by decide
  intro k
  induction k with
  | zero =>
    intro j s vb c hk hj hst hPb hS hR
    have hin : j + 1 = n := by omega
    refine codeAny_builtin F.entry_min_loop ?_
    rw [Around.under_plainId F.plain_min_loop _]
    show wpAny _ A.in1 (seqItems? (.ref S) >>= _) _ _ s
    refine wpAny_bind (wpAny_seqItems hS rfl ?_)
    show wpAny _ A.in1 (tryCatch (pyNext (.ref I)) _ >>= _) _ _ s
    refine wpAny_bind (wpAny_tryCatch (W.done s _ _ (hin ▸ hst) fun h' tk hk' => ?_))
    have hS' := hk' S _ hSw hS
    show wpAny _ A.in1 (updateSeq S (fun _ => #[]) >>= _) _ _ _
    refine wpAny_bind ?_
    refine wpAny_updateSeq hS' rfl (wpAny_bind (wpAny_letGo (wpAny_pure ?_)))
    refine hR vb _ tk (by rw [← hin]; exact hPb) fun b o hbw hbS e => (Heap.get?_update_other _ _ (Ne.symm hbS)).trans (hk' b o hbw e)
  | succ k ih =>
    intro j s vb c hk hj hst hPb hS hR
    have hlt : j + 1 < n := by omega
    refine codeAny_builtin F.entry_min_loop ?_
    rw [Around.under_plainId F.plain_min_loop _]
    show wpAny _ A.in1 (seqItems? (.ref S) >>= _) _ _ s
    refine wpAny_bind (wpAny_seqItems hS rfl ?_)
    show wpAny _ A.in1 (tryCatch (pyNext (.ref I)) _ >>= _) _ _ s
    refine wpAny_bind (wpAny_tryCatch (W.item (j + 1) s _ _ hlt hst fun v h' tk hP hst' hk' => ?_))
    have hS' := hk' S _ hSw hS
    show wpAny _ A.in1 (tryCatch (holding [v, v] (richCompare .Lt v vb >>= _)) _ >>= _) _ _ _
    refine wpAny_bind (wpAny_tryCatch (wpAny_holding (wpAny_bind (hcmp (j + 1) (argBest bt j) v vb _ _ _ hP hPb ?_))))
    refine wpAny_bind (wpAny_holding (wpAny_truthy_bool ?_))
    refine wpAny_bind (wpAny_letGo (wpAny_pure ?_))
    cases hb : bt (j + 1) (argBest bt j) with
    | true =>
      simp only [if_true]
      refine wpAny_bind ?_
      refine wpAny_updateSeq hS' rfl (wpAny_bind (wpAny_letGo ?_))
      rw [hname]
      refine wpAny_pure ⟨plainId_quiet F.plain_min_loop _, ih (j + 1) _ v _ (by omega) hlt (W.frame _ _ _ hst' fun b hbf o e => ?_) (by simp only [argBest, hb, if_true]; exact hP) (Heap.get?_update_self _ hS' rfl)
        fun v' h'' tk'' hP' hk'' => ?_⟩
      · exact (Heap.get?_update_other _ _ (fun h : S = b => hSf (by rw [h]; exact hbf))).trans e
      · exact hR v' h'' tk'' hP' fun b o hbw hbS e => hk'' b o hbw hbS ((Heap.get?_update_other _ _ (Ne.symm hbS)).trans (hk' b o hbw e))
    | false =>
      simp only [Bool.false_eq_true, if_false]
      refine wpAny_bind (wpAny_letGo ?_)
      rw [hname]
      refine wpAny_pure ⟨plainId_quiet F.plain_min_loop _, ih (j + 1) _ vb c (by omega) hlt hst' (by simp only [argBest, hb, Bool.false_eq_true, if_false]; exact hPb) hS' fun v' h'' tk'' hP' hk'' => ?_⟩
      exact hR v' h'' tk'' hP' fun b o hbw hbS e => hk'' b o hbw hbS (hk' b o hbw e)
theorem min_first_kw {d : Value} {q : Str} (W : Walks prog w A.in1 I fp wr n P St) (bt : Nat → Nat → Bool) (hcmp : CmpOf prog w A.in1 .Lt P bt) (S : Addr) (hSf : S ∉ fp) {s : Shared} {c : Nat} (hst : St 0 s.heap)
    (hS : s.heap.get? S = some { cls := .type "list", dict := none, data := .seq #[] c, slots := #[] })
    (hR : ∀ v h' tk, (0 < n → P (argBest bt (n - 1)) v) → (n = 0 → v = d) → (∀ b o, b ∉ wr → b ≠ S → s.heap.get? b = some o → h'.get? b = some o) → R (.ok (.ret v)) { s with heap := h', toks := tk }) :
    codeAny (model prog w) A (.builtin "min.loop" ⟨[.ref I, .none, .ref S], [(q, d)]⟩) R s := by
  have hSw : S ∉ wr := fun h => hSf (W.sub _ h)
  have hname : (toString "min" ++ toString ".loop" : String) = "min.loop" := by decide
  refine codeAny_builtin F.entry_min_loop ?_
  rw [Around.under_plainId F.plain_min_loop _]
  show wpAny _ A.in1 (seqItems? (.ref S) >>= _) _ _ s
  refine wpAny_bind (wpAny_seqItems hS rfl ?_)
  show wpAny _ A.in1 (tryCatch (pyNext (.ref I)) _ >>= _) _ _ s
  by_cases hn : 0 < n
  · refine wpAny_bind (wpAny_tryCatch (W.item 0 s _ _ hn hst fun v h' tk hP hst' hk' => ?_))
    have hS' := hk' S _ hSw hS
    show wpAny _ A.in1 (updateSeq S (fun _ => #[v, v]) >>= _) _ _ _
    refine wpAny_bind ?_
    refine wpAny_updateSeq hS' rfl ?_
    rw [hname]
    refine wpAny_pure ⟨plainId_quiet F.plain_min_loop _, min_loop_kw W bt hcmp S hSf _ 0 _ v _ rfl hn (W.frame _ _ _ hst' fun b hbf o e => ?_) hP (Heap.get?_update_self _ hS' rfl) fun v' h'' tk'' hP' hk'' => ?_⟩
    · exact (Heap.get?_update_other _ _ (fun h : S = b => hSf (by rw [h]; exact hbf))).trans e
    · exact hR v' h'' tk'' (fun _ => hP') (fun z => absurd hn (by omega)) fun b o hbw hbS e => hk'' b o hbw hbS ((Heap.get?_update_other _ _ (Ne.symm hbS)).trans (hk' b o hbw e))
  · have h0 : n = 0 := by omega
    refine wpAny_bind (wpAny_tryCatch (W.done s _ _ (h0 ▸ hst) fun h' tk hk' => ?_))
    refine wpAny_bind (wpAny_rule (wpAny_pure ?_))
    exact hR d h' tk (fun z => absurd z hn) (fun _ => rfl) fun b o hbw _ e => hk' b o hbw e
end
section
variable {prog : Program} {w : World} {A : Around} {E : Value → Shared → Prop} {s : Shared} {l : Addr} {xs : Array (Int × Tok)} {d : Value}
theorem args_min_default (a d : Value) : argsOk "min" ⟨[a], [(Str.ofString "default", d)]⟩ := by unfold argsOk; kernel_rfl
theorem min_intList_default {Q : Value → Shared → Prop} (hh : A.handled = none) (hl : s.heap.IsList l (intItems xs))
    (h : ∀ v h' tk, (0 < xs.size → (intItems xs)[argBest (fun i j => decide (numAt xs i < numAt xs j)) (xs.size - 1)]? = some v) → (xs.size = 0 → v = d) → (∀ b o, s.heap.get? b = some o → h'.get? b = some o) → Q v { s with heap := h', toks := tk }) :
    wpAny (model prog w) A (call (.builtin "min") [.ref l] [(Str.ofString "default", d)]) Q E s := by
  have hname : (toString "min" ++ toString ".loop" : String) = "min.loop" := by decide
  refine call_tree_kw F.kind_min F.plain_min F.entry_min (args_min_default _ _) ?_
  show wpAny _ A.in1 (Builtin.Builtins.bindParams "min" ["key", "default"] 0 ⟨[], [(Str.ofString "default", d)]⟩ >>= _) _ _ s
  refine wpAny_bind (wpAny_of_eq (show Builtin.Builtins.bindParams "min" ["key", "default"] 0 ⟨[], [(Str.ofString "default", d)]⟩ = pure [none, some d] from rfl) ?_)
  refine wpAny_bind (wpAny_pure ?_)
  refine wpAny_bind (iter_intList hl fun s₂ e st hfp hlI => ?_)
  subst e
  refine wpAny_bind (wpAny_newObj_type ?_)
  have W := Walks.list (prog := prog) (w := w) (A := A.in1) hh _ l hlI (intItems xs)
  rw [hname]
  refine wpAny_pure ⟨plainId_quiet F.plain_min_loop _, min_first_kw W (fun i j => decide (numAt xs i < numAt xs j)) (CmpOf.ints_lt (numAt xs) (fun _ _ => intItems_at)) _ (fun hm => Nat.lt_irrefl _ (hfp _ hm)) (W.frame _ _ _ st fun b _ o e => Heap.get?_push_of_some _ e) (Heap.get?_push_size _ rfl) fun v h' tk hP h0 hk => ?_⟩
  refine h v h' tk (fun z => ?_) (fun z => h0 (by simpa [intItems] using z)) (old_kept fun b o hbw e => hk b o hbw (Nat.ne_of_lt (Heap.lt_size e)) (Heap.get?_push_of_some _ e))
  have := hP (by simpa [intItems] using z)
  simpa [intItems] using this
end
end L2

set_option Elab.async false
set_option linter.all false
set_option maxRecDepth 100000
namespace L2
open PySem PySem.Spec PyProof.Rows
section
variable {X : Cx}
/-- a call of a built-in function with one keyword -/
def CallKR (X : Cx) (f : Value) (k : Str) (r : List V → V → Hp → VK → Prop) : Prop :=
  ∀ (pins : List (Addr × Obj)) (s : Shared) (σ : St) (H : Hp) (xs : List V) (us : List Value) (y : V) (u : Value) (Q : VK), Inv X pins σ H s → Vals xs us → RelV y u → r xs y H Q → wpAny (model X.prog X.w) X.A (call f us [(k, u)]) (EP X pins σ Q) X.xe s
theorem call_maxD (hc : X.calm = true) : CallKR X (.builtin "max") "default" (fun xs y H Q => ∃ p ns, xs = [.ref p] ∧ SqL X.K H p (ns.map V.int) ∧ (ns = [] → Q y H) ∧ ∀ m, m ∈ ns → (∀ a ∈ ns, a ≤ m) → Q (.int m) H) := by
  intro pins s σ H xs us y u Q I rv ru h
  obtain ⟨p, ns, rfl, hp, q0, q⟩ := h
  obtain ⟨u1, rfl, r⟩ := vals1 rv
  cases r
  obtain ⟨its, ri, pl, hz⟩ := I.list hp
  have hi := intsAre_of ri
  obtain ⟨xs, e⟩ := hi.allInts.items
  have hns : ns = xs.toList.map (·.1) := by rw [← hi.numsOf, ← nums_intItems, ← e]
  have hlen : ns.length = xs.size := by rw [hns, List.length_map, Array.length_toList]
  have pl' := pl.isList
  rw [e] at pl'
  refine max_intList_default (I.ok.hd hc) pl' fun v h' tk hv h0 k => ?_
  by_cases hsz : 0 < xs.size
  · obtain ⟨t, rfl⟩ := intItems_at (hv hsz)
    obtain ⟨h1, h2⟩ := argBest_gt (numAt xs) (xs.size - 1)
    refine ⟨.int _, H, I.kept k, ⟨t, rfl⟩, q _ ?_ fun a ha => ?_⟩
    · rw [hns, numAt_eq]
      exact getD_mem (by rw [List.length_map, Array.length_toList]; omega)
    · rw [hns] at ha
      obtain ⟨j, hj, rfl⟩ := mem_getD ha
      rw [List.length_map, Array.length_toList] at hj
      rw [← numAt_eq]
      exact h2 j (by omega)
  · obtain rfl := h0 (by omega)
    exact ⟨y, H, I.kept k, ru, q0 (List.length_eq_zero_iff.mp (by omega))⟩
theorem call_minD (hc : X.calm = true) : CallKR X (.builtin "min") "default" (fun xs y H Q => ∃ p ns, xs = [.ref p] ∧ SqL X.K H p (ns.map V.int) ∧ (ns = [] → Q y H) ∧ ∀ m, m ∈ ns → (∀ a ∈ ns, m ≤ a) → Q (.int m) H) := by
  intro pins s σ H xs us y u Q I rv ru h
  obtain ⟨p, ns, rfl, hp, q0, q⟩ := h
  obtain ⟨u1, rfl, r⟩ := vals1 rv
  cases r
  obtain ⟨its, ri, pl, hz⟩ := I.list hp
  have hi := intsAre_of ri
  obtain ⟨xs, e⟩ := hi.allInts.items
  have hns : ns = xs.toList.map (·.1) := by rw [← hi.numsOf, ← nums_intItems, ← e]
  have hlen : ns.length = xs.size := by rw [hns, List.length_map, Array.length_toList]
  have pl' := pl.isList
  rw [e] at pl'
  refine min_intList_default (I.ok.hd hc) pl' fun v h' tk hv h0 k => ?_
  by_cases hsz : 0 < xs.size
  · obtain ⟨t, rfl⟩ := intItems_at (hv hsz)
    obtain ⟨h1, h2⟩ := argBest_lt (numAt xs) (xs.size - 1)
    refine ⟨.int _, H, I.kept k, ⟨t, rfl⟩, q _ ?_ fun a ha => ?_⟩
    · rw [hns, numAt_eq]
      exact getD_mem (by rw [List.length_map, Array.length_toList]; omega)
    · rw [hns] at ha
      obtain ⟨j, hj, rfl⟩ := mem_getD ha
      rw [List.length_map, Array.length_toList] at hj
      rw [← numAt_eq]
      exact h2 j (by omega)
  · obtain rfl := h0 (by omega)
    exact ⟨y, H, I.kept k, ru, q0 (List.length_eq_zero_iff.mp (by omega))⟩
theorem call_min_list (hc : X.calm = true) : CallR X (.builtin "min") (fun xs H Q => ∃ p ns, xs = [.ref p] ∧ SqL X.K H p (ns.map V.int) ∧ ns ≠ [] ∧ ∀ m, m ∈ ns → (∀ a ∈ ns, m ≤ a) → Q (.int m) H) := by
  intro pins s σ H xs us Q I rv h
  obtain ⟨p, ns, rfl, hp, hne, q⟩ := h
  obtain ⟨u, rfl, r⟩ := vals1 rv
  cases r
  obtain ⟨its, ri, pl, hz⟩ := I.list hp
  have hi := intsAre_of ri
  have hpos : 0 < ns.length := List.length_pos_iff.mpr hne
  obtain ⟨xs, e⟩ := hi.allInts.items
  have hns : ns = xs.toList.map (·.1) := by rw [← hi.numsOf, ← nums_intItems, ← e]
  have hsz : 0 < xs.size := by
    rw [hns, List.length_map, Array.length_toList] at hpos
    exact hpos
  have pl' := pl.isList
  rw [e] at pl'
  refine min_intList (I.ok.hd hc) pl' hsz fun v h' tk hv k => ?_
  obtain ⟨t, rfl⟩ := intItems_at hv
  obtain ⟨h1, h2⟩ := argBest_lt (numAt xs) (xs.size - 1)
  refine ⟨.int _, H, I.kept k, ⟨t, rfl⟩, q _ ?_ fun a ha => ?_⟩
  · rw [hns, numAt_eq]
    exact getD_mem (by rw [List.length_map, Array.length_toList]; omega)
  · rw [hns] at ha
    obtain ⟨j, hj, rfl⟩ := mem_getD ha
    rw [List.length_map, Array.length_toList] at hj
    rw [← numAt_eq]
    exact h2 j (by omega)
end
section
variable {X : Cx} {K : PySem.W.Frag}
theorem minK (h : X.K = K) (hc : X.calm = true) : CallR X (.builtin "min") (fun xs H Q => ∃ p ns, xs = [.ref p] ∧ SqL K H p (ns.map V.int) ∧ ns ≠ [] ∧ ∀ m, m ∈ ns → (∀ a ∈ ns, m ≤ a) → Q (.int m) H) := h ▸ call_min_list hc
end
end L2

set_option Elab.async false
set_option linter.all false
set_option maxRecDepth 100000
namespace L2
open PySem PySem.Spec PyProof.Rows
/-! ### an exception that leaves its def: what was raised ahead of it stays as it is -/
section
variable {M : Model} {A : Around} {E : Value → Shared → Prop} {s : Shared}
/-- the third field of the exception at e -/
def Ctx (h : Heap) (e : Addr) (v : Value) : Prop := ∃ o vs, h.get? e = some o ∧ o.data = .fields vs ∧ vs[2]? = some v
theorem entryC {base : Heap} {env : Env} {outer : List Env} {L e : Addr} {oe : Obj} {vs : Array Value} {head a0 v2 : Value} {hadNext : Bool} {Q : Unit → Shared → Prop} (hfr : A.frames = some (env :: outer)) (hl : s.heap.FunFrames base (env :: outer)) (hf : env.frame = some L) (he : s.heap.get? e = some oe) (hkb : base.StaysIn s.heap) (hen : base.get? e = none) (hd : oe.data = .fields vs) (hsz : 1 < vs.size) (h0 : vs[0]? = some a0) (hv2 : vs[2]? = some v2)
    (h : ∀ h', Heap.LeftW base (env :: outer) e oe.cls a0 s.heap h' → Ctx h' e v2 → Q () { s with heap := h' }) : wpAny M A (do let a ← frameOf env; let pl ← entryPlaceOf L hadNext; let b ← EntryCells.newEntry head a .none (rawInt L) .none pl; setField (.ref e) 1 b) (fun _ s' => wpAny M A (setFlight (.ref e) none) Q E s') E s := by
  have hne : e ∉ (env :: outer).filterMap (·.frame) := fun hm => by
    obtain ⟨_, o, ho, hnf⟩ := hl.mem hm
    rw [he] at ho
    injection ho with ho
    subst ho
    exact hnf vs hd
  refine wpAny_bind (wpAny_frameOf_fun hfr hl hf fun g1 hs1 => ?_)
  refine wpAny_bind (wpAny_entryPlaceOf fun pl hpl => ?_)
  unfold EntryCells.newEntry newFields
  refine wpAny_bind (wpAny_newObj_type ?_ (hpl.sizeOk5 _ _ _ _ _))
  generalize htb : ({ cls := .type "traceback", dict := none, data := .fields ([head, .ref L, .none, rawInt L, .none] ++ (if pl.isEmpty then List.replicate 6 Value.none else pl)).toArray } : Obj) = tb
  have htd : ∃ ts : Array Value, tb.data = .fields ts ∧ 5 ≤ ts.size := by
    subst htb
    refine ⟨_, rfl, ?_⟩
    simp only [List.size_toArray, List.length_append, List.length_cons, List.length_nil]
    omega
  obtain ⟨ts, htd, hts⟩ := htd
  have he1 : g1.get? e = some oe := (hs1.2.1 e hne).trans he
  have kb1 : base.StaysIn g1 := fun b o hbo => (hs1.2.1 b fun hm => by rw [(hl.mem hm).1] at hbo; cases hbo).trans (hkb b o hbo)
  have he2 := Heap.get?_push_of_some (h := g1) tb he1
  refine wpAny_setField he2 hd hsz ?_
  have hTe : g1.objs.size ≠ e := Nat.ne_of_gt (Heap.lt_size he1)
  have hd3 := Obj.data_mapFields hd (·.setIfInBounds 1 (Value.ref g1.objs.size))
  have he3 := Heap.get?_update_self (Obj.mapFields (·.setIfInBounds 1 (Value.ref g1.objs.size))) he2 (Obj.isFreed_of_fields hd3)
  have hT3 := (Heap.get?_update_other (g1.push tb) (Obj.mapFields (·.setIfInBounds 1 (Value.ref g1.objs.size))) (Ne.symm hTe)).trans (Heap.get?_push_size g1 (Obj.isFreed_of_fields htd))
  unfold setFlight
  refine wpAny_bind (wpAny_field he3 hd3 (x := .ref g1.objs.size) (by simp [hsz]) ?_)
  rw [if_pos (show (Value.ref g1.objs.size != Value.none) = true from by simp)]
  have hd4 := Obj.data_mapFields htd (·.setIfInBounds 3 ((none : Option Addr).elim Value.none fun f => rawInt f))
  have keep : ∀ b o, b ≠ e → g1.get? b = some o → (((g1.push tb).update e (Obj.mapFields (·.setIfInBounds 1 (Value.ref g1.objs.size)))).update g1.objs.size (Obj.mapFields (·.setIfInBounds 3 ((none : Option Addr).elim Value.none fun f => rawInt f)))).get? b = some o := fun b o hbe hb => by
    rw [Heap.get?_update_other _ _ (Nat.ne_of_gt (Heap.lt_size hb)), Heap.get?_update_other _ _ (Ne.symm hbe)]
    exact Heap.get?_push_of_some _ hb
  have nrec : ∀ b o, s.heap.get? b = some o → (∀ vs, o.data ≠ .fields vs) → b ≠ e := fun b o hb hnf q => by
    rw [q, he] at hb
    injection hb with hb
    subst hb
    exact hnf vs hd
  have heF := (Heap.get?_update_other ((g1.push tb).update e (Obj.mapFields (·.setIfInBounds 1 (Value.ref g1.objs.size)))) (Obj.mapFields (·.setIfInBounds 3 ((none : Option Addr).elim Value.none fun f => rawInt f))) hTe).trans he3
  refine wpAny_setField hT3 htd (by omega) (h _ ⟨fun b o hbo => keep b o (fun q => by rw [q, hen] at hbo; cases hbo) (kb1 b o hbo), hl.of_keeps fun b o hb hnf => ?_, ?_, fun b o hb hnf => ?_⟩ ⟨_, _, heF, hd3, by rw [Array.getElem?_setIfInBounds_ne (by decide)]; exact hv2⟩)
  · obtain ⟨sl, hs⟩ := hs1.2.2 b o hb
    exact ⟨_, keep b _ (nrec b o hb hnf) hs, rfl⟩
  · refine ⟨_, _, g1.objs.size, _, _, heF, ⟨Obj.cls_mapFields _ _, by rw [Array.getElem?_setIfInBounds_ne (by decide)]; exact h0⟩, hd3, by simp [hsz], kb1.fresh, hTe, Heap.get?_update_self _ hT3 (Obj.isFreed_of_fields hd4), hd4, ?_⟩
    rw [Array.getElem?_setIfInBounds_self_of_lt (by omega)]
    rfl
  · obtain ⟨sl, hs⟩ := hs1.2.2 b o hb
    exact ⟨sl, keep b _ (nrec b o hb hnf) hs⟩
/-- an exception without a trace leaves its def: the exception ahead of it is told on -/
theorem leave_firstC {base : Heap} {env : Env} {outer : List Env} {L e : Addr} {oe : Obj} {vs : Array Value} {a0 v2 : Value} {Q : Unit → Shared → Prop} (hfr : A.frames = some (env :: outer)) (hl : s.heap.FunFrames base (env :: outer)) (hf : env.frame = some L) (he : s.heap.get? e = some oe) (hkb : base.StaysIn s.heap) (hen : base.get? e = none) (hd : oe.data = .fields vs) (h1 : vs[1]? = some .none) (h0 : vs[0]? = some a0) (hv2 : vs[2]? = some v2)
    (h : ∀ h', Heap.LeftW base (env :: outer) e oe.cls a0 s.heap h' → Ctx h' e v2 → Q () { s with heap := h' }) : wpAny M A (leaving env (.ref e)) Q E s := by
  unfold leaving noteFrame
  simp only [hf]
  refine wpAny_bind (wpAny_bind (wpAny_field he hd h1 ?_))
  rw [if_neg (by decide)]
  exact entryC hfr hl hf he hkb hen hd (Array.getElem?_eq_some_iff.mp h1).1 h0 hv2 h
end
end L2

set_option Elab.async false
set_option linter.all false
set_option maxRecDepth 100000
namespace L2
open PySem PySem.Spec PyProof.Rows
section
variable {M : Model} {A : Around} {E : Value → Shared → Prop} {s : Shared}
theorem leaves_madeC {base h : Heap} {env : Env} {outer : List Env} {L e : Addr} {cls : Value} {args : List Value} {Q : Unit → Shared → Prop} (hfr : A.frames = some (env :: outer)) (hf : env.frame = some L) (hkb : base.StaysIn h) (hl : h.FunFrames base (env :: outer)) (hx : Heap.MadeExcOf h s.heap e cls args)
    (hQ : ∀ h' t, Heap.FlyingW base outer e cls (.ref t) h' → s.heap.UpToSlots h' → Ctx h' e .none → Q () { s with heap := h' }) : wpAny M A (leaving env (.ref e)) Q E s := by
  obtain ⟨t, he, htn, ht⟩ := hx.there
  have fresh : ∀ b, h.get? b = none → base.get? b = none := fun b hb => by
    cases hq : base.get? b with
    | none => rfl
    | some o' =>
      have := hkb b o' hq
      rw [hb] at this
      cases this
  refine leave_firstC (a0 := .ref t) (v2 := .none) hfr (hl.of_keeps fun b o hb _ => ⟨o, hx.keeps b o hb, rfl⟩) hf he (fun b o hb => hx.keeps b o (hkb b o hb)) (fresh e hx.new) rfl rfl rfl rfl fun h' hL hc => ?_
  obtain ⟨k1, ⟨_, _, k2⟩, k3, k4⟩ := hL
  exact hQ h' t ⟨k1, fresh e hx.new, k2, k3⟩ k4 hc
end
/-- an exception has left a call, and none was raised ahead of it -/
def CX1C (P : Program) (w : World) : CXT := fun outer H s E e s' => CX1 P w outer H s E e s' ∧ ∃ x, e = .ref x ∧ Ctx s'.heap x .none
section
variable {P : Program} {w : World} {K : PySem.W.Frag} {mg : Str → Option Value} {base : Heap} {N : List Str} {qual : Str} {scope : Scope} {f : Addr} {cd : Value} {A : Around} {outer : List Env} {s : Shared} {H : Hp} {E E' : XK}
/-- an exception made in a def's body leaves it -/
theorem throw1C (hE : ∀ c d H', E' c d H' → E c d H') : Throws (cxOf (CX1C P w) P w K mg base N qual scope f cd A outer s H E) E' := by
  intro pins σ H1 s1 h1 x C vs I hx q
  have I' : Inv (cxOf (CX1C P w) P w K mg base N qual scope f cd A outer s H E) pins σ H1 { s1 with heap := h1 } := I.kept (t' := s1.toks) hx.keeps
  have hin : ∀ env ∈ (cxOf (CX1C P w) P w K mg base N qual scope f cd A outer s H E).stack, ∀ b, env.frame = some b → b ∈ frs (cxOf (CX1C P w) P w K mg base N qual scope f cd A outer s H E).stack := fun env he b hb => List.mem_filterMap.mpr ⟨env, he, hb⟩
  have trk : ∀ b o, H1 b = some o → ∃ o', s1.heap.get? b = some o' := fun b o e => by
    have := I.hok b o e
    cases q : s1.heap.get? b with
    | some o' => exact ⟨o', rfl⟩
    | none =>
      exfalso
      cases o with
      | lst xs => obtain ⟨_, _, _, _, z⟩ := this; rw [q] at z; cases z
      | tup xs => obtain ⟨_, _, _, _, z, _⟩ := this; rw [q] at z; cases z
      | dK kvs => obtain ⟨_, _, _, _, _, _, _, z, _⟩ := this; rw [q] at z; cases z
      | dT kvs => obtain ⟨_, _, _, _, _, _, _, z, _⟩ := this; rw [q] at z; cases z
      | set S n => obtain ⟨_, _, _, _, z, _⟩ := this; rw [q] at z; cases z
      | ins C dx fs => obtain ⟨_, _, _, z, _⟩ := this; rw [q] at z; cases z
      | own y => obtain ⟨_, z⟩ := this; rw [q] at z; cases z
      | xd fs => obtain ⟨_, ⟨_, _, _, z, _⟩, _⟩ := this; rw [q] at z; cases z
      | rng lo hi => obtain ⟨_, _, _, z⟩ := this; rw [q] at z; cases z
      | frz ob u => obtain ⟨z, _⟩ := this; rw [q] at z; cases z
      | tbl ps => rw [show s1.heap.get? b = some _ from this] at q; cases q
      | met f y => rw [show s1.heap.get? b = some _ from this] at q; cases q
      | ext φ => obtain ⟨_, ⟨_, z⟩, _⟩ := this; rw [q] at z; cases z
  refine leaves_madeC (base := PySem.W.hideAll s1.heap (frs (cxOf (CX1C P w) P w K mg base N qual scope f cd A outer s H E).stack)) I.ok.frames rfl (fun b o z => PySem.W.of_hideAll _ z) (PySem.W.funFrames_hide I.stack hin) hx fun h2 t fl up hctx => ?_
  have keep : ∀ b o, h1.get? b = some o → b ∉ frs (cxOf (CX1C P w) P w K mg base N qual scope f cd A outer s H E).stack → ((∃ o', s1.heap.get? b = some o') ∨ ∃ o', H1 b = some o') → (PySem.W.hideAll s1.heap (frs (cxOf (CX1C P w) P w K mg base N qual scope f cd A outer s H E).stack)).get? b = some o := fun b o e nb hb => by
    have : ∃ o', s1.heap.get? b = some o' := by
      rcases hb with z | ⟨_, z⟩
      · exact z
      · exact trk b _ z
    obtain ⟨o', e'⟩ := this
    have := hx.keeps b o' e'
    rw [e] at this
    cases this
    exact PySem.W.hideAll_get _ e' nb
  have J := Inv.flown rfl I I' (fun b o e nb hb => fl.1 _ _ (keep b o e nb hb)) up
  refine ⟨⟨x, C, H1, rfl, J.os, J.bare, J.base, J.hok, ⟨_, _, fl, fun b o e nb => ?_, fun b o e => ?_⟩, hE _ _ _ q⟩, x, rfl, hctx⟩
  · obtain ⟨o1, e1⟩ := I.base.there b o e (fun z => absurd (show b ∈ ([] : List Addr) from z) (by simp))
    refine ⟨o1, PySem.W.hideAll_get _ e1 fun z => ?_⟩
    rcases List.mem_cons.mp (I.stkSub b z) with y | y
    · have := Nat.lt_of_lt_of_le (Heap.lt_size e) I.ok.above
      rw [y] at this
      exact Nat.lt_irrefl _ this
    · exact nb y
  · obtain ⟨o', e'⟩ := trk b o e
    exact ⟨o', PySem.W.hideAll_get _ e' fun z => by rw [I.stkFree b z] at e; cases e⟩
end
/-- a def that may raise, nothing ahead, by its name -/
structure FnXC (P : Program) (w : World) (K : PySem.W.Frag) (mg : Str → Option Value) (base : Heap) (x : Str) (ps : List Str) (k : Nat) (sp : Sp) : Prop where
  ex : ∃ f fd, FnOk P w K mg base (CX1C P w) k f fd ps sp ∧ mg x = some (.ref f) ∧ PySem.W.keepIn K (.ref f) = true ∧ Binds K fd ps []
section
variable {X : Cx} {E : XK} {x : Str} {ps : List Str} {k : Nat} {sp : Sp} {p pos : Pos} {e : Expr} {es : List Expr} {t : TA}
theorem pe_fnXC (F : FnXC X.prog X.w X.K X.mg X.base x ps k sp) (hx : Passes (CX1C X.prog X.w) X E) (hr : Room k X.A) (ha : PA X (e :: es) t) (hg : Gl X x := by exact gl_of (by kernel_rfl)) (hdb : (x == ("__debug__" : Str)) = false := by decide)
    (he : starEach (e :: es) X.env = (false, eval e X.env) :: starEach es X.env := by rfl) (hpl : (backTo pos (starEach es X.env)).any (·.1) = false := by rfl) : PE X (.Call (.Name x p) (e :: es) [] pos) (tCall sp [] E t) := by
  obtain ⟨f, fd, h1, h2, h3, h4⟩ := F.ex
  exact pe_call h1 hr hg h2 h3 h4 .nil hx ha hdb he hpl
end
section
variable {P : Program} {w : World} {K : PySem.W.Frag} {mg : Str → Option Value} {base : Heap}
theorem Fun.okC {x qual : Str} {st : Stmt} {f : Addr} {fd : FuncData} {N ps : List Str} {k : Nat} {sp : Sp} (F : Fun K x qual st f fd) (S : FnScope N ps (defScope st)) (len : ∀ vs H Q E, sp vs H Q E → vs.length = ps.length)
    (hbody : ∀ (cdv : Value) (A : Around) (outer : List Env) (s : Shared) (H : Hp) (vs : List V) (Q : VK) (E : XK), Room k (A.deeper (envOfC qual (defScope st) s.heap.objs.size f cdv)) → sp vs H Q E →
      ∃ t, PSs (cxOf (CX1C P w) P w K mg base N qual (defScope st) f cdv A outer s H E) (defBody st) t ∧ t { nx := fun _ H' => Q .non H', rt := Q } (start N vs) H) : FnOk P w K mg base (CX1C P w) (k + 1) f fd ps sp := by
  obtain ⟨oc, od, kV, doc, pm, an, cdv, ct, osl, rfl, lk, hcd⟩ := F.ex
  exact fn_of lk hcd S len fun A outer s H vs Q E hr hsp => hbody cdv A outer s H vs Q E hr hsp
end
end L2

set_option Elab.async false
set_option linter.all false
set_option maxRecDepth 100000
namespace L2
open PySem PySem.Spec PyProof.Rows
section
variable {M : Model} {A : Around} {E : Value → Shared → Prop} {env : Env}
/-- the exception made anew while y is handled -/
def excNow (C t y : Addr) : Obj := { cls := .ref C, data := .fields #[.ref t, .none, .ref y, .none, .bool true, .none] }
theorem unchain_none {prog : Program} {w : World} {s : Shared} {e y : Addr} {Q : Value → Shared → Prop} (hy : Ctx s.heap y .none) (h : Q .none s) : wpAny (model prog w) A (runValue (.builtin "proto.unchain" ⟨[.ref e, .ref y, .ref y, .bool false], []⟩)) Q E s := by
  have en : entryFor table "proto.unchain" = some Builtin.«proto.unchain» := entryFor_of_fast (by kernel_rfl)
  obtain ⟨o, vs, ho, hd, h2⟩ := hy
  refine wpAny_runValue (codeAny_builtin en ?_)
  unfold Builtin.«proto.unchain»
  refine wpAny_bind (wpAny_field ho hd h2 ?_)
  rw [if_pos (by rfl)]
  exact wpAny_pure h
theorem raiseNew_some {prog : Program} {w : World} {α : Type} {s : Shared} {e y : Addr} {vs : Array Value} {oe : Obj} {Q : α → Shared → Prop} (hh : A.handled = some (.ref y)) (hne : y ≠ e) (hy : Ctx s.heap y .none) (he : s.heap.get? e = some oe) (hd : oe.data = .fields vs) (hsz : 2 < vs.size)
    (h : E (.ref e) { s with heap := s.heap.update e (Obj.mapFields (·.setIfInBounds 2 (.ref y))) }) : wpAny (model prog w) A (raiseNew (.ref e) : Sem α) Q E s := by
  unfold raiseNew
  refine wpAny_bind (wpAny_handled ?_)
  rw [hh]
  dsimp only
  rw [if_pos (by simpa using hne)]
  refine wpAny_bind (wpAny_holding (unchain_none hy ?_))
  refine wpAny_bind ?_
  show wpAny _ _ (setField (.ref e) 2 (.ref y)) _ _ s
  exact wpAny_setField he hd hsz (wpAny_throw h)
section
variable {nm q : Str} {C N : Addr} {bs bm : List Value} {hdct : Bool} {sn : List Str} {sub : List Value} {ab : Bool} {col : Option Bool} {dd : Option Addr} {k0 k1 k2 k3 k5 : Option Value} {newId : String}
theorem exc_self {hp : Heap} {g : Array GenState} {d : Drawn} {tk : Nat} {os : OsState} {e : Addr} {vs : Array Value} {msg : String} {Q : Value → Shared → Prop} (hbase : bm.contains (.type "BaseException") = true) (hC : hp.get? C = some (excClassObj nm q C N bs bm hdct sn sub ab col dd k0 k1 k2 k3 k5 newId)) (he : hp.get? e = some { cls := .ref C, data := .fields vs })
    (h : Q (.ref e) ⟨hp, g, d, tk, os⟩) : wpAny M A (excFromValue (.ref e) msg) Q E ⟨hp, g, d, tk, os⟩ := by
  have hcB : (Value.ref C :: bm).contains (.type "BaseException") = true := by rw [List.contains_cons, hbase, Bool.or_true]
  unfold excFromValue
  repeat (first | exact h | with_reducible refine wpAny_loadPart_at he ?_ | with_reducible refine wpAny_loadPart_at hC ?_ | (with_reducible refine wpAny_isSubtype_exc hC ?_; rw [hcB]) | wp_step)
theorem exc_fly {hp : Heap} {g : Array GenState} {d : Drawn} {tk : Nat} {os : OsState} {e : Addr} {vs : Array Value} {Q : Flow → Shared → Prop} (hbase : bm.contains (.type "BaseException") = true) (hC : hp.get? C = some (excClassObj nm q C N bs bm hdct sn sub ab col dd k0 k1 k2 k3 k5 newId)) (he : hp.get? e = some { cls := .ref C, data := .fields vs }) (h1 : vs[1]? = some .none)
    (h : wpAny M A (raiseNew (.ref e) : Sem Flow) Q E ⟨hp, g, d, tk, os⟩) : wpAny M A (isType (Value.ref e) >>= fun b => if b = true then (holding [.ref e] (raisedFor (Value.ref e) (.ref e)) >>= fun e => setFlight e none >>= fun _ => raiseNew e) else (raisedInstance (.ref e) >>= fun e => setFlight e none >>= fun _ => raiseNew e) : Sem Flow) Q E ⟨hp, g, d, tk, os⟩ := by
  have hcB : (Value.ref C :: bm).contains (.type "BaseException") = true := by rw [List.contains_cons, hbase, Bool.or_true]
  have hfl : ∀ Q' : Unit → Shared → Prop, Q' () ⟨hp, g, d, tk, os⟩ → wpAny M A (setFlight (.ref e) none) Q' E ⟨hp, g, d, tk, os⟩ := fun Q' hq => by
    unfold setFlight
    refine wpAny_bind (wpAny_field he rfl h1 ?_)
    rw [if_neg (by decide)]
    exact wpAny_pure hq
  repeat (first | exact h | (with_reducible refine hfl _ ?_) | with_reducible refine wpAny_loadPart_at he ?_ | with_reducible refine wpAny_loadPart_at hC ?_ | (with_reducible refine wpAny_isSubtype_exc hC ?_; rw [hcB]) | wp_step)
theorem raiseStmt_fromNone {prog : Program} {w : World} {s : Shared} {x c : Sem Value} {y : Addr} {Q : Flow → Shared → Prop} (hbase : bm.contains (.type "BaseException") = true) (hh : A.handled = some (.ref y))
    (h : wpAny (model prog w) A x (fun v s₁ => ∃ e t, v = .ref e ∧ s₁.heap.get? C = some (excClassObj nm q C N bs bm hdct sn sub ab col dd k0 k1 k2 k3 k5 newId) ∧ s₁.heap.get? e = some { cls := .ref C, data := .fields #[.ref t, .none, .none, .none, .bool false, .none] } ∧ y ≠ e ∧ Ctx s₁.heap y .none ∧
      (∀ Q' : Value → Shared → Prop, Q' .none s₁ → wpAny (model prog w) A c Q' E s₁) ∧ ∀ h', (∀ b o, b ≠ e → s₁.heap.get? b = some o → h'.get? b = some o) → h'.get? e = some (excNow C t y) → E (.ref e) { s₁ with heap := h' }) E s) : wpAny (model prog w) A (raiseStmt env (some x) (some c)) Q E s := by
  unfold raiseStmt
  refine wpAny_bind (wpAny_mono h (fun v s₁ h₁ => ?_) fun _ _ x => x)
  obtain ⟨e, t, rfl, hC, he, hne, hy, hc, hE⟩ := h₁
  refine wpAny_bind (wpAny_holding (hc _ (wpAny_bind (wpAny_pure ?_))))
  obtain ⟨hp, g, d, tk, os⟩ := s₁
  have nCe : C ≠ e := fun z => by rw [z, he] at hC; cases hC
  refine wpAny_bind (wpAny_holding (exc_self hbase hC he ?_))
  show wpAny _ _ (setField (.ref e) 3 .none >>= fun _ => setField (.ref e) 4 (.bool true) >>= fun _ => isType (Value.ref e) >>= fun b => if b = true then (holding [.ref e] (raisedFor (Value.ref e) (.ref e)) >>= fun e => setFlight e none >>= fun _ => raiseNew e) else (raisedInstance (.ref e) >>= fun e => setFlight e none >>= fun _ => raiseNew e) : Sem Flow) _ _ _
  refine wpAny_bind (wpAny_setField he rfl (by show 3 < 6; decide) ?_)
  have he1 : (hp.update e (Obj.mapFields (·.setIfInBounds 3 .none))).get? e = some { cls := .ref C, data := .fields #[.ref t, .none, .none, .none, .bool false, .none] } := by
    rw [Heap.get?_update_self _ he rfl]
    rfl
  refine wpAny_bind (wpAny_setField he1 rfl (by show 4 < 6; decide) ?_)
  have he2 : ((hp.update e (Obj.mapFields (·.setIfInBounds 3 .none))).update e (Obj.mapFields (·.setIfInBounds 4 (.bool true)))).get? e = some { cls := .ref C, data := .fields #[.ref t, .none, .none, .none, .bool true, .none] } := by
    rw [Heap.get?_update_self _ he1 rfl]
    rfl
  have oth : ∀ b o, b ≠ e → hp.get? b = some o → ((hp.update e (Obj.mapFields (·.setIfInBounds 3 .none))).update e (Obj.mapFields (·.setIfInBounds 4 (.bool true)))).get? b = some o := fun b o hb ho => by
    rw [Heap.get?_update_other _ _ (Ne.symm hb), Heap.get?_update_other _ _ (Ne.symm hb)]
    exact ho
  refine exc_fly hbase (oth C _ nCe hC) he2 rfl ?_
  obtain ⟨oy, vy, hy1, hy2, hy3⟩ := hy
  refine raiseNew_some hh hne ⟨oy, vy, oth y _ hne hy1, hy2, hy3⟩ he2 rfl (by show 2 < 6; decide) ?_
  refine hE _ (fun b o hb ho => ?_) ?_
  · rw [Heap.get?_update_other _ _ (Ne.symm hb)]
    exact oth b o hb ho
  · rw [Heap.get?_update_self _ he2 rfl]
    rfl
end
end
end L2

set_option Elab.async false
set_option linter.all false
set_option maxRecDepth 100000
namespace L2
open PySem PySem.Spec PyProof.Rows
section
variable {M : Model} {A : Around} {E : Value → Shared → Prop} {s : Shared}
theorem leavesW {base h : Heap} {env : Env} {outer : List Env} {L e : Addr} {o : Obj} {vs : Array Value} {a0 : Value} {Q : Unit → Shared → Prop} (hfr : A.frames = some (env :: outer)) (hf : env.frame = some L) (hkb : base.StaysIn h) (hl : h.FunFrames base (env :: outer)) (kp : ∀ b o, h.get? b = some o → s.heap.get? b = some o) (new : h.get? e = none) (he : s.heap.get? e = some o) (hd : o.data = .fields vs) (h1 : vs[1]? = some .none) (h0 : vs[0]? = some a0)
    (hQ : ∀ h', Heap.FlyingW base outer e o.cls a0 h' → s.heap.UpToSlots h' → Q () { s with heap := h' }) : wpAny M A (leaving env (.ref e)) Q E s := by
  have fresh : ∀ b, h.get? b = none → base.get? b = none := fun b hb => by
    cases hq : base.get? b with
    | none => rfl
    | some o' =>
      have := hkb b o' hq
      rw [hb] at this
      cases this
  refine wpAny_leaving_firstW (a0 := a0) hfr (hl.of_keeps fun b o hb _ => ⟨o, kp b o hb, rfl⟩) hf he (fun b o hb => kp b o (hkb b o hb)) (fresh e new) hd h1 h0 fun h' hL => ?_
  obtain ⟨k1, ⟨_, _, k2⟩, k3, k4⟩ := hL
  exact hQ h' ⟨k1, fresh e new, k2, k3⟩ k4
end
/-- an exception made in an except suite -/
def ThrowsW (X : Cx) (E : XK) : Prop := ∀ (pins : List (Addr × Obj)) (σ : St) (H : Hp) (s : Shared) (h' : Heap) (x C : Addr) (ob : Obj) (vs : Array Value) (a0 : Value), Inv X pins σ H s → (∀ b o, s.heap.get? b = some o → h'.get? b = some o) → s.heap.get? x = none → h'.get? x = some ob → ob.cls = .ref C → ob.data = .fields vs → vs[0]? = some a0 → vs[1]? = some .none → E (.ref C) none H → X.xe (.ref x) { s with heap := h' }
section
variable {P : Program} {w : World} {K : PySem.W.Frag} {mg : Str → Option Value} {base : Heap} {N : List Str} {qual : Str} {scope : Scope} {f : Addr} {cd : Value} {A : Around} {outer : List Env} {s : Shared} {H : Hp} {E E' : XK}
/-- an exception made in an except suite leaves the def -/
theorem throwW (hE : ∀ c d H', E' c d H' → E c d H') : ThrowsW (cxOf (CX1 P w) P w K mg base N qual scope f cd A outer s H E) E' := by
  intro pins σ H1 s1 h1 x C ob vs a0 I kp hnew hob hcl hd h0 h1n q
  have I' : Inv (cxOf (CX1 P w) P w K mg base N qual scope f cd A outer s H E) pins σ H1 { s1 with heap := h1 } := I.kept (t' := s1.toks) kp
  have hin : ∀ env ∈ (cxOf (CX1 P w) P w K mg base N qual scope f cd A outer s H E).stack, ∀ b, env.frame = some b → b ∈ frs (cxOf (CX1 P w) P w K mg base N qual scope f cd A outer s H E).stack := fun env he b hb => List.mem_filterMap.mpr ⟨env, he, hb⟩
  have trk : ∀ b o, H1 b = some o → ∃ o', s1.heap.get? b = some o' := fun b o e => by
    have := I.hok b o e
    cases q : s1.heap.get? b with
    | some o' => exact ⟨o', rfl⟩
    | none =>
      exfalso
      cases o with
      | lst xs => obtain ⟨_, _, _, _, z⟩ := this; rw [q] at z; cases z
      | tup xs => obtain ⟨_, _, _, _, z, _⟩ := this; rw [q] at z; cases z
      | dK kvs => obtain ⟨_, _, _, _, _, _, _, z, _⟩ := this; rw [q] at z; cases z
      | dT kvs => obtain ⟨_, _, _, _, _, _, _, z, _⟩ := this; rw [q] at z; cases z
      | set S n => obtain ⟨_, _, _, _, z, _⟩ := this; rw [q] at z; cases z
      | ins C dx fs => obtain ⟨_, _, _, z, _⟩ := this; rw [q] at z; cases z
      | own y => obtain ⟨_, z⟩ := this; rw [q] at z; cases z
      | xd fs => obtain ⟨_, ⟨_, _, _, z, _⟩, _⟩ := this; rw [q] at z; cases z
      | rng lo hi => obtain ⟨_, _, _, z⟩ := this; rw [q] at z; cases z
      | frz ob u => obtain ⟨z, _⟩ := this; rw [q] at z; cases z
      | tbl ps => rw [show s1.heap.get? b = some _ from this] at q; cases q
      | met f y => rw [show s1.heap.get? b = some _ from this] at q; cases q
      | ext φ => obtain ⟨_, ⟨_, z⟩, _⟩ := this; rw [q] at z; cases z
  refine leavesW (base := PySem.W.hideAll s1.heap (frs (cxOf (CX1 P w) P w K mg base N qual scope f cd A outer s H E).stack)) I.ok.frames rfl (fun b o z => PySem.W.of_hideAll _ z) (PySem.W.funFrames_hide I.stack hin) kp hnew hob hd h1n h0 fun h2 fl up => ?_
  have keep : ∀ b o, h1.get? b = some o → b ∉ frs (cxOf (CX1 P w) P w K mg base N qual scope f cd A outer s H E).stack → ((∃ o', s1.heap.get? b = some o') ∨ ∃ o', H1 b = some o') → (PySem.W.hideAll s1.heap (frs (cxOf (CX1 P w) P w K mg base N qual scope f cd A outer s H E).stack)).get? b = some o := fun b o e nb hb => by
    have : ∃ o', s1.heap.get? b = some o' := by
      rcases hb with z | ⟨_, z⟩
      · exact z
      · exact trk b _ z
    obtain ⟨o', e'⟩ := this
    have := kp b o' e'
    rw [e] at this
    cases this
    exact PySem.W.hideAll_get _ e' nb
  have J := Inv.flown rfl I I' (fun b o e nb hb => fl.1 _ _ (keep b o e nb hb)) up
  rw [hcl] at fl
  refine cx1_end J fl (fun b o e nb => ?_) (fun b o e => ?_) (hE _ _ _ q)
  · obtain ⟨o1, e1⟩ := I.base.there b o e (fun z => absurd (show b ∈ ([] : List Addr) from z) (by simp))
    refine ⟨o1, PySem.W.hideAll_get _ e1 fun z => ?_⟩
    rcases List.mem_cons.mp (I.stkSub b z) with y | y
    · have := Nat.lt_of_lt_of_le (Heap.lt_size e) I.ok.above
      rw [y] at this
      exact Nat.lt_irrefl _ this
    · exact nb y
  · obtain ⟨o', e'⟩ := trk b o e
    exact ⟨o', PySem.W.hideAll_get _ e' fun z => by rw [I.stkFree b z] at e; cases e⟩
end
section
variable {prog : Program} {w : World} {A : Around} {E : Value → Shared → Prop} {s : Shared} {env : Env}
variable {nm q : Str} {C N : Addr} {bs bm bmB : List Value} {hdct : Bool} {sn : List Str} {sub : List Value} {ab : Bool} {col : Option Bool} {dd : Option Addr} {k0 k1 k2 k3 k5 : Option Value} {B newId initId : String}
theorem raise_callNone (F : ExcBaseFacts B newId initId bmB) {mN : Str → Option Value} {x : Str} {np cpos cp pos : Pos} {j : Nat} {args : List Expr} {y : Addr} {Q : Flow → Shared → Prop} (hbase : bm.contains (.type "BaseException") = true) (hh : A.handled = some (.ref y)) (hplain : (backTo cpos (starEach args env)).any (·.1) = false) (hni : mN "__init__" = none)
    (h : wpAny (model prog w) A (eval (.Name x np) env) (fun f s₁ => f = .ref C ∧ wpAny (model prog w) A (evalArgs (.ref C) true (backTo cpos (starEach args env)) [])
      (fun a s₂ => a.kw = [] ∧ a.pos.length ≤ sizeLine ∧ s₂.heap.get? C = some (excClassObj nm q C N bs bm hdct sn sub ab col dd k0 k1 k2 k3 k5 newId) ∧ s₂.heap.Ns N mN ∧ OwnTail s₂.heap bmB bm ∧ Ctx s₂.heap y .none ∧
        ∀ h' e t, (∀ b o, s₂.heap.get? b = some o → h'.get? b = some o) → s₂.heap.get? e = none → h'.get? e = some (excNow C t y) → E (.ref e) { s₂ with heap := h' }) E s₁) E s) : wpAny (model prog w) A (exec (.Raise (some (.Call (.Name x np) args [] cpos)) (some (.Constant .none j cp)) pos) env) Q E s := by
  rw [arm_exec_Raise]
  refine wpAny_bind (wpAny_standAt ?_)
  show wpAny _ _ (raiseStmt env (some (do let v ← eval (.Call (.Name x np) args [] cpos) env; standAt pos; pure v)) (some (do let v ← eval (.Constant .none j cp) env; standAt pos; pure v))) _ _ _
  refine raiseStmt_fromNone (C := C) (nm := nm) (q := q) (N := N) (bs := bs) (bm := bm) (hdct := hdct) (sn := sn) (sub := sub) (ab := ab) (col := col) (dd := dd) (k0 := k0) (k1 := k1) (k2 := k2) (k3 := k3) (k5 := k5) (newId := newId) hbase hh (wpAny_bind (wpAny_mono (wpAny_Call_ofName (wpAny_mono h (fun f s₁ h₁ => ?_) fun _ _ x => x)) (fun v s₃ h₃ => wpAny_bind (wpAny_standAt (wpAny_pure h₃))) fun _ _ x => x))
  obtain ⟨rfl, h₁⟩ := h₁
  unfold callWith
  refine wpAny_bind (wpAny_holding (wpAny_mono h₁ (fun a s₂ h₂ => wpAny_bind (wpAny_standAt ?_)) fun _ _ x => x))
  obtain ⟨apos, akw⟩ := a
  obtain ⟨hkw, hlen, hC, hn, T, hy, h₂⟩ := h₂
  obtain rfl : akw = [] := hkw
  obtain ⟨hp, g, d, tk, os⟩ := s₂
  simp only [hplain]
  refine wpAny_bind (wpAny_keeperOf_exc hC ?_)
  refine wpAny_bind (wpAny_call_exc_subT (hrest := hlen) F T hC hn hni fun h' e hm => wpAny_bind (wpAny_holding (wpAny_point (wpAny_pure ?_))))
  obtain ⟨t, ht, _, _⟩ := hm.there
  obtain ⟨oy, vy, hy1, hy2, hy3⟩ := hy
  have hye : y ≠ e := fun z => by
    have := hm.new
    rw [← z] at this
    rw [show hp.get? y = some oy from hy1] at this
    cases this
  refine ⟨e, t, rfl, hm.keeps _ _ hC, ht, hye, ⟨oy, vy, hm.keeps _ _ hy1, hy2, hy3⟩, fun Q' hq => wpAny_bind (Constant_none (wpAny_bind (wpAny_standAt (wpAny_pure hq)))), fun h2 k2 he2 => h₂ h2 e t (fun b o hb => k2 b o (fun z => ?_) (hm.keeps b o hb)) hm.new he2⟩
  have := hm.new
  rw [← z] at this
  rw [show hp.get? b = some o from hb] at this
  cases this
end
end L2

set_option Elab.async false
set_option linter.all false
set_option maxRecDepth 100000
namespace L2
open PySem PySem.Spec PyProof.Rows
section
variable {M : Model} {A : Around} {E : Value → Shared → Prop} {s : Shared}
/-- an exception that came from a call is noted here, and lands -/
theorem look_landC {base : Heap} {env : Env} {outer : List Env} {L e : Addr} {cls a0 v2 : Value} {Q : Unit → Shared → Prop} (hfr : A.frames = some (env :: outer)) (hf : env.frame = some L) (hfl : Heap.FlyingW base (env :: outer) e cls a0 s.heap) (hc : Ctx s.heap e v2)
    (hQ : ∀ h', Heap.FlyingW base (env :: outer) e cls a0 h' → s.heap.UpToSlots h' → Ctx h' e v2 → Q () { s with heap := h' }) : wpAny M A (noteFrame (.ref e) env) (fun _ s' => wpAny M A (setFlight (.ref e) none) Q E s') E s := by
  obtain ⟨f1, f2, f3, oe, vs, T, oT, ts, he, ⟨hcls, h0⟩, hd, h1, hnT, hTe, hT, hdT, h3⟩ := hfl
  obtain ⟨oc, vc, hc1, hc2, hc3⟩ := hc
  have eo : oc = oe := by rw [he] at hc1; exact (Option.some.inj hc1).symm
  subst eo
  have ev : vc = vs := by rw [hd] at hc2; injection hc2 with z; exact z.symm
  subst ev
  subst hcls
  unfold noteFrame
  simp only [hf]
  refine wpAny_bind (wpAny_field he hd h1 ?_)
  rw [if_pos (show (Value.ref T != Value.none) = true from by simp)]
  refine wpAny_bind (wpAny_field hT hdT h3 ?_)
  rw [if_neg (show ¬ ((Value.none == rawInt L) = true) from by simp [rawInt])]
  refine wpAny_bind (wpAny_setField hT hdT (Array.getElem?_eq_some_iff.mp h3).1 ?_)
  have other : ∀ b, b ≠ T → (s.heap.update T (Obj.mapFields (·.setIfInBounds 3 Value.none))).get? b = s.heap.get? b := fun b hb => Heap.get?_update_other _ _ (Ne.symm hb)
  have nrec : ∀ b o, s.heap.get? b = some o → (∀ vs, o.data ≠ .fields vs) → b ≠ T := fun b o hb hnf z => by
    rw [z, hT] at hb
    injection hb with hb
    subst hb
    exact hnf ts hdT
  refine entryC hfr (f3.of_keeps fun b o hb hnf => ⟨o, (other b (nrec b o hb hnf)).trans hb, rfl⟩) hf ((other e (Ne.symm hTe)).trans he) (fun b o hbo => (other b fun z => by rw [z, hnT] at hbo; cases hbo).trans (f1 b o hbo)) f2 hd (Array.getElem?_eq_some_iff.mp h1).1 h0 hc3 fun h' hL hc' => ?_
  obtain ⟨x1, x2, x3, x4⟩ := hL
  exact hQ h' ⟨x1, f2, x2, x3⟩ (fun b o hb hnf => x4 b o ((other b (nrec b o hb hnf)).trans hb) hnf) hc'
/-- and lands again -/
theorem land_againC {base : Heap} {l : List Env} {e : Addr} {cls a0 v2 : Value} {Q : Unit → Shared → Prop} (hfl : Heap.FlyingW base l e cls a0 s.heap) (hc : Ctx s.heap e v2)
    (hQ : ∀ h', Heap.FlyingW base l e cls a0 h' → s.heap.UpToSlots h' → Ctx h' e v2 → Q () { s with heap := h' }) : wpAny M A (setFlight (.ref e) none) Q E s := by
  obtain ⟨f1, f2, f3, oe, vs, T, oT, ts, he, hcls, hd, h1, hnT, hTe, hT, hdT, h3⟩ := hfl
  have hsz3 : 3 < ts.size := (Array.getElem?_eq_some_iff.mp h3).1
  have other : ∀ b, b ≠ T → (s.heap.update T (Obj.mapFields (·.setIfInBounds 3 ((none : Option Addr).elim Value.none fun f => rawInt f)))).get? b = s.heap.get? b := fun b hb => Heap.get?_update_other _ _ (Ne.symm hb)
  have nrec : ∀ b o, s.heap.get? b = some o → (∀ vs, o.data ≠ .fields vs) → b ≠ T := fun b o hb hnf z => by
    rw [z, hT] at hb
    injection hb with hb
    subst hb
    exact hnf ts hdT
  unfold setFlight
  refine wpAny_bind (wpAny_field he hd h1 ?_)
  rw [if_pos (show (Value.ref T != Value.none) = true from by simp)]
  obtain ⟨oc, vc, hc1, hc2, hc3⟩ := hc
  refine wpAny_setField hT hdT hsz3 (hQ _ ⟨fun b o hbo => (other b fun z => by rw [z, hnT] at hbo; cases hbo).trans (f1 b o hbo), f2, f3.of_keeps fun b o hb hnf => ⟨o, (other b (nrec b o hb hnf)).trans hb, rfl⟩, ?_⟩ (fun b o hb hnf => ⟨o.slots, (other b (nrec b o hb hnf)).trans hb⟩) ⟨oc, vc, (other e (Ne.symm hTe)).trans hc1, hc2, hc3⟩)
  exact ⟨oe, vs, T, _, _, (other e (Ne.symm hTe)).trans he, hcls, hd, h1, hnT, hTe, Heap.get?_update_self _ hT (Obj.isFreed_of_fields (Obj.data_mapFields hdT _)), Obj.data_mapFields hdT _, by simp [hsz3]⟩
end
end L2

set_option Elab.async false
set_option linter.all false
set_option maxRecDepth 100000
namespace L2
open PySem PySem.Spec PyProof.Rows
/-- within an except suite that may raise -/
abbrev Cx.withinC (X : Cx) (y : Addr) (pn : List (Addr × Obj)) : Cx := { X with A := X.A.mark (some (.ref y)), calm := false, pn := pn }
section
variable {X : Cx} {E : XK} {x : Str} {C y : Addr} {pn : List (Addr × Obj)} {oy : Obj} {vy : Array Value} {np cpos cp pos : Pos} {j : Nat} {e : Expr} {es : List Expr} {t : TA}
/-- raise C(e, ..) from None, while an exception is handled that has none ahead of it -/
theorem ps_raiseNone (TW : ThrowsW X E) (hpn : ∀ p ∈ X.pn, p ∈ pn) (hy : (y, oy) ∈ pn) (hoy : oy.data = .fields vy) (hv : vy[2]? = some .none) (okX : X.Ok) (O : Exc X.K X.mg x C) (ha : PA (X.withinC y pn) (e :: es) t) (hg : Gl (X.withinC y pn) x := by exact gl_of (by kernel_rfl))
    (he : starEach (e :: es) X.env = (false, eval e X.env) :: starEach es X.env := by rfl) (hpl : (backTo cpos (starEach es X.env)).any (·.1) = false := by rfl) (hd : (x == ("__debug__" : Str)) = false := by decide) :
    PS (X.withinC y pn) (.Raise (some (.Call (.Name x np) (e :: es) [] cpos)) (some (.Constant .none j cp)) pos) (tRaise E C t) := by
  intro pins s σ H D I h
  obtain ⟨tl, N, nm, q, bs, hdct, sn, sub, ab, col, dd, k0, k1, k2, k3, k5, mN, hC, hN, hni, TL⟩ := (O.own I.mod.kin).obj
  refine raise_callNone (C := C) (nm := nm) (q := q) (N := N) (bs := bs) (bm := tl) (hdct := hdct) (sn := sn) (sub := sub) (ab := ab) (col := col) (dd := dd) (k0 := k0) (k1 := k1) (k2 := k2) (k3 := k3) (k5 := k5) (y := y)
    PySem.F.excBase_ValueError (mN := mN) (TL.hasType PySem.F.excBase_ValueError.hasBase) rfl (by rw [he]; show (false || (backTo cpos (starEach es X.env)).any (·.1)) = false; rw [hpl]; rfl) hni (ld_glob I hg O.mg ⟨rfl, ?_⟩ hd)
  have h1 := ha cpos pins s σ H _ I h
  rw [he] at h1 ⊢
  refine Calls.evalArgs_plain (thn h1 fun us s2 ⟨vs, H1, I1, r, z, q⟩ => ?_)
  have py := (I1.pin (y, oy) (List.mem_append_left _ hy)).1
  have I2 : Inv X [] σ H1 s2 := Inv.goOut (y := y) (pn := pn) okX (I1.wish fun _ _ => False) fun p hp => hpn p (by simpa using hp)
  exact ⟨rfl, by rw [← r.length]; exact z, I1.bk _ _ hC, hN.keeps I1.bk, TL.keeps I1.bk, ⟨oy, vy, py, hoy, hv⟩, fun h' e' t' kp new hob => TW [] σ H1 s2 h' e' C _ _ _ I2 kp new hob rfl rfl rfl rfl q⟩
end
section
variable {X : Cx} {x : Str} {CE : Addr} {np hpos pos : Pos} {body suite : List Stmt} {b₀ : Stmt} {tb : XK → TS} {th : TS}
theorem ps_tryOfC (O : Exc X.K X.mg x CE) (hst : X.stack = X.env :: X.outer) (hf : X.env.frame = some X.env.locals) (hex : X.ex = []) (own : ∀ hd, PassesOwnAt (model X.prog X.w) (X.A.mark hd) X.A X.env X.xe)
    (hb : ∀ pn xe E, Passes (CX1C X.prog X.w) { X with pn := pn, xe := xe } E → PSs { X with pn := pn, xe := xe } body (tb E))
    (hs : ∀ pn y oy vy, X.Ok → (∀ p ∈ X.pn, p ∈ pn) → (y, oy) ∈ pn → oy.data = .fields vy → vy[2]? = some .none → PSs (X.withinC y pn) (b₀ :: suite) th) (hg : Gl X x := by exact gl_of (by kernel_rfl)) (hd : (x == ("__debug__" : Str)) = false := by decide) :
    PS X (.Try body [.ExceptHandler (some (.Name x np)) none (b₀ :: suite) hpos] [] [] pos) (tTryOf X.K CE X.N.length tb th) := by
  intro pins s σ H D I h
  refine wpAny_Try_except ?_
  generalize hE1 : (fun (e : Value) (s₁ : Shared) => wpAny (model X.prog X.w) X.A (noteFrame e X.env) (fun _ s₂ => wpAny (model X.prog X.w) X.A (setFlight e none) (fun _ s₃ => wpAny (model X.prog X.w) X.A (handleBy e X.env [.ExceptHandler (some (.Name x np)) none (b₀ :: suite) hpos]) (SP X pins D) X.xe s₃) X.xe s₂) X.xe s₁) = E1
  have pass : Passes (CX1C X.prog X.w) { X with pn := X.pn ++ pins, xe := E1 } (exOf X.K CE X.N.length th D) := by
    intro pins' σ' H1 s1 e s' I1 ⟨⟨y, C, H', he, os, bare, un, hok, F, C', hc', hxc, hmro, q⟩, y2, he2, hctx⟩
    subst he
    injection he2 with he2
    subst he2
    cases hc'
    show E1 (.ref y) s'
    rw [← hE1]
    have I2 : Inv { X with pn := X.pn ++ pins, xe := E1 } pins' σ' H' s' := I1.call' os un hok bare (fun b z => absurd z (by simp))
    have F2 : Flies X.stack y C s1.heap H' s'.heap := F
    rw [hst] at F2
    obtain ⟨B, a0, fl, ex⟩ := F2.exact
    have nst : ∀ b : Addr, b ∉ frs X.stack → b ∉ frs (X.env :: X.outer) := fun b z => by rw [← hst]; exact z
    refine look_landC (I.ok.frames.trans (congrArg some hst)) hf fl hctx fun h5 fl5 up5 hctx5 => ?_
    have J5 : Inv { X with pn := X.pn ++ pins, xe := E1 } pins' σ' H' { s' with heap := h5 } := Inv.flown hex I1 I2 (fun b o e nb hb => fl5.1 _ _ (ex b o e (nst b nb) hb)) up5
    obtain ⟨ob, hob, hobc⟩ := fl5.there
    obtain ⟨bm, N, nm, qn, bs, hdct, sn, sub, ab, col, dd, k0, k1, k2, k3, k5, hC, hbB, hmr⟩ := Exc.line hxc J5.kIn
    obtain ⟨bm', N', nm', qn', bs', hdct', sn', sub', ab', col', dd', l0, l1, l2, l3, l5, hC', hbB', hmr'⟩ := Exc.line O.ok J5.kIn
    have Jm : Inv (X.within y (X.pn ++ pins)) [] σ' H' { s' with heap := h5 } := J5.pinOut.goIn y _ fun p hp => J5.pin p (List.mem_append_left _ hp)
    refine wpAny_handleBy_cons (codeAny_handlers_test (ld_glob (X := X.within y (X.pn ++ pins)) Jm hg O.mg ?_ hd)) (by intro q; cases q)
    refine excMatches_own hC hC' hob hobc hbB' (hmr _ _ hmro) (codeAny_handlers_suite ?_)
    refine land_againC fl5 hctx5 fun h6 fl6 up6 hctx6 => ?_
    have J6 : Inv { X with pn := X.pn ++ pins, xe := E1 } pins' σ' H' { s' with heap := h6 } := Inv.flown hex I1 I2 (fun b o e nb hb => fl6.1 _ _ (ex b o e (nst b nb) hb)) (up5.trans up6)
    obtain ⟨oy, vy, hoy, hoyd, hv2⟩ := hctx6
    have ynl : y ≠ X.env.locals := fun z => by
      obtain ⟨m, ⟨oL, es, ep, hoL, hxd, _⟩, _⟩ := J6.loc
      have e1 : h6.get? X.env.locals = some oL := hoL
      rw [← z, hoy] at e1
      cases e1
      rw [hoyd] at hxd
      cases hxd
    have ynf : y ∉ X.fs := fun z => by
      obtain ⟨_, o, ho, nf⟩ := J6.funs.mem z
      have e1 : h6.get? y = some o := ho
      rw [hoy] at e1
      cases e1
      exact nf vy hoyd
    have yH : H' y = none := by
      cases z : H' y with
      | none => rfl
      | some o =>
        obtain ⟨B2, _, fl2, _, d2⟩ := F
        obtain ⟨o2, q2⟩ := d2 y o z
        rw [fl2.2.1] at q2
        cases q2
    have Jw0 : Inv (X.within y ((y, oy) :: (X.pn ++ pins))) [] σ' H' { s' with heap := h6 } := J6.pinOut.goIn y _ fun p hp => by
      rcases List.mem_cons.mp hp with z | z
      · subst z
        exact ⟨hoy, yH, ynl, ynf, fun v z => by rw [hoyd] at z; cases z⟩
      · exact J6.pin p (List.mem_append_left _ z)
    have Jw : Inv (X.withinC y ((y, oy) :: (X.pn ++ pins))) [] σ' H' { s' with heap := h6 } := Jw0.wish X.xe
    have run := hs ((y, oy) :: (X.pn ++ pins)) y oy vy I.ok (fun p hp => List.mem_cons_of_mem _ (List.mem_append_left _ hp)) (.head _) hoyd hv2 [] _ σ' H' D Jw (q σ' J6.len)
    refine wpAny_mono run (fun f s8 z => ?_) fun e8 s8 z => own _ e8 s8 z
    have back : ∀ {σ2 : St} {H2 : Hp}, Inv (X.withinC y ((y, oy) :: (X.pn ++ pins))) [] σ2 H2 s8 → Inv X pins σ2 H2 s8 := fun J => Inv.goOut (y := y) I.ok (J.wish fun _ _ => False) fun p hp => List.mem_cons_of_mem _ hp
    cases f with
    | next =>
      obtain ⟨σ2, H2, J, q2⟩ := z
      exact ⟨σ2, H2, back J, q2⟩
    | brk =>
      obtain ⟨σ2, H2, J, q2⟩ := z
      exact ⟨σ2, H2, back J, q2⟩
    | cont =>
      obtain ⟨σ2, H2, J, q2⟩ := z
      exact ⟨σ2, H2, back J, q2⟩
    | ret u =>
      obtain ⟨v, σ2, H2, J, r, q2⟩ := z
      exact ⟨v, σ2, H2, back J, r, q2⟩
  have run := hb (X.pn ++ pins) E1 _ pass [] s σ H D (I.pinIn E1) h
  refine wpAny_mono run (fun f s1 z => ?_) fun e s1 z => z
  cases f with
  | next =>
    obtain ⟨σ2, H2, J, q2⟩ := z
    exact wpAny_execs_nil ⟨σ2, H2, J.pinOut, q2⟩
  | brk =>
    obtain ⟨σ2, H2, J, q2⟩ := z
    exact ⟨σ2, H2, J.pinOut, q2⟩
  | cont =>
    obtain ⟨σ2, H2, J, q2⟩ := z
    exact ⟨σ2, H2, J.pinOut, q2⟩
  | ret u =>
    obtain ⟨v, σ2, H2, J, r, q2⟩ := z
    exact ⟨v, σ2, H2, J.pinOut, r, q2⟩
end
end L2

set_option Elab.async false
set_option linter.all false
set_option maxRecDepth 100000
namespace L2
open PySem PySem.Spec PyProof.Rows PySem.StrLaws
section
variable {X : Cx}
/-- s[lo:], of a text -/
def rSlS : V → Option Int → Option Int → Hp → VK → Prop := fun x lo hi H Q => ∃ (z : Str) (i : Int), x = .str z ∧ lo = some i ∧ hi = none ∧ 0 ≤ i ∧ i ≤ z.cps.toList.length ∧ z.length ≤ sizeLine ∧ Q (.str ⟨(z.cps.toList.drop i.toNat).toArray⟩) H
theorem sl_str : SlR X rSlS := by
  intro pins s σ H x v vl vu lo hi sl Q I rx hs pl pu h
  obtain ⟨z, i, rfl, rfl, rfl, h0, h1, hz, q⟩ := h
  obtain ⟨t, rfl⟩ := rx
  cases pl with
  | int _ ui =>
    cases pu
    refine ⟨"str", _, PySem.F.slot_str_getitem.lookup, typeIs_str _ _ _, ?_⟩
    obtain ⟨o, eo, co, dO⟩ := hs
    refine wpAny_getItem_str_slice (l := some (i, ui)) (u := none) (st := none) ⟨o, eo, co, dO⟩ rfl ?_
    have e := sliceText_from (x := z) (i := i) ⟨h0, h1⟩
    refine post_val_or_str ⟨?_, fun t' k => ?_⟩
    · show (sliceText z (some i) none).length ≤ sizeLine
      rw [e]
      refine Nat.le_trans ?_ hz
      show Array.size _ ≤ Array.size _
      simp
      omega
    · show EP X pins σ Q (.str (sliceText z (some i) none) t') _
      rw [e]
      refine ⟨.str _, H, I.kept (t' := k) fun _ _ e => e, ⟨t', rfl⟩, ?_⟩
      have e2 : (z.cps.toList.drop i.toNat).take ((z.cps.toList.length : Int) - i).toNat = z.cps.toList.drop i.toNat := by
        refine List.take_of_length_le ?_
        rw [List.length_drop]
        omega
      first | exact q | (rw [e2]; exact q)
end
end L2

set_option Elab.async false
set_option linter.all false
set_option maxRecDepth 100000
namespace L2
open PySem PySem.Spec PyProof.Rows
/-! ### comprehensions whose items are made on the way -/
theorem comp_anyG {J : It} {xs : List V} {tc : TT} {te : TE} {σ : St} {H : Hp} {Q : VK} (Pv : Nat → List V → Hp → Prop) (hz : xs.length < sizeLine) (h0 : Pv 0 [] H) (hn : ∀ i ys H, Pv i ys H → ys.length ≤ i)
    (hst : ∀ ys H, Pv xs.length ys H → J.stop xs.length H) (hgo : ∀ i ys H, i < xs.length → Pv i ys H → J.go i H) (hy : ∀ i ys H x H', i < xs.length → Pv i ys H → J.yld i H x H' → H' = H ∧ xs[i]? = some x)
    (hs : ∀ i x ys H (R : V → Hp → Prop) (R' : Hp → Prop), xs[i]? = some x → Pv i ys H → (∀ y H3, Pv (i + 1) (ys ++ [y]) H3 → R y H3) → (∀ H2, Pv (i + 1) ys H2 → R' H2) → tc (some x :: σ) H fun c H2 => if c = true then te (some x :: σ) H2 R else R' H2)
    (hd : ∀ ys H l, Pv xs.length ys H → H l = none → Q (.ref l) (upd H l (.lst ys))) : CompW J tc te σ H Q := by
  refine ⟨fun i m ys H => m = xs.length - i ∧ i ≤ xs.length ∧ Pv i ys H, ⟨xs.length, by simp, Nat.zero_le _, h0⟩, ?_⟩
  rintro i m ys H1 ⟨rfl, hi, pv⟩
  refine ⟨by have := hn i ys H1 pv; omega, ?_⟩
  by_cases hlt : i < xs.length
  · refine .inr ⟨hgo i ys H1 hlt pv, fun v H' y => ?_⟩
    obtain ⟨e, hx⟩ := hy i ys H1 v H' hlt pv y
    subst e
    exact hs i v ys _ _ _ hx pv (fun y H3 q => ⟨xs.length - (i + 1), by omega, rfl, hlt, q⟩) fun H2 q => ⟨xs.length - (i + 1), by omega, rfl, hlt, q⟩
  · have e : i = xs.length := by omega
    subst e
    exact .inl ⟨hst ys H1 pv, fun l hl => hd ys H1 l pv hl⟩
end L2

set_option Elab.async false
set_option linter.all false
set_option maxRecDepth 100000
namespace L2
open PySem PySem.Spec PyProof.Rows PySem.Builtin PySem.Builtin.Str
/-! ### texts: join, split, int(text), one sign after another -/
section
variable {X : Cx} {K : PySem.W.Frag}
theorem vals_strs : ∀ {ws : List Str} {us : List Value}, Vals (ws.map V.str) us → StrsAre us ws
  | [], _, h => by cases h; exact .nil
  | _ :: _, _, h => by
    cases h with
    | cons q r =>
      obtain ⟨t, rfl⟩ := q
      exact .cons _ _ (vals_strs r)
theorem strs_vals : ∀ l : List (Str × Tok), Vals ((l.map (·.1)).map V.str) (strValues l)
  | [] => .nil
  | p :: r => .cons ⟨p.2, rfl⟩ (strs_vals r)
def rJoin (K : PySem.W.Frag) : V → List V → Hp → VK → Prop := fun x vs H Q => ∃ (z : Str) (l : Addr) (ws : List Str), x = .str z ∧ vs = [.ref l] ∧ SqL K H l (ws.map V.str) ∧ z.length ≤ 16 ∧ (ws.map (·.length)).sum + ws.length ≤ 1048576 ∧ Q (.str (Str.join z ws)) H
/-- z.join(a list of texts) -/
theorem mt_joinK (hK : X.K = K) : MtR X "str.join" (rJoin K) := by
  subst hK
  intro pins s σ H x vs v us Q I rx rv h
  obtain ⟨z, l, ws, rfl, rfl, hq, hz, hw, q⟩ := h
  obtain ⟨t, rfl⟩ := rx
  obtain ⟨u, rfl, ru⟩ := vals1 rv
  cases ru
  obtain ⟨its, rw', pl, _⟩ := I.list hq
  refine join_listW pl.isList (ys := ws) (by simpa using vals_strs rw') hz hw fun t' k => ?_
  have e : Txt.join z ws = Str.join z ws := StrLaws.glued_eq_join z ws
  rw [e]
  exact ⟨.str _, H, I.tok k, ⟨t', rfl⟩, q⟩
theorem split_own {prog : Program} {w : World} {A : Around} {E : Value → Shared → Prop} {s : Shared} {Q : Value → Shared → Prop} {x y : Str} {t u : Tok} (hy : (y.length == 0) = false) (hz : x.length + 2 ≤ sizeLine)
    (h : ∀ (l : List (Str × Tok)) (k : Nat), l.map (·.1) = Txt.split x y → Q (.ref s.heap.objs.size) { s with heap := s.heap.push { cls := .type "list", data := .seq (strValues l).toArray }, toks := k }) : wpAny (model prog w) A (call (.builtin "str.split") [.str x t, .str y u]) Q E s := by
  have few : (partsBetween x (occurrences x y 0 x.length (x.length + 1)) y.length).length ≤ sizeLine := by
    have := StrLaws.occ_length_le x y 0 x.length (x.length + 1)
    rw [length_partsBetween]
    omega
  by_cases g1 : (decide (x.length < y.length) || decide (strKind x < strKind y)) = true
  · refine call_meets F.slot_str_split (typeIs_str _ _ _) F.entry_str_split (F.args_str_split_2 _ _) (meets_str_split_cannot_occur x y t u g1) ?_
    exact h [(x, t)] s.toks (if_pos g1).symm
  · have g1' := Bool.eq_false_iff.mpr g1
    by_cases g2 : (occurrences x y 0 x.length (x.length + 1)).isEmpty = true
    · refine call_meets F.slot_str_split (typeIs_str _ _ _) F.entry_str_split (F.args_str_split_2 _ _) (meets_str_split_not_found x y t u g1' hy g2) ?_
      exact h [(x, t)] s.toks ((if_neg g1).trans (if_pos g2)).symm
    · have g2' := Bool.eq_false_iff.mpr g2
      refine call_meets F.slot_str_split (typeIs_str _ _ _) F.entry_str_split (F.args_str_split_2 _ _) (meets_str_split_sep x y t u g1' hy g2' (by omega) few) ?_
      have e := h (numbered s.toks (partsBetween x (occurrences x y 0 x.length (x.length + 1)) y.length)) (s.toks + (partsBetween x (occurrences x y 0 x.length (x.length + 1)) y.length).length) ((numbered_texts _ _).trans ((if_neg g1).trans (if_neg g2)).symm)
      rw [← strsFrom_eq] at e
      exact e
def rSplit : V → List V → Hp → VK → Prop := fun x vs H Q => ∃ z y : Str, x = .str z ∧ vs = [.str y] ∧ (y.length == 0) = false ∧ z.length + 2 ≤ sizeLine ∧ ∀ l, H l = none → Q (.ref l) (upd H l (.lst ((Txt.split z y).map V.str)))
/-- z.split(y) -/
theorem mt_split : MtR X "str.split" rSplit := by
  intro pins s σ H x vs v us Q I rx rv h
  obtain ⟨z, y, rfl, rfl, hy, hz, q⟩ := h
  obtain ⟨t, rfl⟩ := rx
  obtain ⟨u, rfl, ru⟩ := vals1 rv
  obtain ⟨t', rfl⟩ := ru
  refine split_own hy hz fun l k e => ?_
  have hv : Vals ((Txt.split z y).map V.str) (strValues l) := by rw [← e]; exact strs_vals l
  have hl := split_le z y
  exact ⟨.ref _, _, I.lnew (t' := k) hv (by rw [List.length_map]; omega), rfl, q _ I.fresh⟩
theorem call_int_txt : CallR X (.type "int") (fun xs H Q => ∃ (x : Str) (n : Int), xs = [.str x] ∧ PySem.intText? x = some n ∧ x.length ≤ 640 ∧ Q (.int n) H) := by
  intro pins s σ H xs us Q I r h
  obtain ⟨x, n, rfl, hn, hl, q⟩ := h
  obtain ⟨u, rfl, t, rfl⟩ := vals1 r
  exact PySem.W.KIN.call_text hn hl ⟨.int n, H, I.tok _, ⟨_, rfl⟩, q⟩
theorem len_txt : CallR X (.builtin "len") (fun xs H Q => ∃ z : Str, xs = [.str z] ∧ z.length ≤ sizeLine ∧ Q (.int (z.length : Int)) H) := by
  intro pins s σ H xs us Q I r h
  obtain ⟨z, rfl, hz, q⟩ := h
  exact call_len pins s σ H _ us Q I r ⟨.str z, z.length, rfl, ⟨hz, rfl⟩, q⟩
/-- the signs of a text -/
def Isg (x : Str) : It := ⟨fun i _ => i < x.cps.size, fun i H v H' => H' = H ∧ ∃ c, x.cps[i]? = some c ∧ v = .str ⟨#[c]⟩, fun i _ => i = x.cps.size⟩
theorem turn_str {P : Program} {w : World} {tg : Expr} (it : Addr) (x : Str) (t : Tok) (ty : String) (hty : ["enumerate", "zip", "dict_itemiterator", "dict_reverseitemiterator", "odict_iterator", "itertools.zip_longest", "itertools.pairwise"].contains ty = false)
    (W : ∀ A : Around, A.handled = none → Walks P w A it [it] [it] x.cps.size (SignAt x) (fun i h => h.IsStrIter it ty x t i)) (hs : ∀ (A : Around) (i : Nat) (s : Shared) (Q : Value → Shared → Prop) (E : Value → Shared → Prop), s.heap.IsStrIter it ty x t i → Q (.ref it) s → wpAny (model P w) A (pyIter (.ref it)) Q E s) :
    Turn P w K tg (Isg x) [it] it (fun i h => h.IsStrIter it ty x t i) where
  mem := by simp
  obj := fun i h st b hb => by
    have e : b = it := by simpa using hb
    subst e
    obtain ⟨o, e, c, d⟩ := st
    exact ⟨o, e, fun v z => by rw [d] at z; cases z⟩
  keep := fun i h h' st k => by
    obtain ⟨o, e, c, d⟩ := st
    exact ⟨o, k it (by simp) o e, c, d⟩
  item := by
    intro X hP hw hK hc i pins s σ H E I hf st hg
    subst hP hw hK
    obtain ⟨f0, f1, f2, f3, f4, f5⟩ := hf it (by simp)
    refine (W X.A (I.ok.hd hc)).item i s _ _ hg st fun v h' tk hv st' kk => ?_
    obtain ⟨c, u, hx, rfl⟩ := hv
    have I1 : Inv X pins σ H { s with heap := h', toks := tk } := I.turned (fun b o hb e => kk b o (by simpa using hb) e) f0 f1 f3 f4 f5
    obtain ⟨o, e, c1, d1⟩ := id st'
    exact ⟨_, rfl, go_of (s := { s with heap := h', toks := tk }) e c1 d1 hty ⟨.str ⟨#[c]⟩, H, I1, ⟨u, rfl⟩, ⟨rfl, c, hx, rfl⟩, st', fun b hb => (hf b hb).1⟩⟩
  done := by
    intro X hP hw hK hc i pins s σ H E I hf st hg
    subst hP hw hK
    obtain ⟨f0, f1, f2, f3, f4, f5⟩ := hf it (by simp)
    have hg' : i = x.cps.size := hg
    subst hg'
    exact (W X.A (I.ok.hd hc)).done s _ _ st fun h' tk kk => ⟨rfl, I.turned (fun b o hb e => kk b o (by simpa using hb) e) f0 f1 f3 f4 f5⟩
  self := fun A i s Q E st h => hs A i s Q E st h
def iStr (tl : TE) : TI := fun σ H R => tl σ H fun x H1 => ∃ z : Str, x = .str z ∧ R (Isg z) H1
theorem pi_str {tg l : Expr} {tl : TE} (hl : PE X l tl) : PI X tg l (iStr tl) := by
  intro pins s σ H R I h
  refine thn (hl pins s σ H _ I h) fun v s1 ⟨x, H1, I1, r1, z, e, q⟩ => ?_
  subst e
  obtain ⟨t, rfl⟩ := r1
  have fp : ∀ b ∈ [s1.heap.objs.size], FpOk X pins H1 b := fun b hb => by
    have e : b = s1.heap.objs.size := by simpa using hb
    subst e
    exact I1.fpOk (Nat.le_refl _) (I1.hok.fresh (Nat.le_refl _))
  cases ha : z.cps.all (· < 128)
  · refine wpAny_pyIter_wide ha ?_
    exact ⟨s1.heap.objs.size, [s1.heap.objs.size], _, _, H1, rfl, I1.kept (t' := s1.toks) fun b o e => Heap.get?_push_of_some _ e, turn_str s1.heap.objs.size z t "str_iterator" (by decide) (fun A hA => Walks.strWide hA _ z t) (fun A i s Q E st h => wpAny_pyIter_striter_wide st h), ⟨_, Heap.get?_push_size _ rfl, rfl, rfl⟩, fp, q⟩
  · refine wpAny_pyIter_ascii ha ?_
    exact ⟨s1.heap.objs.size, [s1.heap.objs.size], _, _, H1, rfl, I1.kept (t' := s1.toks) fun b o e => Heap.get?_push_of_some _ e, turn_str s1.heap.objs.size z t "str_ascii_iterator" (by decide) (fun A hA => Walks.strAscii hA _ z t) (fun A i s Q E st h => wpAny_pyIter_striter_ascii st h), ⟨_, Heap.get?_push_size _ rfl, rfl, rfl⟩, fp, q⟩
theorem for_text {x : Str} {g : TG} {tb : TS} {D : Ends} {σ : L2.St} {H : Hp} (Pv : Nat → L2.St → Hp → Prop) (h0 : Pv 0 σ H)
    (hs : ∀ i c σ H, x.cps[i]? = some c → Pv i σ H → g (.str ⟨#[c]⟩) σ H fun σ2 H2 => tb { D with nx := Pv (i + 1), ct := Pv (i + 1), bk := D.nx } σ2 H2) (hd : ∀ σ H, Pv x.cps.size σ H → D.nx σ H) :
    ∃ W : Nat → Nat → L2.St → Hp → Prop, (∃ m, W 0 m σ H) ∧ ∀ i m σ H, W i m σ H →
      ((Isg x).stop i H ∧ D.nx σ H) ∨ ((Isg x).go i H ∧ ∃ N : L2.St → Hp → Prop, (∀ σ' H', N σ' H' → ∃ m', m' < m ∧ W (i + 1) m' σ' H') ∧ ∀ v H', (Isg x).yld i H v H' → g v σ H' fun σ2 H2 => tb { D with nx := N, ct := N, bk := D.nx } σ2 H2) := by
  refine ⟨fun i m σ H => m = x.cps.size - i ∧ i ≤ x.cps.size ∧ Pv i σ H, ⟨x.cps.size, by simp, Nat.zero_le _, h0⟩, ?_⟩
  rintro i m σ H ⟨rfl, hi, p⟩
  by_cases hlt : i < x.cps.size
  · refine .inr ⟨hlt, Pv (i + 1), fun σ' H' p' => ⟨x.cps.size - (i + 1), by omega, rfl, hlt, p'⟩, fun v H' y => ?_⟩
    obtain ⟨e, c, hc, rfl⟩ := y
    subst e
    exact hs i c σ _ hc p
  · have e : i = x.cps.size := by omega
    subst e
    exact .inl ⟨rfl, hd σ H p⟩
end
/-! ### what is joined is split again -/
def jn : List (List Nat) → List Nat
  | [] => []
  | [a] => a
  | a :: b :: r => a ++ 32 :: jn (b :: r)
theorem app_cut {c : Nat} : ∀ {a b x y : List Nat}, c ∉ a → c ∉ b → a ++ c :: x = b ++ c :: y → a = b ∧ x = y
  | [], [], _, _, _, _, h => ⟨rfl, (List.cons.inj h).2⟩
  | [], q :: b, _, _, _, hb, h => by
    have := (List.cons.inj h).1
    exact absurd (by rw [this]; exact List.mem_cons_self) hb
  | p :: a, [], _, _, ha, _, h => by
    have := (List.cons.inj h).1
    exact absurd (by rw [← this]; exact List.mem_cons_self) ha
  | p :: a, q :: b, _, _, ha, hb, h => by
    obtain ⟨h1, h2⟩ := List.cons.inj h
    obtain ⟨h3, h4⟩ := app_cut (fun z => ha (List.mem_cons_of_mem _ z)) (fun z => hb (List.mem_cons_of_mem _ z)) h2
    exact ⟨by rw [h1, h3], h4⟩
theorem jn_inj : ∀ {xs ys : List (List Nat)}, xs ≠ [] → ys ≠ [] → (∀ a ∈ xs, 32 ∉ a) → (∀ a ∈ ys, 32 ∉ a) → jn xs = jn ys → xs = ys
  | [], _, h, _, _, _, _ => absurd rfl h
  | _, [], _, h, _, _, _ => absurd rfl h
  | [a], [b], _, _, _, _, h => by
    have h' : a = b := h
    rw [h']
  | [a], b :: c :: r, _, _, ha, _, h => by
    have h' : a = b ++ 32 :: jn (c :: r) := h
    exact absurd (by rw [h']; exact List.mem_append_right _ List.mem_cons_self) (ha a List.mem_cons_self)
  | a :: c :: r, [b], _, _, _, hb, h => by
    have h' : a ++ 32 :: jn (c :: r) = b := h
    exact absurd (by rw [← h']; exact List.mem_append_right _ List.mem_cons_self) (hb b List.mem_cons_self)
  | a :: c :: r, b :: d :: t, _, _, ha, hb, h => by
    have h' : a ++ 32 :: jn (c :: r) = b ++ 32 :: jn (d :: t) := h
    obtain ⟨h1, h2⟩ := app_cut (ha a List.mem_cons_self) (hb b List.mem_cons_self) h'
    rw [h1, jn_inj (by simp) (by simp) (fun x hx => ha x (List.mem_cons_of_mem _ hx)) (fun x hx => hb x (List.mem_cons_of_mem _ hx)) h2]
theorem join_jn : ∀ ws : List Str, (Str.join ⟨#[32]⟩ ws).cps.toList = jn (ws.map fun w => w.cps.toList)
  | [] => rfl
  | [_] => rfl
  | a :: b :: r => by
    have ih := join_jn (b :: r)
    show (a ++ ⟨#[32]⟩ ++ Str.join ⟨#[32]⟩ (b :: r)).cps.toList = _
    rw [Str.cps_append, Str.cps_append, Array.toList_append, Array.toList_append, ih]
    show (a.cps.toList ++ [32]) ++ _ = a.cps.toList ++ 32 :: jn _
    rw [List.append_assoc]
    rfl
/-- a text split at its blanks -/
theorem split_is {x : Str} {ws : List (List Nat)} (h0 : ws ≠ []) (hf : ∀ a ∈ ws, 32 ∉ a) (h : x.cps.toList = jn ws) : Txt.split x ⟨#[32]⟩ = ws.map fun a => (⟨a.toArray⟩ : Str) := by
  have h1 := StrLaws.join_split x ⟨#[32]⟩
  have h2 := join_jn (Txt.split x ⟨#[32]⟩)
  rw [h1, h] at h2
  have hp := split_pos x ⟨#[32]⟩
  have e := jn_inj h0 (fun z => by
    have := congrArg List.length z
    rw [List.length_map] at this
    simp at this
    rw [this] at hp
    exact absurd hp (by decide)) hf (fun a ha => by
    obtain ⟨p, hp, rfl⟩ := List.mem_map.mp ha
    exact StrLaws.split_free x 32 p hp) h2
  rw [e, List.map_map]
  symm
  refine (List.map_congr_left fun p _ => ?_).trans (List.map_id _)
  show (⟨p.cps.toList.toArray⟩ : Str) = p
  cases p
  simp
end L2

set_option Elab.async false
set_option linter.all false
set_option maxRecDepth 100000
namespace L2
open PySem PySem.Spec PyProof.Rows PySem.StrLaws
section
variable {X : Cx}
/-- s[:hi], of a text -/
def rSlTo : V → Option Int → Option Int → Hp → VK → Prop := fun x lo hi H Q => ∃ (z : Str) (i : Int), x = .str z ∧ lo = none ∧ hi = some i ∧ 0 ≤ i ∧ i ≤ z.cps.toList.length ∧ z.length ≤ sizeLine ∧ Q (.str ⟨(z.cps.toList.take i.toNat).toArray⟩) H
theorem sl_strTo : SlR X rSlTo := by
  intro pins s σ H x v vl vu lo hi sl Q I rx hs pl pu h
  obtain ⟨z, i, rfl, rfl, rfl, h0, h1, hz, q⟩ := h
  obtain ⟨t, rfl⟩ := rx
  cases pu with
  | int _ ui =>
    cases pl
    refine ⟨"str", _, PySem.F.slot_str_getitem.lookup, typeIs_str _ _ _, ?_⟩
    obtain ⟨o, eo, co, dO⟩ := hs
    refine wpAny_getItem_str_slice (l := none) (u := some (i, ui)) (st := none) ⟨o, eo, co, dO⟩ rfl ?_
    have e := sliceText_to (x := z) (j := i) ⟨h0, h1⟩
    rw [List.drop_zero, Int.sub_zero] at e
    refine post_val_or_str ⟨?_, fun t' k => ?_⟩
    · show (sliceText z none (some i)).length ≤ sizeLine
      rw [e]
      refine Nat.le_trans ?_ hz
      show Array.size _ ≤ Array.size _
      simp
      omega
    · show EP X pins σ Q (.str (sliceText z none (some i)) t') _
      rw [e]
      exact ⟨.str _, H, I.kept (t' := k) fun _ _ e => e, ⟨t', rfl⟩, q⟩
end
/-- a comprehension over the signs of a text -/
def sgs (z : Str) : List V := z.cps.toList.map fun c => V.str ⟨#[c]⟩
theorem sgs_nth {z : Str} {i : Nat} {v : V} (h : (sgs z)[i]? = some v) : ∃ c, v = .str ⟨#[c]⟩ ∧ z.cps.toList[i]? = some c := by
  unfold sgs at h
  rw [List.getElem?_map] at h
  cases e : z.cps.toList[i]? with
  | none => rw [e] at h; cases h
  | some u => rw [e] at h; exact ⟨u, (Option.some.inj h).symm, rfl⟩
theorem comp_text {z : Str} {tc : TT} {te : TE} {σ : St} {H : Hp} {Q : VK} (Pv : Nat → List V → Hp → Prop) (hz : z.length < sizeLine) (h0 : Pv 0 [] H) (hn : ∀ i ys H, Pv i ys H → ys.length ≤ i)
    (hs : ∀ i x ys H (R : V → Hp → Prop) (R' : Hp → Prop), (sgs z)[i]? = some x → Pv i ys H → (∀ y H3, Pv (i + 1) (ys ++ [y]) H3 → R y H3) → (∀ H2, Pv (i + 1) ys H2 → R' H2) → tc (some x :: σ) H fun c H2 => if c = true then te (some x :: σ) H2 R else R' H2)
    (hd : ∀ ys H l, Pv z.length ys H → H l = none → Q (.ref l) (upd H l (.lst ys))) : CompW (Isg z) tc te σ H Q := by
  have el : (sgs z).length = z.length := by unfold sgs; rw [List.length_map]; exact Array.length_toList
  refine comp_anyG (xs := sgs z) Pv (by rw [el]; exact hz) h0 hn ?_ ?_ ?_ hs (fun ys H l pv => hd ys H l (by rw [el] at pv; exact pv))
  · intro ys H' _
    rw [el]
    rfl
  · intro i ys H' hi _
    rw [el] at hi
    exact hi
  · rintro i ys H' x H2 hi _ ⟨e, c, hc, rfl⟩
    refine ⟨e, ?_⟩
    unfold sgs
    rw [List.getElem?_map, Array.getElem?_toList, hc]
    rfl
end L2

set_option Elab.async false
set_option linter.all false
set_option maxRecDepth 100000
namespace CY
open PySem PySem.Spec PyProof.Rows L2

/-! ### the mathematics: what a purse makes -/
inductive Made (cs : List Int) : Int → Prop where
  | zero : Made cs 0
  | add {n c : Int} : Made cs n → c ∈ cs → Made cs (n + c)
open Classical in
noncomputable def mk (cs : List Int) (n : Int) : Bool := decide (Made cs n)
def Pos (cs : List Int) : Prop := ∀ c ∈ cs, 0 < c
/-- a purse of the laws: rising, not empty, few coins, from 1 to m -/
structure Purse (m : Int) (cs : List Int) : Prop where
  rise : cs.Pairwise (· < ·)
  ne : cs ≠ []
  few : cs.length ≤ 40
  lo : ∀ c ∈ cs, 1 ≤ c
  hi : ∀ c ∈ cs, c ≤ m
/-! ### the laws' own helpers: what they promise -/
def cell (ns : List Int) (k : Int) : Int := if k < ns.length then ns.getD k.toNat 0 else 0
abbrev ivs (ns : List Int) : List V := ns.map V.int
theorem ivs_get {ns : List Int} {i : Nat} (h : i < ns.length) : (ivs ns)[i]? = some (.int (ns.getD i 0)) := by
  simp [List.getD_eq_getElem?_getD, h]
def sp_cell (K : PySem.W.Frag) : Sp := fun vs H Q _ => ∃ (a : Addr) (ns : List Int) (k : Int), vs = [.ref a, .int k] ∧ SqL K H a (ivs ns) ∧ 0 ≤ k ∧ Q (.int (cell ns k)) H
def sp_mix : Sp := fun vs H Q _ => ∃ (c p m : Int), vs = [.int c, .int p, .int m] ∧ 0 < p ∧ 0 < m ∧ Q (.int (c * 48271 % p % m)) H
def sp_coins (K : PySem.W.Frag) : Sp := fun vs H Q _ => ∃ (a : Addr) (ns : List Int) (k m : Int), vs = [.ref a, .int k, .int m] ∧ SqL K H a (ivs ns) ∧ 0 ≤ k ∧ 0 < m ∧ ∀ (l : Addr) (cs : List Int) (H' : Hp), Same H H' → H l = none → H' l = some (.lst (ivs cs)) → Purse m cs → cs.length ≤ 4 → Q (.ref l) H'
def sp_purse (K : PySem.W.Frag) : Sp := fun vs H Q _ => ∃ (a : Addr) (ns : List Int) (k : Int), vs = [.ref a, .int k] ∧ SqL K H a (ivs ns) ∧ ns.length ≤ 63 ∧ 0 ≤ k ∧ ∀ (t : Addr) (cs : List Int) (H' : Hp), Same H H' → H' t = some (.tup (ivs cs)) → Purse 24 cs → cs.length ≤ 4 → Q (.ref t) H'
/-- the built-ins that the texts name -/
structure Tx (mg : Str → Option Value) : Prop where
  b_len : mg "len" = none
  b_isinstance : mg "isinstance" = none
  b_max : mg "max" = none
  b_sorted : mg "sorted" = none
  b_set : mg "set" = none
  b_tuple : mg "tuple" = none
  b_list : mg "list" = none
  b_int : mg "int" = none
  b_bool : mg "bool" = none
  b_range : mg "range" = none
  b_min : mg "min" = none
  b_sum : mg "sum" = none
  b_zip : mg "zip" = none
  b_str : mg "str" = none
  b_ValueError : mg "ValueError" = none
  b_reversed : mg "reversed" = none
  b_enumerate : mg "enumerate" = none
end CY

set_option Elab.async false
set_option linter.all false
set_option maxRecDepth 100000
namespace CY
open PySem PySem.Spec PyProof.Rows L2

/-! ### more mathematics -/
/-- the needless coins, the least purse -/
noncomputable def nl (cs : List Int) : List Int := cs.filter fun c => mk (cs.filter fun d => decide (d < c)) c
noncomputable def lp (cs : List Int) : List Int := cs.filter fun c => !mk (cs.filter fun d => decide (d < c)) c
/-- what is kept of a purse's first coins -/
noncomputable def kept : List Int → List Int → List Int
  | ks, [] => ks
  | ks, c :: r => kept (if mk ks c = true then ks else ks ++ [c]) r
/-! ### promises of the program -/
def sp_whole : Sp := fun vs H Q _ => ∃ i : Int, vs = [.int i] ∧ Q (.bl true) H
def sp_checked (K : PySem.W.Frag) : Sp := fun vs H Q _ => ∃ (t : Addr) (cs : List Int), vs = [.ref t] ∧ H t = some (.tup (ivs cs)) ∧ Purse 400 cs ∧ Q (.ref t) H
end CY

set_option Elab.async false
set_option linter.all false
set_option maxRecDepth 100000
namespace CY
open PySem PySem.Spec PyProof.Rows L2
/-- rising lists with the same members are one -/
theorem rise_ext : ∀ {xs ys : List Int}, xs.Pairwise (· < ·) → ys.Pairwise (· < ·) → (∀ x, x ∈ xs ↔ x ∈ ys) → xs = ys
  | [], [], _, _, _ => rfl
  | [], y :: ys, _, _, h => absurd ((h y).mpr List.mem_cons_self) (by simp)
  | x :: xs, [], _, _, h => absurd ((h x).mp List.mem_cons_self) (by simp)
  | x :: xs, y :: ys, hx, hy, h => by
    obtain ⟨x1, x2⟩ := List.pairwise_cons.mp hx
    obtain ⟨y1, y2⟩ := List.pairwise_cons.mp hy
    have e : x = y := by
      rcases List.mem_cons.mp ((h x).mp List.mem_cons_self) with z | z
      · exact z
      · rcases List.mem_cons.mp ((h y).mpr List.mem_cons_self) with u | u
        · exact u.symm
        · have := x1 y u
          have := y1 x z
          omega
    subst e
    congr 1
    refine rise_ext x2 y2 fun z => ?_
    constructor
    · intro hz
      rcases List.mem_cons.mp ((h z).mp (List.mem_cons_of_mem _ hz)) with u | u
      · have := x1 z hz; omega
      · exact u
    · intro hz
      rcases List.mem_cons.mp ((h z).mpr (List.mem_cons_of_mem _ hz)) with u | u
      · have := y1 z hz; omega
      · exact u
end CY

set_option Elab.async false
set_option linter.all false
set_option maxRecDepth 100000
namespace CY
open PySem PySem.Spec PyProof.Rows L2

/-! ### one coin more in the table of least sums -/
abbrev Tb := List (Option Nat)
abbrev gv (L : Tb) (r : Nat) : Option Nat := L.getD r none
def relax (m c : Nat) (L : Tb) (r : Nat) : Tb :=
  match gv L r with
  | none => L
  | some x => match gv L ((r + c) % m) with
    | none => L.set ((r + c) % m) (some (x + c))
    | some y => if x + c < y then L.set ((r + c) % m) (some (x + c)) else L
/-! ### a walk along one circle -/
def pos (m c start k : Nat) : Nat := (start + k * c) % m
def runs (m c start : Nat) (L : Tb) : Nat → Tb
  | 0 => L
  | k + 1 => relax m c (runs m c start L k) (pos m c start k)
section
variable {m c start T : Nat} {L : Tb}
end
/-! ### numbers: the circles -/
end CY

set_option Elab.async false
set_option linter.all false
set_option maxRecDepth 100000
namespace CY
open PySem PySem.Spec PyProof.Rows L2
section
variable {m c : Nat}
end

/-! ### the table of least sums -/
def outer (m c N : Nat) (L : Tb) : Nat → Tb
  | 0 => L
  | s + 1 => runs m c s (outer m c N L s) N
end CY

set_option Elab.async false
set_option linter.all false
set_option maxRecDepth 100000
namespace CY
open PySem PySem.Spec PyProof.Rows L2

/-! ### least sums as a list of the program -/
def ov : Option Nat → V
  | none => .non
  | some s => .int (s : Int)
/-- the least coin -/
def m0 (cs : List Int) : Nat := (cs.headD 0).toNat
end CY

set_option Elab.async false
set_option linter.all false
set_option maxRecDepth 100000
namespace CY
open PySem PySem.Spec PyProof.Rows L2

/-! ### how far the least sums go -/
def mx (cs : List Int) : Nat := (cs.getLastD 0).toNat
def far (cs : List Int) : Nat := m0 cs * mx cs
def below (L : Tb) (s : Nat) (r : Nat) : Bool := match gv L r with
  | none => false
  | some y => decide (y < s)
/-! ### a walk by steps -/
/-! ### the purse's ends -/
end CY

set_option Elab.async false
set_option linter.all false
set_option maxRecDepth 100000
namespace CY
open PySem PySem.Spec PyProof.Rows L2

/-! ### gaps -/
abbrev ints0 (n : Nat) : List Int := (List.range n).map fun (i : Nat) => (i : Int)
noncomputable def gaps (cs : List Int) : List Int := (ints0 (far cs)).filter fun n => !mk cs n
/-- the greatest gap, or -1 -/
noncomputable def fr (cs : List Int) : Int := (gaps cs).getLastD (-1)
section
variable {m : Int} {cs : List Int}
end
noncomputable def ends (cs : List Int) : List Int := (gaps cs).filter fun g => cs.all fun c => mk cs (g + c)

/-! ### counting -/
section
variable {m : Int} {cs : List Int}
/-! ### ends -/
end
end CY

set_option Elab.async false
set_option linter.all false
set_option maxRecDepth 100000
namespace CY
open PySem PySem.Spec PyProof.Rows L2

/-! ### paying: with so many coins -/
section
variable {cs : List Int}
/-! ### ways -/
def dot (ws cs : List Int) : Int := (List.zipWith (· * ·) ws cs).sum
end
/-! ### the greatest coin first -/
/-- coins falling: how often each is taken, and what is left -/
def grR : List Int → Int → List Int × Int
  | [], n => ([], n)
  | c :: r, n => ((n / c) :: (grR r (n % c)).1, (grR r (n % c)).2)
/-- coins rising -/
def gw (cs : List Int) (n : Int) : List Int := (grR cs.reverse n).1.reverse
def ol (w : Option (List Int)) (t : Addr) : V := match w with
  | none => .non
  | some _ => .ref t
/-! ### what coinyard.paying and coinyard.greedy promise: B is BadSum -/
end CY

set_option Elab.async false
set_option linter.all false
set_option maxRecDepth 100000
namespace CY
open PySem PySem.Spec PyProof.Rows L2

/-! ### the first fault -/
section
variable {m : Int} {cs : List Int}
/-- how many coins the greatest first takes -/
def gs (cs : List Int) (n : Int) : Int := (gw cs n).sum
end
end CY

set_option Elab.async false
set_option linter.all false
set_option maxRecDepth 100000
namespace CY
open PySem PySem.Spec PyProof.Rows L2

/-! ### how many ways -/
def cw : List Int → Int → Nat
  | [], n => if n = 0 then 1 else 0
  | c :: cs, n => ((List.range (if n < 0 then 0 else (n / c).toNat + 1)).map fun (i : Nat) => cw cs (n - (i : Int) * c)).sum
/-! ### the fewest, with and without a coin -/
end CY

set_option Elab.async false
set_option linter.all false
set_option maxRecDepth 100000
namespace CY
open PySem PySem.Spec PyProof.Rows L2
/-! ### the fewest, coin by coin -/
/-! ### the ways, coin by coin -/
/-! ### the greatest first, coin by coin -/
/-! ### a way: what no best way of the rest has -/
/-! ### the two greatest coins -/
def two (cs : List Int) : List Int := cs.drop (cs.length - 2)
end CY

set_option Elab.async false
set_option linter.all false
set_option maxRecDepth 100000
namespace CY
open PySem PySem.Spec PyProof.Rows L2

/-! ### things that are no purse, no number -/
/-- a thing, and whether it is a whole number -/
inductive Kind (H : Hp) : V → Bool → Prop where
  | int (i : Int) : Kind H (.int i) true
  | bl (b : Bool) : Kind H (.bl b) false
  | str (s : Str) : Kind H (.str s) false
  | non : Kind H .non false
  | lst {a : Addr} {xs : List V} (e : H a = some (.lst xs)) : Kind H (.ref a) false
  | tup {a : Addr} {xs : List V} (e : H a = some (.tup xs)) : Kind H (.ref a) false
theorem Kind.keep {H H' : Hp} {v : V} {b : Bool} (s : Same H H') (k : Kind H v b) : Kind H' v b := by
  cases k with
  | int i => exact .int i
  | bl b => exact .bl b
  | str s => exact .str s
  | non => exact .non
  | lst e => exact .lst (s _ _ e)
  | tup e => exact .tup (s _ _ e)
/-- coins from b on -/
def risF : Int → List V → Bool
  | _, [] => true
  | b, .int c :: r => decide (b < c) && decide (c ≤ 400) && risF c r
  | _, _ :: _ => false
/-- no purse -/
inductive NoPurse (H : Hp) : V → Prop where
  | kind {v : V} {b : Bool} (k : Kind H v b) (h : ∀ a xs, v = .ref a → H a ≠ some (.tup xs)) : NoPurse H v
  | tup {a : Addr} {xs : List V} (e : H a = some (.tup xs)) (k : ∀ x ∈ xs, ∃ b, Kind H x b) (h : xs.length = 0 ∨ 40 < xs.length ∨ risF 0 xs = false) (hz : xs.length ≤ 1000) : NoPurse H (.ref a)
/-- one promise or another -/
def orSp (a b : Sp) : Sp := fun vs H Q E => a vs H Q E ∨ b vs H Q E
def sp_wholeG : Sp := fun vs H Q _ => ∃ v b, vs = [v] ∧ Kind H v b ∧ Q (.bl b) H
/-- B is BadPurse -/
def sp_no1 (B : Addr) : Sp := fun vs H Q E => ∃ v, vs = [v] ∧ NoPurse H v ∧ ∀ H', Same H H' → E (.ref B) none H'
end CY

set_option Elab.async false
set_option linter.all false
set_option maxRecDepth 100000
namespace CY
open PySem PySem.Spec PyProof.Rows L2

/-! ### sets of sums -/
/-- not put together of two others -/
def Gn (S : Int → Bool) (n : Int) : Prop := S n = true ∧ 0 < n ∧ ∀ a, 0 < a → a < n → S a = true → S (n - a) = false
section
variable {S : Int → Bool} {ds es : List Int}
noncomputable def gnB (S : Int → Bool) (n : Int) : Bool := open Classical in decide (Gn S n)
noncomputable def gensUp (S : Int → Bool) (N : Nat) : List Int := (ints0 (N + 1)).filter (gnB S)
end
/-! ### what coinyard.joins and coinyard.tree promise -/
def fits (ws : List Int) : Prop := ws.length ≤ 40 ∧ ∀ w ∈ ws, w ≤ 400
instance (ws : List Int) : Decidable (fits ws) := inferInstanceAs (Decidable (_ ∧ _))
end CY

set_option Elab.async false
set_option linter.all false
set_option maxRecDepth 100000
namespace CY
open PySem PySem.Spec PyProof.Rows L2

/-! ### all ways -/
/-! ### texts -/
def wordC (c : Int) : List Nat := (toString c).toList.map Char.toNat
def textC : List Int → List Nat
  | [] => []
  | [c] => wordC c
  | c :: d :: r => wordC c ++ 32 :: textC (d :: r)
def textOf (cs : List Int) : Str := ⟨(textC cs).toArray⟩
/-! ### figures -/
def wordN (n : Nat) : List Nat := (Nat.toDigits 10 n).map Char.toNat
theorem word_nat (n : Nat) : wordC (n : Int) = wordN n := by
  unfold wordC wordN
  have e : (toString ((n : Nat) : Int)).toList = Nat.toDigits 10 n := by
    show (Nat.repr n).toList = _
    unfold Nat.repr
    rw [String.toList_ofList]
  rw [e]
/-- the figures ahead of a number's last one -/
def ahead (n : Nat) : List Nat := if n = 0 then [] else wordN n
def figs : Str := Str.ofString "0123456789"
theorem str_app (a b : List Nat) : ((⟨a.toArray⟩ : Str) ++ (⟨b.toArray⟩ : Str)) = ⟨(a ++ b).toArray⟩ := by
  show (⟨a.toArray ++ b.toArray⟩ : Str) = _
  simp
end CY

set_option Elab.async false
set_option linter.all false
set_option maxRecDepth 100000
namespace CY
open PySem PySem.Spec PyProof.Rows L2
/-! ### ways begun, coin by coin -/
abbrev Bg := List (List Int × Int)
/-- one coin more, of which only so many as the later ones can end -/
def one (ds : List Int) (c : Int) (b : List Int × Int) : Bg := ((List.range ((b.2 / c).toNat + 1)).filter fun (i : Nat) => decide (0 < cw ds (b.2 - (i : Int) * c))).map fun (i : Nat) => (b.1 ++ [(i : Int)], b.2 - (i : Int) * c)
end CY

set_option Elab.async false
set_option linter.all false
set_option maxRecDepth 100000
namespace CY
open PySem PySem.Spec PyProof.Rows L2
/-! ### the law's choices -/
def othG (m : Nat) (r : List Nat) : List Nat := ((List.range (2 * m - 1)).map fun i => i + 1).filter fun n => decide (n ∉ r)
def hB (m : Nat) (r : List Nat) : Bool := (othG m r).all fun a => (othG m r).all fun b => decide (a + b ∉ r)
/-- the sums beside the gaps g -/
def SI (g : List Int) : Int → Bool := fun n => decide (0 ≤ n) && decide (n ∉ g)
noncomputable def back (m : Nat) (g : List Int) : List Int := gensUp (SI g) (4 * m + 2)
end CY

set_option Elab.async false
set_option linter.all false
set_option maxRecDepth 100000
namespace CY
open PySem L2

abbrev prog : Program := PySem.Challenge.pw_coinyard_k25_spoilt_texts
def top (i : Nat) : Stmt := prog.main.body.getD i (.Pass ⟨0, 0, 0, 0⟩)
abbrev s_is_whole : Stmt := top 7
theorem sc_is_whole : FnScope ["thing"] ["thing"] (defScope s_is_whole) := ⟨rfl, rfl, rfl, by decide +kernel, rfl, by decide +kernel, by decide +kernel⟩
abbrev s_checked : Stmt := top 8
theorem sc_checked : FnScope ["purse", "before", "coin"] ["purse"] (defScope s_checked) := ⟨rfl, rfl, rfl, by decide +kernel, rfl, by decide +kernel, by decide +kernel⟩
abbrev s_is_number_in_figures : Stmt := top 12
theorem sc_is_number_in_figures : FnScope ["text", "sign"] ["text"] (defScope s_is_number_in_figures) := ⟨rfl, rfl, rfl, by decide +kernel, rfl, by decide +kernel, by decide +kernel⟩
abbrev s_read : Stmt := top 13
theorem sc_read : FnScope ["text", "numbers", "number", "coins"] ["text"] (defScope s_read) := ⟨rfl, rfl, rfl, by decide +kernel, rfl, by decide +kernel, by decide +kernel⟩
abbrev s__law_cell : Stmt := top 15
theorem sc__law_cell : FnScope ["_law_script", "_law_k"] ["_law_script", "_law_k"] (defScope s__law_cell) := ⟨rfl, rfl, rfl, by decide +kernel, rfl, by decide +kernel, by decide +kernel⟩
abbrev s__law_mix : Stmt := top 16
theorem sc__law_mix : FnScope ["_law_cell_here", "_law_prime", "_law_many"] ["_law_cell_here", "_law_prime", "_law_many"] (defScope s__law_mix) := ⟨rfl, rfl, rfl, by decide +kernel, rfl, by decide +kernel, by decide +kernel⟩
abbrev s__law_coins : Stmt := top 17
theorem sc__law_coins : FnScope ["_law_script", "_law_at", "_law_most", "_law_many", "_law_found"] ["_law_script", "_law_at", "_law_most"] (defScope s__law_coins) := ⟨rfl, rfl, rfl, by decide +kernel, rfl, by decide +kernel, by decide +kernel⟩
abbrev s__law_purse : Stmt := top 18
theorem sc__law_purse : FnScope ["_law_script", "_law_at", "_law_most"] ["_law_script", "_law_at"] (defScope s__law_purse) := ⟨rfl, rfl, rfl, by decide +kernel, rfl, by decide +kernel, by decide +kernel⟩
abbrev s__law_refused : Stmt := top 19
theorem sc__law_refused : FnScope ["_law_text"] ["_law_text"] (defScope s__law_refused) := ⟨rfl, rfl, rfl, by decide +kernel, rfl, by decide +kernel, by decide +kernel⟩
abbrev s__law_by_base : Stmt := top 20
theorem sc__law_by_base : FnScope ["_law_text", "e"] ["_law_text"] (defScope s__law_by_base) := ⟨rfl, rfl, rfl, by decide +kernel, rfl, by decide +kernel, by decide +kernel⟩
abbrev s__law_number : Stmt := top 21
theorem sc__law_number : FnScope ["_law_word"] ["_law_word"] (defScope s__law_number) := ⟨rfl, rfl, rfl, by decide +kernel, rfl, by decide +kernel, by decide +kernel⟩
abbrev s__law_due : Stmt := top 22
theorem sc__law_due : FnScope ["_law_text", "_law_coins_here"] ["_law_text"] (defScope s__law_due) := ⟨rfl, rfl, rfl, by decide +kernel, rfl, by decide +kernel, by decide +kernel⟩
abbrev s__law_bad : Stmt := top 23
theorem sc__law_bad : FnScope ["_law_script", "_law_text", "_law_at", "_law_way", "_law_some"] ["_law_script", "_law_text"] (defScope s__law_bad) := ⟨rfl, rfl, rfl, by decide +kernel, rfl, by decide +kernel, by decide +kernel⟩
abbrev s_law : Stmt := top 24
theorem sc_law : FnScope ["_law_script", "_law_bad_here", "_law_due_here"] ["_law_script"] (defScope s_law) := ⟨rfl, rfl, rfl, by decide +kernel, rfl, by decide +kernel, by decide +kernel⟩
end CY

set_option Elab.async false
set_option linter.all false
set_option maxRecDepth 100000
set_option maxHeartbeats 4000000
namespace CY
open PySem PySem.Spec PyProof.Rows L2
section
variable {P : Program} {w : World} {K : PySem.W.Frag} {mg : Str → Option Value} {base : Heap}
theorem ok__law_cell {f : Addr} {fd : FuncData} (F : Fun K "_law_cell" "_law_cell" s__law_cell f fd) (T : Tx mg) : FnOk P w K mg base CX0 1 f fd ["_law_script", "_law_k"] (sp_cell K) := by
  refine F.ok sc__law_cell (fun vs H Q E h => ?_) (fun cdv A outer s H vs Q E hr h => ?_)
  · obtain ⟨a, ns, k, rfl, _⟩ := h
    rfl
  · obtain ⟨a, ns, k, rfl, hS, hk, q⟩ := h
    refine ⟨_, (pss_cons (ps_if (pt_cmpR op_lt (pv 1) (pe_callB call_len_seq (gl_of (by kernel_rfl)) T.b_len boot_len (pa_cons (pv 0) pa_nil)) (nomark _)) (pss_one (ps_ret (pe_ix ix_any (pv 0) (pv 1) (fun _ _ => rfl)))) pss_nil)
      (pss_one (ps_ret pe_int))), ?_⟩
    refine ⟨_, rfl, _, rfl, a, ivs ns, rfl, .inl hS, _, _, rfl, rfl, _, rfl, ?_⟩
    have hl : (ivs ns).length = ns.length := List.length_map ..
    rw [hl]
    refine ite2 (fun h1 => ?_) (fun h1 => ?_)
    · have h2 : k < (ns.length : Int) := of_decide_eq_true h1
      refine ⟨_, rfl, _, rfl, a, ivs ns, k, _, rfl, rfl, .inl hS, ?_, q⟩
      have e : k = ((k.toNat : Nat) : Int) := by omega
      unfold cell
      rw [if_pos h2]
      conv => lhs; rw [e]
      exact atI_nat (ivs_get (by omega))
    · have h2 : ¬ k < (ns.length : Int) := fun z => h1 (decide_eq_true z)
      unfold cell at q
      rw [if_neg h2] at q
      exact q
theorem ok__law_mix {f : Addr} {fd : FuncData} (F : Fun K "_law_mix" "_law_mix" s__law_mix f fd) : FnOk P w K mg base CX0 1 f fd ["_law_cell_here", "_law_prime", "_law_many"] sp_mix := by
  refine F.ok sc__law_mix (fun vs H Q E h => ?_) (fun cdv A outer s H vs Q E hr h => ?_)
  · obtain ⟨c, p, m, rfl, _⟩ := h
    rfl
  · obtain ⟨c, p, m, rfl, hp, hm, q⟩ := h
    refine ⟨_, (pss_one (ps_ret (pe_op op_mod (pe_op op_mod (pe_op op_mul (pv 0) pe_int) (pv 1)) (pv 2)))), ?_⟩
    exact ⟨_, rfl, _, _, rfl, rfl, .inr ⟨by decide, by decide⟩, _, rfl, _, _, rfl, rfl, hp, _, rfl, _, _, rfl, rfl, hm, q⟩
end
end CY

set_option Elab.async false
set_option linter.all false
set_option maxRecDepth 100000
set_option maxHeartbeats 4000000
namespace CY
open PySem PySem.Spec PyProof.Rows L2
theorem add1_nodup {ks : List Int} {k : Int} (h : ks.Nodup) : (add1 ks k).Nodup := by
  unfold add1
  split
  · exact h
  · rename_i hk
    exact List.nodup_append.mpr ⟨h, by simp, fun u hu v hv z => hk (by rw [List.mem_singleton] at hv; rw [← hv, ← z]; exact hu)⟩
theorem addAll_nodup : ∀ (ns : List Int) {ks : List Int}, ks.Nodup → (addAll ks ns).Nodup
  | [], _, h => h
  | n :: r, ks, h => by
    show (addAll (add1 ks n) r).Nodup
    exact addAll_nodup r (add1_nodup h)
/-- sorted(set(ns)) -/
theorem sortedSet {ns cs : List Int} (p : cs.Perm (addAll [] ns)) (h : cs.Pairwise (· ≤ ·)) : cs.Pairwise (· < ·) ∧ (∀ c, c ∈ cs ↔ c ∈ ns) ∧ cs.length ≤ ns.length := by
  have nd : cs.Nodup := p.nodup_iff.mpr (addAll_nodup ns List.nodup_nil)
  refine ⟨?_, fun c => ?_, ?_⟩
  · exact (h.and nd).imp fun {a b} z => by have := z.1; have := z.2; omega
  · rw [p.mem_iff, addAll_mem]
    simp
  · have := addAll_len ns []
    rw [p.length_eq]
    simpa using this
theorem true_then {σ : L2.St} {H : Hp} {A B : Hp → Prop} (h : A H) : tTrue σ H fun c H2 => if c = true then A H2 else B H2 := by
  show if true = true then A H else B H
  rw [if_pos rfl]
  exact h
section
variable {P : Program} {w : World} {K : PySem.W.Frag} {mg : Str → Option Value} {base : Heap}
/-- the coin that is drawn k-th -/
def draw (ns : List Int) (at' m : Int) : V → V
  | .int i => .int (1 + (cell ns (at' + 1 + i) + 17 * i * i) * 48271 % 9967 % m)
  | v => v
theorem ok__law_coins {f : Addr} {fd : FuncData} (F : Fun K "_law_coins" "_law_coins" s__law_coins f fd) (T : Tx mg) (C__law_cell : Fn P w K mg base "_law_cell" ["_law_script", "_law_k"] 1 (sp_cell K)) (C__law_mix : Fn P w K mg base "_law_mix" ["_law_cell_here", "_law_prime", "_law_many"] 1 sp_mix) :
    FnOk P w K mg base CX0 2 f fd ["_law_script", "_law_at", "_law_most"] (sp_coins K) := by
  refine F.ok sc__law_coins (fun vs H Q E h => ?_) (fun cdv A outer s H vs Q E hr h => ?_)
  · obtain ⟨a, ns, k, m, rfl, _⟩ := h
    rfl
  · obtain ⟨a, ns, k, m, rfl, hS, hk, hm, q⟩ := h
    refine ⟨_, (pss_cons (ps_set (i := 3) sc__law_coins.nd rfl (Or.inl (by kernel_rfl)) (pe_op op_add pe_int (pe_fn C__law_mix (hr.mono (by decide)) (pa_cons (pe_fn C__law_cell (hr.mono (by decide)) (pa_cons (pv 0) (pa_cons (pv 1) pa_nil))) (pa_cons pe_int (pa_cons pe_int pa_nil))))))
      (pss_cons (ps_setComp (i := 4) (x := "_law_k") (M := ["_law_script", "_law_at", "_law_most", "_law_many", "_law_found"]) sc__law_coins.nd rfl (Or.inl (by kernel_rfl)) rfl (CompScope.of (by kernel_rfl)) (pi_range1 (gl_of (by kernel_rfl)) T.b_range (pa_cons (pv 3) pa_nil)) (fun _ _ _ _ _ => pts_nil) (fun _ _ _ _ _ => (pe_op op_add pe_int (pe_fn C__law_mix (hr.mono (by decide)) (pa_cons (pe_op op_add (pe_fn C__law_cell (hr.mono (by decide)) (pa_cons (pv 1) (pa_cons (pe_op op_add (pe_op op_add (pv 2) pe_int) (pv 0)) pa_nil))) (pe_op op_mul (pe_op op_mul pe_int (pv 0)) (pv 0))) (pa_cons pe_int (pa_cons (pv 3) pa_nil)))))))
      (pss_one (ps_ret (pe_callB (sortedK (w := w) rfl rfl) (gl_of (by kernel_rfl)) T.b_sorted boot_sorted (pa_cons (pe_callTy (setK (K := K) (w := w) rfl rfl rfl) (gl_of (by kernel_rfl)) T.b_set boot_set (pa_cons (pv 4) pa_nil)) pa_nil)))))), ?_⟩
    refine ⟨_, rfl, _, rfl, a, ns, k, rfl, hS, hk, _, 9973, 4, rfl, by decide, by decide, _, _, rfl, rfl, ?_⟩
    have b0 : 0 ≤ cell ns k * 48271 % 9973 % 4 := Int.emod_nonneg _ (by decide)
    have b1 : cell ns k * 48271 % 9973 % 4 < 4 := Int.emod_lt_of_pos _ (by decide)
    generalize hj : cell ns k * 48271 % 9973 % 4 = j at b0 b1 ⊢
    refine ⟨_, rfl, 1 + j, rfl, by omega, by omega, ?_⟩
    have hn : (1 + j).toNat ≤ 4 ∧ 1 ≤ (1 + j).toNat := by omega
    generalize (1 + j).toNat = n at hn ⊢
    refine comp_range (fun _ H' => H' = H) (fun _ => true) (draw ns k m) (Nat.lt_of_le_of_lt hn.1 (by decide)) rfl ?_ ?_
    · rintro i x H1 R R' hx rfl hR hR'
      have hi : i < n := by
        have := (List.getElem?_eq_some_iff.mp hx).1
        rw [rngV_len] at this
        exact this
      have ex : x = .int (0 + (i : Int)) := by
        unfold rngV at hx
        simp [hi] at hx
        rw [← hx]
        simp
      subst ex
      have hR1 := hR H1 rfl rfl
      refine true_then ?_
      refine ⟨_, rfl, _, rfl, _, _, rfl, rfl, _, rfl, _, _, rfl, rfl, a, ns, _, rfl, hS, by omega, _, rfl, _, _, rfl, rfl, .inl ⟨by decide, by decide⟩, _, rfl, _, _, rfl, rfl, .inl ⟨by omega, by omega⟩, _, _, rfl, rfl, _, rfl, _, 9967, m, rfl, by decide, hm, _, _, rfl, rfl, ?_⟩
      exact hR1
    · rintro H1 l rfl hl
      -- the list that was drawn, and the rest of the body
      have hf : (((rngV 0 n).filter fun _ => true).map (draw ns k m)) = ivs ((List.range n).map fun (i : Nat) => 1 + (cell ns (k + 1 + (0 + (i : Int))) + 17 * (0 + (i : Int)) * (0 + (i : Int))) * 48271 % 9967 % m) := by
        rw [List.filter_eq_self.mpr (fun _ _ => rfl)]
        unfold rngV
        unfold ivs
        rw [List.map_map, List.map_map]
        rfl
      rw [hf]
      generalize hds : ((List.range n).map fun (i : Nat) => 1 + (cell ns (k + 1 + (0 + (i : Int))) + 17 * (0 + (i : Int)) * (0 + (i : Int))) * 48271 % 9967 % m) = ds
      have hdl : ds.length = n := by rw [← hds]; simp
      have hdm : ∀ d ∈ ds, 1 ≤ d ∧ d ≤ m := fun d hd => by
        rw [← hds] at hd
        obtain ⟨i, _, rfl⟩ := List.mem_map.mp hd
        have h1 := Int.emod_nonneg ((cell ns (k + 1 + (0 + (i : Int))) + 17 * (0 + (i : Int)) * (0 + (i : Int))) * 48271 % 9967) (Int.ne_of_gt hm)
        have h2 := Int.emod_lt_of_pos ((cell ns (k + 1 + (0 + (i : Int))) + 17 * (0 + (i : Int)) * (0 + (i : Int))) * 48271 % 9967) hm
        omega
      refine ⟨_, rfl, l, ds, rfl, .of upd_same, by omega, fun b hb => ?_⟩
      refine ⟨b, addAll [] ds, rfl, upd_same, ?_, fun p cs hp pm ps => ?_⟩
      · have := addAll_len ds []
        simp at this
        omega
      · obtain ⟨s1, s2, s3⟩ := sortedSet pm ps
        have nb : b ≠ l := fun z => by rw [z, upd_same] at hb; cases hb
        have hb' : H1 b = none := by rw [upd_ne nb] at hb; exact hb
        have np : p ≠ b := fun z => by rw [z, upd_same] at hp; cases hp
        have hp1 : (upd H1 l (.lst (ivs ds))) p = none := by rw [upd_ne np] at hp; exact hp
        have np2 : p ≠ l := fun z => by rw [z, upd_same] at hp1; cases hp1
        have hp' : H1 p = none := by rw [upd_ne np2] at hp1; exact hp1
        refine q p cs _ ((((Same.refl H1).put hl).put hb).put hp) hp' upd_same ⟨s1, ?_, by omega, fun c hc => (hdm c ((s2 c).mp hc)).1, fun c hc => (hdm c ((s2 c).mp hc)).2⟩ (by omega)
        intro z
        have : ds.length ≠ 0 := by omega
        cases ds with
        | nil => exact this rfl
        | cons d r =>
          have := (s2 d).mpr List.mem_cons_self
          rw [z] at this
          cases this
end
end CY

set_option Elab.async false
set_option linter.all false
set_option maxRecDepth 100000
set_option maxHeartbeats 4000000
namespace CY
open PySem PySem.Spec PyProof.Rows L2
section
variable {P : Program} {w : World} {K : PySem.W.Frag} {mg : Str → Option Value} {base : Heap}
theorem menu3 {j : Int} (h0 : 0 ≤ j) (h1 : j < 3) : ∃ m : Int, atI [V.int 9, V.int 14, V.int 24] j = some (.int m) ∧ 9 ≤ m ∧ m ≤ 24 := by
  have : j = 0 ∨ j = 1 ∨ j = 2 := by omega
  rcases this with rfl | rfl | rfl
  · exact ⟨9, rfl, by decide, by decide⟩
  · exact ⟨14, rfl, by decide, by decide⟩
  · exact ⟨24, rfl, by decide, by decide⟩
theorem ok__law_purse {f : Addr} {fd : FuncData} (F : Fun K "_law_purse" "_law_purse" s__law_purse f fd) (T : Tx mg) (C__law_cell : Fn P w K mg base "_law_cell" ["_law_script", "_law_k"] 1 (sp_cell K)) (C__law_mix : Fn P w K mg base "_law_mix" ["_law_cell_here", "_law_prime", "_law_many"] 1 sp_mix)
    (C__law_coins : Fn P w K mg base "_law_coins" ["_law_script", "_law_at", "_law_most"] 2 (sp_coins K)) : FnOk P w K mg base CX0 3 f fd ["_law_script", "_law_at"] (sp_purse K) := by
  refine F.ok sc__law_purse (fun vs H Q E h => ?_) (fun cdv A outer s H vs Q E hr h => ?_)
  · obtain ⟨a, ns, k, rfl, _⟩ := h
    rfl
  · obtain ⟨a, ns, k, rfl, hS, hlen, hk, q⟩ := h
    refine ⟨_, (pss_cons (ps_set (i := 2) sc__law_purse.nd rfl (Or.inl (by kernel_rfl)) (pe_ix (ix_anyK (K := K) rfl) (pe_lst (pa_cons pe_int (pa_cons pe_int (pa_cons pe_int pa_nil)))) (pe_fn C__law_mix (hr.mono (by decide)) (pa_cons (pe_fn C__law_cell (hr.mono (by decide)) (pa_cons (pv 0) (pa_cons (pv 1) pa_nil))) (pa_cons pe_int (pa_cons pe_int pa_nil)))) (fun _ _ => rfl)))
      (pss_cons (ps_if (pt_cmpR op_gt (pe_callB (lenK (K := K) rfl) (gl_of (by kernel_rfl)) T.b_len boot_len (pa_cons (pv 0) pa_nil)) pe_int (nomark _)) (pss_one (ps_set (i := 2) sc__law_purse.nd rfl (Or.inl (by kernel_rfl)) pe_int)) pss_nil)
      (pss_one (ps_ret (pe_callTy (tupleK (K := K) rfl) (gl_of (by kernel_rfl)) T.b_tuple boot_tuple (pa_cons (pe_fn C__law_coins (hr.mono (by decide)) (pa_cons (pv 0) (pa_cons (pv 1) (pa_cons (pv 2) pa_nil)))) pa_nil)))))), ?_⟩
    refine ⟨by decide, fun p hp => ?_⟩
    have s1 : Same H (upd H p (.lst [V.int 9, V.int 14, V.int 24])) := (Same.refl H).put hp
    refine ⟨_, rfl, _, rfl, a, ns, k, rfl, s1.seq hS, hk, _, 9949, 3, rfl, by decide, by decide, ?_⟩
    obtain ⟨m, hm, m1, m2⟩ := menu3 (Int.emod_nonneg (cell ns k * 48271 % 9949) (by decide)) (Int.emod_lt_of_pos (cell ns k * 48271 % 9949) (by decide))
    refine ⟨p, _, _, _, rfl, rfl, .lst upd_same, hm, ?_⟩
    refine ⟨_, rfl, a, ivs ns, rfl, .inl (s1.seq hS), _, _, rfl, rfl, _, rfl, ?_⟩
    have hl : (ivs ns).length = ns.length := List.length_map ..
    rw [hl]
    refine ite2 (fun h1 => ?_) (fun h1 => ?_)
    · have := of_decide_eq_true h1
      omega
    · refine ⟨_, rfl, _, rfl, _, rfl, a, ns, k, m, rfl, s1.seq hS, hk, by omega, fun l cs H' s2 hn hl hP hc => ?_⟩
      refine ⟨l, ivs cs, rfl, .inl ⟨.of hl, fun t ht => ?_⟩⟩
      exact q t cs _ ((s1.trans s2).put ht) upd_same ⟨hP.rise, hP.ne, hP.few, hP.lo, fun c hc => Int.le_trans (hP.hi c hc) m2⟩ hc
end
end CY

set_option Elab.async false
set_option linter.all false
set_option maxRecDepth 100000
set_option maxHeartbeats 4000000
namespace CY
open PySem PySem.Spec PyProof.Rows L2
theorem ifT {c : Bool} {A B : Prop} (hc : c = true) (h : A) : if c = true then A else B := by
  rw [if_pos hc]
  exact h
theorem ifF {c : Bool} {A B : Prop} (hc : c = false) (h : B) : if c = true then A else B := by
  rw [hc, if_neg Bool.false_ne_true]
  exact h
theorem ifN {c : Bool} {A B : Prop} (hc : c = true) (h : B) : if (!c) = true then A else B := by
  rw [hc, if_neg (by decide)]
  exact h
theorem kit_ii (K : PySem.W.Frag) : PySem.W.kitOne K (.type "int") (.type "int") = some true := rfl
theorem kit_ib (K : PySem.W.Frag) : PySem.W.kitOne K (.type "int") (.type "bool") = some false := by kernel_rfl
theorem kit_tt (K : PySem.W.Frag) : PySem.W.kitOne K (.type "tuple") (.type "tuple") = some true := rfl
theorem kit_bb (K : PySem.W.Frag) : PySem.W.kitOne K (.type "bool") (.type "bool") = some true := rfl
section
variable {P : Program} {w : World} {K : PySem.W.Frag} {mg : Str → Option Value} {base : Heap}
theorem ok_is_whole {f : Addr} {fd : FuncData} (F : Fun K "is_whole" "is_whole" s_is_whole f fd) (T : Tx mg) : FnOk P w K mg base CX0 1 f fd ["thing"] sp_whole := by
  refine F.ok sc_is_whole (fun vs H Q E h => ?_) (fun cdv A outer s H vs Q E hr h => ?_)
  · obtain ⟨i, rfl, _⟩ := h
    rfl
  · obtain ⟨i, rfl, q⟩ := h
    refine ⟨_, (pss_one (ps_ret (pe_and (pe_callB (isinstK (K := K) rfl) (gl_of (by kernel_rfl)) T.b_isinstance boot_isinstance (pa_cons (pv 0) (pa_cons (pe_ty T.b_int boot_int) pa_nil))) (pe_one (pe_un (notK (K := K) rfl) (pe_callB (isinstK (K := K) rfl) (gl_of (by kernel_rfl)) T.b_isinstance boot_isinstance (pa_cons (pv 0) (pa_cons (pe_ty T.b_bool boot_bool) pa_nil)))))))), ?_⟩
    refine ⟨_, rfl, _, _, _, _, rfl, .int i, kit_ii K, _, rfl, ?_⟩
    refine iteT ?_
    refine ⟨_, rfl, _, _, _, _, rfl, .int i, kit_ib K, false, rfl, q⟩
theorem ivs_nth {cs : List Int} {i : Nat} {v : V} (h : (ivs cs)[i]? = some v) : ∃ c, v = .int c ∧ cs[i]? = some c := by
  unfold ivs at h
  rw [List.getElem?_map] at h
  cases e : cs[i]? with
  | none => rw [e] at h; cases h
  | some c => rw [e] at h; cases h; exact ⟨c, rfl, rfl⟩
theorem _root_.L2.SqL.keep {K : PySem.W.Frag} {H H' : Hp} {a : Addr} {xs : List V} (h : SqL K H a xs) (k : ∀ o, H a = some o → H' a = some o) : SqL K H' a xs := by
  rcases h with (h | ⟨o, h⟩) | h
  · exact .inl (.inl (k _ h))
  · exact .inl (.inr ⟨o, k _ h⟩)
  · exact .inr h
theorem _root_.L2.SqT.keep {K : PySem.W.Frag} {H H' : Hp} {a : Addr} {xs : List V} (h : SqT K H a xs) (k : ∀ o, H a = some o → H' a = some o) : SqT K H' a xs := by
  rcases h with (h | ⟨o, h⟩) | h
  · exact .inl (.inl (k _ h))
  · exact .inl (.inr ⟨o, k _ h⟩)
  · exact .inr h
/-- a loop over a tuple or a list that stays -/
theorem for_seq {K : PySem.W.Frag} {a : Addr} {xs : List V} {g : TG} {tb : TS} {D : Ends} {σ : L2.St} {H : Hp} (Pv : Nat → L2.St → Hp → Prop) (h : SqA K H a xs) (h0 : Pv 0 σ H) (hl : ∀ i σ' H', Pv i σ' H' → ∀ o, H a = some o → H' a = some o)
    (hs : ∀ i x σ H, xs[i]? = some x → Pv i σ H → g x σ H fun σ2 H2 => tb { D with nx := Pv (i + 1), ct := Pv (i + 1), bk := D.nx } σ2 H2) (hd : ∀ σ H, Pv xs.length σ H → D.nx σ H) :
    ((∃ xs, SqL K H a xs) ∧ ∃ W : Nat → Nat → L2.St → Hp → Prop, (∃ m, W 0 m σ H) ∧ ∀ i m σ H, W i m σ H →
      ((Itl K a).stop i H ∧ D.nx σ H) ∨ ((Itl K a).go i H ∧ ∃ N : L2.St → Hp → Prop, (∀ σ' H', N σ' H' → ∃ m', m' < m ∧ W (i + 1) m' σ' H') ∧ ∀ x H', (Itl K a).yld i H x H' → g x σ H' fun σ2 H2 => tb { D with nx := N, ct := N, bk := D.nx } σ2 H2)) ∨
    ((∃ xs, SqT K H a xs) ∧ ∃ W : Nat → Nat → L2.St → Hp → Prop, (∃ m, W 0 m σ H) ∧ ∀ i m σ H, W i m σ H →
      ((Itt K a).stop i H ∧ D.nx σ H) ∨ ((Itt K a).go i H ∧ ∃ N : L2.St → Hp → Prop, (∀ σ' H', N σ' H' → ∃ m', m' < m ∧ W (i + 1) m' σ' H') ∧ ∀ x H', (Itt K a).yld i H x H' → g x σ H' fun σ2 H2 => tb { D with nx := N, ct := N, bk := D.nx } σ2 H2)) := by
  rcases h with h | h
  · exact .inl ⟨⟨xs, h⟩, for_list Pv h0 (fun i σ' H' _ pv => h.keep (hl i σ' H' pv)) hs hd⟩
  · exact .inr ⟨⟨xs, h⟩, for_tup Pv h0 (fun i σ' H' _ pv => h.keep (hl i σ' H' pv)) hs hd⟩
theorem ok_checked {f : Addr} {fd : FuncData} {t1 t2 : Tok} (F : Fun K "checked" "checked" s_checked f fd) (T : Tx mg) (h_MOST_COINS : mg "MOST_COINS" = some (.int 40 t1)) (h_GREATEST_COIN : mg "GREATEST_COIN" = some (.int 400 t2))
    (C_is_whole : Fn P w K mg base "is_whole" ["thing"] 1 sp_whole) : FnOk P w K mg base CX0 2 f fd ["purse"] (sp_checked K) := by
  refine F.ok sc_checked (fun vs H Q E h => ?_) (fun cdv A outer s H vs Q E hr h => ?_)
  · obtain ⟨t, cs, rfl, _⟩ := h
    rfl
  · obtain ⟨t, cs, rfl, ht, hP, q⟩ := h
    have hS : SqA K H t (ivs cs) := .tpl ht
    refine ⟨_, (pss_cons (ps_if (pt_not (pt_val (pe_callB (isinstK (K := K) rfl) (gl_of (by kernel_rfl)) T.b_isinstance boot_isinstance (pa_cons (pv 0) (pa_cons (pe_ty T.b_tuple boot_tuple) pa_nil))))) pss_never pss_nil)
      (pss_cons (ps_if (pt_not (pt_chain op_le op_le pe_int (pe_callB (lenK (K := K) rfl) (gl_of (by kernel_rfl)) T.b_len boot_len (pa_cons (pv 0) pa_nil)) (pe_num h_MOST_COINS))) pss_never pss_nil)
      (pss_cons (ps_set (i := 1) sc_checked.nd rfl (Or.inl (by kernel_rfl)) pe_int)
      (pss_cons (ps_for PassesOwn.never rfl (pi_seqK (K := K) rfl (pv 0)) (pg_name (i := 2) sc_checked.nd rfl (Or.inl (by kernel_rfl))) (pss_cons (ps_if (pt_not (pt_val (pe_fn C_is_whole (hr.mono (by decide)) (pa_cons (pv 2) pa_nil)))) pss_never pss_nil)
      (pss_cons (ps_if (pt_not (pt_chain op_lt op_le (pv 1) (pv 2) (pe_num h_GREATEST_COIN))) pss_never pss_nil)
      (pss_one (ps_set (i := 1) sc_checked.nd rfl (Or.inl (by kernel_rfl)) (pv 2))))))
      (pss_one (ps_ret (pv 0))))))), ?_⟩
    refine ⟨_, rfl, _, _, _, _, rfl, .tup ht, kit_tt K, _, rfl, ?_⟩
    refine iteF ?_
    have hl : (ivs cs).length = cs.length := List.length_map ..
    have h1 : 1 ≤ cs.length := by
      cases hc : cs with
      | nil => exact absurd hc hP.ne
      | cons => simp
    have h40 := hP.few
    refine ⟨_, rfl, t, ivs cs, rfl, hS, _, _, rfl, rfl, _, rfl, ?_⟩
    rw [hl]
    refine ifT (by simp; omega) ?_
    refine ⟨_, _, rfl, rfl, _, rfl, ?_⟩
    refine ifN (by simp; omega) ?_
    refine ⟨_, rfl, t, rfl, ?_⟩
    refine for_seq (xs := ivs cs) (fun i σ H' => ∃ (b : Int) (x : Option V), σ = [some (.ref t), some (.int b), x] ∧ H' = H ∧ ∀ c, cs[i]? = some c → b < c) hS ⟨0, none, rfl, rfl, fun c hc => ?_⟩ (fun i σ' H' ⟨_, _, _, e, _⟩ => by rw [e]; exact fun _ z => z) ?_ ?_
    · have := hP.lo c (List.mem_of_getElem? hc)
      omega
    · rintro i v σ H' hv ⟨b, x, rfl, rfl, hb⟩
      obtain ⟨c, rfl, hc⟩ := ivs_nth hv
      have c1 := hb c hc
      have c2 := hP.hi c (List.mem_of_getElem? hc)
      refine ⟨_, rfl, c, rfl, _, rfl, ?_⟩
      refine iteF ?_
      refine ⟨_, rfl, _, rfl, _, _, rfl, rfl, _, rfl, ?_⟩
      refine ifT (by simpa using c1) ?_
      refine ⟨_, _, rfl, rfl, _, rfl, ?_⟩
      refine ifN (by simp; omega) ?_
      refine ⟨_, rfl, c, _, rfl, rfl, fun d hd => ?_⟩
      have h2 := (List.getElem?_eq_some_iff.mp hc)
      have h3 := (List.getElem?_eq_some_iff.mp hd)
      obtain ⟨a1, a2⟩ := h2
      obtain ⟨b1, b2⟩ := h3
      have := List.pairwise_iff_getElem.mp hP.rise i (i + 1) a1 b1 (by omega)
      rw [a2, b2] at this
      exact this
    · rintro σ H' ⟨b, x, rfl, rfl, _⟩
      exact ⟨_, rfl, q⟩
end
end CY

set_option Elab.async false
set_option linter.all false
set_option maxRecDepth 100000
set_option maxHeartbeats 4000000
namespace CY
open PySem PySem.Spec PyProof.Rows L2
theorem flat_ivs (ns : List Int) : (ivs ns).all flatV = true := flat_plain (plain_ints ns)
section
variable {P : Program} {w : World} {K : PySem.W.Frag} {mg : Str → Option Value} {base : Heap}
end
end CY

set_option Elab.async false
set_option linter.all false
set_option maxRecDepth 100000
set_option maxHeartbeats 4000000
namespace CY
open PySem PySem.Spec PyProof.Rows L2
theorem rngV_nth {lo : Int} {n i : Nat} {v : V} (h : (rngV lo n)[i]? = some v) : i < n ∧ v = .int (lo + i) := by
  have hi : i < n := by
    have := (List.getElem?_eq_some_iff.mp h).1
    rw [rngV_len] at this
    exact this
  refine ⟨hi, ?_⟩
  unfold rngV at h
  simp [hi] at h
  exact h.symm
section
variable {P : Program} {w : World} {K : PySem.W.Frag} {mg : Str → Option Value} {base : Heap}
def sp_law (K : PySem.W.Frag) : Sp := fun vs H Q _ => ∃ (a : Addr) (ns : List Int), vs = [.ref a] ∧ SqL K H a (ivs ns) ∧ ns.length ≤ 63 ∧ ∀ H', Q (.bl true) H'
end
end CY

set_option Elab.async false
set_option linter.all false
set_option maxRecDepth 100000
set_option maxHeartbeats 4000000
namespace CY
open PySem PySem.Spec PyProof.Rows L2
theorem Purse.wide {cs : List Int} (h : Purse 24 cs) : Purse 400 cs := ⟨h.rise, h.ne, h.few, h.lo, fun c hc => by have := h.hi c hc; omega⟩
section
variable {P : Program} {w : World} {K : PySem.W.Frag} {mg : Str → Option Value} {base : Heap}
end
end CY

set_option Elab.async false
set_option linter.all false
set_option maxRecDepth 100000
set_option maxHeartbeats 4000000
namespace CY
open PySem PySem.Spec PyProof.Rows L2
theorem kit_bi (K : PySem.W.Frag) : PySem.W.kitOne K (.type "bool") (.type "int") = some true := by kernel_rfl
theorem kit_si (K : PySem.W.Frag) : PySem.W.kitOne K (.type "str") (.type "int") = some false := by kernel_rfl
theorem kit_ni (K : PySem.W.Frag) : PySem.W.kitOne K (.type "NoneType") (.type "int") = some false := by kernel_rfl
theorem kit_li (K : PySem.W.Frag) : PySem.W.kitOne K (.type "list") (.type "int") = some false := by kernel_rfl
theorem kit_ti (K : PySem.W.Frag) : PySem.W.kitOne K (.type "tuple") (.type "int") = some false := by kernel_rfl
theorem kit_it (K : PySem.W.Frag) : PySem.W.kitOne K (.type "int") (.type "tuple") = some false := by kernel_rfl
theorem kit_bt (K : PySem.W.Frag) : PySem.W.kitOne K (.type "bool") (.type "tuple") = some false := by kernel_rfl
theorem kit_st (K : PySem.W.Frag) : PySem.W.kitOne K (.type "str") (.type "tuple") = some false := by kernel_rfl
theorem kit_nt (K : PySem.W.Frag) : PySem.W.kitOne K (.type "NoneType") (.type "tuple") = some false := by kernel_rfl
theorem kit_lt (K : PySem.W.Frag) : PySem.W.kitOne K (.type "list") (.type "tuple") = some false := by kernel_rfl
theorem Kind.noTup {K : PySem.W.Frag} {H : Hp} {v : V} {b : Bool} (k : Kind H v b) (h : ∀ a xs, v = .ref a → H a ≠ some (.tup xs)) : ∃ t, TyOf K H v t ∧ PySem.W.kitOne K t (.type "tuple") = some false := by
  cases k with
  | int i => exact ⟨_, .int i, kit_it K⟩
  | bl b => exact ⟨_, .bl b, kit_bt K⟩
  | str s => exact ⟨_, .str s, kit_st K⟩
  | non => exact ⟨_, .non, kit_nt K⟩
  | lst e => exact ⟨_, .lst e, kit_lt K⟩
  | tup e => exact absurd e (h _ _ rfl)
section
variable {P : Program} {w : World} {K : PySem.W.Frag} {mg : Str → Option Value} {base : Heap} {c_BadPurse c_BadSum c_CoinError : Addr}
theorem no_is_whole {f : Addr} {fd : FuncData} (F : Fun K "is_whole" "is_whole" s_is_whole f fd) (T : Tx mg) : FnOk P w K mg base CX0 1 f fd ["thing"] sp_wholeG := by
  refine F.ok sc_is_whole (fun vs H Q E h => ?_) (fun cdv A outer s H vs Q E hr h => ?_)
  · obtain ⟨v, b, rfl, _⟩ := h
    rfl
  · obtain ⟨v, b, rfl, k, q⟩ := h
    refine ⟨_, (pss_one (ps_ret (pe_and (pe_callB (isinstK (K := K) rfl) (gl_of (by kernel_rfl)) T.b_isinstance boot_isinstance (pa_cons (pv 0) (pa_cons (pe_ty T.b_int boot_int) pa_nil))) (pe_one (pe_un (notK (K := K) rfl) (pe_callB (isinstK (K := K) rfl) (gl_of (by kernel_rfl)) T.b_isinstance boot_isinstance (pa_cons (pv 0) (pa_cons (pe_ty T.b_bool boot_bool) pa_nil)))))))), ?_⟩
    cases k with
    | int i =>
      refine ⟨_, rfl, _, _, _, _, rfl, .int i, kit_ii K, _, rfl, ?_⟩
      refine iteT ?_
      exact ⟨_, rfl, _, _, _, _, rfl, .int i, kit_ib K, false, rfl, q⟩
    | bl b =>
      refine ⟨_, rfl, _, _, _, _, rfl, .bl b, kit_bi K, _, rfl, ?_⟩
      refine iteT ?_
      exact ⟨_, rfl, _, _, _, _, rfl, .bl b, kit_bb K, true, rfl, q⟩
    | str s =>
      refine ⟨_, rfl, _, _, _, _, rfl, .str s, kit_si K, _, rfl, ?_⟩
      exact iteF q
    | non =>
      refine ⟨_, rfl, _, _, _, _, rfl, .non, kit_ni K, _, rfl, ?_⟩
      exact iteF q
    | lst e =>
      refine ⟨_, rfl, _, _, _, _, rfl, .lst e, kit_li K, _, rfl, ?_⟩
      exact iteF q
    | tup e =>
      refine ⟨_, rfl, _, _, _, _, rfl, .tup e, kit_ti K, _, rfl, ?_⟩
      exact iteF q
theorem no_checked {f : Addr} {fd : FuncData} {t1 t2 : Tok} (F : Fun K "checked" "checked" s_checked f fd) (T : Tx mg) (h_MOST_COINS : mg "MOST_COINS" = some (.int 40 t1)) (h_GREATEST_COIN : mg "GREATEST_COIN" = some (.int 400 t2)) (X_BadPurse : Err K mg "BadPurse" c_BadPurse c_CoinError)
    (W_is_whole : Fn P w K mg base "is_whole" ["thing"] 1 sp_wholeG) : FnOk P w K mg base (CX1C P w) 2 f fd ["purse"] (sp_no1 c_BadPurse) := by
  refine F.okC sc_checked (fun vs H Q E h => ?_) (fun cdv A outer s H vs Q E hr h => ?_)
  · obtain ⟨v, rfl, _⟩ := h
    rfl
  · obtain ⟨v, rfl, np, q⟩ := h
    refine ⟨_, (pss_cons (ps_if (pt_not (pt_val (pe_callB (isinstK (K := K) rfl) (gl_of (by kernel_rfl)) T.b_isinstance boot_isinstance (pa_cons (pv 0) (pa_cons (pe_ty T.b_tuple boot_tuple) pa_nil))))) (pss_one (ps_raise (throw1C fun _ _ _ z => z) rfl X_BadPurse.toExc (pa_cons pe_str pa_nil))) pss_nil)
      (pss_cons (ps_if (pt_not (pt_chain op_le op_le pe_int (pe_callB (lenK (K := K) rfl) (gl_of (by kernel_rfl)) T.b_len boot_len (pa_cons (pv 0) pa_nil)) (pe_num h_MOST_COINS))) (pss_one (ps_raise (throw1C fun _ _ _ z => z) rfl X_BadPurse.toExc (pa_cons (pe_fstr (pj_cons pp_str (pj_cons (pp_int (pe_num h_MOST_COINS)) (pj_cons pp_str pj_nil)))) pa_nil))) pss_nil)
      (pss_cons (ps_set (i := 1) sc_checked.nd rfl (Or.inl (by kernel_rfl)) pe_int)
      (pss_cons (ps_for (by passes_own) rfl (pi_seqK (K := K) rfl (pv 0)) (pg_name (i := 2) sc_checked.nd rfl (Or.inl (by kernel_rfl))) (pss_cons (ps_if (pt_not (pt_val (pe_fn W_is_whole (hr.mono (by decide)) (pa_cons (pv 2) pa_nil)))) (pss_one (ps_raise (throw1C fun _ _ _ z => z) rfl X_BadPurse.toExc (pa_cons pe_str pa_nil))) pss_nil)
      (pss_cons (ps_if (pt_not (pt_chain op_lt op_le (pv 1) (pv 2) (pe_num h_GREATEST_COIN))) (pss_one (ps_raise (throw1C fun _ _ _ z => z) rfl X_BadPurse.toExc (pa_cons (pe_fstr (pj_cons pp_str (pj_cons (pp_int (pe_num h_GREATEST_COIN)) (pj_cons pp_str pj_nil)))) pa_nil))) pss_nil)
      (pss_one (ps_set (i := 1) sc_checked.nd rfl (Or.inl (by kernel_rfl)) (pv 2))))))
      (pss_one (ps_ret (pv 0))))))), ?_⟩
    cases np with
    | kind k h =>
      obtain ⟨t, ht, hk⟩ := k.noTup (K := K) h
      refine ⟨_, rfl, _, _, _, _, rfl, ht, hk, _, rfl, ?_⟩
      refine iteT ?_
      exact ⟨by show 1 ≤ sizeLine; decide, q _ (Same.refl _)⟩
    | @tup t xs e k h hz =>
      have hS : SqA K H t xs := .tpl e
      refine ⟨_, rfl, _, _, _, _, rfl, .tup e, kit_tt K, _, rfl, ?_⟩
      refine iteF ?_
      refine ⟨_, rfl, t, xs, rfl, hS, _, _, rfl, rfl, _, rfl, ?_⟩
      by_cases h1 : 1 ≤ xs.length
      · refine ifT (decide_eq_true (by omega)) ?_
        refine ⟨_, _, rfl, rfl, _, rfl, ?_⟩
        by_cases h2 : xs.length ≤ 40
        · refine ifN (decide_eq_true (by omega)) ?_
          have hr0 : risF 0 xs = false := by
            rcases h with z | z | z
            · omega
            · omega
            · exact z
          refine ⟨_, rfl, t, rfl, ?_⟩
          refine for_seq (xs := xs) (fun i σ H' => ∃ (b : Int) (x : Option V), σ = [some (.ref t), some (.int b), x] ∧ H' = H ∧ risF b (xs.drop i) = false) hS ⟨0, none, rfl, rfl, hr0⟩ (fun i σ' H' ⟨_, _, _, e, _⟩ => by rw [e]; exact fun _ z => z) ?_ ?_
          · rintro i v σ H' hv ⟨b, x, rfl, rfl, hb⟩
            obtain ⟨kb, kd⟩ := k v (List.mem_of_getElem? hv)
            have ed : xs.drop i = v :: xs.drop (i + 1) := by
              obtain ⟨a1, a2⟩ := List.getElem?_eq_some_iff.mp hv
              rw [← a2, List.getElem_cons_drop]
            rw [ed] at hb
            refine ⟨_, rfl, v, kb, rfl, kd, _, rfl, ?_⟩
            cases kd with
            | int c =>
              refine iteF ?_
              have hb' : (decide (b < c) && decide (c ≤ 400) && risF c (xs.drop (i + 1))) = false := hb
              refine ⟨_, rfl, _, rfl, _, _, rfl, rfl, _, rfl, ?_⟩
              by_cases g1 : b < c
              · refine ifT (decide_eq_true g1) ?_
                refine ⟨_, _, rfl, rfl, _, rfl, ?_⟩
                by_cases g2 : c ≤ 400
                · refine ifN (decide_eq_true g2) ?_
                  rw [decide_eq_true g1, decide_eq_true g2, Bool.true_and, Bool.true_and] at hb'
                  exact ⟨_, rfl, c, _, rfl, rfl, hb'⟩
                · refine ifT (by show (!decide (c ≤ 400)) = true; rw [decide_eq_false g2]; rfl) ?_
                  exact ⟨by decide +kernel, _, rfl, by decide +kernel, by decide +kernel, by decide +kernel, by decide +kernel, by show 1 ≤ sizeLine; decide, q _ (Same.refl _)⟩
              · refine ifF (decide_eq_false g1) ?_
                refine ⟨_, rfl, ?_⟩
                refine iteT ?_
                exact ⟨by decide +kernel, _, rfl, by decide +kernel, by decide +kernel, by decide +kernel, by decide +kernel, by show 1 ≤ sizeLine; decide, q _ (Same.refl _)⟩
            | bl _ => exact iteT ⟨by show 1 ≤ sizeLine; decide, q _ (Same.refl _)⟩
            | str _ => exact iteT ⟨by show 1 ≤ sizeLine; decide, q _ (Same.refl _)⟩
            | non => exact iteT ⟨by show 1 ≤ sizeLine; decide, q _ (Same.refl _)⟩
            | lst _ => exact iteT ⟨by show 1 ≤ sizeLine; decide, q _ (Same.refl _)⟩
            | tup _ => exact iteT ⟨by show 1 ≤ sizeLine; decide, q _ (Same.refl _)⟩
          · rintro σ H' ⟨b, x, rfl, rfl, hb⟩
            rw [List.drop_length] at hb
            cases hb
        · refine ifT (by show (!decide (((xs.length : Nat) : Int) ≤ 40)) = true; rw [decide_eq_false (by omega)]; rfl) ?_
          exact ⟨by decide +kernel, _, rfl, by decide +kernel, by decide +kernel, by decide +kernel, by decide +kernel, by show 1 ≤ sizeLine; decide, q _ (Same.refl _)⟩
      · refine ifF (decide_eq_false (by omega)) ?_
        refine ⟨_, rfl, ?_⟩
        refine iteT ?_
        exact ⟨by decide +kernel, _, rfl, by decide +kernel, by decide +kernel, by decide +kernel, by decide +kernel, by show 1 ≤ sizeLine; decide, q _ (Same.refl _)⟩
theorem FnOk.orC {k : Nat} {f : Addr} {fd : FuncData} {ps : List Str} {a b : Sp} (h1 : FnOk P w K mg base CX0 k f fd ps a) (h2 : FnOk P w K mg base (CX1C P w) k f fd ps b) : FnOk P w K mg base (CX1C P w) k f fd ps (orSp a b) := by
  refine ⟨fun vs H Q E h => h.elim (h1.len vs H Q E) (h2.len vs H Q E), fun A outer s H args us vs Q E hr he hb hv hs => ?_⟩
  rcases hs with hs | hs
  · refine codeAny_mono (h1.run A outer s H args us vs Q E hr he hb hv hs) fun r s' q => ?_
    cases r with
    | error e => exact q.elim
    | ok fl => cases fl <;> exact q
  · exact h2.run A outer s H args us vs Q E hr he hb hv hs
end
end CY

set_option Elab.async false
set_option linter.all false
set_option maxRecDepth 100000
set_option maxHeartbeats 4000000
namespace CY
open PySem PySem.Spec PyProof.Rows L2
theorem ris_ints : ∀ (ds : List Int) (b : Int), risF b (ivs ds) = true → (∀ d ∈ ds, b < d ∧ d ≤ 400) ∧ ds.Pairwise (· < ·)
  | [], _, _ => ⟨(fun _ h => by cases h), List.Pairwise.nil⟩
  | d :: ds, b, h => by
    have h' : (decide (b < d) && decide (d ≤ 400) && risF d (ivs ds)) = true := h
    simp only [Bool.and_eq_true, decide_eq_true_eq] at h'
    obtain ⟨⟨h1, h2⟩, h3⟩ := h'
    obtain ⟨i1, i2⟩ := ris_ints ds d h3
    refine ⟨fun x hx => ?_, List.pairwise_cons.mpr ⟨fun x hx => (i1 x hx).1, i2⟩⟩
    rcases List.mem_cons.mp hx with rfl | z
    · exact ⟨h1, h2⟩
    · have := i1 x z
      exact ⟨by omega, this.2⟩
theorem kind_ints (H : Hp) (ds : List Int) : ∀ x ∈ ivs ds, ∃ b, Kind H x b := fun x hx => by
  obtain ⟨d, _, rfl⟩ := List.mem_map.mp hx
  exact ⟨_, .int d⟩
end CY

set_option Elab.async false
set_option linter.all false
set_option maxRecDepth 100000
set_option maxHeartbeats 4000000
namespace CY
open PySem PySem.Spec PyProof.Rows L2
/-- a number in figures, no 0 ahead -/
def figL (l : List Nat) : Bool := decide (1 ≤ l.length ∧ l.length ≤ 3) && decide (l.head? ≠ some 48) && l.all fun c => decide (c ∈ figs.cps.toList)
def sp_fig : Sp := fun vs H Q _ => ∃ z : Str, vs = [.str z] ∧ z.length ≤ 10000 ∧ Q (.bl (figL z.cps.toList)) H
theorem kit_strstr (K : PySem.W.Frag) : PySem.W.kitOne K (.type "str") (.type "str") = some true := by kernel_rfl
def wS (c : Int) : Str := Str.ofString (toString c)
theorem wS_list (c : Int) : (wS c).cps.toList = wordC c := signs_ofString _
theorem wS_len (c : Int) : (wS c).length = (wordC c).length := by rw [← wS_list]; rfl
theorem textC_jn : ∀ cs : List Int, textC cs = jn (cs.map wordC)
  | [] => rfl
  | [_] => rfl
  | c :: d :: r => by
    show wordC c ++ 32 :: textC (d :: r) = wordC c ++ 32 :: jn ((d :: r).map wordC)
    rw [textC_jn (d :: r)]
theorem word_fig (c : Int) (h1 : 1 ≤ c) (h2 : c ≤ 400) : figL (wordC c) = true ∧ 32 ∉ wordC c ∧ (wordC c).length ≤ 3 := by
  obtain ⟨n, rfl⟩ : ∃ n : Nat, c = (n : Int) := ⟨c.toNat, by omega⟩
  rw [word_nat]
  have key : ∀ n : Fin 401, 0 < n.val → figL (wordN n.val) = true ∧ 32 ∉ wordN n.val ∧ (wordN n.val).length ≤ 3 := by decide +kernel
  exact key ⟨n, by omega⟩ (by show 0 < n; omega)
theorem text_join (cs : List Int) : Str.join ⟨#[32]⟩ (cs.map wS) = textOf cs := by
  have h := join_jn (cs.map wS)
  rw [List.map_map] at h
  have e : ((fun w : Str => w.cps.toList) ∘ wS) = wordC := funext fun c => wS_list c
  rw [e, ← textC_jn] at h
  unfold textOf
  cases hj : Str.join ⟨#[32]⟩ (cs.map wS) with
  | mk a =>
    rw [hj] at h
    have h' : a.toList = textC cs := h
    rw [← h']
theorem sum_short : ∀ cs : List Int, (∀ c ∈ cs, 1 ≤ c ∧ c ≤ 400) → ((cs.map wS).map (·.length)).sum ≤ 3 * cs.length
  | [], _ => by simp
  | c :: r, h => by
    have ih := sum_short r fun x hx => h x (List.mem_cons_of_mem _ hx)
    obtain ⟨a, b⟩ := h c List.mem_cons_self
    have := (word_fig c a b).2.2
    rw [List.map_cons, List.map_cons, List.sum_cons, wS_len, List.length_cons]
    omega
def toS : V → V
  | .int n => .str (wS n)
  | v => v
def ofS (cs : List Int) : List V := (cs.map wS).map V.str
theorem map_toS (cs : List Int) : (((ivs cs).filter fun _ => true).map toS) = ofS cs := by
  rw [List.filter_eq_self.mpr fun _ _ => rfl]
  unfold ivs ofS
  rw [List.map_map, List.map_map]
  rfl
def fromS : V → V
  | .str z => .int ((PySem.intText? z).getD 0)
  | v => v
section
variable {P : Program} {w : World} {K : PySem.W.Frag} {mg : Str → Option Value} {base : Heap} {c_BadPurse c_BadText c_CoinError : Addr}
theorem ok_is_number_in_figures {f : Addr} {fd : FuncData} {t5 t6 : Tok} (F : Fun K "is_number_in_figures" "is_number_in_figures" s_is_number_in_figures f fd) (T : Tx mg) (h_FIGURES : mg "FIGURES" = some (.str "0123456789" t5)) (h_MOST_FIGURES : mg "MOST_FIGURES" = some (.int 3 t6)) : FnOk P w K mg base CX0 1 f fd ["text"] sp_fig := by
  refine F.ok sc_is_number_in_figures (fun vs H Q E h => ?_) (fun cdv A outer s H vs Q E hr h => ?_)
  · obtain ⟨z, rfl, _⟩ := h
    rfl
  · obtain ⟨z, rfl, hz, q⟩ := h
    have hz2 : z.length ≤ sizeLine := by rw [sizeLine_eq]; omega
    have ez : z.length = z.cps.toList.length := Array.length_toList.symm
    refine ⟨_, (pss_cons (ps_if (PW.pt (pw_or (pt_not (pt_chain op_le op_le pe_int (pe_callB len_txt (gl_of (by kernel_rfl)) T.b_len boot_len (pa_cons (pv 0) pa_nil)) (pe_num h_MOST_FIGURES))) (pw_or1 (pt_cmpR op_eq (pe_ix ix_str (pv 0) pe_int (fun _ _ => rfl)) pe_str (nomark _))))) (pss_one (ps_ret pe_bl)) pss_nil)
      (pss_cons (ps_for PassesOwn.never rfl (pi_str (pv 0)) (pg_name (i := 1) sc_is_number_in_figures.nd rfl (Or.inl (by kernel_rfl))) (pss_one (ps_if (pt_cmpR op_notin_str (pv 1) (pe_glob (v := V.str "0123456789") (gl_of (by kernel_rfl)) h_FIGURES ⟨_, rfl⟩) (by with_unfolding_all rfl)) (pss_one (ps_ret pe_bl)) pss_nil)))
      (pss_one (ps_ret pe_bl)))), ?_⟩
    refine ⟨_, rfl, z, rfl, hz2, _, _, rfl, rfl, _, rfl, ?_⟩
    by_cases h1 : 1 ≤ z.length
    · refine ifT (decide_eq_true (by omega)) ?_
      refine ⟨_, _, rfl, rfl, _, rfl, ?_⟩
      by_cases h2 : z.length ≤ 3
      · refine ifN (decide_eq_true (by omega)) ?_
        obtain ⟨c0, r0, hl⟩ : ∃ c0 r0, z.cps.toList = c0 :: r0 := by
          cases hc : z.cps.toList with
          | nil => rw [hc] at ez; simp at ez; omega
          | cons c0 r0 => exact ⟨c0, r0, rfl⟩
        have h0 : atI z.cps.toList 0 = some c0 := by
          show atI _ ((0 : Nat) : Int) = _
          exact atI_nat (by rw [hl]; rfl)
        have hlen : decide (1 ≤ z.cps.toList.length ∧ z.cps.toList.length ≤ 3) = true := decide_eq_true (by omega)
        refine ⟨_, rfl, z, 0, c0, rfl, rfl, hz2, h0, rfl, _, rfl, ?_⟩
        by_cases hc0 : c0 = 48
        · refine ifT (decide_eq_true (by rw [hc0]; rfl)) ?_
          have e : figL z.cps.toList = false := by
            unfold figL
            rw [hlen, hl, hc0]
            rfl
          rw [e] at q
          exact q
        · refine ifF (decide_eq_false fun y => hc0 ?_) ?_
          · injection y with y
            have := congrArg (fun w : Str => w.cps.toList) y
            have h' : [c0] = [48] := this
            exact (List.cons.inj h').1
          refine ⟨_, rfl, z, rfl, ?_⟩
          have hh : decide (z.cps.toList.head? ≠ some 48) = true := decide_eq_true (by rw [hl]; simpa using hc0)
          refine for_text (fun i σ H' => ∃ x, σ = [some (.str z), x] ∧ H' = H ∧ (z.cps.toList.take i).all (fun c => decide (c ∈ figs.cps.toList)) = true) ⟨none, rfl, rfl, rfl⟩ ?_ ?_
          · rintro i c σ H' hc ⟨x, rfl, rfl, ha⟩
            have hc' : z.cps.toList[i]? = some c := by rw [Array.getElem?_toList]; exact hc
            refine ⟨_, rfl, _, _, rfl, rfl, _, rfl, ?_⟩
            have fo := StrLaws.found_one figs c
            have fo' : (!(Builtin.Str.occurrences (Str.ofString "0123456789") ⟨#[c]⟩ 0 (Str.ofString "0123456789").length 1).isEmpty) = decide (c ∈ figs.cps.toList) := fo
            rw [fo']
            by_cases hm : c ∈ figs.cps.toList
            · refine ifF (by rw [decide_eq_true hm]; rfl) ?_
              refine ⟨_, rfl, rfl, ?_⟩
              rw [List.take_add_one, hc', List.all_append, ha]
              show (true && (decide (c ∈ figs.cps.toList) && true)) = true
              rw [decide_eq_true hm]
              rfl
            · refine ifT (by rw [decide_eq_false hm]; rfl) ?_
              have e : figL z.cps.toList = false := by
                unfold figL
                rw [hlen, hh]
                show z.cps.toList.all _ = false
                rw [List.all_eq_false]
                exact ⟨c, List.mem_of_getElem? hc', by rw [decide_eq_false hm]; exact Bool.false_ne_true⟩
              rw [e] at q
              exact q
          · rintro σ H' ⟨x, rfl, rfl, ha⟩
            have e : figL z.cps.toList = true := by
              unfold figL
              rw [hlen, hh]
              show z.cps.toList.all _ = true
              have : z.cps.size = z.cps.toList.length := Array.length_toList.symm
              rw [this, List.take_length] at ha
              exact ha
            rw [e] at q
            exact q
      · refine ifT (by show (!decide (((z.length : Nat) : Int) ≤ 3)) = true; rw [decide_eq_false (by omega)]; rfl) ?_
        have e : figL z.cps.toList = false := by
          unfold figL
          rw [decide_eq_false (show ¬ (1 ≤ z.cps.toList.length ∧ z.cps.toList.length ≤ 3) by omega)]
          rfl
        rw [e] at q
        exact q
    · refine ifF (decide_eq_false (by omega)) ?_
      have e : figL z.cps.toList = false := by
        unfold figL
        rw [decide_eq_false (show ¬ (1 ≤ z.cps.toList.length ∧ z.cps.toList.length ≤ 3) by omega)]
        rfl
      rw [e] at q
      refine ⟨_, rfl, ?_⟩
      refine iteT ?_
      exact q
end
end CY

set_option Elab.async false
set_option linter.all false
set_option maxRecDepth 100000
set_option maxHeartbeats 4000000
namespace CY
open PySem PySem.Spec PyProof.Rows L2 PySem.NumText
/-- the words of a text, and what they count -/
def wordsT (z : Str) : List Str := Txt.split z ⟨#[32]⟩
def numsT (z : Str) : List Int := (wordsT z).map fun w => (PySem.intText? w).getD 0
theorem fig_int {w : Str} (h : figL w.cps.toList = true) : ∃ n, PySem.intText? w = some n := by
  unfold figL at h
  rw [Bool.and_eq_true, Bool.and_eq_true, decide_eq_true_iff] at h
  obtain ⟨⟨⟨h1, h2⟩, _⟩, h3⟩ := h
  have ef : figs.cps.toList = [48, 49, 50, 51, 52, 53, 54, 55, 56, 57] := by decide +kernel
  have hl : w.length = w.cps.toList.length := Array.length_toList.symm
  refine ⟨_, intText_digits (fun c hc => ?_) (fun z => by rw [z] at h1; exact absurd h1 (by decide)) (by omega)⟩
  have := of_decide_eq_true (List.all_eq_true.mp h3 c hc)
  rw [ef] at this
  simp only [List.mem_cons, List.not_mem_nil, or_false] at this
  omega
theorem fig_len {l : List Nat} (h : figL l = true) : l.length ≤ 3 := by
  unfold figL at h
  rw [Bool.and_eq_true, Bool.and_eq_true, decide_eq_true_iff] at h
  exact h.1.1.2
theorem kit_iS (K : PySem.W.Frag) : PySem.W.kitOne K (.type "int") (.type "str") = some false := by kernel_rfl
theorem kit_bS (K : PySem.W.Frag) : PySem.W.kitOne K (.type "bool") (.type "str") = some false := by kernel_rfl
theorem kit_nS (K : PySem.W.Frag) : PySem.W.kitOne K (.type "NoneType") (.type "str") = some false := by kernel_rfl
theorem kit_lS (K : PySem.W.Frag) : PySem.W.kitOne K (.type "list") (.type "str") = some false := by kernel_rfl
theorem kit_tS (K : PySem.W.Frag) : PySem.W.kitOne K (.type "tuple") (.type "str") = some false := by kernel_rfl
theorem Kind.noStr {K : PySem.W.Frag} {H : Hp} {v : V} {b : Bool} (k : Kind H v b) (h : ∀ z, v ≠ .str z) : ∃ t, TyOf K H v t ∧ PySem.W.kitOne K t (.type "str") = some false := by
  cases k with
  | int i => exact ⟨_, .int i, kit_iS K⟩
  | bl b => exact ⟨_, .bl b, kit_bS K⟩
  | str s => exact absurd rfl (h s)
  | non => exact ⟨_, .non, kit_nS K⟩
  | lst e => exact ⟨_, .lst e, kit_lS K⟩
  | tup e => exact ⟨_, .tup e, kit_tS K⟩
theorem np_of {H : Hp} {a : Addr} {cs : List Int} (e : H a = some (.tup (ivs cs))) (hz : cs.length ≤ 1000) (h : ¬ Purse 400 cs) : NoPurse H (.ref a) := by
  have el : (ivs cs).length = cs.length := List.length_map ..
  refine .tup e (kind_ints H cs) ?_ (by rw [el]; exact hz)
  rw [el]
  by_cases h0 : cs.length = 0
  · exact .inl h0
  by_cases h4 : 40 < cs.length
  · exact .inr (.inl h4)
  refine .inr (.inr ?_)
  cases hr : risF 0 (ivs cs) with
  | false => rfl
  | true =>
    obtain ⟨r1, r2⟩ := ris_ints cs 0 hr
    exact absurd ⟨r2, (fun z => h0 (by rw [z]; rfl)), by omega, fun c hc => by have := (r1 c hc).1; omega, fun c hc => (r1 c hc).2⟩ h
theorem map_nums (z : Str) : ((((wordsT z).map V.str).filter fun _ => true).map fromS) = ivs (numsT z) := by
  rw [List.filter_eq_self.mpr fun _ _ => rfl]
  unfold ivs numsT
  rw [List.map_map, List.map_map]
  rfl
theorem nums_len (z : Str) : (numsT z).length ≤ z.length + 2 := by
  unfold numsT wordsT
  rw [List.length_map]
  exact split_le z _
def sp_readT (T : Addr) : Sp := fun vs H Q E => (∃ z : Str, vs = [.str z] ∧ z.length ≤ 900 ∧ ((∀ w ∈ wordsT z, figL w.cps.toList = true) → Purse 400 (numsT z) → ∀ (t : Addr) (H' : Hp), Same H H' → H' t = some (.tup (ivs (numsT z))) → Q (.ref t) H') ∧ (¬ ((∀ w ∈ wordsT z, figL w.cps.toList = true) ∧ Purse 400 (numsT z)) → ∀ H', Same H H' → E (.ref T) none H')) ∨
  (∃ (v : V) (b : Bool), vs = [v] ∧ Kind H v b ∧ (∀ z, v ≠ .str z) ∧ ∀ H', Same H H' → E (.ref T) none H')
section
variable {P : Program} {w : World} {K : PySem.W.Frag} {mg : Str → Option Value} {base : Heap} {c_BadPurse c_BadText c_CoinError : Addr}
theorem ok_read {f : Addr} {fd : FuncData} (F : Fun K "read" "read" s_read f fd) (T : Tx mg) (X_BadText : Err K mg "BadText" c_BadText c_CoinError) (X_BadPurse : Err K mg "BadPurse" c_BadPurse c_CoinError) (C_is_number_in_figures : Fn P w K mg base "is_number_in_figures" ["text"] 1 sp_fig) (I_same : PySem.W.mroIn K c_BadPurse (.ref c_BadPurse) = some true) (D_checked : FnXC P w K mg base "checked" ["purse"] 2 (orSp (sp_checked K) (sp_no1 c_BadPurse))) : FnOk P w K mg base (CX1 P w) 6 f fd ["text"] (sp_readT c_BadText) := by
  refine F.okX sc_read (fun vs H Q E h => ?_) (fun cdv A outer s H vs Q E hr h => ?_)
  · rcases h with ⟨z, rfl, _⟩ | ⟨v, b, rfl, _⟩ <;> rfl
  · refine ⟨_, (pss_cons (ps_if (pt_not (pt_val (pe_callB (isinstK (K := K) rfl) (gl_of (by kernel_rfl)) T.b_isinstance boot_isinstance (pa_cons (pv 0) (pa_cons (pe_ty T.b_str boot_str) pa_nil))))) (pss_one (ps_raise (throw1 fun _ _ _ z => z) rfl X_BadText.toExc (pa_cons pe_str pa_nil))) pss_nil)
      (pss_cons (ps_set (i := 1) sc_read.nd rfl (Or.inl (by kernel_rfl)) (pe_bm PySem.F.plainAttrs_str PySem.F.slot_str_split PySem.F.type_str_split mt_split (pv 0) (pa_cons pe_str pa_nil)))
      (pss_cons (ps_for (by passes_own) rfl (pi_seqK (K := K) rfl (pv 1)) (pg_name (i := 2) sc_read.nd rfl (Or.inl (by kernel_rfl))) (pss_one (ps_if (pt_not (pt_val (pe_fn C_is_number_in_figures (hr.mono (by decide)) (pa_cons (pv 2) pa_nil)))) (pss_one (ps_raise (throw1 fun _ _ _ z => z) rfl X_BadText.toExc (pa_cons pe_str pa_nil))) pss_nil)))
      (pss_cons (ps_set (i := 3) sc_read.nd rfl (Or.inl (by kernel_rfl)) (pe_callTy (tupleK (K := K) rfl) (gl_of (by kernel_rfl)) T.b_tuple boot_tuple (pa_cons (pe_comp (x := "number") (M := ["text", "numbers", ".", "coins"]) rfl (CompScope.of (by kernel_rfl)) (pi_seqK (K := K) rfl (pv 1)) (fun _ _ _ _ _ => pts_nil) (fun _ _ _ _ _ => (pe_callTy call_int_txt (gl_of (by kernel_rfl)) T.b_int boot_int (pa_cons (pv 0) pa_nil)))) pa_nil)))
      (pss_one (ps_tryOfC X_BadPurse.toExc rfl rfl rfl (fun hd => PassesOwnAt.leaving) (fun pn xe E hx => (pss_one (ps_ret (pe_fnXC D_checked hx (hr.mono (by decide)) (pa_cons (pv 3) pa_nil))))) (fun pn y oy vy ok hpn hy ho hv => (pss_one (ps_raiseNone (throwW fun _ _ _ z => z) hpn hy ho hv ok X_BadText.toExc (pa_cons pe_str pa_nil)))))))))), ?_⟩
    rcases h with ⟨z, rfl, hz, q1, q2⟩ | ⟨v, b, rfl, k, nz, q⟩
    · refine ⟨_, rfl, _, _, _, _, rfl, .str _, kit_strstr K, _, rfl, ?_⟩
      refine iteF ?_
      refine ⟨_, rfl, rfl, z, ⟨#[32]⟩, rfl, rfl, rfl, by rw [sizeLine_eq]; omega, fun l hl => ?_⟩
      have s1 := (Same.refl H).put (o := .lst ((wordsT z).map V.str)) hl
      have h1 : (upd H l (.lst ((wordsT z).map V.str))) l = some (.lst ((wordsT z).map V.str)) := upd_same
      rw [show Txt.split z ⟨#[32]⟩ = wordsT z from rfl]
      generalize upd H l (.lst ((wordsT z).map V.str)) = H1 at s1 h1 ⊢
      have nth : ∀ {i : Nat} {v : V}, ((wordsT z).map V.str)[i]? = some v → ∃ u, v = .str u ∧ (wordsT z)[i]? = some u := fun {i v} h => by
        rw [List.getElem?_map] at h
        cases e : (wordsT z)[i]? with
        | none => rw [e] at h; cases h
        | some u => rw [e] at h; exact ⟨u, (Option.some.inj h).symm, rfl⟩
      have sh : ∀ u ∈ wordsT z, u.length ≤ z.length := fun u hu => part_short hu
      refine ⟨_, rfl, l, rfl, ?_⟩
      refine for_seq (xs := (wordsT z).map V.str) (fun i σ H' => ∃ x, σ = [some (.str z), some (.ref l), x, none] ∧ H' = H1 ∧ ∀ u ∈ (wordsT z).take i, figL u.cps.toList = true) (.lst h1) ⟨none, rfl, rfl, fun u hu => by cases hu⟩ (fun i σ' H' ⟨_, _, e, _⟩ => by rw [e]; exact fun _ z => z) ?_ ?_
      · rintro i v σ H' hv ⟨x, rfl, rfl, ha⟩
        obtain ⟨u, rfl, hu⟩ := nth hv
        have hum := List.mem_of_getElem? hu
        have := sh u hum
        refine ⟨_, rfl, u, rfl, by omega, _, rfl, ?_⟩
        by_cases fg : figL u.cps.toList = true
        · rw [fg]
          refine iteF ?_
          refine ⟨_, rfl, rfl, fun y hy => ?_⟩
          rw [List.take_add_one, hu] at hy
          rcases List.mem_append.mp hy with z | z
          · exact ha y z
          · rw [List.mem_singleton.mp z]; exact fg
        · rw [Bool.eq_false_iff.mpr fg]
          refine iteT ?_
          exact ⟨by show 1 ≤ sizeLine; decide, q2 (fun h => fg (h.1 u hum)) _ s1⟩
      · rintro σ H' ⟨x, rfl, rfl, ha⟩
        rw [List.length_map, List.take_length] at ha
        have nl := nums_len z
        refine ⟨_, rfl, l, rfl, ?_⟩
        refine comp_seq (fun _ H2 => H2 = H') (fun _ => true) fromS (by rw [List.length_map, sizeLine_eq]; have := split_le z ⟨#[32]⟩; show (Txt.split z _).length < _; omega) rfl (fun _ _ e => by rw [e]; exact Same.refl _) (.lst h1) ?_ ?_
        · rintro j v H2 R R' hv rfl hR hR'
          obtain ⟨u, rfl, hu⟩ := nth hv
          have hum := List.mem_of_getElem? hu
          obtain ⟨n, hn⟩ := fig_int (ha u hum)
          have hR1 := hR _ rfl rfl
          rw [show fromS (V.str u) = V.int n from by show V.int ((PySem.intText? u).getD 0) = _; rw [hn]; rfl] at hR1
          refine true_then ?_
          exact ⟨_, rfl, u, n, rfl, hn, by have := fig_len (ha u hum); rw [show u.length = u.cps.toList.length from Array.length_toList.symm]; omega, hR1⟩
        · rintro H2 l3 rfl hl3
          rw [map_nums]
          refine ⟨l3, _, rfl, .inl ⟨.of upd_same, fun t4 ht4 => ?_⟩⟩
          have s4 := (s1.put (o := .lst (ivs (numsT z))) hl3).put (o := .tup (ivs (numsT z))) ht4
          by_cases hP : Purse 400 (numsT z)
          · exact ⟨_, rfl, .inl ⟨t4, numsT z, rfl, upd_same, hP, q1 ha hP t4 _ s4 upd_same⟩⟩
          · refine ⟨_, rfl, .inr ⟨.ref t4, rfl, np_of upd_same (by omega) hP, fun H5 s5 => ?_⟩⟩
            refine ⟨c_BadPurse, rfl, X_BadPurse.ok, I_same, fun σ hl => ?_⟩
            exact ⟨by show 1 ≤ sizeLine; decide, q2 (fun h => hP h.2) _ (s4.trans s5)⟩
    · obtain ⟨ty, ht, hk⟩ := k.noStr (K := K) nz
      refine ⟨_, rfl, _, _, _, _, rfl, ht, hk, _, rfl, ?_⟩
      refine iteT ?_
      exact ⟨by show 1 ≤ sizeLine; decide, q _ (Same.refl _)⟩
end
end CY

set_option Elab.async false
set_option linter.all false
set_option maxRecDepth 100000
set_option maxHeartbeats 4000000
namespace CY
open PySem PySem.Spec PyProof.Rows L2 PySem.NumText
/-- the text of a purse -/
def goodT (z : Str) : Prop := (∀ w ∈ wordsT z, figL w.cps.toList = true) ∧ Purse 400 (numsT z)
/-- what read refuses -/
def BadV (H : Hp) (v : V) : Prop := (∃ z : Str, v = .str z ∧ z.length ≤ 900 ∧ ¬ goodT z) ∨ (∃ b : Bool, Kind H v b ∧ ∀ z, v ≠ .str z)
def sp_refd : Sp := fun vs H Q _ => ∃ v, vs = [v] ∧ BadV H v ∧ ∀ H', Same H H' → Q (.bl true) H'
/-- what the law counts of a word -/
def numT (w : Str) : Int := if figL w.cps.toList = true then (PySem.intText? w).getD 0 else 0
def sp_num25 : Sp := fun vs H Q _ => ∃ z : Str, vs = [.str z] ∧ z.length ≤ 10000 ∧ ∀ H', Same H H' → Q (.int (numT z)) H'
def sp_due25 : Sp := fun vs H Q _ => ∃ z : Str, vs = [.str z] ∧ z.length ≤ 900 ∧ (goodT z → ∀ (t : Addr) (H' : Hp), Same H H' → H' t = some (.tup (ivs (numsT z))) → Q (.ref t) H') ∧ (¬ goodT z → ∀ H', Same H H' → Q .non H')
theorem fig_nat {w : Str} (h : figL w.cps.toList = true) : ∃ n : Nat, (PySem.intText? w).getD 0 = (n : Int) := by
  unfold figL at h
  rw [Bool.and_eq_true, Bool.and_eq_true, decide_eq_true_iff] at h
  obtain ⟨⟨⟨h1, h2⟩, _⟩, h3⟩ := h
  have ef : figs.cps.toList = [48, 49, 50, 51, 52, 53, 54, 55, 56, 57] := by decide +kernel
  have hl : w.length = w.cps.toList.length := Array.length_toList.symm
  have := intText_digits (x := w) (fun c hc => by
    have := of_decide_eq_true (List.all_eq_true.mp h3 c hc)
    rw [ef] at this
    simp only [List.mem_cons, List.not_mem_nil, or_false] at this
    omega) (fun z => by rw [z] at h1; exact absurd h1 (by decide)) (by omega)
  rw [this]
  exact ⟨_, rfl⟩
theorem bad_word {z : Str} {ws : List (List Nat)} {a : List Nat} (e : z.cps.toList = jn ws) (h0 : ws ≠ []) (hf : ∀ a ∈ ws, 32 ∉ a) (ha : a ∈ ws) (hb : figL a = false) : ¬ goodT z := fun g => by
  have hw : (⟨a.toArray⟩ : Str) ∈ wordsT z := by
    unfold wordsT
    rw [split_is h0 hf e]
    exact List.mem_map_of_mem ha
  have := g.1 _ hw
  rw [show ((⟨a.toArray⟩ : Str).cps.toList) = a from List.toList_toArray, hb] at this
  cases this
theorem nums_are {z : Str} {ws : List (List Nat)} (e : z.cps.toList = jn ws) (h0 : ws ≠ []) (hf : ∀ a ∈ ws, 32 ∉ a) : numsT z = ws.map fun a => (PySem.intText? ⟨a.toArray⟩).getD 0 := by
  unfold numsT wordsT
  rw [split_is h0 hf e, List.map_map]
  rfl
theorem num_dig {a : List Nat} (h : AllDigits a) (h1 : a ≠ []) (h2 : a.length ≤ 4300) : (PySem.intText? ⟨a.toArray⟩).getD 0 = ((digitsVal a : Nat) : Int) := by
  have e : ((⟨a.toArray⟩ : Str).cps.toList) = a := List.toList_toArray
  have := intText_digits (x := ⟨a.toArray⟩) (by rw [e]; exact h) (by rw [e]; exact h1) (by show a.toArray.size ≤ _; rw [List.size_toArray]; exact h2)
  rw [this, e]
  rfl
theorem jn_snoc : ∀ (ws : List (List Nat)) (a : List Nat), ws ≠ [] → jn (ws ++ [a]) = jn ws ++ 32 :: a
  | [], _, h => absurd rfl h
  | [b], _, _ => rfl
  | b :: c :: r, a, _ => by
    show b ++ 32 :: jn ((c :: r) ++ [a]) = (b ++ 32 :: jn (c :: r)) ++ 32 :: a
    rw [jn_snoc (c :: r) a (List.cons_ne_nil _ _), List.append_assoc]
    rfl
theorem jn_last : ∀ (ws : List (List Nat)) (a b : List Nat), jn (ws ++ [a]) ++ b = jn (ws ++ [a ++ b])
  | [], _, _ => rfl
  | [c], a, b => by
    show (c ++ 32 :: a) ++ b = c ++ 32 :: (a ++ b)
    rw [List.append_assoc]
    rfl
  | c :: d :: r, a, b => by
    show (c ++ 32 :: jn ((d :: r) ++ [a])) ++ b = c ++ 32 :: jn ((d :: r) ++ [a ++ b])
    rw [List.append_assoc, ← jn_last (d :: r) a b]
    rfl
theorem fig_snoc {a : List Nat} : figL (a ++ [10]) = false := by
  have e : ((a ++ [10]).all fun c => decide (c ∈ figs.cps.toList)) = false := by
    rw [List.all_append]
    have : ([10].all fun c => decide (c ∈ figs.cps.toList)) = false := by decide +kernel
    rw [this, Bool.and_false]
  unfold figL
  rw [e, Bool.and_false]
theorem len_str25 (x : List Nat) : (⟨x.toArray⟩ : Str).length = x.length := List.size_toArray
section
variable {cs : List Int} (p : Purse 400 cs)
include p
theorem wf25 : ∀ a ∈ cs.map wordC, 32 ∉ a := fun a ha => by
  obtain ⟨c, hc, rfl⟩ := List.mem_map.mp ha
  exact (word_fig c (p.lo c hc) (p.hi c hc)).2.1
theorem ws_ne25 : cs.map wordC ≠ [] := fun z => p.ne (List.map_eq_nil_iff.mp z)
theorem bad_behind : ¬ goodT (textOf cs ++ ⟨#[32]⟩) := by
  refine bad_word (ws := cs.map wordC ++ [[]]) (a := []) ?_ (fun z => absurd z (by simp)) ?_ (by simp) rfl
  · show ((⟨(textC cs).toArray⟩ : Str) ++ ⟨[32].toArray⟩).cps.toList = _
    rw [str_app, jn_snoc _ _ (ws_ne25 p), textC_jn]
  · intro a ha
    rcases List.mem_append.mp ha with z | z
    · exact wf25 p a z
    · rw [List.mem_singleton.mp z]; exact List.not_mem_nil
theorem bad_ahead : ¬ goodT ((⟨#[32]⟩ : Str) ++ textOf cs) := by
  refine bad_word (ws := [] :: cs.map wordC) (a := []) ?_ (fun z => absurd z (by simp)) ?_ List.mem_cons_self rfl
  · show ((⟨[32].toArray⟩ : Str) ++ ⟨(textC cs).toArray⟩).cps.toList = _
    rw [str_app, textC_jn]
    cases h : cs.map wordC with
    | nil => exact absurd h (ws_ne25 p)
    | cons b r => rfl
  · intro a ha
    rcases List.mem_cons.mp ha with z | z
    · rw [z]; exact List.not_mem_nil
    · exact wf25 p a z
theorem bad_line : ¬ goodT (textOf cs ++ ⟨#[10]⟩) := by
  have hw := wf25 p
  have hn := ws_ne25 p
  have e : cs.map wordC = (cs.map wordC).dropLast ++ [(cs.map wordC).getLast hn] := (List.dropLast_concat_getLast hn).symm
  refine bad_word (ws := (cs.map wordC).dropLast ++ [(cs.map wordC).getLast hn ++ [10]]) (a := (cs.map wordC).getLast hn ++ [10]) ?_ (fun z => absurd z (by simp)) ?_ (by simp) fig_snoc
  · show ((⟨(textC cs).toArray⟩ : Str) ++ ⟨[10].toArray⟩).cps.toList = _
    rw [str_app, ← jn_last, ← e, textC_jn]
  · intro a ha
    rcases List.mem_append.mp ha with z | z
    · exact hw a (by rw [e]; exact List.mem_append_left _ z)
    · rw [List.mem_singleton.mp z]
      intro y
      rcases List.mem_append.mp y with y | y
      · exact hw _ (List.getLast_mem hn) y
      · exact absurd (List.mem_singleton.mp y) (by decide)
end
/-- the numbers from 1 to 41 -/
def one41 : List Int := (List.range 41).map fun (j : Nat) => 1 + (j : Int)
theorem bad_41 : ¬ goodT (textOf one41) := fun g => by
  have hw : ∀ a ∈ one41.map wordC, 32 ∉ a := fun a ha => by
    obtain ⟨c, hc, rfl⟩ := List.mem_map.mp ha
    obtain ⟨j, hj, rfl⟩ := List.mem_map.mp hc
    have := List.mem_range.mp hj
    exact (word_fig _ (by omega) (by omega)).2.1
  have := g.2.few
  rw [nums_are (ws := one41.map wordC) (by show (textC one41).toArray.toList = _; rw [List.toList_toArray, textC_jn]) (fun z => by cases z) hw, List.length_map, List.length_map] at this
  exact absurd this (by decide)
theorem rng_41 : (((rngV 1 41).filter fun _ => true).map toS) = ofS one41 := by
  rw [show rngV 1 41 = ivs one41 from by unfold rngV ivs one41; rw [List.map_map]; rfl]
  exact map_toS one41
theorem bad_const {s : Str} {ws : List (List Nat)} {a : List Nat} (e : s.cps.toList = jn ws) (ha : (decide (ws ≠ []) && ws.all (fun a => decide (32 ∉ a)) && decide (a ∈ ws) && !figL a) = true) : ¬ goodT s := by
  rw [Bool.and_eq_true, Bool.and_eq_true, Bool.and_eq_true, decide_eq_true_iff, List.all_eq_true, decide_eq_true_iff] at ha
  obtain ⟨⟨⟨h1, h2⟩, h3⟩, h4⟩ := ha
  exact bad_word e h1 (fun a ha => of_decide_eq_true (h2 a ha)) h3 (by rw [← Bool.not_eq_true']; exact h4)
theorem bad_c0 : ¬ goodT "" := bad_const (ws := [[]]) (a := []) (by decide +kernel) (by decide +kernel)
theorem bad_c1 : ¬ goodT " " := bad_const (ws := [[], []]) (a := []) (by decide +kernel) (by decide +kernel)
theorem bad_c7 : ¬ goodT "0" := bad_const (ws := [[48]]) (a := [48]) (by decide +kernel) (by decide +kernel)
theorem bad_c11 : ¬ goodT "01" := bad_const (ws := [[48, 49]]) (a := [48, 49]) (by decide +kernel) (by decide +kernel)
theorem bad_c12 : ¬ goodT "1000" := bad_const (ws := [[49, 48, 48, 48]]) (a := [49, 48, 48, 48]) (by decide +kernel) (by decide +kernel)
theorem bad_c13 : ¬ goodT "1\n2" := bad_const (ws := [[49, 10, 50]]) (a := [49, 10, 50]) (by decide +kernel) (by decide +kernel)
theorem bad_c8 : ¬ goodT "401" := fun g => by
  have h := g.2.hi
  rw [nums_are (ws := [[52, 48, 49]]) (by decide +kernel) (by decide) (by decide)] at h
  have := h _ List.mem_cons_self
  dsimp only at this
  rw [num_dig (by unfold AllDigits; decide) (by decide) (by decide)] at this
  exact absurd this (by decide)
theorem bad_c9 : ¬ goodT "1 1" := fun g => by
  have h := g.2.rise
  rw [nums_are (ws := [[49], [49]]) (by decide +kernel) (by decide) (by decide), List.map_cons, List.map_cons] at h
  rw [num_dig (a := [49]) (by unfold AllDigits; decide) (by decide) (by decide)] at h
  exact absurd h (by decide)
theorem bad_c10 : ¬ goodT "2 1" := fun g => by
  have h := g.2.rise
  rw [nums_are (ws := [[50], [49]]) (by decide +kernel) (by decide) (by decide), List.map_cons, List.map_cons] at h
  rw [num_dig (a := [49]) (by unfold AllDigits; decide) (by decide) (by decide), num_dig (a := [50]) (by unfold AllDigits; decide) (by decide) (by decide)] at h
  exact absurd h (by decide)
def ResV (ns : List Int) (H : Hp) (v : V) : Prop := (∃ y : Str, v = .str y ∧ y.length ≤ 900 ∧ (cell ns 0 % 4 = 3 → ¬ goodT y)) ∨ (∃ b : Bool, Kind H v b ∧ ∀ z, v ≠ .str z)
def sp_bad25 (K : PySem.W.Frag) : Sp := fun vs H Q _ => ∃ (a : Addr) (ns cs : List Int), vs = [.ref a, .str (textOf cs)] ∧ SqL K H a (ivs ns) ∧ Purse 400 cs ∧ cs.length ≤ 4 ∧ ∀ (v : V) (H' : Hp), Same H H' → ResV ns H' v → Q v H'
theorem text_len {cs : List Int} (hP : Purse 400 cs) (h4 : cs.length ≤ 4) : 1 ≤ (textOf cs).length ∧ (textOf cs).length ≤ 100 := by
  refine ⟨?_, ?_⟩
  · show 1 ≤ (textC cs).toArray.size
    rw [List.size_toArray, textC_jn]
    cases hcs : cs with
    | nil => exact absurd hcs hP.ne
    | cons c r =>
      have wl : 1 ≤ (wordC c).length := by
        have := (word_fig c (hP.lo c (by rw [hcs]; exact List.mem_cons_self)) (hP.hi c (by rw [hcs]; exact List.mem_cons_self))).1
        unfold figL at this
        rw [Bool.and_eq_true, Bool.and_eq_true, decide_eq_true_iff] at this
        exact this.1.1.1
      cases r with
      | nil => exact wl
      | cons d r =>
        show 1 ≤ (wordC c ++ 32 :: _).length
        rw [List.length_append]
        omega
  · have h1 := StrLaws.join_length_le ⟨#[32]⟩ (cs.map wS)
    rw [text_join, List.length_map] at h1
    have h2 := sum_short cs fun c hc => ⟨hP.lo c hc, hP.hi c hc⟩
    have h3 : (⟨#[32]⟩ : Str).length = 1 := rfl
    rw [h3] at h1
    omega
theorem app_len (a b : Str) : (a ++ b).length = a.length + b.length := Array.size_append
theorem one41_mem : ∀ c ∈ one41, 1 ≤ c ∧ c ≤ 400 := fun c hc => by
  obtain ⟨j, hj, rfl⟩ := List.mem_map.mp hc
  have := List.mem_range.mp hj
  omega
theorem len_41 : (textOf one41).length ≤ 900 := by
  have h1 := StrLaws.join_length_le ⟨#[32]⟩ (one41.map wS)
  rw [text_join, List.length_map] at h1
  have h2 := sum_short one41 one41_mem
  have h3 : (⟨#[32]⟩ : Str).length = 1 := rfl
  have h4 : one41.length = 41 := by decide
  rw [h3] at h1
  omega
def some14 (z : Str) (l0 : Addr) : List V := [.str "", .str " ", .str (z ++ " "), .str (" " ++ z), .non, .int 7, .ref l0, .str "0", .str "401", .str "1 1", .str "2 1", .str "01", .str "1000", .str "1\n2"]
theorem res16 {ns : List Int} {z : Str} {l0 : Addr} {H : Hp} (hz : z.length ≤ 100) (bw : ¬ goodT (z ++ ⟨#[32]⟩)) (ba : ¬ goodT ((⟨#[32]⟩ : Str) ++ z)) (bl : ¬ goodT (z ++ ⟨#[10]⟩)) (g0 : H l0 = some (.lst [V.str z])) : ∀ i : Nat, i < 16 → ∃ v, ((some14 z l0 ++ [V.str (z ++ "\n")]) ++ [V.str (textOf one41)])[i]? = some v ∧ ResV ns H v := by
  have cn : ∀ {y : Str}, y.length ≤ 900 → ¬ goodT y → ResV ns H (.str y) := fun {y} h1 h2 => .inl ⟨y, rfl, h1, fun _ => h2⟩
  intro i hi
  match i, hi with
  | 0, _ => exact ⟨_, rfl, cn (by decide) bad_c0⟩
  | 1, _ => exact ⟨_, rfl, cn (by decide) bad_c1⟩
  | 2, _ => exact ⟨_, rfl, cn (by rw [app_len]; show _ + 1 ≤ 900; omega) bw⟩
  | 3, _ => exact ⟨_, rfl, cn (by rw [app_len]; show 1 + _ ≤ 900; omega) ba⟩
  | 4, _ => exact ⟨_, rfl, .inr ⟨_, .non, fun _ y => by cases y⟩⟩
  | 5, _ => exact ⟨_, rfl, .inr ⟨_, .int 7, fun _ y => by cases y⟩⟩
  | 6, _ => exact ⟨_, rfl, .inr ⟨_, .lst g0, fun _ y => by cases y⟩⟩
  | 7, _ => exact ⟨_, rfl, cn (by decide) bad_c7⟩
  | 8, _ => exact ⟨_, rfl, cn (by decide) bad_c8⟩
  | 9, _ => exact ⟨_, rfl, cn (by decide) bad_c9⟩
  | 10, _ => exact ⟨_, rfl, cn (by decide) bad_c10⟩
  | 11, _ => exact ⟨_, rfl, cn (by decide) bad_c11⟩
  | 12, _ => exact ⟨_, rfl, cn (by decide) bad_c12⟩
  | 13, _ => exact ⟨_, rfl, cn (by decide) bad_c13⟩
  | 14, _ => exact ⟨_, rfl, cn (by rw [app_len]; show _ + 1 ≤ 900; omega) bl⟩
  | 15, _ => exact ⟨_, rfl, cn len_41 bad_41⟩
  | _ + 16, h => exact absurd h (by omega)
section
variable {P : Program} {w : World} {K : PySem.W.Frag} {mg : Str → Option Value} {base : Heap} {c_BadPurse c_BadText c_CoinError : Addr}
theorem ok__law_refused {f : Addr} {fd : FuncData} (F : Fun K "_law_refused" "_law_refused" s__law_refused f fd) (X_BadText : Err K mg "BadText" c_BadText c_CoinError) (I_sameT : PySem.W.mroIn K c_BadText (.ref c_BadText) = some true) (D_read : FnX P w K mg base "read" ["text"] 6 (sp_readT c_BadText)) : FnOk P w K mg base CX0 7 f fd ["_law_text"] sp_refd := by
  refine F.ok sc__law_refused (fun vs H Q E h => ?_) (fun cdv A outer s H vs Q E hr h => ?_)
  · obtain ⟨v, rfl, _⟩ := h
    rfl
  · obtain ⟨v, rfl, hb, q⟩ := h
    refine ⟨_, (pss_cons (ps_tryOf X_BadText.toExc rfl rfl rfl (fun pn xe E hx => (pss_one (ps_expr (pe_fnX D_read hx (hr.mono (by decide)) (pa_cons (pv 0) pa_nil))))) (fun pn y => (pss_one (ps_ret pe_bl))))
      (pss_one (ps_ret pe_bl))), ?_⟩
    refine ⟨_, rfl, ?_⟩
    rcases hb with ⟨z, rfl, hz, hg⟩ | ⟨b, k, hn⟩
    · exact .inl ⟨z, rfl, hz, fun h1 h2 => absurd ⟨h1, h2⟩ hg, fun _ H' s' => ⟨c_BadText, rfl, X_BadText.ok, I_sameT, fun σ hl => q H' s'⟩⟩
    · exact .inr ⟨v, b, rfl, k, hn, fun H' s' => ⟨c_BadText, rfl, X_BadText.ok, I_sameT, fun σ hl => q H' s'⟩⟩
theorem ok__law_by_base {f : Addr} {fd : FuncData} (F : Fun K "_law_by_base" "_law_by_base" s__law_by_base f fd) (T : Tx mg) (X_CoinError : Exc K mg "CoinError" c_CoinError) (X_BadText : Err K mg "BadText" c_BadText c_CoinError) (K_BadText : ExcLook K c_BadText) (D_read : FnX P w K mg base "read" ["text"] 6 (sp_readT c_BadText)) : FnOk P w K mg base CX0 7 f fd ["_law_text"] sp_refd := by
  refine F.ok sc__law_by_base (fun vs H Q E h => ?_) (fun cdv A outer s H vs Q E hr h => ?_)
  · obtain ⟨v, rfl, _⟩ := h
    rfl
  · obtain ⟨v, rfl, hb, q⟩ := h
    refine ⟨_, (pss_cons (ps_tryAs (i := 1) X_CoinError rfl rfl rfl sc__law_by_base.nd rfl (by kernel_rfl) (fun pn xe E hx => (pss_one (ps_expr (pe_fnX D_read hx (hr.mono (by decide)) (pa_cons (pv 0) pa_nil))))) (fun pn y oy hp => (pss_one (ps_ret (pe_callB (call_isiX (K := K) rfl hp) (gl_of (by kernel_rfl)) T.b_isinstance boot_isinstance (pa_cons (pv 1) (pa_cons (pe_ty T.b_ValueError PyProof.Rows.Boot.«ValueError») pa_nil)))))))
      (pss_one (ps_ret pe_bl))), ?_⟩
    refine ⟨_, rfl, ?_⟩
    rcases hb with ⟨z, rfl, hz, hg⟩ | ⟨b, k, hn⟩
    · refine .inl ⟨z, rfl, hz, fun h1 h2 => absurd ⟨h1, h2⟩ hg, fun _ H' s' => ⟨c_BadText, rfl, X_BadText.ok, X_BadText.up, fun y oy σ hc hf hl => ?_⟩⟩
      match σ, hl with
      | [x0, x1], _ => exact ⟨_, rfl, c_BadText, _, _, true, rfl, hc, hf, rfl, K_BadText, X_BadText.isV, q H' s'⟩
    · refine .inr ⟨v, b, rfl, k, hn, fun H' s' => ⟨c_BadText, rfl, X_BadText.ok, X_BadText.up, fun y oy σ hc hf hl => ?_⟩⟩
      match σ, hl with
      | [x0, x1], _ => exact ⟨_, rfl, c_BadText, _, _, true, rfl, hc, hf, rfl, K_BadText, X_BadText.isV, q H' s'⟩
theorem fig_not_len {z : Str} (h : ¬ (1 ≤ z.length ∧ z.length ≤ 3)) : numT z = 0 := by
  refine if_neg fun y => h ?_
  unfold figL at y
  rw [Bool.and_eq_true, Bool.and_eq_true, decide_eq_true_iff] at y
  have ez : z.length = z.cps.toList.length := Array.length_toList.symm
  rw [ez]
  exact y.1.1
theorem ok__law_number {f : Addr} {fd : FuncData} (F : Fun K "_law_number" "_law_number" s__law_number f fd) (T : Tx mg) : FnOk P w K mg base CX0 1 f fd ["_law_word"] sp_num25 := by
  refine F.ok sc__law_number (fun vs H Q E h => ?_) (fun cdv A outer s H vs Q E hr h => ?_)
  · obtain ⟨z, rfl, _⟩ := h
    rfl
  · obtain ⟨z, rfl, hz, q⟩ := h
    have hz2 : z.length ≤ sizeLine := by rw [sizeLine_eq]; omega
    have ez : z.length = z.cps.toList.length := Array.length_toList.symm
    have q0 := q H (Same.refl H)
    refine ⟨_, (pss_cons (ps_if (PW.pt (pw_or (pt_cmpR op_eq (pv 0) pe_str (nomark _)) (pw_or (pt_cmpR op_gt (pe_callB len_txt (gl_of (by kernel_rfl)) T.b_len boot_len (pa_cons (pv 0) pa_nil)) pe_int (nomark _)) (pw_or1 (pt_cmpR op_eq (pe_ix ix_str (pv 0) pe_int (fun _ _ => rfl)) pe_str (nomark _)))))) (pss_one (ps_ret pe_int)) pss_nil)
      (pss_cons (ps_if (truthK (K := K) rfl (pe_comp (x := "_law_sign") (M := ["_law_word"]) rfl (CompScope.of (by kernel_rfl)) (pi_str (pv 0)) (fun _ _ _ _ _ => (pts_one (pt_cmpR op_notin_str (pv 0) pe_str (by with_unfolding_all rfl)))) (fun _ _ _ _ _ => (pv 0))) (fun _ => rfl)) (pss_one (ps_ret pe_int)) pss_nil)
      (pss_one (ps_ret (pe_callTy call_int_txt (gl_of (by kernel_rfl)) T.b_int boot_int (pa_cons (pv 0) pa_nil)))))), ?_⟩
    refine ⟨_, rfl, rfl, _, rfl, ?_⟩
    cases hl : z.cps.toList with
    | nil =>
      rw [hl] at ez
      rw [fig_not_len (by rw [ez]; exact fun y => absurd y.1 (by decide))] at q0
      refine ifT (decide_eq_true ?_) q0
      cases z with
      | mk a => exact congrArg V.str (congrArg Str.mk (by rw [← Array.toArray_toList (xs := a)]; rw [show a.toList = [] from hl]; rfl))
    | cons c0 r0 =>
      refine ifF (decide_eq_false fun y => ?_) ?_
      · injection y with y
        have := congrArg (fun w : Str => w.cps.toList) y
        have h' : z.cps.toList = [] := this
        rw [hl] at h'
        cases h'
      refine ⟨_, rfl, z, rfl, hz2, _, _, rfl, rfl, _, rfl, ?_⟩
      by_cases h2 : z.length ≤ 3
      · refine ifF (decide_eq_false (by omega)) ?_
        have h0 : atI z.cps.toList 0 = some c0 := by
          show atI _ ((0 : Nat) : Int) = _
          exact atI_nat (by rw [hl]; rfl)
        have h1 : 1 ≤ z.length := by rw [ez, hl]; exact Nat.le_add_left 1 _
        have hlen : decide (1 ≤ z.cps.toList.length ∧ z.cps.toList.length ≤ 3) = true := decide_eq_true (by omega)
        refine ⟨_, rfl, z, 0, c0, rfl, rfl, hz2, h0, rfl, _, rfl, ?_⟩
        by_cases hc0 : c0 = 48
        · refine ifT (decide_eq_true (by rw [hc0]; rfl)) ?_
          have e : numT z = 0 := by
            refine if_neg ?_
            unfold figL
            rw [hlen, hl, hc0]
            exact Bool.false_ne_true
          rw [e] at q0
          exact q0
        · refine ifF (decide_eq_false fun y => hc0 ?_) ?_
          · injection y with y
            have := congrArg (fun w : Str => w.cps.toList) y
            have h' : [c0] = [48] := this
            exact (List.cons.inj h').1
          have hh : decide (z.cps.toList.head? ≠ some 48) = true := decide_eq_true (by rw [hl]; simpa using hc0)
          have hfig : figL z.cps.toList = z.cps.toList.all fun c => decide (c ∈ figs.cps.toList) := by
            unfold figL
            rw [hlen, hh]
            rfl
          refine ⟨_, rfl, z, rfl, ?_⟩
          refine comp_text (fun i ys H' => H' = H ∧ ys.length ≤ i ∧ (ys = [] ↔ (z.cps.toList.take i).all (fun c => decide (c ∈ figs.cps.toList)) = true)) (by rw [sizeLine_eq]; omega) ⟨rfl, Nat.le_refl _, fun _ => rfl, fun _ => rfl⟩ (fun i ys H' h => h.2.1) ?_ ?_
          · rintro i x ys H' R R' hx ⟨rfl, hy, hyy⟩ hR hR'
            obtain ⟨c, rfl, hc⟩ := sgs_nth hx
            have step : (z.cps.toList.take (i + 1)).all (fun c => decide (c ∈ figs.cps.toList)) = ((z.cps.toList.take i).all (fun c => decide (c ∈ figs.cps.toList)) && decide (c ∈ figs.cps.toList)) := by
              rw [List.take_add_one, hc, List.all_append]
              show _ = _
              simp
            refine ⟨_, rfl, _, _, rfl, rfl, _, rfl, ?_⟩
            have fo := StrLaws.found_one figs c
            have fo' : (!(Builtin.Str.occurrences (Str.ofString "0123456789") ⟨#[c]⟩ 0 (Str.ofString "0123456789").length 1).isEmpty) = decide (c ∈ figs.cps.toList) := fo
            rw [fo']
            by_cases hm : c ∈ figs.cps.toList
            · rw [decide_eq_true hm] at step ⊢
              refine ifF rfl ?_
              refine hR' _ ⟨rfl, by omega, ?_⟩
              rw [step, Bool.and_true]
              exact hyy
            · rw [decide_eq_false hm] at step ⊢
              refine ifT rfl ?_
              refine ⟨_, rfl, hR _ _ ⟨rfl, ?_, ?_⟩⟩
              · rw [List.length_append]
                show _ + 1 ≤ _
                omega
              · rw [step, Bool.and_false]
                exact ⟨fun y => absurd y (by simp), fun y => Bool.noConfusion y⟩
          · rintro ys H' l ⟨rfl, hy, hyy⟩ hl'
            rw [ez, List.take_length, ← hfig] at hyy
            have q1 := q _ ((Same.refl H').put (o := .lst ys) hl')
            refine ⟨_, .inl ⟨ys, .of upd_same, rfl⟩, ?_⟩
            by_cases hfg : figL z.cps.toList = true
            · have ey := hyy.mpr hfg
              refine ifF (by rw [ey]; rfl) ?_
              obtain ⟨n, hn⟩ := fig_int hfg
              have en : numT z = n := by
                unfold numT
                rw [if_pos hfg, hn]
                rfl
              rw [en] at q1
              exact ⟨_, rfl, z, n, rfl, hn, by omega, q1⟩
            · refine ifT ?_ ?_
              · cases ys with
                | nil => exact absurd (hyy.mp rfl) hfg
                | cons a r => rfl
              · rw [show numT z = 0 from if_neg hfg] at q1
                exact q1
      · refine ifT (decide_eq_true (by omega)) ?_
        rw [fig_not_len (by omega)] at q0
        exact q0
theorem words_ne (z : Str) : wordsT z ≠ [] := by
  unfold wordsT Txt.split
  split
  · exact List.cons_ne_nil _ _
  · split
    · exact List.cons_ne_nil _ _
    · intro h
      have := congrArg List.length h
      rw [length_partsBetween] at this
      cases this
def numsL (z : Str) : List Int := (wordsT z).map numT
theorem numT_lo (w : Str) : 0 ≤ numT w := by
  unfold numT
  split
  · rename_i h
    obtain ⟨n, hn⟩ := fig_nat h
    rw [hn]
    exact Int.natCast_nonneg n
  · exact Int.le_refl _
theorem numT_fig {w : Str} (h : numT w ≠ 0) : figL w.cps.toList = true := by
  cases e : figL w.cps.toList with
  | true => rfl
  | false => exact absurd (if_neg (by rw [e]; exact Bool.false_ne_true)) h
theorem nums_same {z : Str} (h : ∀ w ∈ wordsT z, figL w.cps.toList = true) : numsL z = numsT z :=
  List.map_congr_left fun w hw => if_pos (h w hw)
theorem goodT_of {z : Str} (h1 : (numsL z).length ≤ 40) (h2 : ∀ n ∈ numsL z, n ≠ 0) (h3 : ∀ n ∈ numsL z, n ≤ 400) (h4 : (numsL z).Pairwise (· < ·)) : goodT z := by
  have hf : ∀ w ∈ wordsT z, figL w.cps.toList = true := fun w hw => numT_fig (h2 _ (List.mem_map_of_mem hw))
  refine ⟨hf, ?_⟩
  rw [← nums_same hf]
  refine ⟨h4, fun y => words_ne z (List.map_eq_nil_iff.mp y), h1, fun c hc => ?_, h3⟩
  have := h2 c hc
  obtain ⟨w, _, rfl⟩ := List.mem_map.mp hc
  have := numT_lo w
  omega
def numS : V → V
  | .str z => .int (numT z)
  | v => v
theorem map_numS (z : Str) : ((((wordsT z).map V.str).filter fun _ => true).map numS) = ivs (numsL z) := by
  rw [List.filter_eq_self.mpr fun _ _ => rfl]
  unfold ivs numsL
  rw [List.map_map, List.map_map]
  rfl
theorem ok__law_due {f : Addr} {fd : FuncData} (F : Fun K "_law_due" "_law_due" s__law_due f fd) (T : Tx mg) (C__law_number : Fn P w K mg base "_law_number" ["_law_word"] 1 sp_num25) : FnOk P w K mg base CX0 2 f fd ["_law_text"] sp_due25 := by
  refine F.ok sc__law_due (fun vs H Q E h => ?_) (fun cdv A outer s H vs Q E hr h => ?_)
  · obtain ⟨z, rfl, _⟩ := h
    rfl
  · obtain ⟨z, rfl, hz, q1, q2⟩ := h
    have hu0 := hr.units0
    refine ⟨_, (pss_cons (ps_setComp (i := 1) (x := "_law_word") (M := ["_law_text", "_law_coins_here"]) sc__law_due.nd rfl (Or.inl (by kernel_rfl)) rfl (CompScope.of (by kernel_rfl)) (pi_seqK (K := K) rfl (pe_bm PySem.F.plainAttrs_str PySem.F.slot_str_split PySem.F.type_str_split mt_split (pv 0) (pa_cons pe_str pa_nil))) (fun _ _ _ _ _ => pts_nil) (fun _ _ _ _ _ => (pe_fn C__law_number (hr.mono (by decide)) (pa_cons (pv 0) pa_nil))))
      (pss_cons (ps_if (PW.pt (pw_or (pt_cmpR op_gt (pe_callB (lenK (K := K) rfl) (gl_of (by kernel_rfl)) T.b_len boot_len (pa_cons (pv 1) pa_nil)) pe_int (nomark _)) (pw_or (pt_cmpR op_eq (pe_callB (minK (K := K) rfl rfl) (gl_of (by kernel_rfl)) T.b_min boot_min (pa_cons (pv 1) pa_nil)) pe_int (nomark _)) (pw_or (pt_cmpR op_gt (pe_callB (maxK (K := K) rfl rfl) (gl_of (by kernel_rfl)) T.b_max boot_max (pa_cons (pv 1) pa_nil)) pe_int (nomark _)) (pw_or1 (pt_cmpR (neLK (K := K) rfl hu0) (pv 1) (pe_callB (sortedK (w := w) rfl rfl) (gl_of (by kernel_rfl)) T.b_sorted boot_sorted (pa_cons (pe_callTy (setK (K := K) (w := w) rfl rfl rfl) (gl_of (by kernel_rfl)) T.b_set boot_set (pa_cons (pv 1) pa_nil)) pa_nil)) (nomark _))))))) (pss_one (ps_ret pe_non)) pss_nil)
      (pss_one (ps_ret (pe_callTy (tupleK (K := K) rfl) (gl_of (by kernel_rfl)) T.b_tuple boot_tuple (pa_cons (pv 1) pa_nil)))))), ?_⟩
    refine ⟨_, rfl, rfl, z, ⟨#[32]⟩, rfl, rfl, rfl, by rw [sizeLine_eq]; omega, fun l hl => ?_⟩
    have s1 := (Same.refl H).put (o := .lst ((wordsT z).map V.str)) hl
    have h1 : (upd H l (.lst ((wordsT z).map V.str))) l = some (.lst ((wordsT z).map V.str)) := upd_same
    rw [show Txt.split z ⟨#[32]⟩ = wordsT z from rfl]
    generalize upd H l (.lst ((wordsT z).map V.str)) = H1 at s1 h1 ⊢
    have nth : ∀ {i : Nat} {v : V}, ((wordsT z).map V.str)[i]? = some v → ∃ u, v = .str u ∧ (wordsT z)[i]? = some u := fun {i v} h => by
      rw [List.getElem?_map] at h
      cases e : (wordsT z)[i]? with
      | none => rw [e] at h; cases h
      | some u => rw [e] at h; exact ⟨u, (Option.some.inj h).symm, rfl⟩
    have sh : ∀ u ∈ wordsT z, u.length ≤ z.length := fun u hu => part_short hu
    have lenW : (wordsT z).length ≤ z.length + 2 := split_le z _
    refine ⟨l, rfl, ?_⟩
    refine comp_seq (fun _ H2 => Same H1 H2) (fun _ => true) numS (by rw [List.length_map, sizeLine_eq]; omega) (Same.refl _) (fun _ _ e => e) (.lst h1) ?_ ?_
    · rintro j v H2 R R' hv s2 hR hR'
      obtain ⟨u, rfl, hu⟩ := nth hv
      have hum := List.mem_of_getElem? hu
      have := sh u hum
      refine true_then ?_
      exact ⟨_, rfl, u, rfl, by omega, fun H3 s3 => hR _ rfl (s2.trans s3)⟩
    · rintro H2 l2 s2 hl2
      rw [map_numS]
      have s3 := (s1.trans s2).put (o := .lst (ivs (numsL z))) hl2
      have h3 : (upd H2 l2 (.lst (ivs (numsL z)))) l2 = some (.lst (ivs (numsL z))) := upd_same
      generalize upd H2 l2 (.lst (ivs (numsL z))) = H3 at s3 h3 ⊢
      have ne : numsL z ≠ [] := fun y => words_ne z (List.map_eq_nil_iff.mp y)
      have el : (ivs (numsL z)).length = (numsL z).length := List.length_map ..
      have isP : goodT z → Purse 400 (numsL z) := fun g => by rw [nums_same g.1]; exact g.2
      refine ⟨_, rfl, l2, _, rfl, .inl (.of h3), _, _, rfl, rfl, _, rfl, ?_⟩
      by_cases c1 : (numsL z).length ≤ 40
      · refine ifF (decide_eq_false (by rw [el]; omega)) ?_
        refine ⟨_, rfl, l2, _, rfl, .of h3, ne, fun m hm hle => ?_⟩
        refine ⟨rfl, _, rfl, ?_⟩
        by_cases c2 : m = 0
        · refine ifT (decide_eq_true (by rw [c2])) ?_
          exact q2 (fun g => by have := (isP g).lo m hm; omega) _ s3
        refine ifF (decide_eq_false fun y => c2 (V.int.inj y)) ?_
        refine ⟨_, rfl, l2, _, rfl, .of h3, ne, fun M hM hge => ?_⟩
        refine ⟨_, _, rfl, rfl, _, rfl, ?_⟩
        by_cases c3 : M ≤ 400
        · refine ifF (decide_eq_false (by omega)) ?_
          refine ⟨_, rfl, _, rfl, l2, _, rfl, .of h3, by omega, fun b hb => ?_⟩
          refine ⟨b, addAll [] (numsL z), rfl, upd_same, ?_, fun p cs hp pm ps => ?_⟩
          · have := addAll_len (numsL z) []
            simp at this
            omega
          obtain ⟨k1, k2, k3⟩ := sortedSet pm ps
          have s5 := (s3.put hb).put (o := .lst (ivs cs)) hp
          have h5 : (upd (upd H3 b (setHO w b (addAll [] (numsL z)))) p (.lst (ivs cs))) l2 = some (.lst (ivs (numsL z))) := ((Same.refl H3).put hb).put (o := .lst (ivs cs)) hp _ _ h3
          refine ⟨l2, p, _, _, rfl, rfl, .of h5, .of upd_same, flat_ivs _, flat_ivs _, _, rfl, ?_⟩
          rw [if_pos rfl, eqVs_ints]
          by_cases c4 : numsL z = cs
          · refine ifF (by rw [decide_eq_true c4]; rfl) ?_
            have g : goodT z := goodT_of c1 (fun n hn => by have := hle n hn; obtain ⟨w, _, rfl⟩ := List.mem_map.mp hm; have := numT_lo w; omega) (fun n hn => by have := hge n hn; omega) (by rw [c4]; exact k1)
            refine ⟨_, rfl, l2, _, rfl, .inl ⟨.of h5, fun t ht => ?_⟩⟩
            refine q1 g t _ (s5.put ht) ?_
            rw [← nums_same g.1]
            exact upd_same
          · refine ifT (by rw [decide_eq_false c4]; rfl) ?_
            exact q2 (fun g => c4 (rise_ext (isP g).rise k1 fun x => (k2 x).symm)) _ s5
        · refine ifT (decide_eq_true (by omega)) ?_
          exact q2 (fun g => by have := (isP g).hi M hM; omega) _ s3
      · refine ifT (decide_eq_true (by rw [el]; omega)) ?_
        exact q2 (fun g => c1 (isP g).few) _ s3
theorem ok__law_bad {f : Addr} {fd : FuncData} (F : Fun K "_law_bad" "_law_bad" s__law_bad f fd) (T : Tx mg) (C__law_cell : Fn P w K mg base "_law_cell" ["_law_script", "_law_k"] 1 (sp_cell K)) : FnOk P w K mg base CX0 2 f fd ["_law_script", "_law_text"] (sp_bad25 K) := by
  refine F.ok sc__law_bad (fun vs H Q E h => ?_) (fun cdv A outer s H vs Q E hr h => ?_)
  · obtain ⟨a, ns, cs, rfl, _⟩ := h
    rfl
  · obtain ⟨a, ns, cs, rfl, hS, hP, h4, q⟩ := h
    obtain ⟨tl1, tl2⟩ := text_len hP h4
    have bw := bad_behind hP
    have ba := bad_ahead hP
    have bl := bad_line hP
    generalize textOf cs = z at tl1 tl2 bw ba bl ⊢
    have ez : z.length = z.cps.toList.length := Array.length_toList.symm
    have hz2 : z.length ≤ sizeLine := by rw [sizeLine_eq]; omega
    have small : ∀ {n : Nat}, n ≤ 1000 → n ≤ sizeLine := fun h => Nat.le_trans h (by decide)
    have n0 := Int.emod_nonneg (cell ns 1) (show ((z.length : Nat) : Int) ≠ 0 by omega)
    have n1 := Int.emod_lt_of_pos (cell ns 1) (show (0 : Int) < ((z.length : Nat) : Int) by omega)
    have m0 := Int.emod_nonneg (cell ns 2) (show (10 : Int) ≠ 0 by decide)
    have m1 := Int.emod_lt_of_pos (cell ns 2) (show (0 : Int) < 10 by decide)
    have k0 := Int.emod_nonneg (cell ns 1) (show (16 : Int) ≠ 0 by decide)
    have k1 := Int.emod_lt_of_pos (cell ns 1) (show (0 : Int) < 16 by decide)
    refine ⟨_, (pss_cons (ps_set (i := 2) sc__law_bad.nd rfl (Or.inl (by kernel_rfl)) (pe_op op_mod (pe_fn C__law_cell (hr.mono (by decide)) (pa_cons (pv 0) (pa_cons pe_int pa_nil))) (pe_callB len_txt (gl_of (by kernel_rfl)) T.b_len boot_len (pa_cons (pv 1) pa_nil))))
      (pss_cons (ps_set (i := 3) sc__law_bad.nd rfl (Or.inl (by kernel_rfl)) (pe_op op_mod (pe_fn C__law_cell (hr.mono (by decide)) (pa_cons (pv 0) (pa_cons pe_int pa_nil))) pe_int))
      (pss_cons (ps_if (pt_cmpR op_eq (pv 3) pe_int (nomark _)) (pss_one (ps_ret (pe_op op_add_str (pe_slice sl_strTo (pv 1) po_none (po_some (pv 2))) (pe_slice sl_str (pv 1) (po_some (pe_op op_add (pv 2) pe_int)) po_none)))) pss_nil)
      (pss_cons (ps_if (pt_cmpR op_eq (pv 3) pe_int (nomark _)) (pss_one (ps_ret (pe_op op_add_str (pe_slice sl_strTo (pv 1) po_none (po_some (pe_op op_add (pv 2) pe_int))) (pe_slice sl_str (pv 1) (po_some (pv 2)) po_none)))) pss_nil)
      (pss_cons (ps_if (pt_cmpR op_eq (pv 3) pe_int (nomark _)) (pss_one (ps_ret (pe_op op_add_str (pe_op op_add_str (pe_slice sl_strTo (pv 1) po_none (po_some (pv 2))) (pe_ix ix_str pe_str (pe_op op_mod (pe_fn C__law_cell (hr.mono (by decide)) (pa_cons (pv 0) (pa_cons pe_int pa_nil))) pe_int) (fun _ _ => rfl))) (pe_slice sl_str (pv 1) (po_some (pe_op op_add (pv 2) pe_int)) po_none)))) pss_nil)
      (pss_cons (ps_set (i := 4) sc__law_bad.nd rfl (Or.inl (by kernel_rfl)) (pe_lst (pa_cons pe_str (pa_cons pe_str (pa_cons (pe_op op_add_str (pv 1) pe_str) (pa_cons (pe_op op_add_str pe_str (pv 1)) (pa_cons pe_non (pa_cons pe_int (pa_cons (pe_lst (pa_cons (pv 1) pa_nil)) (pa_cons pe_str (pa_cons pe_str (pa_cons pe_str (pa_cons pe_str (pa_cons pe_str (pa_cons pe_str (pa_cons pe_str pa_nil))))))))))))))))
      (pss_cons (ps_expr (pe_bm PySem.F.plainAttrs_list PySem.F.slot_list_append PySem.F.type_list_append mt_append (pv 4) (pa_cons (pe_op op_add_str (pv 1) pe_str) pa_nil)))
      (pss_one (ps_ret (pe_ix (ix_anyK (K := K) rfl) (pe_op op_cat (pv 4) (pe_lst (pa_cons (pe_bm PySem.F.plainAttrs_str PySem.F.slot_str_join PySem.F.type_str_join (mt_joinK (K := K) rfl) pe_str (pa_cons (pe_comp (x := "_law_k") (M := ["_law_script", "_law_text", "_law_at", "_law_way", "_law_some"]) rfl (CompScope.of (by kernel_rfl)) (pi_range2 (gl_of (by kernel_rfl)) T.b_range (pa_cons pe_int (pa_cons pe_int pa_nil))) (fun _ _ _ _ _ => pts_nil) (fun _ _ _ _ _ => (pe_callTy call_str_int (gl_of (by kernel_rfl)) T.b_str boot_str (pa_cons (pv 0) pa_nil)))) pa_nil)) pa_nil))) (pe_op op_mod (pe_fn C__law_cell (hr.mono (by decide)) (pa_cons (pv 0) (pa_cons pe_int pa_nil))) pe_int) (fun _ _ => rfl))))))))))), ?_⟩
    refine ⟨_, rfl, a, ns, 1, rfl, hS, by decide, _, rfl, z, rfl, hz2, _, _, rfl, rfl, by show (0 : Int) < ((z.length : Nat) : Int); omega, ?_⟩
    refine ⟨_, rfl, a, ns, 0, rfl, hS, by decide, _, _, rfl, rfl, by show (0 : Int) < 4; decide, ?_⟩
    have tk : ∀ j : Int, (⟨(z.cps.toList.take j.toNat).toArray⟩ : Str).length ≤ 100 := fun j => by rw [len_str25, List.length_take]; omega
    have dk : ∀ j : Int, (⟨(z.cps.toList.drop j.toNat).toArray⟩ : Str).length ≤ 100 := fun j => by rw [len_str25, List.length_drop]; omega
    refine ⟨_, rfl, rfl, _, rfl, ?_⟩
    refine ite2 (fun w0 => ?_) (fun w0 => ?_)
    · have e0 : cell ns 0 % 4 = 0 := V.int.inj (of_decide_eq_true w0)
      refine ⟨_, rfl, _, rfl, cell ns 1 % ((z.length : Nat) : Int), rfl, z, cell ns 1 % ((z.length : Nat) : Int), rfl, rfl, rfl, n0, by omega, hz2, ?_⟩
      refine ⟨_, rfl, _, rfl, _, _, rfl, rfl, cell ns 1 % ((z.length : Nat) : Int) + 1, rfl, z, cell ns 1 % ((z.length : Nat) : Int) + 1, rfl, rfl, rfl, by omega, by omega, hz2, ?_⟩
      have a1 := tk (cell ns 1 % ((z.length : Nat) : Int))
      have a2 := dk (cell ns 1 % ((z.length : Nat) : Int) + 1)
      refine ⟨_, _, rfl, rfl, small (by omega), ?_⟩
      exact q _ _ (Same.refl _) (.inl ⟨_, rfl, by rw [app_len]; omega, fun y => by omega⟩)
    refine ⟨_, rfl, rfl, _, rfl, ?_⟩
    refine ite2 (fun w1 => ?_) (fun w1 => ?_)
    · have e0 : cell ns 0 % 4 = 1 := V.int.inj (of_decide_eq_true w1)
      refine ⟨_, rfl, _, rfl, _, _, rfl, rfl, cell ns 1 % ((z.length : Nat) : Int) + 1, rfl, z, cell ns 1 % ((z.length : Nat) : Int) + 1, rfl, rfl, rfl, by omega, by omega, hz2, ?_⟩
      refine ⟨_, rfl, _, rfl, cell ns 1 % ((z.length : Nat) : Int), rfl, z, cell ns 1 % ((z.length : Nat) : Int), rfl, rfl, rfl, n0, by omega, hz2, ?_⟩
      have a1 := tk (cell ns 1 % ((z.length : Nat) : Int) + 1)
      have a2 := dk (cell ns 1 % ((z.length : Nat) : Int))
      refine ⟨_, _, rfl, rfl, small (by omega), ?_⟩
      exact q _ _ (Same.refl _) (.inl ⟨_, rfl, by rw [app_len]; omega, fun y => by omega⟩)
    refine ⟨_, rfl, rfl, _, rfl, ?_⟩
    refine ite2 (fun w2 => ?_) (fun w2 => ?_)
    · have e0 : cell ns 0 % 4 = 2 := V.int.inj (of_decide_eq_true w2)
      refine ⟨_, rfl, _, rfl, cell ns 1 % ((z.length : Nat) : Int), rfl, z, cell ns 1 % ((z.length : Nat) : Int), rfl, rfl, rfl, n0, by omega, hz2, ?_⟩
      obtain ⟨j, ej⟩ : ∃ j : Nat, cell ns 2 % 10 = (j : Int) := ⟨(cell ns 2 % 10).toNat, by omega⟩
      have hj : j < ((Str.ofString "0123 9-a,+").cps.toList).length := by
        rw [show ((Str.ofString "0123 9-a,+").cps.toList).length = 10 from by decide +kernel]
        omega
      refine ⟨_, rfl, a, ns, 2, rfl, hS, by decide, _, _, rfl, rfl, by show (0 : Int) < 10; decide, Str.ofString "0123 9-a,+", _, ((Str.ofString "0123 9-a,+").cps.toList)[j], rfl, rfl, by decide +kernel, by rw [ej]; exact atI_nat (List.getElem?_eq_getElem hj), ?_⟩
      have a1 := tk (cell ns 1 % ((z.length : Nat) : Int))
      have a2 := dk (cell ns 1 % ((z.length : Nat) : Int) + 1)
      have e1 : ∀ c : Nat, (⟨#[c]⟩ : Str).length = 1 := fun _ => rfl
      refine ⟨_, _, rfl, rfl, small (by rw [e1]; omega), ?_⟩
      refine ⟨_, rfl, _, rfl, _, _, rfl, rfl, cell ns 1 % ((z.length : Nat) : Int) + 1, rfl, z, cell ns 1 % ((z.length : Nat) : Int) + 1, rfl, rfl, rfl, by omega, by omega, hz2, ?_⟩
      refine ⟨_, _, rfl, rfl, small (by rw [app_len, e1]; omega), ?_⟩
      exact q _ _ (Same.refl _) (.inl ⟨_, rfl, by rw [app_len, app_len, e1]; omega, fun y => by omega⟩)
    clear w0 w1 w2 n0 n1 m0 m1 tk dk
    refine ⟨_, rfl, _, _, rfl, rfl, small (by show z.length + 1 ≤ 1000; omega), _, rfl, _, _, rfl, rfl, small (by show 1 + z.length ≤ 1000; omega), ?_⟩
    refine ⟨_, rfl, by show 1 ≤ sizeLine; decide, fun l0 hl0 => ?_⟩
    refine ⟨by show 14 ≤ sizeLine; decide, fun l1 hl1 => ?_⟩
    have s0 := (Same.refl H).put (o := .lst [V.str z]) hl0
    have g0 : (upd H l0 (.lst [V.str z])) l0 = some (.lst [V.str z]) := upd_same
    generalize upd H l0 (.lst [V.str z]) = H0 at s0 g0 hl1 ⊢
    refine ⟨_, rfl, .inl ⟨rfl, _, .of upd_same⟩, _, rfl, _, _, rfl, rfl, small (by show z.length + 1 ≤ 1000; omega), l1, some14 z l0, _, rfl, rfl, upd_same, by show 14 < sizeLine; decide, ?_⟩
    rw [upd_upd]
    have s2 := s0.put (o := .lst (some14 z l0 ++ [V.str (z ++ Str.ofString "\n")])) hl1
    have g1 : (upd H0 l1 (.lst (some14 z l0 ++ [V.str (z ++ Str.ofString "\n")]))) l1 = some (.lst (some14 z l0 ++ [V.str (z ++ Str.ofString "\n")])) := upd_same
    have g2 : (upd H0 l1 (.lst (some14 z l0 ++ [V.str (z ++ Str.ofString "\n")]))) l0 = some (.lst [V.str z]) := (Same.refl H0).put hl1 _ _ g0
    generalize upd H0 l1 (.lst (some14 z l0 ++ [V.str (z ++ Str.ofString "\n")])) = H2 at s2 g1 g2 ⊢
    clear g0 s0 hl0 hl1
    refine ⟨_, rfl, rfl, 1, 42, rfl, ⟨by decide, by decide, by decide, by decide⟩, ?_⟩
    rw [show ((42 : Int) - 1).toNat = 41 from rfl]
    refine comp_range (fun _ H' => H' = H2) (fun _ => true) toS (by decide) rfl ?_ ?_
    · rintro i x H3 R R' hx rfl hR hR'
      obtain ⟨hi, rfl⟩ := rngV_nth hx
      refine true_then ?_
      refine ⟨_, rfl, 1 + (i : Int), rfl, ?_, hR _ rfl rfl⟩
      have : (1 + (i : Int)).natAbs ≤ 400 := by omega
      have := Nat.log2_le_self (1 + (i : Int)).natAbs
      omega
    · rintro H3 l rfl hl
      rw [rng_41]
      have s3 := (Same.refl H3).put (o := .lst (ofS one41)) hl
      refine ⟨_, l, one41.map wS, rfl, rfl, .of upd_same, by decide +kernel, ?_, ?_⟩
      · have := sum_short one41 one41_mem
        have h4 : one41.length = 41 := by decide
        rw [List.length_map]
        omega
      generalize upd H3 l (.lst (ofS one41)) = H4 at s3 ⊢
      refine ⟨by show 1 ≤ sizeLine; decide, fun l3 hl3 => ?_⟩
      have et : Str.join (Str.ofString " ") (one41.map wS) = textOf one41 := text_join one41
      rw [et]
      have s4 := s3.put (o := .lst [V.str (textOf one41)]) hl3
      refine ⟨l1, l3, _, _, rfl, rfl, s4 _ _ g1, upd_same, by show 16 ≤ sizeLine; decide, fun p hp => ?_⟩
      have s5 := s4.put (o := .lst ((some14 z l0 ++ [V.str (z ++ Str.ofString "\n")]) ++ [V.str (textOf one41)])) hp
      obtain ⟨j, ej⟩ : ∃ j : Nat, cell ns 1 % 16 = (j : Int) := ⟨(cell ns 1 % 16).toNat, by omega⟩
      obtain ⟨v, hv, rv⟩ := res16 (ns := ns) tl2 bw ba bl (s5 _ _ g2) j (by omega)
      refine ⟨_, rfl, a, ns, 1, rfl, (s2.trans s5).seq hS, by decide, _, _, rfl, rfl, by show (0 : Int) < 16; decide, p, _, _, v, rfl, rfl, .lst upd_same, by rw [ej]; exact atI_nat hv, ?_⟩
      exact q v _ (s2.trans s5) rv
theorem ok_law {f : Addr} {fd : FuncData} (F : Fun K "law" "law" s_law f fd) (T : Tx mg) (C__law_cell : Fn P w K mg base "_law_cell" ["_law_script", "_law_k"] 1 (sp_cell K)) (C__law_purse : Fn P w K mg base "_law_purse" ["_law_script", "_law_at"] 3 (sp_purse K)) (C__law_bad : Fn P w K mg base "_law_bad" ["_law_script", "_law_text"] 2 (sp_bad25 K)) (C__law_due : Fn P w K mg base "_law_due" ["_law_text"] 2 sp_due25) (C__law_refused : Fn P w K mg base "_law_refused" ["_law_text"] 7 sp_refd) (C__law_by_base : Fn P w K mg base "_law_by_base" ["_law_text"] 7 sp_refd) (C_read : Fn P w K mg base "read" ["text"] 6 (sp0 (sp_readT c_BadText))) : FnOk P w K mg base CX0 8 f fd ["_law_script"] (sp_law K) := by
  refine F.ok sc_law (fun vs H Q E h => ?_) (fun cdv A outer s H vs Q E hr h => ?_)
  · obtain ⟨a, ns, rfl, _⟩ := h
    rfl
  · obtain ⟨a, ns, rfl, hS, hlen, q⟩ := h
    have hu0 := hr.units0
    refine ⟨_, (pss_cons (ps_set (i := 1) sc_law.nd rfl (Or.inl (by kernel_rfl)) (pe_fn C__law_bad (hr.mono (by decide)) (pa_cons (pv 0) (pa_cons (pe_bm PySem.F.plainAttrs_str PySem.F.slot_str_join PySem.F.type_str_join (mt_joinK (K := K) rfl) pe_str (pa_cons (pe_comp (x := "_law_coin") (M := ["_law_script", "_law_bad_here", "_law_due_here"]) rfl (CompScope.of (by kernel_rfl)) (pi_seqK (K := K) rfl (pe_fn C__law_purse (hr.mono (by decide)) (pa_cons (pv 0) (pa_cons pe_int pa_nil)))) (fun _ _ _ _ _ => pts_nil) (fun _ _ _ _ _ => (pe_callTy call_str_int (gl_of (by kernel_rfl)) T.b_str boot_str (pa_cons (pv 0) pa_nil)))) pa_nil)) pa_nil))))
      (pss_cons (ps_set (i := 2) sc_law.nd rfl (Or.inl (by kernel_rfl)) pe_non)
      (pss_cons (ps_if (pt_val (pe_callB (isinstK (K := K) rfl) (gl_of (by kernel_rfl)) T.b_isinstance boot_isinstance (pa_cons (pv 1) (pa_cons (pe_ty T.b_str boot_str) pa_nil)))) (pss_one (ps_set (i := 2) sc_law.nd rfl (Or.inl (by kernel_rfl)) (pe_fn C__law_due (hr.mono (by decide)) (pa_cons (pv 1) pa_nil)))) pss_nil)
      (pss_cons (ps_if (pt_cmp (pc_isN (pv 2))) (pss_one (ps_ret (pe_and (pe_fn C__law_refused (hr.mono (by decide)) (pa_cons (pv 1) pa_nil)) (pe_one (pe_fn C__law_by_base (hr.mono (by decide)) (pa_cons (pv 1) pa_nil)))))) pss_nil)
      (pss_one (ps_ret (pe_and (pe_cmpR op_lt (pe_op op_mod (pe_fn C__law_cell (hr.mono (by decide)) (pa_cons (pv 0) (pa_cons pe_int pa_nil))) pe_int) pe_int (nomark _)) (pe_one (pe_cmpR (eqTK (K := K) rfl hu0) (pe_fn C_read (hr.mono (by decide)) (pa_cons (pv 1) pa_nil)) (pv 2) (nomark _)))))))))), ?_⟩
    refine ⟨_, rfl, rfl, _, rfl, a, ns, 3, rfl, hS, hlen, by decide, fun t0 cs H1 s1 ht0 hP0 hc4 => ?_⟩
    have hP := hP0.wide
    have hS1 := s1.seq hS
    refine ⟨t0, rfl, ?_⟩
    refine comp_seq (fun _ H' => H' = H1) (fun _ => true) toS (by rw [List.length_map, sizeLine_eq]; omega) rfl (fun _ _ e => by rw [e]; exact Same.refl _) (.tpl ht0) ?_ ?_
    · rintro j v H2 R R' hv rfl hR hR'
      obtain ⟨c, rfl, hc⟩ := ivs_nth hv
      have c1 := hP.lo c (List.mem_of_getElem? hc)
      have c2 := hP.hi c (List.mem_of_getElem? hc)
      refine true_then ?_
      refine ⟨_, rfl, c, rfl, ?_, hR _ rfl rfl⟩
      have : c.natAbs ≤ 400 := by omega
      have := Nat.log2_le_self c.natAbs
      omega
    rintro H2 l rfl hl
    rw [map_toS]
    have s2 := (Same.refl H2).put (o := .lst (ofS cs)) hl
    refine ⟨_, l, cs.map wS, rfl, rfl, .of upd_same, by decide +kernel, ?_, ?_⟩
    · have := sum_short cs fun c hc => ⟨hP.lo c hc, hP.hi c hc⟩
      rw [List.length_map]
      omega
    generalize upd H2 l (.lst (ofS cs)) = H3 at s2 ⊢
    have et : Str.join (Str.ofString " ") (cs.map wS) = textOf cs := text_join cs
    rw [et]
    have hS3 := s2.seq hS1
    refine ⟨a, ns, cs, rfl, hS3, hP, hc4, fun v H4 s4 rv => ?_⟩
    have hS4 := s4.seq hS3
    have bad : ∀ H', Same H4 H' → BadV H' v → True := fun _ _ _ => trivial
    rcases rv with ⟨y, rfl, hy, h3⟩ | ⟨b, k, hn⟩
    · refine ⟨_, rfl, _, _, _, _, rfl, .str _, kit_strstr K, _, rfl, ?_⟩
      refine iteT ?_
      refine ⟨_, rfl, y, rfl, hy, fun g t H5 s5 h5 => ?_, fun g H5 s5 => ?_⟩
      · refine ⟨_, rfl, _, rfl, ?_⟩
        refine iteF ?_
        refine ⟨_, rfl, a, ns, 0, rfl, s5.seq hS4, by decide, _, _, rfl, rfl, by show (0 : Int) < 4; decide, _, _, rfl, rfl, _, rfl, ?_⟩
        have lt3 : cell ns 0 % 4 < 3 := by
          have := Int.emod_lt_of_pos (cell ns 0) (show (0 : Int) < 4 by decide)
          have : cell ns 0 % 4 ≠ 3 := fun y3 => h3 y3 g
          omega
        refine ifT (decide_eq_true lt3) ?_
        refine ⟨_, rfl, .inl ⟨y, rfl, hy, fun _ _ t6 H6 s6 h6 => ?_, fun ng => absurd g ng⟩⟩
        refine ⟨_, rfl, t6, t, _, _, rfl, rfl, .of h6, .of (s6 _ _ h5), flat_ivs _, flat_ivs _, ?_⟩
        rw [if_neg Bool.false_ne_true, eqVs_ints, decide_eq_true rfl]
        exact q _
      · refine ⟨_, rfl, _, rfl, ?_⟩
        refine iteT ?_
        refine ⟨_, rfl, .str y, rfl, .inl ⟨y, rfl, hy, g⟩, fun H6 s6 => ?_⟩
        refine ⟨_, rfl, ?_⟩
        refine iteT ?_
        exact ⟨_, rfl, .str y, rfl, .inl ⟨y, rfl, hy, g⟩, fun H7 s7 => q _⟩
    · obtain ⟨ty, ht, hk⟩ := k.noStr (K := K) hn
      refine ⟨_, rfl, _, _, _, _, rfl, ht, hk, _, rfl, ?_⟩
      refine iteF ?_
      refine ⟨_, rfl, _, rfl, ?_⟩
      refine iteT ?_
      refine ⟨_, rfl, v, rfl, .inr ⟨b, k, hn⟩, fun H6 s6 => ?_⟩
      refine ⟨_, rfl, ?_⟩
      refine iteT ?_
      exact ⟨_, rfl, v, rfl, .inr ⟨b, k.keep s6, hn⟩, fun H7 s7 => q _⟩
end
end CY

set_option Elab.async false
set_option linter.all false
set_option maxRecDepth 100000
set_option maxHeartbeats 4000000
namespace CY
open PySem PySem.Spec PyProof.Rows L2
theorem all_mk {l : PySem.W.OpenLaw} {w : World} {K : PySem.W.Frag} {h : Heap} {mg : Str → Option Value} {fa x_is_whole x_checked x_is_number_in_figures x_read x__law_cell x__law_mix x__law_coins x__law_purse x__law_refused x__law_by_base x__law_number x__law_due x__law_bad x_law : Addr} {od_is_whole an_is_whole od_checked an_checked od_is_number_in_figures an_is_number_in_figures od_read an_read od__law_cell an__law_cell od__law_mix an__law_mix od__law_coins an__law_coins od__law_purse an__law_purse od__law_refused an__law_refused od__law_by_base an__law_by_base od__law_number an__law_number od__law_due an__law_due od__law_bad an__law_bad od_law an_law : Option Addr} {sl_is_whole sl_checked sl_is_number_in_figures sl_read sl__law_cell sl__law_mix sl__law_coins sl__law_purse sl__law_refused sl__law_by_base sl__law_number sl__law_due sl__law_bad sl_law : Array (Option Value)} {oc_is_whole kV_is_whole dc_is_whole pm_is_whole cd_is_whole ct_is_whole oc_checked kV_checked dc_checked pm_checked cd_checked ct_checked oc_is_number_in_figures kV_is_number_in_figures dc_is_number_in_figures pm_is_number_in_figures cd_is_number_in_figures ct_is_number_in_figures oc_read kV_read dc_read pm_read cd_read ct_read oc__law_cell kV__law_cell dc__law_cell pm__law_cell cd__law_cell ct__law_cell oc__law_mix kV__law_mix dc__law_mix pm__law_mix cd__law_mix ct__law_mix oc__law_coins kV__law_coins dc__law_coins pm__law_coins cd__law_coins ct__law_coins oc__law_purse kV__law_purse dc__law_purse pm__law_purse cd__law_purse ct__law_purse oc__law_refused kV__law_refused dc__law_refused pm__law_refused cd__law_refused ct__law_refused oc__law_by_base kV__law_by_base dc__law_by_base pm__law_by_base cd__law_by_base ct__law_by_base oc__law_number kV__law_number dc__law_number pm__law_number cd__law_number ct__law_number oc__law_due kV__law_due dc__law_due pm__law_due cd__law_due ct__law_due oc__law_bad kV__law_bad dc__law_bad pm__law_bad cd__law_bad ct__law_bad oc_law kV_law dc_law pm_law cd_law ct_law : Value} {t_MOST_COINS t_GREATEST_COIN t_MOST_FIGURES t_FIGURES : Tok} {c_CoinError c_BadPurse c_BadText : Addr} (X : K.In h) (G : h.Ns mainGlobals mg) (hfa : mg "law" = some (.ref fa))
    (a_is_whole : PySem.W.nsIn K mainGlobals "is_whole" = some (some (.ref x_is_whole)))
    (l_is_whole : K.lookup x_is_whole = some ⟨oc_is_whole, od_is_whole, .func (PySem.W.fnOf "is_whole" "is_whole" (defArgs s_is_whole) (defBody s_is_whole) (defScope s_is_whole) .none kV_is_whole dc_is_whole pm_is_whole an_is_whole cd_is_whole ct_is_whole), sl_is_whole⟩)
    (c_is_whole : PySem.W.codeIn K cd_is_whole "is_whole" = true)
    (k_is_whole : PySem.W.keepIn K (.ref x_is_whole) = true)
    (a_checked : PySem.W.nsIn K mainGlobals "checked" = some (some (.ref x_checked)))
    (l_checked : K.lookup x_checked = some ⟨oc_checked, od_checked, .func (PySem.W.fnOf "checked" "checked" (defArgs s_checked) (defBody s_checked) (defScope s_checked) .none kV_checked dc_checked pm_checked an_checked cd_checked ct_checked), sl_checked⟩)
    (c_checked : PySem.W.codeIn K cd_checked "checked" = true)
    (k_checked : PySem.W.keepIn K (.ref x_checked) = true)
    (a_is_number_in_figures : PySem.W.nsIn K mainGlobals "is_number_in_figures" = some (some (.ref x_is_number_in_figures)))
    (l_is_number_in_figures : K.lookup x_is_number_in_figures = some ⟨oc_is_number_in_figures, od_is_number_in_figures, .func (PySem.W.fnOf "is_number_in_figures" "is_number_in_figures" (defArgs s_is_number_in_figures) (defBody s_is_number_in_figures) (defScope s_is_number_in_figures) .none kV_is_number_in_figures dc_is_number_in_figures pm_is_number_in_figures an_is_number_in_figures cd_is_number_in_figures ct_is_number_in_figures), sl_is_number_in_figures⟩)
    (c_is_number_in_figures : PySem.W.codeIn K cd_is_number_in_figures "is_number_in_figures" = true)
    (k_is_number_in_figures : PySem.W.keepIn K (.ref x_is_number_in_figures) = true)
    (a_read : PySem.W.nsIn K mainGlobals "read" = some (some (.ref x_read)))
    (l_read : K.lookup x_read = some ⟨oc_read, od_read, .func (PySem.W.fnOf "read" "read" (defArgs s_read) (defBody s_read) (defScope s_read) .none kV_read dc_read pm_read an_read cd_read ct_read), sl_read⟩)
    (c_read : PySem.W.codeIn K cd_read "read" = true)
    (k_read : PySem.W.keepIn K (.ref x_read) = true)
    (a__law_cell : PySem.W.nsIn K mainGlobals "_law_cell" = some (some (.ref x__law_cell)))
    (l__law_cell : K.lookup x__law_cell = some ⟨oc__law_cell, od__law_cell, .func (PySem.W.fnOf "_law_cell" "_law_cell" (defArgs s__law_cell) (defBody s__law_cell) (defScope s__law_cell) .none kV__law_cell dc__law_cell pm__law_cell an__law_cell cd__law_cell ct__law_cell), sl__law_cell⟩)
    (c__law_cell : PySem.W.codeIn K cd__law_cell "_law_cell" = true)
    (k__law_cell : PySem.W.keepIn K (.ref x__law_cell) = true)
    (a__law_mix : PySem.W.nsIn K mainGlobals "_law_mix" = some (some (.ref x__law_mix)))
    (l__law_mix : K.lookup x__law_mix = some ⟨oc__law_mix, od__law_mix, .func (PySem.W.fnOf "_law_mix" "_law_mix" (defArgs s__law_mix) (defBody s__law_mix) (defScope s__law_mix) .none kV__law_mix dc__law_mix pm__law_mix an__law_mix cd__law_mix ct__law_mix), sl__law_mix⟩)
    (c__law_mix : PySem.W.codeIn K cd__law_mix "_law_mix" = true)
    (k__law_mix : PySem.W.keepIn K (.ref x__law_mix) = true)
    (a__law_coins : PySem.W.nsIn K mainGlobals "_law_coins" = some (some (.ref x__law_coins)))
    (l__law_coins : K.lookup x__law_coins = some ⟨oc__law_coins, od__law_coins, .func (PySem.W.fnOf "_law_coins" "_law_coins" (defArgs s__law_coins) (defBody s__law_coins) (defScope s__law_coins) .none kV__law_coins dc__law_coins pm__law_coins an__law_coins cd__law_coins ct__law_coins), sl__law_coins⟩)
    (c__law_coins : PySem.W.codeIn K cd__law_coins "_law_coins" = true)
    (k__law_coins : PySem.W.keepIn K (.ref x__law_coins) = true)
    (a__law_purse : PySem.W.nsIn K mainGlobals "_law_purse" = some (some (.ref x__law_purse)))
    (l__law_purse : K.lookup x__law_purse = some ⟨oc__law_purse, od__law_purse, .func (PySem.W.fnOf "_law_purse" "_law_purse" (defArgs s__law_purse) (defBody s__law_purse) (defScope s__law_purse) .none kV__law_purse dc__law_purse pm__law_purse an__law_purse cd__law_purse ct__law_purse), sl__law_purse⟩)
    (c__law_purse : PySem.W.codeIn K cd__law_purse "_law_purse" = true)
    (k__law_purse : PySem.W.keepIn K (.ref x__law_purse) = true)
    (a__law_refused : PySem.W.nsIn K mainGlobals "_law_refused" = some (some (.ref x__law_refused)))
    (l__law_refused : K.lookup x__law_refused = some ⟨oc__law_refused, od__law_refused, .func (PySem.W.fnOf "_law_refused" "_law_refused" (defArgs s__law_refused) (defBody s__law_refused) (defScope s__law_refused) .none kV__law_refused dc__law_refused pm__law_refused an__law_refused cd__law_refused ct__law_refused), sl__law_refused⟩)
    (c__law_refused : PySem.W.codeIn K cd__law_refused "_law_refused" = true)
    (k__law_refused : PySem.W.keepIn K (.ref x__law_refused) = true)
    (a__law_by_base : PySem.W.nsIn K mainGlobals "_law_by_base" = some (some (.ref x__law_by_base)))
    (l__law_by_base : K.lookup x__law_by_base = some ⟨oc__law_by_base, od__law_by_base, .func (PySem.W.fnOf "_law_by_base" "_law_by_base" (defArgs s__law_by_base) (defBody s__law_by_base) (defScope s__law_by_base) .none kV__law_by_base dc__law_by_base pm__law_by_base an__law_by_base cd__law_by_base ct__law_by_base), sl__law_by_base⟩)
    (c__law_by_base : PySem.W.codeIn K cd__law_by_base "_law_by_base" = true)
    (k__law_by_base : PySem.W.keepIn K (.ref x__law_by_base) = true)
    (a__law_number : PySem.W.nsIn K mainGlobals "_law_number" = some (some (.ref x__law_number)))
    (l__law_number : K.lookup x__law_number = some ⟨oc__law_number, od__law_number, .func (PySem.W.fnOf "_law_number" "_law_number" (defArgs s__law_number) (defBody s__law_number) (defScope s__law_number) .none kV__law_number dc__law_number pm__law_number an__law_number cd__law_number ct__law_number), sl__law_number⟩)
    (c__law_number : PySem.W.codeIn K cd__law_number "_law_number" = true)
    (k__law_number : PySem.W.keepIn K (.ref x__law_number) = true)
    (a__law_due : PySem.W.nsIn K mainGlobals "_law_due" = some (some (.ref x__law_due)))
    (l__law_due : K.lookup x__law_due = some ⟨oc__law_due, od__law_due, .func (PySem.W.fnOf "_law_due" "_law_due" (defArgs s__law_due) (defBody s__law_due) (defScope s__law_due) .none kV__law_due dc__law_due pm__law_due an__law_due cd__law_due ct__law_due), sl__law_due⟩)
    (c__law_due : PySem.W.codeIn K cd__law_due "_law_due" = true)
    (k__law_due : PySem.W.keepIn K (.ref x__law_due) = true)
    (a__law_bad : PySem.W.nsIn K mainGlobals "_law_bad" = some (some (.ref x__law_bad)))
    (l__law_bad : K.lookup x__law_bad = some ⟨oc__law_bad, od__law_bad, .func (PySem.W.fnOf "_law_bad" "_law_bad" (defArgs s__law_bad) (defBody s__law_bad) (defScope s__law_bad) .none kV__law_bad dc__law_bad pm__law_bad an__law_bad cd__law_bad ct__law_bad), sl__law_bad⟩)
    (c__law_bad : PySem.W.codeIn K cd__law_bad "_law_bad" = true)
    (k__law_bad : PySem.W.keepIn K (.ref x__law_bad) = true)
    (a_law : PySem.W.nsIn K mainGlobals "law" = some (some (.ref x_law)))
    (l_law : K.lookup x_law = some ⟨oc_law, od_law, .func (PySem.W.fnOf "law" "law" (defArgs s_law) (defBody s_law) (defScope s_law) .none kV_law dc_law pm_law an_law cd_law ct_law), sl_law⟩)
    (c_law : PySem.W.codeIn K cd_law "law" = true)
    (k_law : PySem.W.keepIn K (.ref x_law) = true)
    (v_MOST_COINS : PySem.W.nsIn K mainGlobals "MOST_COINS" = some (some (.int 40 t_MOST_COINS)))
    (v_GREATEST_COIN : PySem.W.nsIn K mainGlobals "GREATEST_COIN" = some (some (.int 400 t_GREATEST_COIN)))
    (v_MOST_FIGURES : PySem.W.nsIn K mainGlobals "MOST_FIGURES" = some (some (.int 3 t_MOST_FIGURES)))
    (v_FIGURES : PySem.W.nsIn K mainGlobals "FIGURES" = some (some (.str "0123456789" t_FIGURES)))
    (z_len : PySem.W.nsIn K mainGlobals "len" = some none)
    (z_isinstance : PySem.W.nsIn K mainGlobals "isinstance" = some none)
    (z_max : PySem.W.nsIn K mainGlobals "max" = some none)
    (z_sorted : PySem.W.nsIn K mainGlobals "sorted" = some none)
    (z_set : PySem.W.nsIn K mainGlobals "set" = some none)
    (z_tuple : PySem.W.nsIn K mainGlobals "tuple" = some none)
    (z_list : PySem.W.nsIn K mainGlobals "list" = some none)
    (z_int : PySem.W.nsIn K mainGlobals "int" = some none)
    (z_bool : PySem.W.nsIn K mainGlobals "bool" = some none)
    (z_range : PySem.W.nsIn K mainGlobals "range" = some none)
    (z_min : PySem.W.nsIn K mainGlobals "min" = some none)
    (z_sum : PySem.W.nsIn K mainGlobals "sum" = some none)
    (z_zip : PySem.W.nsIn K mainGlobals "zip" = some none)
    (z_str : PySem.W.nsIn K mainGlobals "str" = some none)
    (z_ValueError : PySem.W.nsIn K mainGlobals "ValueError" = some none)
    (z_reversed : PySem.W.nsIn K mainGlobals "reversed" = some none)
    (z_enumerate : PySem.W.nsIn K mainGlobals "enumerate" = some none)
    (e_CoinError : PySem.W.nsIn K mainGlobals "CoinError" = some (some (.ref c_CoinError)))
    (f_CoinError : PySem.W.excIn K c_CoinError bmV "ValueError.__new__" = true)
    (e_BadPurse : PySem.W.nsIn K mainGlobals "BadPurse" = some (some (.ref c_BadPurse)))
    (f_BadPurse : PySem.W.excIn K c_BadPurse bmV "ValueError.__new__" = true)
    (g_BadPurse : PySem.W.mroIn K c_BadPurse (.ref c_CoinError) = some true)
    (v_BadPurse : PySem.W.kitOne K (.ref c_BadPurse) (.type "ValueError") = some true)
    (e_BadText : PySem.W.nsIn K mainGlobals "BadText" = some (some (.ref c_BadText)))
    (f_BadText : PySem.W.excIn K c_BadText bmV "ValueError.__new__" = true)
    (g_BadText : PySem.W.mroIn K c_BadText (.ref c_CoinError) = some true)
    (v_BadText : PySem.W.kitOne K (.ref c_BadText) (.type "ValueError") = some true)
    (h1_BadText : (PySem.W.clsIn K c_BadText).isSome = true)
    (h2_BadText : PySem.W.findIn K (.ref c_BadText) "__getattribute__" = some (some (.builtin "BaseException.__getattribute__")))
    (h3_BadText : PySem.W.findIn K (.ref c_BadText) "__getattr__" = some none)
    (h4_BadText : PySem.W.findIn K (.ref c_BadText) "__class__" = some (some (.builtin "object.__class__")))
    (h7_BadText : PySem.W.mroIn K c_BadText (.type "object") = some true)
    (h8_BadText : PySem.W.mroIn K c_BadText (.type "BaseException") = some true)
    (h5 : PySem.W.specialIn K (.builtin "object.__class__") "__get__" = some (some (.builtin "getset_descriptor.__get__")))
    (h6 : PySem.W.takesIn K (.builtin "object.__class__") = some true)
    (I_same : PySem.W.mroIn K c_BadPurse (.ref c_BadPurse) = some true)
    (I_sameT : PySem.W.mroIn K c_BadText (.ref c_BadText) = some true) :
    ∃ fd : FuncData, (∀ (s : Shared) (v : Value), BindsTo s fd ⟨[v], []⟩ [("_law_script", v)]) ∧ ∀ base : Heap, K.In base → base.Ns mainGlobals mg → FnOk l.prog w K mg base CX0 8 fa fd ["_law_script"] (sp_law K) := by
  have e := hfa.symm.trans (PySem.W.mg_of X G a_law)
  cases e
  have T : Tx mg := ⟨PySem.W.mg_none_of X G z_len, PySem.W.mg_none_of X G z_isinstance, PySem.W.mg_none_of X G z_max, PySem.W.mg_none_of X G z_sorted, PySem.W.mg_none_of X G z_set, PySem.W.mg_none_of X G z_tuple, PySem.W.mg_none_of X G z_list, PySem.W.mg_none_of X G z_int, PySem.W.mg_none_of X G z_bool, PySem.W.mg_none_of X G z_range, PySem.W.mg_none_of X G z_min, PySem.W.mg_none_of X G z_sum, PySem.W.mg_none_of X G z_zip, PySem.W.mg_none_of X G z_str, PySem.W.mg_none_of X G z_ValueError, PySem.W.mg_none_of X G z_reversed, PySem.W.mg_none_of X G z_enumerate⟩
  have h_MOST_COINS := PySem.W.mg_of X G v_MOST_COINS
  have h_GREATEST_COIN := PySem.W.mg_of X G v_GREATEST_COIN
  have h_MOST_FIGURES := PySem.W.mg_of X G v_MOST_FIGURES
  have h_FIGURES := PySem.W.mg_of X G v_FIGURES
  have X_CoinError : Exc K mg "CoinError" c_CoinError := ⟨PySem.W.mg_of X G e_CoinError, f_CoinError⟩
  have X_BadPurse : Err K mg "BadPurse" c_BadPurse c_CoinError := ⟨⟨PySem.W.mg_of X G e_BadPurse, f_BadPurse⟩, g_BadPurse, v_BadPurse⟩
  have X_BadText : Err K mg "BadText" c_BadText c_CoinError := ⟨⟨PySem.W.mg_of X G e_BadText, f_BadText⟩, g_BadText, v_BadText⟩
  have K_BadText : ExcLook K c_BadText := ⟨h1_BadText, h2_BadText, h3_BadText, h4_BadText, h5, h6, h7_BadText, h8_BadText⟩
  have F_is_whole := fun_mk (st := s_is_whole) l_is_whole c_is_whole k_is_whole
  have F_checked := fun_mk (st := s_checked) l_checked c_checked k_checked
  have F_is_number_in_figures := fun_mk (st := s_is_number_in_figures) l_is_number_in_figures c_is_number_in_figures k_is_number_in_figures
  have F_read := fun_mk (st := s_read) l_read c_read k_read
  have F__law_cell := fun_mk (st := s__law_cell) l__law_cell c__law_cell k__law_cell
  have F__law_mix := fun_mk (st := s__law_mix) l__law_mix c__law_mix k__law_mix
  have F__law_coins := fun_mk (st := s__law_coins) l__law_coins c__law_coins k__law_coins
  have F__law_purse := fun_mk (st := s__law_purse) l__law_purse c__law_purse k__law_purse
  have F__law_refused := fun_mk (st := s__law_refused) l__law_refused c__law_refused k__law_refused
  have F__law_by_base := fun_mk (st := s__law_by_base) l__law_by_base c__law_by_base k__law_by_base
  have F__law_number := fun_mk (st := s__law_number) l__law_number c__law_number k__law_number
  have F__law_due := fun_mk (st := s__law_due) l__law_due c__law_due k__law_due
  have F__law_bad := fun_mk (st := s__law_bad) l__law_bad c__law_bad k__law_bad
  have F_law := fun_mk (st := s_law) l_law c_law k_law
  refine ⟨PySem.W.fnOf "law" "law" (defArgs s_law) (defBody s_law) (defScope s_law) .none kV_law dc_law pm_law an_law cd_law ct_law, fun s v => .of_eq rfl, fun base _ _ => ?_⟩
  have W_is_whole : Fn l.prog w K mg base "is_whole" ["thing"] 1 sp_wholeG := ⟨x_is_whole, _, no_is_whole F_is_whole T, PySem.W.mg_of X G a_is_whole, k_is_whole, F_is_whole.binds (ps := ["thing"]) fun _ _ _ _ _ _ us hl => match us, hl with | [_], _ => rfl⟩
  have C_is_whole : Fn l.prog w K mg base "is_whole" ["thing"] 1 sp_whole := ⟨x_is_whole, _, ok_is_whole F_is_whole T, PySem.W.mg_of X G a_is_whole, k_is_whole, F_is_whole.binds (ps := ["thing"]) fun _ _ _ _ _ _ us hl => match us, hl with | [_], _ => rfl⟩
  have D_checked : FnXC l.prog w K mg base "checked" ["purse"] 2 (orSp (sp_checked K) (sp_no1 c_BadPurse)) := ⟨x_checked, _, FnOk.orC (ok_checked F_checked T h_MOST_COINS h_GREATEST_COIN C_is_whole) (no_checked F_checked T h_MOST_COINS h_GREATEST_COIN X_BadPurse W_is_whole), PySem.W.mg_of X G a_checked, k_checked, F_checked.binds (ps := ["purse"]) fun _ _ _ _ _ _ us hl => match us, hl with | [_], _ => rfl⟩
  have C_checked : Fn l.prog w K mg base "checked" ["purse"] 2 (sp_checked K) := ⟨x_checked, _, ok_checked F_checked T h_MOST_COINS h_GREATEST_COIN C_is_whole, PySem.W.mg_of X G a_checked, k_checked, F_checked.binds (ps := ["purse"]) fun _ _ _ _ _ _ us hl => match us, hl with | [_], _ => rfl⟩
  have C_is_number_in_figures : Fn l.prog w K mg base "is_number_in_figures" ["text"] 1 sp_fig := ⟨x_is_number_in_figures, _, ok_is_number_in_figures F_is_number_in_figures T h_FIGURES h_MOST_FIGURES, PySem.W.mg_of X G a_is_number_in_figures, k_is_number_in_figures, F_is_number_in_figures.binds (ps := ["text"]) fun _ _ _ _ _ _ us hl => match us, hl with | [_], _ => rfl⟩
  have D_read : FnX l.prog w K mg base "read" ["text"] 6 (sp_readT c_BadText) := ⟨x_read, _, ok_read F_read T X_BadText X_BadPurse C_is_number_in_figures I_same D_checked, PySem.W.mg_of X G a_read, k_read, F_read.binds (ps := ["text"]) fun _ _ _ _ _ _ us hl => match us, hl with | [_], _ => rfl⟩
  have C_read := D_read.plain
  have C__law_cell : Fn l.prog w K mg base "_law_cell" ["_law_script", "_law_k"] 1 (sp_cell K) := ⟨x__law_cell, _, ok__law_cell F__law_cell T, PySem.W.mg_of X G a__law_cell, k__law_cell, F__law_cell.binds (ps := ["_law_script", "_law_k"]) fun _ _ _ _ _ _ us hl => match us, hl with | [_, _], _ => rfl⟩
  have C__law_mix : Fn l.prog w K mg base "_law_mix" ["_law_cell_here", "_law_prime", "_law_many"] 1 sp_mix := ⟨x__law_mix, _, ok__law_mix F__law_mix, PySem.W.mg_of X G a__law_mix, k__law_mix, F__law_mix.binds (ps := ["_law_cell_here", "_law_prime", "_law_many"]) fun _ _ _ _ _ _ us hl => match us, hl with | [_, _, _], _ => rfl⟩
  have C__law_coins : Fn l.prog w K mg base "_law_coins" ["_law_script", "_law_at", "_law_most"] 2 (sp_coins K) := ⟨x__law_coins, _, ok__law_coins F__law_coins T C__law_cell C__law_mix, PySem.W.mg_of X G a__law_coins, k__law_coins, F__law_coins.binds (ps := ["_law_script", "_law_at", "_law_most"]) fun _ _ _ _ _ _ us hl => match us, hl with | [_, _, _], _ => rfl⟩
  have C__law_purse : Fn l.prog w K mg base "_law_purse" ["_law_script", "_law_at"] 3 (sp_purse K) := ⟨x__law_purse, _, ok__law_purse F__law_purse T C__law_cell C__law_mix C__law_coins, PySem.W.mg_of X G a__law_purse, k__law_purse, F__law_purse.binds (ps := ["_law_script", "_law_at"]) fun _ _ _ _ _ _ us hl => match us, hl with | [_, _], _ => rfl⟩
  have C__law_refused : Fn l.prog w K mg base "_law_refused" ["_law_text"] 7 sp_refd := ⟨x__law_refused, _, ok__law_refused F__law_refused X_BadText I_sameT D_read, PySem.W.mg_of X G a__law_refused, k__law_refused, F__law_refused.binds (ps := ["_law_text"]) fun _ _ _ _ _ _ us hl => match us, hl with | [_], _ => rfl⟩
  have C__law_by_base : Fn l.prog w K mg base "_law_by_base" ["_law_text"] 7 sp_refd := ⟨x__law_by_base, _, ok__law_by_base F__law_by_base T X_CoinError X_BadText K_BadText D_read, PySem.W.mg_of X G a__law_by_base, k__law_by_base, F__law_by_base.binds (ps := ["_law_text"]) fun _ _ _ _ _ _ us hl => match us, hl with | [_], _ => rfl⟩
  have C__law_number : Fn l.prog w K mg base "_law_number" ["_law_word"] 1 sp_num25 := ⟨x__law_number, _, ok__law_number F__law_number T, PySem.W.mg_of X G a__law_number, k__law_number, F__law_number.binds (ps := ["_law_word"]) fun _ _ _ _ _ _ us hl => match us, hl with | [_], _ => rfl⟩
  have C__law_due : Fn l.prog w K mg base "_law_due" ["_law_text"] 2 sp_due25 := ⟨x__law_due, _, ok__law_due F__law_due T C__law_number, PySem.W.mg_of X G a__law_due, k__law_due, F__law_due.binds (ps := ["_law_text"]) fun _ _ _ _ _ _ us hl => match us, hl with | [_], _ => rfl⟩
  have C__law_bad : Fn l.prog w K mg base "_law_bad" ["_law_script", "_law_text"] 2 (sp_bad25 K) := ⟨x__law_bad, _, ok__law_bad F__law_bad T C__law_cell, PySem.W.mg_of X G a__law_bad, k__law_bad, F__law_bad.binds (ps := ["_law_script", "_law_text"]) fun _ _ _ _ _ _ us hl => match us, hl with | [_, _], _ => rfl⟩
  exact ok_law F_law T C__law_cell C__law_purse C__law_bad C__law_due C__law_refused C__law_by_base C_read
end CY
open PySem PySem.W PyProof.Rows
set_option maxRecDepth 100000 in
set_option maxHeartbeats 0 in
theorem PySem.Challenge.cw_coinyard_k25_spoilt_texts_holds : PySem.Challenge.rw_coinyard_k25_spoilt_texts.Holds := by
  w_on; o_law; k_head; (case hw => w_witness2)
  k_fill
  refine L2.walk_of (l := PySem.Challenge.rw_coinyard_k25_spoilt_texts) (n := 63) (k := 8) (x := "_law_script") (CX := fun _ => L2.CX0) (sp := fun w => CY.sp_law _) rfl (by decide) rfl ⟨rfl, by decide, by decide⟩ (fun w h Y => PySem.W.kIn_of Y) ?F (fun _ _ a ns hl _ hS => ⟨a, ns, rfl, hS, hl, fun _ => rfl⟩) fun _ _ _ _ _ z => z
  case F =>
    intro w mg fa h KX G hmg
    refine' CY.all_mk KX G hmg ?a_is_whole ?l_is_whole ?c_is_whole ?k_is_whole ?a_checked ?l_checked ?c_checked ?k_checked ?a_is_number_in_figures ?l_is_number_in_figures ?c_is_number_in_figures ?k_is_number_in_figures ?a_read ?l_read ?c_read ?k_read ?a__law_cell ?l__law_cell ?c__law_cell ?k__law_cell ?a__law_mix ?l__law_mix ?c__law_mix ?k__law_mix ?a__law_coins ?l__law_coins ?c__law_coins ?k__law_coins ?a__law_purse ?l__law_purse ?c__law_purse ?k__law_purse ?a__law_refused ?l__law_refused ?c__law_refused ?k__law_refused ?a__law_by_base ?l__law_by_base ?c__law_by_base ?k__law_by_base ?a__law_number ?l__law_number ?c__law_number ?k__law_number ?a__law_due ?l__law_due ?c__law_due ?k__law_due ?a__law_bad ?l__law_bad ?c__law_bad ?k__law_bad ?a_law ?l_law ?c_law ?k_law ?v_MOST_COINS ?v_GREATEST_COIN ?v_MOST_FIGURES ?v_FIGURES ?z_len ?z_isinstance ?z_max ?z_sorted ?z_set ?z_tuple ?z_list ?z_int ?z_bool ?z_range ?z_min ?z_sum ?z_zip ?z_str ?z_ValueError ?z_reversed ?z_enumerate ?e_CoinError ?f_CoinError ?e_BadPurse ?f_BadPurse ?g_BadPurse ?v_BadPurse ?e_BadText ?f_BadText ?g_BadText ?v_BadText ?h1_BadText ?h2_BadText ?h3_BadText ?h4_BadText ?h7_BadText ?h8_BadText ?h5 ?h6 ?I_same ?I_sameT
    (case a_is_whole => k_is)
    (case l_is_whole => k_is)
    (case c_is_whole => k_is)
    (case k_is_whole => k_is)
    (case a_checked => k_is)
    (case l_checked => k_is)
    (case c_checked => k_is)
    (case k_checked => k_is)
    (case a_is_number_in_figures => k_is)
    (case l_is_number_in_figures => k_is)
    (case c_is_number_in_figures => k_is)
    (case k_is_number_in_figures => k_is)
    (case a_read => k_is)
    (case l_read => k_is)
    (case c_read => k_is)
    (case k_read => k_is)
    (case a__law_cell => k_is)
    (case l__law_cell => k_is)
    (case c__law_cell => k_is)
    (case k__law_cell => k_is)
    (case a__law_mix => k_is)
    (case l__law_mix => k_is)
    (case c__law_mix => k_is)
    (case k__law_mix => k_is)
    (case a__law_coins => k_is)
    (case l__law_coins => k_is)
    (case c__law_coins => k_is)
    (case k__law_coins => k_is)
    (case a__law_purse => k_is)
    (case l__law_purse => k_is)
    (case c__law_purse => k_is)
    (case k__law_purse => k_is)
    (case a__law_refused => k_is)
    (case l__law_refused => k_is)
    (case c__law_refused => k_is)
    (case k__law_refused => k_is)
    (case a__law_by_base => k_is)
    (case l__law_by_base => k_is)
    (case c__law_by_base => k_is)
    (case k__law_by_base => k_is)
    (case a__law_number => k_is)
    (case l__law_number => k_is)
    (case c__law_number => k_is)
    (case k__law_number => k_is)
    (case a__law_due => k_is)
    (case l__law_due => k_is)
    (case c__law_due => k_is)
    (case k__law_due => k_is)
    (case a__law_bad => k_is)
    (case l__law_bad => k_is)
    (case c__law_bad => k_is)
    (case k__law_bad => k_is)
    (case a_law => k_is)
    (case l_law => k_is)
    (case c_law => k_is)
    (case k_law => k_is)
    (case v_MOST_COINS => k_is)
    (case v_GREATEST_COIN => k_is)
    (case v_MOST_FIGURES => k_is)
    (case v_FIGURES => k_is)
    (case z_len => k_is)
    (case z_isinstance => k_is)
    (case z_max => k_is)
    (case z_sorted => k_is)
    (case z_set => k_is)
    (case z_tuple => k_is)
    (case z_list => k_is)
    (case z_int => k_is)
    (case z_bool => k_is)
    (case z_range => k_is)
    (case z_min => k_is)
    (case z_sum => k_is)
    (case z_zip => k_is)
    (case z_str => k_is)
    (case z_ValueError => k_is)
    (case z_reversed => k_is)
    (case z_enumerate => k_is)
    (case e_CoinError => first | k_is | k_exc | kernel_rfl)
    (case f_CoinError => first | k_is | k_exc | kernel_rfl)
    (case e_BadPurse => first | k_is | k_exc | kernel_rfl)
    (case f_BadPurse => first | k_is | k_exc | kernel_rfl)
    (case g_BadPurse => first | k_is | k_exc | kernel_rfl)
    (case v_BadPurse => first | k_is | k_exc | kernel_rfl)
    (case e_BadText => first | k_is | k_exc | kernel_rfl)
    (case f_BadText => first | k_is | k_exc | kernel_rfl)
    (case g_BadText => first | k_is | k_exc | kernel_rfl)
    (case v_BadText => first | k_is | k_exc | kernel_rfl)
    (case h1_BadText => first | k_is | k_exc | kernel_rfl)
    (case h2_BadText => first | k_is | k_exc | kernel_rfl)
    (case h3_BadText => first | k_is | k_exc | kernel_rfl)
    (case h4_BadText => first | k_is | k_exc | kernel_rfl)
    (case h7_BadText => first | k_is | k_exc | kernel_rfl)
    (case h8_BadText => first | k_is | k_exc | kernel_rfl)
    (case h5 => first | k_is | k_exc | kernel_rfl)
    (case h6 => first | k_is | k_exc | kernel_rfl)
    (case I_same => first | k_is | k_exc | kernel_rfl)
    (case I_sameT => first | k_is | k_exc | kernel_rfl)
#print axioms PySem.Challenge.cw_coinyard_k25_spoilt_texts_holds
