import PyProof.Rows.All
import Wide.All
import OpenK.AllK
import Wide.FinOn
import PyProof.EqAt
import PyProof.EqKinds
import PyProof.TupleCall
import KE.BitLaws
import KE.KNest
import KE.KNestM
import KE.KDictList
import PyProof.Rows.SortShellAny
import KE.KEqDeep
import KE.KDictSum
import PyProof.ListRange
import PyProof.Rows.TupAdd
import PyProof.TupleKey
import PyProof.DictRoadsH
import PyProof.Rows.RuleIs
import KE.KTab
import KE.KSortTupG
import KE.KSortTupUse
import PyProof.EnumMake
import PyProof.Draws
import PyProof.RulesMatch
import PyProof.ExcBaseAll.ValueError
import PySem.Challenge.RW_beamrows_k32_states
set_option Elab.async false
set_option linter.all false
set_option maxRecDepth 100000
namespace L2
open PySem PySem.Spec PyProof.Rows

abbrev Key := Sum Int Str
def keyIs : Key → Value → Bool
  | .inl k, v => Value.isInt k v
  | .inr x, v => Value.isStrOf x v
def keyH (w : World) : Key → Int
  | .inl k => hashInt k
  | .inr x => hashStr w x
theorem keyIs_shape : ∀ {k : Key} {v : Value}, keyIs k v = true → (∃ i t, k = Sum.inl i ∧ v = Value.int i t) ∨ (∃ x t, k = Sum.inr x ∧ v = Value.str x t)
  | .inl i, v, h => by
    obtain ⟨t, e⟩ := Value.isInt_shape (k := i) (v := v) h
    exact .inl ⟨i, t, rfl, e⟩
  | .inr x, v, h => by
    obtain ⟨t, e⟩ := Value.isStrOf_shape (x := x) (v := v) h
    exact .inr ⟨x, t, rfl, e⟩
theorem keyIs_int (i : Int) (t : Tok) : keyIs (.inl i) (.int i t) = true := by simp [keyIs, Value.isInt]
theorem keyIs_str (x : Str) (t : Tok) : keyIs (.inr x) (.str x t) = true := by simp [keyIs, Value.isStrOf]
theorem key_ll (a b : Int) : decide ((Sum.inl a : Key) = Sum.inl b) = (a == b) := by
  by_cases e : a = b
  · subst e; simp
  · have h : ¬ (Sum.inl a : Key) = Sum.inl b := fun q => e (Sum.inl.inj q)
    rw [decide_eq_false h]
    exact (beq_eq_false_iff_ne.mpr e).symm
theorem key_rr (a b : Str) : decide ((Sum.inr a : Key) = Sum.inr b) = decide (a = b) := by
  by_cases e : a = b
  · subst e; simp
  · have h : ¬ (Sum.inr a : Key) = Sum.inr b := fun q => e (Sum.inr.inj q)
    rw [decide_eq_false h, decide_eq_false e]
theorem key_lr (a : Int) (b : Str) : decide ((Sum.inl a : Key) = Sum.inr b) = false := decide_eq_false (fun q => nomatch q)
theorem key_rl (a : Str) (b : Int) : decide ((Sum.inr a : Key) = Sum.inl b) = false := decide_eq_false (fun q => nomatch q)

def mixKind (prog : Program) (w : World) : PySem.KeyKind prog w Key where
  is := keyIs
  hash := keyH w
  inj := fun v a b ha hb => by
    rcases keyIs_shape ha with ⟨i, t, rfl, rfl⟩ | ⟨x, t, rfl, rfl⟩
    · rcases keyIs_shape hb with ⟨j, u, rfl, e⟩ | ⟨y, u, rfl, e⟩
      · injection e with e1 _; rw [e1]
      · exact nomatch e
    · rcases keyIs_shape hb with ⟨j, u, rfl, e⟩ | ⟨y, u, rfl, e⟩
      · exact nomatch e
      · injection e with e1 _; rw [e1]
  byValue := fun k v h => by
    rcases keyIs_shape h with ⟨i, t, rfl, rfl⟩ | ⟨x, t, rfl, rfl⟩ <;> rfl
  pyHash := fun hv h => by
    rcases keyIs_shape hv with ⟨i, t, rfl, rfl⟩ | ⟨x, t, rfl, rfl⟩
    · exact wpAny_pyHash_int h
    · exact wpAny_pyHash_str h
  eqBool := fun hu hv h => by
    rcases keyIs_shape hu with ⟨i, t, rfl, rfl⟩ | ⟨x, t, rfl, rfl⟩
    · rcases keyIs_shape hv with ⟨j, u, rfl, rfl⟩ | ⟨y, u, rfl, rfl⟩
      · rw [key_ll] at h; exact wpAny_eqBool_int h
      · rw [key_lr] at h; exact SeqAt.EqAt.int_str i t y u _ _ _ _ h
    · rcases keyIs_shape hv with ⟨j, u, rfl, rfl⟩ | ⟨y, u, rfl, rfl⟩
      · rw [key_rl] at h; exact SeqAt.EqAt.str_int x t j u _ _ _ _ h
      · rw [key_rr] at h; exact wpAny_eqBool_str h
  «strs» := fun k x t v h => by
    rcases keyIs_shape h with ⟨i, u, rfl, e⟩ | ⟨y, u, rfl, e⟩
    · exact nomatch e
    · injection e with e1 _
      subst e1
      cases v <;> rfl

theorem mixKind_int (prog : Program) (w : World) (i : Int) (t : Tok) : (mixKind prog w).is (.inl i) (.int i t) = true := keyIs_int i t
theorem mixKind_str (prog : Program) (w : World) (x : Str) (t : Tok) : (mixKind prog w).is (.inr x) (.str x t) = true := keyIs_str x t
end L2

namespace L2
open PySem PySem.Spec PyProof.Rows

inductive V where
  | non | bl (b : Bool) | int (i : Int) | str (x : Str) | byt (b : Array UInt8) | flt (b : UInt64) | ref (a : Addr) | ty (n : String)
  deriving DecidableEq

def RelV : V → Value → Prop
  | .non, u => u = Value.none
  | .bl b, u => u = Value.bool b
  | .int i, u => ∃ t, u = Value.int i t
  | .str x, u => ∃ t, u = Value.str x t
  | .byt b, u => ∃ t, u = Value.bytes b t
  | .flt b, u => ∃ t, u = Value.float b t
  | .ref a, u => u = Value.ref a
  | .ty n, u => u = Value.type n

abbrev Vals : List V → List Value → Prop := Paired RelV
theorem Vals.length {xs : List V} {us : List Value} (r : Vals xs us) : xs.length = us.length := Paired.length r
theorem Vals.get : ∀ {xs : List V} {us : List Value} {i : Nat} {x : V}, Vals xs us → xs[i]? = some x → ∃ u, us[i]? = some u ∧ RelV x u
  | _, _, _, _, .nil, e => by simp at e
  | _, _, 0, _, .cons r _, e => by simp at e; subst e; exact ⟨_, rfl, r⟩
  | _, _, i + 1, x, .cons _ t, e => by
    obtain ⟨u, h1, h2⟩ := Vals.get (i := i) (x := x) t (by simpa using e)
    exact ⟨u, by simpa using h1, h2⟩
theorem Vals.set {x : V} {u : Value} (r : RelV x u) : ∀ {xs : List V} {us : List Value} (i : Nat), Vals xs us → Vals (xs.set i x) (us.set i u)
  | _, _, _, .nil => .nil
  | _, _, 0, .cons _ t => .cons r t
  | _, _, i + 1, .cons q t => .cons q (Vals.set r i t)
theorem Vals.append : ∀ {xs ys : List V} {us ws : List Value}, Vals xs us → Vals ys ws → Vals (xs ++ ys) (us ++ ws)
  | _, _, _, _, .nil, s => s
  | _, _, _, _, .cons r t, s => .cons r (Vals.append t s)
theorem Vals.take : ∀ {xs : List V} {us : List Value} (n : Nat), Vals xs us → Vals (xs.take n) (us.take n)
  | _, _, 0, _ => .nil
  | _, _, _ + 1, .nil => .nil
  | _, _, n + 1, .cons r t => .cons r (Vals.take n t)
theorem Vals.drop : ∀ {xs : List V} {us : List Value} (n : Nat), Vals xs us → Vals (xs.drop n) (us.drop n)
  | _, _, 0, r => r
  | _, _, _ + 1, .nil => .nil
  | _, _, n + 1, .cons _ t => Vals.drop n t
def RelO : Option V → Option Value → Prop
  | some v, some u => RelV v u
  | none, none => True
  | _, _ => False
def KV {κ : Type} : List (κ × V) → List (κ × Value) → Prop := Paired fun (p : κ × V) (q : κ × Value) => p.1 = q.1 ∧ RelV p.2 q.2

def kV : Key → V
  | .inl i => .int i
  | .inr x => .str x

inductive HO where
  /-- a list -/
  | lst (xs : List V)
  /-- a tuple (never changes) -/
  | tup (xs : List V)
  /-- a dict whose keys are ints and texts; one whose keys are tuples of ints and texts (the empty one is both) -/
  | dK (kvs : List (Key × V)) | dT (kvs : List (List Key × V))
  /-- a set of ints: its members, its size -/
  | set (S : Int → Bool) (n : Nat)
  /-- an instance of the class at C, its dict at dx, its attributes -/
  | ins (C dx : Addr) (fs : List (Str × V))
  /-- the dict of the instance at x -/
  | own (x : Addr)
  /-- the dict of an exception -/
  | xd (fs : List (Str × V))
  /-- a bound method, f of x -/
  | met (f x : Addr)
  /-- a range object lo, lo + 1, .. below hi -/
  | rng (lo hi : Int)
  /-- a thing that is known to the object (the script; a dict while a loop walks it): read, never written while it is so -/
  | frz (o : Obj) (u : HO)
  /-- a code object's table -/
  | tbl (ps : Array Value)
  /-- any other thing, by what is true of its one object (a def of one's own: SetO a S n := HO.ext fun h => ..) -/
  | ext (φ : Heap → Prop)

abbrev Hp := Addr → Option HO
def upd (H : Hp) (a : Addr) (o : HO) : Hp := fun b => if b = a then some o else H b
theorem upd_same {H : Hp} {a : Addr} {o : HO} : upd H a o a = some o := by unfold upd; rw [if_pos rfl]
theorem upd_ne {H : Hp} {a b : Addr} {o : HO} (h : b ≠ a) : upd H a o b = H b := by unfold upd; rw [if_neg h]
theorem upd_upd {H : Hp} {a : Addr} {o u : HO} : upd (upd H a o) a u = upd H a u := by
  funext b; unfold upd; split <;> rfl
theorem ne_of {H : Hp} {a b : Addr} {o u : HO} (h : H a = some o) (h' : H b = some u) (d : o ≠ u) : a ≠ b := by
  intro e; subst e; rw [h] at h'; exact d (Option.some.inj h')
theorem ne_of_none {H : Hp} {a b : Addr} {o : HO} (h : H a = some o) (h' : H b = none) : a ≠ b := by
  intro e; subst e; rw [h] at h'; cases h'

section
variable (P : Program) (w : World)
def ObjOk (H : Hp) (h : Heap) (a : Addr) : HO → Prop
  | .lst xs => xs.length ≤ sizeLine ∧ ∃ (its : List Value) (n : Nat), Vals xs its ∧ h.get? a = some { cls := .type "list", data := .seq its.toArray n }
  | .tup xs => xs.length ≤ sizeLine ∧ ∃ its : List Value, Vals xs its ∧ IsTup h a its.toArray
  | .dK kvs => kvs.length ≤ sizeLine ∧ (a == sysModules) = false ∧ ∃ vs, KV kvs vs ∧ h.DictOf (mixKind P w) a vs
  | .dT kvs => kvs.length ≤ sizeLine ∧ (a == sysModules) = false ∧ ∃ xs : List (List Key × Addr × Value),
      Paired (fun (p : List Key × V) (q : List Key × Addr × Value) => p.1 = q.1 ∧ H q.2.1 = some (.tup (p.1.map kV)) ∧ RelV p.2 q.2.2) kvs xs ∧
      ∃ o es ep, h.get? a = some o ∧ o.ExactDict ∧ o.data = .dict es ep ∧ es.toList = xs.map (entryOfKey (tupleKind (mixKind P w))) ∧ (xs.map (·.1)).Nodup
  | .set S n => h.SetOf (intKind P w) a S n
  | .ins C dx fs => H dx = some (.own a) ∧ fs.length ≤ 1000 ∧ dx ≠ a ∧ h.get? a = some (PySem.W.instObj C dx) ∧
      ∃ mA, h.Ns1 dx mA ∧ (∀ f, RelO (fs.lookup f) (mA f)) ∧ PySem.Within mA (fs.map (·.1))
  | .own _ => ∃ o, h.get? a = some o
  | .xd fs => ∃ mA, h.Ns1 a mA ∧ ∀ f, RelO (fs.lookup f) (mA f)
  | .rng lo hi => ∃ t u v, h.get? a = some { cls := .type "range", data := .fields #[.int lo t, .int hi u, .int 1 v] }
  | .frz o u => h.get? a = some o ∧ ObjOk H h a u
  | .tbl ps => h.get? a = some { cls := .none, data := .fields ps }
  | .met f x => h.get? a = some (PySem.W.methodObj (.ref f) (.ref x))
  | .ext φ => φ h ∧ (∃ o, h.get? a = some o) ∧ ∀ h1 h2 : Heap, φ h1 → (∀ o, h1.get? a = some o → h2.get? a = some o) → φ h2
def HOk (H : Hp) (h : Heap) : Prop := ∀ a o, H a = some o → ObjOk P w H h a o
end

section
variable {P : Program} {w : World} {H H' : Hp} {h h' : Heap} {a : Addr} {o : HO}
theorem ObjOk.lt (x : ObjOk P w H h a o) : a < h.objs.size := by
  cases o with
  | lst xs => obtain ⟨_, _, _, _, e⟩ := x; exact Heap.lt_size e
  | tup xs => obtain ⟨_, _, _, p⟩ := x; exact p.lt
  | dK kvs => obtain ⟨_, _, _, _, o, _, _, e, _⟩ := x; exact Heap.lt_size e
  | dT kvs => obtain ⟨_, _, _, _, o, _, _, e, _⟩ := x; exact Heap.lt_size e
  | set S n => obtain ⟨o, _, _, _, e, _⟩ := x; exact Heap.lt_size e
  | ins C dx fs => obtain ⟨_, _, _, e, _⟩ := x; exact Heap.lt_size e
  | own y => obtain ⟨_, e⟩ := x; exact Heap.lt_size e
  | xd fs => obtain ⟨_, ⟨_, _, _, e, _⟩, _⟩ := x; exact Heap.lt_size e
  | rng lo hi => obtain ⟨_, _, _, e⟩ := x; exact Heap.lt_size e
  | frz ob u => obtain ⟨e, _⟩ := x; exact Heap.lt_size e
  | tbl ps => exact Heap.lt_size (show h.get? a = some _ from x)
  | met f y => exact Heap.lt_size (show h.get? a = some _ from x)
  | ext φ => obtain ⟨_, ⟨_, e⟩, _⟩ := x; exact Heap.lt_size e
theorem Paired.mapP {α β : Type} {F G : α → β → Prop} : ∀ {l₁ : List α} {l₂ : List β}, Paired F l₁ l₂ → (∀ a b, F a b → G a b) → Paired G l₁ l₂
  | _, _, .nil, _ => .nil
  | _, _, .cons r t, f => .cons (f _ _ r) (Paired.mapP t f)
theorem ObjOk.stay (x : ObjOk P w H h a o) (k : ∀ b u, (b = a ∨ H b = some (.own a)) → h.get? b = some u → h'.get? b = some u)
    (ho : ∀ b, H b = some (.own a) → H' b = some (.own a)) (ht : ∀ b xs, H b = some (.tup xs) → H' b = some (.tup xs)) : ObjOk P w H' h' a o := by
  induction o with
  | lst xs => obtain ⟨z, its, n, r, e⟩ := x; exact ⟨z, its, n, r, k _ _ (.inl rfl) e⟩
  | tup xs => obtain ⟨z, its, r, ob, e, c⟩ := x; exact ⟨z, its, r, ob, k _ _ (.inl rfl) e, c⟩
  | dK kvs => obtain ⟨z, y, vs, r, ob, es, ep, e, c⟩ := x; exact ⟨z, y, vs, r, ob, es, ep, k _ _ (.inl rfl) e, c⟩
  | dT kvs =>
    obtain ⟨z, y, xs, r, ob, es, ep, e, c⟩ := x
    exact ⟨z, y, xs, Paired.mapP r fun p q z => ⟨z.1, ht _ _ z.2.1, z.2.2⟩, ob, es, ep, k _ _ (.inl rfl) e, c⟩
  | set S n => obtain ⟨ob, es, ep, t, e, c⟩ := x; exact ⟨ob, es, ep, t, k _ _ (.inl rfl) e, c⟩
  | ins C dx fs =>
    obtain ⟨d, z, ne, e, mA, ⟨od, es, ep, e2, c⟩, r⟩ := x
    exact ⟨ho _ d, z, ne, k _ _ (.inl rfl) e, mA, ⟨od, es, ep, k _ _ (.inr d) e2, c⟩, r⟩
  | own y => obtain ⟨ob, e⟩ := x; exact ⟨ob, k _ _ (.inl rfl) e⟩
  | xd fs => obtain ⟨mA, ⟨od, es, ep, e, c⟩, r⟩ := x; exact ⟨mA, ⟨od, es, ep, k _ _ (.inl rfl) e, c⟩, r⟩
  | rng lo hi => obtain ⟨t, u, v, e⟩ := x; exact ⟨t, u, v, k _ _ (.inl rfl) e⟩
  | frz ob u ih => obtain ⟨e, q⟩ := x; exact ⟨k _ _ (.inl rfl) e, ih q⟩
  | tbl ps =>
    have e : h.get? a = some { cls := .none, data := .fields ps } := x
    show h'.get? a = some { cls := .none, data := .fields ps }
    exact k a _ (.inl rfl) e
  | met f y =>
    have e : h.get? a = some (PySem.W.methodObj (.ref f) (.ref y)) := x
    show h'.get? a = some (PySem.W.methodObj (.ref f) (.ref y))
    exact k a _ (.inl rfl) e
  | ext φ => obtain ⟨p, ⟨o, e⟩, st⟩ := x; exact ⟨st _ _ p fun o q => k _ _ (.inl rfl) q, ⟨o, k _ _ (.inl rfl) e⟩, st⟩
theorem HOk.lt (x : HOk P w H h) (e : H a = some o) : a < h.objs.size := (x a o e).lt
theorem HOk.fresh (x : HOk P w H h) (e : h.objs.size ≤ a) : H a = none := by
  cases q : H a with
  | none => rfl
  | some u => exact absurd (Nat.lt_of_lt_of_le (x.lt q) e) (Nat.lt_irrefl _)
theorem HOk.kept (x : HOk P w H h) (k : ∀ b u, h.get? b = some u → h'.get? b = some u) : HOk P w H h' := fun a o e =>
  (x a o e).stay (fun b u _ q => k b u q) (fun _ q => q) fun _ _ q => q
theorem HOk.laid (x : HOk P w H h) (k : ∀ b u, h.get? b = some u → h'.get? b = some u) (hp : h.objs.size ≤ a) (new : ObjOk P w (upd H a o) h' a o) : HOk P w (upd H a o) h' := fun b u e => by
  have hn := x.fresh hp
  by_cases hb : b = a
  · subst hb; rw [upd_same] at e; cases e; exact new
  · rw [upd_ne hb] at e
    exact (x b u e).stay (fun c v _ q => k c v q) (fun c q => by rw [upd_ne (ne_of_none q hn)]; exact q) fun c xs q => by rw [upd_ne (ne_of_none q hn)]; exact q
end

def Rd (H : Hp) (a : Addr) (u : HO) : Prop := H a = some u ∨ ∃ o, H a = some (.frz o u)
theorem Rd.of {H : Hp} {a : Addr} {u : HO} (h : H a = some u) : Rd H a u := .inl h
theorem Rd.ok {P : Program} {w : World} {H : Hp} {h : Heap} {a : Addr} {u : HO} (r : Rd H a u) (x : HOk P w H h) : ObjOk P w H h a u := by
  rcases r with r | ⟨o, r⟩
  · exact x a u r
  · obtain ⟨_, q⟩ := x a _ r
    exact q
def Mut : Option HO → Prop
  | some (.lst _) => True
  | some (.dK _) => True
  | some (.dT _) => True
  | some (.set _ _) => True
  | some (.ins _ _ _) => True
  | some (.ext _) => True
  | _ => False
section
variable {P : Program} {w : World} {H : Hp} {h h' : Heap} {x e : Addr} {o' : HO}
theorem HOk.write (ok : HOk P w H h) (mu : Mut (H x)) (he : e = x ∨ H e = some (.own x)) (k : ∀ b u, b ≠ e → h.get? b = some u → h'.get? b = some u) (heo : ∃ u, h'.get? e = some u)
    (new : ObjOk P w (upd H x o') h' x o') : HOk P w (upd H x o') h' := fun b u q => by
  have nown : ∀ c y, H c = some (.own y) → c ≠ x := fun c y r z => by subst z; rw [r] at mu; exact mu
  have ntup : ∀ c xs, H c = some (.tup xs) → c ≠ x := fun c xs r z => by subst z; rw [r] at mu; exact mu
  by_cases hb : b = x
  · subst hb; rw [upd_same] at q; cases q; exact new
  · rw [upd_ne hb] at q
    by_cases hbe : b = e
    · have q' : H b = some (.own x) := by
        rcases he with z | z
        · exact absurd (hbe.trans z) hb
        · rw [hbe]; exact z
      rw [q] at q'; cases q'
      obtain ⟨v, hv⟩ := heo
      exact ⟨v, by rw [hbe]; exact hv⟩
    · refine (ok b u q).stay (fun c v hc r => k c v ?_ r) (fun c r => by rw [upd_ne (nown c b r)]; exact r) fun c xs r => by rw [upd_ne (ntup c xs r)]; exact r
      rcases hc with rfl | hc
      · exact hbe
      · rintro rfl
        rcases he with z | z
        · exact nown c b hc z
        · rw [hc] at z; cases z; exact hb rfl
end

structure Un (fs ex : List Addr) (H H' : Hp) (h h' : Heap) : Prop where
  keep : ∀ b o, h.get? b = some o → H b = none → b ∉ fs → b ∉ ex → h'.get? b = some o
  slot : ∀ b o, h.get? b = some o → H b = none → b ∈ fs → b ∉ ex → ∃ sl, h'.get? b = some { o with slots := sl }
  free : ∀ b o, h.get? b = some o → H b = none → b ∉ ex → H' b = none
  there : ∀ b o, h.get? b = some o → b ∉ ex → ∃ o', h'.get? b = some o'
  tups : ∀ b xs, H b = some (.tup xs) → H' b = some (.tup xs)
  frzs : ∀ b o u, H b = some (.frz o u) → H' b = some (.frz o u)
  tbls : ∀ b ps, H b = some (.tbl ps) → ∃ more, H' b = some (.tbl (ps ++ more))
section
variable {fs fs' ex ex' : List Addr} {H H1 H2 : Hp} {h h1 h2 h' : Heap} {a x e : Addr} {o : HO}
theorem Un.any (u : Un fs ex H H1 h h1) {b : Addr} {ob : Obj} (q : h.get? b = some ob) (n : H b = none) (hx : b ∉ ex) : ∃ sl, h1.get? b = some { ob with slots := sl } := by
  by_cases hb : b ∈ fs
  · exact u.slot b ob q n hb hx
  · exact ⟨ob.slots, u.keep b ob q n hb hx⟩
theorem Un.trans (a : Un fs ex H H1 h h1) (b : Un fs ex H1 H2 h1 h2) : Un fs ex H H2 h h2 where
  keep := fun c ob q n hc hx => b.keep c ob (a.keep c ob q n hc hx) (a.free c ob q n hx) hc hx
  slot := fun c ob q n hc hx => by
    obtain ⟨sl, e1⟩ := a.slot c ob q n hc hx
    obtain ⟨sl', e2⟩ := b.slot c _ e1 (a.free c ob q n hx) hc hx
    exact ⟨sl', e2⟩
  free := fun c ob q n hx => by
    obtain ⟨o', e1⟩ := a.there c ob q hx
    exact b.free c o' e1 (a.free c ob q n hx) hx
  there := fun c ob q hx => by
    obtain ⟨o', e1⟩ := a.there c ob q hx
    exact b.there c o' e1 hx
  tups := fun c xs q => b.tups c xs (a.tups c xs q)
  frzs := fun c ob xs q => b.frzs c ob xs (a.frzs c ob xs q)
  tbls := fun c ps q => by
    obtain ⟨m1, e1⟩ := a.tbls c ps q
    obtain ⟨m2, e2⟩ := b.tbls c _ e1
    exact ⟨m1 ++ m2, by rw [e2, Array.append_assoc]⟩
theorem Un.kept (k : ∀ b u, h.get? b = some u → h'.get? b = some u) : Un fs ex H H h h' :=
  ⟨fun b ob q _ _ _ => k b ob q, fun b ob q _ _ _ => ⟨ob.slots, k b ob q⟩, fun _ _ _ n _ => n, fun b ob q _ => ⟨ob, k b ob q⟩, fun _ _ q => q, fun _ _ _ q => q, fun _ ps q => ⟨#[], by rw [q]; simp⟩⟩
theorem Un.refl : Un fs ex H H h h := Un.kept fun _ _ q => q
theorem Un.laid (k : ∀ b u, h.get? b = some u → h'.get? b = some u) (hp : h.objs.size ≤ a) (hn : H a = none) : Un fs ex H (upd H a o) h h' where
  keep := fun b u q _ _ _ => k b u q
  slot := fun b u q _ _ _ => ⟨u.slots, k b u q⟩
  free := fun b u q n _ => by rw [upd_ne (Nat.ne_of_lt (Nat.lt_of_lt_of_le (Heap.lt_size q) hp))]; exact n
  there := fun b u q _ => ⟨u, k b u q⟩
  tups := fun b xs q => by rw [upd_ne (ne_of_none q hn)]; exact q
  frzs := fun b u xs q => by rw [upd_ne (ne_of_none q hn)]; exact q
  tbls := fun b ps q => ⟨#[], by rw [upd_ne (ne_of_none q hn), q]; simp⟩
theorem Un.write (mu : Mut (H x)) (he : e = x ∨ H e = some (.own x)) (k : ∀ b u, b ≠ e → h.get? b = some u → h'.get? b = some u) (heo : ∃ u, h'.get? e = some u) : Un fs ex H (upd H x o) h h' := by
  have hx : ∀ b, H b = none → b ≠ x := fun b n z => by subst z; rw [n] at mu; exact mu
  have hb : ∀ b, H b = none → b ≠ e := fun b n z => by
    subst z
    rcases he with r | r
    · exact hx b n r
    · rw [n] at r; cases r
  have hm : ∀ b u, H b = some u → ¬ Mut (some u) → b ≠ x := fun b u q nm z => by subst z; rw [q] at mu; exact nm mu
  refine ⟨fun b u q n _ _ => k b u (hb b n) q, fun b u q n _ _ => ⟨u.slots, k b u (hb b n) q⟩, fun b u q n _ => by rw [upd_ne (hx b n)]; exact n, fun b u q _ => ?_,
    fun b xs q => by rw [upd_ne (hm b _ q fun z => z)]; exact q, fun b u xs q => by rw [upd_ne (hm b _ q fun z => z)]; exact q, fun b ps q => ⟨#[], by rw [upd_ne (hm b _ q fun z => z), q]; simp⟩⟩
  by_cases hbe : b = e
  · subst hbe; exact heo
  · exact ⟨u, k b u hbe q⟩
theorem Un.mono (u : Un fs ex H H1 h h1) (hs : ∀ b ∈ fs, b ∈ fs') (hx : ∀ b ∈ ex, b ∈ ex') : Un fs' ex' H H1 h h1 :=
  ⟨fun b ob q n hb he => u.keep b ob q n (fun z => hb (hs b z)) fun z => he (hx b z), fun _ _ q n _ he => u.any q n fun z => he (hx _ z), fun b ob q n he => u.free b ob q n fun z => he (hx b z), fun b ob q he => u.there b ob q fun z => he (hx b z), u.tups, u.frzs, u.tbls⟩
end

def trk (h : Heap) (H : Hp) : List Addr := (List.range h.objs.size).filter fun a => (H a).isSome
def hidT (h : Heap) (H : Hp) : Heap := PySem.W.hideAll h (trk h H)
theorem hidT_size (h : Heap) (H : Hp) : (hidT h H).objs.size = h.objs.size := PySem.W.hideAll_size _ _
theorem hidT_get {h : Heap} {H : Hp} {b : Addr} {o : Obj} (e : h.get? b = some o) (n : H b = none) : (hidT h H).get? b = some o :=
  PySem.W.hideAll_get _ e fun hm => by
    have q : (H b).isSome = true := (List.mem_filter.mp hm).2
    rw [n] at q; simp at q
theorem of_hidT {h : Heap} {H : Hp} {b : Addr} {o : Obj} (e : (hidT h H).get? b = some o) : h.get? b = some o ∧ H b = none := by
  have e' : h.get? b = some o := PySem.W.of_hideAll (trk h H) e
  refine ⟨e', ?_⟩
  cases q : H b with
  | none => rfl
  | some x =>
    have hm : b ∈ trk h H := List.mem_filter.mpr ⟨List.mem_range.mpr (Heap.lt_size e'), by simp [q]⟩
    have z : (hidT h H).get? b = none := PySem.W.hideAll_none (trk h H) hm
    rw [z] at e; cases e

def allNews (g h : Heap) (L : Addr) : List (Addr × Obj) := (List.range h.objs.size).filterMap fun a => if a = L ∨ (g.get? a).isSome = true then none else (h.get? a).map fun o => (a, o)
def rest (g h : Heap) (L d : Addr) : List (Addr × Obj) := (allNews g h L).filter fun p => decide (p.1 ≠ d)
end L2

namespace L2
open PySem PySem.Spec PyProof.Rows

structure Mod (K : PySem.W.Frag) (mg : Str → Option Value) (base : Heap) : Prop where
  kin : K.In base
  glob : base.Ns mainGlobals mg
  blt : ∃ mb, base.Ns builtinsNs mb ∧ ∀ x : Str, x ≠ "__name__" → mb x = bootBuiltins x
  nolimit : base.NoLimit

structure Cx where
  prog : Program
  w : World
  K : PySem.W.Frag
  mg : Str → Option Value
  base : Heap
  A : Around
  N : List Str
  s_0 : Shared
  H_0 : Hp
  env : Env
  outer : List Env
  stack : List Env
  ex : List Addr
  fn : Str → Bool
  calm : Bool
  pn : List (Addr × Obj)
  xe : Value → Shared → Prop
def frs (l : List Env) : List Addr := l.filterMap (·.frame)
abbrev Cx.fs (X : Cx) : List Addr := frs X.outer

def Vis (sc : Scope) (x : Str) : Prop := sc.names.lookup x = some .local ∨ sc.names.lookup x = some .cell ∨ sc.names.lookup x = some .free
def Loc (sc : Scope) (x : Str) : Prop := sc.names.lookup x = some .local ∨ sc.names.lookup x = some .cell
def Look (env : Env) (h : Heap) (m : Str → Option Value) (x : Str) (u : Value) : Prop :=
  (env.kindOf x = some .local ∧ m x = some u) ∨ ((env.kindOf x = some .cell ∨ env.kindOf x = some .free) ∧ ∃ c, env.cells.lookup x = some c ∧ h.IsCell c (some u))

structure Cx.Ok (X : Cx) : Prop where
  mod : Mod X.K X.mg X.base
  kind : X.env.scope.kind = .function
  glob : X.env.globals = mainGlobals
  blt : X.env.builtins = builtinsNs
  above : X.s_0.heap.objs.size ≤ X.env.locals
  inj : ∀ x y c, X.env.cells.lookup x = some c → X.env.cells.lookup y = some c → x = y
  has : ∀ x, (X.env.kindOf x = some .cell ∨ X.env.kindOf x = some .free) → ∃ c, X.env.cells.lookup x = some c
  cab : ∀ x c, X.fn x = true → X.env.cells.lookup x = some c → X.s_0.heap.objs.size ≤ c
  hd : X.calm = true → X.A.handled = none
  frames : X.A.frames = some X.stack
  stk : X.stack = X.outer ∨ (X.stack = X.env :: X.outer ∧ X.env.frame = some X.env.locals)
  exf : ∀ b ∈ X.ex, b ≠ X.env.locals ∧ ∀ x c, X.env.cells.lookup x = some c → c ≠ b
  bs : ∀ b o, X.base.get? b = some o → X.s_0.heap.get? b = some o ∧ X.H_0 b = none
  bsz : X.base.objs.size ≤ X.s_0.heap.objs.size
  noex : ∀ b o, X.base.get? b = some o → b ∉ X.ex
  exfs : ∀ b ∈ X.ex, b ∉ X.fs
  funs : X.s_0.heap.FunFrames X.base X.outer
  frf : ∀ b ∈ X.fs, X.H_0 b = none

structure Inv (X : Cx) (pins : List (Addr × Obj)) (σ : List (Option V)) (H : Hp) (s : Shared) : Prop where
  ok : X.Ok
  os : s.os = X.s_0.os
  bare : AllBare s.gens
  base : Un X.fs X.ex X.H_0 H X.s_0.heap s.heap
  loc : ∃ m, s.heap.Ns X.env.locals m ∧ ∀ (i : Nat) (x : Str) (v : V), X.N[i]? = some x → σ[i]? = some (some v) → Vis X.env.scope x → ∃ u, RelV v u ∧ Look X.env s.heap m x u
  cell : ∀ x c, X.env.cells.lookup x = some c → ∃ v, s.heap.IsCell c v
  free : H X.env.locals = none
  freeC : ∀ x c, X.env.cells.lookup x = some c → H c = none
  pin : ∀ p ∈ X.pn ++ pins, s.heap.get? p.1 = some p.2 ∧ H p.1 = none ∧ p.1 ≠ X.env.locals ∧ p.1 ∉ X.fs ∧ ∀ v, p.2.data ≠ .cell v
  hok : HOk X.prog X.w H s.heap
  len : σ.length = X.N.length

section
variable {X : Cx} {pins : List (Addr × Obj)} {σ : List (Option V)} {H H' : Hp} {s : Shared} {h' : Heap}

theorem Cx.Ok.nofr (ok : X.Ok) {b : Addr} {o : Obj} (e : X.base.get? b = some o) : b ∉ X.fs := fun hb => by
  have := (ok.funs.mem hb).1
  rw [e] at this; cases this
theorem Inv.bs (I : Inv X pins σ H s) : ∀ b o, X.base.get? b = some o → s.heap.get? b = some o ∧ H b = none := fun b o e =>
  ⟨I.base.keep b o (I.ok.bs b o e).1 (I.ok.bs b o e).2 (I.ok.nofr e) (I.ok.noex b o e), I.base.free b o (I.ok.bs b o e).1 (I.ok.bs b o e).2 (I.ok.noex b o e)⟩
theorem Inv.bk (I : Inv X pins σ H s) : ∀ b o, X.base.get? b = some o → s.heap.get? b = some o := fun b o e => (I.bs b o e).1
theorem Inv.mod (I : Inv X pins σ H s) : Mod X.K X.mg X.base := I.ok.mod
theorem Inv.kIn (I : Inv X pins σ H s) : X.K.In s.heap := I.ok.mod.kin.keeps I.bk
theorem Inv.nolimit (I : Inv X pins σ H s) : s.heap.NoLimit := I.ok.mod.nolimit.keeps I.bk
theorem Inv.fr (I : Inv X pins σ H s) : ∃ m, Fr X.base X.env.locals s.heap m :=
  let ⟨m, hn, _⟩ := I.loc
  ⟨m, hn, I.bk, Nat.le_trans I.ok.bsz I.ok.above⟩
theorem Inv.lt (I : Inv X pins σ H s) : X.env.locals < s.heap.objs.size := let ⟨_, hn, _⟩ := I.loc; hn.lt
theorem Inv.sz (I : Inv X pins σ H s) : X.s_0.heap.objs.size ≤ s.heap.objs.size := Nat.le_trans I.ok.above (Nat.le_of_lt I.lt)
theorem Inv.nofs (I : Inv X pins σ H s) {a : Addr} (h : s.heap.objs.size ≤ a) : a ∉ X.fs := fun hb => by
  obtain ⟨_, o, ho, _⟩ := I.ok.funs.mem hb
  exact absurd (Nat.lt_of_lt_of_le (Heap.lt_size ho) (Nat.le_trans I.sz h)) (Nat.lt_irrefl _)
theorem Inv.cne (I : Inv X pins σ H s) : ∀ x c, X.env.cells.lookup x = some c → c ≠ X.env.locals := fun x c e z => by
  obtain ⟨v, o, ho, hd⟩ := I.cell x c e
  obtain ⟨m, ⟨o', es, ep, ho', hd', _⟩, _⟩ := I.loc
  rw [z, ho'] at ho; cases ho; rw [hd'] at hd; cases hd
theorem Inv.funs (I : Inv X pins σ H s) : s.heap.FunFrames X.base X.outer := by
  have all : ∀ (l : List Env), (∀ b ∈ frs l, b ∈ X.fs) → X.s_0.heap.FunFrames X.base l → s.heap.FunFrames X.base l := by
    intro l
    induction l with
    | nil => intro _ _; trivial
    | cons env r ih =>
      intro hs hl
      obtain ⟨hk, ⟨L, o, hf, hn, ho, hd⟩, hr⟩ := hl
      have hL : L ∈ X.fs := hs L (by unfold frs; rw [List.filterMap_cons, hf]; exact List.mem_cons_self)
      obtain ⟨sl, e⟩ := I.base.slot L o ho (I.ok.frf L hL) hL fun z => I.ok.exfs L z hL
      exact ⟨hk, ⟨L, _, hf, hn, e, hd⟩, ih (fun b hb => hs b (by unfold frs; rw [List.filterMap_cons, hf]; exact List.mem_cons_of_mem _ hb)) hr⟩
  exact all X.outer (fun _ hb => hb) I.ok.funs

theorem Inv.stack (I : Inv X pins σ H s) : s.heap.FunFrames X.base X.stack := by
  rcases I.ok.stk with e | ⟨e, hf⟩
  · rw [e]; exact I.funs
  · rw [e]
    obtain ⟨m, hn, _⟩ := I.loc
    refine .cons (by rw [I.ok.kind]; decide) hf hn ?_ I.funs
    exact Heap.get?_none_of_le (Nat.le_trans I.ok.bsz I.ok.above)
theorem Inv.stkSub (I : Inv X pins σ H s) : ∀ b ∈ frs X.stack, b ∈ X.env.locals :: X.fs := fun b hb => by
  rcases I.ok.stk with e | ⟨e, hf⟩
  · rw [e] at hb; exact List.mem_cons_of_mem _ hb
  · rw [e] at hb
    unfold frs at hb
    rw [List.filterMap_cons, hf] at hb
    exact hb
theorem Inv.stkFree (I : Inv X pins σ H s) : ∀ b ∈ frs X.stack, H b = none := fun b hb => by
  rcases List.mem_cons.mp (I.stkSub b hb) with e | hb
  · rw [e]; exact I.free
  · obtain ⟨_, o, ho, _⟩ := I.ok.funs.mem hb
    exact I.base.free b o ho (I.ok.frf b hb) fun z => I.ok.exfs b z hb

theorem Inv.step {g' : Array GenState} {t' : Nat} {d' : Drawn} {ch : List Addr} (I : Inv X pins σ H s)
    (hch : ∀ b ∈ ch, (b ∈ X.ex ∨ X.s_0.heap.objs.size ≤ b) ∧ b ≠ X.env.locals ∧ (∀ x c, X.env.cells.lookup x = some c → c ≠ b) ∧ ∀ p ∈ X.pn ++ pins, p.1 ≠ b)
    (keep : ∀ b o, b ≠ X.env.locals → b ∉ X.fs → b ∉ ch → s.heap.get? b = some o → H b = none → h'.get? b = some o)
    (slot : ∀ b o, b ≠ X.env.locals → b ∈ X.fs → b ∉ ch → s.heap.get? b = some o → H b = none → ∃ sl, h'.get? b = some { o with slots := sl }) (free : ∀ b o, b ∉ ch → s.heap.get? b = some o → H b = none → H' b = none)
    (there : ∀ b o, b ∉ ch → s.heap.get? b = some o → ∃ o', h'.get? b = some o')
    (tups : ∀ b xs, H b = some (.tup xs) → H' b = some (.tup xs)) (frzs : ∀ b o u, H b = some (.frz o u) → H' b = some (.frz o u)) (tbls : ∀ b ps, H b = some (.tbl ps) → ∃ more, H' b = some (.tbl (ps ++ more)))
    (ns : ∀ m, s.heap.Ns X.env.locals m → h'.Ns X.env.locals m) (hok : HOk X.prog X.w H' h') (hg : AllBare g') :
    Inv X pins σ H' { s with heap := h', gens := g', drawn := d', toks := t' } := by
  have neL : ∀ b o, X.s_0.heap.get? b = some o → b ≠ X.env.locals := fun b o e => Nat.ne_of_lt (Nat.lt_of_lt_of_le (Heap.lt_size e) I.ok.above)
  have neC : ∀ b o, X.s_0.heap.get? b = some o → b ∉ X.ex → b ∉ ch := fun b o e hx hb => by
    rcases (hch b hb).1 with z | z
    · exact hx z
    · exact absurd (Nat.lt_of_lt_of_le (Heap.lt_size e) z) (Nat.lt_irrefl _)
  have cellK : ∀ x c, X.env.cells.lookup x = some c → ∀ v, s.heap.IsCell c v → h'.IsCell c v := fun x c e v ⟨o, ho, hd⟩ => by
    have nch : c ∉ ch := fun z => (hch c z).2.2.1 x c e rfl
    by_cases hc : c ∈ X.fs
    · obtain ⟨sl, q⟩ := slot c o (I.cne x c e) hc nch ho (I.freeC x c e)
      exact ⟨_, q, hd⟩
    · exact ⟨o, keep c o (I.cne x c e) hc nch ho (I.freeC x c e), hd⟩
  refine ⟨I.ok, I.os, hg, ⟨fun b o e n hb hx => ?_, fun b o e n hb hx => ?_, fun b o e n hx => ?_, fun b o e hx => ?_, fun b xs e => tups b xs (I.base.tups b xs e), fun b o xs e => frzs b o xs (I.base.frzs b o xs e), fun b ps e => ?_⟩, ?_, fun x c e => ?_, ?_, fun x c e => ?_, fun p hp => ?_, hok, I.len⟩
  · exact keep b o (neL b o e) hb (neC b o e hx) (I.base.keep b o e n hb hx) (I.base.free b o e n hx)
  · obtain ⟨sl, e1⟩ := I.base.slot b o e n hb hx
    obtain ⟨sl', e2⟩ := slot b _ (neL b o e) hb (neC b o e hx) e1 (I.base.free b o e n hx)
    exact ⟨sl', e2⟩
  · obtain ⟨o', e1⟩ := I.base.there b o e hx
    exact free b o' (neC b o e hx) e1 (I.base.free b o e n hx)
  · obtain ⟨o', e1⟩ := I.base.there b o e hx
    exact there b o' (neC b o e hx) e1
  · obtain ⟨m1, e1⟩ := I.base.tbls b ps e
    obtain ⟨m2, e2⟩ := tbls b _ e1
    exact ⟨m1 ++ m2, by rw [e2, Array.append_assoc]⟩
  · obtain ⟨m, hn, hl⟩ := I.loc
    refine ⟨m, ns m hn, fun i x v e1 e2 e3 => ?_⟩
    obtain ⟨u, r, l⟩ := hl i x v e1 e2 e3
    refine ⟨u, r, ?_⟩
    rcases l with l | ⟨k, c, e, z⟩
    · exact .inl l
    · exact .inr ⟨k, c, e, cellK x c e _ z⟩
  · obtain ⟨v, z⟩ := I.cell x c e
    exact ⟨v, cellK x c e v z⟩
  · obtain ⟨m, ⟨o, _, _, ho, _⟩, _⟩ := I.loc
    exact free _ o (fun z => (hch _ z).2.1 rfl) ho I.free
  · obtain ⟨v, o, ho, hd⟩ := I.cell x c e
    exact free c o (fun z => (hch c z).2.2.1 x c e rfl) ho (I.freeC x c e)
  · obtain ⟨e, n, ne, nf, d⟩ := I.pin p hp
    have nch : p.1 ∉ ch := fun z => (hch p.1 z).2.2.2 p hp rfl
    exact ⟨keep p.1 p.2 ne nf nch e n, free p.1 p.2 nch e n, ne, nf, d⟩
theorem Inv.un {t' : Nat} (I : Inv X pins σ H s) (u : Un X.fs [] H H' s.heap h') (hok : HOk X.prog X.w H' h') : Inv X pins σ H' { s with heap := h', toks := t' } := by
  obtain ⟨m, ⟨o, es, ep, ho, r⟩, _⟩ := id I.loc
  obtain ⟨sl, hL⟩ := u.any ho I.free (by simp)
  exact I.step (g' := s.gens) (d' := s.drawn) (ch := []) (fun _ z => nomatch z) (fun b o _ hb _ e n => u.keep b o e n hb (by simp)) (fun b o _ hb _ e n => u.slot b o e n hb (by simp)) (fun b o _ e n => u.free b o e n (by simp)) (fun b o _ e => u.there b o e (by simp)) u.tups u.frzs u.tbls (fun m' hm => by
    obtain ⟨o', es', ep', ho', r'⟩ := hm
    rw [ho] at ho'; cases ho'
    exact ⟨_, es', ep', hL, r'⟩) hok I.bare
theorem Inv.call {g' : Array GenState} {t' : Nat} {d' : Drawn} {ch : List Addr} (I : Inv X pins σ H s) (u : Un (frs X.stack) ch H H' s.heap h') (hok : HOk X.prog X.w H' h') (hg : AllBare g')
    (hch : ∀ b ∈ ch, (b ∈ X.ex ∨ X.s_0.heap.objs.size ≤ b) ∧ b ≠ X.env.locals ∧ (∀ x c, X.env.cells.lookup x = some c → c ≠ b) ∧ ∀ p ∈ X.pn ++ pins, p.1 ≠ b) :
    Inv X pins σ H' { s with heap := h', gens := g', drawn := d', toks := t' } := by
  obtain ⟨m, ⟨o, es, ep, ho, r⟩, _⟩ := id I.loc
  obtain ⟨sl, hL⟩ := u.any ho I.free fun z => (hch _ z).2.1 rfl
  exact I.step (ch := ch) hch (fun b o hL hb hc e n => u.keep b o e n (fun z => (List.mem_cons.mp (I.stkSub b z)).elim hL hb) hc) (fun b o _ _ hc e n => u.any e n hc) (fun b o hc e n => u.free b o e n hc) (fun b o hc e => u.there b o e hc) u.tups u.frzs u.tbls (fun m' hm => by
    obtain ⟨o', es', ep', ho', r'⟩ := hm
    rw [ho] at ho'; cases ho'
    exact ⟨_, es', ep', hL, r'⟩) hok hg
theorem Inv.turned {t' : Nat} {it : Addr} (I : Inv X pins σ H s) (k : ∀ b o, b ≠ it → s.heap.get? b = some o → h'.get? b = some o) (hn : H it = none) (hL : it ≠ X.env.locals)
    (h1 : it ∈ X.ex ∨ X.s_0.heap.objs.size ≤ it) (h2 : ∀ x c, X.env.cells.lookup x = some c → c ≠ it) (h3 : ∀ p ∈ X.pn ++ pins, p.1 ≠ it) : Inv X pins σ H { s with heap := h', toks := t' } := by
  have nit : ∀ b u, H b = some u → b ≠ it := fun b u e z => by rw [z, hn] at e; cases e
  refine I.step (g' := s.gens) (d' := s.drawn) (ch := [it]) (fun b hb => ?_) (fun b o _ _ hc e _ => k b o (fun z => hc (by simp [z])) e) (fun b o _ _ hc e _ => ⟨o.slots, k b o (fun z => hc (by simp [z])) e⟩) (fun _ _ _ _ n => n)
    (fun b o hc e => ⟨o, k b o (fun z => hc (by simp [z])) e⟩) (fun _ _ e => e) (fun _ _ _ e => e) (fun b ps e => ⟨#[], by rw [e]; simp⟩) (fun m hm => ?_) (fun b u e => ?_) I.bare
  · have e : b = it := by simpa using hb
    subst e
    exact ⟨h1, hL, h2, h3⟩
  · obtain ⟨o, es, ep, ho, r⟩ := hm
    exact ⟨o, es, ep, k _ o (Ne.symm hL) ho, r⟩
  · refine (I.hok b u e).stay (fun c v hc q => k c v ?_ q) (fun _ q => q) fun _ _ q => q
    rcases hc with z | z
    · rw [z]; exact nit b u e
    · exact nit c _ z
theorem Inv.tok (I : Inv X pins σ H s) (t : Nat) : Inv X pins σ H { s with toks := t } := I.un (h' := s.heap) (t' := t) Un.refl I.hok
theorem Inv.kept {t' : Nat} (I : Inv X pins σ H s) (k : ∀ b u, s.heap.get? b = some u → h'.get? b = some u) : Inv X pins σ H { s with heap := h', toks := t' } := I.un (Un.kept k) (I.hok.kept k)
theorem Inv.laid {a : Addr} {o : HO} {t' : Nat} (I : Inv X pins σ H s) (k : ∀ b u, s.heap.get? b = some u → h'.get? b = some u) (hp : s.heap.objs.size ≤ a) (new : ObjOk X.prog X.w (upd H a o) h' a o) :
    Inv X pins σ (upd H a o) { s with heap := h', toks := t' } := I.un (Un.laid k hp (I.hok.fresh hp)) (I.hok.laid k hp new)
theorem Inv.write {x e : Addr} {o : HO} {t' : Nat} (I : Inv X pins σ H s) (mu : Mut (H x)) (he : e = x ∨ H e = some (.own x)) (k : ∀ b u, b ≠ e → s.heap.get? b = some u → h'.get? b = some u) (heo : ∃ u, h'.get? e = some u)
    (new : ObjOk X.prog X.w (upd H x o) h' x o) : Inv X pins σ (upd H x o) { s with heap := h', toks := t' } := I.un (Un.write mu he k heo) (I.hok.write mu he k heo new)
theorem Inv.weak {σ' : List (Option V)} (I : Inv X pins σ H s) (hl : σ'.length = σ.length) (w : ∀ (i : Nat) v, σ'[i]? = some (some v) → σ[i]? = some (some v)) : Inv X pins σ' H s :=
  ⟨I.ok, I.os, I.bare, I.base, let ⟨m, hn, hl'⟩ := I.loc; ⟨m, hn, fun i x v e1 e2 e3 => hl' i x v e1 (w i v e2) e3⟩, I.cell, I.free, I.freeC, I.pin, I.hok, hl.trans I.len⟩
theorem Inv.pins_of {pins' : List (Addr × Obj)} (I : Inv X pins σ H s) (h : ∀ p ∈ pins', s.heap.get? p.1 = some p.2 ∧ H p.1 = none ∧ p.1 ≠ X.env.locals ∧ p.1 ∉ X.fs ∧ ∀ v, p.2.data ≠ .cell v) : Inv X pins' σ H s :=
  ⟨I.ok, I.os, I.bare, I.base, I.loc, I.cell, I.free, I.freeC, fun p hp => (List.mem_append.mp hp).elim (fun z => I.pin p (List.mem_append_left _ z)) (h p), I.hok, I.len⟩

theorem nodup_ix {N : List Str} (hN : N.Nodup) {i j : Nat} {x : Str} (a : N[i]? = some x) (b : N[j]? = some x) : i = j := by
  obtain ⟨h1, e1⟩ := List.getElem?_eq_some_iff.mp a
  obtain ⟨h2, e2⟩ := List.getElem?_eq_some_iff.mp b
  exact (List.getElem_inj hN).mp (e1.trans e2.symm)

theorem store_ok2 {M : Model} {A : Around} {E : Value → Shared → Prop} {i : Nat} {x : Str} {v : V} {u : Value} {Q : Unit → Shared → Prop} (I : Inv X pins σ H s) (hN : X.N.Nodup) (hi : X.N[i]? = some x) (hx : Loc X.env.scope x) (r : RelV v u)
    (h : ∀ s', Inv X pins (σ.set i (some v)) H s' → (∃ a, Heap.SameBut a s.heap s'.heap ∧ (a = X.env.locals ∨ X.env.cells.lookup x = some a)) → Q () s') (hf : X.fn x = true ∨ X.env.scope.names.lookup x = some .local := by first | exact .inl rfl | exact .inr rfl | assumption) : wpAny M A (storeName X.env x u) Q E s := by
  obtain ⟨m, hn, hl⟩ := id I.loc
  have hcls : (X.env.scope.kind == .class || (X.env.scope.kind == .module && X.env.locals != X.env.globals)) = false := by rw [I.ok.kind]; rfl
  have hiσ : i < σ.length := by rw [I.len]; exact (List.getElem?_eq_some_iff.mp hi).1
  have cne := I.cne
  have tracked : ∀ {a : Addr} {h' : Heap}, (∃ o, s.heap.get? a = some o ∧ H a = none) → Heap.SameBut a s.heap h' → HOk X.prog X.w H h' := fun {a h'} ha hs b ob e => by
    obtain ⟨_, _, hfree⟩ := ha
    refine (I.hok b ob e).stay (fun c w' hc q => (hs.2 c ?_).trans q) (fun _ q => q) fun _ _ q => q
    rintro rfl
    rcases hc with rfl | hc
    · rw [hfree] at e; cases e
    · rw [hfree] at hc; cases hc
  rcases hx with hk | hk
  · refine wpAny_storeName_local hk hn (fun h' hn' hs => ?_) hcls
    obtain ⟨oL, _, _, hoL, _⟩ := id hn
    refine h _ ⟨I.ok, I.os, I.bare, ⟨fun b o e n hb hx => ?_, fun b o e n hb hx => ?_, I.base.free, fun b o e hx => ?_, I.base.tups, I.base.frzs, I.base.tbls⟩, ⟨_, hn', fun j y v' e1 e2 e3 => ?_⟩, fun y c e => ?_, I.free, I.freeC, fun p hp => ?_, tracked ⟨oL, hoL, I.free⟩ hs, by simpa using I.len⟩ ⟨_, hs, .inl rfl⟩
    · exact (hs.2 b (Nat.ne_of_lt (Nat.lt_of_lt_of_le (Heap.lt_size e) I.ok.above))).trans (I.base.keep b o e n hb hx)
    · obtain ⟨sl, e1⟩ := I.base.slot b o e n hb hx
      exact ⟨sl, (hs.2 b (Nat.ne_of_lt (Nat.lt_of_lt_of_le (Heap.lt_size e) I.ok.above))).trans e1⟩
    · obtain ⟨o', e1⟩ := I.base.there b o e hx
      exact ⟨o', (hs.2 b (Nat.ne_of_lt (Nat.lt_of_lt_of_le (Heap.lt_size e) I.ok.above))).trans e1⟩
    · by_cases hj : j = i
      · subst hj
        rw [hi] at e1; cases e1
        rw [List.getElem?_set_self hiσ] at e2
        cases e2
        exact ⟨u, r, .inl ⟨hk, by simp⟩⟩
      · rw [List.getElem?_set_ne (Ne.symm hj)] at e2
        obtain ⟨u', r', q⟩ := hl j y v' e1 e2 e3
        refine ⟨u', r', ?_⟩
        rcases q with ⟨k, e⟩ | ⟨k, c, e, z⟩
        · refine .inl ⟨k, ?_⟩
          have : y ≠ x := fun e => hj (nodup_ix hN e1 (e ▸ hi))
          simp [this, e]
        · exact .inr ⟨k, c, e, z.sameBut hs (cne y c e)⟩
    · obtain ⟨w', z⟩ := I.cell y c e
      exact ⟨w', z.sameBut hs (cne y c e)⟩
    · obtain ⟨e, n, ne, nf, d⟩ := I.pin p hp
      exact ⟨(hs.2 p.1 ne).trans e, n, ne, nf, d⟩
  · have hfn : X.fn x = true := by
      rcases hf with z | z
      · exact z
      · rw [z] at hk; cases hk
    obtain ⟨c, hc⟩ := I.ok.has x (.inl hk)
    obtain ⟨w', z⟩ := I.cell x c hc
    refine wpAny_storeName_cell I.ok.kind hk hc z (fun h' hc' hs => ?_)
    obtain ⟨oc, hoc, hocd⟩ := id z
    refine h { s with heap := h' } ⟨I.ok, I.os, I.bare, ⟨fun b o e n hb hx => ?_, fun b o e n hb hx => ?_, I.base.free, fun b o e hx => ?_, I.base.tups, I.base.frzs, I.base.tbls⟩, ⟨m, hn.sameBut hs (Ne.symm (cne x c hc)), fun j y v' e1 e2 e3 => ?_⟩, fun y c' e => ?_, I.free, I.freeC, fun p hp => ?_, tracked ⟨oc, hoc, I.freeC x c hc⟩ hs, by simpa using I.len⟩ ⟨c, hs, .inr hc⟩
    · exact (hs.2 b (Nat.ne_of_lt (Nat.lt_of_lt_of_le (Heap.lt_size e) (I.ok.cab x c hfn hc)))).trans (I.base.keep b o e n hb hx)
    · obtain ⟨sl, e1⟩ := I.base.slot b o e n hb hx
      exact ⟨sl, (hs.2 b (Nat.ne_of_lt (Nat.lt_of_lt_of_le (Heap.lt_size e) (I.ok.cab x c hfn hc)))).trans e1⟩
    · obtain ⟨o', e1⟩ := I.base.there b o e hx
      exact ⟨o', (hs.2 b (Nat.ne_of_lt (Nat.lt_of_lt_of_le (Heap.lt_size e) (I.ok.cab x c hfn hc)))).trans e1⟩
    · by_cases hj : j = i
      · subst hj
        rw [hi] at e1; cases e1
        rw [List.getElem?_set_self hiσ] at e2
        cases e2
        exact ⟨u, r, .inr ⟨.inl hk, c, hc, hc'⟩⟩
      · rw [List.getElem?_set_ne (Ne.symm hj)] at e2
        obtain ⟨u', r', q⟩ := hl j y v' e1 e2 e3
        refine ⟨u', r', ?_⟩
        rcases q with q | ⟨k, c', e, z'⟩
        · exact .inl q
        · refine .inr ⟨k, c', e, z'.sameBut hs ?_⟩
          rintro rfl
          exact hj (nodup_ix hN e1 (I.ok.inj _ _ _ e hc ▸ hi))
    · by_cases hcc : c' = c
      · subst hcc; exact ⟨_, hc'⟩
      · obtain ⟨w2, z2⟩ := I.cell y c' e
        exact ⟨w2, z2.sameBut hs hcc⟩
    · obtain ⟨e, n, ne, nf, d⟩ := I.pin p hp
      refine ⟨(hs.2 p.1 ?_).trans e, n, ne, nf, d⟩
      intro q
      rw [q, hoc] at e
      have q' : oc = p.2 := Option.some.inj e
      exact d w' (by rw [← q']; exact hocd)
theorem store_ok {M : Model} {A : Around} {E : Value → Shared → Prop} {i : Nat} {x : Str} {v : V} {u : Value} {Q : Unit → Shared → Prop} (I : Inv X pins σ H s) (hN : X.N.Nodup) (hi : X.N[i]? = some x) (hx : Loc X.env.scope x) (r : RelV v u)
    (h : ∀ s', Inv X pins (σ.set i (some v)) H s' → Q () s') (hf : X.fn x = true ∨ X.env.scope.names.lookup x = some .local := by first | exact .inl rfl | exact .inr rfl | assumption) : wpAny M A (storeName X.env x u) Q E s :=
  store_ok2 I hN hi hx r (fun s' I' _ => h s' I') hf
theorem Inv.call' {s' : Shared} {ch : List Addr} (I : Inv X pins σ H s) (ho : s'.os = s.os) (u : Un (frs X.stack) ch H H' s.heap s'.heap) (hok : HOk X.prog X.w H' s'.heap) (hg : AllBare s'.gens)
    (hch : ∀ b ∈ ch, (b ∈ X.ex ∨ X.s_0.heap.objs.size ≤ b) ∧ b ≠ X.env.locals ∧ (∀ x c, X.env.cells.lookup x = some c → c ≠ b) ∧ ∀ p ∈ X.pn ++ pins, p.1 ≠ b) : Inv X pins σ H' s' := by
  obtain ⟨h', g', d', t', o'⟩ := s'
  have e : o' = s.os := ho
  subst e
  exact I.call (g' := g') (t' := t') (d' := d') u hok hg hch
end

abbrev XK := Value → Option Addr → Hp → Prop
abbrev St := List (Option V)
abbrev VK := V → Hp → Prop
abbrev TE := St → Hp → VK → Prop
abbrev TT := St → Hp → (Bool → Hp → Prop) → Prop
abbrev TA := St → Hp → (List V → Hp → Prop) → Prop
structure Ends where
  nx : St → Hp → Prop
  rt : VK
  bk : St → Hp → Prop := fun _ _ => False
  ct : St → Hp → Prop := fun _ _ => False
abbrev TS := Ends → St → Hp → Prop

def EP (X : Cx) (pins : List (Addr × Obj)) (σ : St) (Q : VK) (u : Value) (s' : Shared) : Prop := ∃ v H', Inv X pins σ H' s' ∧ RelV v u ∧ Q v H'
def TP (X : Cx) (pins : List (Addr × Obj)) (σ : St) (Q : Bool → Hp → Prop) (b : Bool) (s' : Shared) : Prop := ∃ H', Inv X pins σ H' s' ∧ Q b H'
def AP (X : Cx) (pins : List (Addr × Obj)) (σ : St) (Q : List V → Hp → Prop) (us : List Value) (s' : Shared) : Prop := ∃ vs H', Inv X pins σ H' s' ∧ Vals vs us ∧ Q vs H'
def SP (X : Cx) (pins : List (Addr × Obj)) (D : Ends) (f : Flow) (s' : Shared) : Prop :=
  match f with
  | .next => ∃ σ' H', Inv X pins σ' H' s' ∧ D.nx σ' H'
  | .brk => ∃ σ' H', Inv X pins σ' H' s' ∧ D.bk σ' H'
  | .cont => ∃ σ' H', Inv X pins σ' H' s' ∧ D.ct σ' H'
  | .ret u => ∃ v σ' H', Inv X pins σ' H' s' ∧ RelV v u ∧ D.rt v H'

def PE (X : Cx) (e : Expr) (t : TE) : Prop :=
  ∀ (pins : List (Addr × Obj)) (s : Shared) (σ : St) (H : Hp) (Q : VK), Inv X pins σ H s → t σ H Q → wpAny (model X.prog X.w) X.A (eval e X.env) (EP X pins σ Q) X.xe s
def PT (X : Cx) (e : Expr) (t : TT) : Prop :=
  ∀ (pins : List (Addr × Obj)) (s : Shared) (σ : St) (H : Hp) (Q : Bool → Hp → Prop), Inv X pins σ H s → t σ H Q → wpAny (model X.prog X.w) X.A (isTrue e X.env (eval e X.env)) (TP X pins σ Q) X.xe s
def PW (X : Cx) (e : Expr) (t : TT) : Prop :=
  ∀ (whole : Sem Value) (pins : List (Addr × Obj)) (s : Shared) (σ : St) (H : Hp) (Q : Bool → Hp → Prop), Inv X pins σ H s → t σ H Q → wpAny (model X.prog X.w) X.A (isTrue e X.env whole) (TP X pins σ Q) X.xe s
theorem PW.pt {X : Cx} {e : Expr} {t : TT} (h : PW X e t) : PT X e t := h _
def PA (X : Cx) (es : List Expr) (t : TA) : Prop :=
  ∀ (pos : Pos) (pins : List (Addr × Obj)) (s : Shared) (σ : St) (H : Hp) (Q : List V → Hp → Prop), Inv X pins σ H s → t σ H Q → wpAny (model X.prog X.w) X.A (spliced (backTo pos (starEach es X.env))) (AP X pins σ Q) X.xe s
def PS (X : Cx) (st : Stmt) (t : TS) : Prop :=
  ∀ (pins : List (Addr × Obj)) (s : Shared) (σ : St) (H : Hp) (D : Ends), Inv X pins σ H s → t D σ H → wpAny (model X.prog X.w) X.A (exec st X.env) (SP X pins D) X.xe s
def PSs (X : Cx) (st : List Stmt) (t : TS) : Prop :=
  ∀ (pins : List (Addr × Obj)) (s : Shared) (σ : St) (H : Hp) (D : Ends), Inv X pins σ H s → t D σ H → wpAny (model X.prog X.w) X.A (execs st X.env) (SP X pins D) X.xe s
theorem thn {α : Type} {t : Sem α} {Q Q' : α → Shared → Prop} {M : Model} {A : Around} {E : Value → Shared → Prop} {s : Shared} (h : wpAny M A t Q E s) (hQ : ∀ a s, Q a s → Q' a s) : wpAny M A t Q' E s := wpAny_mono h hQ fun _ _ x => x
end L2

namespace L2
open PySem PySem.Spec PyProof.Rows
section
variable {X : Cx}

def tVar (i : Nat) : TE := fun σ H Q => ∃ v, σ[i]? = some (some v) ∧ Q v H
def tC (v : V) : TE := fun _ H Q => Q v H
theorem pe_var {i : Nat} {x : Str} {pos : Pos} (hN : X.N[i]? = some x) (hv : Vis X.env.scope x) (hd : (x == ("__debug__" : Str)) = false := by decide) (hcd : (x == ("__classdict__" : Str)) = false := by decide) : PE X (.Name x pos) (tVar i) := by
  intro pins s σ H Q I h
  obtain ⟨v, e, h⟩ := h
  obtain ⟨m, hn, hl⟩ := I.loc
  obtain ⟨u, r, l⟩ := hl i x v hN e hv
  have fin : EP X pins σ Q u s := ⟨v, H, I, r, h⟩
  rcases l with ⟨hk, hm⟩ | ⟨hk, c, hc, hcell⟩
  · exact wpAny_Name (wpAny_loadName_local I.ok.kind hk hn hm fin) hd
  · rcases hk with hk | hk
    · exact wpAny_Name (wpAny_loadName_cell I.ok.kind hk hc hcell fin) hd
    · exact wpAny_Name (wpAny_loadName_free I.ok.kind hk hc hcell fin hcd) hd
theorem pe_int {i j pos} : PE X (.Constant (.int i) j pos) (tC (.int i)) := fun _ _ _ H _ I h => wpAny_Constant_int ⟨.int i, H, I.tok _, ⟨_, rfl⟩, h⟩
theorem pe_bl {b j pos} : PE X (.Constant (.bool b) j pos) (tC (.bl b)) := fun _ _ _ H _ I h => Constant_bool ⟨.bl b, H, I, rfl, h⟩
theorem pe_non {j pos} : PE X (.Constant .none j pos) (tC .non) := fun _ _ _ H _ I h => Constant_none ⟨.non, H, I, rfl, h⟩
theorem pe_str {x j pos} : PE X (.Constant (.str x) j pos) (tC (.str x)) := fun _ _ _ H _ I h => Calls.Constant_str ⟨.str x, H, I.tok _, ⟨_, rfl⟩, h⟩

def Gl (X : Cx) (x : Str) : Prop := X.env.kindOf x = some .globalImplicit
theorem ld_glob {E : Value → Shared → Prop} {pins : List (Addr × Obj)} {s : Shared} {σ : St} {H : Hp} {x : Str} {u : Value} {pos : Pos} {Q : Value → Shared → Prop} (I : Inv X pins σ H s) (hg : Gl X x) (hm : X.mg x = some u) (h : Q u s)
    (hd : (x == ("__debug__" : Str)) = false := by decide) : wpAny (model X.prog X.w) X.A (eval (.Name x pos) X.env) Q E s :=
  Calls.Name_function_global I.ok.kind hg (Calls.loadGlobal_global (by rw [I.ok.glob]; exact I.mod.glob.keeps I.bk) hm h) hd
theorem ld_blt {E : Value → Shared → Prop} {pins : List (Addr × Obj)} {s : Shared} {σ : St} {H : Hp} {x : Str} {u : Value} {pos : Pos} {Q : Value → Shared → Prop} (I : Inv X pins σ H s) (hg : Gl X x) (hm : X.mg x = none) (hv : bootBuiltins x = some u) (h : Q u s)
    (hn : x ≠ "__name__" := by decide) (hd : (x == ("__debug__" : Str)) = false := by decide) : wpAny (model X.prog X.w) X.A (eval (.Name x pos) X.env) Q E s := by
  obtain ⟨mb, h1, h2⟩ := I.mod.blt
  exact Calls.Name_function_global I.ok.kind hg (Calls.loadGlobal_builtin (by rw [I.ok.glob]; exact I.mod.glob.keeps I.bk) hm (by rw [I.ok.blt]; exact h1.keeps I.bk) ((h2 x hn).trans hv) h) hd
theorem pe_glob {x : Str} {v : V} {u : Value} {pos : Pos} (hg : Gl X x) (hm : X.mg x = some u) (r : RelV v u) (hd : (x == ("__debug__" : Str)) = false := by decide) : PE X (.Name x pos) (tC v) :=
  fun _ _ _ H _ I h => ld_glob I hg hm ⟨v, H, I, r, h⟩ hd
theorem pe_bltn {x : Str} {v : V} {u : Value} {pos : Pos} (hg : Gl X x) (hm : X.mg x = none) (hv : bootBuiltins x = some u) (r : RelV v u) (hn : x ≠ "__name__" := by decide) (hd : (x == ("__debug__" : Str)) = false := by decide) : PE X (.Name x pos) (tC v) :=
  fun _ _ _ H _ I h => ld_blt I hg hm hv ⟨v, H, I, r, h⟩ hn hd

variable {a b : Expr} {ta tb : TE} {pos : Pos}
def PC (X : Cx) (op : CmpOp) (a b : Expr) (t : TE) : Prop :=
  ∀ (pins : List (Addr × Obj)) (s : Shared) (σ : St) (H : Hp) (Q : VK), Inv X pins σ H s → t σ H Q →
    wpAny (model X.prog X.w) X.A (eval a X.env) (fun v s₁ => wpAny (model X.prog X.w) X.A (eval b X.env) (fun u s₂ => wpAny (model X.prog X.w) X.A (compareOp op v u) (EP X pins σ Q) X.xe s₂) X.xe s₁) X.xe s
theorem nobehind (b : Expr) {op : CmpOp} (h : op ≠ .In) (h2 : op ≠ .NotIn) : behindInMarks op b = false := by
  have e1 : (op == CmpOp.In) = false := by cases op <;> first | rfl | exact absurd rfl h
  have e2 : (op == CmpOp.NotIn) = false := by cases op <;> first | rfl | exact absurd rfl h2
  cases b <;> simp [behindInMarks, e1, e2]
def tB (t : TE) : TT := fun σ H Q => t σ H fun x H1 => ∃ c, x = .bl c ∧ Q c H1
theorem pt_cmp {op : CmpOp} {t : TE} (h : PC X op a b t) (h1 : behindInMarks op b = false := by first | exact nobehind _ (by decide) (by decide) | rfl) : PT X (.Compare a [op] [b] pos) (tB t) := by
  intro pins s σ H Q I hw
  refine wpAny_isTrue_Compare1 (thn (h pins s σ H _ I hw) fun v s1 h1 => thn h1 fun u s2 h2 => thn h2 fun c s3 ⟨x, H1, I1, r1, q1⟩ => ?_) h1
  obtain ⟨d, rfl, q⟩ := q1
  cases r1
  exact wpAny_truthy_bool ⟨H1, I1, q⟩
theorem pt_val {e : Expr} {t : TE} (h : PE X e t) (he : ∀ whole, isTrue e X.env whole = (do let v ← whole; standAt e.pos; holding [v] (truthy v)) := by intro _; rfl) : PT X e (tB t) := by
  intro pins s σ H Q I hw
  refine isTrue_plain (thn (h pins s σ H _ I hw) fun v s1 ⟨x, H1, I1, r1, q1⟩ => ?_) (he _)
  obtain ⟨d, rfl, q⟩ := q1
  cases r1
  exact wpAny_truthy_bool ⟨H1, I1, q⟩

variable {tA tB' : TT} {rest : List Expr}
def tAnd (t u : TT) : TT := fun σ H Q => t σ H fun c H1 => if c = true then u σ H1 Q else Q false H1
def tOr (t u : TT) : TT := fun σ H Q => t σ H fun c H1 => if c = true then Q true H1 else u σ H1 Q
def tNot (t : TT) : TT := fun σ H Q => t σ H fun c H1 => Q (!c) H1
theorem pw_and1 (ha : PT X a tA) : PW X (.BoolOp .And [a] pos) tA := by
  intro wh pins s σ H Q I h
  refine isTrue_and (thn (ha pins s σ H Q I h) fun c s1 e => ?_)
  cases c with
  | true => exact isTrue_and_nil e
  | false => exact e
theorem pw_or1 (ha : PT X a tA) : PW X (.BoolOp .Or [a] pos) tA := by
  intro wh pins s σ H Q I h
  refine isTrue_or (thn (ha pins s σ H Q I h) fun c s1 e => ?_)
  cases c with
  | false => exact isTrue_or_nil e
  | true => exact e
theorem pw_and (ha : PT X a tA) (hb : PW X (.BoolOp .And (b :: rest) pos) tB') : PW X (.BoolOp .And (a :: b :: rest) pos) (tAnd tA tB') := by
  intro wh pins s σ H Q I h
  refine isTrue_and (thn (ha pins s σ H _ I h) fun c s1 ⟨H1, I1, q1⟩ => ?_)
  cases c with
  | true => exact hb wh pins s1 σ H1 Q I1 q1
  | false => exact ⟨H1, I1, q1⟩
theorem pw_or (ha : PT X a tA) (hb : PW X (.BoolOp .Or (b :: rest) pos) tB') : PW X (.BoolOp .Or (a :: b :: rest) pos) (tOr tA tB') := by
  intro wh pins s σ H Q I h
  refine isTrue_or (thn (ha pins s σ H _ I h) fun c s1 ⟨H1, I1, q1⟩ => ?_)
  cases c with
  | true => exact ⟨H1, I1, q1⟩
  | false => exact hb wh pins s1 σ H1 Q I1 q1
theorem pt_not (ha : PT X a tA) : PT X (.UnaryOp .Not a pos) (tNot tA) := by
  intro pins s σ H Q I h
  exact isTrue_not (ha pins s σ H (fun c H1 => Q (!c) H1) I h)
def tAndV (ta tb : TE) : TE := fun σ H Q => ta σ H fun x H1 => ∃ c, x = .bl c ∧ if c = true then tb σ H1 Q else Q (.bl false) H1
def tOrV (ta tb : TE) : TE := fun σ H Q => ta σ H fun x H1 => ∃ c, x = .bl c ∧ if c = true then Q (.bl true) H1 else tb σ H1 Q
def tNotV (ta : TE) : TE := fun σ H Q => ta σ H fun x H1 => ∃ c, x = .bl c ∧ Q (.bl (!c)) H1
theorem pe_one {op} {t : TE} (h : PE X a t) : PE X (.BoolOp op [a] pos) t := fun pins s σ H Q I hw => BoolOp_one (h pins s σ H Q I hw)
theorem pe_and (ha : PE X a ta) (hb : PE X (.BoolOp .And (b :: rest) pos) tb) : PE X (.BoolOp .And (a :: b :: rest) pos) (tAndV ta tb) := by
  intro pins s σ H Q I h
  refine BoolOp_and (thn (ha pins s σ H _ I h) fun v s1 ⟨x, H1, I1, r1, q1⟩ => ?_)
  obtain ⟨c, rfl, q1⟩ := q1
  cases r1
  refine wpAny_truthy_bool ?_
  cases c with
  | true => exact hb pins s1 σ H1 Q I1 q1
  | false => exact ⟨.bl false, H1, I1, rfl, q1⟩
theorem pe_or (ha : PE X a ta) (hb : PE X (.BoolOp .Or (b :: rest) pos) tb) : PE X (.BoolOp .Or (a :: b :: rest) pos) (tOrV ta tb) := by
  intro pins s σ H Q I h
  refine BoolOp_or (thn (ha pins s σ H _ I h) fun v s1 ⟨x, H1, I1, r1, q1⟩ => ?_)
  obtain ⟨c, rfl, q1⟩ := q1
  cases r1
  refine wpAny_truthy_bool ?_
  cases c with
  | false => exact hb pins s1 σ H1 Q I1 q1
  | true => exact ⟨.bl true, H1, I1, rfl, q1⟩
theorem pe_not (ha : PE X a ta) : PE X (.UnaryOp .Not a pos) (tNotV ta) := by
  intro pins s σ H Q I h
  refine UnaryOp_ (thn (ha pins s σ H _ I h) fun v s1 ⟨x, H1, I1, r1, q1⟩ => ?_)
  obtain ⟨c, rfl, q1⟩ := q1
  cases r1
  exact not_of (wpAny_truthy_bool ⟨.bl (!c), H1, I1, rfl, q1⟩)
end
end L2

namespace L2
open PySem PySem.Spec PyProof.Rows

def SqL (K : PySem.W.Frag) (H : Hp) (a : Addr) (xs : List V) : Prop :=
  Rd H a (.lst xs) ∨
    ∃ (o : Obj) (its : Array Value) (n : Nat), K.lookup a = some o ∧ o.cls = .type "list" ∧ o.dict = none ∧ o.data = .seq its n ∧ its.size ≤ sizeLine ∧ Vals xs its.toList
def SqT (K : PySem.W.Frag) (H : Hp) (a : Addr) (xs : List V) : Prop :=
  Rd H a (.tup xs) ∨
    ∃ (o : Obj) (its : Array Value) (n : Nat), K.lookup a = some o ∧ o.cls = .type "tuple" ∧ o.data = .seq its n ∧ its.size ≤ sizeLine ∧ Vals xs its.toList
def absV : Value → Option V
  | .none => some .non
  | .bool b => some (.bl b)
  | .int i _ => some (.int i)
  | .str x _ => some (.str x)
  | .bytes b _ => some (.byt b)
  | .float b _ => some (.flt b)
  | .ref a => some (.ref a)
  | .type n => some (.ty n)
  | _ => none
theorem RelV.abs {x : V} {u : Value} (r : RelV x u) : absV u = some x := by
  cases x with
  | non => cases r; rfl
  | bl _ => cases r; rfl
  | int _ => obtain ⟨t, rfl⟩ := r; rfl
  | str _ => obtain ⟨t, rfl⟩ := r; rfl
  | byt _ => obtain ⟨t, rfl⟩ := r; rfl
  | flt _ => obtain ⟨t, rfl⟩ := r; rfl
  | ref _ => cases r; rfl
  | ty _ => cases r; rfl
theorem RelV.inj {x y : V} {u : Value} (r : RelV x u) (q : RelV y u) : x = y := Option.some.inj (r.abs.symm.trans q.abs)
theorem Vals.inj : ∀ {xs ys : List V} {us : List Value}, Vals xs us → Vals ys us → xs = ys
  | _, _, _, .nil, .nil => rfl
  | _, _, _, .cons r t, .cons r' t' => by rw [r.inj r', Vals.inj t t']
section
variable {X : Cx} {pins : List (Addr × Obj)} {σ : St} {H : Hp} {s : Shared} {a : Addr} {xs ys : List V}
theorem SqL.of {K : PySem.W.Frag} (h : H a = some (.lst xs)) : SqL K H a xs := .inl (.inl h)
theorem SqT.of {K : PySem.W.Frag} (h : H a = some (.tup xs)) : SqT K H a xs := .inl (.inl h)
theorem Inv.list (I : Inv X pins σ H s) (h : SqL X.K H a xs) : ∃ its : List Value, Vals xs its ∧ PlainL s.heap a its.toArray ∧ xs.length ≤ sizeLine := by
  rcases h with h | ⟨o, its, n, hk, hc, hd, hs, hz, r⟩
  · obtain ⟨z, its, n, r, e⟩ := h.ok I.hok
    exact ⟨its, r, ⟨_, n, e, rfl, rfl, rfl⟩, z⟩
  · refine ⟨its.toList, r, ⟨o, n, I.kIn a o hk, hc, hd, by simpa using hs⟩, ?_⟩
    have e := r.length
    simp only [Array.length_toList] at e
    omega
theorem Inv.tuple (I : Inv X pins σ H s) (h : SqT X.K H a xs) : ∃ its : List Value, Vals xs its ∧ IsTup s.heap a its.toArray ∧ xs.length ≤ sizeLine := by
  rcases h with h | ⟨o, its, n, hk, hc, hs, hz, r⟩
  · obtain ⟨z, its, r, p⟩ := h.ok I.hok
    exact ⟨its, r, p, z⟩
  · refine ⟨its.toList, r, ⟨o, I.kIn a o hk, hc, n, by simpa using hs⟩, ?_⟩
    have e := r.length
    simp only [Array.length_toList] at e
    omega
theorem Inv.list_inj (I : Inv X pins σ H s) (h : SqL X.K H a xs) (h' : SqL X.K H a ys) : xs = ys := by
  obtain ⟨its, r, ⟨o, n, e, _, _, d⟩, _⟩ := I.list h
  obtain ⟨its', r', ⟨o', n', e', _, _, d'⟩, _⟩ := I.list h'
  rw [e] at e'; cases e'
  rw [d] at d'
  injection d' with d1 _
  have : its = its' := by simpa using congrArg Array.toList d1
  subst this
  exact r.inj r'
theorem Inv.tuple_inj (I : Inv X pins σ H s) (h : SqT X.K H a xs) (h' : SqT X.K H a ys) : xs = ys := by
  obtain ⟨its, r, ⟨o, e, _, n, d⟩, _⟩ := I.tuple h
  obtain ⟨its', r', ⟨o', e', _, n', d'⟩, _⟩ := I.tuple h'
  rw [e] at e'; cases e'
  rw [d] at d'
  injection d' with d1 _
  have : its = its' := by simpa using congrArg Array.toList d1
  subst this
  exact r.inj r'
end

abbrev Cx.wish (X : Cx) (E : Value → Shared → Prop) : Cx := { X with xe := E }
abbrev Cx.nox (X : Cx) : Cx := X.wish fun _ _ => False
theorem Cx.Ok.wish {X : Cx} (ok : X.Ok) (E : Value → Shared → Prop) : (X.wish E).Ok :=
  ⟨ok.mod, ok.kind, ok.glob, ok.blt, ok.above, ok.inj, ok.has, ok.cab, ok.hd, ok.frames, ok.stk, ok.exf, ok.bs, ok.bsz, ok.noex, ok.exfs, ok.funs, ok.frf⟩
theorem Cx.Ok.unwish {X : Cx} {E : Value → Shared → Prop} (ok : (X.wish E).Ok) : X.Ok :=
  ⟨ok.mod, ok.kind, ok.glob, ok.blt, ok.above, ok.inj, ok.has, ok.cab, ok.hd, ok.frames, ok.stk, ok.exf, ok.bs, ok.bsz, ok.noex, ok.exfs, ok.funs, ok.frf⟩
section
variable {X : Cx} {pins : List (Addr × Obj)} {σ : St} {H : Hp} {s : Shared} {E : Value → Shared → Prop}
theorem Inv.wish (I : Inv X pins σ H s) (E : Value → Shared → Prop) : Inv (X.wish E) pins σ H s := ⟨I.ok.wish E, I.os, I.bare, I.base, I.loc, I.cell, I.free, I.freeC, I.pin, I.hok, I.len⟩
theorem Inv.unwish (I : Inv (X.wish E) pins σ H s) : Inv X pins σ H s := ⟨I.ok.unwish, I.os, I.bare, I.base, I.loc, I.cell, I.free, I.freeC, I.pin, I.hok, I.len⟩
theorem SP.unwish {D : Ends} {f : Flow} {s' : Shared} (h : SP (X.wish E) pins D f s') : SP X pins D f s' := by
  cases f with
  | next => obtain ⟨σ', H', I, q⟩ := h; exact ⟨σ', H', I.unwish, q⟩
  | brk => obtain ⟨σ', H', I, q⟩ := h; exact ⟨σ', H', I.unwish, q⟩
  | cont => obtain ⟨σ', H', I, q⟩ := h; exact ⟨σ', H', I.unwish, q⟩
  | ret u => obtain ⟨v, σ', H', I, r, q⟩ := h; exact ⟨v, σ', H', I.unwish, r, q⟩
theorem PE.nox {e : Expr} {t : TE} (h : PE X.nox e t) : PE X e t := fun pins s σ H Q I hw =>
  wpAny_mono (h pins s σ H Q (I.wish _) hw) (fun _ _ ⟨v, H', I', r, q⟩ => ⟨v, H', I'.unwish, r, q⟩) fun _ _ z => False.elim z
theorem PT.nox {e : Expr} {t : TT} (h : PT X.nox e t) : PT X e t := fun pins s σ H Q I hw =>
  wpAny_mono (h pins s σ H Q (I.wish _) hw) (fun _ _ ⟨H', I', q⟩ => ⟨H', I'.unwish, q⟩) fun _ _ z => False.elim z
theorem PSs.nox {st : List Stmt} {t : TS} (h : PSs X.nox st t) : PSs X st t := fun pins s σ H D I hw =>
  wpAny_mono (h pins s σ H D (I.wish _) hw) (fun _ _ q => q.unwish) fun _ _ z => False.elim z
end

section
variable {X : Cx} {st : Stmt} {rest : List Stmt} {t u : TS} {e : Expr} {te : TE} {pos : Pos}
def tNext : TS := fun D σ H => D.nx σ H
def tSeq (t u : TS) : TS := fun D σ H => t { D with nx := u D } σ H
theorem pss_nil : PSs X [] tNext := fun _ _ σ H _ I h => wpAny_execs_nil ⟨σ, H, I, h⟩
theorem pss_cons (h1 : PS X st t) (h2 : PSs X rest u) : PSs X (st :: rest) (tSeq t u) := by
  intro pins s σ H D I h
  refine wpAny_execs_cons (thn (h1 pins s σ H { D with nx := u D } I h) fun f s1 q => ?_)
  cases f with
  | next =>
    obtain ⟨σ', H', I', q⟩ := q
    exact h2 pins s1 σ' H' D I' q
  | ret v => exact q
  | brk => exact q
  | cont => exact q
theorem pss_one (h1 : PS X st t) : PSs X [st] t := by
  intro pins s σ H D I h
  refine wpAny_execs_cons (thn (h1 pins s σ H D I h) fun f s1 q => ?_)
  cases f with
  | next => exact wpAny_execs_nil q
  | ret v => exact q
  | brk => exact q
  | cont => exact q
theorem Inv.quiet {pins : List (Addr × Obj)} {σ : St} {H : Hp} {s : Shared} (I : Inv X pins σ H s) : interactive X.env = false := by simp [interactive, I.ok.kind]
def tDrop (te : TE) : TS := fun D σ H => te σ H fun _ H1 => D.nx σ H1
theorem ps_expr (he : PE X e te) (hs : swapsWith e none pos.line X.env = pure false := by rfl) : PS X (.Expr e pos) (tDrop te) := by
  intro pins s σ H D I h
  exact wpAny_Expr_any (thn (he pins s σ H _ I h) fun v s1 ⟨x, H1, I1, r1, q1⟩ => ⟨σ, H1, I1, q1⟩) I.quiet hs
def tRet (te : TE) : TS := fun D σ H => te σ H D.rt
theorem ps_ret (he : PE X e te) : PS X (.Return (some e) pos) (tRet te) := by
  intro pins s σ H D I h
  exact wpAny_Return_some (thn (he pins s σ H _ I h) fun v s1 ⟨x, H1, I1, r1, q1⟩ => ⟨x, σ, H1, I1, r1, q1⟩)
def tIfS (c : TT) (t u : TS) : TS := fun D σ H => c σ H fun b H1 => if b = true then t D σ H1 else u D σ H1
theorem ps_if {c : Expr} {a b : List Stmt} {tc : TT} (hc : PT X c tc) (ha : PSs X a t) (hb : PSs X b u) : PS X (.If c a b pos) (tIfS tc t u) := by
  intro pins s σ H D I h
  refine wpAny_If (thn (hc pins s σ H _ I h) fun d s1 ⟨H1, I1, q1⟩ => ?_)
  cases d with
  | true => exact ha pins s1 σ H1 D I1 q1
  | false => exact hb pins s1 σ H1 D I1 q1
end

abbrev TG := V → St → Hp → (St → Hp → Prop) → Prop
abbrev TGs := List V → St → Hp → (St → Hp → Prop) → Prop
def PG (X : Cx) (target : Expr) (t : TG) : Prop :=
  ∀ (pins : List (Addr × Obj)) (s : Shared) (σ : St) (H : Hp) (v : V) (u : Value) (Q : St → Hp → Prop), Inv X pins σ H s → RelV v u → t v σ H Q →
    wpAny (model X.prog X.w) X.A (assign target X.env u) (fun _ s' => ∃ σ' H', Inv X pins σ' H' s' ∧ Q σ' H') X.xe s
def PGs (X : Cx) (ts : List Expr) (t : TGs) : Prop :=
  ∀ (pins : List (Addr × Obj)) (s : Shared) (σ : St) (H : Hp) (vs : List V) (us : List Value) (Q : St → Hp → Prop), Inv X pins σ H s → Vals vs us → t vs σ H Q →
    wpAny (model X.prog X.w) X.A (assignInOrder ((assignEach ts X.env).map (·.2)) us) (fun _ s' => ∃ σ' H', Inv X pins σ' H' s' ∧ Q σ' H') X.xe s
abbrev TSet := V → V → V → Hp → (Hp → Prop) → Prop
def PSet (X : Cx) (t : TSet) : Prop :=
  ∀ (pins : List (Addr × Obj)) (s : Shared) (σ : St) (H : Hp) (o i v : V) (ov iv u : Value) (Q : Hp → Prop), Inv X pins σ H s → RelV o ov → RelV i iv → RelV v u → t o i v H Q →
    wpAny (model X.prog X.w) X.A (setItem ov iv u) (fun _ s' => ∃ H', Inv X pins σ H' s' ∧ Q H') X.xe s
section
variable {X : Cx} {pos : Pos}
def gName (i : Nat) : TG := fun v σ H Q => Q (σ.set i (some v)) H
theorem pg_name {i : Nat} {x : Str} (hN : X.N.Nodup) (hi : X.N[i]? = some x) (hx : Loc X.env.scope x) (hf : X.fn x = true ∨ X.env.scope.names.lookup x = some .local := by first | exact .inl rfl | exact .inr rfl | assumption) : PG X (.Name x pos) (gName i) := by
  intro pins s σ H v u Q I r h
  exact wpAny_assign_Name (store_ok I hN hi hx r (fun s' I' => ⟨_, H, I', h⟩) hf)
def gNil : TGs := fun vs σ H Q => vs = [] ∧ Q σ H
def gCons (t : TG) (u : TGs) : TGs := fun vs σ H Q => ∃ v r, vs = v :: r ∧ t v σ H fun σ' H' => u r σ' H' Q
theorem pgs_nil : PGs X [] gNil := by
  intro pins s σ H vs us Q I r h
  obtain ⟨e, h⟩ := h
  subst e
  cases r
  exact assignInOrder_nil ⟨σ, H, I, h⟩
theorem pgs_cons {e : Expr} {es : List Expr} {t : TG} {u : TGs} (h1 : PG X e t) (h2 : PGs X es u)
    (hs : (assignEach (e :: es) X.env).map (·.2) = assign e X.env :: (assignEach es X.env).map (·.2) := by rfl) : PGs X (e :: es) (gCons t u) := by
  intro pins s σ H vs us Q I r h
  obtain ⟨v, vr, e1, h⟩ := h
  subst e1
  cases r with
  | cons r rr =>
    rw [hs]
    refine assignInOrder_cons (thn (h1 pins s σ H _ _ _ I r h) fun _ s1 ⟨σ1, H1, I1, q1⟩ => ?_)
    exact h2 pins s1 σ1 H1 _ _ Q I1 rr q1
def gTup (K : PySem.W.Frag) (n : Nat) (t : TGs) : TG := fun v σ H Q => ∃ a xs, v = .ref a ∧ SqT K H a xs ∧ xs.length = n ∧ t xs σ H Q
theorem pg_tup {es : List Expr} {k : Nat} {t : TGs} {n : Nat} (hc : X.calm = true) (h : PGs X es t)
    (hn : (assignEach es X.env).length = n := by rfl) (hst : (assignEach es X.env).findIdx? (·.1) = none := by rfl) : PG X (.Tuple es k pos) (gTup X.K n t) := by
  intro pins s σ H v u Q I r hw
  obtain ⟨a, xs, e1, hq, hl, hw⟩ := hw
  subst e1
  cases r
  obtain ⟨its, rv, ht, hz⟩ := I.tuple hq
  refine assign_Tuple_tuple (I.ok.hd hc) ht (by simp [hn, ← hl, rv.length]) hst fun h' hx => ?_
  have I1 : Inv X pins σ H { s with heap := h' } := I.kept (t' := s.toks) fun b o e => hx b o (Nat.ne_of_lt (Heap.lt_size e)) e
  exact h pins _ σ H xs _ Q I1 (by simpa using rv) hw
def gSub (to ti : TE) (t : TSet) : TG := fun v σ H Q => to σ H fun o H1 => ti σ H1 fun i H2 => t o i v H2 fun H3 => Q σ H3
theorem pg_sub {o i : Expr} {to ti : TE} {t : TSet} (ho : PE X o to) (hi : PE X i ti) (hs : PSet X t)
    (ha : ∀ v, assign (.Subscript o i pos) X.env v = (do
      let ov ← holding [v] (eval o X.env)
      let iv ← holding [v, ov] (eval i X.env)
      standAt pos
      holding [v, ov, iv] (setItem ov iv v)
      release [v, ov, iv] []) := by intro _; rfl) : PG X (.Subscript o i pos) (gSub to ti t) := by
  intro pins s σ H v u Q I r h
  rw [ha]
  refine wpAny_bind (wpAny_holding (thn (ho pins s σ H _ I h) fun ov s1 ⟨x, H1, I1, r1, q1⟩ => ?_))
  refine wpAny_bind (wpAny_holding (thn (hi pins s1 σ H1 _ I1 q1) fun iv s2 ⟨y, H2, I2, r2, q2⟩ => ?_))
  refine wpAny_bind (wpAny_standAt (wpAny_bind (wpAny_holding (thn (hs pins s2 σ H2 x y v ov iv u _ I2 r1 r2 r q2) fun _ s3 ⟨H3, I3, q3⟩ => ?_))))
  exact wpAny_release ⟨σ, H3, I3, q3⟩
def tAsg (te : TE) (g : TG) : TS := fun D σ H => te σ H fun x H1 => g x σ H1 D.nx
theorem ps_asg {tg e : Expr} {te : TE} {g : TG} (he : PE X e te) (hg : PG X tg g) (hs : swapsWithSole [tg] e pos.line X.env = pure false := by rfl) (hw : swappedStores [tg] e X.env = pure none := by rfl)
    (h1 : (assignEach [tg] X.env).map (·.2) = [assign tg X.env] := by rfl) : PS X (.Assign [tg] e pos) (tAsg te g) := by
  intro pins s σ H D I h
  refine wpAny_Assign_stores (thn (he pins s σ H _ I h) fun v s1 ⟨x, H1, I1, r1, q1⟩ => ?_) hs hw
  rw [h1]
  exact thn (hg pins s1 σ H1 x v _ I1 r1 q1) fun _ s2 q => q
theorem ps_set {i : Nat} {x : Str} {e : Expr} {te : TE} {pos' : Pos} (hN : X.N.Nodup) (hi : X.N[i]? = some x) (hx : Loc X.env.scope x) (he : PE X e te) (hs : swapsWith e (some (.Name x pos')) pos.line X.env = pure false := by rfl) (hf : X.fn x = true ∨ X.env.scope.names.lookup x = some .local := by first | exact .inl rfl | exact .inr rfl | assumption) :
    PS X (.Assign [.Name x pos'] e pos) (tAsg te (gName i)) := by
  intro pins s σ H D I h
  refine wpAny_Assign_Name (thn (he pins s σ H _ I h) fun v s1 ⟨y, H1, I1, r1, q1⟩ => ?_) hs
  exact store_ok I1 hN hi hx r1 (fun s2 I2 => ⟨_, H1, I2, q1⟩) hf
end


structure It where
  go : Nat → Hp → Prop
  yld : Nat → Hp → V → Hp → Prop
  stop : Nat → Hp → Prop
def FpOk (X : Cx) (pins : List (Addr × Obj)) (H : Hp) (b : Addr) : Prop :=
  H b = none ∧ b ≠ X.env.locals ∧ b ∉ X.fs ∧ (b ∈ X.ex ∨ X.s_0.heap.objs.size ≤ b) ∧ (∀ x c, X.env.cells.lookup x = some c → c ≠ b) ∧ ∀ p ∈ X.pn ++ pins, p.1 ≠ b
theorem Inv.fpOk {X : Cx} {pins : List (Addr × Obj)} {σ : St} {H H' : Hp} {s : Shared} {b : Addr} (I : Inv X pins σ H s) (hb : s.heap.objs.size ≤ b) (hn : H' b = none) : FpOk X pins H' b := by
  refine ⟨hn, Nat.ne_of_gt (Nat.lt_of_lt_of_le I.lt hb), I.nofs hb, .inr (Nat.le_trans I.sz hb), fun x c e z => ?_, fun p hp z => ?_⟩
  · obtain ⟨v, q⟩ := I.cell x c e
    exact absurd (Nat.lt_of_lt_of_le q.lt (by rw [z]; exact hb)) (Nat.lt_irrefl _)
  · exact absurd (Nat.lt_of_lt_of_le (Heap.lt_size (I.pin p hp).1) (by rw [z]; exact hb)) (Nat.lt_irrefl _)
structure Turn (P : Program) (w : World) (K : PySem.W.Frag) (tg : Expr) (J : It) (fp : List Addr) (it : Addr) (tn : Nat → Heap → Prop) : Prop where
  mem : it ∈ fp
  obj : ∀ i h, tn i h → ∀ b ∈ fp, ∃ o, h.get? b = some o ∧ ∀ v, o.data ≠ .cell v
  keep : ∀ i h h', tn i h → (∀ b ∈ fp, ∀ o, h.get? b = some o → h'.get? b = some o) → tn i h'
  item : ∀ (X : Cx), X.prog = P → X.w = w → X.K = K → X.calm = true → ∀ (i : Nat) (pins : List (Addr × Obj)) (s : Shared) (σ : St) (H : Hp) (E : Value → Shared → Prop), Inv X pins σ H s → (∀ b ∈ fp, FpOk X pins H b) → tn i s.heap → J.go i H →
    wpAny (model P w) X.A (pyNext (.ref it)) (fun r s1 => ∃ u, r = some u ∧
      wpAny (model P w) X.A (letOwnedTupleGo tg (.ref it) u) (fun _ s2 => ∃ x H', Inv X pins σ H' s2 ∧ RelV x u ∧ J.yld i H x H' ∧ tn (i + 1) s2.heap ∧ ∀ b ∈ fp, H' b = none) E s1) E s
  done : ∀ (X : Cx), X.prog = P → X.w = w → X.K = K → X.calm = true → ∀ (i : Nat) (pins : List (Addr × Obj)) (s : Shared) (σ : St) (H : Hp) (E : Value → Shared → Prop), Inv X pins σ H s → (∀ b ∈ fp, FpOk X pins H b) → tn i s.heap → J.stop i H →
    wpAny (model P w) X.A (pyNext (.ref it)) (fun r s1 => r = none ∧ Inv X pins σ H s1) E s
  self : ∀ (A : Around) (i : Nat) (s : Shared) (Q : Value → Shared → Prop) (E : Value → Shared → Prop), tn i s.heap → Q (.ref it) s → wpAny (model P w) A (pyIter (.ref it)) Q E s
abbrev TI := St → Hp → (It → Hp → Prop) → Prop
def PIE (X : Cx) (pins : List (Addr × Obj)) (σ : St) (tg : Expr) (R : It → Hp → Prop) (itv : Value) (s2 : Shared) : Prop :=
  ∃ (it : Addr) (fp : List Addr) (tn : Nat → Heap → Prop) (J : It) (H' : Hp), itv = .ref it ∧ Inv X pins σ H' s2 ∧ Turn X.prog X.w X.K tg J fp it tn ∧ tn 0 s2.heap ∧ (∀ b ∈ fp, FpOk X pins H' b) ∧ R J H'
def PI (X : Cx) (tg iter : Expr) (wi : TI) : Prop :=
  ∀ (pins : List (Addr × Obj)) (s : Shared) (σ : St) (H : Hp) (R : It → Hp → Prop), Inv X pins σ H s → wi σ H R →
    wpAny (model X.prog X.w) X.A (eval iter X.env) (fun v s1 => wpAny (model X.prog X.w) X.A (pyIter v) (PIE X pins σ tg R) X.xe s1) X.xe s

theorem go_of {M : Model} {A : Around} {E : Value → Shared → Prop} {s : Shared} {tg : Expr} {it : Addr} {u : Value} {o : Obj} {n : String} {vs : Array Value} {Q : Unit → Shared → Prop} (ho : s.heap.get? it = some o) (hc : o.cls = .type n) (hd : o.data = .fields vs)
    (hn : ["enumerate", "zip", "dict_itemiterator", "dict_reverseitemiterator", "odict_iterator", "itertools.zip_longest", "itertools.pairwise"].contains n = false) (hQ : Q () s) : wpAny M A (letOwnedTupleGo tg (.ref it) u) Q E s := by
  unfold letOwnedTupleGo
  cases tg <;> first
    | exact wpAny_pure hQ
    | (cases u <;> first
        | exact wpAny_pure hQ
        | (refine wpAny_bind (wpAny_load ho ?_)
           rw [hc, hd]
           show wpAny M A (if (["enumerate", "zip", "dict_itemiterator", "dict_reverseitemiterator", "odict_iterator", "itertools.zip_longest", "itertools.pairwise"].contains n && vs[0]? == some (rawInt _)) = true then _ else _) Q E s
           rw [if_neg (by intro h; rw [hn, Bool.false_and] at h; cases h)]
           exact wpAny_pure hQ))

def Itl (K : PySem.W.Frag) (a : Addr) : It :=
  ⟨fun i H => ∃ xs x, SqL K H a xs ∧ xs[i]? = some x, fun i H x H' => H' = H ∧ ∀ xs, SqL K H a xs → xs[i]? = some x, fun i H => ∃ xs, SqL K H a xs ∧ xs.length ≤ i⟩
def Itt (K : PySem.W.Frag) (a : Addr) : It :=
  ⟨fun i H => ∃ xs x, SqT K H a xs ∧ xs[i]? = some x, fun i H x H' => H' = H ∧ ∀ xs, SqT K H a xs → xs[i]? = some x, fun i H => ∃ xs, SqT K H a xs ∧ xs.length ≤ i⟩
def Itr (lo : Int) (n : Nat) : It := ⟨fun i _ => i < n, fun i H x H' => H' = H ∧ x = .int (lo + i), fun i _ => n ≤ i⟩
theorem turn_list {P : Program} {w : World} {K : PySem.W.Frag} {tg : Expr} (a it : Addr) : Turn P w K tg (Itl K a) [it] it (fun i h => h.IsListIter it a i) where
  mem := by simp
  obj := fun i h st b hb => by
    have e : b = it := by simpa using hb
    subst e
    obtain ⟨o, e, c, d⟩ := st
    exact ⟨o, e, fun v z => by rw [d] at z; cases z⟩
  keep := fun i h h' st k => st.at fun o e => k it (by simp) o e
  item := by
    intro X hP hw hK hc i pins s σ H E I hf st hg
    subst hP hw hK
    obtain ⟨xs, x, hq, hx⟩ := hg
    obtain ⟨its, rv, p, hz⟩ := I.list hq
    obtain ⟨u, hu, ru⟩ := rv.get hx
    obtain ⟨f0, f1, f2, f3, f4, f5⟩ := hf it (by simp)
    refine wpAny_pyNext_list_item st p.isList (x := u) (by simpa using hu) fun h' st' sb => ?_
    have I1 : Inv X pins σ H { s with heap := h' } := I.turned (t' := s.toks) (fun b o hb e => (sb.2 b hb).trans e) f0 f1 f3 f4 f5
    obtain ⟨o, e, c, d⟩ := id st'
    exact ⟨u, rfl, go_of (s := { s with heap := h' }) e c d (by decide) ⟨x, H, I1, ru, ⟨rfl, fun ys hy => by rw [I.list_inj hy hq]; exact hx⟩, st', fun b hb => (hf b hb).1⟩⟩
  done := by
    intro X hP hw hK hc i pins s σ H E I hf st hg
    subst hP hw hK
    obtain ⟨xs, hq, hx⟩ := hg
    obtain ⟨its, rv, p, hz⟩ := I.list hq
    obtain ⟨f0, f1, f2, f3, f4, f5⟩ := hf it (by simp)
    have hl := rv.length
    exact wpAny_pyNext_list_end (I.ok.hd hc) st p.isList (by simp; omega) fun h' eb => ⟨rfl, I.turned (t' := s.toks) (fun b o hb e => eb b o hb e) f0 f1 f3 f4 f5⟩
  self := fun _ _ _ _ _ st h => wpAny_pyIter_listiter st h
theorem turn_tuple {P : Program} {w : World} {K : PySem.W.Frag} {tg : Expr} (a it : Addr) : Turn P w K tg (Itt K a) [it] it (fun i h => h.IsTupleIter it a i) where
  mem := by simp
  obj := fun i h st b hb => by
    have e : b = it := by simpa using hb
    subst e
    obtain ⟨o, e, c, d⟩ := st
    exact ⟨o, e, fun v z => by rw [d] at z; cases z⟩
  keep := fun i h h' st k => st.at fun o e => k it (by simp) o e
  item := by
    intro X hP hw hK hc i pins s σ H E I hf st hg
    subst hP hw hK
    obtain ⟨xs, x, hq, hx⟩ := hg
    obtain ⟨its, rv, p, hz⟩ := I.tuple hq
    obtain ⟨u, hu, ru⟩ := rv.get hx
    obtain ⟨f0, f1, f2, f3, f4, f5⟩ := hf it (by simp)
    refine wpAny_pyNext_tuple_item st (show s.heap.IsTuple a its.toArray from p) (x := u) (by simpa using hu) fun h' st' sb => ?_
    have I1 : Inv X pins σ H { s with heap := h' } := I.turned (t' := s.toks) (fun b o hb e => (sb.2 b hb).trans e) f0 f1 f3 f4 f5
    obtain ⟨o, e, c, d⟩ := id st'
    exact ⟨u, rfl, go_of (s := { s with heap := h' }) e c d (by decide) ⟨x, H, I1, ru, ⟨rfl, fun ys hy => by rw [I.tuple_inj hy hq]; exact hx⟩, st', fun b hb => (hf b hb).1⟩⟩
  done := by
    intro X hP hw hK hc i pins s σ H E I hf st hg
    subst hP hw hK
    obtain ⟨xs, hq, hx⟩ := hg
    obtain ⟨its, rv, p, hz⟩ := I.tuple hq
    obtain ⟨f0, f1, f2, f3, f4, f5⟩ := hf it (by simp)
    have hl := rv.length
    exact wpAny_pyNext_tuple_end (I.ok.hd hc) st (show s.heap.IsTuple a its.toArray from p) (by simp; omega) fun h' eb => ⟨rfl, I.turned (t' := s.toks) (fun b o hb e => eb b o hb e) f0 f1 f3 f4 f5⟩
  self := fun _ _ _ _ _ st h => wpAny_pyIter_tupleiter st h
theorem turn_range {P : Program} {w : World} {K : PySem.W.Frag} {tg : Expr} (it : Addr) (lo : Int) (n : Nat) : Turn P w K tg (Itr lo n) [it] it (fun i h => IsRangeIter h it (lo + (i : Nat) * 1) ((n : Int) - (i : Nat)) 1) where
  mem := by simp
  obj := fun i h st b hb => by
    have e : b = it := by simpa using hb
    subst e
    exact ⟨_, st, fun v z => by
      have z' : Data.fields _ = Data.cell v := z
      cases z'⟩
  keep := fun i h h' st k => k it (by simp) _ st
  item := by
    intro X hP hw hK hc i pins s σ H E I hf st hg
    subst hP hw hK
    obtain ⟨f0, f1, f2, f3, f4, f5⟩ := hf it (by simp)
    have W := Walks.range (prog := X.prog) (w := X.w) (I.ok.hd hc) it lo 1 n
    refine W.item i s _ _ hg st fun v h' tk hv st' kk => ?_
    obtain ⟨t, rfl⟩ := hv
    have I1 : Inv X pins σ H { s with heap := h', toks := tk } := I.turned (fun b o hb e => kk b o (by simpa using hb) e) f0 f1 f3 f4 f5
    refine ⟨_, rfl, go_of (s := { s with heap := h', toks := tk }) (n := "range_iterator") st' rfl rfl (by decide) ⟨.int (lo + i), H, I1, ⟨t, ?_⟩, ⟨rfl, rfl⟩, st', fun b hb => (hf b hb).1⟩⟩
    rw [Int.mul_one]
  done := by
    intro X hP hw hK hc i pins s σ H E I hf st hg
    subst hP hw hK
    obtain ⟨f0, f1, f2, f3, f4, f5⟩ := hf it (by simp)
    exact wpAny_pyNext_range_end (I.ok.hd hc) st (by have : n ≤ i := hg; omega) fun h' eb => ⟨rfl, I.turned (t' := s.toks) (fun b o hb e => eb b o hb e) f0 f1 f3 f4 f5⟩
  self := fun _ _ _ _ _ st h => wpAny_pyIter_rangeiter st h
end L2

namespace L2
open PySem PySem.Spec PyProof.Rows
section
variable {X : Cx} {tg : Expr}
theorem range_it {pins : List (Addr × Obj)} {σ : St} {H : Hp} {s : Shared} {R : It → Hp → Prop} {E : Value → Shared → Prop} {lo hi : Int} {t u v : Tok} {tk : Nat} (I : Inv X pins σ H s) (h1 : -(2 ^ 62) ≤ lo) (h2 : lo < 2 ^ 62) (h3 : -(2 ^ 62) ≤ hi) (h4 : hi < 2 ^ 62)
    (q : R (Itr lo (hi - lo).toNat) H) : wpAny (model X.prog X.w) X.A (pyIter (.ref s.heap.objs.size)) (PIE X pins σ tg R) E { s with heap := s.heap.push { cls := .type "range", data := .fields #[.int lo t, .int hi u, .int 1 v] }, toks := tk } := by
  refine wpAny_pyIter_range (IsRange.new ..) (small_one h1 h2 h3 h4) ?_
  have I1 : Inv X pins σ H { s with heap := s.heap.push { cls := .type "range", data := .fields #[.int lo t, .int hi u, .int 1 v] }, toks := tk } := I.kept fun b o e => Heap.get?_push_of_some _ e
  refine ⟨(s.heap.push { cls := .type "range", data := .fields #[.int lo t, .int hi u, .int 1 v] }).objs.size, [(s.heap.push { cls := .type "range", data := .fields #[.int lo t, .int hi u, .int 1 v] }).objs.size], _, _, H, rfl,
    I1.kept (t' := tk) fun b o e => Heap.get?_push_of_some _ e, turn_range _ lo (hi - lo).toNat, ?_, fun b hb => ?_, q⟩
  · have e1 : lo + ((0 : Nat) : Int) * 1 = lo := by simp
    have e2 : (((hi - lo).toNat : Nat) : Int) - ((0 : Nat) : Int) = Builtin.Range.rangeSize lo hi 1 := by rw [rangeSize_one]; split <;> omega
    show IsRangeIter _ _ (lo + ((0 : Nat) : Int) * 1) ((((hi - lo).toNat : Nat) : Int) - ((0 : Nat) : Int)) 1
    rw [e1, e2]
    exact Heap.get?_push_size _ rfl
  · have e : b = (s.heap.push { cls := .type "range", data := .fields #[.int lo t, .int hi u, .int 1 v] }).objs.size := by simpa using hb
    subst e
    exact I1.fpOk (Nat.le_refl _) (I1.hok.fresh (Nat.le_refl _))
def iRng1 (ta : TA) : TI := fun σ H R => ta σ H fun vs H1 => ∃ j : Int, vs = [.int j] ∧ -(2 ^ 62) ≤ j ∧ j < 2 ^ 62 ∧ R (Itr 0 j.toNat) H1
theorem pi_range1 {a : Expr} {ta : TA} {p pos : Pos} (hg : Gl X "range") (hm : X.mg "range" = none) (ha : PA X [a] ta) (hs : starEach [a] X.env = [(false, eval a X.env)] := by rfl) : PI X tg (.Call (.Name "range" p) [a] [] pos) (iRng1 ta) := by
  intro pins s σ H R I h
  refine Call_ (ld_blt I hg hm boot_range (PyProof.Rows.callWith_type1 (thn (ha pos pins s σ H _ I h) fun us s1 ⟨vs, H1, I1, r1, q1⟩ => ?_) hs rfl))
  obtain ⟨j, e, q1, q2, q⟩ := q1
  subst e
  cases r1 with
  | cons r rr =>
    cases rr
    obtain ⟨t, rfl⟩ := r
    exact call_range_1 (range_it I1 (by omega) (by omega) q1 q2 (by simpa using q))
def tFor (wi : TI) (g : TG) (tb : TS) : TS := fun D σ H => wi σ H fun J H1 => ∃ W : Nat → Nat → St → Hp → Prop, (∃ m, W 0 m σ H1) ∧ ∀ i m σ H, W i m σ H →
  (J.stop i H ∧ D.nx σ H) ∨ (J.go i H ∧ ∃ N : St → Hp → Prop, (∀ σ' H', N σ' H' → ∃ m', m' < m ∧ W (i + 1) m' σ' H') ∧ ∀ x H', J.yld i H x H' → g x σ H' fun σ2 H2 => tb { D with nx := N, ct := N, bk := D.nx } σ2 H2)
def pinsAt (fp : List Addr) (h : Heap) : List (Addr × Obj) := fp.filterMap fun b => (h.get? b).map fun o => (b, o)
theorem mem_pinsAt {fp : List Addr} {h : Heap} {b : Addr} {o : Obj} (hb : b ∈ fp) (e : h.get? b = some o) : (b, o) ∈ pinsAt fp h := List.mem_filterMap.mpr ⟨b, hb, by rw [e]; rfl⟩
theorem of_pinsAt {fp : List Addr} {h : Heap} {p : Addr × Obj} (hp : p ∈ pinsAt fp h) : p.1 ∈ fp ∧ h.get? p.1 = some p.2 := by
  obtain ⟨b, hb, e⟩ := List.mem_filterMap.mp hp
  cases q : h.get? b with
  | none => rw [q] at e; cases e
  | some o =>
    rw [q] at e
    have e' : (b, o) = p := Option.some.inj e
    subst e'
    exact ⟨hb, q⟩
theorem Inv.pinned {pins : List (Addr × Obj)} {σ : St} {H : Hp} {s : Shared} {fp : List Addr} (I : Inv X pins σ H s) (hf : ∀ b ∈ fp, FpOk X pins H b) (ho : ∀ b ∈ fp, ∃ o, s.heap.get? b = some o ∧ ∀ v, o.data ≠ .cell v) : Inv X (pins ++ pinsAt fp s.heap) σ H s :=
  I.pins_of fun p hp => (List.mem_append.mp hp).elim (fun z => I.pin p (List.mem_append_right _ z)) fun z => by
    obtain ⟨hb, e⟩ := of_pinsAt z
    obtain ⟨f0, f1, f2, _⟩ := hf p.1 hb
    obtain ⟨o, e', d⟩ := ho p.1 hb
    rw [e] at e'; cases e'
    exact ⟨e, f0, f1, f2, d⟩
theorem Inv.unpinned {pins pl : List (Addr × Obj)} {σ : St} {H : Hp} {s : Shared} (I : Inv X (pins ++ pl) σ H s) : Inv X pins σ H s := I.pins_of fun p hp => I.pin p (List.mem_append_right _ (List.mem_append_left _ hp))
theorem ps_for {iter : Expr} {body : List Stmt} {wi : TI} {g : TG} {tb : TS} {pos : Pos} (hp : PassesOwn (model X.prog X.w) X.A X.env X.xe) (hc : X.calm = true) (hi : PI X tg iter wi) (hg : PG X tg g) (hb : PSs X body tb)
    (hs : ∀ x, foldedSetIterable iter X.env x = pure x := by intro _; rfl) : PS X (.For tg iter body [] pos) (tFor wi g tb) := by
  intro pins s σ H D I h
  refine wpAny_For (thn (hi pins s σ H _ I h) fun v s1 h1 => thn h1 fun itv s2 h2 => ?_) hs
  obtain ⟨it, fp, tn, J, H2, e, I2, T, st2, f2, W, ⟨m0, w0⟩, turn⟩ := h2
  subst e
  -- what stays true of the iterator's objects through the loop
  have stat : ∀ {H' : Hp}, (∀ b ∈ fp, H' b = none) → ∀ b ∈ fp, FpOk X pins H' b := fun hn b hb => ⟨hn b hb, (f2 b hb).2⟩
  refine codeAny_forLoop_any (fun n s' => ∃ i σ' H', Inv X pins σ' H' s' ∧ tn i s'.heap ∧ (∀ b ∈ fp, H' b = none) ∧ W i n σ' H') ?_ m0 ⟨0, σ, H2, I2, st2, fun b hb => (f2 b hb).1, w0⟩
  rintro n s3 ⟨i, σ3, H3, I3, st3, fr3, w3⟩
  rcases turn i n σ3 H3 w3 with ⟨stop, qn⟩ | ⟨go, N, hN, step⟩
  · refine wpAny_passesOwn hp (thn (T.done X rfl rfl rfl hc i pins s3 σ3 H3 X.xe I3 (stat fr3) st3 stop) fun r s4 ⟨hr, I4⟩ => ?_)
    subst hr
    exact wpAny_execs_nil ⟨σ3, H3, I4, qn⟩
  · refine wpAny_passesOwn hp (thn (T.item X rfl rfl rfl hc i pins s3 σ3 H3 X.xe I3 (stat fr3) st3 go) fun r s4 ⟨u, hr, h4⟩ => ?_)
    subst hr
    refine wpAny_passesOwn hp (thn h4 fun _ s5 ⟨x, H5, I5, r5, y5, st5, fr5⟩ => ?_)
    have I5' := I5.pinned (stat fr5) (T.obj _ _ st5)
    refine wpAny_passesOwn hp (thn (hg _ s5 σ3 H5 x u _ I5' r5 (step x H5 y5)) fun _ s6 ⟨σ6, H6, I6, q6⟩ => ?_)
    refine wpAny_passesOwn hp (thn (hb _ s6 σ6 H6 _ I6 q6) fun f s7 q7 => ?_)
    have again : ∀ {σ7 : St} {H7 : Hp}, Inv X (pins ++ pinsAt fp s5.heap) σ7 H7 s7 → N σ7 H7 → ∃ m, m < n ∧ ∃ i σ' H', Inv X pins σ' H' s7 ∧ tn i s7.heap ∧ (∀ b ∈ fp, H' b = none) ∧ W i m σ' H' := fun {σ7 H7} I7 n7 => by
      obtain ⟨m', hm, w7⟩ := hN σ7 H7 n7
      refine ⟨m', hm, i + 1, σ7, H7, I7.unpinned, T.keep _ _ _ st5 fun b hb o e => (I7.pin (b, o) (List.mem_append_right _ (List.mem_append_right _ (mem_pinsAt hb e)))).1, fun b hb => ?_, w7⟩
      obtain ⟨o, e, d⟩ := T.obj _ _ st5 b hb
      exact (I7.pin (b, o) (List.mem_append_right _ (List.mem_append_right _ (mem_pinsAt hb e)))).2.1
    cases f with
    | next => obtain ⟨σ7, H7, I7, n7⟩ := q7; exact again I7 n7
    | cont => obtain ⟨σ7, H7, I7, n7⟩ := q7; exact again I7 n7
    | brk => obtain ⟨σ7, H7, I7, q7⟩ := q7; exact ⟨σ7, H7, I7.unpinned, q7⟩
    | ret v => obtain ⟨x7, σ7, H7, I7, r7, q7⟩ := q7; exact ⟨x7, σ7, H7, I7.unpinned, r7, q7⟩
end

theorem for_list {K : PySem.W.Frag} {a : Addr} {xs : List V} {g : TG} {tb : TS} {D : Ends} {σ : St} {H : Hp} (Pv : Nat → St → Hp → Prop) (h0 : Pv 0 σ H) (hl : ∀ i σ H, i ≤ xs.length → Pv i σ H → SqL K H a xs)
    (hs : ∀ i x σ H, xs[i]? = some x → Pv i σ H → g x σ H fun σ2 H2 => tb { D with nx := Pv (i + 1), ct := Pv (i + 1), bk := D.nx } σ2 H2) (hd : ∀ σ H, Pv xs.length σ H → D.nx σ H) :
    ∃ W : Nat → Nat → St → Hp → Prop, (∃ m, W 0 m σ H) ∧ ∀ i m σ H, W i m σ H →
      ((Itl K a).stop i H ∧ D.nx σ H) ∨ ((Itl K a).go i H ∧ ∃ N : St → Hp → Prop, (∀ σ' H', N σ' H' → ∃ m', m' < m ∧ W (i + 1) m' σ' H') ∧ ∀ x H', (Itl K a).yld i H x H' → g x σ H' fun σ2 H2 => tb { D with nx := N, ct := N, bk := D.nx } σ2 H2) := by
  refine ⟨fun i m σ H => m = xs.length - i ∧ i ≤ xs.length ∧ Pv i σ H, ⟨xs.length, by simp, Nat.zero_le _, h0⟩, ?_⟩
  rintro i m σ H ⟨rfl, hi, p⟩
  have q := hl i σ H hi p
  by_cases hlt : i < xs.length
  · refine .inr ⟨⟨xs, xs[i], q, by simp [hlt]⟩, Pv (i + 1), fun σ' H' p' => ⟨xs.length - (i + 1), by omega, rfl, hlt, p'⟩, fun x H' y => ?_⟩
    obtain ⟨e, y⟩ := y
    subst e
    exact hs i x σ _ (y xs q) p
  · have e : i = xs.length := by omega
    subst e
    exact .inl ⟨⟨xs, q, Nat.le_refl _⟩, hd σ H p⟩
end L2

namespace L2
open PySem PySem.Spec PyProof.Rows

abbrev R2 := V → V → Hp → VK → Prop
def OpR (X : Cx) (f : Value → Value → Sem Value) (r : R2) : Prop :=
  ∀ (pins : List (Addr × Obj)) (s : Shared) (σ : St) (H : Hp) (x y : V) (v u : Value) (Q : VK), Inv X pins σ H s → RelV x v → RelV y u → r x y H Q →
    wpAny (model X.prog X.w) X.A (f v u) (EP X pins σ Q) X.xe s
def UnR (X : Cx) (f : Value → Sem Value) (r : V → Hp → VK → Prop) : Prop :=
  ∀ (pins : List (Addr × Obj)) (s : Shared) (σ : St) (H : Hp) (x : V) (v : Value) (Q : VK), Inv X pins σ H s → RelV x v → r x H Q →
    wpAny (model X.prog X.w) X.A (f v) (EP X pins σ Q) X.xe s
def CallR (X : Cx) (f : Value) (r : List V → Hp → VK → Prop) : Prop :=
  ∀ (pins : List (Addr × Obj)) (s : Shared) (σ : St) (H : Hp) (xs : List V) (us : List Value) (Q : VK), Inv X pins σ H s → Vals xs us → r xs H Q →
    wpAny (model X.prog X.w) X.A (call f us) (EP X pins σ Q) X.xe s
def tOp (r : R2) (ta tb : TE) : TE := fun σ H Q => ta σ H fun x H1 => tb σ H1 fun y H2 => r x y H2 Q
def tUn (r : V → Hp → VK → Prop) (ta : TE) : TE := fun σ H Q => ta σ H fun x H1 => r x H1 Q
def rI (C : Int → Int → Prop) (g : Int → Int → V) : R2 := fun x y H Q => ∃ i j, x = .int i ∧ y = .int j ∧ C i j ∧ Q (g i j) H
def rI0 (g : Int → Int → V) : R2 := fun x y H Q => ∃ i j, x = .int i ∧ y = .int j ∧ Q (g i j) H
def rU (g : Int → V) : V → Hp → VK → Prop := fun x H Q => ∃ i, x = .int i ∧ Q (g i) H

section
variable {X : Cx} {a b c : Expr} {ta tb tc : TE} {pos : Pos}

theorem binT (ha : PE X a ta) (hb : PE X b tb) {pins : List (Addr × Obj)} {s : Shared} {σ : St} {H : Hp} {R : V → V → Hp → Prop} (I : Inv X pins σ H s)
    (h : ta σ H fun x H1 => tb σ H1 fun y H2 => R x y H2) {Q : Value → Shared → Prop} {f : Value → Value → Sem Value}
    (hf : ∀ v u s2 x y H2, Inv X pins σ H2 s2 → RelV x v → RelV y u → R x y H2 → wpAny (model X.prog X.w) X.A (f v u) Q X.xe s2) :
    wpAny (model X.prog X.w) X.A (eval a X.env) (fun v s₁ => wpAny (model X.prog X.w) X.A (eval b X.env) (fun u s₂ => wpAny (model X.prog X.w) X.A (f v u) Q X.xe s₂) X.xe s₁) X.xe s := by
  refine thn (ha pins s σ H _ I h) fun v s1 ⟨x, H1, I1, r1, q1⟩ => ?_
  refine thn (hb pins s1 σ H1 _ I1 q1) fun u s2 ⟨y, H2, I2, r2, q2⟩ => ?_
  exact hf v u s2 x y H2 I2 r1 r2 q2

theorem pe_op {op : Operator} {r : R2} (ho : OpR X (binaryOp op) r) (ha : PE X a ta) (hb : PE X b tb) : PE X (.BinOp a op b pos) (tOp r ta tb) := by
  intro pins s σ H Q I h
  exact wpAny_BinOp (binT ha hb I h fun v u s2 x y H2 I2 rx ry q => ho pins s2 σ H2 x y v u Q I2 rx ry q)
theorem pe_un {op : UnaryOp} {r : V → Hp → VK → Prop} (ho : UnR X (unaryOp op) r) (ha : PE X a ta) : PE X (.UnaryOp op a pos) (tUn r ta) := by
  intro pins s σ H Q I h
  exact UnaryOp_ (thn (ha pins s σ H _ I h) fun v s1 ⟨x, H1, I1, r1, q1⟩ => ho pins s1 σ H1 x v Q I1 r1 q1)
theorem opI {f : Value → Value → Sem Value} {C : Int → Int → Prop} {g : Int → Int → Int}
    (rule : ∀ (i j : Int) (t u : Tok) (s : Shared) (Q : Value → Shared → Prop) (E : Value → Shared → Prop), C i j → Q (.int (g i j) s.toks) { s with toks := s.toks + 1 } → wpAny (model X.prog X.w) X.A (f (.int i t) (.int j u)) Q E s) :
    OpR X f (rI C fun i j => .int (g i j)) := by
  intro pins s σ H x y v u Q I rx ry h
  obtain ⟨i, j, rfl, rfl, hc, q⟩ := h
  obtain ⟨t, rfl⟩ := rx
  obtain ⟨t', rfl⟩ := ry
  exact rule i j t t' s _ _ hc ⟨.int (g i j), H, I.tok _, ⟨_, rfl⟩, q⟩
theorem opI0 {f : Value → Value → Sem Value} {g : Int → Int → Int}
    (rule : ∀ (i j : Int) (t u : Tok) (s : Shared) (Q : Value → Shared → Prop) (E : Value → Shared → Prop), Q (.int (g i j) s.toks) { s with toks := s.toks + 1 } → wpAny (model X.prog X.w) X.A (f (.int i t) (.int j u)) Q E s) :
    OpR X f (rI0 fun i j => .int (g i j)) := by
  intro pins s σ H x y v u Q I rx ry h
  obtain ⟨i, j, rfl, rfl, q⟩ := h
  obtain ⟨t, rfl⟩ := rx
  obtain ⟨t', rfl⟩ := ry
  exact rule i j t t' s _ _ ⟨.int (g i j), H, I.tok _, ⟨_, rfl⟩, q⟩
theorem opB0 {f : Value → Value → Sem Value} {g : Int → Int → Bool}
    (rule : ∀ (i j : Int) (t u : Tok) (s : Shared) (Q : Value → Shared → Prop) (E : Value → Shared → Prop), Q (.bool (g i j)) s → wpAny (model X.prog X.w) X.A (f (.int i t) (.int j u)) Q E s) :
    OpR X f (rI0 fun i j => .bl (g i j)) := by
  intro pins s σ H x y v u Q I rx ry h
  obtain ⟨i, j, rfl, rfl, q⟩ := h
  obtain ⟨t, rfl⟩ := rx
  obtain ⟨t', rfl⟩ := ry
  exact rule i j t t' s _ _ ⟨.bl (g i j), H, I, rfl, q⟩

def CDiv (i j : Int) : Prop := 0 < j ∧ j < 1073741824
def CPow (i j : Int) : Prop := 0 ≤ j ∧ j ≤ 1000000 ∧ i.natAbs < 2 ^ 64
def CMul (i j : Int) : Prop := (-(2 ^ 64) < i ∧ i < 2 ^ 64) ∨ (-(2 ^ 64) < j ∧ j < 2 ^ 64)
theorem CMul.ok {i j : Int} (h : CMul i j) : IntMulOk i j := by
  rcases h with ⟨h1, h2⟩ | ⟨h1, h2⟩
  · exact .of_left (intBits_le_64 h1 h2)
  · exact .of_right (intBits_le_64 h1 h2)
theorem op_add : OpR X (binaryOp .Add) (rI0 fun i j => .int (i + j)) := opI0 fun _ _ _ _ _ _ _ q => add_int q
theorem op_sub : OpR X (binaryOp .Sub) (rI0 fun i j => .int (i - j)) := opI0 fun _ _ _ _ _ _ _ q => sub_int q
theorem op_mul : OpR X (binaryOp .Mult) (rI CMul fun i j => .int (i * j)) := opI fun _ _ _ _ _ _ _ hc q => mul_int q hc.ok
theorem op_fdiv : OpR X (binaryOp .FloorDiv) (rI CDiv fun i j => .int (i / j)) := opI fun i j _ _ _ _ _ hc q => by
  have h1 : (0 : Int) < j := hc.1
  have h2 : j < 1073741824 := hc.2
  exact floordiv_int (by omega) (by rw [Int.fdiv_eq_ediv_of_nonneg i (by omega)]; exact q) (.inl (PyProof.noPylong_small (by omega)))
theorem op_mod : OpR X (binaryOp .Mod) (rI (fun _ j => 0 < j) fun i j => .int (i % j)) := opI fun i j _ _ _ _ _ hc q => by
  have h1 : (0 : Int) < j := hc
  exact mod_int' (by omega) (by rw [Int.fmod_eq_emod_of_nonneg i (by omega)]; exact q)
theorem op_pow : OpR X (binaryOp .Pow) (rI CPow fun i j => .int (i ^ j.toNat)) := opI fun _ _ _ _ _ _ _ hc q => pow_int_small hc.1 hc.2.1 hc.2.2 q
theorem unI {f : Value → Sem Value} {g : Int → Int}
    (rule : ∀ (i : Int) (t : Tok) (s : Shared) (Q : Value → Shared → Prop) (E : Value → Shared → Prop), Q (.int (g i) s.toks) { s with toks := s.toks + 1 } → wpAny (model X.prog X.w) X.A (f (.int i t)) Q E s) :
    UnR X f (rU fun i => .int (g i)) := by
  intro pins s σ H x v Q I rx h
  obtain ⟨i, rfl, q⟩ := h
  obtain ⟨t, rfl⟩ := rx
  exact rule i t s _ _ ⟨.int (g i), H, I.tok _, ⟨_, rfl⟩, q⟩
theorem un_neg : UnR X (unaryOp .USub) (rU fun i => .int (-i)) := unI fun _ _ _ _ _ q => neg_int q
end

def scal : V → V → Bool
  | .non, .non => true | .non, .int _ => true | .int _, .non => true | .non, .bl _ => true | .bl _, .non => true | .non, .str _ => true | .str _, .non => true
  | .int _, .int _ => true | .bl _, .bl _ => true | .str _, .str _ => true | .byt _, .byt _ => true
  | .int _, .str _ => true | .str _, .int _ => true | .bl _, .str _ => true | .str _, .bl _ => true
  | _, _ => false
def rEq : R2 := fun x y H Q => scal x y = true ∧ Q (.bl (decide (x = y))) H
def rNe : R2 := fun x y H Q => scal x y = true ∧ Q (.bl (!decide (x = y))) H

theorem dec_int {i j : Int} : decide (V.int i = V.int j) = (i == j) := by
  rw [Bool.eq_iff_iff]
  simp
theorem dec_bl {i j : Bool} : decide (V.bl i = V.bl j) = (i == j) := by
  rw [Bool.eq_iff_iff]
  simp
theorem dec_str {i j : Str} : decide (V.str i = V.str j) = (i == j) := by
  rw [Bool.eq_iff_iff]
  simp
theorem dec_byt {i j : Array UInt8} : decide (V.byt i = V.byt j) = (i.toList == j.toList) := by
  rw [Bool.eq_iff_iff]
  cases i
  cases j
  simp

section
variable {X : Cx} {a b c : Expr} {ta tb tc : TE} {pos : Pos}
theorem fin_bl {pins : List (Addr × Obj)} {σ : St} {H : Hp} {s : Shared} {Q : VK} {k k' : Bool} (I : Inv X pins σ H s) (q : Q (.bl k) H) (e : k = k') : EP X pins σ Q (.bool k') s := by
  subst e
  exact ⟨.bl k, H, I, rfl, q⟩
theorem op_eq : OpR X (compareOp .Eq) rEq := by
  intro pins s σ H x y v u Q I rx ry h
  obtain ⟨hs, q⟩ := h
  cases x with
  | non =>
    cases rx
    cases y with
    | non => cases ry; exact PySem.EqNone.eq_none_none (fin_bl I q (by simp))
    | bl j => cases ry; exact PySem.EqNone.eq_none_bool (fin_bl I q (by simp))
    | int j => obtain ⟨t', rfl⟩ := ry; exact PySem.EqNone.eq_none_int (fin_bl I q (by simp))
    | str j => obtain ⟨t', rfl⟩ := ry; exact PySem.EqNone.eq_none_str (fin_bl I q (by simp))
    | _ => exact absurd (show false = true from hs) Bool.false_ne_true
  | bl i =>
    cases rx
    cases y with
    | non => cases ry; exact PySem.EqNone.eq_bool_none (fin_bl I q (by simp))
    | bl j => cases ry; exact eq_bool (fin_bl I q dec_bl)
    | str j => obtain ⟨t', rfl⟩ := ry; exact PySem.EqMixed.eq_bool_str (fin_bl I q (by simp))
    | _ => exact absurd (show false = true from hs) Bool.false_ne_true
  | int i =>
    obtain ⟨t, rfl⟩ := rx
    cases y with
    | non => cases ry; exact PySem.EqNone.eq_int_none (fin_bl I q (by simp))
    | int j => obtain ⟨t', rfl⟩ := ry; exact eq_int (fin_bl I q dec_int)
    | str j => obtain ⟨t', rfl⟩ := ry; exact PySem.EqMixed.eq_int_str (fin_bl I q (by simp))
    | _ => exact absurd (show false = true from hs) Bool.false_ne_true
  | str i =>
    obtain ⟨t, rfl⟩ := rx
    cases y with
    | non => cases ry; exact PySem.EqNone.eq_str_none (fin_bl I q (by simp))
    | bl j => cases ry; exact PySem.EqMixed.eq_str_bool (fin_bl I q (by simp))
    | int j => obtain ⟨t', rfl⟩ := ry; exact PySem.EqMixed.eq_str_int (fin_bl I q (by simp))
    | str j => obtain ⟨t', rfl⟩ := ry; exact eq_str (fin_bl I q dec_str)
    | _ => exact absurd (show false = true from hs) Bool.false_ne_true
  | byt i =>
    obtain ⟨t, rfl⟩ := rx
    cases y with
    | byt j => obtain ⟨t', rfl⟩ := ry; exact PySem.W.eq_bytes (fin_bl I q dec_byt)
    | _ => exact absurd (show false = true from hs) Bool.false_ne_true
  | _ => cases y <;> exact absurd (show false = true from hs) Bool.false_ne_true
theorem op_ne : OpR X (compareOp .NotEq) rNe := by
  intro pins s σ H x y v u Q I rx ry h
  obtain ⟨hs, q⟩ := h
  cases x with
  | non =>
    cases rx
    cases y with
    | non => cases ry; exact PySem.EqNone.ne_none_none (fin_bl I q (by simp))
    | bl j => cases ry; exact PySem.EqNone.ne_none_bool (fin_bl I q (by simp))
    | int j => obtain ⟨t', rfl⟩ := ry; exact PySem.EqNone.ne_none_int (fin_bl I q (by simp))
    | str j => obtain ⟨t', rfl⟩ := ry; exact PySem.EqNone.ne_none_str (fin_bl I q (by simp))
    | _ => exact absurd (show false = true from hs) Bool.false_ne_true
  | bl i =>
    cases rx
    cases y with
    | non => cases ry; exact PySem.EqNone.ne_bool_none (fin_bl I q (by simp))
    | bl j => cases ry; exact ne_bool (fin_bl I q (congrArg not dec_bl))
    | str j => obtain ⟨t', rfl⟩ := ry; exact PySem.EqMixed.ne_bool_str (fin_bl I q (by simp))
    | _ => exact absurd (show false = true from hs) Bool.false_ne_true
  | int i =>
    obtain ⟨t, rfl⟩ := rx
    cases y with
    | non => cases ry; exact PySem.EqNone.ne_int_none (fin_bl I q (by simp))
    | int j => obtain ⟨t', rfl⟩ := ry; exact ne_int (fin_bl I q (congrArg not dec_int))
    | str j => obtain ⟨t', rfl⟩ := ry; exact PySem.EqMixed.ne_int_str (fin_bl I q (by simp))
    | _ => exact absurd (show false = true from hs) Bool.false_ne_true
  | str i =>
    obtain ⟨t, rfl⟩ := rx
    cases y with
    | non => cases ry; exact PySem.EqNone.ne_str_none (fin_bl I q (by simp))
    | bl j => cases ry; exact PySem.EqMixed.ne_str_bool (fin_bl I q (by simp))
    | int j => obtain ⟨t', rfl⟩ := ry; exact PySem.EqMixed.ne_str_int (fin_bl I q (by simp))
    | str j => obtain ⟨t', rfl⟩ := ry; exact ne_str (fin_bl I q (congrArg not dec_str))
    | _ => exact absurd (show false = true from hs) Bool.false_ne_true
  | byt i =>
    obtain ⟨t, rfl⟩ := rx
    cases y with
    | byt j => obtain ⟨t', rfl⟩ := ry; exact PySem.W.ne_bytes (fin_bl I q (congrArg not dec_byt))
    | _ => exact absurd (show false = true from hs) Bool.false_ne_true
  | _ => cases y <;> exact absurd (show false = true from hs) Bool.false_ne_true

theorem op_lt : OpR X (compareOp .Lt) (rI0 fun i j => .bl (decide (i < j))) := opB0 fun _ _ _ _ _ _ _ q => lt_int q
theorem op_le : OpR X (compareOp .LtE) (rI0 fun i j => .bl (decide (i ≤ j))) := opB0 fun _ _ _ _ _ _ _ q => le_int q
theorem op_gt : OpR X (compareOp .Gt) (rI0 fun i j => .bl (decide (j < i))) := opB0 fun _ _ _ _ _ _ _ q => gt_int q
theorem op_ge : OpR X (compareOp .GtE) (rI0 fun i j => .bl (decide (j ≤ i))) := opB0 fun _ _ _ _ _ _ _ q => ge_int q
theorem op_lt_str : OpR X (compareOp .Lt) (fun x y H Q => ∃ i j, x = .str i ∧ y = .str j ∧ Q (.bl (decide (i.cps.toList < j.cps.toList))) H) := by
  intro pins s σ H x y v u Q I rx ry h
  obtain ⟨i, j, rfl, rfl, q⟩ := h
  obtain ⟨t, rfl⟩ := rx
  obtain ⟨t', rfl⟩ := ry
  exact lt_str (fin_bl I q rfl)
theorem op_notN : OpR X (compareOp .IsNot) (fun x y H Q => y = .non ∧ Q (.bl (!decide (x = .non))) H) := by
  intro pins s σ H x y v u Q I rx ry h
  obtain ⟨rfl, q⟩ := h
  cases ry
  refine isnot_none_gen (fin_bl I q ?_)
  cases x <;> first
    | (cases rx; rfl)
    | (obtain ⟨t, rfl⟩ := rx; rfl)

theorem OpR.or {f : Value → Value → Sem Value} {r r' : R2} (h : OpR X f r) (h' : OpR X f r') : OpR X f (fun x y H Q => r x y H Q ∨ r' x y H Q) := by
  intro pins s σ H x y v u Q I rx ry q
  rcases q with q | q
  · exact h pins s σ H x y v u Q I rx ry q
  · exact h' pins s σ H x y v u Q I rx ry q

theorem nomark (b : Expr) {op : CmpOp} (h : op ≠ .In := by decide) (h2 : op ≠ .NotIn := by decide) : behindInMarks op b = false := by
  have e1 : (op == CmpOp.In) = false := by cases op <;> first | rfl | exact absurd rfl h
  have e2 : (op == CmpOp.NotIn) = false := by cases op <;> first | rfl | exact absurd rfl h2
  cases b <;> simp [behindInMarks, e1, e2]
theorem pe_cmpR {op : CmpOp} {r : R2} (ho : OpR X (compareOp op) r) (ha : PE X a ta) (hb : PE X b tb) (hm : behindInMarks op b = false) : PE X (.Compare a [op] [b] pos) (tOp r ta tb) := by
  intro pins s σ H Q I h
  exact wpAny_Compare1 (binT ha hb I h fun v u s2 x y H2 I2 rx ry q => ho pins s2 σ H2 x y v u Q I2 rx ry q) hm
def tTest (t : TE) : TT := fun σ H Q => t σ H fun x H' => ∃ k, x = .bl k ∧ Q k H'
theorem pt_cmpR {op : CmpOp} {r : R2} (ho : OpR X (compareOp op) r) (ha : PE X a ta) (hb : PE X b tb) (hm : behindInMarks op b = false) : PT X (.Compare a [op] [b] pos) (tTest (tOp r ta tb)) := by
  intro pins s σ H Q I h
  refine wpAny_isTrue_Compare1 (thn (ha pins s σ H _ I h) fun v s1 ⟨x, H1, I1, r1, q1⟩ => thn (hb pins s1 σ H1 _ I1 q1) fun u s2 ⟨y, H2, I2, r2, q2⟩ =>
    thn (ho pins s2 σ H2 x y v u _ I2 r1 r2 q2) fun c s3 ⟨z, H3, I3, r3, k, e, q3⟩ => ?_) hm
  subst e
  cases r3
  exact wpAny_truthy_bool ⟨H3, I3, q3⟩
def tChain (r r' : R2) (ta tb tc : TE) : TE := fun σ H Q => ta σ H fun x H1 => tb σ H1 fun y H2 => r x y H2 fun z H3 => ∃ k, z = .bl k ∧
  (if k = true then tc σ H3 fun w' H4 => r' y w' H4 Q else Q (.bl false) H3)
theorem pe_chain {op op' : CmpOp} {r r' : R2} (ho : OpR X (compareOp op) r) (ho' : OpR X (compareOp op') r') (ha : PE X a ta) (hb : PE X b tb) (hc : PE X c tc)
    (hm : lastMarks [op, op'] [b, c] = false := by with_unfolding_all rfl) : PE X (.Compare a [op, op'] [b, c] pos) (tChain r r' ta tb tc) := by
  intro pins s σ H Q I h
  refine Compare_chain (thn (ha pins s σ H _ I h) fun v s1 ⟨x, H1, I1, r1, q1⟩ => chain_link (thn (hb pins s1 σ H1 _ I1 q1) fun u s2 ⟨y, H2, I2, r2, q2⟩ =>
    thn (ho pins s2 σ H2 x y v u _ I2 r1 r2 q2) fun d s3 ⟨z, H3, I3, r3, k, e, q3⟩ => ?_)) hm
  subst e
  cases r3
  refine wpAny_truthy_bool ?_
  cases k with
  | false => exact ite_ff ⟨.bl false, H3, I3, rfl, q3⟩
  | true => exact ite_tt (chain_last (thn (hc pins s3 σ H3 _ I3 q3) fun w' s4 ⟨z', H4, I4, r4, q4⟩ => ho' pins s4 σ H4 y z' u w' Q I4 r2 r4 q4))
theorem pt_chain {op op' : CmpOp} {r r' : R2} (ho : OpR X (compareOp op) r) (ho' : OpR X (compareOp op') r') (ha : PE X a ta) (hb : PE X b tb) (hc : PE X c tc)
    (hm : lastMarks [op, op'] [b, c] = false := by with_unfolding_all rfl) : PT X (.Compare a [op, op'] [b, c] pos) (tTest (tChain r r' ta tb tc)) := by
  intro pins s σ H Q I h
  refine isTrue_chain (thn (ha pins s σ H _ I h) fun v s1 ⟨x, H1, I1, r1, q1⟩ => test_link (thn (hb pins s1 σ H1 _ I1 q1) fun u s2 ⟨y, H2, I2, r2, q2⟩ =>
    thn (ho pins s2 σ H2 x y v u _ I2 r1 r2 q2) fun d s3 ⟨z, H3, I3, r3, k, e, q3⟩ => ?_)) hm
  subst e
  cases r3
  refine wpAny_truthy_bool ?_
  cases k with
  | false =>
    obtain ⟨k', e', q'⟩ := q3
    cases e'
    exact ite_ff ⟨H3, I3, q'⟩
  | true =>
    refine ite_tt (test_last (thn (hc pins s3 σ H3 _ I3 q3) fun w' s4 ⟨z', H4, I4, r4, q4⟩ => thn (ho' pins s4 σ H4 y z' u w' _ I4 r2 r4 q4) fun d' s5 ⟨z2, H5, I5, r5, k2, e2, q5⟩ => ?_))
    subst e2
    cases r5
    exact wpAny_truthy_bool ⟨H5, I5, q5⟩

theorem line63 : (sizeLine : Nat) < 2 ^ 63 := by rw [sizeLine_eq]; decide
theorem op_add_str : OpR X (binaryOp .Add) (fun x y H Q => ∃ i j, x = .str i ∧ y = .str j ∧ i.length + j.length ≤ sizeLine ∧ Q (.str (i ++ j)) H) := by
  intro pins s σ H x y v u Q I rx ry h
  obtain ⟨i, j, rfl, rfl, hz, q⟩ := h
  obtain ⟨t, rfl⟩ := rx
  obtain ⟨t', rfl⟩ := ry
  exact add_str (fun t' tk => ⟨.str (i ++ j), H, I.tok _, ⟨_, rfl⟩, q⟩) hz
theorem vals1 {x : V} {us : List Value} (r : Vals [x] us) : ∃ u, us = [u] ∧ RelV x u := by
  cases r with
  | cons r1 r2 => cases r2; exact ⟨_, rfl, r1⟩
theorem call_int1 : CallR X (.type "int") (fun xs H Q => (∃ i, xs = [.int i] ∧ Q (.int i) H) ∨ ∃ k, xs = [.bl k] ∧ Q (.int (if k then 1 else 0)) H) := by
  intro pins s σ H xs us Q I r h
  rcases h with ⟨i, rfl, q⟩ | ⟨k, rfl, q⟩
  · obtain ⟨u, rfl, t, rfl⟩ := vals1 r
    exact call_int_int ⟨.int i, H, I, ⟨_, rfl⟩, q⟩
  · obtain ⟨u, rfl, r1⟩ := vals1 r
    cases r1
    exact call_int_bool ⟨.int (if k then 1 else 0), H, I.tok _, ⟨_, rfl⟩, q⟩
end
end L2

namespace L2
open PySem PySem.Spec PyProof.Rows

structure ObjM (h : Heap) (x dx C : Addr) (mA : Str → Option Value) : Prop where
  obj : h.get? x = some (PySem.W.instObj C dx)
  ns : h.Ns1 dx mA
  ne : dx ≠ x

theorem lookIn_ns {h : Heap} {dx : Addr} {mA : Str → Option Value} (n : h.Ns1 dx mA) : ∃ od, h.get? dx = some od ∧ ∀ name, PySem.W.lookIn name od = some (mA name) := by
  obtain ⟨o, es, ep, ho, hd, hk, _, hm⟩ := n
  refine ⟨o, ho, fun name => ?_⟩
  have e := hm name
  unfold nsFind findBy at e
  rw [← Array.find?_toList] at e
  unfold PySem.W.lookIn
  rw [hd]
  dsimp only
  split
  · rename_i y q
    rw [q] at e
    exact congrArg some e
  · rename_i q
    rw [q] at e
    have a : es.toList.any (·.refKey) = false := by
      rw [List.any_eq_false]
      intro y hy
      obtain ⟨z, t, hkey⟩ := hk y (Array.mem_toList_iff.mp hy)
      simp [DictEntry.refKey, hkey]
    have a' : ¬ es.toList.any (·.refKey) = true := by rw [a]; exact Bool.false_ne_true
    rw [if_neg a']
    exact congrArg some e

theorem ObjM.look {h : Heap} {x dx C : Addr} {mA : Str → Option Value} (I : ObjM h x dx C mA) : ∃ od, PySem.W.InstAt h x (PySem.W.instObj C dx) C (some od) ∧ ∀ name, PySem.W.lookIn name od = some (mA name) :=
  let ⟨od, ho, hl⟩ := lookIn_ns I.ns
  ⟨od, ⟨I.obj, rfl, rfl, ho⟩, hl⟩

section
variable {prog : Program} {w : World} {A : Around} {E : Value → Shared → Prop} {s : Shared} {K : PySem.W.Frag} {x dx C f : Addr} {mA : Str → Option Value} {name : Str} {v : Value}

end

theorem RelO.some_of {v : V} {o : Option Value} (r : RelO (some v) o) : ∃ u, o = some u ∧ RelV v u := by
  cases o with
  | none => exact (show False from r).elim
  | some u => exact ⟨u, rfl, r⟩
section
variable {P : Program} {w : World} {H H' : Hp} {h h' : Heap} {a C dx : Addr} {fs fs' : List (Str × V)}
theorem ins_get (hok : HOk P w H h) (e : H a = some (.ins C dx fs)) : ∃ mA, ObjM h a dx C mA ∧ (∀ f, RelO (fs.lookup f) (mA f)) ∧ PySem.Within mA (fs.map (·.1)) ∧ fs.length ≤ 1000 ∧ H dx = some (.own a) := by
  obtain ⟨d, z, ne, ob, mA, n, r, q⟩ := (show ObjOk P w H h a (.ins C dx fs) from hok a _ e)
  exact ⟨mA, ⟨ob, n, ne⟩, r, q, z, d⟩
end

structure Cls (K : PySem.W.Frag) (C : Addr) : Prop where
  pg : PySem.W.plainGet K C Str.empty = true
  hd : PySem.W.hasDictIn K C = true
  po : PySem.W.plainOver K C = true
  sa : PySem.W.findIn K (.ref C) "__setattr__" = some (some (.builtin "object.__setattr__"))
theorem Cls.get {K : PySem.W.Frag} {C : Addr} (c : Cls K C) (f : Str) : PySem.W.plainGet K C f = true := c.pg
section
variable {X : Cx} {pins : List (Addr × Obj)} {σ : St} {H : Hp} {s : Shared} {a C dx : Addr} {fs : List (Str × V)} {f : Str} {v : V} {A : Around} {E : Value → Shared → Prop}

end


section
variable {X : Cx} {pins : List (Addr × Obj)} {σ : St} {H : Hp} {s : Shared} {A : Around} {E : Value → Shared → Prop} {Q : Value → Shared → Prop} {c : Value} {b : Bool}
inductive TyOf (K : PySem.W.Frag) (H : Hp) : V → Value → Prop where
  | non : TyOf K H .non (.type "NoneType")
  | bl (x : Bool) : TyOf K H (.bl x) (.type "bool")
  | int (i : Int) : TyOf K H (.int i) (.type "int")
  | str (x : Str) : TyOf K H (.str x) (.type "str")
  | flt (x : UInt64) : TyOf K H (.flt x) (.type "float")
  | lst {a : Addr} {xs : List V} (e : H a = some (.lst xs)) : TyOf K H (.ref a) (.type "list")
  | frz {a : Addr} {o : Obj} {xs : List V} (e : H a = some (.frz o (.lst xs))) : TyOf K H (.ref a) (.type "list")
  | tup {a : Addr} {xs : List V} (e : H a = some (.tup xs)) : TyOf K H (.ref a) (.type "tuple")
  | dK {a : Addr} {kvs : List (Key × V)} (e : H a = some (.dK kvs)) : TyOf K H (.ref a) (.type "dict")
  | dT {a : Addr} {kvs : List (List Key × V)} (e : H a = some (.dT kvs)) : TyOf K H (.ref a) (.type "dict")
  | ins {a C dx : Addr} {fs : List (Str × V)} (e : H a = some (.ins C dx fs)) (cl : Cls K C) (ha : PySem.W.findIn K (.ref C) "__class__" = some (some (.builtin "object.__class__")))
      (hn : PySem.W.specialIn K (.builtin "object.__class__") "__get__" = some (some (.builtin "getset_descriptor.__get__"))) (htk : PySem.W.takesIn K (.builtin "object.__class__") = some true)
      (hm : PySem.W.mroIn K C (.type "object") = some true) : TyOf K H (.ref a) (.ref C)
theorem isinst_ok {x : V} {u t : Value} (I : Inv X pins σ H s) (rx : RelV x u) (ty : TyOf X.K H x t) (e : PySem.W.kitOne X.K t c = some b) (h : ∀ tk, Q (.bool b) { s with toks := tk }) :
    wpAny (model X.prog X.w) A (call (.builtin "isinstance") [u, c]) Q E s := by
  cases ty with
  | non => cases (show u = Value.none from rx); exact PySem.W.kia_one PySem.W.kitx_none I.kIn True.intro e (fun z => nomatch z) h
  | bl y => cases (show u = Value.bool y from rx); exact PySem.W.kia_one PySem.W.kitx_bool I.kIn True.intro e (fun z => nomatch z) h
  | int i => obtain ⟨t, q⟩ := (show ∃ t, u = Value.int i t from rx); cases q; exact PySem.W.kia_one PySem.W.kitx_int I.kIn True.intro e (fun z => nomatch z) h
  | str y => obtain ⟨t, q⟩ := (show ∃ t, u = Value.str y t from rx); cases q; exact PySem.W.kia_one PySem.W.kitx_str I.kIn True.intro e (fun z => nomatch z) h
  | flt y => obtain ⟨t, q⟩ := (show ∃ t, u = Value.float y t from rx); cases q; exact PySem.W.kia_one PySem.W.kitx_float I.kIn True.intro e (fun z => nomatch z) h
  | @lst a xs ea =>
    cases (show u = Value.ref a from rx)
    obtain ⟨_, _, n, _, h1⟩ := (show ObjOk X.prog X.w H s.heap a (.lst xs) from I.hok a _ ea)
    exact PySem.W.kia_one PySem.W.kitx_list I.kIn ⟨_, h1, rfl⟩ e (fun z => nomatch z) h
  | @frz a ob xs ea =>
    cases (show u = Value.ref a from rx)
    obtain ⟨_, _, _, n, _, h1⟩ := (show ObjOk X.prog X.w H s.heap a (.frz ob (.lst xs)) from I.hok a _ ea)
    exact PySem.W.kia_one PySem.W.kitx_list I.kIn ⟨_, h1, rfl⟩ e (fun z => nomatch z) h
  | @tup a xs ea =>
    cases (show u = Value.ref a from rx)
    obtain ⟨_, _, _, p⟩ := (show ObjOk X.prog X.w H s.heap a (.tup xs) from I.hok a _ ea)
    obtain ⟨o, h1, h2, _⟩ := p
    exact PySem.W.kia_one PySem.W.kitx_tuple I.kIn ⟨o, h1, h2⟩ e (fun z => nomatch z) h
  | @dK a kvs ea =>
    cases (show u = Value.ref a from rx)
    obtain ⟨_, _, vs, _, p⟩ := (show ObjOk X.prog X.w H s.heap a (.dK kvs) from I.hok a _ ea)
    obtain ⟨o, es, ep, h1, h2, _⟩ := p
    exact PySem.W.kia_one PySem.W.kitx_dict I.kIn ⟨o, h1, h2.1⟩ e (fun z => nomatch z) h
  | @dT a kvs ea =>
    cases (show u = Value.ref a from rx)
    obtain ⟨_, _, xs, _, o, es, ep, h1, h2, _⟩ := (show ObjOk X.prog X.w H s.heap a (.dT kvs) from I.hok a _ ea)
    exact PySem.W.kia_one PySem.W.kitx_dict I.kIn ⟨o, h1, h2.1⟩ e (fun z => nomatch z) h
  | @ins a C dx fs ea cl ha hn htk hm =>
    cases (show u = Value.ref a from rx)
    obtain ⟨mA, O, _⟩ := ins_get I.hok ea
    obtain ⟨od, J, _⟩ := O.look
    exact PySem.W.kia_one (PySem.W.kitx_own (cl.get _) cl.hd ha hn htk hm) I.kIn J e (fun z => nomatch z) h
end
end L2

namespace L2
open PySem PySem.Spec PyProof.Rows

structure Room (k : Nat) (A : Around) : Prop where
  hd : A.handled = none
  dp : A.depth + 3 * k + 5 < recursionLimit
  un : A.units + 16 * k + 200 < cLine
theorem Room.mono {j k : Nat} {A : Around} (r : Room k A) (h : j ≤ k) : Room j A := ⟨r.hd, by have := r.dp; omega, by have := r.un; omega⟩
theorem Room.deeper {k : Nat} {A : Around} (r : Room (k + 1) A) (env : Env) : Room k (A.deeper env) :=
  ⟨r.hd, by have := r.dp; show A.depth + 1 + 3 * k + 5 < _; omega, by have := r.un; show A.units + 3 + 16 * k + 200 < _; omega⟩
theorem Room.in1 {k : Nat} {A : Around} (r : Room (k + 1) A) : Room k A.in1 :=
  ⟨r.hd, by have := r.dp; show A.depth + 3 * k + 5 < _; omega, by have := r.un; show A.units + 1 + 16 * k + 200 < _; omega⟩
theorem Room.depth {k : Nat} {A : Around} (r : Room k A) : A.depth < recursionLimit := by have := r.dp; omega
theorem Room.units {k : Nat} {A : Around} (r : Room k A) : A.units + 64 < cLine := by have := r.un; omega
def tNil : TA := fun _ H Q => Q [] H
def tCons (ta : TE) (tr : TA) : TA := fun σ H Q => ta σ H fun x H1 => tr σ H1 fun xs H2 => Q (x :: xs) H2
section
variable {X : Cx} {e : Expr} {es : List Expr} {te : TE} {t : TA} {pos : Pos}
theorem pa_nil : PA X [] tNil := fun _ _ _ _ H Q I h => Calls.spliced_nil ⟨[], H, I, .nil, h⟩
theorem pa_cons (ha : PE X e te) (hr : PA X es t) (hs : starEach (e :: es) X.env = (false, eval e X.env) :: starEach es X.env := by rfl) : PA X (e :: es) (tCons te t) := by
  intro pos pins s σ H Q I h
  rw [hs]
  show wpAny _ _ (spliced ((false, eval e X.env) :: backTo pos (starEach es X.env))) _ _ s
  refine Calls.spliced_cons (thn (ha pins s σ H _ I h) fun u s1 ⟨x, H1, I1, r1, q1⟩ => ?_)
  exact thn (hr pos pins s1 σ H1 _ I1 q1) fun us s2 ⟨xs, H2, I2, r2, q2⟩ => ⟨x :: xs, H2, I2, .cons r1 r2, q2⟩

def tTup (t : TA) : TE := fun σ H Q => t σ H fun xs H1 => xs.length ≤ sizeLine ∧ ∀ p, H1 p = none → Q (.ref p) (upd H1 p (.tup xs))
def tLst (t : TA) : TE := fun σ H Q => t σ H fun xs H1 => xs.length ≤ sizeLine ∧ ∀ p, H1 p = none → Q (.ref p) (upd H1 p (.lst xs))
theorem pe_tup {x1} (h : PA X es t) : PE X (.Tuple es x1 pos) (tTup t) := by
  intro pins s σ H Q I hq
  refine wpAny_Tuple_spliced (thn (h pos pins s σ H _ I hq) fun us s1 ⟨xs, H1, I1, r, z, q⟩ => ⟨by rw [← r.length]; exact z, ?_⟩)
  have hf : H1 s1.heap.objs.size = none := I1.hok.fresh (Nat.le_refl _)
  refine ⟨.ref s1.heap.objs.size, upd H1 s1.heap.objs.size (.tup xs), I1.laid (t' := s1.toks) (fun b u e => Heap.get?_push_of_some _ e) (Nat.le_refl _) ?_, rfl, q _ hf⟩
  exact ⟨z, us, r, ⟨_, Heap.get?_push_size _ rfl, rfl, _, rfl⟩⟩
theorem pe_lst (h : PA X es t) : PE X (.List es pos) (tLst t) := by
  intro pins s σ H Q I hq
  refine wpAny_List_spliced (thn (h pos pins s σ H _ I hq) fun us s1 ⟨xs, H1, I1, r, z, q⟩ => ⟨by rw [← r.length]; exact z, ?_⟩)
  have hf : H1 s1.heap.objs.size = none := I1.hok.fresh (Nat.le_refl _)
  refine ⟨.ref s1.heap.objs.size, upd H1 s1.heap.objs.size (.lst xs), I1.laid (t' := s1.toks) (fun b u e => Heap.get?_push_of_some _ e) (Nat.le_refl _) ?_, rfl, q _ hf⟩
  exact ⟨z, us, 0, r, Heap.get?_push_size _ rfl⟩
end

abbrev Sp := List V → Hp → VK → XK → Prop
abbrev CXT := List Env → Hp → Shared → XK → Value → Shared → Prop

structure Env0 (P : Program) (w : World) (K : PySem.W.Frag) (mg : Str → Option Value) (base : Heap) (A : Around) (outer : List Env) (s : Shared) (H : Hp) : Prop where
  frames : A.frames = some outer
  mod : Mod K mg base
  bs : ∀ b o, base.get? b = some o → s.heap.get? b = some o ∧ H b = none
  bsz : base.objs.size ≤ s.heap.objs.size
  funs : s.heap.FunFrames base outer
  frf : ∀ b ∈ frs outer, H b = none
  hok : HOk P w H s.heap
  bare : AllBare s.gens
def CE (outer : List Env) (P : Program) (w : World) (H : Hp) (s : Shared) (Q : VK) (u : Value) (s' : Shared) : Prop :=
  ∃ v H', s'.os = s.os ∧ AllBare s'.gens ∧ Un (frs outer) [] H H' s.heap s'.heap ∧ HOk P w H' s'.heap ∧ RelV v u ∧ Q v H'
def CR (CX : CXT) (outer : List Env) (P : Program) (w : World) (H : Hp) (s : Shared) (Q : VK) (E : XK) (r : Result) (s' : Shared) : Prop :=
  match r with
  | .ok (.ret u) => CE outer P w H s Q u s'
  | .ok _ => False
  | .error e => CX outer H s E e s'
structure FnOk (P : Program) (w : World) (K : PySem.W.Frag) (mg : Str → Option Value) (base : Heap) (CX : CXT) (k : Nat) (f : Addr) (fd : FuncData) (ps : List Str) (sp : Sp) : Prop where
  len : ∀ vs H Q E, sp vs H Q E → vs.length = ps.length
  run : ∀ (A : Around) (outer : List Env) (s : Shared) (H : Hp) (args : Args) (us : List Value) (vs : List V) (Q : VK) (E : XK), Room k A → Env0 P w K mg base A outer s H → BindsTo s fd args (ps.zip us) → Vals vs us → sp vs H Q E →
    codeAny (model P w) A (.call (.ref f) args) (CR CX outer P w H s Q E) s
theorem FnOk.mono {P : Program} {w : World} {K : PySem.W.Frag} {mg : Str → Option Value} {base : Heap} {CX : CXT} {j k : Nat} {f : Addr} {fd : FuncData} {ps : List Str} {sp : Sp} (F : FnOk P w K mg base CX j f fd ps sp) (h : j ≤ k) :
    FnOk P w K mg base CX k f fd ps sp := ⟨F.len, fun A outer s H args us vs Q E hr => F.run A outer s H args us vs Q E (hr.mono h)⟩
theorem Env0.in1 {P : Program} {w : World} {K : PySem.W.Frag} {mg : Str → Option Value} {base : Heap} {A : Around} {outer : List Env} {s : Shared} {H : Hp} (e : Env0 P w K mg base A outer s H) :
    Env0 P w K mg base A.in1 outer s H := ⟨e.frames, e.mod, e.bs, e.bsz, e.funs, e.frf, e.hok, e.bare⟩

section
variable {X : Cx} {pins : List (Addr × Obj)} {σ : St} {H : Hp} {s s' : Shared}
theorem Inv.env0 (I : Inv X pins σ H s) : Env0 X.prog X.w X.K X.mg X.base X.A X.stack s H :=
  ⟨I.ok.frames, I.ok.mod, I.bs, Nat.le_trans I.ok.bsz I.sz, I.stack, I.stkFree, I.hok, I.bare⟩
theorem Inv.after {Q : VK} {u : Value} (I : Inv X pins σ H s) (h : CE X.stack X.prog X.w H s Q u s') : EP X pins σ Q u s' := by
  obtain ⟨v, H', os, bare, un, hok, r, q⟩ := h
  obtain ⟨hh, g, d, t, os'⟩ := s'
  obtain rfl : os' = s.os := os
  exact ⟨v, H', I.call (h' := hh) (g' := g) (d' := d) (t' := t) (ch := []) un hok bare (fun b z => absurd z (by simp)), r, q⟩
end

def tCall (sp : Sp) (dvs : List V) (E : XK) (t : TA) : TE := fun σ H Q => t σ H fun vs H1 => sp (vs ++ dvs) H1 Q E
def Binds (K : PySem.W.Frag) (fd : FuncData) (ps : List Str) (ds : List Value) : Prop :=
  ∀ (s : Shared) (us : List Value), K.In s.heap → (us ++ ds).length = ps.length → BindsTo s fd ⟨us, []⟩ (ps.zip (us ++ ds))
theorem Binds.all {K : PySem.W.Frag} {fd : FuncData} {ps : List Str} (h : ∀ us : List Value, us.length = ps.length → bindArgs fd ⟨us, []⟩ = pure (ps.zip us)) : Binds K fd ps [] := fun s us _ hl => by
  rw [List.append_nil] at hl ⊢
  exact .of_eq (h us hl)

def Passes (CX : CXT) (X : Cx) (E : XK) : Prop := ∀ (pins : List (Addr × Obj)) (σ : St) (H : Hp) (s : Shared) (e : Value) (s' : Shared), Inv X pins σ H s → CX X.stack H s E e s' → X.xe e s'

section
variable {X : Cx} {CX : CXT} {k : Nat} {f C : Addr} {fd : FuncData} {ps : List Str} {sp : Sp} {dvs : List V} {ds : List Value} {E : XK} {x m : Str} {p pos apos : Pos} {e o : Expr} {es : List Expr} {ta : TE} {t : TA}

theorem run_fn {pins : List (Addr × Obj)} {σ : St} {H : Hp} {s : Shared} {Q : VK} {us : List Value} {vs : List V} (F : FnOk X.prog X.w X.K X.mg X.base CX k f fd ps sp) (hr : Room k X.A) (hb : Binds X.K fd ps ds) (hd : Vals dvs ds) (hx : Passes CX X E)
    (I : Inv X pins σ H s) (r : Vals vs us) (h : sp (vs ++ dvs) H Q E) : wpAny (model X.prog X.w) X.A (call (.ref f) us) (EP X pins σ Q) X.xe s := by
  have r2 : Vals (vs ++ dvs) (us ++ ds) := r.append hd
  have hl : (us ++ ds).length = ps.length := by rw [← r2.length]; exact F.len _ _ _ _ h
  refine wpAny_call (codeAny_mono (F.run X.A X.stack s H ⟨us, []⟩ (us ++ ds) (vs ++ dvs) Q E hr I.env0 (hb s us I.kIn hl) r2 h) fun r s' hq => ?_)
  cases r with
  | error e => exact hx pins σ H s e s' I hq
  | ok fl =>
    cases fl with
    | ret u => exact I.after hq
    | next => exact False.elim hq
    | brk => exact False.elim hq
    | cont => exact False.elim hq

theorem pe_call (F : FnOk X.prog X.w X.K X.mg X.base CX k f fd ps sp) (hr : Room k X.A) (hg : Gl X x) (hm : X.mg x = some (.ref f)) (hk : PySem.W.keepIn X.K (.ref f) = true) (hb : Binds X.K fd ps ds) (hd : Vals dvs ds) (hx : Passes CX X E)
    (ha : PA X (e :: es) t) (hdb : (x == ("__debug__" : Str)) = false := by decide) (he : starEach (e :: es) X.env = (false, eval e X.env) :: starEach es X.env := by rfl) (hpl : (backTo pos (starEach es X.env)).any (·.1) = false := by rfl) :
    PE X (.Call (.Name x p) (e :: es) [] pos) (tCall sp dvs E t) := by
  intro pins s σ H Q I h
  refine wpAny_Call_Name_kw (ld_glob I hg hm ?_ hdb)
  refine PySem.W.callWith_K (h₀ := X.base) I.ok.mod.kin hk (thn (ha pos pins s σ H _ I h) fun us s1 ⟨vs, H1, I1, r, q⟩ => ⟨I1.kIn, ?_⟩) he hpl
  exact run_fn F hr hb hd hx I1 r q
theorem pe_call0 (F : FnOk X.prog X.w X.K X.mg X.base CX k f fd ps sp) (hr : Room k X.A) (hg : Gl X x) (hm : X.mg x = some (.ref f)) (hk : PySem.W.keepIn X.K (.ref f) = true) (hb : Binds X.K fd ps ds) (hd : Vals dvs ds) (hx : Passes CX X E)
    (hdb : (x == ("__debug__" : Str)) = false := by decide) : PE X (.Call (.Name x p) [] [] pos) (tCall sp dvs E tNil) := by
  intro pins s σ H Q I h
  refine wpAny_Call_Name_kw (ld_glob I hg hm ?_ hdb)
  exact PySem.W.callWith_K0 I.kIn hk (run_fn (us := []) F hr hb hd hx I .nil h)

end

section
variable {X : Cx} {CX : CXT} {k : Nat} {f C : Addr} {fd : FuncData} {ps ks : List Str} {sp : Sp} {E : XK} {x m : Str} {p pos apos kpos : Pos} {e o : Expr} {es : List Expr} {kws : List Keyword} {te ta : TE} {t tk : TA} {nm : Option Str}
variable {g : List Value → List Value → List Value} {gV : List V → List V → List V}
end

structure FnScope (N P : List Str) (sc : Scope) : Prop where
  kind : sc.kind = .function
  co : sc.isCoroutine = false
  gen : sc.isGenerator = false
  nd : N.Nodup
  pre : N.take P.length = P
  par : ∀ x ∈ P, sc.names.lookup x = some .local ∨ sc.names.lookup x = some .cell
  nofree : ∀ y ∈ sc.names, y.2 ≠ .free

theorem bindL_out {kindOf : Str → Option NameKind} {x : Str} : ∀ {binds : List (Str × Value)} {m : Str → Option Value}, (∀ v, (x, v) ∉ binds) → bindL kindOf binds m x = m x
  | [], _, _ => rfl
  | (n, v) :: r, m, h => by
    unfold bindL
    rw [bindL_out fun w hw => h w (List.mem_cons_of_mem _ hw)]
    split
    · have : x ≠ n := by rintro rfl; exact h v List.mem_cons_self
      simp [this]
    · rfl
theorem bindC_out {kindOf : Str → Option NameKind} {x : Str} : ∀ {binds : List (Str × Value)} {m : Str → Option Value}, (∀ v, (x, v) ∉ binds) → bindC kindOf binds m x = m x
  | [], _, _ => rfl
  | (n, v) :: r, m, h => by
    unfold bindC
    rw [bindC_out fun w hw => h w (List.mem_cons_of_mem _ hw)]
    split
    · rfl
    · have : x ≠ n := by rintro rfl; exact h v List.mem_cons_self
      simp [this]
theorem bindL_get {kindOf : Str → Option NameKind} {x : Str} {v : Value} : ∀ {P : List Str} {vs : List Value} {i : Nat} {m : Str → Option Value}, P.Nodup → P[i]? = some x → vs[i]? = some v → kindOf x = some .local →
    bindL kindOf (P.zip vs) m x = some v
  | [], _, _, _, _, h, _, _ => by simp at h
  | _ :: _, [], _, _, _, _, h, _ => by simp at h
  | p :: P, w :: vs, 0, m, nd, h1, h2, hk => by
    simp at h1 h2; subst h1; subst h2
    show bindL kindOf ((p, w) :: P.zip vs) m p = _
    unfold bindL
    rw [bindL_out fun v hv => (List.nodup_cons.mp nd).1 (List.of_mem_zip hv).1, if_pos hk]
    simp
  | p :: P, w :: vs, i + 1, m, nd, h1, h2, hk => by
    show bindL kindOf ((p, w) :: P.zip vs) m x = _
    unfold bindL
    exact bindL_get (i := i) (List.nodup_cons.mp nd).2 (by simpa using h1) (by simpa using h2) hk
theorem bindC_get {kindOf : Str → Option NameKind} {x : Str} {v : Value} : ∀ {P : List Str} {vs : List Value} {i : Nat} {m : Str → Option Value}, P.Nodup → P[i]? = some x → vs[i]? = some v → kindOf x ≠ some .local →
    bindC kindOf (P.zip vs) m x = some v
  | [], _, _, _, _, h, _, _ => by simp at h
  | _ :: _, [], _, _, _, _, h, _ => by simp at h
  | p :: P, w :: vs, 0, m, nd, h1, h2, hk => by
    simp at h1 h2; subst h1; subst h2
    show bindC kindOf ((p, w) :: P.zip vs) m p = _
    unfold bindC
    rw [bindC_out fun v hv => (List.nodup_cons.mp nd).1 (List.of_mem_zip hv).1, if_neg hk]
    simp
  | p :: P, w :: vs, i + 1, m, nd, h1, h2, hk => by
    show bindC kindOf ((p, w) :: P.zip vs) m x = _
    unfold bindC
    exact bindC_get (i := i) (List.nodup_cons.mp nd).2 (by simpa using h1) (by simpa using h2) hk

def start (N : List Str) (vs : List V) : St := vs.map some ++ List.replicate (N.length - vs.length) none

def cxOf (CX : CXT) (P : Program) (w : World) (K : PySem.W.Frag) (mg : Str → Option Value) (base : Heap) (N : List Str) (qual : Str) (scope : Scope) (f : Addr) (cd : Value) (A : Around) (outer : List Env) (s : Shared) (H : Hp) (E : XK) : Cx where
  prog := P
  w := w
  K := K
  mg := mg
  base := base
  A := A.deeper (envOfC qual scope s.heap.objs.size f cd)
  N := N
  s_0 := s
  H_0 := H
  env := envOfC qual scope s.heap.objs.size f cd
  outer := outer
  stack := envOfC qual scope s.heap.objs.size f cd :: outer
  ex := []
  calm := true
  fn := fun _ => true
  pn := []
  xe := fun e s' => wpAny (model P w) (A.deeper (envOfC qual scope s.heap.objs.size f cd)) (leaving (envOfC qual scope s.heap.objs.size f cd) e) (fun _ s'' => CX outer H s E e s'') (fun e' s'' => CX outer H s E e' s'') s'

theorem cell_has {sc : Scope} {n : Nat} {x : Str} (h : sc.names.lookup x = some .cell) : ∃ c, (cellsFrom n sc.names []).lookup x = some c := by
  have q := PySem.W.cellsFrom_some sc.names n [] (.inl h)
  exact Option.isSome_iff_exists.mp q

theorem inv_start {CX : CXT} {P : Program} {w : World} {K : PySem.W.Frag} {mg : Str → Option Value} {base : Heap} {N ps : List Str} {qual : Str} {scope : Scope} {f : Addr} {cd : Value} {A : Around} {outer : List Env} {s s1 : Shared} {H : Hp} {E : XK} {us : List Value} {vs : List V}
    (S : FnScope N ps scope) (hd : A.handled = none) (e0 : Env0 P w K mg base A outer s H) (hl : vs.length = ps.length) (r : Vals vs us)
    (x : InCallC s s.heap.objs.size (bindL (envOfC qual scope s.heap.objs.size f cd).kindOf (ps.zip us) fun _ => none) (cellsFrom (s.heap.objs.size + 1) scope.names []) (bindC (envOfC qual scope s.heap.objs.size f cd).kindOf (ps.zip us) fun _ => none) s1) :
    Inv (cxOf CX P w K mg base N qual scope f cd A outer s H E) [] (start N vs) H s1 := by
  have hpl : ps.length ≤ N.length := by have := congrArg List.length S.pre; rw [List.length_take] at this; omega
  obtain ⟨h1, tk, rfl, hk⟩ := x.done
  have noA : ∀ b : Addr, b ∉ (cxOf CX P w K mg base N qual scope f cd A outer s H E).ex := fun b z => absurd (show b ∈ ([] : List Addr) from z) (by simp)
  refine ⟨⟨e0.mod, S.kind, rfl, rfl, Nat.le_refl _, fun y z c h1 h2 => ?_, fun y hy => ?_, fun y c _ h => ?_, fun _ => hd, Around.frames_deeper e0.frames, .inr ⟨rfl, rfl⟩, fun b z => absurd z (noA b), e0.bs, e0.bsz, fun b _ _ => noA b, fun b z => absurd z (noA b), e0.funs, e0.frf⟩,
    rfl, e0.bare, Un.kept hk, ⟨_, x.toInCall.ns, fun i y v h1 h2 h3 => ?_⟩, fun y c h => ⟨_, x.cell y c h⟩, e0.hok.fresh (Nat.le_refl _), fun y c h => ?_, fun p hp => absurd (show p ∈ ([] : List (Addr × Obj)) from hp) (by simp), e0.hok.kept hk, ?_⟩
  · exact name_of_addr x.apart (PySem.mem_of_lookup h1) (PySem.mem_of_lookup h2)
  · have hy : scope.names.lookup y = some .cell ∨ scope.names.lookup y = some .free := hy
    rcases hy with hy | hy
    · exact cell_has hy
    · exact absurd rfl (S.nofree _ (PySem.mem_of_lookup hy))
  · exact Nat.le_of_lt (x.above y c (PySem.mem_of_lookup h))
  · have hi : i < vs.length := by
      unfold start at h2
      by_cases hi : i < vs.length
      · exact hi
      · rw [List.getElem?_append_right (by simpa using hi)] at h2
        rw [List.getElem?_replicate] at h2
        split at h2 <;> cases h2
    have ha : vs[i]? = some v := by
      unfold start at h2
      rw [List.getElem?_append_left (by simpa using hi), List.getElem?_map] at h2
      cases e : vs[i]? with
      | none => rw [e] at h2; cases h2
      | some a => rw [e] at h2; cases h2; rfl
    obtain ⟨u, hu, rv⟩ := r.get ha
    have hp : ps[i]? = some y := by
      rw [← S.pre, List.getElem?_take_of_lt (by omega)]; exact h1
    have ndP : ps.Nodup := by rw [← S.pre]; exact S.nd.sublist (List.take_sublist _ _)
    refine ⟨u, rv, ?_⟩
    rcases S.par y (List.mem_of_getElem? hp) with k | k
    · exact .inl ⟨k, bindL_get ndP hp hu k⟩
    · obtain ⟨c, e⟩ := cell_has (n := s.heap.objs.size + 1) k
      refine .inr ⟨.inl k, c, e, ?_⟩
      have q := x.cell y c e
      rw [bindC_get ndP hp hu (by show scope.names.lookup y ≠ _; rw [k]; decide)] at q
      exact q
  · exact e0.hok.fresh (Nat.le_of_lt (x.above y c (PySem.mem_of_lookup h)))
  · unfold start
    show _ = N.length
    rw [List.length_append, List.length_map, List.length_replicate]
    omega

theorem fn_of {CX : CXT} {P : Program} {w : World} {K : PySem.W.Frag} {mg : Str → Option Value} {base : Heap} {k : Nat} {f : Addr} {name qual : Str} {params : Arguments} {body : List Stmt} {scope : Scope} {dV kV doc pm cdv ct oc : Value} {an od : Option Addr}
    {osl : Array (Option Value)} {N ps : List Str} {sp : Sp} (lk : K.lookup f = some ⟨oc, od, .func (PySem.W.fnOf name qual params body scope dV kV doc pm an cdv ct), osl⟩) (hcd : PySem.W.codeIn K cdv qual = true) (S : FnScope N ps scope)
    (len : ∀ vs H Q E, sp vs H Q E → vs.length = ps.length)
    (hbody : ∀ (A : Around) (outer : List Env) (s : Shared) (H : Hp) (vs : List V) (Q : VK) (E : XK), Room k (A.deeper (envOfC qual scope s.heap.objs.size f cdv)) → sp vs H Q E →
      ∃ t, PSs (cxOf CX P w K mg base N qual scope f cdv A outer s H E) body t ∧ t { nx := fun _ H' => Q .non H', rt := Q } (start N vs) H) :
    FnOk P w K mg base CX (k + 1) f (PySem.W.fnOf name qual params body scope dV kV doc pm an cdv ct) ps sp := by
  refine ⟨len, fun A outer s H args us vs Q E hr e0 hb r hsp => ?_⟩
  have hl := len _ _ _ _ hsp
  have KX : K.In s.heap := e0.mod.kin.keeps fun b o e => (e0.bs b o e).1
  have lim : s.heap.NoLimit := e0.mod.nolimit.keeps fun b o e => (e0.bs b o e).1
  have hkind : ∀ y ∈ ps.zip us, scope.names.lookup y.1 = some .local ∨ (scope.names.lookup y.1 = some .cell ∧ ((cellsFrom (s.heap.objs.size + 1) scope.names []).lookup y.1).isSome = true) := fun ⟨n, v⟩ hy => by
    rcases S.par n (List.of_mem_zip hy).1 with q | q
    · exact .inl q
    · exact .inr ⟨q, PySem.W.cellsFrom_some _ _ _ (.inl q)⟩
  refine codeAny_call_function hr.depth (KX _ _ lk) rfl S.co S.gen rfl (PySem.W.codeRec_of KX hcd) (hb _ _ _ _ ?_)
  refine wpAny_newFunctionEnv_cells S.kind hkind fun env he s1 x => ?_
  subst he
  refine ⟨lim.keeps x.toInCall.keep, codeAny_func ?_⟩
  obtain ⟨t, ht, hq⟩ := hbody A outer s H vs Q E (hr.deeper _) hsp
  have I : Inv (cxOf CX P w K mg base N qual scope f cdv A outer s H E) [] (start N vs) H s1 := inv_start S hr.hd e0 hl r x
  refine wpAny_mono (ht [] s1 (start N vs) H _ I hq) (fun fl s' hs => ?_) fun e s' hs => hs
  have fin : ∀ {σ' : St} {H' : Hp} {v : V} {u : Value}, Inv (cxOf CX P w K mg base N qual scope f cdv A outer s H E) [] σ' H' s' → RelV v u → Q v H' → CE outer P w H s Q u s' :=
    fun {σ' H' v u} J rv q => ⟨v, H', J.os, J.bare, J.base, J.hok, rv, q⟩
  cases fl with
  | ret u =>
    obtain ⟨v, σ', H', J, rv, q⟩ := hs
    exact fin J rv q
  | next =>
    obtain ⟨σ', H', J, q⟩ := hs
    exact fin (v := V.non) (u := Value.none) J rfl q
  | brk =>
    obtain ⟨_, _, _, q⟩ := hs
    exact False.elim q
  | cont =>
    obtain ⟨_, _, _, q⟩ := hs
    exact False.elim q
end L2

namespace L2
open PySem PySem.Spec PyProof.Rows
section
variable {X : Cx} {x : Str} {p pos : Pos} {e : Expr} {es : List Expr} {t : TA} {id T : String} {r : List V → Hp → VK → Prop}

def tCB (r : List V → Hp → VK → Prop) (t : TA) : TE := fun σ H Q => t σ H fun vs H1 => r vs H1 Q
theorem pe_callB (hc : CallR X (.builtin id) r) (hg : Gl X x) (hm : X.mg x = none) (hv : bootBuiltins x = some (.builtin id)) (ha : PA X (e :: es) t) (hn : x ≠ "__name__" := by decide) (hdb : (x == ("__debug__" : Str)) = false := by decide)
    (he : starEach (e :: es) X.env = (false, eval e X.env) :: starEach es X.env := by rfl) (hpl : (backTo pos (starEach es X.env)).any (·.1) = false := by rfl) : PE X (.Call (.Name x p) (e :: es) [] pos) (tCB r t) := by
  intro pins s σ H Q I h
  refine wpAny_Call_Name_kw (ld_blt I hg hm hv ?_ hn hdb)
  exact PyProof.Rows.callWith_builtin1 (thn (ha pos pins s σ H _ I h) fun us s1 ⟨vs, H1, I1, r1, q1⟩ => hc pins s1 σ H1 vs us Q I1 r1 q1) he hpl
theorem pe_callTy (hc : CallR X (.type T) r) (hg : Gl X x) (hm : X.mg x = none) (hv : bootBuiltins x = some (.type T)) (ha : PA X (e :: es) t) (hn : x ≠ "__name__" := by decide) (hdb : (x == ("__debug__" : Str)) = false := by decide)
    (he : starEach (e :: es) X.env = (false, eval e X.env) :: starEach es X.env := by rfl) (hpl : (backTo pos (starEach es X.env)).any (·.1) = false := by rfl) : PE X (.Call (.Name x p) (e :: es) [] pos) (tCB r t) := by
  intro pins s σ H Q I h
  refine wpAny_Call_Name_kw (ld_blt I hg hm hv ?_ hn hdb)
  exact PyProof.Rows.callWith_type1 (thn (ha pos pins s σ H _ I h) fun us s1 ⟨vs, H1, I1, r1, q1⟩ => hc pins s1 σ H1 vs us Q I1 r1 q1) he hpl
end
end L2

namespace HT
open PySem PyProof.Rows

def lexLt : List Int → List Int → Bool
  | [], [] => false
  | [], _ :: _ => true
  | _ :: _, [] => false
  | x :: xs, y :: ys => if x = y then lexLt xs ys else decide (x < y)
theorem lexLt_cons (x y : Int) (xs ys : List Int) : lexLt (x :: xs) (y :: ys) = if x = y then lexLt xs ys else decide (x < y) := rfl
theorem lexLt_nil_nil : lexLt [] [] = false := rfl
theorem lexLt_nil_cons (y : Int) (ys : List Int) : lexLt [] (y :: ys) = true := rfl
theorem lexLt_cons_nil (x : Int) (xs : List Int) : lexLt (x :: xs) [] = false := rfl

theorem eqAt_int (A : Around) (s : Shared) (a : Int) (t : Tok) (c : Int) (u : Tok) : ∃ e, SeqAt.EqAt A s (.int a t) (.int c u) e ∧ (e = true ↔ a = c) :=
  ⟨(a == c), SeqAt.EqAt.int_int a t c u, by simp⟩
theorem rcLt_int (A : Around) (s : Shared) (a : Int) (t : Tok) (c : Int) (u : Tok) (prog : Program) (w : World) (E : Value → Shared → Prop) (Q : Value → Shared → Prop) (h : Q (.bool (decide (a < c))) s) :
    wpAny (model prog w) A (richCompare .Lt (.int a t) (.int c u)) Q E s :=
  (PyProof.Rows.lt_int h : wpAny (model prog w) A (compareOp .Lt (.int a t) (.int c u)) Q E s)

section
open PySem.SeqAt
open PySem.AutoSeq1 (wpAny_loadPart')
open PySem.MeetsSeq PySem.MeetsSeq2 PySem.MeetsSeq3

theorem tuple_lt_ints (l b : Addr) (items items2 : Array Value) (n n2 : Nat) (dd dd2 : Option Addr) (sl sl2 : Array (Option Value)) (ns ms : List Int) (hi : IntsAre items.toList ns) (hj : IntsAre items2.toList ms) :
    Meets (Builtin.«tuple.__lt__» ⟨[.ref l, .ref b], []⟩)
      (fun _ R s => s.heap.get? l = some { cls := .type "tuple", dict := dd, data := .seq items n, slots := sl } ∧ s.heap.get? b = some { cls := .type "tuple", dict := dd2, data := .seq items2 n2, slots := sl2 } ∧
        R (.ok (.ret (.bool (lexLt ns ms)))) s) :=
  .of_wp fun prog w A R s h => by
    obtain ⟨hp, g, d, tk, os⟩ := s; obtain ⟨hl, hb, h⟩ := h
    have f2 := AutoSeq1.sub_tuple_tuple
    have z1 : items.size = ns.length := by rw [← hi.length]; simp
    have z2 : items2.size = ms.length := by rw [← hj.length]; simp
    wp_walk using wpAny_loadPart' hl, wpAny_loadPart' hb, wpAny_forIn_list _ (fun rest b s' => b.1 = none ∧ s' = ⟨hp, g, d, tk, os⟩ ∧ ∃ (vs ws : List Value) (ns' ms' : List Int), rest = vs.zip ws ∧
      IntsAre vs ns' ∧ IntsAre ws ms' ∧ ns'.length + items2.size = ms'.length + items.size ∧ R (.ok (.ret (.bool (lexLt ns' ms')))) ⟨hp, g, d, tk, os⟩) _
    case turn =>
      rintro ⟨y, x⟩ rest b s' ⟨hb', rfl, vs, ws, ns', ms', hz, hvi, hwi, hlen, hR⟩
      cases hvi with
      | nil => rw [List.zip_nil_left] at hz; cases hz
      | cons a t hvi' =>
        cases hwi with
        | nil => rw [List.zip_nil_right] at hz; cases hz
        | cons c u hwi' =>
          rw [List.zip_cons_cons] at hz
          injection hz with hyx hrest
          injection hyx with hy hx
          subst hy hx
          rw [lexLt_cons] at hR
          simp only [List.length_cons] at hlen
          obtain ⟨e, he, hiff⟩ := eqAt_int A.in1 ⟨hp, g, d, tk, os⟩ a t c u
          refine wpAny_bind (he prog w _ _ ?_)
          cases e with
          | true =>
            rw [if_pos (hiff.mp rfl)] at hR
            wp_walk
            exact ⟨rfl, rfl, _, _, _, _, hrest, hvi', hwi', by omega, hR⟩
          | false =>
            rw [if_neg (fun q => absurd (hiff.mpr q) Bool.false_ne_true)] at hR
            have hri := rcLt_int A.in1 ⟨hp, g, d, tk, os⟩ a t c u prog w
            wp_walk using hri
            exact ⟨_, rfl, by simpa using hR⟩
    case fin =>
      rintro ⟨b1, b2⟩ s' ⟨hb', rfl, vs, ws, ns', ms', hz, hvi, hwi, hlen, hR⟩
      simp only at hb'
      subst hb'
      have hv : lexLt ns' ms' = decide (items.size < items2.size) := by
        cases hvi with
        | nil =>
          cases hwi with
          | nil =>
            simp only [List.length_nil] at hlen
            rw [lexLt_nil_nil]
            exact (decide_eq_false (by omega)).symm
          | cons c u hw =>
            simp only [List.length_nil, List.length_cons] at hlen
            rw [lexLt_nil_cons]
            exact (decide_eq_true (by omega)).symm
        | cons a t hv =>
          cases hwi with
          | nil =>
            simp only [List.length_nil, List.length_cons] at hlen
            rw [lexLt_cons_nil]
            exact (decide_eq_false (by omega)).symm
          | cons c u hw =>
            rw [List.zip_cons_cons] at hz
            cases hz
      rw [hv] at hR
      wp_walk
      exact ⟨_, rfl, by simpa [Builtin.Tuple.tupleCompareSizes] using hR⟩
    case h =>
      exact ⟨rfl, rfl, items.toList, items2.toList, ns, ms, rfl, hi, hj, by omega, h⟩
end

section
variable {prog : Program} {w : World} {A : Around} {E : Value → Shared → Prop} {s : Shared}

theorem lt_tupInts {l b : Addr} {items items2 : Array Value} {ns ms : List Int} {Q : Value → Shared → Prop} (hl : IsTup s.heap l items) (hb : IsTup s.heap b items2) (hi : IntsAre items.toList ns) (hj : IntsAre items2.toList ms)
    (hu : A.units < cLine) (h : Q (.bool (lexLt ns ms)) s) : wpAny (model prog w) A (compareOp .Lt (.ref l) (.ref b)) Q E s := by
  obtain ⟨⟨cls, dd, data, sl⟩, ho, hc, n, hd⟩ := id hl
  obtain ⟨⟨cls2, dd2, data2, sl2⟩, ho2, hc2, n2, hd2⟩ := id hb
  simp only at hc hd hc2 hd2
  subst hc hd hc2 hd2
  exact richCompare_meets_room (op := .Lt) ⟨_, ho, rfl⟩ ⟨_, ho2, rfl⟩ PySem.F.slot_tuple_lt PySem.F.entry_tuple_lt (PySem.F.args_tuple_lt_2 _ _) (tuple_lt_ints l b items items2 n n2 dd dd2 sl sl2 ns ms hi hj)
    ⟨ho, ho2, show Value.bool (lexLt ns ms) ≠ Value.notImplemented ∧ Q (.bool (lexLt ns ms)) s from ⟨(fun x => nomatch x), h⟩⟩ hu

theorem cat_tup {t b : Addr} {vs ws : List Value} {Q : Value → Shared → Prop} (ht : IsTup s.heap t vs.toArray) (hb : IsTup s.heap b ws.toArray) (hv : vs ≠ [])
    (h1 : ws = [] → Q (.ref t) s) (h2 : ws ≠ [] → Q (.ref s.heap.objs.size) { s with heap := s.heap.push { cls := .type "tuple", data := .seq (vs ++ ws).toArray } })
    (hsz : vs.length + ws.length ≤ sizeLine) : wpAny (model prog w) A (binaryOp .Add (.ref t) (.ref b)) Q E s := by
  obtain ⟨⟨cls, dd, data, sl⟩, ho, hc, n, hd⟩ := id ht
  obtain ⟨⟨cls2, dd2, data2, sl2⟩, ho2, hc2, n2, hd2⟩ := id hb
  simp only at hc hd hc2 hd2
  subst hc hd hc2 hd2
  have e : vs.toArray ++ ws.toArray = (vs ++ ws).toArray := by simp
  by_cases hw : ws = []
  · exact concat_meets ⟨_, ho, rfl⟩ ⟨_, ho2, rfl⟩ noFill_tuple_add seq_tuple_add PySem.F.slot_tuple_add PySem.F.entry_tuple_add (PySem.F.args_tuple_add_2 _ _)
      (tuple_addW1 t b vs.toArray ws.toArray n n2 dd dd2 sl sl2 (by simpa using hv) (by simp [hw])) ⟨ho, ho2, h1 hw⟩
  · refine concat_meets ⟨_, ho, rfl⟩ ⟨_, ho2, rfl⟩ noFill_tuple_add seq_tuple_add PySem.F.slot_tuple_add PySem.F.entry_tuple_add (PySem.F.args_tuple_add_2 _ _)
      (tuple_addW2 t b vs.toArray ws.toArray n n2 dd dd2 sl sl2 (by simpa using hv) (by simpa using hw) (by rw [List.size_toArray, List.size_toArray]; exact hsz)) ⟨ho, ho2, ?_⟩
    rw [e]
    exact h2 hw

def sIx (n d : Nat) : Option Int → Nat
  | none => d
  | some v => if v < 0 then (v + (n : Int)).toNat else min v.toNat n
theorem sIx_none (n d : Nat) : sIx n d none = d := rfl
theorem sIx_nat (n d k : Nat) : sIx n d (some (k : Int)) = min k n := by
  show (if (k : Int) < 0 then ((k : Int) + (n : Int)).toNat else min (k : Int).toNat n) = min k n
  rw [if_neg (by omega), Int.toNat_natCast]
theorem sIx_le (n d : Nat) (hd : d ≤ n) (o : Option Int) : sIx n d o ≤ n := by
  cases o with
  | none => exact hd
  | some v =>
    show (if v < 0 then (v + (n : Int)).toNat else min v.toNat n) ≤ n
    by_cases hv : v < 0
    · rw [if_pos hv]; omega
    · rw [if_neg hv]; exact Nat.min_le_right _ _
theorem clip_eq (v : Int) (n d : Nat) : (if v < 0 then max (v + (n : Int)) 0 else min v (n : Int)) = ((sIx n d (some v) : Nat) : Int) := by
  show (if v < 0 then max (v + (n : Int)) 0 else min v (n : Int)) = (((if v < 0 then (v + (n : Int)).toNat else min v.toNat n) : Nat) : Int)
  by_cases hv : v < 0
  · simp only [if_pos hv]; omega
  · simp only [if_neg hv]; omega
theorem adjust_gen (lo hi : Option Int) (n : Nat) : Builtin.Slice.sliceAdjust lo hi 1 (n : Int) = (((sIx n 0 lo : Nat) : Int), ((sIx n n hi : Nat) : Int)) := by
  have h1 : ¬ ((1 : Int) < 0) := by omega
  unfold Builtin.Slice.sliceAdjust
  simp only [h1, if_false]
  refine Prod.ext ?_ ?_
  · cases lo with
    | none => rfl
    | some v => exact clip_eq v n 0
  · cases hi with
    | none => rfl
    | some v => exact clip_eq v n n
theorem places_gen (i j : Nat) : Builtin.Slice.slicePlaces (i : Int) (j : Int) 1 = j - i := by
  unfold Builtin.Slice.slicePlaces
  have h1 : (1 : Int) > 0 := by omega
  simp only [h1, if_true, Int.ediv_one]
  split <;> omega
theorem slicePart_ {v : Value} {o : Option Int} {Q : Option Int → Shared → Prop} (p : IsPart v o) (h : Q o s) : wpAny (model prog w) A (Builtin.Slice.slicePartIndex v) Q E s := by
  cases p with
  | none => exact slicePart_none h
  | int i t => exact slicePart_int h
theorem sliceApplied_gen {sl : Addr} {vl vu : Value} {lo hi : Option Int} {n : Nat} {Q : Int × Int × Nat → Shared → Prop} (hs : s.heap.IsSliceOf sl vl vu .none) (pl : IsPart vl lo) (pu : IsPart vu hi)
    (h : Q (((sIx n 0 lo : Nat) : Int), 1, sIx n n hi - sIx n 0 lo) s) : wpAny (model prog w) A (Builtin.Slice.sliceApplied (.ref sl) (pure (n : Int))) Q E s := by
  obtain ⟨os, hos, hcs, hds⟩ := id hs
  unfold Builtin.Slice.sliceApplied Builtin.Slice.sliceFields
  refine wpAny_bind (wpAny_bind (wpAny_field hos hds (x := vl) rfl (wpAny_bind (wpAny_field hos hds (x := vu) rfl (wpAny_bind (wpAny_field hos hds (x := .none) rfl (wpAny_pure ?_)))))))
  refine wpAny_bind (slicePart_none ?_)
  show wpAny _ _ (if ((1 : Int) == 0) = true then _ else _) _ _ s
  rw [if_neg (by decide)]
  refine wpAny_bind (slicePart_ pl (wpAny_bind (slicePart_ pu (wpAny_bind (wpAny_pure ?_)))))
  show wpAny _ _ (match Builtin.Slice.sliceAdjust lo hi 1 (n : Int) with | (lo, hi) => pure (lo, (1 : Int), Builtin.Slice.slicePlaces lo hi 1)) _ _ s
  rw [adjust_gen lo hi n]
  show wpAny _ _ (pure (((sIx n 0 lo : Nat) : Int), (1 : Int), Builtin.Slice.slicePlaces ((sIx n 0 lo : Nat) : Int) ((sIx n n hi : Nat) : Int) 1)) _ _ s
  rw [places_gen]
  exact wpAny_pure h
theorem pick_gen (xs : Array Value) (i k : Nat) : ((List.range k).filterMap fun (m : Nat) => xs[((i : Int) + (m : Int) * 1).toNat]?).toArray = ((xs.toList.drop i).take k).toArray := by
  have e : (fun (m : Nat) => xs[((i : Int) + (m : Int) * 1).toNat]?) = fun m => xs[i + m]? := by
    funext m
    have : ((i : Int) + (m : Int) * 1).toNat = i + m := by omega
    rw [this]
  rw [e]
  have := pick_run xs i k
  rw [List.filterMap_map] at this
  have e2 : ((fun x => xs[x]?) ∘ fun x => i + x) = fun m => xs[i + m]? := rfl
  rw [e2] at this
  rw [this]

theorem getItem_tuple_cut {t sl : Addr} {items : Array Value} {vl vu : Value} {lo hi : Option Int} {Q : Value → Shared → Prop} (ht : IsTup s.heap t items) (hs : s.heap.IsSliceOf sl vl vu .none) (pl : IsPart vl lo) (pu : IsPart vu hi)
    (hw : ¬ (sIx items.size 0 lo = 0 ∧ sIx items.size items.size hi = items.size))
    (h : Q (.ref s.heap.objs.size) { s with heap := s.heap.push { cls := .type "tuple", data := .seq ((items.toList.drop (sIx items.size 0 lo)).take (sIx items.size items.size hi - sIx items.size 0 lo)).toArray } })
    (hsz : items.size ≤ sizeLine) : wpAny (model prog w) A (getItem (.ref t) (.ref sl)) Q E s := by
  have htake : sizeOk (.seq ((items.toList.drop (sIx items.size 0 lo)).take (sIx items.size items.size hi - sIx items.size 0 lo)).toArray) := by
    show ((items.toList.drop (sIx items.size 0 lo)).take (sIx items.size items.size hi - sIx items.size 0 lo)).toArray.size ≤ sizeLine
    rw [List.size_toArray, List.length_take, List.length_drop, Array.length_toList]
    omega
  have hj : sIx items.size items.size hi ≤ items.size := sIx_le _ _ (Nat.le_refl _) hi
  obtain ⟨os, hos, hcs, hds⟩ := id hs
  have hTs : s.TypeIs (.ref sl) "slice" := ⟨os, hos, hcs⟩
  unfold getItem
  try with_reducible refine wpAny_holding ?_
  first | refine wpAny_bind (wpAny_pure ?_) | skip
  refine wpAny_bind (wpAny_sequenceKey ht.typeIs (by decide) ?_)
  refine wpAny_bind (wpAny_callSpecial?_slot (name := Str.ofString "__getitem__") ht.typeIs PyProof.Rows.slot_tuple_getitem
    (wpAny_call_entry PyProof.Rows.slot_tuple_getitem ht.typeIs entry_tuple_getitem ?_ (args_tuple_getitem _ _)))
  show wpAny _ _ (Builtin.Tuple.tupleItemsOf (.ref t) >>= _) _ _ s
  refine wpAny_bind (tupleItemsOf_ ht ?_)
  refine wpAny_bind (wpAny_typeOf hTs ?_)
  rw [if_pos (by decide)]
  refine wpAny_bind (sliceApplied_gen hs pl pu ?_)
  have hno : ¬ ((((sIx items.size 0 lo : Nat) : Int) == 0 && (1 : Int) == 1 && (sIx items.size items.size hi - sIx items.size 0 lo) == items.size) = true) := by
    intro q
    rw [Bool.and_eq_true, Bool.and_eq_true] at q
    have q1 : ((sIx items.size 0 lo : Nat) : Int) = 0 := eq_of_beq q.1.1
    have q2 : sIx items.size items.size hi - sIx items.size 0 lo = items.size := eq_of_beq q.2
    exact hw ⟨by omega, by omega⟩
  show wpAny _ _ (if (((sIx items.size 0 lo : Nat) : Int) == 0 && (1 : Int) == 1 && (sIx items.size items.size hi - sIx items.size 0 lo) == items.size) = true then _ else _) _ _ s
  rw [if_neg hno, pick_gen]
  first
    | exact wpAny_bind (m := Builtin.Tuple.tupleExact _) (wpAny_newObj_type (wpAny_pure ⟨_, rfl, wpAny_pure h⟩) htake)
    | exact wpAny_bind (m := Builtin.Tuple.tupleExact _) (wpAny_newObj_type (wpAny_bind (wpAny_pure (wpAny_pure ⟨_, rfl, wpAny_pure h⟩))) htake)
    | exact wpAny_bind (wpAny_bind (m := Builtin.Tuple.tupleExact _) (wpAny_newObj_type (wpAny_pure (wpAny_pure ⟨_, rfl, wpAny_pure h⟩)) htake))
    | exact wpAny_bind (wpAny_bind (m := Builtin.Tuple.tupleExact _) (wpAny_newObj_type (wpAny_pure ⟨_, rfl, wpAny_pure h⟩) htake))
end
end HT

namespace L2
open PySem PySem.Spec PyProof.Rows

abbrev TO := St → Hp → (Option Int → Hp → Prop) → Prop
def PO (X : Cx) (e : Option Expr) (t : TO) : Prop :=
  ∀ (pins : List (Addr × Obj)) (s : Shared) (σ : St) (H : Hp) (Q : Option Int → Hp → Prop), Inv X pins σ H s → t σ H Q →
    wpAny (model X.prog X.w) X.A (evalPart e X.env) (fun u s' => ∃ o H', Inv X pins σ H' s' ∧ IsPart u o ∧ Q o H') X.xe s
def tNoPart : TO := fun _ H Q => Q none H
def tPart (t : TE) : TO := fun σ H Q => t σ H fun x H1 => ∃ i, x = .int i ∧ Q (some i) H1

theorem intsAre_of {ns : List Int} : ∀ {us : List Value}, Vals (ns.map V.int) us → IntsAre us ns := by
  induction ns with
  | nil => intro us r; rw [List.map_nil] at r; cases r; exact .nil
  | cons n ns ih =>
    intro us r
    rw [List.map_cons] at r
    cases r with
    | cons r1 r2 =>
      obtain ⟨t, e⟩ := r1
      subst e
      exact .cons n t (ih r2)

section
variable {X : Cx} {e : Expr} {te : TE} {lo hi : Option Expr} {tl th : TO} {pos p2 : Pos}

theorem po_none : PO X none tNoPart := by
  intro pins s σ H Q I h
  rw [evalPart_none]
  exact wpAny_pure ⟨none, H, I, .none, h⟩
theorem po_some (h : PE X e te) : PO X (some e) (tPart te) := by
  intro pins s σ H Q I hw
  rw [evalPart_some]
  refine thn (h pins s σ H _ I hw) fun u s1 ⟨x, H1, I1, r1, q1⟩ => ?_
  obtain ⟨i, rfl, q⟩ := q1
  obtain ⟨t, rfl⟩ := r1
  exact ⟨some i, H1, I1, .int i t, q⟩

def SlR (X : Cx) (r : V → Option Int → Option Int → Hp → VK → Prop) : Prop :=
  ∀ (pins : List (Addr × Obj)) (s : Shared) (σ : St) (H : Hp) (x : V) (v vl vu : Value) (lo hi : Option Int) (sl : Addr) (Q : VK), Inv X pins σ H s → RelV x v → s.heap.IsSliceOf sl vl vu .none → IsPart vl lo → IsPart vu hi → r x lo hi H Q →
    ∃ T id, typeLookup (.type T) "__getitem__" = pure (some (.builtin id)) ∧ s.TypeIs v T ∧ wpAny (model X.prog X.w) X.A (getItem v (.ref sl)) (EP X pins σ Q) X.xe s
theorem SlR.or {r r' : V → Option Int → Option Int → Hp → VK → Prop} (h : SlR X r) (h' : SlR X r') : SlR X (fun x lo hi H Q => r x lo hi H Q ∨ r' x lo hi H Q) := by
  intro pins s σ H x v vl vu lo hi sl Q I rx hs pl pu q
  rcases q with q | q
  · exact h pins s σ H x v vl vu lo hi sl Q I rx hs pl pu q
  · exact h' pins s σ H x v vl vu lo hi sl Q I rx hs pl pu q
def tSl (r : V → Option Int → Option Int → Hp → VK → Prop) (te : TE) (tl th : TO) : TE := fun σ H Q => te σ H fun x H1 => tl σ H1 fun l H2 => th σ H2 fun u H3 => r x l u H3 Q
theorem pe_slice {r : V → Option Int → Option Int → Hp → VK → Prop} (hr : SlR X r) (he : PE X e te) (hl : PO X lo tl) (hu : PO X hi th) : PE X (.Subscript e (.Slice lo hi none p2) pos) (tSl r te tl th) := by
  intro pins s σ H Q I h
  refine Subscript_ (thn (he pins s σ H _ I h) fun v s1 ⟨x, H1, I1, r1, q1⟩ => ?_)
  refine wpAny_Slice (thn (hl pins s1 σ H1 _ I1 q1) fun vl s2 ⟨l, H2, I2, pl, q2⟩ => thn (hu pins s2 σ H2 _ I2 q2) fun vu s3 ⟨u, H3, I3, pu, q3⟩ => ?_)
  rw [evalPart_none]
  refine wpAny_pure ?_
  have I4 : Inv X pins σ H3 { s3 with heap := s3.heap.push { cls := .type "slice", data := .fields #[vl, vu, .none] } } := I3.kept (t' := s3.toks) fun b ob q => Heap.get?_push_of_some _ q
  obtain ⟨T, id, hT, ht, hg⟩ := hr pins { s3 with heap := s3.heap.push { cls := .type "slice", data := .fields #[vl, vu, .none] } } σ H3 x v vl vu l u s3.heap.objs.size Q I4 r1 (Heap.IsSliceOf.new ..) pl pu q3
  show wpAny (model X.prog X.w) X.A (subscriptTail e (.Slice lo hi none p2) v (.ref s3.heap.objs.size)) (EP X pins σ Q) X.xe { s3 with heap := s3.heap.push { cls := .type "slice", data := .fields #[vl, vu, .none] } }
  exact tail_any (ops := [.ref s3.heap.objs.size, v]) ht hT hg (by with_unfolding_all rfl)

def cutV (xs : List V) (lo hi : Option Int) : List V := (xs.drop (HT.sIx xs.length 0 lo)).take (HT.sIx xs.length xs.length hi - HT.sIx xs.length 0 lo)
theorem cutV_length (xs : List V) (lo hi : Option Int) : (cutV xs lo hi).length ≤ xs.length := by
  unfold cutV
  rw [List.length_take, List.length_drop]
  omega
def rSlT (K : PySem.W.Frag) : V → Option Int → Option Int → Hp → VK → Prop := fun x lo hi H Q => ∃ a xs, x = .ref a ∧ SqT K H a xs ∧
  ¬ (HT.sIx xs.length 0 lo = 0 ∧ HT.sIx xs.length xs.length hi = xs.length) ∧ ∀ p, H p = none → Q (.ref p) (upd H p (.tup (cutV xs lo hi)))
theorem sl_tup : SlR X (rSlT X.K) := by
  intro pins s σ H x v vl vu lo hi sl Q I rx hs pl pu h
  obtain ⟨a, xs, rfl, hx, hw, q⟩ := h
  cases rx
  obtain ⟨its, r, ht, hz⟩ := I.tuple hx
  have hlen : its.toArray.size = xs.length := by rw [List.size_toArray]; exact r.length.symm
  refine ⟨"tuple", _, PyProof.Rows.slot_tuple_getitem.lookup, ht.typeIs, ?_⟩
  refine HT.getItem_tuple_cut ht hs pl pu (by rw [hlen]; exact hw) ?_ (by rw [hlen]; exact hz)
  rw [hlen]
  refine ⟨.ref s.heap.objs.size, _, I.laid (t' := s.toks) (o := .tup (cutV xs lo hi)) (fun b ob q => Heap.get?_push_of_some _ q) (Nat.le_refl _) ?_, rfl, q _ (I.hok.fresh (Nat.le_refl _))⟩
  exact ⟨Nat.le_trans (cutV_length xs lo hi) hz, _, (r.drop (HT.sIx xs.length 0 lo)).take (HT.sIx xs.length xs.length hi - HT.sIx xs.length 0 lo), IsTup.new _ _⟩

def rLtT (K : PySem.W.Frag) : R2 := fun x y H Q => ∃ a b ns ms, x = .ref a ∧ y = .ref b ∧ SqT K H a (ns.map V.int) ∧ SqT K H b (ms.map V.int) ∧ Q (.bl (HT.lexLt ns ms)) H
theorem op_ltT (hu : X.A.units < cLine) : OpR X (compareOp .Lt) (rLtT X.K) := by
  intro pins s σ H x y v u Q I rx ry h
  obtain ⟨a, b, ns, ms, rfl, rfl, ha, hb, q⟩ := h
  cases rx
  cases ry
  obtain ⟨its, r1, p1, _⟩ := I.tuple ha
  obtain ⟨its2, r2, p2, _⟩ := I.tuple hb
  have i1 : IntsAre its.toArray.toList ns := intsAre_of r1
  have i2 : IntsAre its2.toArray.toList ms := intsAre_of r2
  exact HT.lt_tupInts p1 p2 i1 i2 hu ⟨.bl (HT.lexLt ns ms), H, I, rfl, q⟩
theorem Vals.nil_iff {xs : List V} {us : List Value} (r : Vals xs us) : us = [] ↔ xs = [] := by
  cases r with
  | nil => simp
  | cons _ _ => simp
end
end L2

namespace L2
open PySem PySem.Spec PyProof.Rows

def ixN (n : Nat) (i : Int) : Option Nat := if 0 ≤ i then (if i < n then some i.toNat else none) else if -(n : Int) ≤ i then some (i + n).toNat else none
def atI {α : Type} (xs : List α) (i : Int) : Option α := (ixN xs.length i).bind fun j => xs[j]?
theorem ixN_seq {n : Nat} {i : Int} {j : Nat} (h : ixN n i = some j) : seqIndex? i n = some j ∧ j < n ∧ -(n : Int) ≤ i ∧ i < n := by
  unfold ixN at h
  by_cases h0 : 0 ≤ i
  · rw [if_pos h0] at h
    by_cases h1 : i < n
    · rw [if_pos h1] at h
      have e : i.toNat = j := Option.some.inj h
      exact ⟨by rw [seqIndex_of h0 h1, e], by omega, by omega, h1⟩
    · rw [if_neg h1] at h; cases h
  · rw [if_neg h0] at h
    by_cases h1 : -(n : Int) ≤ i
    · rw [if_pos h1] at h
      have e : (i + n).toNat = j := Option.some.inj h
      exact ⟨by rw [seqIndex_neg (by omega) h1, e], by omega, h1, by omega⟩
    · rw [if_neg h1] at h; cases h
theorem atI_get {α : Type} {xs : List α} {i : Int} {v : α} (h : atI xs i = some v) : ∃ j, seqIndex? i xs.length = some j ∧ xs[j]? = some v ∧ j < xs.length ∧ -(xs.length : Int) ≤ i ∧ i < xs.length := by
  unfold atI at h
  cases e : ixN xs.length i with
  | none => rw [e] at h; cases h
  | some j =>
    rw [e] at h
    obtain ⟨h1, h2, h3, h4⟩ := ixN_seq e
    exact ⟨j, h1, h, h2, h3, h4⟩
theorem atI_nat {α : Type} {xs : List α} {j : Nat} {v : α} (h : xs[j]? = some v) : atI xs (j : Int) = some v := by
  have hj : j < xs.length := (List.getElem?_eq_some_iff.mp h).1
  have e : ixN xs.length (j : Int) = some j := by
    unfold ixN
    rw [if_pos (by omega), if_pos (by omega)]; simp
  unfold atI; rw [e]; exact h
def PlainIx (b : Expr) : Prop := ∀ o i, subscripted b false o i = operate [o, i] (getItem o i)
def IxR (X : Cx) (r : R2) : Prop :=
  ∀ (value slice : Expr) (pins : List (Addr × Obj)) (s : Shared) (σ : St) (H : Hp) (x y : V) (v u : Value) (Q : VK), Inv X pins σ H s → RelV x v → RelV y u → r x y H Q →
    subscripted slice false v u = operate [v, u] (getItem v u) → wpAny (model X.prog X.w) X.A (subscriptTail value slice v u) (EP X pins σ Q) X.xe s
def MtR (X : Cx) (id : String) (r : V → List V → Hp → VK → Prop) : Prop :=
  ∀ (pins : List (Addr × Obj)) (s : Shared) (σ : St) (H : Hp) (x : V) (xs : List V) (v : Value) (us : List Value) (Q : VK), Inv X pins σ H s → RelV x v → Vals xs us → r x xs H Q →
    wpAny (model X.prog X.w) X.A (call (.builtin id) (v :: us)) (EP X pins σ Q) X.xe s
section
variable {X : Cx} {a b : Expr} {ta tb : TE} {pos : Pos}
theorem IxR.or {r r' : R2} (h : IxR X r) (h' : IxR X r') : IxR X (fun x y H Q => r x y H Q ∨ r' x y H Q) := by
  intro value slice pins s σ H x y v u Q I rx ry q hs
  rcases q with q | q
  · exact h value slice pins s σ H x y v u Q I rx ry q hs
  · exact h' value slice pins s σ H x y v u Q I rx ry q hs
theorem MtR.or {id : String} {r r' : V → List V → Hp → VK → Prop} (h : MtR X id r) (h' : MtR X id r') : MtR X id (fun x xs H Q => r x xs H Q ∨ r' x xs H Q) := by
  intro pins s σ H x xs v us Q I rx rs q
  rcases q with q | q
  · exact h pins s σ H x xs v us Q I rx rs q
  · exact h' pins s σ H x xs v us Q I rx rs q
theorem pe_ix {r : R2} (hr : IxR X r) (ha : PE X a ta) (hb : PE X b tb) (hs : PlainIx b) : PE X (.Subscript a b pos) (tOp r ta tb) := by
  intro pins s σ H Q I h
  exact Subscript_ (binT ha hb I h fun v u s2 x y H2 I2 rx ry q => hr a b pins s2 σ H2 x y v u Q I2 rx ry q (hs _ _))

def rIxL (K : PySem.W.Frag) : R2 := fun x y H Q => ∃ p xs i v, x = .ref p ∧ y = .int i ∧ SqL K H p xs ∧ atI xs i = some v ∧ Q v H
def rIxT (K : PySem.W.Frag) : R2 := fun x y H Q => ∃ p xs i v, x = .ref p ∧ y = .int i ∧ SqT K H p xs ∧ atI xs i = some v ∧ Q v H
def rIxS : R2 := fun x y H Q => ∃ z i c, x = .str z ∧ y = .int i ∧ z.length ≤ sizeLine ∧ atI z.cps.toList i = some c ∧ Q (.str ⟨#[c]⟩) H
theorem ix_list : IxR X (rIxL X.K) := by
  intro value slice pins s σ H x y v u Q I rx ry h hs
  obtain ⟨p, xs, i, z, rfl, rfl, hq, he, q⟩ := h
  cases rx
  obtain ⟨t, rfl⟩ := ry
  obtain ⟨its, r, pl, hz⟩ := I.list hq
  obtain ⟨j, h1, h2, h3, h4, h5⟩ := atI_get he
  obtain ⟨w, ew, rw'⟩ := r.get h2
  have hl := r.length
  have hn := line63
  have fin : EP X pins σ Q w s := ⟨z, H, I, rw', q⟩
  by_cases h0 : 0 ≤ i
  · have hj : i.toNat = j := by
      rw [seqIndex_of h0 h5] at h1
      exact Option.some.inj h1
    exact item_listR pl.isList h0 (by omega) (by rw [hj]; simpa using ew) fin hs
  · have hj : (i + (its.toArray.size : Int)).toNat = j := by
      rw [seqIndex_neg (by omega) h4] at h1
      rw [List.size_toArray, ← hl]
      exact Option.some.inj h1
    exact subscriptTail_builtinR (x := w) pl.isList.typeIs slot_list_getitem.lookup
      (wpAny_getItem_list_neg (Q := fun r s' => r = w ∧ EP X pins σ Q r s') pl.isList (by omega) (by rw [List.size_toArray] <;> omega) (by omega) (by rw [hj]; simpa using ew) ⟨rfl, fin⟩) hs
theorem ix_tup : IxR X (rIxT X.K) := by
  intro value slice pins s σ H x y v u Q I rx ry h hs
  obtain ⟨p, xs, i, z, rfl, rfl, hq, he, q⟩ := h
  cases rx
  obtain ⟨t, rfl⟩ := ry
  obtain ⟨its, r, pl, hz⟩ := I.tuple hq
  obtain ⟨j, h1, h2, h3, h4, h5⟩ := atI_get he
  obtain ⟨w, ew, rw'⟩ := r.get h2
  have hl := r.length
  have hn := line63
  have fin : EP X pins σ Q w s := ⟨z, H, I, rw', q⟩
  exact subscriptTail_builtinR (x := w) pl.typeIs slot_tuple_getitem.lookup
    (getItem_tuple (j := j) (Q := fun r s' => r = w ∧ EP X pins σ Q r s') pl (by omega) (by omega) (by rw [List.size_toArray, ← hl]; exact h1) (by simpa using ew) ⟨rfl, fin⟩) hs
theorem ix_str : IxR X rIxS := by
  intro value slice pins s σ H x y v u Q I rx ry h hs
  obtain ⟨z, i, c, rfl, rfl, hz, he, q⟩ := h
  obtain ⟨t, rfl⟩ := rx
  obtain ⟨t', rfl⟩ := ry
  obtain ⟨j, h1, h2, h3, h4, h5⟩ := atI_get he
  have hl : z.cps.toList.length = z.length := by simp [Str.length]
  rw [hl] at h1 h4 h5
  have hn := line63
  exact tail_any (typeIs_str s z t) slot_str_getitem.lookup (getItem_str (c := c) (by
    have e1 : decide (i < -(2 ^ 63 : Int)) = false := decide_eq_false (by omega)
    have e2 : decide (i ≥ 2 ^ 63) = false := decide_eq_false (by omega)
    rw [e1, e2, Bool.or_false]) (by rw [h1]; simpa using h2) ⟨.str ⟨#[c]⟩, H, I.tok _, ⟨_, rfl⟩, q⟩) hs
def rIx (K : PySem.W.Frag) : R2 := fun x y H Q => rIxL K x y H Q ∨ rIxT K x y H Q ∨ rIxS x y H Q
theorem ix_seq : IxR X (rIx X.K) := ix_list.or (ix_tup.or ix_str)

theorem mapSeq_set (its : List Value) (n j : Nat) (u : Value) : Obj.mapSeq (·.setIfInBounds j u) { cls := .type "list", data := .seq its.toArray n } = { cls := .type "list", data := .seq (its.set j u).toArray n } := by
  simp [Obj.mapSeq]
theorem Inv.lst {pins : List (Addr × Obj)} {σ : St} {H : Hp} {s : Shared} {p : Addr} {xs : List V} (I : Inv X pins σ H s) (h : H p = some (.lst xs)) :
    ∃ (its : List Value) (n : Nat), Vals xs its ∧ s.heap.get? p = some { cls := .type "list", data := .seq its.toArray n } ∧ xs.length ≤ sizeLine := by
  obtain ⟨z, its, n, r, e⟩ := I.hok p _ h
  exact ⟨its, n, r, e, z⟩
theorem Inv.lstUpd {pins : List (Addr × Obj)} {σ : St} {H : Hp} {s : Shared} {p : Addr} {xs ys : List V} {its its' : List Value} {n n' : Nat} {f : Obj → Obj} (I : Inv X pins σ H s) (h : H p = some (.lst xs))
    (ho : s.heap.get? p = some { cls := .type "list", data := .seq its.toArray n }) (hf : f { cls := .type "list", data := .seq its.toArray n } = { cls := .type "list", data := .seq its'.toArray n' }) (r : Vals ys its') (hz : ys.length ≤ sizeLine) (t : Nat) :
    Inv X pins σ (upd H p (.lst ys)) { s with heap := s.heap.update p f, toks := t } := by
  have e : (s.heap.update p f).get? p = some { cls := .type "list", data := .seq its'.toArray n' } := by
    rw [Heap.get?_update_self f ho (by rw [hf] <;> rfl), hf]
  refine I.write (x := p) (e := p) (by rw [h]; trivial) (.inl rfl) (fun b u hb q => (Heap.get?_update_other _ _ (Ne.symm hb)).trans q) ⟨_, e⟩ ?_
  exact ⟨hz, its', n', r, e⟩
def rSetL : V → V → V → Hp → (Hp → Prop) → Prop := fun o i v H Q => ∃ p xs k j, o = .ref p ∧ i = .int k ∧ H p = some (.lst xs) ∧ ixN xs.length k = some j ∧ Q (upd H p (.lst (xs.set j v)))
theorem set_list : PSet X rSetL := by
  intro pins s σ H o i v ov iv u Q I ro ri rv h
  obtain ⟨p, xs, k, j, rfl, rfl, hp, hj, q⟩ := h
  cases ro
  obtain ⟨t, rfl⟩ := ri
  obtain ⟨its, n, r, ho, hz⟩ := I.lst hp
  obtain ⟨h1, h2, h3, h4⟩ := ixN_seq hj
  have hl := r.length
  have hn := line63
  have I' : Inv X pins σ (upd H p (.lst (xs.set j v))) { s with heap := s.heap.update p (Obj.mapSeq (·.setIfInBounds j u)) } :=
    I.lstUpd hp ho (mapSeq_set its n j u) (r.set rv j) (by rw [List.length_set]; exact hz) s.toks
  by_cases h0 : 0 ≤ k
  · have hk : k.toNat = j := by
      rw [seqIndex_of h0 h4] at h1
      exact Option.some.inj h1
    exact PySem.W.ki_setAt ho h0 (by omega) (by rw [List.size_toArray, ← hl]; exact h4) (by rw [hk]; exact ⟨_, I', q⟩)
  · have hk : (k + (its.toArray.size : Int)).toNat = j := by
      rw [seqIndex_neg (by omega) h3] at h1
      rw [List.size_toArray, ← hl]
      exact Option.some.inj h1
    exact PySem.W.ki_setBack ho (by omega) (by rw [List.size_toArray, ← hl]; exact h3) (by omega) (by rw [hk]; exact ⟨_, I', q⟩)

theorem slice_bounds (lo hi : Option Int) (n : Nat) : (sliceBounds lo hi none n).1 = ((HT.sIx n 0 lo : Nat) : Int) ∧ (sliceBounds lo hi none n).2.1 = ((HT.sIx n n hi : Nat) : Int) ∧ (sliceBounds lo hi none n).2.2 = 1 := by
  refine ⟨?_, ?_, rfl⟩
  · cases lo with
    | none => simp [sliceBounds, HT.sIx]
    | some i =>
      simp only [sliceBounds, HT.sIx, Option.getD_none, show (1 : Int) > 0 by decide, if_true]
      by_cases h : i < 0
      · simp only [h, if_true] <;> omega
      · simp only [h, if_false] <;> omega
  · cases hi with
    | none => simp [sliceBounds, HT.sIx]
    | some i =>
      simp only [sliceBounds, HT.sIx, Option.getD_none, show (1 : Int) > 0 by decide, if_true]
      by_cases h : i < 0
      · simp only [h, if_true] <;> omega
      · simp only [h, if_false] <;> omega
theorem slicePick_cut (its : List Value) (lo hi : Option Int) : slicePick its.toArray lo hi none = ((its.drop (HT.sIx its.length 0 lo)).take (HT.sIx its.length its.length hi - HT.sIx its.length 0 lo)).toArray := by
  obtain ⟨h1, h2, h3⟩ := slice_bounds lo hi its.toArray.size
  unfold slicePick
  rw [h1, h2, h3]
  simp only [sliceRange_one, pick_run, List.size_toArray] <;> rfl
def rSlL (K : PySem.W.Frag) : V → Option Int → Option Int → Hp → VK → Prop := fun x lo hi H Q => ∃ a xs, x = .ref a ∧ SqL K H a xs ∧ ∀ p, H p = none → Q (.ref p) (upd H p (.lst (cutV xs lo hi)))
theorem sl_list : SlR X (rSlL X.K) := by
  intro pins s σ H x v vl vu lo hi sl Q I rx hs pl pu h
  obtain ⟨a, xs, rfl, hx, q⟩ := h
  cases rx
  obtain ⟨its, r, ht, hz⟩ := I.list hx
  have hlen := r.length
  refine ⟨"list", _, slot_list_getitem.lookup, ht.isList.typeIs, ?_⟩
  refine wpAny_getItem_list_slice ht.isList hs pl pu .none (by simp) ?_ (by rw [List.size_toArray] <;> omega)
  rw [slicePick_cut, ← hlen]
  refine ⟨.ref s.heap.objs.size, _, I.laid (t' := s.toks) (o := .lst (cutV xs lo hi)) (fun b ob q => Heap.get?_push_of_some _ q) (Nat.le_refl _) ?_, rfl, q _ (I.hok.fresh (Nat.le_refl _))⟩
  exact ⟨Nat.le_trans (cutV_length xs lo hi) hz, _, 0, (r.drop (HT.sIx xs.length 0 lo)).take (HT.sIx xs.length xs.length hi - HT.sIx xs.length 0 lo), Heap.get?_push_size _ rfl⟩

def flatV : V → Bool
  | .non => true
  | .bl _ => true
  | .int _ => true
  | .str _ => true
  | _ => false
def eqV : V → V → Bool
  | .non, .non => true
  | .bl a, .bl b => a == b
  | .bl a, .int b => (if a then 1 else 0) == b
  | .int a, .bl b => a == (if b then 1 else 0)
  | .int a, .int b => a == b
  | .str a, .str b => a == b
  | _, _ => false
theorem eqAt_V {A : Around} {s : Shared} {y x : V} {u v : Value} (ry : RelV y u) (rx : RelV x v) (fy : flatV y = true) (fx : flatV x = true) : SeqAt.EqAt A s u v (eqV y x) := by
  cases y with
  | non =>
    cases ry
    cases x with
    | non => cases rx; exact SeqAt.EqAt.same _
    | bl b => cases rx; exact SeqAt.EqAt.none_bool b
    | int b => obtain ⟨t, rfl⟩ := rx; exact SeqAt.EqAt.none_int b t
    | str b => obtain ⟨t, rfl⟩ := rx; exact SeqAt.EqAt.none_str b t
    | _ => exact absurd (show false = true from fx) Bool.false_ne_true
  | bl a =>
    cases ry
    cases x with
    | non => cases rx; exact SeqAt.EqAt.bool_none a
    | bl b => cases rx; exact SeqAt.EqAt.bool_bool a b
    | int b => obtain ⟨t, rfl⟩ := rx; exact SeqAt.EqAt.bool_int a b t
    | str b => obtain ⟨t, rfl⟩ := rx; exact SeqAt.EqAt.bool_str a b t
    | _ => exact absurd (show false = true from fx) Bool.false_ne_true
  | int a =>
    obtain ⟨t', rfl⟩ := ry
    cases x with
    | non => cases rx; exact SeqAt.EqAt.int_none a t'
    | bl b => cases rx; exact SeqAt.EqAt.int_bool a t' b
    | int b => obtain ⟨t, rfl⟩ := rx; exact SeqAt.EqAt.int_int a t' b t
    | str b => obtain ⟨t, rfl⟩ := rx; exact SeqAt.EqAt.int_str a t' b t
    | _ => exact absurd (show false = true from fx) Bool.false_ne_true
  | str a =>
    obtain ⟨t', rfl⟩ := ry
    cases x with
    | non => cases rx; exact SeqAt.EqAt.str_none a t'
    | bl b => cases rx; exact SeqAt.EqAt.str_bool a t' b
    | int b => obtain ⟨t, rfl⟩ := rx; exact SeqAt.EqAt.str_int a t' b t
    | str b => obtain ⟨t, rfl⟩ := rx; exact SeqAt.EqAt.str_str a t' b t
    | _ => exact absurd (show false = true from fx) Bool.false_ne_true
  | _ => exact absurd (show false = true from fy) Bool.false_ne_true
def eqU (x : V) (u : Value) : Bool := match u with
  | .none => eqV .non x
  | .bool b => eqV (.bl b) x
  | .int i _ => eqV (.int i) x
  | .str z _ => eqV (.str z) x
  | _ => false
theorem eqU_of {x y : V} {u : Value} (r : RelV y u) (f : flatV y = true) : eqU x u = eqV y x := by
  cases y with
  | non => cases r; rfl
  | bl b => cases r; rfl
  | int i => obtain ⟨t, rfl⟩ := r; rfl
  | str z => obtain ⟨t, rfl⟩ := r; rfl
  | _ => exact absurd (show false = true from f) Bool.false_ne_true
theorem any_eqU {x : V} : ∀ {xs : List V} {us : List Value}, Vals xs us → xs.all flatV = true → us.any (eqU x) = xs.any fun y => eqV y x
  | _, _, .nil, _ => rfl
  | y :: xs, u :: us, .cons r t, f => by
    rw [List.all_cons, Bool.and_eq_true] at f
    rw [List.any_cons, List.any_cons, eqU_of r f.1, any_eqU t f.2]
theorem mem_eqAt {A : Around} {s : Shared} {x : V} {v : Value} (rx : RelV x v) (fx : flatV x = true) : ∀ {xs : List V} {us : List Value}, Vals xs us → xs.all flatV = true → ∀ u ∈ us, SeqAt.EqAt A s u v (eqU x u)
  | _, _, .nil, _ => fun u hu => by cases hu
  | y :: xs, u :: us, .cons r t, f => fun u' hu => by
    rw [List.all_cons, Bool.and_eq_true] at f
    rcases List.mem_cons.mp hu with rfl | hu
    · rw [eqU_of r f.1]; exact eqAt_V r rx f.1 fx
    · exact mem_eqAt rx fx t f.2 u' hu
def inV (x : V) (xs : List V) : Bool := xs.any fun y => eqV y x
def rIn (K : PySem.W.Frag) (neg : Bool) : R2 := fun x y H Q => ∃ p xs, y = .ref p ∧ (SqL K H p xs ∨ SqT K H p xs) ∧ flatV x = true ∧ xs.all flatV = true ∧ Q (.bl (if neg then !inV x xs else inV x xs)) H
theorem op_in_seq : OpR X (compareOp .In) (rIn X.K false) := by
  intro pins s σ H x y v u Q I rx ry h
  obtain ⟨p, xs, rfl, hq, fx, fs, q⟩ := h
  cases ry
  rcases hq with hq | hq
  · obtain ⟨its, r, pl, hz⟩ := I.list hq
    refine SeqAt.in_listAt (eqU x) pl.isList (fun w hw => mem_eqAt rx fx r fs w (by simpa using hw)) ⟨.bl _, H, I, rfl, ?_⟩
    rw [show its.toArray.any (eqU x) = its.any (eqU x) by simp, any_eqU r fs]
    exact q
  · obtain ⟨its, r, pl, hz⟩ := I.tuple hq
    refine SeqAt.in_tupleAt (eqU x) pl (fun w hw => mem_eqAt rx fx r fs w (by simpa using hw)) ⟨.bl _, H, I, rfl, ?_⟩
    rw [show its.toArray.any (eqU x) = its.any (eqU x) by simp, any_eqU r fs]
    exact q
theorem call_len_seq : CallR X (.builtin "len") (fun xs H Q => ∃ p ys, xs = [.ref p] ∧ (SqL X.K H p ys ∨ SqT X.K H p ys) ∧ Q (.int ys.length) H) := by
  intro pins s σ H xs us Q I r h
  obtain ⟨p, ys, rfl, hq, q⟩ := h
  obtain ⟨u, rfl, rx⟩ := vals1 r
  cases rx
  have hn := line63
  rcases hq with hq | hq
  · obtain ⟨its, r', pl, hz⟩ := I.list hq
    have hlen := r'.length
    exact Calls.call_len_list pl.isList (by simp only [List.size_toArray] <;> omega) ⟨.int ys.length, H, I.tok _, ⟨s.toks + 1, by rw [List.size_toArray, hlen]⟩, q⟩
  · obtain ⟨its, r', pl, hz⟩ := I.tuple hq
    have hlen := r'.length
    exact len_tuple pl (by simp only [List.size_toArray] <;> omega) ⟨.int ys.length, H, I.tok _, ⟨s.toks + 1, by rw [List.size_toArray, hlen]⟩, q⟩
theorem call_len_str : CallR X (.builtin "len") (fun xs H Q => ∃ z, xs = [.str z] ∧ z.length ≤ sizeLine ∧ Q (.int z.length) H) := by
  intro pins s σ H xs us Q I r h
  obtain ⟨z, rfl, hz, q⟩ := h
  obtain ⟨u, rfl, t, rfl⟩ := vals1 r
  have hn := line63
  exact len_str (by omega) ⟨.int z.length, H, I.tok _, ⟨_, rfl⟩, q⟩
theorem CallR.or {f : Value} {r r' : List V → Hp → VK → Prop} (h : CallR X f r) (h' : CallR X f r') : CallR X f (fun xs H Q => r xs H Q ∨ r' xs H Q) := by
  intro pins s σ H xs us Q I rs q
  rcases q with q | q
  · exact h pins s σ H xs us Q I rs q
  · exact h' pins s σ H xs us Q I rs q
theorem call_list_of : CallR X (.type "list") (fun xs H Q => ∃ p ys, xs = [.ref p] ∧ (SqL X.K H p ys ∨ SqT X.K H p ys) ∧ ∀ l, H l = none → Q (.ref l) (upd H l (.lst ys))) := by
  intro pins s σ H xs us Q I r h
  obtain ⟨p, ys, rfl, hq, q⟩ := h
  obtain ⟨u, rfl, rx⟩ := vals1 r
  cases rx
  have fin : ∀ (its : List Value), Vals ys its → ys.length ≤ sizeLine → ∀ (h' : Heap) (c' : Nat), (∀ b o', s.heap.get? b = some o' → h'.get? b = some o') →
      h'.get? s.heap.objs.size = some { cls := .type "list", dict := none, data := .seq its.toArray c', slots := #[] } → EP X pins σ Q (.ref s.heap.objs.size) { s with heap := h' } := fun its r' hz h' c' kp e =>
    ⟨.ref s.heap.objs.size, _, I.laid (t' := s.toks) kp (Nat.le_refl _) (show ObjOk X.prog X.w _ h' _ (.lst ys) from ⟨hz, its, c', r', e⟩), rfl, q _ (I.hok.fresh (Nat.le_refl _))⟩
  rcases hq with hq | hq
  · obtain ⟨its, r', pl, hz⟩ := I.list hq
    have hlen := r'.length
    obtain ⟨o, ho, hc, n, hd⟩ := pl.isList
    exact call_list_seq p (.inl rfl) ho hc hd (fun h' c' kp e => fin its r' hz h' c' kp e) (by simp only [List.size_toArray] <;> omega)
  · obtain ⟨its, r', pl, hz⟩ := I.tuple hq
    have hlen := r'.length
    obtain ⟨o, ho, hc, n, hd⟩ := pl
    exact call_list_seq p (.inr rfl) ho hc hd (fun h' c' kp e => fin its r' hz h' c' kp e) (by simp only [List.size_toArray] <;> omega)
theorem call_tuple_of : CallR X (.type "tuple") (fun xs H Q => ∃ p ys, xs = [.ref p] ∧ ((SqL X.K H p ys ∧ ∀ l, H l = none → Q (.ref l) (upd H l (.tup ys))) ∨ (SqT X.K H p ys ∧ Q (.ref p) H))) := by
  intro pins s σ H xs us Q I r h
  obtain ⟨p, ys, rfl, h⟩ := h
  obtain ⟨u, rfl, rx⟩ := vals1 r
  cases rx
  rcases h with ⟨hq, q⟩ | ⟨hq, q⟩
  · obtain ⟨its, r', pl, hz⟩ := I.list hq
    have hlen := r'.length
    refine call_tuple_list pl.isList (fun h' kp => ?_) (by simp only [List.size_toArray] <;> omega)
    have I1 : Inv X pins σ H { s with heap := h' } := I.kept (t' := s.toks) kp
    have I2 : Inv X pins σ (upd H h'.objs.size (.tup ys)) { s with heap := h'.push { cls := .type "tuple", data := .seq its.toArray } } :=
      I1.laid (t' := s.toks) (fun b o e => Heap.get?_push_of_some _ e) (Nat.le_refl _) (show ObjOk X.prog X.w _ _ _ (.tup ys) from ⟨hz, its, r', IsTup.new _ _⟩)
    exact ⟨.ref h'.objs.size, _, I2, rfl, q _ (I1.hok.fresh (Nat.le_refl _))⟩
  · obtain ⟨its, r', pl, hz⟩ := I.tuple hq
    exact call_tuple_same pl ⟨.ref p, H, I, rfl, q⟩

def tyV (K : PySem.W.Frag) (T : String) (x : V) (H : Hp) : Prop := match x with
  | .str _ => T = "str"
  | .int _ => T = "int"
  | .ref p => (T = "list" ∧ ∃ xs, SqL K H p xs) ∨ (T = "tuple" ∧ ∃ o, K.lookup p = some o ∧ o.cls = .type "tuple" ∧ o.dict = none) ∨
      (T = "dict" ∧ ((∃ kvs, H p = some (.dK kvs)) ∨ ∃ kvs, H p = some (.dT kvs))) ∨ (T = "set" ∧ ∃ S n, H p = some (.set S n))
  | _ => False
theorem tyV_is {pins : List (Addr × Obj)} {σ : St} {H : Hp} {s : Shared} {T : String} {x : V} {v : Value} (I : Inv X pins σ H s) (r : RelV x v) (ty : tyV X.K T x H) :
    s.TypeIs v T ∧ ∀ a, v = .ref a → ∃ ob, s.heap.get? a = some ob ∧ ob.dict = none := by
  cases x with
  | str z =>
    obtain ⟨t, rfl⟩ := r
    cases (show T = "str" from ty)
    exact ⟨typeIs_str s z t, fun _ e => nomatch e⟩
  | int i =>
    obtain ⟨t, rfl⟩ := r
    cases (show T = "int" from ty)
    exact ⟨typeIs_int s i t, fun _ e => nomatch e⟩
  | ref p =>
    cases r
    rcases ty with ⟨rfl, xs, hq⟩ | ⟨rfl, o, hk, hc, hd⟩ | ⟨rfl, hk⟩ | ⟨rfl, S, n, hk⟩
    · obtain ⟨its, _, pl, _⟩ := I.list hq
      refine ⟨pl.isList.typeIs, fun a e => ?_⟩
      cases e
      obtain ⟨o, n, e, c, hd, _⟩ := pl
      exact ⟨o, e, hd⟩
    · refine ⟨⟨o, I.kIn p o hk, hc⟩, fun a e => ?_⟩
      cases e
      exact ⟨o, I.kIn _ o hk, hd⟩
    · have z : ∃ o, s.heap.get? p = some o ∧ o.ExactDict := by
        rcases hk with ⟨kvs, hk⟩ | ⟨kvs, hk⟩
        · obtain ⟨_, _, _, _, o, _, _, e, ex, _⟩ := I.hok p _ hk
          exact ⟨o, e, ex⟩
        · obtain ⟨_, _, _, _, o, _, _, e, ex, _⟩ := I.hok p _ hk
          exact ⟨o, e, ex⟩
      obtain ⟨o, e, ex⟩ := z
      refine ⟨⟨o, e, ex.1⟩, fun a e2 => ?_⟩
      cases e2
      exact ⟨o, e, ex.2.1⟩
    · obtain ⟨o, _, _, _, e, ex, _⟩ := I.hok p _ hk
      refine ⟨⟨o, e, ex.1⟩, fun a e2 => ?_⟩
      cases e2
      exact ⟨o, e, ex.2.1⟩
  | _ => exact False.elim ty
def tBM0 (K : PySem.W.Frag) (T : String) (r : V → List V → Hp → VK → Prop) (to : TE) : TE := fun σ H Q => to σ H fun x H1 => tyV K T x H1 ∧ r x [] H1 Q
def tBM (K : PySem.W.Frag) (T : String) (r : V → List V → Hp → VK → Prop) (to : TE) (t : TA) : TE := fun σ H Q => to σ H fun x H1 => tyV K T x H1 ∧ t σ H1 fun xs H2 => r x xs H2 Q
variable {o e : Expr} {es : List Expr} {to : TE} {t : TA} {name : Str} {apos cpos : Pos} {T id : String} {r : V → List V → Hp → VK → Prop}
theorem pe_bm0 (pa : PlainAttrs T) (slot : Slot T name id) (hty : typeOf (.builtin id) = pure (.type "method_descriptor")) (hm : MtR X id r) (ho : PE X o to)
    (hbase : attributeBase o name X.env (eval o X.env) = eval o X.env := by rfl) (hline : (apos.endLine == cpos.line) = true := by rfl) : PE X (.Call (.Attribute o name apos) [] [] cpos) (tBM0 X.K T r to) := by
  intro pins s σ H Q I h
  refine wpAny_Call_method0_late hbase hline (thn (ho pins s σ H _ I h) fun v s1 ⟨x, H1, I1, r1, ty, q1⟩ => ?_)
  obtain ⟨h1, h2⟩ := tyV_is I1 r1 ty
  exact ⟨T, id, pa, slot, hty, h1, h2, Calls.callWith_builtin rfl (PySem.evalArgs_none (hm pins s1 σ H1 x [] v [] Q I1 r1 .nil q1))⟩
theorem pe_bm (pa : PlainAttrs T) (slot : Slot T name id) (hty : typeOf (.builtin id) = pure (.type "method_descriptor")) (hm : MtR X id r) (ho : PE X o to) (ha : PA X (e :: es) t)
    (hbase : attributeBase o name X.env (eval o X.env) = eval o X.env := by rfl)
    (hfew : ((backTo cpos (starEach (e :: es) X.env)).all (fun x => !x.1) && (backToKw cpos (keywordEach [] X.env)).all (fun x => x.1.isSome)
      && decide ((e :: es).length + ([] : List Keyword).length + (if ([] : List Keyword).isEmpty then 0 else 1) < 30)) = true := by rfl)
    (hline : (apos.endLine == cpos.line) = true := by rfl) (hs : starEach (e :: es) X.env = (false, eval e X.env) :: starEach es X.env := by rfl) (hplain : (backTo cpos (starEach es X.env)).any (·.1) = false := by rfl) :
    PE X (.Call (.Attribute o name apos) (e :: es) [] cpos) (tBM X.K T r to t) := by
  intro pins s σ H Q I h
  refine wpAny_Call_method_late hbase hfew hline rfl (thn (ho pins s σ H _ I h) fun v s1 ⟨x, H1, I1, r1, ty, q1⟩ => ?_)
  obtain ⟨h1, h2⟩ := tyV_is I1 r1 ty
  refine ⟨T, id, pa, slot, hty, h1, h2, ?_⟩
  have hA := ha cpos pins s1 σ H1 _ I1 q1
  rw [hs] at hA ⊢
  refine Calls.callWith_builtin (by show (false || (backTo cpos (starEach es X.env)).any (·.1)) = false; rw [hplain] <;> rfl) (Calls.evalArgs_plain ?_)
  exact thn hA fun us s2 ⟨vs, H2, I2, r2, q2⟩ => hm pins s2 σ H2 x vs v us Q I2 r1 r2 q2
end
end L2

namespace L2
open PySem PySem.Spec PyProof.Rows

def MtM (X : Cx) (id : String) (r : V → List V → Hp → VK → Prop) : Prop :=
  ∀ (pins : List (Addr × Obj)) (s : Shared) (σ : St) (H : Hp) (x : V) (xs : List V) (v : Value) (us : List Value) (Q : VK), Inv X pins σ H s → RelV x v → Vals xs us → r x xs H Q →
    wpAny (model X.prog X.w) X.A (call (.builtin id) (v :: us)) (EP X pins σ Q) X.xe s

theorem Vals.one : ∀ {x : V} {us : List Value}, Vals [x] us → ∃ u, us = [u] ∧ RelV x u
  | _, _, .cons r .nil => ⟨_, rfl, r⟩
theorem Vals.zero : ∀ {us : List Value}, Vals [] us → us = []
  | _, .nil => rfl
theorem Vals.dropLast {xs : List V} {us : List Value} (h : Vals xs us) : Vals xs.dropLast us.dropLast := by
  induction h with
  | nil => exact .nil
  | cons r t ih =>
    cases t with
    | nil => exact .nil
    | cons q t' => exact .cons r ih
theorem Vals.eraseIdx : ∀ {xs : List V} {us : List Value} (i : Nat), Vals xs us → Vals (xs.eraseIdx i) (us.eraseIdx i)
  | _, _, _, .nil => .nil
  | _, _, 0, .cons _ t => t
  | _, _, i + 1, .cons r t => .cons r (Vals.eraseIdx i t)
theorem Vals.reverse {xs : List V} {us : List Value} (h : Vals xs us) : Vals xs.reverse us.reverse := by
  induction h with
  | nil => exact .nil
  | cons r t ih => rw [List.reverse_cons, List.reverse_cons]; exact Vals.append ih (.cons r .nil)
theorem Vals.rep {xs : List V} {us : List Value} (h : Vals xs us) : ∀ k : Nat, Vals (List.replicate k xs).flatten (List.replicate k us).flatten
  | 0 => .nil
  | k + 1 => by
    rw [List.replicate_succ, List.replicate_succ, List.flatten_cons, List.flatten_cons]
    exact Vals.append h (Vals.rep h k)
theorem erase_last {α : Type} (l : List α) : l.eraseIdx (l.length - 1) = l.dropLast := by
  induction l with
  | nil => rfl
  | cons a r ih =>
    cases r with
    | nil => rfl
    | cons b r =>
      have e : (a :: b :: r).length - 1 = ((b :: r).length - 1) + 1 := by
        have h1 : (a :: b :: r).length = r.length + 2 := rfl
        have h2 : (b :: r).length = r.length + 1 := rfl
        omega
      rw [e, List.eraseIdx_cons_succ, ih]
      all_goals rfl
theorem foldl_rep (its : List Value) : ∀ (k : Nat) (acc : List Value),
    List.foldl (fun x1 x2 => x1 ++ x2) acc.toArray (List.replicate k its.toArray) = (acc ++ (List.replicate k its).flatten).toArray
  | 0, acc => by simp
  | k + 1, acc => by
    have e : acc.toArray ++ its.toArray = (acc ++ its).toArray := by simp
    have e2 : (acc ++ its) ++ (List.replicate k its).flatten = acc ++ (List.replicate (k + 1) its).flatten := by
      rw [List.replicate_succ, List.flatten_cons, List.append_assoc]
    rw [← e2, ← foldl_rep its k (acc ++ its), ← e, List.replicate_succ, List.foldl_cons]

section
variable {X : Cx} {pins : List (Addr × Obj)} {σ : St} {H : Hp} {s : Shared} {l b : Addr} {xs ys zs : List V}

theorem Inv.lset {its its' : List Value} {n : Nat} {f : Array Value → Array Value} {t' : Nat} (I : Inv X pins σ H s) (hH : H l = some (.lst xs))
    (e : s.heap.get? l = some { cls := .type "list", data := .seq its.toArray n }) (hf : f its.toArray = its'.toArray) (hv : Vals ys its') (hz : ys.length ≤ sizeLine) :
    Inv X pins σ (upd H l (.lst ys)) { s with heap := s.heap.update l (Obj.mapSeq f), toks := t' } := by
  have q := PySem.IsL.update e f
  rw [hf] at q
  refine I.write (x := l) (e := l) (by rw [hH]; exact trivial) (.inl rfl) (fun b' u hb hu => (Heap.get?_update_other s.heap (Obj.mapSeq f) (Ne.symm hb)).trans hu) ⟨_, q⟩ ?_
  exact ⟨hz, its', _, hv, q⟩
theorem Inv.lnew {its : List Value} {t' : Nat} (I : Inv X pins σ H s) (hv : Vals ys its) (hz : ys.length ≤ sizeLine) :
    Inv X pins σ (upd H s.heap.objs.size (.lst ys)) { s with heap := s.heap.push { cls := .type "list", data := .seq its.toArray }, toks := t' } :=
  I.laid (fun _ _ q => Heap.get?_push_of_some _ q) (Nat.le_refl _) ⟨hz, its, 0, hv, Heap.get?_push_size _ rfl⟩
theorem Inv.fresh (I : Inv X pins σ H s) : H s.heap.objs.size = none := I.hok.fresh (Nat.le_refl _)
theorem Inv.lstM (I : Inv X pins σ H s) (hH : H l = some (.lst xs)) : xs.length ≤ sizeLine ∧ ∃ (its : List Value) (n : Nat), Vals xs its ∧ xs.length = its.length ∧ s.heap.get? l = some { cls := .type "list", data := .seq its.toArray n } := by
  obtain ⟨z, its, n, r, e⟩ := I.hok l _ hH
  exact ⟨z, its, n, r, r.length, e⟩

theorem notLongL {n : Nat} (h : n ≤ sizeLine) : Builtin.List.listTooLong n = false := by
  unfold Builtin.List.listTooLong
  exact decide_eq_false (by omega)
end

section
variable {X : Cx}

def rAppend : V → List V → Hp → VK → Prop := fun x vs H Q => ∃ l xs y, x = .ref l ∧ vs = [y] ∧ H l = some (.lst xs) ∧ xs.length < sizeLine ∧ Q .non (upd H l (.lst (xs ++ [y])))
theorem mt_append : MtM X "list.append" rAppend := by
  intro pins s σ H x vs v us Q I rx rv h
  obtain ⟨l, xs, y, rfl, rfl, hH, hz, q⟩ := h
  cases rx
  obtain ⟨u, rfl, ru⟩ := rv.one
  obtain ⟨z, its, n, r, hl, e⟩ := I.lstM hH
  refine call_meets F.slot_list_append ⟨_, e, rfl⟩ F.entry_list_append (F.args_list_append_2 _ _) (PySem.list_append l its.toArray n u (by rw [List.size_toArray]; omega)) ⟨e, ?_⟩
  refine ⟨.non, _, I.lset (its' := its ++ [u]) hH e (by simp) (r.append (.cons ru .nil)) ?_, rfl, q⟩
  rw [List.length_append, List.length_singleton]
  omega

def rPop : V → List V → Hp → VK → Prop := fun x vs H Q => ∃ l xs y, x = .ref l ∧ vs = [] ∧ H l = some (.lst xs) ∧ xs[xs.length - 1]? = some y ∧ Q y (upd H l (.lst xs.dropLast))
theorem mt_pop : MtM X "list.pop" rPop := by
  intro pins s σ H x vs v us Q I rx rv h
  obtain ⟨l, xs, y, rfl, rfl, hH, hy, q⟩ := h
  cases rx
  have hus := rv.zero
  subst hus
  obtain ⟨z, its, n, r, hl, e⟩ := I.lstM hH
  obtain ⟨u, hu, ru⟩ := r.get hy
  have hy' : its.toArray[its.toArray.size - 1]? = some u := by
    show its.toArray[its.length - 1]? = some u
    rw [← Array.getElem?_toList, ← hl]
    exact hu
  refine call_meets F.slot_list_pop ⟨_, e, rfl⟩ F.entry_list_pop (F.args_list_pop_1 _) (MeetsSeq.list_pop_last l its.toArray n u hy' (by rw [List.size_toArray]; omega)) ⟨e, ?_⟩
  refine ⟨y, _, I.lset (its' := its.dropLast) hH e ?_ r.dropLast ?_, ru, q⟩
  · show its.toArray.eraseIdxIfInBounds (its.toArray.size - 1) = its.dropLast.toArray
    rw [List.size_toArray, List.eraseIdxIfInBounds_toArray, erase_last]
  · rw [List.length_dropLast]
    omega

def rCat : R2 := fun x y H Q => ∃ l b xs zs, x = .ref l ∧ y = .ref b ∧ H l = some (.lst xs) ∧ H b = some (.lst zs) ∧ xs.length + zs.length ≤ sizeLine ∧ ∀ p, H p = none → Q (.ref p) (upd H p (.lst (xs ++ zs)))
theorem op_cat : OpR X (binaryOp .Add) rCat := by
  intro pins s σ H x y v u Q I rx ry h
  obtain ⟨l, b, xs, zs, rfl, rfl, hH, hB, hz, q⟩ := h
  cases rx
  cases ry
  obtain ⟨z, its, n, r, hl, e⟩ := I.lstM hH
  obtain ⟨z2, its2, n2, r2, hl2, e2⟩ := I.lstM hB
  refine PySem.P.add_list e e2 ?_ (by rw [List.size_toArray, List.size_toArray]; omega)
  have ea : its.toArray ++ its2.toArray = (its ++ its2).toArray := by simp
  rw [ea]
  exact ⟨.ref _, _, I.lnew (t' := s.toks) (r.append r2) (by rw [List.length_append]; omega), rfl, q _ I.fresh⟩
def rRep : R2 := fun x y H Q => ∃ l k xs, x = .ref l ∧ y = .int k ∧ H l = some (.lst xs) ∧ -(2 ^ 63) ≤ k ∧ k < 2 ^ 63 ∧ xs.length * k.toNat ≤ sizeLine ∧
  ∀ p, H p = none → Q (.ref p) (upd H p (.lst (List.replicate k.toNat xs).flatten))
theorem len_rep {α : Type} (xs : List α) (k : Nat) : (List.replicate k xs).flatten.length = k * xs.length := by
  induction k with
  | zero => simp
  | succ k ih => rw [List.replicate_succ, List.flatten_cons, List.length_append, ih, Nat.succ_mul, Nat.add_comm]
theorem op_rep : OpR X (binaryOp .Mult) rRep := by
  intro pins s σ H x y v u Q I rx ry h
  obtain ⟨l, k, xs, rfl, rfl, hH, h1, h2, hz, q⟩ := h
  cases rx
  obtain ⟨t, rfl⟩ := ry
  obtain ⟨z, its, n, r, hl, e⟩ := I.lstM hH
  have hlen : its.toArray.size * k.toNat ≤ sizeLine := by rw [List.size_toArray, ← hl]; exact hz
  have hcap : ¬ its.toArray.size * k.toNat > (2 ^ 63 - 1) / 8 := by
    have : (sizeLine : Nat) ≤ (2 ^ 63 - 1) / 8 := by decide
    omega
  have hfit : ¬ (!Builtin.List.listFitsIndex k) = true := by
    rw [fitsIndex_both h1 h2]
    exact Bool.false_ne_true
  have hlong : ¬ Builtin.List.listTooLong (its.toArray.size * k.toNat) = true := by
    rw [notLongL hlen]
    exact Bool.false_ne_true
  have hnew : List.foldl (fun x1 x2 => x1 ++ x2) #[] (List.replicate (if its.toArray.isEmpty = true then 0 else k.toNat) its.toArray) = (List.replicate k.toNat its).flatten.toArray := by
    have f0 : ∀ m : Nat, List.foldl (fun x1 x2 => x1 ++ x2) #[] (List.replicate m its.toArray) = (List.replicate m its).flatten.toArray := fun m => by
      have := foldl_rep its m []
      rw [List.nil_append] at this
      exact this
    rw [f0]
    cases its with
    | nil => simp
    | cons a r' => rw [if_neg (by simp)]
  refine wpAny_binaryOp_repeat_ref (T := "list") (U := "int") (by decide) ⟨_, e, rfl⟩ (fun s' => typeIs_int s' k t) noFill_list_mul F.fills_int_mul F.slot_int_rmul repeat_list F.slot_int_index.lookup
    (call_meets F.slot_int_rmul (typeIs_int s k t) F.entry_int_rmul (F.args_int_rmul_2 _ _) (int___rmul___int_list k t l its.toArray n)
      ⟨e, rfl, ⟨_, e, rfl⟩, call_meets F.slot_list_mul ⟨_, e, rfl⟩ F.entry_list_mul (F.args_list_mul_2 _ _) (AutoListH.list___mul___list_int_3 l its.toArray n k t hfit hcap hlong) ⟨e, ?_⟩⟩)
  rw [hnew]
  exact ⟨.ref _, _, I.lnew (t' := s.toks) (r.rep k.toNat) (by rw [len_rep, Nat.mul_comm]; exact hz), rfl, q _ I.fresh⟩

end

section
variable {prog : Program} {w : World} {A : Around} {E : Value → Shared → Prop} {s : Shared}
theorem bounds_run {a c n : Nat} (hac : a ≤ c) (hc : c ≤ n) : sliceBounds (some (a : Int)) (some (c : Int)) none n = ((a : Int), (c : Int), 1) := by
  simp only [sliceBounds, Option.getD_none]
  have h1 : ¬ ((a : Int) < 0) := by omega
  have h2 : ¬ ((c : Int) < 0) := by omega
  simp only [h1, h2, if_false, show (1 : Int) > 0 by decide, if_true]
  congr 1
  · omega
  · congr 1; omega
set_option maxRecDepth 100000 in
/-- list.__setitem__ with a slice of step one and another list -/
theorem setItem_slice {l b sl : Addr} {items new : Array Value} {n n2 : Nat} {vl vu : Value} {a c : Nat} {Q : Unit → Shared → Prop}
    (e : s.heap.get? l = some { cls := .type "list", data := .seq items n }) (e2 : s.heap.get? b = some { cls := .type "list", data := .seq new n2 }) (hne : l ≠ b)
    (hs : s.heap.IsSliceOf sl vl vu .none) (pl : IsPart vl (some (a : Int))) (pu : IsPart vu (some (c : Int))) (hac : a ≤ c) (hc : c ≤ items.size)
    (hsz : items.size + new.size ≤ sizeLine) (h : Q () { s with heap := s.heap.update l (Obj.mapSeq fun xs => xs.extract 0 a ++ new ++ xs.extract c xs.size) }) :
    wpAny (model prog w) A (setItem (.ref l) (.ref sl) (.ref b)) Q E s := by
  have hl : s.heap.IsList l items := PySem.IsL.isList e
  have hb : s.heap.IsList b new := PySem.IsL.isList e2
  obtain ⟨os, hos, hcs, hds⟩ := id hs
  have hTs : s.TypeIs (.ref sl) "slice" := ⟨os, hos, hcs⟩
  have hstep : ¬ ((rawPart none == rawInt 0) = true) := Bool.false_ne_true
  have hsame : Builtin.List.listSameRef (.ref l) (.ref b) = false := by
    unfold Builtin.List.listSameRef
    exact beq_eq_false_iff_ne.mpr hne
  have hmax : (max (a : Int) (c : Int)).toNat = c := by omega
  have hz' : ((fun xs : Array Value => xs.extract 0 a ++ new ++ xs.extract c xs.size) items).size ≤ sizeLine + 1 := by
    simp only [Array.size_append, Array.size_extract]
    omega
  unfold setItem
  try with_reducible refine wpAny_holding ?_
  first | refine wpAny_bind (wpAny_pure ?_) | skip
  refine wpAny_bind (wpAny_sequenceKey hl.typeIs (by decide) ?_)
  refine wpAny_bind (wpAny_callSpecial?_slot (name := Str.ofString "__setitem__") hl.typeIs slot_list_setitem
    (wpAny_call_entry slot_list_setitem hl.typeIs entry_list_setitem ?_ (args_list_setitem _ _ _)))
  show wpAny _ _ (Builtin.List.listSubscript? (.ref sl) >>= _) _ _ s
  refine wpAny_bind ?_
  unfold Builtin.List.listSubscript?
  refine wpAny_bind (wpAny_specialOf hTs slice_no_index ?_)
  simp only [Option.isNone_none, if_true]
  refine wpAny_pure ?_
  show wpAny _ _ (typeOf (.ref sl) >>= _) _ _ s
  refine wpAny_bind (wpAny_typeOf hTs ?_)
  first
    | rw [if_neg (by decide)]
    | refine PySem.W.KFB.if_not (by decide) ?_
  rw [listSliceParts_eq]
  refine wpAny_bind (wpAny_bind (wpAny_field hos hds (x := .none) rfl (wpAny_bind (wpAny_listPart .none ?_))))
  rw [if_neg hstep]
  refine wpAny_bind (wpAny_field hos hds (x := vl) rfl (wpAny_bind (wpAny_listPart pl ?_)))
  refine wpAny_bind (wpAny_field hos hds (x := vu) rfl (wpAny_bind (wpAny_listPart pu (wpAny_pure ?_))))
  first
    | simp only [hsame, Bool.false_eq_true, if_false]
    | refine PySem.W.KFB.if_not hsame ?_
    | (dsimp only
       rw [if_neg (by rw [hsame]; exact Bool.false_ne_true)])
  refine wpAny_bind (m := Builtin.List.listAllItems (.ref b) "must assign iterable to extended slice") ?_
  unfold Builtin.List.listAllItems
  refine wpAny_bind (wpAny_typeOf hb.typeIs ?_)
  first
    | refine PySem.W.KFB.if_so (by decide) ?_
    | rw [if_pos (by decide)]
    | simp only [beq_self_eq_true, Bool.true_or, if_true]
  unfold Builtin.List.listItems
  refine wpAny_bind (wpAny_seqItems e2 rfl (wpAny_pure ?_))
  refine wpAny_bind (wpAny_bind (wpAny_seqItems e rfl (wpAny_pure ?_)))
  refine wpAny_bind (wpAny_of_eq ((sliceIndices_raw (some (a : Int)) (some (c : Int)) none items.size (by simp)).trans (congrArg (pure : Int × Int × Int → Sem (Int × Int × Int)) (bounds_run hac hc))) ?_)
  show wpAny _ _ (if ((1 : Int) == 1) = true then _ else _) _ _ s
  rw [if_pos (by decide)]
  refine wpAny_bind (wpAny_rule ?_)
  first
    | simp only [notLongL hsz, Bool.false_eq_true, if_false]
    | refine PySem.W.KFB.if_not (notLongL hsz) ?_
  first | refine wpAny_bind (wpAny_pure ?_) | skip
  show wpAny _ _ (updateSeq l (fun xs => xs.extract 0 ((a : Int)).toNat ++ new ++ xs.extract (max (a : Int) (c : Int)).toNat xs.size) >>= _) _ _ s
  rw [hmax, Int.toNat_natCast]
  refine wpAny_bind (wpAny_updateSeq (hz := Nat.le_trans (Nat.le_add_right _ _) hsz) (_hz' := hz') e rfl ?_)
  refine wpAny_bind (wpAny_letGo ?_)
  first
    | exact wpAny_bind (wpAny_pure (wpAny_pure ⟨.none, rfl, wpAny_pure h⟩))
    | exact wpAny_pure ⟨.none, rfl, wpAny_pure h⟩
end

end L2

namespace L2
open PySem PySem.Spec PyProof.Rows

theorem Vals.ints : ∀ {ns : List Int} {us : List Value}, Vals (ns.map V.int) us → IntsAre us ns
  | [], us, h => by
    rw [List.map_nil] at h
    cases h
    exact IntsAre.nil
  | n :: ns, us, h => by
    rw [List.map_cons] at h
    cases h with
    | cons r t =>
      obtain ⟨k, rfl⟩ := r
      exact IntsAre.cons n k (Vals.ints t)
theorem Vals.strs : ∀ {xs : List Str} {us : List Value}, Vals (xs.map V.str) us → StrsAre us xs
  | [], us, h => by
    rw [List.map_nil] at h
    cases h
    exact StrsAre.nil
  | x :: xs, us, h => by
    rw [List.map_cons] at h
    cases h with
    | cons r t =>
      obtain ⟨k, rfl⟩ := r
      exact StrsAre.cons x k (Vals.strs t)





mutual
inductive Dp (K : PySem.W.Frag) (H : Hp) : V → PyData → Prop
  | non : Dp K H .non .none
  | bl (b : Bool) : Dp K H (.bl b) (.bool b)
  | int (i : Int) : Dp K H (.int i) (.int i)
  | str (x : Str) : Dp K H (.str x) (.str x)
  | lst {a : Addr} {xs : List V} {ds : List PyData} : SqL K H a xs → DpAll K H xs ds → Dp K H (.ref a) (.list ds)
  | tup {a : Addr} {xs : List V} {ds : List PyData} : SqT K H a xs → DpAll K H xs ds → Dp K H (.ref a) (.tuple ds)
inductive DpAll (K : PySem.W.Frag) (H : Hp) : List V → List PyData → Prop
  | nil : DpAll K H [] []
  | cons {v : V} {vs : List V} {d : PyData} {ds : List PyData} : Dp K H v d → DpAll K H vs ds → DpAll K H (v :: vs) (d :: ds)
end
section
variable {X : Cx} {pins : List (Addr × Obj)} {σ : St} {H : Hp} {s : Shared}
mutual
theorem Dp.reads (I : Inv X pins σ H s) : ∀ (d : PyData) (v : V) (u : Value), Dp X.K H v d → RelV v u → ∃ as, Reads s.heap u d as
  | .none, _, _, h, r => by
    cases h
    cases r
    exact ⟨_, Reads.none⟩
  | .bool b, _, _, h, r => by
    cases h
    cases r
    exact ⟨_, Reads.bool b⟩
  | .int i, _, _, h, r => by
    cases h
    obtain ⟨t, rfl⟩ := r
    exact ⟨_, Reads.int i t⟩
  | .str x, _, _, h, r => by
    cases h
    obtain ⟨t, rfl⟩ := r
    exact ⟨_, Reads.str x t⟩
  | .list ds, _, _, h, r => by
    cases h with
    | lst hs ha =>
      cases r
      obtain ⟨its, rv, ⟨o, n, ho, hc, _, hd⟩, _⟩ := I.list hs
      obtain ⟨as, hr⟩ := Dp.readsAll I ds _ its ha rv
      exact ⟨_, Reads.list ho hc hd hr⟩
  | .tuple ds, _, _, h, r => by
    cases h with
    | tup hs ha =>
      cases r
      obtain ⟨its, rv, ⟨o, ho, hc, n, hd⟩, _⟩ := I.tuple hs
      obtain ⟨as, hr⟩ := Dp.readsAll I ds _ its ha rv
      exact ⟨_, Reads.tuple ho hc hd hr⟩
  | .dict _, _, _, h, _ => by cases h
theorem Dp.readsAll (I : Inv X pins σ H s) : ∀ (ds : List PyData) (vs : List V) (us : List Value), DpAll X.K H vs ds → Vals vs us → ∃ as, ReadsAll s.heap us ds as
  | [], _, _, h, r => by
    cases h
    cases r
    exact ⟨_, ReadsAll.nil⟩
  | d :: ds, _, _, h, r => by
    cases h with
    | cons h1 h2 =>
      cases r with
      | cons r1 r2 =>
        obtain ⟨as, q1⟩ := Dp.reads I d _ _ h1 r1
        obtain ⟨bs, q2⟩ := Dp.readsAll I ds _ _ h2 r2
        exact ⟨_, ReadsAll.cons q1 q2⟩
end
end
section
variable {X : Cx}
def rEqD (K : PySem.W.Frag) : R2 := fun x y H Q => ∃ d e, Dp K H x d ∧ Dp K H y e ∧ SeqAt.shaped d = true ∧ SeqAt.shaped e = true ∧ Q (.bl (PyData.eqv d e)) H
def rNeD (K : PySem.W.Frag) : R2 := fun x y H Q => ∃ d e, Dp K H x d ∧ Dp K H y e ∧ SeqAt.shaped d = true ∧ SeqAt.shaped e = true ∧ Q (.bl (!PyData.eqv d e)) H
theorem op_eqD (hu : X.A.units + 64 < cLine) : OpR X (compareOp .Eq) (rEqD X.K) := by
  intro pins s σ H x y v u Q I rx ry h
  obtain ⟨d, e, hd, he, sd, se, q⟩ := h
  obtain ⟨as, r1⟩ := Dp.reads I d x v hd rx
  obtain ⟨bs, r2⟩ := Dp.reads I e y u he ry
  exact SeqAt.compareEq_shaped r1 r2 sd se hu ⟨.bl _, H, I, rfl, q⟩
theorem op_neD (hu : X.A.units + 64 < cLine) : OpR X (compareOp .NotEq) (rNeD X.K) := by
  intro pins s σ H x y v u Q I rx ry h
  obtain ⟨d, e, hd, he, sd, se, q⟩ := h
  obtain ⟨as, r1⟩ := Dp.reads I d x v hd rx
  obtain ⟨bs, r2⟩ := Dp.reads I e y u he ry
  exact SeqAt.compareNe_shaped r1 r2 sd se hu ⟨.bl _, H, I, rfl, q⟩
end
end L2

namespace L2
open PySem PySem.Spec PyProof.Rows
abbrev CellAt (h : Heap) (c : Addr) (v : Option Value) : Prop := h.IsCell c v
def relS (scope sc : Scope) : Scope :=
  { scope with names := scope.names.map fun (n, k) => if (k == .free && sc.kind == .function && sc.names.lookup n == some .cell) then (n, .cell) else (n, k) }

def cloFrom (cells : List (Str × Addr)) : List (Str × NameKind) → List (Str × Addr) → List (Str × Addr)
  | [], acc => acc
  | (n, k) :: r, acc => if k == .free then cloFrom cells r ((n, (cells.lookup n).getD 0) :: acc) else cloFrom cells r acc

theorem closure_loop (env : Env) (f : Str × NameKind → List (Str × Addr) → Sem (ForInStep (List (Str × Addr))))
    (hf : ∀ n k c, f (n, k) c = if k == .free then (do let a ← cellOf env n; pure (.yield ((n, a) :: c))) else pure (.yield c)) :
    ∀ (names : List (Str × NameKind)) (acc : List (Str × Addr)), (∀ y ∈ names, y.2 = .free → ∃ c, env.cells.lookup y.1 = some c) → forIn names acc f = pure (cloFrom env.cells names acc)
  | [], acc, _ => by rw [List.forIn_nil]; rfl
  | (n, k) :: r, acc, h => by
    rw [List.forIn_cons, hf]
    have ih := fun acc => closure_loop env f hf r acc fun y hy => h y (List.mem_cons_of_mem _ hy)
    unfold cloFrom
    by_cases hk : (k == NameKind.free) = true
    · rw [if_pos hk, if_pos hk]
      obtain ⟨c, hc⟩ := h (n, k) List.mem_cons_self (by simpa using hk)
      have e : cellOf env n = pure c := by unfold cellOf; rw [hc]
      rw [e]
      have e2 : (env.cells.lookup n).getD 0 = c := by rw [hc]; rfl
      rw [e2]
      exact ih _
    · rw [if_neg hk, if_neg hk]
      exact ih _
theorem closure_ok {scope : Scope} {env : Env} (h : ∀ y ∈ scope.names, y.2 = .free → ∃ c, env.cells.lookup y.1 = some c) : closureFor scope env = pure (cloFrom env.cells scope.names []) := by
  simp only [closureFor]
  rw [closure_loop env _ (fun n k c => rfl) scope.names [] h]
  rfl

theorem mem_lookup {α : Type} : ∀ {l : List (Str × α)} {n : Str} {c : α}, (n, c) ∈ l → ∃ c', l.lookup n = some c'
  | (k, v) :: r, n, c, h => by
    rw [List.lookup_cons]
    cases hb : n == k with
    | true => exact ⟨_, rfl⟩
    | false =>
      rcases List.mem_cons.mp h with e | h
      · cases e; simp at hb
      · exact mem_lookup h

theorem cloFrom_mem {cells : List (Str × Addr)} : ∀ {names : List (Str × NameKind)} {acc : List (Str × Addr)} {n : Str} {c : Addr}, (n, c) ∈ cloFrom cells names acc → (n, c) ∈ acc ∨ ((n, .free) ∈ names ∧ c = (cells.lookup n).getD 0)
  | [], _, _, _, h => .inl h
  | (m, k) :: r, acc, n, c, h => by
    unfold cloFrom at h
    split at h
    · rename_i hk
      have hk : k = .free := by simpa using hk
      rcases cloFrom_mem h with h | ⟨h1, h2⟩
      · rcases List.mem_cons.mp h with e | h
        · cases e; exact .inr ⟨hk ▸ List.mem_cons_self, rfl⟩
        · exact .inl h
      · exact .inr ⟨List.mem_cons_of_mem _ h1, h2⟩
    · rcases cloFrom_mem h with h | ⟨h1, h2⟩
      · exact .inl h
      · exact .inr ⟨List.mem_cons_of_mem _ h1, h2⟩
theorem cloFrom_acc {cells : List (Str × Addr)} : ∀ {names : List (Str × NameKind)} {acc : List (Str × Addr)} {p : Str × Addr}, p ∈ acc → p ∈ cloFrom cells names acc
  | [], _, _, h => h
  | (m, k) :: r, acc, p, h => by
    unfold cloFrom
    split
    · exact cloFrom_acc (List.mem_cons_of_mem _ h)
    · exact cloFrom_acc h
theorem cloFrom_has {cells : List (Str × Addr)} : ∀ {names : List (Str × NameKind)} {acc : List (Str × Addr)} {n : Str}, (n, .free) ∈ names → (n, (cells.lookup n).getD 0) ∈ cloFrom cells names acc
  | (m, k) :: r, acc, n, h => by
    unfold cloFrom
    rcases List.mem_cons.mp h with e | h
    · cases e
      exact cloFrom_acc List.mem_cons_self
    · split
      · exact cloFrom_has h
      · exact cloFrom_has h

theorem cells_mem : ∀ {names : List (Str × NameKind)} {h : Heap} {acc : List (Str × Addr)} {x : Str} {c : Addr}, (x, c) ∈ cellsFrom h.objs.size names acc →
    (x, c) ∈ acc ∨ ((x, .cell) ∈ names ∧ h.objs.size ≤ c ∧ CellAt (pushCells h names) c none)
  | [], _, _, _, _, h => .inl h
  | (n, k) :: r, h, acc, x, c, hm => by
    unfold cellsFrom at hm
    unfold pushCells
    split at hm
    · rename_i hk
      rw [if_pos hk]
      have hk : k = .cell := by simpa using hk
      rw [← Heap.size_push h { cls := .type "cell", data := .cell none }] at hm
      rcases cells_mem hm with hm | ⟨h1, h2, h3⟩
      · rcases List.mem_cons.mp hm with e | hm
        · cases e
          exact .inr ⟨hk ▸ List.mem_cons_self, Nat.le_refl _, _, pushCells_keeps r _ _ _ (Heap.get?_push_size _ rfl), rfl⟩
        · exact .inl hm
      · rw [Heap.size_push] at h2
        exact .inr ⟨List.mem_cons_of_mem _ h1, Nat.le_of_succ_le h2, h3⟩
    · rename_i hk
      rw [if_neg hk]
      rcases cells_mem hm with hm | ⟨h1, h2, h3⟩
      · exact .inl hm
      · exact .inr ⟨List.mem_cons_of_mem _ h1, h2, h3⟩
theorem cells_acc : ∀ {names : List (Str × NameKind)} {n : Nat} {acc : List (Str × Addr)} {p : Str × Addr}, p ∈ acc → p ∈ cellsFrom n names acc
  | [], _, _, _, h => h
  | (m, k) :: r, n, acc, p, h => by
    unfold cellsFrom
    split
    · exact cells_acc (List.mem_cons_of_mem _ h)
    · exact cells_acc h
theorem cells_has : ∀ {names : List (Str × NameKind)} {n : Nat} {acc : List (Str × Addr)} {x : Str}, (x, .cell) ∈ names → ∃ c, (x, c) ∈ cellsFrom n names acc
  | (m, k) :: r, n, acc, x, h => by
    unfold cellsFrom
    rcases List.mem_cons.mp h with e | h
    · cases e
      exact ⟨n, cells_acc List.mem_cons_self⟩
    · split
      · exact cells_has h
      · exact cells_has h
theorem cells_inj : ∀ {names : List (Str × NameKind)} {h : Heap} {acc : List (Str × Addr)} {x y : Str} {c : Addr}, (∀ p ∈ acc, p.2 < h.objs.size) → (∀ x y c, (x, c) ∈ acc → (y, c) ∈ acc → x = y) →
    (x, c) ∈ cellsFrom h.objs.size names acc → (y, c) ∈ cellsFrom h.objs.size names acc → x = y
  | [], _, _, _, _, _, _, hi, h1, h2 => hi _ _ _ h1 h2
  | (n, k) :: r, h, acc, x, y, c, hl, hi, h1, h2 => by
    unfold cellsFrom at h1 h2
    split at h1
    · rename_i hk
      rw [if_pos hk] at h2
      rw [← Heap.size_push h { cls := .type "cell", data := .cell none }] at h1 h2
      refine cells_inj (h := h.push _) (fun p hp => ?_) (fun x y c a b => ?_) h1 h2
      · rw [Heap.size_push]
        rcases List.mem_cons.mp hp with rfl | hp
        · exact Nat.lt_succ_self _
        · exact Nat.lt_succ_of_lt (hl p hp)
      · rcases List.mem_cons.mp a with e | a <;> rcases List.mem_cons.mp b with e' | b
        · cases e; cases e'; rfl
        · cases e; exact absurd (hl _ b) (Nat.lt_irrefl _)
        · cases e'; exact absurd (hl _ a) (Nat.lt_irrefl _)
        · exact hi _ _ _ a b
    · rename_i hk
      rw [if_neg hk] at h2
      exact cells_inj hl hi h1 h2

theorem newEnv_comp {M : Model} {A : Around} {E : Value → Shared → Prop} {s : Shared} {scope : Scope} {globals : Addr} {closure : List (Str × Addr)} {qual : Str} {func : Option Addr} {code : Value} {around : Env} {builtins : Addr} {Q : Env → Shared → Prop}
    (h : Q (newEnv scope s.heap.objs.size globals (cellsFrom (s.heap.objs.size + 1) scope.names closure) qual func code (some around) builtins)
      { s with heap := pushCells (s.heap.push { cls := .type "dict", data := .dict #[] }) scope.names }) :
    wpAny M A (newFunctionEnv scope globals closure [] qual func code (some around) builtins) Q E s := by
  simp only [newFunctionEnv, Option.isSome_some, if_true]
  refine wpAny_bind (wpAny_alloc ?_)
  refine wpAny_bind (wpAny_layCells _ (fun n k c => rfl) scope.names closure _ _ ?_)
  rw [show ({ s with heap := s.heap.push { cls := .type "dict", data := .dict #[] } } : Shared).heap.objs.size = s.heap.objs.size + 1 from Heap.size_push ..]
  rw [List.forIn_nil]
  exact wpAny_bind (wpAny_pure (wpAny_pure h))

theorem lookup_relS {sc : Scope} : ∀ {names : List (Str × NameKind)} {x : Str} {k : NameKind},
    (names.map fun (n, k) => if (k == NameKind.free && sc.kind == .function && sc.names.lookup n == some .cell) then (n, NameKind.cell) else (n, k)).lookup x = some k →
    ∃ k', names.lookup x = some k' ∧ (k = k' ∨ (k' = .free ∧ k = .cell))
  | [], _, _, h => by simp at h
  | (n, k₀) :: r, x, k, h => by
    have ih := @lookup_relS sc r x k
    have h' : List.lookup x ((if (k₀ == NameKind.free && sc.kind == .function && sc.names.lookup n == some .cell) = true then (n, NameKind.cell) else (n, k₀)) :: (r.map _)) = some k := h
    cases hx : x == n with
    | true =>
      simp only [List.lookup_cons, hx]
      by_cases hc : (k₀ == NameKind.free && sc.kind == .function && sc.names.lookup n == some .cell) = true
      · rw [if_pos hc] at h'
        simp only [List.lookup_cons, hx] at h'
        cases h'
        simp only [Bool.and_eq_true, beq_iff_eq] at hc
        exact ⟨k₀, rfl, .inr ⟨hc.1.1, rfl⟩⟩
      · rw [if_neg hc] at h'
        simp only [List.lookup_cons, hx] at h'
        cases h'
        exact ⟨_, rfl, .inl rfl⟩
    | false =>
      simp only [List.lookup_cons, hx]
      by_cases hc : (k₀ == NameKind.free && sc.kind == .function && sc.names.lookup n == some .cell) = true
      · rw [if_pos hc] at h'
        simp only [List.lookup_cons, hx] at h'
        exact ih h'
      · rw [if_neg hc] at h'
        simp only [List.lookup_cons, hx] at h'
        exact ih h'
structure BlkOk (N : List Str) (sc scope : Scope) (own : List (Str × Nat)) : Prop where
  kind : scope.kind = .function
  uniq : ∀ y ∈ scope.names, scope.names.lookup y.1 = some y.2
  ix : ∀ p ∈ own, N[p.2]? = some p.1
  free : ∀ y ∈ scope.names, y.2 = .free → sc.names.lookup y.1 = some .cell ∨ sc.names.lookup y.1 = some .free
  own : ∀ y ∈ scope.names, y.2 = .local ∨ y.2 = .cell → y.1 ∈ own.map (·.1) ∨ y.1 ∉ N
def wipe (σ : St) : List Nat → St
  | [] => σ
  | v :: vs => (wipe σ vs).set v none
theorem wipe_length (σ : St) : ∀ vs : List Nat, (wipe σ vs).length = σ.length
  | [] => rfl
  | v :: vs => by unfold wipe; rw [List.length_set, wipe_length σ vs]
theorem wipe_some {σ : St} {i : Nat} {x : V} : ∀ {vs : List Nat}, (wipe σ vs)[i]? = some (some x) → σ[i]? = some (some x) ∧ i ∉ vs
  | [], h => ⟨h, by simp⟩
  | v :: vs, h => by
    unfold wipe at h
    by_cases hi : v = i
    · subst hi
      by_cases hv : v < (wipe σ vs).length
      · rw [List.getElem?_set_self hv] at h; cases h
      · rw [List.getElem?_eq_none (by simpa using hv)] at h; cases h
    · rw [List.getElem?_set_ne hi] at h
      obtain ⟨h1, h2⟩ := wipe_some h
      exact ⟨h1, by simp only [List.mem_cons, not_or]; exact ⟨fun e => hi e.symm, h2⟩⟩

abbrev Cx.blk (X : Cx) (s : Shared) (H : Hp) (scope : Scope) (cenv : Env) (fp : List Addr) : Cx := { X with s_0 := s, H_0 := H, env := cenv, outer := X.stack, ex := fp, fn := fun x => scope.names.lookup x == some .cell, pn := [], xe := fun _ _ => False }
section
variable {X : Cx} {pins : List (Addr × Obj)} {σ : St} {H : Hp} {s : Shared}
theorem block_start {scope : Scope} {own : List (Str × Nat)} {fp : List Addr} (I : Inv X pins σ H s) (ok : BlkOk X.N X.env.scope scope own) (hN : X.N.Nodup) (hfp : ∀ b ∈ fp, FpOk X pins H b ∧ b < s.heap.objs.size) :
    Inv (X.blk s H scope (compEnvC scope (cellsFrom (s.heap.objs.size + 1) scope.names (cloFrom X.env.cells scope.names [])) s.heap.objs.size X.env) fp) [] (wipe σ (own.map (·.2))) H { s with heap := pushCells (s.heap.push { cls := .type "dict", data := .dict #[] }) scope.names } := by
  have hfree : ∀ y ∈ scope.names, y.2 = .free → ∃ c, X.env.cells.lookup y.1 = some c := fun y hy e => by
    rcases ok.free y hy e with k | k
    · exact I.ok.has _ (.inl k)
    · exact I.ok.has _ (.inr k)
  generalize hcenv : compEnvC scope (cellsFrom (s.heap.objs.size + 1) scope.names (cloFrom X.env.cells scope.names [])) s.heap.objs.size X.env = cenv
  have kp : ∀ b o, s.heap.get? b = some o → (pushCells (s.heap.push { cls := .type "dict", data := .dict #[] }) scope.names).get? b = some o := fun b o e => pushCells_keeps _ _ _ _ (Heap.get?_push_of_some _ e)
  have hL : cenv.locals = s.heap.objs.size := by rw [← hcenv]; rfl
  have hcl : cenv.cells = cellsFrom (s.heap.objs.size + 1) scope.names (cloFrom X.env.cells scope.names []) := by rw [← hcenv]; rfl
  have hsc : cenv.scope = relS scope X.env.scope := by rw [← hcenv]; rfl
  rw [← Heap.size_push s.heap { cls := .type "dict", data := .dict #[] }] at hcl
  have cm : ∀ {y c}, (y, c) ∈ cloFrom X.env.cells scope.names [] → X.env.cells.lookup y = some c ∧ c < s.heap.objs.size := fun {y c} hm => by
    rcases cloFrom_mem hm with hm | ⟨h1, rfl⟩
    · cases hm
    · obtain ⟨c, hc⟩ := hfree _ h1 rfl
      rw [hc]
      obtain ⟨w, z⟩ := I.cell _ _ hc
      exact ⟨rfl, z.lt⟩
  have mem : ∀ {y c}, cenv.cells.lookup y = some c → (X.env.cells.lookup y = some c ∧ c < s.heap.objs.size) ∨ (s.heap.objs.size + 1 ≤ c ∧ CellAt (pushCells (s.heap.push { cls := .type "dict", data := .dict #[] }) scope.names) c none) := fun {y c} e => by
    rw [hcl] at e
    rcases cells_mem (PySem.mem_of_lookup e) with hm | ⟨_, h2, h3⟩
    · exact .inl (cm hm)
    · rw [Heap.size_push] at h2; exact .inr ⟨h2, h3⟩
  have look : ∀ {y}, scope.names.lookup y = some .free → ∃ c, cenv.cells.lookup y = some c ∧ X.env.cells.lookup y = some c := fun {y} hl => by
    have hy : (y, NameKind.free) ∈ scope.names := PySem.mem_of_lookup hl
    obtain ⟨c', e'⟩ := mem_lookup (cells_acc (names := scope.names) (n := (s.heap.push { cls := .type "dict", data := .dict #[] }).objs.size) (cloFrom_has (cells := X.env.cells) (acc := []) hy))
    rw [← hcl] at e'
    refine ⟨c', e', ?_⟩
    rw [hcl] at e'
    rcases cells_mem (PySem.mem_of_lookup e') with hm | ⟨h1, _, _⟩
    · exact (cm hm).1
    · have := ok.uniq _ h1
      rw [hl] at this; cases this
  have okB : (X.blk s H scope cenv fp).Ok := by
    refine ⟨I.ok.mod, by show cenv.scope.kind = _; rw [hsc]; exact ok.kind, by show cenv.globals = _; rw [← hcenv]; exact I.ok.glob, by show cenv.builtins = _; rw [← hcenv]; exact I.ok.blt, by show s.heap.objs.size ≤ cenv.locals; rw [hL]; exact Nat.le_refl _,
      fun y z c e1 e2 => ?_, fun y hy => ?_, fun y c z e => ?_, I.ok.hd, I.ok.frames, .inl rfl, fun b hb => ⟨?_, fun y c e z => ?_⟩, I.bs, Nat.le_trans I.ok.bsz I.sz, fun b o e hb => ?_, fun b hb z => ?_, I.stack, I.stkFree⟩
    · have e1 : cenv.cells.lookup y = some c := e1
      have e2 : cenv.cells.lookup z = some c := e2
      rw [hcl] at e1 e2
      refine cells_inj (fun p hp => ?_) (fun y z c a b => I.ok.inj y z c (cm a).1 (cm b).1) (PySem.mem_of_lookup e1) (PySem.mem_of_lookup e2)
      rw [Heap.size_push]
      exact Nat.lt_succ_of_lt (cm (y := p.1) (c := p.2) hp).2
    · show ∃ c, cenv.cells.lookup y = some c
      have key : ∀ k, cenv.kindOf y = some k → (k = .cell ∨ k = .free) → ∃ c, cenv.cells.lookup y = some c := fun k hk hk' => by
        unfold Env.kindOf at hk
        rw [hsc] at hk
        obtain ⟨k', e, r⟩ := lookup_relS hk
        have : k' = .cell ∨ k' = .free := by
          rcases r with rfl | ⟨rfl, _⟩
          · exact hk'
          · exact .inr rfl
        rcases this with rfl | rfl
        · obtain ⟨c, hm⟩ := cells_has (n := (s.heap.push { cls := .type "dict", data := .dict #[] }).objs.size) (acc := cloFrom X.env.cells scope.names []) (PySem.mem_of_lookup e)
          obtain ⟨c', e'⟩ := mem_lookup hm
          exact ⟨c', by rw [hcl]; exact e'⟩
        · obtain ⟨c, h1, _⟩ := look e
          exact ⟨c, h1⟩
      rcases hy with hy | hy
      · exact key _ hy (.inl rfl)
      · exact key _ hy (.inr rfl)
    · have z : (scope.names.lookup y == some NameKind.cell) = true := z
      have z : scope.names.lookup y = some .cell := by simpa using z
      have e : cenv.cells.lookup y = some c := e
      rw [hcl] at e
      rcases cells_mem (PySem.mem_of_lookup e) with hm | ⟨_, h2, _⟩
      · rcases cloFrom_mem hm with hm | ⟨h1, _⟩
        · cases hm
        · have q := ok.uniq _ h1
          rw [z] at q; cases q
      · rw [Heap.size_push] at h2
        exact Nat.le_of_succ_le h2
    · show b ≠ cenv.locals
      rw [hL]; exact Nat.ne_of_lt (hfp b hb).2
    · have e : cenv.cells.lookup y = some c := e
      rcases mem e with ⟨h1, _⟩ | ⟨h1, _⟩
      · exact (hfp b hb).1.2.2.2.2.1 y c h1 z
      · have h2 : s.heap.objs.size + 1 ≤ b := by rw [← z]; exact h1
        exact absurd (Nat.lt_of_lt_of_le (hfp b hb).2 (Nat.le_of_succ_le h2)) (Nat.lt_irrefl _)
    · rcases (hfp b hb).1.2.2.2.1 with z | z
      · exact I.ok.noex b o e z
      · exact absurd (Nat.lt_of_lt_of_le (Heap.lt_size e) (Nat.le_trans I.ok.bsz z)) (Nat.lt_irrefl _)
    · rcases List.mem_cons.mp (I.stkSub b z) with z | z
      · exact (hfp b hb).1.2.1 z
      · exact (hfp b hb).1.2.2.1 z
  refine ⟨okB, rfl, I.bare, Un.kept kp, ⟨fun _ => none, ?_, fun i y av e1 e2 e3 => ?_⟩, fun y c e => ?_, ?_, fun y c e => ?_, fun p hp => ?_, I.hok.kept kp, by rw [wipe_length]; exact I.len⟩
  · show Heap.Ns _ cenv.locals _
    rw [hL]
    exact Heap.Ns.keeps (Heap.Ns.new ..) fun b o e => pushCells_keeps _ _ _ _ e
  · obtain ⟨e2, hne⟩ := wipe_some e2
    have hfr : scope.names.lookup y = some .free ∧ (cenv.kindOf y = some .cell ∨ cenv.kindOf y = some .free) := by
      have key : ∀ k, cenv.scope.names.lookup y = some k → k = .local ∨ k = .cell ∨ k = .free → scope.names.lookup y = some .free ∧ (cenv.kindOf y = some .cell ∨ cenv.kindOf y = some .free) := fun k hk hk' => by
        have hk0 := hk
        rw [hsc] at hk
        obtain ⟨k', e, r⟩ := lookup_relS hk
        have no : ¬ (k' = .local ∨ k' = .cell) := fun hh => by
          rcases ok.own _ (PySem.mem_of_lookup e) hh with e' | e'
          · obtain ⟨p, hp, hpy⟩ := List.mem_map.mp e'
            have e3 := ok.ix p hp
            have : p.1 = y := hpy
            rw [this] at e3
            exact hne (List.mem_map.mpr ⟨p, hp, nodup_ix hN e3 e1⟩)
          · exact e' (List.mem_of_getElem? e1)
        rcases r with rfl | ⟨rfl, rfl⟩
        · rcases hk' with rfl | rfl | rfl
          · exact absurd (.inl rfl) no
          · exact absurd (.inr rfl) no
          · exact ⟨e, .inr hk0⟩
        · exact ⟨e, .inl hk0⟩
      have e3 : Vis cenv.scope y := e3
      rcases e3 with e3 | e3 | e3
      · exact key _ e3 (.inl rfl)
      · exact key _ e3 (.inr (.inl rfl))
      · exact key _ e3 (.inr (.inr rfl))
    obtain ⟨m, hn, hl⟩ := I.loc
    have hvis : Vis X.env.scope y := (ok.free _ (PySem.mem_of_lookup hfr.1) rfl).elim (fun k => .inr (.inl k)) (fun k => .inr (.inr k))
    obtain ⟨w, r, q⟩ := hl i y av e1 e2 hvis
    refine ⟨w, r, .inr ⟨hfr.2, ?_⟩⟩
    obtain ⟨c, h1, h2⟩ := look hfr.1
    rcases q with ⟨k, _⟩ | ⟨_, c', e', z⟩
    · have k : X.env.scope.names.lookup y = some .local := k
      rcases ok.free _ (PySem.mem_of_lookup hfr.1) rfl with k' | k' <;> rw [show X.env.scope.names.lookup y = _ from k'] at k <;> cases k
    · rw [h2] at e'; cases e'
      exact ⟨c, h1, z.keeps kp⟩
  · have e : cenv.cells.lookup y = some c := e
    rcases mem e with ⟨h1, _⟩ | ⟨_, z⟩
    · obtain ⟨w, z⟩ := I.cell y c h1
      exact ⟨w, z.keeps kp⟩
    · exact ⟨_, z⟩
  · show H cenv.locals = none
    rw [hL]; exact I.hok.fresh (Nat.le_refl _)
  · have e : cenv.cells.lookup y = some c := e
    rcases mem e with ⟨h1, _⟩ | ⟨h1, _⟩
    · exact I.freeC y c h1
    · exact I.hok.fresh (Nat.le_of_succ_le h1)
  · exact absurd (show p ∈ ([] : List (Addr × Obj)) ++ [] from hp) (by simp)

theorem app_ok {E : Value → Shared → Prop} {D : Addr} {xs : List V} {y : V} {v : Value} {Q : Value → Shared → Prop} (I : Inv X pins σ H s) (hD : H D = some (.lst xs)) (hz : xs.length < sizeLine) (r : RelV y v)
    (h : ∀ s', Inv X pins σ (upd H D (.lst (xs ++ [y]))) s' → Q .none s') : wpAny (model X.prog X.w) X.A (call (.builtin "list.append") [.ref D, v]) Q E s := by
  obtain ⟨hz', its, n, ri, e⟩ := I.hok D _ hD
  have hl := ri.length
  refine append_at (hsz := by rw [List.size_toArray]; omega) e fun h' sb ho' => ?_
  refine h { s with heap := h' } (I.write (t' := s.toks) (by rw [hD]; trivial) (.inl rfl) (fun b u hb q => (sb.2 b hb).trans q) ⟨_, ho'⟩ ⟨by rw [List.length_append]; exact hz, its ++ [v], n + 1, ri.append (.cons r .nil), ?_⟩)
  rw [ho']
  simp

def PTs (X : Cx) (ifs : List Expr) (t : TT) : Prop :=
  ∀ (pins : List (Addr × Obj)) (s : Shared) (σ : St) (H : Hp) (Q : Bool → Hp → Prop), Inv X pins σ H s → t σ H Q →
    wpAny (model X.prog X.w) X.A (forIn ifs true fun c r => if r = true then do let ok ← isTrue c X.env (eval c X.env); pure (ForInStep.yield ok) else pure (ForInStep.yield r)) (TP X pins σ Q) X.xe s
def tYes : TT := fun _ H Q => Q true H
theorem pts_nil : PTs X [] tYes := fun _ _ _ H _ I h => wpAny_tests_nil ⟨H, I, h⟩
theorem pts_one {c : Expr} {t : TT} (h : PT X c t) : PTs X [c] t := fun pins s σ H Q I hw => wpAny_tests_one (h pins s σ H Q I hw)
end

theorem thnF {α : Type} {t : Sem α} {Q Q' : α → Shared → Prop} {M : Model} {A : Around} {E : Value → Shared → Prop} {s : Shared} (h : wpAny M A t Q (fun _ _ => False) s) (hQ : ∀ a s, Q a s → Q' a s) : wpAny M A t Q' E s := wpAny_mono h hQ fun _ _ z => False.elim z

theorem compLoop_any {prog : Program} {w : World} {A : Around} {R : Result → Shared → Prop} {s : Shared} {elt target iter : Expr} {ifs : List Expr} {scope : Scope} {pos : Pos} {it acc : Value} {env : Env} (I : Nat → Shared → Prop)
    (turn : ∀ n s, I n s → wpAny (model prog w) A (pyNext it) (fun r s₁ => match r with
      | none => R (.ok .next) s₁
      | some v => wpAny (model prog w) A (letOwnedTupleGo target it v) (fun _ s₁' => wpAny (model prog w) A (assign target env v) (fun _ s₂ =>
          wpAny (model prog w) A (forIn ifs true fun c r => if r = true then do let ok ← isTrue c env (eval c env); pure (ForInStep.yield ok) else pure (ForInStep.yield r)) (fun ok s₃ =>
            if ok = true then wpAny (model prog w) A (eval elt env) (fun x s₄ =>
              wpAny (model prog w) A (call (.builtin "list.append") [acc, x]) (fun _ s₅ => ∃ m, m < n ∧ I m s₅) (notedBy (model prog w) A env fun e s' => R (.error e) s') s₄) (notedBy (model prog w) A env fun e s' => R (.error e) s') s₃
            else ∃ m, m < n ∧ I m s₃) (notedBy (model prog w) A env fun e s' => R (.error e) s') s₂) (notedBy (model prog w) A env fun e s' => R (.error e) s') s₁') (notedBy (model prog w) A env fun e s' => R (.error e) s') s₁) (notedBy (model prog w) A env fun e s' => R (.error e) s') s)
    (n : Nat) (h : I n s) :
    codeAny (model prog w) A (.compLoop (.ListComp elt [⟨target, iter, ifs, 0⟩] scope pos) 0 it acc env) R s := by
  refine codeAny_loop rfl I (fun n s hI => ?_) n h
  show wpAny _ A ((compTurn (.ListComp elt [⟨target, iter, ifs, 0⟩] scope pos) 0 it acc env).onRaise (fun x => do noteFrame x env; theTreesLotGoes x)) _ _ s
  refine wpAny_noted ?_
  rw [compTurn_list]
  refine wpAny_bind (wpAny_standAt (wpAny_bind (wpAny_mono (turn n s hI) (fun r s₁ h₁ => ?_) fun _ _ h' => h')))
  cases r with
  | none => exact wpAny_pure h₁
  | some v =>
    refine wpAny_bind (wpAny_mono h₁ (fun _ s₁' h₁' => ?_) fun _ _ h' => h')
    refine wpAny_bind (wpAny_mono h₁' (fun _ s₂ h₂ => wpAny_bind (wpAny_mono h₂ (fun ok s₃ h₃ => ?_) fun _ _ h' => h')) fun _ _ h' => h')
    cases ok with
    | false => exact wpAny_pure ⟨rfl, h₃⟩
    | true =>
      exact wpAny_bind (wpAny_bind (wpAny_mono h₃ (fun x s₄ h₄ => wpAny_bind (wpAny_mono h₄ (fun _ s₅ h₅ => wpAny_pure (wpAny_pure ⟨rfl, h₅⟩)) fun _ _ h' => h')) fun _ _ h' => h'))

section
variable {X : Cx}
def tLc (wi : TI) (g : TG) (tt : TT) (te : TE) (vs : List Nat) : TE := fun σ H Q => wi σ H fun J H1 => ∀ D, H1 D = none → ∃ W : Nat → Nat → Hp → Prop, (∃ m, W 0 m (upd H1 D (.lst []))) ∧ ∀ i m H, W i m H →
  (J.stop i H ∧ Q (.ref D) H) ∨ (J.go i H ∧ ∃ Nx : Hp → Prop, (∀ H', Nx H' → ∃ m', m' < m ∧ W (i + 1) m' H') ∧ ∀ x H', J.yld i H x H' → g x (wipe σ vs) H' fun σ2 H2 => wipe σ2 vs = wipe σ vs ∧ tt σ2 H2 fun b H3 =>
    if b = true then te σ2 H3 fun y H4 => ∃ acc, H4 D = some (.lst acc) ∧ acc.length < sizeLine ∧ Nx (upd H4 D (.lst (acc ++ [y]))) else Nx H3)
theorem lc_core {pins : List (Addr × Obj)} {s : Shared} {σ : St} {H : Hp} {Q : VK} {elt tg iter : Expr} {ifs : List Expr} {scope : Scope} {own : List (Str × Nat)} {pos pos' : Pos} {wi : TI} {g : TG} {tt : TT} {te : TE} {use : Option (Value → Sem Unit)} {Qf : Value → Shared → Prop}
    (hc : X.calm = true) (hN : X.N.Nodup) (I : Inv X pins σ H s) (hi : PI X tg iter wi) (ok : BlkOk X.N X.env.scope scope own)
    (hg : ∀ (s : Shared) (H : Hp) (C : Addr) (cl : List (Str × Addr)) (fp : List Addr), PG (X.blk s H scope (compEnvC scope cl C X.env) fp) tg g) (ht : ∀ (s : Shared) (H : Hp) (C : Addr) (cl : List (Str × Addr)) (fp : List Addr), PTs (X.blk s H scope (compEnvC scope cl C X.env) fp) ifs tt)
    (he : ∀ (s : Shared) (H : Hp) (C : Addr) (cl : List (Str × Addr)) (fp : List Addr), PE (X.blk s H scope (compEnvC scope cl C X.env) fp) elt te) (hs : ∀ x, foldedSetIterable iter X.env x = pure x)
    (h : tLc wi g tt te (own.map (·.2)) σ H Q)
    (hRR : ∀ D C s' m H', Inv X pins σ H' s' → Q (.ref D) H' → s'.heap.Ns C m → FpOk X pins H' C → compPost (model X.prog X.w) X.A X.xe use Qf (.ref D) C (.ok .next) s') :
    wpAny (model X.prog X.w) X.A (comprehension (.ListComp elt [⟨tg, iter, ifs, 0⟩] scope pos) scope X.env pos' (newList []) false (eval iter X.env) use) Qf X.xe s := by
  have hfree : ∀ y ∈ scope.names, y.2 = .free → ∃ c, X.env.cells.lookup y.1 = some c := fun y hy e => by
    rcases ok.free y hy e with k | k
    · exact I.ok.has _ (.inl k)
    · exact I.ok.has _ (.inr k)
  refine wpAny_comprehension_free (use := use) rfl hs (closure_ok hfree) ok.kind (fun y hy e => by rw [ok.uniq y hy, e])
    (thn (hi pins s σ H _ I h) fun xv s1 hx => thn hx fun itv s2 h2 => ?_)
  obtain ⟨it, fp, tn, J, H2, e, I2, T, st2, f2, q⟩ := h2
  subst e
  refine wpAny_newObj_type (newEnv_comp ?_) (by show 0 ≤ sizeLine; decide)
  generalize hD : s2.heap.objs.size = D
  have hDn : H2 D = none := I2.hok.fresh (Nat.le_of_eq hD)
  obtain ⟨W, ⟨m0, w0⟩, turn⟩ := q D hDn
  -- the new list
  generalize hs3 : ({ s2 with heap := s2.heap.push { cls := .type "list", data := .seq ([] : List Value).toArray } } : Shared) = s3
  have I3 : Inv X pins σ (upd H2 D (.lst [])) s3 := by
    rw [← hs3]
    refine I2.laid (t' := s2.toks) (fun b o e => Heap.get?_push_of_some _ e) (Nat.le_of_eq hD) ⟨Nat.zero_le _, [], 0, .nil, ?_⟩
    rw [← hD]
    exact Heap.get?_push_size _ rfl
  have h3 : s3.heap = s2.heap.push { cls := .type "list", data := .seq ([] : List Value).toArray } := by rw [← hs3]
  have sz : ∀ b ∈ fp, b < s2.heap.objs.size := fun b hb => by
    obtain ⟨o, e, _⟩ := T.obj _ _ st2 b hb
    exact Heap.lt_size e
  have f3 : ∀ b ∈ fp, FpOk X pins (upd H2 D (.lst [])) b ∧ b < s3.heap.objs.size := fun b hb => by
    have hlt := sz b hb
    refine ⟨⟨?_, (f2 b hb).2⟩, by rw [h3, Heap.size_push]; exact Nat.lt_succ_of_lt hlt⟩
    rw [upd_ne (by rw [← hD]; exact Nat.ne_of_lt hlt)]
    exact (f2 b hb).1
  have st3 : tn 0 s3.heap := T.keep _ _ _ st2 fun b _ o e => by rw [h3]; exact Heap.get?_push_of_some _ e
  have I4 := block_start I3 ok hN f3
  have pg := hg s3 (upd H2 D (.lst [])) s3.heap.objs.size (cellsFrom (s3.heap.objs.size + 1) scope.names (cloFrom X.env.cells scope.names [])) fp
  have pt := ht s3 (upd H2 D (.lst [])) s3.heap.objs.size (cellsFrom (s3.heap.objs.size + 1) scope.names (cloFrom X.env.cells scope.names [])) fp
  have pe := he s3 (upd H2 D (.lst [])) s3.heap.objs.size (cellsFrom (s3.heap.objs.size + 1) scope.names (cloFrom X.env.cells scope.names [])) fp
  show codeAny _ _ (.compStart (.ListComp elt [⟨tg, iter, ifs, 0⟩] scope pos) 0 (.ref it) (.ref D) (compEnvC scope (cellsFrom (s3.heap.objs.size + 1) scope.names (cloFrom X.env.cells scope.names [])) s3.heap.objs.size X.env)) (compPost (model X.prog X.w) X.A X.xe use Qf (.ref D) s3.heap.objs.size) { s3 with heap := pushCells (s3.heap.push { cls := .type "dict", data := .dict #[] }) scope.names }
  have nfp : ∀ b ∈ fp, (upd H2 D (.lst [])) b = none := fun b hb => (f3 b hb).1.1
  generalize hce : compEnvC scope (cellsFrom (s3.heap.objs.size + 1) scope.names (cloFrom X.env.cells scope.names [])) s3.heap.objs.size X.env = ce at I4 pg pt pe ⊢
  have cL : ce.locals = s3.heap.objs.size := by subst hce; rfl
  generalize hH3 : upd H2 D (.lst []) = H3 at I3 I4 pg pt pe w0 nfp f3
  generalize hs4 : ({ s3 with heap := pushCells (s3.heap.push { cls := .type "dict", data := .dict #[] }) scope.names } : Shared) = s4 at I4 ⊢
  have st4 : tn 0 s4.heap := T.keep _ _ _ st3 fun b _ o e => by rw [← hs4]; exact pushCells_keeps _ _ _ _ (Heap.get?_push_of_some _ e)
  have stat : ∀ {σ' : St} {H' : Hp} {s' : Shared}, Inv (X.blk s3 H3 scope ce fp) [] σ' H' s' → (∀ b ∈ fp, H' b = none) → ∀ b ∈ fp, FpOk (X.blk s3 H3 scope ce fp) [] H' b := fun {σ' H' s'} I' hn b hb =>
    ⟨hn b hb, (I'.ok.exf b hb).1, I'.ok.exfs b hb, .inl hb, fun x c e => (I'.ok.exf b hb).2 x c e, fun p hp => absurd (show p ∈ ([] : List (Addr × Obj)) ++ [] from hp) (by simp)⟩
  have loop : codeAny (model X.prog X.w) X.A (.compLoop (.ListComp elt [⟨tg, iter, ifs, 0⟩] scope pos) 0 (.ref it) (.ref D) ce) (compPost (model X.prog X.w) X.A X.xe use Qf (.ref D) s3.heap.objs.size) s4 := by
    refine compLoop_any (fun n s' => ∃ i H', Inv (X.blk s3 H3 scope ce fp) [] (wipe σ (own.map (·.2))) H' s' ∧ tn i s'.heap ∧ (∀ b ∈ fp, H' b = none) ∧ W i n H') ?_ m0 ⟨0, H3, I4, st4, nfp, w0⟩
    rintro n s5 ⟨i, H5, I5, st5, n5, w5⟩
    rcases turn i n H5 w5 with ⟨stop, qq⟩ | ⟨go, Nx, hNx, step⟩
    · have td := T.done (X.blk s3 H3 scope ce fp) rfl rfl rfl hc i [] s5 _ H5 (fun _ _ => False) I5 (stat I5 n5) st5 stop
      refine thnF td fun r s6 ⟨hr, I6⟩ => ?_
      subst hr
      -- back in the def's context
      have I7 : Inv X pins σ H5 s6 := I3.call' (ch := fp) I6.os I6.base I6.hok I6.bare fun b hb => ⟨(f3 b hb).1.2.2.2.1, (f3 b hb).1.2.1, (f3 b hb).1.2.2.2.2.1, (f3 b hb).1.2.2.2.2.2⟩
      have nC : H5 s3.heap.objs.size = none := by
        have z : H5 ce.locals = none := I6.free
        rw [cL] at z
        exact z
      obtain ⟨m, hn, _⟩ := I6.loc
      have hn : s6.heap.Ns ce.locals m := hn
      rw [cL] at hn
      exact hRR D s3.heap.objs.size s6 m H5 I7 qq hn (I3.fpOk (Nat.le_refl _) nC)
    · have ti := T.item (X.blk s3 H3 scope ce fp) rfl rfl rfl hc i [] s5 _ H5 (fun _ _ => False) I5 (stat I5 n5) st5 go
      refine thnF ti fun r s6 ⟨u, hr, h6⟩ => ?_
      subst hr
      refine thnF h6 fun _ s7 ⟨x, H7, I7, r7, y7, st7, n7⟩ => ?_
      have I7' := I7.pinned (stat I7 n7) (T.obj _ _ st7)
      refine thnF (pg _ s7 _ H7 x u _ I7' r7 (step x H7 y7)) fun _ s8 ⟨σ8, H8, I8, hw8, q8⟩ => ?_
      refine thnF (pt _ s8 σ8 H8 _ I8 q8) fun b s9 ⟨H9, I9, q9⟩ => ?_
      -- the turn's end
      have fin : ∀ {s' : Shared} {H' : Hp}, Inv (X.blk s3 H3 scope ce fp) ([] ++ pinsAt fp s7.heap) σ8 H' s' → Nx H' → ∃ m, m < n ∧ ∃ i H', Inv (X.blk s3 H3 scope ce fp) [] (wipe σ (own.map (·.2))) H' s' ∧ tn i s'.heap ∧ (∀ b ∈ fp, H' b = none) ∧ W i m H' := fun {s' H'} I' nx => by
        obtain ⟨m', hm, w'⟩ := hNx H' nx
        have pin' : ∀ b ∈ fp, ∀ o, s7.heap.get? b = some o → s'.heap.get? b = some o ∧ H' b = none := fun b hb o e =>
          let z := I'.pin (b, o) (List.mem_append_right _ (List.mem_append_right _ (mem_pinsAt hb e)))
          ⟨z.1, z.2.1⟩
        have hl : (wipe σ (own.map (·.2))).length = σ8.length := by rw [← hw8, wipe_length]
        refine ⟨m', hm, i + 1, H', (I'.unpinned (pins := [])).weak hl (fun j v e => ?_), T.keep _ _ _ st7 fun b hb o e => (pin' b hb o e).1, fun b hb => ?_, w'⟩
        · rw [← hw8] at e
          exact (wipe_some e).1
        · obtain ⟨o, e, _⟩ := T.obj _ _ st7 b hb
          exact (pin' b hb o e).2
      cases b with
      | false =>
        simp only [Bool.false_eq_true, if_false] at q9 ⊢
        exact fin I9 q9
      | true =>
        simp only [if_true] at q9 ⊢
        refine thnF (pe _ s9 σ8 H9 _ I9 q9) fun z s10 ⟨yv, H10, I10, r10, acc, hD10, hz10, nx⟩ => ?_
        exact app_ok (X := X.blk s3 H3 scope ce fp) I10 hD10 hz10 r10 fun s11 I11 => fin I11 nx
  exact codeAny_compStart_list loop (T.self X.A 0 _ _ _ st4 loop)
theorem pe_lc {elt tg iter : Expr} {ifs : List Expr} {scope : Scope} {own : List (Str × Nat)} {pos : Pos} {wi : TI} {g : TG} {tt : TT} {te : TE} (hc : X.calm = true) (hN : X.N.Nodup) (hi : PI X tg iter wi) (ok : BlkOk X.N X.env.scope scope own)
    (hg : ∀ (s : Shared) (H : Hp) (C : Addr) (cl : List (Str × Addr)) (fp : List Addr), PG (X.blk s H scope (compEnvC scope cl C X.env) fp) tg g) (ht : ∀ (s : Shared) (H : Hp) (C : Addr) (cl : List (Str × Addr)) (fp : List Addr), PTs (X.blk s H scope (compEnvC scope cl C X.env) fp) ifs tt)
    (he : ∀ (s : Shared) (H : Hp) (C : Addr) (cl : List (Str × Addr)) (fp : List Addr), PE (X.blk s H scope (compEnvC scope cl C X.env) fp) elt te) (hs : ∀ x, foldedSetIterable iter X.env x = pure x := by intro _; rfl) :
    PE X (.ListComp elt [⟨tg, iter, ifs, 0⟩] scope pos) (tLc wi g tt te (own.map (·.2))) := by
  intro pins s σ H Q I h
  rw [eval_ListComp]
  refine lc_core hc hN I hi ok hg ht he hs h fun D C s' m H' I' q hn f => ⟨m, hn, fun h'' sb => ?_⟩
  obtain ⟨f0, f1, f2, f3, f4, f5⟩ := f
  exact ⟨.ref D, H', I'.turned (t' := s'.toks) (fun b o hb e => (sb.2 b hb).trans e) f0 f1 f3 f4 f5, rfl, q⟩
theorem ps_setLc {i : Nat} {y : Str} {py : Pos} {elt tg iter : Expr} {ifs : List Expr} {scope : Scope} {own : List (Str × Nat)} {pos spos : Pos} {wi : TI} {g : TG} {tt : TT} {te : TE} (hc : X.calm = true) (hN : X.N.Nodup) (hy : X.N[i]? = some y) (hyl : X.env.scope.names.lookup y = some .local)
    (hsw : swapsWith (.ListComp elt [⟨tg, iter, ifs, 0⟩] scope pos) (some (.Name y py)) spos.line X.env = pure true) (hi : PI X tg iter wi) (ok : BlkOk X.N X.env.scope scope own)
    (hg : ∀ (s : Shared) (H : Hp) (C : Addr) (cl : List (Str × Addr)) (fp : List Addr), PG (X.blk s H scope (compEnvC scope cl C X.env) fp) tg g) (ht : ∀ (s : Shared) (H : Hp) (C : Addr) (cl : List (Str × Addr)) (fp : List Addr), PTs (X.blk s H scope (compEnvC scope cl C X.env) fp) ifs tt)
    (he : ∀ (s : Shared) (H : Hp) (C : Addr) (cl : List (Str × Addr)) (fp : List Addr), PE (X.blk s H scope (compEnvC scope cl C X.env) fp) elt te) (hs : ∀ x, foldedSetIterable iter X.env x = pure x := by intro _; rfl) :
    PS X (.Assign [.Name y py] (.ListComp elt [⟨tg, iter, ifs, 0⟩] scope pos) spos) (tAsg (tLc wi g tt te (own.map (·.2))) (gName i)) := by
  intro pins s σ H D I h
  rw [exec_Assign_Name_used _ _ _ _ hsw]
  refine wpAny_bind (wpAny_standAt (wpAny_bind ?_))
  show wpAny _ X.A (do let _ ← comprehension (.ListComp elt [⟨tg, iter, ifs, 0⟩] scope pos) scope X.env (firstIterPos [⟨tg, iter, ifs, 0⟩] pos) (newList []) false (eval iter X.env) (some (assign (.Name y py) X.env))) _ _ s
  have h : tLc wi g tt te (own.map (·.2)) σ H (fun x H1 => gName i x σ H1 D.nx) := h
  refine wpAny_bind (thn (lc_core (Qf := fun _ s' => SP X pins D .next s') hc hN I hi ok hg ht he hs h fun L C s' m H' I' q hn f => ?_) fun _ s' hq => wpAny_pure (wpAny_pure hq))
  show wpAny _ _ (assign (.Name y py) X.env (.ref L)) _ _ _
  refine wpAny_assign_Name (store_ok2 (v := V.ref L) I' hN hy (.inl hyl) rfl (fun s2 I2 ⟨a, sb, ha⟩ => ?_) (.inr hyl))
  obtain ⟨f0, f1, f2, f3, f4, f5⟩ := f
  have haC : C ≠ a := by
    rcases ha with z | z
    · rw [z]; exact f1
    · exact fun e => f4 y a z e.symm
  refine ⟨m, hn.sameBut sb haC, fun h3 sb3 => ?_⟩
  exact ⟨_, H', I2.turned (t' := s2.toks) (fun b o hb e => (sb3.2 b hb).trans e) f0 f1 f3 f4 f5, q⟩
theorem sw_true {elt : Expr} {gs : List Comprehension} {scope : Scope} {pos py : Pos} {y : Str} {l : Nat} {env : Env} (hk : env.scope.kind = .function) (hy : env.scope.names.lookup y = some .local) (hl : (py.line == pos.line) = true)
    (ha : (scope.names.any fun (n, k) => n == y && (k == .local || k == .cell)) = false) : swapsWith (.ListComp elt gs scope pos) (some (.Name y py)) l env = pure true := by
  have ky : env.kindOf y = some .local := hy
  have hb : env.blockKind = .function := by unfold Env.blockKind; rw [hk]; rfl
  unfold swapsWith
  simp only [hb, ky, ha, Expr.pos, hl]
  rfl
end

theorem lc_list {K : PySem.W.Frag} {a : Addr} {xs : List V} {g : TG} {tt : TT} {te : TE} {vs : List Nat} {σ : St} {H1 : Hp} {D : Addr} {Qd : Hp → Prop} (Pv : Nat → Hp → Prop) (h0 : Pv 0 (upd H1 D (.lst []))) (hl : ∀ i H, i ≤ xs.length → Pv i H → SqL K H a xs)
    (hs : ∀ i x H, xs[i]? = some x → Pv i H → g x (wipe σ vs) H fun σ2 H2 => wipe σ2 vs = wipe σ vs ∧ tt σ2 H2 fun b H3 =>
      if b = true then te σ2 H3 fun y H4 => ∃ acc, H4 D = some (.lst acc) ∧ acc.length < sizeLine ∧ Pv (i + 1) (upd H4 D (.lst (acc ++ [y]))) else Pv (i + 1) H3) (hd : ∀ H, Pv xs.length H → Qd H) :
    ∃ W : Nat → Nat → Hp → Prop, (∃ m, W 0 m (upd H1 D (.lst []))) ∧ ∀ i m H, W i m H →
      ((Itl K a).stop i H ∧ Qd H) ∨ ((Itl K a).go i H ∧ ∃ Nx : Hp → Prop, (∀ H', Nx H' → ∃ m', m' < m ∧ W (i + 1) m' H') ∧ ∀ x H', (Itl K a).yld i H x H' → g x (wipe σ vs) H' fun σ2 H2 => wipe σ2 vs = wipe σ vs ∧ tt σ2 H2 fun b H3 =>
        if b = true then te σ2 H3 fun y H4 => ∃ acc, H4 D = some (.lst acc) ∧ acc.length < sizeLine ∧ Nx (upd H4 D (.lst (acc ++ [y]))) else Nx H3) := by
  refine ⟨fun i m H => m = xs.length - i ∧ i ≤ xs.length ∧ Pv i H, ⟨xs.length, by simp, Nat.zero_le _, h0⟩, ?_⟩
  rintro i m H ⟨rfl, hi, p⟩
  have q := hl i H hi p
  by_cases hlt : i < xs.length
  · refine .inr ⟨⟨xs, xs[i], q, by simp [hlt]⟩, Pv (i + 1), fun H' p' => ⟨xs.length - (i + 1), by omega, rfl, hlt, p'⟩, fun x H' y => ?_⟩
    obtain ⟨e, y⟩ := y
    subst e
    exact hs i x _ (y xs q) p
  · have e : i = xs.length := by omega
    subst e
    exact .inl ⟨⟨xs, q, Nat.le_refl _⟩, hd H p⟩
def blkC (N : List Str) (sc scope : Scope) (own : List (Str × Nat)) : Bool :=
  (match scope.kind with | .function => true | _ => false) && (scope.names.all fun y => decide (scope.names.lookup y.1 = some y.2)) && (own.all fun p => decide (N[p.2]? = some p.1)) &&
    (scope.names.all fun y => match y.2 with
      | .free => (match sc.names.lookup y.1 with | some .cell => true | some .free => true | _ => false)
      | .local => decide (y.1 ∈ own.map (·.1)) || decide (y.1 ∉ N)
      | .cell => decide (y.1 ∈ own.map (·.1)) || decide (y.1 ∉ N)
      | _ => true)
theorem blkOk_by {N : List Str} {sc scope : Scope} {own : List (Str × Nat)} (h : blkC N sc scope own = true) : BlkOk N sc scope own := by
  unfold blkC at h
  simp only [Bool.and_eq_true, List.all_eq_true, decide_eq_true_eq] at h
  obtain ⟨⟨⟨h1, h2⟩, h3⟩, h4⟩ := h
  refine ⟨?_, h2, h3, fun y hy e => ?_, fun y hy e => ?_⟩
  · split at h1
    · assumption
    · cases h1
  · have q := h4 y hy
    simp only [e] at q
    split at q <;> first | exact .inl (by assumption) | exact .inr (by assumption) | cases q
  · have q := h4 y hy
    rcases e with e | e <;> (simp only [e, Bool.or_eq_true, decide_eq_true_eq] at q; exact q)
end L2

namespace L2
open PySem PySem.Spec PyProof.Rows


end L2

namespace L2
open PySem PySem.Spec PyProof.Rows

section
variable {κ : Type} [DecidableEq κ]
def valV (kvs : List (κ × V)) (k : κ) : Option V := (kvs.find? fun kv => decide (kv.1 = k)).map (·.2)
def putK (kvs : List (κ × V)) (k : κ) (v : V) : List (κ × V) :=
  if (kvs.any fun kv => decide (kv.1 = k)) = true then kvs.map (fun kv => if kv.1 = k then (kv.1, v) else kv) else kvs ++ [(k, v)]
def dropK (kvs : List (κ × V)) (k : κ) : List (κ × V) := kvs.filter fun kv => decide (kv.1 ≠ k)

theorem valV_pos {p : κ × V} {r : List (κ × V)} {k : κ} (e : p.1 = k) : valV (p :: r) k = some p.2 := by simp [valV, List.find?_cons, e]
theorem valV_neg {p : κ × V} {r : List (κ × V)} {k : κ} (e : ¬ p.1 = k) : valV (p :: r) k = valV r k := by simp [valV, List.find?_cons, e]
theorem valV_any (k : κ) : ∀ kvs : List (κ × V), (kvs.any fun kv => decide (kv.1 = k)) = (valV kvs k).isSome
  | [] => rfl
  | p :: r => by
    rw [List.any_cons]
    by_cases e : p.1 = k
    · simp only [valV_pos e, decide_eq_true e, Bool.true_or, Option.isSome_some]
    · rw [valV_neg e, decide_eq_false e, Bool.false_or]; exact valV_any k r
theorem length_putK (kvs : List (κ × V)) (k : κ) (v : V) : (putK kvs k v).length ≤ kvs.length + 1 := by
  unfold putK
  split
  · rw [List.length_map]; omega
  · rw [List.length_append, List.length_cons, List.length_nil]; omega
theorem putK_new {kvs : List (κ × V)} {k : κ} (v : V) (h : valV kvs k = none) : putK kvs k v = kvs ++ [(k, v)] := by
  unfold putK
  rw [valV_any, h]
  exact if_neg (by decide)

theorem RelO.isSome_eq {o : Option V} {u : Option Value} (r : RelO o u) : o.isSome = u.isSome := by
  cases o with
  | none => cases u with
    | none => rfl
    | some _ => exact (show False from r).elim
  | some _ => cases u with
    | none => exact (show False from r).elim
    | some _ => rfl
theorem RelO.getD {o : Option V} {u : Option Value} {d : V} {d' : Value} (r : RelO o u) (rd : RelV d d') : RelV (o.getD d) (u.getD d') := by
  cases o with
  | none => cases u with
    | none => exact rd
    | some _ => exact (show False from r).elim
  | some _ => cases u with
    | none => exact (show False from r).elim
    | some _ => exact r

theorem KV.val {kvs : List (κ × V)} {vs : List (κ × Value)} (r : KV kvs vs) (k : κ) : RelO (valV kvs k) (valueAt vs k) := by
  unfold KV at r
  induction r with
  | nil => exact True.intro
  | @cons p q ps qs h t ih =>
    obtain ⟨h1, h2⟩ := h
    by_cases e : p.1 = k
    · have e' : q.1 = k := h1.symm.trans e
      have b : valueAt (q :: qs) k = some q.2 := by simp [valueAt, List.find?_cons, e']
      rw [valV_pos e, b]; exact h2
    · have e' : ¬ q.1 = k := fun z => e (h1.trans z)
      have b : valueAt (q :: qs) k = valueAt qs k := by simp [valueAt, List.find?_cons, e']
      rw [valV_neg e, b]; exact ih
theorem KV.any {kvs : List (κ × V)} {vs : List (κ × Value)} (r : KV kvs vs) (k : κ) : (kvs.any fun kv => decide (kv.1 = k)) = vs.any fun kv => decide (kv.1 = k) := by
  unfold KV at r
  induction r with
  | nil => rfl
  | cons h t ih => rw [List.any_cons, List.any_cons, ih, h.1]
theorem KV.repl {kvs : List (κ × V)} {vs : List (κ × Value)} (r : KV kvs vs) (k : κ) {y : V} {u : Value} (ry : RelV y u) :
    KV (kvs.map fun kv => if kv.1 = k then (kv.1, y) else kv) (vs.map fun kv => if kv.1 = k then (kv.1, u) else kv) := by
  unfold KV at r ⊢
  induction r with
  | nil => exact .nil
  | @cons p q ps qs h t ih =>
    rw [List.map_cons, List.map_cons]
    refine .cons ?_ ih
    obtain ⟨h1, h2⟩ := h
    by_cases e : p.1 = k
    · rw [if_pos e, if_pos (h1.symm.trans e)]; exact ⟨h1, ry⟩
    · rw [if_neg e, if_neg (fun z => e (h1.trans z))]; exact ⟨h1, h2⟩
theorem KV.put {kvs : List (κ × V)} {vs : List (κ × Value)} (r : KV kvs vs) (k : κ) {y : V} {u : Value} (ry : RelV y u) : KV (putK kvs k y) (stored vs k u) := by
  unfold putK stored
  rw [r.any k]
  by_cases e : (vs.any fun kv => decide (kv.1 = k)) = true
  · rw [if_pos e, if_pos e]; exact r.repl k ry
  · rw [if_neg e, if_neg e]; exact Paired.snoc r ⟨rfl, ry⟩
theorem KV.drop {kvs : List (κ × V)} {vs : List (κ × Value)} (r : KV kvs vs) (k : κ) : KV (dropK kvs k) (without vs k) := by
  unfold KV at r ⊢
  unfold dropK without
  induction r with
  | nil => exact .nil
  | @cons p q ps qs h t ih =>
    obtain ⟨h1, h2⟩ := h
    rw [List.filter_cons, List.filter_cons]
    by_cases e : p.1 = k
    · have a : ¬ decide (p.1 ≠ k) = true := by simp [e]
      have b : ¬ decide (q.1 ≠ k) = true := by simp [h1.symm.trans e]
      rw [if_neg a, if_neg b]; exact ih
    · have e' : ¬ q.1 = k := fun z => e (h1.trans z)
      have a : decide (p.1 ≠ k) = true := by simp [e]
      have b : decide (q.1 ≠ k) = true := by simp [e']
      rw [if_pos a, if_pos b]; exact .cons ⟨h1, h2⟩ ih
theorem KV.keys {kvs : List (κ × V)} {vs : List (κ × Value)} (r : KV kvs vs) : kvs.map (·.1) = vs.map (·.1) := by
  unfold KV at r
  induction r with
  | nil => rfl
  | cons h t ih => rw [List.map_cons, List.map_cons, ih, h.1]
theorem KV.length {kvs : List (κ × V)} {vs : List (κ × Value)} (r : KV kvs vs) : kvs.length = vs.length := Paired.length r
end


theorem kV_is {P : Program} {w : World} {k : Key} {u : Value} (r : RelV (kV k) u) : (mixKind P w).is k u = true := by
  cases k with
  | inl i => obtain ⟨t, e⟩ := (show ∃ t, u = Value.int i t from r); subst e; exact mixKind_int P w i t
  | inr x => obtain ⟨t, e⟩ := (show ∃ t, u = Value.str x t from r); subst e; exact mixKind_str P w x t
theorem items_are {P : Program} {w : World} : ∀ {ks : List Key} {us : List Value}, Vals (ks.map kV) us → ItemsAre (mixKind P w) ks us
  | [], _, r => by rw [List.map_nil] at r; cases r; exact .nil
  | k :: ks, _, r => by
    rw [List.map_cons] at r
    cases r with
    | cons h t => exact .cons (kV_is h) (items_are t)

abbrev KT (H : Hp) : List (List Key × V) → List (List Key × Addr × Value) → Prop := Paired fun p q => p.1 = q.1 ∧ H q.2.1 = some (.tup (p.1.map kV)) ∧ RelV p.2 q.2.2
theorem KT.val {H : Hp} {kvs : List (List Key × V)} {xs : List (List Key × Addr × Value)} (r : KT H kvs xs) (k : List Key) : RelO (valV kvs k) ((atKey xs k).map (·.2)) := by
  induction r with
  | nil => exact True.intro
  | @cons p q ps qs h t ih =>
    obtain ⟨h1, _, h2⟩ := h
    by_cases e : p.1 = k
    · have e' : q.1 = k := h1.symm.trans e
      have b : atKey (q :: qs) k = some q.2 := by simp [atKey, List.find?_cons, e']
      rw [valV_pos e, b]; exact h2
    · have e' : ¬ q.1 = k := fun z => e (h1.trans z)
      have b : atKey (q :: qs) k = atKey qs k := by simp [atKey, List.find?_cons, e']
      rw [valV_neg e, b]; exact ih
theorem KT.repl {H : Hp} {kvs : List (List Key × V)} {xs : List (List Key × Addr × Value)} (r : KT H kvs xs) (k : List Key) {y : V} {u : Value} (ry : RelV y u) :
    KT H (kvs.map fun kv => if kv.1 = k then (kv.1, y) else kv) (xs.map (putAt k u)) := by
  induction r with
  | nil => exact .nil
  | @cons p q ps qs h t ih =>
    rw [List.map_cons, List.map_cons]
    refine .cons ?_ ih
    obtain ⟨h1, h2, h3⟩ := h
    unfold putAt
    by_cases e : p.1 = k
    · rw [if_pos e, if_pos (h1.symm.trans e)]; exact ⟨h1, h2, ry⟩
    · rw [if_neg e, if_neg (fun z => e (h1.trans z))]; exact ⟨h1, h2, h3⟩
theorem KT.put {H : Hp} {kvs : List (List Key × V)} {xs : List (List Key × Addr × Value)} (r : KT H kvs xs) (k : List Key) {b : Addr} {y : V} {u : Value} (hb : H b = some (.tup (k.map kV))) (ry : RelV y u) :
    KT H (putK kvs k y) (storedH xs k b u) := by
  have e : (kvs.any fun kv => decide (kv.1 = k)) = (atKey xs k).isSome := by
    rw [valV_any, (r.val k).isSome_eq, Option.isSome_map]
  unfold putK storedH
  rw [e]
  by_cases q : (atKey xs k).isSome = true
  · rw [if_pos q, if_pos q]; exact r.repl k ry
  · rw [if_neg q, if_neg q]; exact Paired.snoc r ⟨rfl, hb, ry⟩
theorem KT.keeps {H H' : Hp} {kvs : List (List Key × V)} {xs : List (List Key × Addr × Value)} (r : KT H kvs xs) (ht : ∀ b ys, H b = some (.tup ys) → H' b = some (.tup ys)) : KT H' kvs xs :=
  Paired.mapP r fun _ _ z => ⟨z.1, ht _ _ z.2.1, z.2.2⟩

section
variable {P : Program} {w : World} {H : Hp} {h : Heap} {a : Addr}
theorem rd_of {u : HO} (ok : HOk P w H h) (e : Rd H a u) : ObjOk P w H h a u := e.ok ok
theorem dk_rd {kvs : List (Key × V)} (ok : HOk P w H h) (e : Rd H a (.dK kvs)) : kvs.length ≤ sizeLine ∧ (a == sysModules) = false ∧ ∃ vs, KV kvs vs ∧ h.DictOf (mixKind P w) a vs :=
  show ObjOk P w H h a (.dK kvs) from rd_of ok e
theorem dk_of {kvs : List (Key × V)} (ok : HOk P w H h) (e : H a = some (.dK kvs)) : kvs.length ≤ sizeLine ∧ (a == sysModules) = false ∧ ∃ vs, KV kvs vs ∧ h.DictOf (mixKind P w) a vs := dk_rd ok (.inl e)
theorem key_of {ks : List Key} (ok : HOk P w H h) (e : H a = some (.tup (ks.map kV))) : (tupleKind (mixKind P w)).is h ks a := by
  obtain ⟨_, its, r, o, h1, h2, n, h3⟩ := (show ObjOk P w H h a (.tup (ks.map kV)) from ok a _ e)
  exact ⟨o, its.toArray, n, h1, h2, h3, by simpa using items_are r⟩
theorem dt_rd {kvs : List (List Key × V)} (ok : HOk P w H h) (e : Rd H a (.dT kvs)) : kvs.length ≤ sizeLine ∧ (a == sysModules) = false ∧
    ∃ xs, KT H kvs xs ∧ h.DictOfH (tupleKind (mixKind P w)) a xs := by
  obtain ⟨z, y, xs, r, o, es, ep, h1, h2, h3, h4, h5⟩ := (show ObjOk P w H h a (.dT kvs) from rd_of ok e)
  refine ⟨z, y, xs, r, o, es, ep, h1, h2, h3, h4, fun x hx => ?_, h5⟩
  have all : ∀ {l : List (List Key × V)} {m : List (List Key × Addr × Value)}, KT H l m → ∀ x ∈ m, (tupleKind (mixKind P w)).is h x.1 x.2.1 := by
    intro l m q
    induction q with
    | nil => intro x hx; exact nomatch hx
    | @cons p q ps qs hq t ih =>
      intro x hx
      rcases List.mem_cons.mp hx with e | hx
      · subst e
        exact key_of ok (by rw [← hq.1]; exact hq.2.1)
      · exact ih x hx
  exact all r x hx
end

def DGet (H : Hp) (a : Addr) (y : V) (r : Option V) : Prop :=
  (∃ kvs k, Rd H a (.dK kvs) ∧ y = kV k ∧ r = valV kvs k) ∨ ∃ kvs k b, Rd H a (.dT kvs) ∧ y = .ref b ∧ H b = some (.tup (k.map kV)) ∧ r = valV kvs k
def DPut (H : Hp) (a : Addr) (y v : V) (H' : Hp) : Prop :=
  (∃ kvs k, H a = some (.dK kvs) ∧ y = kV k ∧ kvs.length < sizeLine ∧ H' = upd H a (.dK (putK kvs k v))) ∨
  ∃ kvs k b, H a = some (.dT kvs) ∧ y = .ref b ∧ H b = some (.tup (k.map kV)) ∧ kvs.length < sizeLine ∧ H' = upd H a (.dT (putK kvs k v))
theorem DGet.k {H : Hp} {a : Addr} {kvs : List (Key × V)} {k : Key} (e : H a = some (.dK kvs)) : DGet H a (kV k) (valV kvs k) := .inl ⟨kvs, k, .inl e, rfl, rfl⟩
theorem DGet.t {H : Hp} {a b : Addr} {kvs : List (List Key × V)} {k : List Key} (e : H a = some (.dT kvs)) (eb : H b = some (.tup (k.map kV))) : DGet H a (.ref b) (valV kvs k) := .inr ⟨kvs, k, b, .inl e, rfl, eb, rfl⟩
theorem DPut.k {H : Hp} {a : Addr} {kvs : List (Key × V)} {k : Key} {v : V} (e : H a = some (.dK kvs)) (hl : kvs.length < sizeLine) : DPut H a (kV k) v (upd H a (.dK (putK kvs k v))) := .inl ⟨kvs, k, e, rfl, hl, rfl⟩
theorem DPut.t {H : Hp} {a b : Addr} {kvs : List (List Key × V)} {k : List Key} {v : V} (e : H a = some (.dT kvs)) (eb : H b = some (.tup (k.map kV))) (hl : kvs.length < sizeLine) :
    DPut H a (.ref b) v (upd H a (.dT (putK kvs k v))) := .inr ⟨kvs, k, b, e, rfl, eb, hl, rfl⟩


section
variable {X : Cx} {pins : List (Addr × Obj)} {σ : St} {H : Hp} {s : Shared} {a : Addr} {y v : V} {u r : Value} {o : Option V} {A : Around} {E : Value → Shared → Prop}

theorem Inv.big (I : Inv X pins σ H s) : sysModules < s.heap.objs.size := by
  have h : mainGlobals < s.heap.objs.size := (I.mod.glob.keeps I.bk).lt
  exact Nat.lt_trans (by decide) h

theorem d_getItem {Q : Value → Shared → Prop} (hu : A.units + 1 < cLine) (I : Inv X pins σ H s) (g : DGet H a y (some v)) (ry : RelV y u) (h : ∀ w' s', Inv X pins σ H s' → RelV v w' → Q w' s') :
    wpAny (model X.prog X.w) A (getItem (.ref a) u) Q E s := by
  rcases g with ⟨kvs, k, e, ey, l⟩ | ⟨kvs, k, b, e, ey, eb, l⟩
  · subst ey
    obtain ⟨z, hd, vs, rel, dd⟩ := dk_rd I.hok e
    obtain ⟨w', hw, rw'⟩ := RelO.some_of (v := v) (o := valueAt vs k) (by rw [l]; exact rel.val k)
    exact wpAny_getItem_of (kV_is ry) dd.mapOf hw (h w' _ (I.tok _) rw')
  · subst ey
    cases (show u = Value.ref b from ry)
    obtain ⟨z, hd, xs, rel, dd⟩ := dt_rd I.hok e
    obtain ⟨w', hw, rw'⟩ := RelO.some_of (v := v) (o := (atKey xs k).map (·.2)) (by rw [l]; exact rel.val k)
    obtain ⟨p, hp, hp2⟩ := Option.map_eq_some_iff.mp hw
    refine wpAny_getItem_heap (tupleKind_room_in1 hu) (key_of I.hok eb) dd hp ?_
    rw [hp2]
    exact h w' _ (I.tok _) rw'
theorem d_write {h' : Heap} {t' : Nat} {ob : HO} (I : Inv X pins σ H s) (mu : Mut (H a)) (hs : Heap.SameBut a s.heap h') (he : ∃ q, h'.get? a = some q) (new : ObjOk X.prog X.w (upd H a ob) h' a ob) :
    Inv X pins σ (upd H a ob) { s with heap := h', toks := t' } :=
  I.write (x := a) (e := a) mu (.inl rfl) (fun b q hb z => (hs.2 b hb).trans z) he new
theorem dk_new {P : Program} {w : World} {H' : Hp} {h' : Heap} {kvs : List (Key × V)} {vs : List (Key × Value)} (z : kvs.length ≤ sizeLine) (hd : (a == sysModules) = false) (rel : KV kvs vs) (dd : h'.DictOf (mixKind P w) a vs) :
    ObjOk P w H' h' a (.dK kvs) := ⟨z, hd, vs, rel, dd⟩
end



def NoSl (i : Expr) : Prop := ∀ ov iv, subscripted i false ov iv = operate [ov, iv] (getItem ov iv)
theorem subD_of {prog : Program} {w : World} {A : Around} {E : Value → Shared → Prop} {s : Shared} {env : Env} {value slice : Expr} {pos : Pos} {T id : String} {Q : Value → Shared → Prop}
    (hl : typeLookup (.type T) "__getitem__" = pure (some (.builtin id))) (hs : NoSl slice)
    (h : wpAny (model prog w) A (eval value env) (fun o s₁ => wpAny (model prog w) A (eval slice env) (fun i s₂ => s₂.TypeIs o T ∧ wpAny (model prog w) A (getItem o i) Q E s₂) E s₁) E s) :
    wpAny (model prog w) A (eval (.Subscript value slice pos) env) Q E s := by
  refine Subscript_ (wpAny_mono h (fun o s₁ h₁ => wpAny_mono h₁ (fun i s₂ h₂ => ?_) fun _ _ x => x) fun _ _ x => x)
  obtain ⟨hT, h₂⟩ := h₂
  unfold subscriptTail
  refine wpAny_bind ?_
  rw [getitemInPython_of_ne hT.not_modules]
  refine wpAny_bind (wpAny_specialOf hT hl ?_)
  have fin : wpAny (model prog w) A (subscripted slice false o i) (fun r s₃ => wpAny (model prog w) A (letTemporaryGo value o r >>= fun _ => pure r) Q E s₃) E s₂ := by
    rw [hs o i]
    exact wpAny_operating (wpAny_mono h₂ (fun r s₃ h₃ => wpAny_bind (wpAny_letTemporaryGo (wpAny_pure h₃))) fun _ _ x => x)
  first
    | exact wpAny_pure (wpAny_bind fin)
    | exact wpAny_bind (wpAny_pure (wpAny_bind fin))
    | exact wpAny_bind fin

theorem dict_typeIs {X : Cx} {pins : List (Addr × Obj)} {σ : St} {H : Hp} {s : Shared} {a : Addr} {y : V} {o : Option V} (I : Inv X pins σ H s) (g : DGet H a y o) : s.TypeIs (.ref a) "dict" := by
  rcases g with ⟨kvs, k, e, _, _⟩ | ⟨kvs, k, b, e, _, _, _⟩
  · obtain ⟨_, _, vs, _, dd⟩ := dk_rd I.hok e
    exact dd.typeIs
  · obtain ⟨_, _, xs, _, dd⟩ := dt_rd I.hok e
    exact dd.typeIs
def tDGet (td ty : TE) : TE := fun σ H Q => td σ H fun x H1 => ty σ H1 fun y H2 => ∃ a v, x = .ref a ∧ DGet H2 a y (some v) ∧ Q v H2
section
variable {X : Cx} {o i e value : Expr} {pos pos' tpos : Pos} {td ty tv : TE}
theorem pe_dget (hu : X.A.units + 1 < cLine) (ho : PE X o td) (hi : PE X i ty) (hs : NoSl i) : PE X (.Subscript o i pos) (tDGet td ty) := by
  intro pins s σ H Q I h
  refine subD_of PySem.F.slot_dict_getitem.lookup hs (thn (ho pins s σ H _ I h) fun u s1 ⟨x, H1, I1, rx, q1⟩ => thn (hi pins s1 σ H1 _ I1 q1) fun iv s2 ⟨y, H2, I2, ry, a, v, ex, g, q2⟩ => ?_)
  subst ex
  obtain rfl : u = Value.ref a := rx
  exact ⟨dict_typeIs I2 g, d_getItem hu I2 g ry fun w' s3 I3 rw' => ⟨v, H2, I3, rw', q2⟩⟩
end


theorem dk_empty {P : Program} {w : World} {H : Hp} (h : Heap) (hb : sysModules < h.objs.size) : ObjOk P w H (h.push { cls := .type "dict", data := .dict #[] }) h.objs.size (.dK []) :=
  ⟨Nat.zero_le _, beq_eq_false_iff_ne.mpr (Ne.symm (Nat.ne_of_lt hb)), [], .nil, Heap.DictOf.new h⟩
def tDNewK : TE := fun _ H Q => ∀ p, H p = none → Q (.ref p) (upd H p (.dK []))
section
variable {X : Cx} {pos : Pos}
theorem pe_dnewK : PE X (.Dict [] [] pos) tDNewK := fun pins s σ H Q I h =>
  wpAny_Dict_empty ⟨.ref s.heap.objs.size, _, I.laid (a := s.heap.objs.size) (o := .dK []) (t' := s.toks) (fun _ _ q => Heap.get?_push_of_some _ q) (Nat.le_refl _) (dk_empty s.heap I.big), rfl, h _ (I.hok.fresh (Nat.le_refl _))⟩
end

def tPairs : List (TE × TE) → St → Hp → (List (V × V) → Hp → Prop) → Prop
  | [], _, H, Q => Q [] H
  | (tk, tv) :: r, σ, H, Q => tk σ H fun x H1 => tv σ H1 fun y H2 => tPairs r σ H2 fun ps H3 => Q ((x, y) :: ps) H3
abbrev VV : List (V × V) → List (Value × Value) → Prop := Paired fun p q => RelV p.1 q.1 ∧ RelV p.2 q.2
def PPs (X : Cx) (pos : Pos) (keys : List (Option Expr)) (values : List Expr) (trs : List (TE × TE)) : Prop :=
  ∀ (pins : List (Addr × Obj)) (s : Shared) (σ : St) (H : Hp) (Q : List (V × V) → Hp → Prop), Inv X pins σ H s → tPairs trs σ H Q →
    wpAny (model X.prog X.w) X.A (evalPairs (pairTrees keys values X.env pos)) (fun vs s' => ∃ ps H', Inv X pins σ H' s' ∧ VV ps vs ∧ Q ps H') X.xe s
theorem pps_nil {X : Cx} {pos : Pos} : PPs X pos [] [] [] := fun pins s σ H Q I h => pairTrees_nil_walk ⟨[], H, I, .nil, h⟩
theorem pps_cons {X : Cx} {pos : Pos} {k v : Expr} {ks : List (Option Expr)} {vs : List Expr} {tk tv : TE} {trs : List (TE × TE)} (hk : PE X k tk) (hv : PE X v tv) (hr : PPs X pos ks vs trs) :
    PPs X pos (some k :: ks) (v :: vs) ((tk, tv) :: trs) := fun pins s σ H Q I h =>
  pairTrees_cons_walk (thn (hk pins s σ H _ I h) fun u s1 ⟨x, H1, I1, rx, q1⟩ => thn (hv pins s1 σ H1 _ I1 q1) fun w2 s2 ⟨y, H2, I2, ry, q2⟩ =>
    thn (hr pins s2 σ H2 _ I2 q2) fun ws s3 ⟨ps, H3, I3, rel, q3⟩ => ⟨(x, y) :: ps, H3, I3, .cons ⟨rx, ry⟩ rel, q3⟩)

def mergeK (kvs more : List (Key × V)) : List (Key × V) := more.foldl (fun acc kv => putK acc kv.1 kv.2) kvs
theorem KV.merge : ∀ {more : List (Key × V)} {rs : List (Key × Value)} {kvs : List (Key × V)} {vs : List (Key × Value)}, KV more rs → KV kvs vs → KV (mergeK kvs more) (merged vs rs) := by
  intro more rs kvs vs r
  unfold KV at r
  induction r generalizing kvs vs with
  | nil => intro q; exact q
  | @cons p q ps qs h t ih =>
    intro r0
    have e : KV (putK kvs p.1 p.2) (stored vs q.1 q.2) := by
      have := r0.put p.1 h.2
      rw [← h.1]; exact this
    exact ih e
theorem length_mergeK : ∀ (more kvs : List (Key × V)), (mergeK kvs more).length ≤ kvs.length + more.length
  | [], kvs => by show kvs.length ≤ kvs.length + 0; omega
  | p :: r, kvs => by
    have h1 := length_mergeK r (putK kvs p.1 p.2)
    have h2 := length_putK kvs p.1 p.2
    show (mergeK (putK kvs p.1 p.2) r).length ≤ _
    rw [List.length_cons]; omega
theorem carries_of {P : Program} {w : World} : ∀ {kvs : List (Key × V)} {ws : List (Value × Value)}, VV (kvs.map fun kv => (kV kv.1, kv.2)) ws → ∃ rs, Carries (mixKind P w) ws rs ∧ KV kvs rs
  | [], _, r => by rw [List.map_nil] at r; cases r; exact ⟨[], True.intro, .nil⟩
  | p :: kvs, _, r => by
    rw [List.map_cons] at r
    cases r with
    | @cons a b as bs h t =>
      obtain ⟨rs, c, q⟩ := carries_of (P := P) (w := w) t
      obtain ⟨b1, b2⟩ := b
      exact ⟨(p.1, b2) :: rs, ⟨kV_is h.1, rfl, c⟩, .cons ⟨rfl, h.2⟩ q⟩
def tDisp (trs : List (TE × TE)) : TE := fun σ H Q => ∀ p, H p = none → tPairs trs σ (upd H p (.dK [])) fun ps H2 => H2 p = some (.dK []) ∧ ∃ kvs : List (Key × V), ps = kvs.map (fun kv => (kV kv.1, kv.2)) ∧ kvs.length ≤ 15 ∧ Q (.ref p) (upd H2 p (.dK (mergeK [] kvs)))
theorem pe_disp {X : Cx} {pos : Pos} {keys : List (Option Expr)} {values : List Expr} {trs : List (TE × TE)} (h : PPs X pos keys values trs) (hall : keys.all (·.isSome) = true) (hl : keys.length = values.length) (h0 : keys ≠ [])
    (h15 : keys.length ≤ 15) : PE X (.Dict keys values pos) (tDisp trs) := by
  intro pins s σ H Q I q
  have hn := I.hok.fresh (Nat.le_refl s.heap.objs.size)
  have I1 := I.laid (a := s.heap.objs.size) (o := .dK []) (h' := s.heap.push { cls := .type "dict", data := .dict #[] }) (t' := s.toks) (fun _ _ q => Heap.get?_push_of_some _ q) (Nat.le_refl _) (dk_empty s.heap I.big)
  refine wpAny_Dict_walk (knd := mixKind X.prog X.w) hall hl h0 h15 (thn (h pins _ σ _ _ I1 (q _ hn)) fun ws s2 ⟨ps, H2, I2, rel, e, kvs, ep, lk, q2⟩ => ?_)
  subst ep
  obtain ⟨rs, c, rk⟩ := carries_of (P := X.prog) (w := X.w) rel
  obtain ⟨z, hd, vs0, r0, dd⟩ := dk_of I2.hok e
  cases r0
  refine ⟨rs, c, dd, fun h' dd' hs => ⟨.ref s.heap.objs.size, _, ?_, rfl, q2⟩⟩
  have hz : (mergeK [] kvs).length ≤ sizeLine := by
    have h1 := length_mergeK kvs []
    rw [List.length_nil] at h1
    rw [sizeLine_eq]; omega
  have he : ∃ q, h'.get? s.heap.objs.size = some q := let ⟨q, _, _, hq, _⟩ := dd'; ⟨q, hq⟩
  exact d_write I2 (by rw [e]; exact True.intro) hs he (dk_new hz hd (rk.merge .nil) dd')


structure M2 (X : Cx) (o : Expr) (m : Str) (apos : Pos) (e f : Expr) (cpos : Pos) : Prop where
  base : attributeBase o m X.env (eval o X.env) = eval o X.env
  few : ((backTo cpos (starEach [e, f] X.env)).all (fun x => !x.1) && (backToKw cpos (keywordEach [] X.env)).all (fun x => x.1.isSome)
    && decide (([e, f] : List Expr).length + ([] : List Keyword).length + (if ([] : List Keyword).isEmpty then 0 else 1) < 30)) = true
  line : (apos.endLine == cpos.line) = true
  trees : backTo cpos (starEach [e, f] X.env) = [(false, eval e X.env), (false, eval f X.env)]





end L2

namespace L2
open PySem PySem.Spec PyProof.Rows


end L2

namespace L2
open PySem PySem.Spec PyProof.Rows

theorem boot_reversed5 : bootBuiltins "reversed" = some (.type "reversed") := by decide +kernel

section
variable {X : Cx}
theorem pi_one {tg : Expr} {pins : List (Addr × Obj)} {σ : St} {H : Hp} {s : Shared} {R : It → Hp → Prop} {J : It} {tn : Nat → Heap → Prop} {tk : Nat} (I : Inv X pins σ H s) (o : Obj)
    (T : Turn X.prog X.w X.K tg J [s.heap.objs.size] s.heap.objs.size tn) (st : tn 0 (s.heap.push o)) (q : R J H) : PIE X pins σ tg R (.ref s.heap.objs.size) { s with heap := s.heap.push o, toks := tk } := by
  refine ⟨s.heap.objs.size, [s.heap.objs.size], tn, J, H, rfl, I.kept fun b ob e => Heap.get?_push_of_some _ e, T, st, fun b hb => ?_, q⟩
  have e : b = s.heap.objs.size := by simpa using hb
  subst e
  exact I.fpOk (Nat.le_refl _) (I.hok.fresh (Nat.le_refl _))
end

def RgC (i j c : Int) (n : Nat) : Prop := c ≠ 0 ∧ c.natAbs < 1073741824 ∧ Builtin.Range.small i j c = true ∧ Builtin.Range.rangeSize i j c = n
theorem RgC.neg {i j : Int} (ha : -(2 ^ 62) ≤ i) (ha' : i < 2 ^ 62) (hb : -(2 ^ 62) ≤ j) (hb' : j < 2 ^ 62) : RgC i j (-1) (i - j).toNat :=
  ⟨by decide, by decide, PySem.W.small_down ha ha' hb hb', PySem.W.rangeSize_downNat i j⟩

def Its (x : Str) : It := ⟨fun i _ => i < x.cps.size, fun i H v H' => H' = H ∧ ∃ c, x.cps[i]? = some c ∧ v = .str ⟨#[c]⟩, fun i _ => x.cps.size ≤ i⟩
theorem turn_str {P : Program} {w : World} {K : PySem.W.Frag} {tg : Expr} (it : Addr) (x : Str) (t : Tok) (ty : String) (hty : ty = "str_ascii_iterator" ∨ ty = "str_iterator") :
    Turn P w K tg (Its x) [it] it (fun i h => h.IsStrIter it ty x t i) where
  mem := by simp
  obj := fun i h st b hb => by
    have e : b = it := by simpa using hb
    subst e
    obtain ⟨o, e, c, d⟩ := st
    exact ⟨o, e, fun v z => by rw [d] at z; cases z⟩
  keep := fun i h h' st k => let ⟨o, ho, r⟩ := st; ⟨o, k it (by simp) o ho, r⟩
  item := by
    intro X hP hw hK hc i pins s σ H E I hf st hg
    subst hP hw hK
    obtain ⟨f0, f1, f2, f3, f4, f5⟩ := hf it (by simp)
    have W : Walks X.prog X.w X.A it [it] [it] x.cps.size (SignAt x) (fun i h => h.IsStrIter it ty x t i) := by
      rcases hty with e | e
      · rw [e]; exact Walks.strAscii (I.ok.hd hc) it x t
      · rw [e]; exact Walks.strWide (I.ok.hd hc) it x t
    have hno : ["enumerate", "zip", "dict_itemiterator", "dict_reverseitemiterator", "odict_iterator", "itertools.zip_longest", "itertools.pairwise"].contains ty = false := by
      rcases hty with e | e
      · rw [e]; decide
      · rw [e]; decide
    refine W.item i s _ _ hg st fun v h' tk hv st' kk => ?_
    obtain ⟨c, u, hcx, rfl⟩ := hv
    have I1 : Inv X pins σ H { s with heap := h', toks := tk } := I.turned (fun b o hb e => kk b o (by simpa using hb) e) f0 f1 f3 f4 f5
    obtain ⟨oi, e, cc, dd⟩ := id st'
    exact ⟨_, rfl, go_of (s := { s with heap := h', toks := tk }) e cc dd hno ⟨.str ⟨#[c]⟩, H, I1, ⟨u, rfl⟩, ⟨rfl, c, hcx, rfl⟩, st', fun b hb => (hf b hb).1⟩⟩
  done := by
    intro X hP hw hK hc i pins s σ H E I hf st hg
    subst hP hw hK
    obtain ⟨f0, f1, f2, f3, f4, f5⟩ := hf it (by simp)
    have hx : x.cps[i]? = none := Array.getElem?_eq_none hg
    rcases hty with e | e
    · rw [e] at st
      exact wpAny_pyNext_ascii_end (I.ok.hd hc) st hx fun h' eb => ⟨rfl, I.turned (t' := s.toks) (fun b o hb e => eb b o hb e) f0 f1 f3 f4 f5⟩
    · rw [e] at st
      exact wpAny_pyNext_wide_end (I.ok.hd hc) st hx fun h' eb => ⟨rfl, I.turned (t' := s.toks) (fun b o hb e => eb b o hb e) f0 f1 f3 f4 f5⟩
  self := fun A i s Q E st h => by
    rcases hty with e | e
    · rw [e] at st; exact wpAny_pyIter_striter_ascii st h
    · rw [e] at st; exact wpAny_pyIter_striter_wide st h




end L2

section 
namespace Bits
open PySem PyProof.Rows

end Bits
end 

section 
namespace TL
open PySem PySem.Builtin PySem.Builtin.Str PySem.StrLaws

abbrev tl (x : Str) : List Nat := x.cps.toList
def pre (S l : List Nat) : Bool := l.take S.length == S
def par (S : List Nat) : List Nat → List Nat → Option (List Nat × List Nat)
  | _, [] => none
  | acc, c :: r => if pre S (c :: r) = true then some (acc, (c :: r).drop S.length) else par S (acc ++ [c]) r

end TL
end 

namespace L2
open PySem PySem.Spec PyProof.Rows


section
variable {X : Cx}

end

end L2

namespace L2
open PySem PySem.Spec PyProof.Rows

section
variable {X : Cx}
theorem op_le_str : OpR X (compareOp .LtE) (fun x y H Q => ∃ i j, x = .str i ∧ y = .str j ∧ Q (.bl (!decide (j.cps.toList < i.cps.toList))) H) := by
  intro pins s σ H x y v u Q I rx ry h
  obtain ⟨i, j, rfl, rfl, q⟩ := h
  obtain ⟨t, rfl⟩ := rx
  obtain ⟨t', rfl⟩ := ry
  exact PySem.P.le_str (fin_bl I q rfl)
end

theorem IsPart.raw {v : Value} {o : Option Int} (p : IsPart v o) : ∃ l : Option (Int × Tok), v = partValue l ∧ l.map (·.1) = o := by
  cases p with
  | none => exact ⟨none, rfl, rfl⟩
  | int i t => exact ⟨some (i, t), rfl, rfl⟩

def clipS (n d : Nat) : Option Int → Int
  | none => (d : Int)
  | some i => max 0 (min (if i < 0 then i + (n : Int) else i) (n : Int))
theorem clipS_eq (n d : Nat) (o : Option Int) : clipS n d o = ((HT.sIx n d o : Nat) : Int) := by
  cases o with
  | none => rfl
  | some v =>
    show max (0 : Int) (min (if v < 0 then v + (n : Int) else v) (n : Int)) = (((if v < 0 then (v + (n : Int)).toNat else min v.toNat n) : Nat) : Int)
    by_cases hv : v < 0
    · simp only [if_pos hv]
      omega
    · simp only [if_neg hv]
      omega
theorem sidx_clip (a b : Option Int) (n : Nat) : Builtin.Str.strSliceIndices a b 1 n = sliceRange (clipS n 0 a) (clipS n n b) 1 := by
  have h1 : ((1 : Int) > 0) = True := by simp
  cases a <;> cases b <;> first
    | rfl
    | (simp only [Builtin.Str.strSliceIndices, clipS, h1, if_true]; rfl)
    | simp [Builtin.Str.strSliceIndices, clipS]
theorem sidx (a b : Option Int) (n : Nat) : Builtin.Str.strSliceIndices a b 1 n = (List.range (HT.sIx n n b - HT.sIx n 0 a)).map (fun k => HT.sIx n 0 a + k) := by
  rw [sidx_clip, clipS_eq, clipS_eq]
  generalize HT.sIx n 0 a = p
  generalize HT.sIx n n b = q
  simp only [sliceRange, show ((1 : Int) > 0) = True from by simp, if_true]
  by_cases hlt : (p : Int) < q
  · have e3 : (((q : Int) - p + 1 - 1) / 1).toNat = q - p := by first | omega | (simp; done) | (simp; omega)
    simp only [hlt, if_true, e3]
    refine List.map_congr_left fun k _ => ?_
    omega
  · have : q - p = 0 := by omega
    simp [hlt, this]

def cutS (z : Str) (lo hi : Option Int) : Str :=
  ⟨((z.cps.toList.drop (HT.sIx z.length 0 lo)).take (HT.sIx z.length z.length hi - HT.sIx z.length 0 lo)).toArray⟩
theorem sliceText_cut (z : Str) (lo hi : Option Int) : PySem.StrLaws.sliceText z lo hi = cutS z lo hi := by
  have h1 : HT.sIx z.length 0 lo ≤ z.length := HT.sIx_le _ _ (Nat.zero_le _) _
  have h2 : HT.sIx z.length z.length hi ≤ z.length := HT.sIx_le _ _ (Nat.le_refl _) _
  have hp : HT.sIx z.length 0 lo ≤ max (HT.sIx z.length 0 lo) (HT.sIx z.length z.length hi) := Nat.le_max_left _ _
  have hq : max (HT.sIx z.length 0 lo) (HT.sIx z.length z.length hi) ≤ z.length := Nat.max_le.mpr ⟨h1, h2⟩
  have hd : max (HT.sIx z.length 0 lo) (HT.sIx z.length z.length hi) - HT.sIx z.length 0 lo = HT.sIx z.length z.length hi - HT.sIx z.length 0 lo := by omega
  have e : Builtin.Str.strSliceIndices lo hi 1 z.length =
      Builtin.Str.strSliceIndices (some ((HT.sIx z.length 0 lo : Nat) : Int)) (some ((max (HT.sIx z.length 0 lo) (HT.sIx z.length z.length hi) : Nat) : Int)) 1 z.length := by
    rw [PySem.StrLaws.strSliceIndices_plain hp hq, hd, sidx]
  have e2 : PySem.StrLaws.sliceText z lo hi =
      PySem.StrLaws.sliceText z (some ((HT.sIx z.length 0 lo : Nat) : Int)) (some ((max (HT.sIx z.length 0 lo) (HT.sIx z.length z.length hi) : Nat) : Int)) := by
    unfold PySem.StrLaws.sliceText
    rw [e]
  rw [e2, PySem.StrLaws.sliceText_nat z hp hq, hd]
  rfl
theorem cutS_length (z : Str) (lo hi : Option Int) : (cutS z lo hi).length ≤ z.length := by
  show (((z.cps.toList.drop (HT.sIx z.length 0 lo)).take (HT.sIx z.length z.length hi - HT.sIx z.length 0 lo)).toArray).size ≤ z.cps.size
  rw [List.size_toArray, List.length_take, List.length_drop, Array.length_toList]
  omega
def rSlS : V → Option Int → Option Int → Hp → VK → Prop := fun x lo hi H Q => ∃ z, x = .str z ∧ z.length ≤ sizeLine ∧ Q (.str (cutS z lo hi)) H
theorem sl_str {X : Cx} : SlR X rSlS := by
  intro pins s σ H x v vl vu lo hi sl Q I rx hs pl pu h
  obtain ⟨z, rfl, hz, q⟩ := h
  obtain ⟨t, rfl⟩ := rx
  obtain ⟨os, hos, hcs, hds⟩ := hs
  obtain ⟨l, rfl, rfl⟩ := IsPart.raw pl
  obtain ⟨u, rfl, rfl⟩ := IsPart.raw pu
  refine ⟨"str", _, F.slot_str_getitem.lookup, typeIs_str _ _ _, ?_⟩
  refine wpAny_getItem_str_slice (l := l) (u := u) (st := none) ⟨os, hos, hcs, hds⟩ rfl ?_
  have hl : (PySem.StrLaws.sliceText z (l.map (·.1)) (u.map (·.1))).length ≤ sizeLine := by
    rw [sliceText_cut]
    exact Nat.le_trans (cutS_length z _ _) hz
  rw [← sliceText_cut] at q
  unfold PySem.StrLaws.sliceText at q hl
  show Made.post (if ((1 : Int) == 1 && (Builtin.Str.strSliceIndices (l.map (·.1)) (u.map (·.1)) 1 z.length).length == z.length) = true then Made.val (.str z t)
    else Made.str ⟨((Builtin.Str.strSliceIndices (l.map (·.1)) (u.map (·.1)) 1 z.length).filterMap (z.cps[·]?)).toArray⟩) (EP X pins σ Q) s
  by_cases c : ((1 : Int) == 1 && (Builtin.Str.strSliceIndices (l.map (·.1)) (u.map (·.1)) 1 z.length).length == z.length) = true
  · rw [if_pos c] at q ⊢
    exact ⟨.str z, H, I, ⟨t, rfl⟩, q⟩
  · rw [if_neg c] at q hl ⊢
    exact ⟨hl, .str _, H, I.tok _, ⟨_, rfl⟩, q⟩
end L2

namespace Att
open PySem PySem.W PySem.Calls PyProof.Rows

theorem ints_of_wellAll {P : Params} {h : Heap} : ∀ (ns : List Int) (vs : List Value), WellAll P h vs (ns.map WData.int) → IntsAre vs ns := by
  intro ns
  induction ns with
  | nil =>
    intro vs w
    rw [List.map_nil] at w
    cases w
    exact .nil
  | cons n ns ih =>
    intro vs w
    rw [List.map_cons] at w
    cases w with
    | cons a b =>
      cases a
      exact .cons _ _ (ih _ b)

theorem script_of {l : OpenLaw} {n : Nat} (hn : l.most = some n) {P : Params} {h : Heap} {args : List WData} {vals : List Value}
    (hpre : l.row.toRowW.claim.pre args = true) (hwl : WellAll P h vals args) :
    ∃ a vs ns, vals = [Value.ref a] ∧ args = [WData.list (ns.map WData.int)] ∧ h.get? a = some { cls := .type "list", data := .seq vs.toArray } ∧ IntsAre vs ns ∧ ns.length ≤ n := by
  have hsh : WShape.hasAll [] args [.list .int] = true := (pre_splitW hpre).1
  have hc : l.pre.holds [] { args := args } = true := (pre_splitW hpre).2
  obtain ⟨d, r, rfl, h1, h2⟩ := hasAllW_cons hsh
  obtain rfl := hasAllW_nil h2
  obtain ⟨xs, rfl, h3⟩ := hasW_list h1
  obtain ⟨ns, rfl⟩ := items_int h3
  have hlen : ns.length ≤ n := by
    unfold OpenLaw.pre at hc
    have h4 : (WTm.not (.lt (.lit (.int (n : Int))) (.len (.arg 0)))).holds [] { args := [.list (ns.map .int)] } = true := by
      have h4 := (holds_andW hc).1
      rw [hn] at h4
      exact h4
    have h5 := condW_of h4 (w_not (w_lt w_lit (w_len_list (w_arg rfl))))
    rw [List.length_map] at h5
    refine Nat.le_of_not_lt fun q => ?_
    have q' : (n : Int) < ((ns.length : Nat) : Int) := by omega
    first
      | (rw [decide_eq_true q'] at h5; exact absurd h5 (by decide))
      | (simp at h5; omega)
  cases hwl with
  | cons w1 w2 =>
    cases w2
    cases w1 with
    | list ho hall => exact ⟨_, _, ns, rfl, rfl, ho, ints_of_wellAll ns _ hall, hlen⟩

theorem post_true (l : OpenLaw) (args : List WData) : l.row.toRowW.claim.post args (.bool true) args = true :=
  postW_of (r := l.row.toRowW) (X := (true == true))
    (show WShape.has [] (.bool true) .bool = true by first | rfl | decide | simp [WShape.has, WShape.arms, WShape.armsAll])
    (show (WTm.eq .res (.lit (.bool true))).value [] { args := args, res := some (.bool true), after := args } = some (.bool (true == true)) from w_eq_bool (w_res rfl) w_lit) rfl

theorem attach_call {l : OpenLaw} {n : Nat} {q : Program} {loose : List Str} {XP : (Str → Option Value) → Heap → Prop} {YP : World → Heap → Prop} {d : DefRec}
    (hn : l.most = some n) (hdf : d.params.defaults = [])
    (call : ∀ (w : World) (s₀ s₁ : Shared) (mg mb : Str → Option Value) (fa : Addr) (o : Obj) (pm cd doc : Value) (a : Addr) (vs : List Value) (ns : List Int),
      Ground q loose [] XP w s₀ mg mb s₁.heap → YP w s₁.heap →
      s₁.heap.get? fa = some o → o.data = .func (docDef d.name d.params d.body d.scope pm cd doc) → s₁.heap.CodeRec cd d.name → mg d.name = some (.ref fa) →
      s₁.heap.get? a = some { cls := .type "list", data := .seq vs.toArray } → IntsAre vs ns → ns.length ≤ n → s₁.gens = #[] →
      codeAny (model l.prog w) callerA (.call (.ref fa) ⟨[.ref a], []⟩) (fun r s' => r = .ok (.ret (.bool true)) ∧ OldK s₁.heap s'.heap ∧ s'.os = s₁.os ∧ AllBare s'.gens) s₁) :
    WalkO q loose XP YP l.row.toRowW d [] (fun f vs => PySem.call f vs) := by
  intro w s₀ s₁ mg mb G Y fa o pm cd doc dV kV ho hd hcd hD hmg hg args vals as hpre hlay hrd hwl hlo
  obtain rfl : dV = .none := Dflts.none hD hdf
  obtain rfl : kV = .none := Dflts.noKw hD
  obtain ⟨a, vs, ns, rfl, rfl, hobj, hints, hlen⟩ := script_of hn hpre hwl
  refine enter_call (codeAny_mono (call w s₀ s₁ mg mb fa o pm cd doc a vs ns G Y ho (fd_plain hd) hcd hmg hobj hints hlen hg) fun r s' hq => ?_)
  obtain ⟨rfl, h2, h3, h4⟩ := hq
  exact ⟨.inl ⟨.bool true, .bool true, [], rfl, fun _ => rfl, .bool true, post_true l _, fun _ => ⟨List.Pairwise.nil, fun _ hm => (nomatch hm)⟩⟩, h2, h3, h4⟩

section
variable {prog : Program} {w : World} {A : Around} {E : Value → Shared → Prop} {s : Shared} {K : Frag}

end
end Att

namespace L2
open PySem PySem.Spec PyProof.Rows

theorem vals_ints : ∀ {vs : List Value} {ns : List Int}, IntsAre vs ns → Vals (ns.map V.int) vs
  | _, _, .nil => .nil
  | _, _, .cons n t h => .cons ⟨t, rfl⟩ (vals_ints h)

end L2

namespace L2
open PySem PySem.Spec PyProof.Rows

end L2

namespace L2
open PySem PySem.Spec PyProof.Rows

def defArgs (s : Stmt) : Arguments := match s with
  | .FunctionDef _ a _ _ _ _ _ _ _ _ => a
  | _ => { posonlyargs := [], args := [], vararg := none, kwonlyargs := [], kw_defaults := [], kwarg := none, defaults := [] }
def defBody (s : Stmt) : List Stmt := match s with
  | .FunctionDef _ _ b _ _ _ _ _ _ _ => b
  | _ => []
def defScope (s : Stmt) : Scope := match s with
  | .FunctionDef _ _ _ _ _ _ sc _ _ _ => sc
  | _ => { kind := .function, names := [], isGenerator := false, isCoroutine := false }

abbrev CX0 : CXT := fun _ _ _ _ _ _ => False
abbrev E0 : XK := fun _ _ _ => False
theorem pass0 {X : Cx} : Passes CX0 X E0 := fun _ _ _ _ _ _ _ h => h.elim

structure Fun (K : PySem.W.Frag) (x qual : Str) (st : Stmt) (f : Addr) (fd : FuncData) : Prop where
  ex : ∃ (oc : Value) (od : Option Addr) (kV doc pm : Value) (an : Option Addr) (cdv ct : Value) (osl : Array (Option Value)),
    fd = PySem.W.fnOf x qual (defArgs st) (defBody st) (defScope st) .none kV doc pm an cdv ct ∧ K.lookup f = some ⟨oc, od, .func fd, osl⟩ ∧ PySem.W.codeIn K cdv qual = true
  kp : PySem.W.keepIn K (.ref f) = true
section
variable {P : Program} {w : World} {K : PySem.W.Frag} {mg : Str → Option Value} {base : Heap}
theorem Fun.ok {x qual : Str} {st : Stmt} {f : Addr} {fd : FuncData} {N ps : List Str} {k : Nat} {sp : Sp} (F : Fun K x qual st f fd) (S : FnScope N ps (defScope st)) (len : ∀ vs H Q E, sp vs H Q E → vs.length = ps.length)
    (hbody : ∀ (cdv : Value) (A : Around) (outer : List Env) (s : Shared) (H : Hp) (vs : List V) (Q : VK) (E : XK), Room k (A.deeper (envOfC qual (defScope st) s.heap.objs.size f cdv)) → sp vs H Q E →
      ∃ t, PSs (cxOf CX0 P w K mg base N qual (defScope st) f cdv A outer s H E).nox (defBody st) t ∧ t { nx := fun _ H' => Q .non H', rt := Q } (start N vs) H) : FnOk P w K mg base CX0 (k + 1) f fd ps sp := by
  obtain ⟨oc, od, kV, doc, pm, an, cdv, ct, osl, rfl, lk, hcd⟩ := F.ex
  refine fn_of lk hcd S len fun A outer s H vs Q E hr hsp => ?_
  obtain ⟨t, h, q⟩ := hbody cdv A outer s H vs Q E hr hsp
  exact ⟨t, h.nox, q⟩
theorem Fun.binds {x qual : Str} {st : Stmt} {f : Addr} {fd : FuncData} {ps : List Str} (F : Fun K x qual st f fd)
    (h : ∀ (kV doc pm : Value) (an : Option Addr) (cdv ct : Value) (us : List Value), us.length = ps.length → bindArgs (PySem.W.fnOf x qual (defArgs st) (defBody st) (defScope st) .none kV doc pm an cdv ct) ⟨us, []⟩ = pure (ps.zip us)) : Binds K fd ps [] := by
  obtain ⟨oc, od, kV, doc, pm, an, cdv, ct, osl, rfl, lk, hcd⟩ := F.ex
  exact .all (h kV doc pm an cdv ct)
theorem fun_mk {x qual : Str} {st : Stmt} {f : Addr} {oc : Value} {od an : Option Addr} {osl : Array (Option Value)} {kV doc pm cdv ct : Value} (l : K.lookup f = some ⟨oc, od, .func (PySem.W.fnOf x qual (defArgs st) (defBody st) (defScope st) .none kV doc pm an cdv ct), osl⟩)
    (c : PySem.W.codeIn K cdv qual = true) (k : PySem.W.keepIn K (.ref f) = true) : Fun K x qual st f (PySem.W.fnOf x qual (defArgs st) (defBody st) (defScope st) .none kV doc pm an cdv ct) := ⟨⟨oc, od, kV, doc, pm, an, cdv, ct, osl, rfl, l, c⟩, k⟩
end
theorem small1000 {n : Nat} (h : n ≤ 1000) : n < sizeLine := Nat.lt_of_le_of_lt h (by decide)

section
variable {X : Cx}
theorem pv (i : Nat) {x : Str} {pos : Pos} (hN : X.N[i]? = some x := by rfl) (hv : Vis X.env.scope x := by first | exact Or.inl rfl | exact Or.inr (Or.inl rfl) | exact Or.inr (Or.inr rfl)) (hd : (x == ("__debug__" : Str)) = false := by decide)
    (hcd : (x == ("__classdict__" : Str)) = false := by decide) : PE X (.Name x pos) (tVar i) := pe_var hN hv hd hcd
end

def Same (H H' : Hp) : Prop := ∀ b o, H b = some o → H' b = some o
theorem Same.refl (H : Hp) : Same H H := fun _ _ h => h
theorem Same.trans {H H1 H2 : Hp} (a : Same H H1) (b : Same H1 H2) : Same H H2 := fun c o h => b c o (a c o h)
theorem Same.free {H H' : Hp} (e : Same H H') {l : Addr} (h : H' l = Option.none) : H l = Option.none := by
  cases q : H l with
  | none => rfl
  | some o =>
    rw [e l o q] at h
    cases h
theorem Same.seq {K : PySem.W.Frag} {H H' : Hp} {a : Addr} {xs : List V} (e : Same H H') (h : SqL K H a xs) : SqL K H' a xs := by
  rcases h with (h | ⟨o, h⟩) | h
  · exact .inl (.inl (e _ _ h))
  · exact .inl (.inr ⟨o, e _ _ h⟩)
  · exact .inr h

end L2

namespace My
open PySem PySem.Spec PyProof.Rows L2
section
variable {prog : Program} {w : World} {A : Around} {E : Value → Shared → Prop} {s : Shared}
theorem revNoLen : typeLookup (.type "list_reverseiterator") "__len__" = pure none := by
  rw [typeLookup_type, builtinLookup_eq_fast]
  kernel_rfl
theorem revHasHint : typeLookup (.type "list_reverseiterator") "__length_hint__" = pure (some (.builtin "list_reverseiterator.__length_hint__")) := by
  rw [typeLookup_type, builtinLookup_eq_fast]
  kernel_rfl
theorem hintRev {r : Addr} {Q : Bool → Shared → Prop} (hT : s.TypeIs (.ref r) "list_reverseiterator") (h : Q false s) :
    wpAny (model prog w) A (Builtin.List.listLengthHint (.ref r)) Q E s := by
  unfold Builtin.List.listLengthHint
  refine wpAny_bind (wpAny_specialOf hT revNoLen ?_)
  show wpAny _ A (specialOf (Value.ref r) (Str.ofString "__length_hint__") >>= _) _ _ _
  refine wpAny_bind (wpAny_specialOf hT revHasHint ?_)
  generalize hnm : ("list_reverseiterator.__length_hint__" : String) = nm
  wp_delta
  rw [show splitId nm = some ("list_reverseiterator", "__length_hint__") from by subst hnm; decide +kernel]
  subst hnm
  refine wpAny_bind (wpAny_isInstance (b := true) hT (by rw [isSubtype_type]; kernel_rfl) ?_)
  exact wpAny_pure h
theorem callListRev {r l : Addr} {items : Array Value} {Q : Value → Shared → Prop} (hh : A.handled = none)
    (hit : s.heap.IsRevIter r l ((items.size : Int) - 1)) (hl : s.heap.IsList l items) (hne : l ≠ r) (hn : items.size ≤ sizeLine)
    (hQ : ∀ h2 tk acc c, (∀ b o, b ≠ r → s.heap.get? b = some o → h2.get? b = some o) →
      h2.get? s.heap.objs.size = some { cls := .type "list", dict := none, data := .seq acc c, slots := #[] } →
      ItemsOf (fun i v => items[items.size - 1 - i]? = some v) acc items.size → Q (.ref s.heap.objs.size) { s with heap := h2, toks := tk }) :
    wpAny (model prog w) A (call (.type "list") [.ref r]) Q E s := by
  have rlt : r < s.heap.objs.size := by
    obtain ⟨_, e, _⟩ := hit
    exact Heap.lt_size e
  have llt : l < s.heap.objs.size := by
    obtain ⟨_, e, _⟩ := hl
    exact Heap.lt_size e
  refine callType_codes (Q₁ := fun ob s1 => ob = .ref s.heap.objs.size ∧ s1 = { s with heap := s.heap.push { cls := .type "list", data := .seq #[] } })
    PySem.F.called_list (PySem.F.typeCall_list_1 _) PySem.F.entry_list_init (code_list_new _ ⟨rfl, rfl⟩) fun ob s1 e1 => ?_
  obtain ⟨rfl, rfl⟩ := e1
  have hS : (s.heap.push { cls := .type "list", data := .seq #[] }).get? s.heap.objs.size = some { cls := .type "list", data := .seq #[] } := Heap.get?_push_size _ rfl
  refine ⟨⟨_, hS, rfl⟩, PySem.F.args_list_init_2 _ _, ?_⟩
  obtain ⟨S, hSz⟩ : ∃ S, s.heap.objs.size = S := ⟨_, rfl⟩
  have rlt' : r < S := hSz ▸ rlt
  have llt' : l < S := hSz ▸ llt
  have slt : ∀ b o, s.heap.get? b = some o → b ≠ S := fun b o e => hSz ▸ Nat.ne_of_lt (Heap.lt_size e)
  rw [hSz] at hS hQ ⊢
  show wpAny _ _ (do let old ← Builtin.List.listItems (.ref S); Builtin.List.listUpdate (.ref S) (fun _ => #[]); letGo old.toList.reverse; Builtin.List.listExtendWith (.ref S) (.ref r) .none) _ _ _
  refine wpAny_bind ?_
  unfold Builtin.List.listItems
  refine wpAny_bind (wpAny_seqItems hS rfl (wpAny_pure ?_))
  show wpAny _ _ (updateSeq S (fun _ => #[]) >>= fun _ => letGo (#[] : Array Value).toList.reverse >>= fun _ => Builtin.List.listExtendWith (.ref S) (.ref r) .none) _ _ _
  refine wpAny_bind (wpAny_updateSeq hS rfl ?_)
  have hS2 := Heap.get?_update_self (Obj.mapSeq (fun _ => (#[] : Array Value))) hS rfl
  refine wpAny_bind (wpAny_letGo ?_)
  generalize hH : (s.heap.push { cls := .type "list", data := .seq #[] }).update S (Obj.mapSeq (fun _ => (#[] : Array Value))) = h3 at hS2 ⊢
  have keep : ∀ b o, s.heap.get? b = some o → h3.get? b = some o := fun b o e => by
    have hb : b ≠ S := slt b o e
    rw [← hH]
    exact (Heap.get?_update_other _ _ (Ne.symm hb)).trans (Heap.get?_push_of_some _ e)
  have hrS : S ≠ r := Nat.ne_of_gt rlt'
  have hlS : S ≠ l := Nat.ne_of_gt llt'
  have W := (PySem.Walks.listRev (prog := prog) (w := w) (A := A.in1.in1) hh r l hne items)
  have st : items.size ≥ 0 ∧ h3.IsRevIter r l ((items.size : Int) - 1 - ((0 : Nat) : Int)) ∧ h3.IsList l items := by
    refine ⟨Nat.zero_le _, ?_, hl.at fun o e => keep l o e⟩
    have e0 : (items.size : Int) - 1 - ((0 : Nat) : Int) = (items.size : Int) - 1 := by omega
    rw [e0]
    exact hit.at fun o e => keep r o e
  have hT : ({ s with heap := h3 } : Shared).TypeIs (.ref r) "list_reverseiterator" := (hit.at fun o e => keep r o e : h3.IsRevIter r l _).typeIs (s := { s with heap := h3 })
  unfold Builtin.List.listExtendWith
  refine wpAny_bind (wpAny_typeOf hT ?_)
  have n1 : Builtin.List.listSameRef (.ref S) (.ref r) = false := by simp [Builtin.List.listSameRef, hrS]
  rw [if_neg (by rw [n1]; decide)]
  refine wpAny_bind (wpAny_pyIter_revIter st.2.1 ?_)
  refine wpAny_bind (wpAny_holding (hintRev hT ?_))
  rw [if_neg (by decide)]
  have hSf : S ∉ [r, l] := by
    simp only [List.mem_cons, List.not_mem_nil, or_false, not_or]
    exact ⟨hrS, hlS⟩
  refine wpAny_pure ⟨plainId_quiet PySem.F.plain_extend_loop _, codeAny_extend_loopS W.toS hn S hSf _ items.size 0 _ #[] _ rfl (Nat.zero_le _) st hS2 (ItemsOf.nil _) fun s4 acc c hm hS4 ha => ?_⟩
  rw [Moved.eq_with hm]
  refine ⟨rfl, hQ s4.heap s4.toks acc c (fun b o hb e => hm.heap b o (fun hmem => ?_) (keep b o e)) hS4 ha⟩
  rcases List.mem_cons.mp hmem with e2 | hmem
  · exact slt b o e e2
  · exact hb (List.mem_singleton.mp hmem)
end
end My

namespace My
open PySem PySem.Spec PyProof.Rows L2
theorem bootList : bootBuiltins "list" = some (.type "list") := by decide +kernel
def tListRev (K : PySem.W.Frag) (ta : TA) : TE := fun σ H Q => ta σ H fun vs H1 => ∃ a xs, vs = [.ref a] ∧ SqL K H1 a xs ∧ ∀ p, H1 p = none → Q (.ref p) (upd H1 p (.lst xs.reverse))
theorem vals_rev : ∀ {xs : List V} {us : List Value}, Vals xs us → Vals xs.reverse us.reverse
  | _, _, .nil => .nil
  | x :: xs, u :: us, .cons r t => by
    rw [List.reverse_cons, List.reverse_cons]
    exact (vals_rev t).append (.cons r .nil)
theorem items_rev {items : List Value} {acc : Array Value} (h : ItemsOf (fun i v => items.toArray[items.toArray.size - 1 - i]? = some v) acc items.toArray.size) : acc.toList = items.reverse := by
  obtain ⟨h1, h2⟩ := h
  apply List.ext_getElem?
  intro i
  by_cases hi : i < acc.size
  · have e := h2 i _ (Array.getElem?_eq_getElem hi)
    have hl : i < items.length := by simpa [h1] using hi
    rw [List.getElem?_reverse hl, Array.getElem?_toList, Array.getElem?_eq_getElem hi]
    simpa using e.symm
  · have hl : ¬ i < items.length := by simpa [h1] using hi
    rw [List.getElem?_eq_none (by simpa using hi), List.getElem?_eq_none (by simpa using hl)]
section
variable {X : Cx}
theorem pe_listrev {e : Expr} {ta : TA} {p p2 pos pos2 : Pos} (ha : PA X [e] ta) (hc : X.calm = true) (hg : Gl X "list") (hm : X.mg "list" = none) (hg2 : Gl X "reversed") (hm2 : X.mg "reversed" = none)
    (hs : starEach [e] X.env = [(false, eval e X.env)] := by rfl) :
    PE X (.Call (.Name "list" p) [.Call (.Name "reversed" p2) [e] [] pos2] [] pos) (tListRev X.K ta) := by
  intro pins s σ H Q I h
  refine wpAny_Call_Name_kw (ld_blt I hg hm bootList ?_)
  refine PyProof.Rows.callWith_type1 ?_ rfl rfl
  show wpAny _ _ (spliced ((false, eval (.Call (.Name "reversed" p2) [e] [] pos2) X.env) :: backTo pos (starEach [] X.env))) _ _ s
  refine Calls.spliced_cons ?_
  refine wpAny_Call_Name_kw (ld_blt I hg2 hm2 boot_reversed5 ?_)
  refine PyProof.Rows.callWith_type1 (thn (ha pos2 pins s σ H _ I h) fun us s1 hh => ?_) hs rfl
  obtain ⟨vs, H1, I1, r1, a, xs, rfl, hq, q⟩ := hh
  obtain ⟨u, rfl, ru⟩ := vals1 r1
  cases ru
  obtain ⟨its, rv, pl, hz⟩ := I1.list hq
  have hlen := rv.length
  refine call_reversed_list pl.isList ?_
  refine Calls.spliced_nil ?_
  have alt : a < s1.heap.objs.size := pl.lt
  have hR : (s1.heap.push (revObj a ((its.toArray.size : Int) - 1))).IsRevIter s1.heap.objs.size a ((its.toArray.size : Int) - 1) := ⟨_, Heap.get?_push_size _ rfl, rfl, rfl⟩
  refine callListRev (I1.ok.hd hc) hR (pl.isList.push _) (Nat.ne_of_lt alt) (by simp only [List.size_toArray]; omega) fun h2 tk acc c kp hS ha => ?_
  have e2 := items_rev ha
  have kp2 : ∀ b o, s1.heap.get? b = some o → h2.get? b = some o := fun b o e => kp b o (Nat.ne_of_lt (Heap.lt_size e)) (Heap.get?_push_of_some _ e)
  have sz : (s1.heap.push (revObj a ((its.toArray.size : Int) - 1))).objs.size = s1.heap.objs.size + 1 := Heap.size_push ..
  refine ⟨.ref _, _, I1.laid (t' := tk) (o := .lst xs.reverse) kp2 (by rw [sz]; exact Nat.le_succ _) ?_, rfl, q _ (I1.hok.fresh (by rw [sz]; exact Nat.le_succ _))⟩
  refine ⟨by rw [List.length_reverse]; exact hz, its.reverse, c, vals_rev rv, ?_⟩
  have e3 : its.reverse.toArray = acc := by rw [← e2]
  rw [e3]
  exact hS
theorem cr_isinst : CallR X (.builtin "isinstance") (fun xs H Q => ∃ x n t b, xs = [x, .ty n] ∧ TyOf X.K H x t ∧ PySem.W.kitOne X.K t (.type n) = some b ∧ Q (.bl b) H) := by
  intro pins s σ H xs us Q I r h
  obtain ⟨x, n, t, b, rfl, ty, e, q⟩ := h
  cases r with
  | cons rx rr =>
    cases rr with
    | cons ry rr =>
      cases rr
      cases ry
      exact isinst_ok I rx ty e fun tk => ⟨.bl b, H, I.tok _, rfl, q⟩
theorem pe_globI {x : Str} {n : Int} {pos : Pos} (hg : Gl X x) (hm : ∃ t, X.mg x = some (.int n t)) (hd : (x == ("__debug__" : Str)) = false := by decide) : PE X (.Name x pos) (tC (.int n)) := by
  obtain ⟨t, h⟩ := hm
  exact pe_glob hg h ⟨t, rfl⟩ hd
theorem pe_globR {x : Str} {a : Addr} {pos : Pos} (hg : Gl X x) (hm : X.mg x = some (.ref a)) (hd : (x == ("__debug__" : Str)) = false := by decide) : PE X (.Name x pos) (tC (.ref a)) := pe_glob hg hm rfl hd
end
section
variable {σ : L2.St} {H : Hp} {Q : VK} {D : Ends} {i : Nat} {v : V} {ta tb : TE} {K : PySem.W.Frag}
theorem dec_int (a b : Int) : decide (V.int a = V.int b) = decide (a = b) := by
  by_cases h : a = b
  · simp [h]
  · simp [h]
theorem dec_bl (a b : Bool) : decide (V.bl a = V.bl b) = decide (a = b) := by
  by_cases h : a = b
  · simp [h]
  · simp [h]
end
end My

namespace My
open PySem PySem.Spec PyProof.Rows L2
def Raw (K : PySem.W.Frag) (mg : Str → Option Value) (name : Str) (st : Stmt) (ps : List Str) : Prop :=
  ∃ f fd, Fun K name name st f fd ∧ mg name = some (.ref f) ∧ Binds K fd ps []
def Def (P : Program) (w : World) (K : PySem.W.Frag) (mg : Str → Option Value) (base : Heap) (k : Nat) (name : Str) (ps : List Str) (sp : Sp) : Prop :=
  ∃ f fd, mg name = some (.ref f) ∧ PySem.W.keepIn K (.ref f) = true ∧ Binds K fd ps [] ∧ FnOk P w K mg base CX0 k f fd ps sp
theorem raw_mk {K : PySem.W.Frag} {h : Heap} {mg : Str → Option Value} {x : Str} {st : Stmt} {ps : List Str} {f : Addr} {oc : Value} {od an : Option Addr} {osl : Array (Option Value)} {kV doc pm cdv ct : Value}
    (X : K.In h) (G : h.Ns mainGlobals mg) (a : PySem.W.nsIn K mainGlobals x = some (some (.ref f)))
    (l : K.lookup f = some ⟨oc, od, .func (PySem.W.fnOf x x (defArgs st) (defBody st) (defScope st) .none kV doc pm an cdv ct), osl⟩)
    (c : PySem.W.codeIn K cdv x = true) (k : PySem.W.keepIn K (.ref f) = true)
    (b : ∀ (kV doc pm : Value) (an : Option Addr) (cdv ct : Value) (us : List Value), us.length = ps.length → bindArgs (PySem.W.fnOf x x (defArgs st) (defBody st) (defScope st) .none kV doc pm an cdv ct) ⟨us, []⟩ = pure (ps.zip us)) :
    Raw K mg x st ps := by
  have F := fun_mk (st := st) l c k
  exact ⟨f, _, F, PySem.W.mg_of X G a, F.binds b⟩
section
variable {P : Program} {w : World} {K : PySem.W.Frag} {mg : Str → Option Value} {base : Heap} {X : Cx}
theorem def_of {x : Str} {st : Stmt} {N ps : List Str} {k : Nat} {sp : Sp} (R : Raw K mg x st ps) (S : FnScope N ps (defScope st)) (len : ∀ vs H Q E, sp vs H Q E → vs.length = ps.length)
    (hbody : ∀ (f : Addr) (cdv : Value) (A : Around) (outer : List Env) (s : Shared) (H : Hp) (vs : List V) (Q : VK) (E : XK), Room k (A.deeper (envOfC x (defScope st) s.heap.objs.size f cdv)) → sp vs H Q E →
      ∃ t, PSs (cxOf CX0 P w K mg base N x (defScope st) f cdv A outer s H E).nox (defBody st) t ∧ t { nx := fun _ H' => Q .non H', rt := Q } (start N vs) H) : Def P w K mg base (k + 1) x ps sp := by
  obtain ⟨f, fd, F, m, b⟩ := R
  exact ⟨f, fd, m, F.kp, b, F.ok S len (fun cdv A outer s H vs Q E hr h => hbody f cdv A outer s H vs Q E hr h)⟩
theorem pe_fn {k : Nat} {x : Str} {ps : List Str} {sp : Sp} {e : Expr} {es : List Expr} {t : TA} {p pos : Pos} (D : Def X.prog X.w X.K X.mg X.base k x ps sp) (hr : Room k X.A) (hg : Gl X x) (ha : PA X (e :: es) t)
    (hdb : (x == ("__debug__" : Str)) = false := by decide) (he : starEach (e :: es) X.env = (false, eval e X.env) :: starEach es X.env := by rfl) (hpl : (backTo pos (starEach es X.env)).any (·.1) = false := by rfl) :
    PE X (.Call (.Name x p) (e :: es) [] pos) (tCall sp [] E0 t) := by
  obtain ⟨f, fd, m, kp, b, F⟩ := D
  exact pe_call F hr hg m kp b .nil pass0 ha hdb he hpl
theorem pe_fn0 {k : Nat} {x : Str} {ps : List Str} {sp : Sp} {p pos : Pos} (D : Def X.prog X.w X.K X.mg X.base k x ps sp) (hr : Room k X.A) (hg : Gl X x) (hdb : (x == ("__debug__" : Str)) = false := by decide) :
    PE X (.Call (.Name x p) [] [] pos) (tCall sp [] E0 tNil) := by
  obtain ⟨f, fd, m, kp, b, F⟩ := D
  exact pe_call0 F hr hg m kp b .nil pass0 hdb
end
theorem Same.new {H : Hp} {p : Addr} {o : HO} (h : H p = none) : Same H (upd H p o) := fun b u e => by rw [upd_ne (ne_of_none e h)]; exact e
end My
namespace My
open PySem PySem.Spec PyProof.Rows L2
end My

namespace My
open PySem PySem.Spec PyProof.Rows L2
def Low (ds : List Int) : Prop := ∀ d ∈ ds, 0 ≤ d ∧ d < 1000
def DeckAt (H : Hp) (l : Addr) : Prop := ∃ ds : List Int, H l = some (.lst (ds.map V.int)) ∧ Low ds ∧ ds.length ≤ 5000
def SameX (l : Addr) (H H' : Hp) : Prop := ∀ b o, H b = some o → b ≠ l → H' b = some o
theorem SameX.refl (l : Addr) (H : Hp) : SameX l H H := fun _ _ h _ => h
theorem SameX.trans {l : Addr} {H H1 H2 : Hp} (a : SameX l H H1) (b : SameX l H1 H2) : SameX l H H2 := fun c o h n => b c o (a c o h n) n
theorem SameX.of {l : Addr} {H H1 : Hp} (a : Same H H1) : SameX l H H1 := fun c o h _ => a c o h
theorem SameX.new {l p : Addr} {H : Hp} {o : HO} (h : H p = none) : SameX l H (upd H p o) := .of (Same.new h)
theorem SameX.free {l p : Addr} {H H' : Hp} (e : SameX l H H') (h : H' p = none) (n : p ≠ l) : H p = none := by
  cases q : H p with
  | none => rfl
  | some o =>
    rw [e p o q n] at h
    cases h
theorem upd_id {H : Hp} {l : Addr} {o : HO} (h : H l = some o) : upd H l o = H := by
  funext b
  unfold upd
  split
  · rename_i e
    rw [e, h]
  · rfl
theorem Low.nil : Low [] := fun _ h => by cases h
theorem Low.snoc {ds : List Int} {x : Int} (h : Low ds) (hx : 0 ≤ x ∧ x < 1000) : Low (ds ++ [x]) := fun d hd => by
  rcases List.mem_append.mp hd with h1 | h1
  · exact h d h1
  · rw [List.mem_singleton.mp h1]
    exact hx
theorem map_set (ds : List Int) (j : Nat) (x : Int) : (ds.map V.int).set j (V.int x) = (ds.set j x).map V.int := by rw [List.map_set]
end My
namespace My
open PySem PySem.Spec PyProof.Rows L2
theorem cut60 (ns : List Int) : cutV (ns.map V.int) none (some 60) = (ns.take 60).map V.int := by
  unfold cutV
  rw [List.length_map, List.map_take]
  simp only [HT.sIx, List.drop_zero, Nat.sub_zero]
  by_cases h : ns.length ≤ 60
  · rw [List.take_of_length_le, List.take_of_length_le] <;> simp <;> omega
  · congr 1
    simp
    omega
end My

namespace My
open PySem PySem.Spec PyProof.Rows L2
def Bytes (ds : List Int) : Prop := ∀ d ∈ ds, 0 ≤ d ∧ d < 256
theorem Bytes.set {ds : List Int} (h : Bytes ds) {j : Nat} {x : Int} (hx : 0 ≤ x ∧ x < 256) : Bytes (ds.set j x) := fun d hd => by
  rcases List.mem_or_eq_of_mem_set hd with h1 | h1
  · exact h d h1
  · rw [h1]
    exact hx
theorem Bytes.snoc {ds : List Int} (h : Bytes ds) {x : Int} (hx : 0 ≤ x ∧ x < 256) : Bytes (ds ++ [x]) := fun d hd => by
  rcases List.mem_append.mp hd with h1 | h1
  · exact h d h1
  · rw [List.mem_singleton.mp h1]
    exact hx
theorem Bytes.nil : Bytes [] := fun _ h => by cases h
end My

namespace My
open PySem PySem.Spec PyProof.Rows L2
section
variable {X : Cx} {K : PySem.W.Frag}
theorem opIn (h : X.K = K) : OpR X (compareOp .In) (rIn K false) := h ▸ op_in_seq
theorem slL (h : X.K = K) : SlR X (rSlL K) := h ▸ sl_list
theorem opEqD (h : X.K = K) (hu : X.A.units + 64 < cLine) : OpR X (compareOp .Eq) (rEqD K) := h ▸ op_eqD hu
theorem opNeD (h : X.K = K) (hu : X.A.units + 64 < cLine) : OpR X (compareOp .NotEq) (rNeD K) := h ▸ op_neD hu
def rLen (K : PySem.W.Frag) : List V → Hp → VK → Prop := fun xs H Q => ∃ p ys, xs = [.ref p] ∧ (SqL K H p ys ∨ SqT K H p ys) ∧ Q (.int ys.length) H
theorem crLen (h : X.K = K) : CallR X (.builtin "len") (rLen K) := h ▸ call_len_seq
def rListOf (K : PySem.W.Frag) : List V → Hp → VK → Prop := fun xs H Q => ∃ p ys, xs = [.ref p] ∧ (SqL K H p ys ∨ SqT K H p ys) ∧ ∀ l, H l = none → Q (.ref l) (upd H l (.lst ys))
theorem crList (h : X.K = K) : CallR X (.type "list") (rListOf K) := h ▸ call_list_of
def rTupOf (K : PySem.W.Frag) : List V → Hp → VK → Prop := fun xs H Q => ∃ p ys, xs = [.ref p] ∧ ((SqL K H p ys ∧ ∀ l, H l = none → Q (.ref l) (upd H l (.tup ys))) ∨ (SqT K H p ys ∧ Q (.ref p) H))
theorem crTup (h : X.K = K) : CallR X (.type "tuple") (rTupOf K) := h ▸ call_tuple_of
def rIsi (K : PySem.W.Frag) : List V → Hp → VK → Prop := fun xs H Q => ∃ x n t b, xs = [x, .ty n] ∧ TyOf K H x t ∧ PySem.W.kitOne K t (.type n) = some b ∧ Q (.bl b) H
theorem crIsi (h : X.K = K) : CallR X (.builtin "isinstance") (rIsi K) := h ▸ cr_isinst
def rInt1 : List V → Hp → VK → Prop := fun xs H Q => (∃ i, xs = [.int i] ∧ Q (.int i) H) ∨ ∃ k, xs = [.bl k] ∧ Q (.int (if k then 1 else 0)) H
theorem crInt : CallR X (.type "int") rInt1 := call_int1
theorem pe_listrevK {e : Expr} {ta : TA} {p p2 pos pos2 : Pos} (h : X.K = K) (ha : PA X [e] ta) (hc : X.calm = true) (hg : Gl X "list") (hm : X.mg "list" = none) (hg2 : Gl X "reversed") (hm2 : X.mg "reversed" = none)
    (hs : starEach [e] X.env = [(false, eval e X.env)] := by rfl) : PE X (.Call (.Name "list" p) [.Call (.Name "reversed" p2) [e] [] pos2] [] pos) (tListRev K ta) := h ▸ pe_listrev ha hc hg hm hg2 hm2 hs
theorem pe_app {o e : Expr} {es : List Expr} {to : TE} {t : TA} {apos cpos : Pos} (h : X.K = K) (ho : PE X o to) (ha : PA X (e :: es) t)
    (hbase : attributeBase o "append" X.env (eval o X.env) = eval o X.env := by rfl)
    (hfew : ((backTo cpos (starEach (e :: es) X.env)).all (fun x => !x.1) && (backToKw cpos (keywordEach [] X.env)).all (fun x => x.1.isSome)
      && decide ((e :: es).length + ([] : List Keyword).length + (if ([] : List Keyword).isEmpty then 0 else 1) < 30)) = true := by rfl)
    (hline : (apos.endLine == cpos.line) = true := by rfl) (hs : starEach (e :: es) X.env = (false, eval e X.env) :: starEach es X.env := by rfl) (hplain : (backTo cpos (starEach es X.env)).any (·.1) = false := by rfl) :
    PE X (.Call (.Attribute o "append" apos) (e :: es) [] cpos) (tBM K "list" rAppend to t) := h ▸ pe_bm PySem.F.plainAttrs_list PySem.F.slot_list_append PySem.F.type_list_append mt_append ho ha hbase hfew hline hs hplain
theorem pg_tupK {es : List Expr} {k : Nat} {t : TGs} {pos : Pos} {n : Nat} (h : X.K = K) (hg : PG X (.Tuple es k pos) (gTup X.K n t)) : PG X (.Tuple es k pos) (gTup K n t) := h ▸ hg
end
end My
namespace My
open PySem PySem.Spec PyProof.Rows L2
def DS (H : Hp) (l p : Addr) (n : Nat) (H2 : Hp) : Prop := ∃ ds : List Int, ds.length = n ∧ Bytes ds ∧ H2 p = some (.lst (ds.map V.int)) ∧ DeckAt H2 l ∧ SameX l H H2
theorem DeckAt.off {H H' : Hp} {l : Addr} (h : DeckAt H l) (e : H' l = H l) : DeckAt H' l := by
  obtain ⟨ds, h1, h2, h3⟩ := h
  exact ⟨ds, e.trans h1, h2, h3⟩
theorem DS.put {H H2 : Hp} {l p : Addr} {n : Nat} {ds ds' : List Int} (np : H p = none) (nl : p ≠ l) (h1 : ds'.length = n) (h2 : Bytes ds') (h4 : DeckAt H2 l) (h5 : SameX l H H2) : DS H l p n (upd H2 p (.lst (ds'.map V.int))) :=
  ⟨ds', h1, h2, upd_same, h4.off (upd_ne nl.symm), fun b o e nb => by rw [upd_ne (ne_of_none e np)]; exact h5 b o e nb⟩
end My

namespace My
open PySem PySem.Spec PyProof.Rows L2
end My

namespace My
open PySem PySem.Spec PyProof.Rows L2
abbrev itObj (nm : String) (l : Addr) : Obj := { cls := .type nm, data := .fields #[.ref l, .int 0 0] }
abbrev zA (h : Heap) (nm : String) (l1 : Addr) : Heap := h.push (itObj nm l1)
abbrev zB (h : Heap) (n1 n2 : String) (l1 l2 : Addr) : Heap := (zA h n1 l1).push (itObj n2 l2)
end My

namespace My
open PySem PySem.Spec PyProof.Rows L2
theorem kit_same (K : PySem.W.Frag) (n : String) : PySem.W.kitOne K (.type n) (.type n) = some true := by
  unfold PySem.W.kitOne
  rw [if_pos (by simp)]
def Pairs (H : Hp) (ps : List Addr) : Prop := ∀ p ∈ ps, ∃ d n : Int, H p = some (.tup [.int d, .int n]) ∧ (0 ≤ d ∧ d < 20) ∧ (0 ≤ n ∧ n < 256)
theorem Pairs.same {H H2 : Hp} {ps : List Addr} (h : Pairs H ps) (s : Same H H2) : Pairs H2 ps := fun p hp => by
  obtain ⟨d, n, e, r⟩ := h p hp
  exact ⟨d, n, s _ _ e, r⟩
theorem Pairs.app {H : Hp} {ps qs : List Addr} (h : Pairs H ps) (g : Pairs H qs) : Pairs H (ps ++ qs) := fun p hp => (List.mem_append.mp hp).elim (h p) (g p)
theorem Pairs.cons {H : Hp} {ps : List Addr} {p : Addr} {d n : Int} (e : H p = some (.tup [.int d, .int n])) (hd : 0 ≤ d ∧ d < 20) (hn : 0 ≤ n ∧ n < 256) (h : Pairs H ps) : Pairs H (p :: ps) := fun q hq => by
  rcases List.mem_cons.mp hq with rfl | hq
  · exact ⟨d, n, e, hd, hn⟩
  · exact h q hq
theorem Pairs.nil {H : Hp} : Pairs H [] := fun _ h => by cases h
def Twenty (H : Hp) (ts : List Addr) : Prop := ∀ t ∈ ts, ∃ ds : List Int, H t = some (.tup (ds.map V.int)) ∧ ds.length = 20 ∧ Bytes ds
theorem Twenty.same {H H2 : Hp} {ts : List Addr} (h : Twenty H ts) (s : Same H H2) : Twenty H2 ts := fun p hp => by
  obtain ⟨ds, e, r⟩ := h p hp
  exact ⟨ds, s _ _ e, r⟩
theorem Twenty.snoc {H : Hp} {ts : List Addr} {t : Addr} {ds : List Int} (h : Twenty H ts) (e : H t = some (.tup (ds.map V.int))) (hl : ds.length = 20) (hb : Bytes ds) : Twenty H (ts ++ [t]) := fun q hq => by
  rcases List.mem_append.mp hq with hq | hq
  · exact h q hq
  · rw [List.mem_singleton.mp hq]
    exact ⟨ds, e, hl, hb⟩
end My

namespace My
open PySem PySem.Spec PyProof.Rows L2
section
variable {σ : L2.St} {H : Hp} {Q : VK} {D : Ends} {K : PySem.W.Frag}
theorem tupN {p : Addr} {ys : List V} (h : SqL K H p ys) (k : ∀ p Hn, H p = none → Same H Hn → Hn p = some (.tup ys) → Q (.ref p) Hn) : rTupOf K [.ref p] H Q := ⟨p, ys, rfl, .inl ⟨h, fun p hp => k p _ hp (Same.new hp) upd_same⟩⟩
end
end My

namespace My
open PySem PySem.Spec PyProof.Rows L2
def plainE : Expr → Bool
  | .Starred _ _ => false
  | _ => true
theorem star1 {e : Expr} {es : List Expr} {env : Env} (h : plainE e = true) : starEach (e :: es) env = (false, eval e env) :: starEach es env := by
  cases e <;> first | rfl | cases h
theorem starAny {pos : Pos} {env : Env} : ∀ {es : List Expr}, es.all plainE = true → (backTo pos (starEach es env)).any (·.1) = false
  | [], _ => rfl
  | e :: es, h => by
    rw [List.all_cons, Bool.and_eq_true] at h
    rw [star1 h.1]
    show (false || (backTo pos (starEach es env)).any (·.1)) = false
    rw [starAny h.2]
    rfl
theorem starAll {pos : Pos} {env : Env} : ∀ {es : List Expr}, es.all plainE = true → (backTo pos (starEach es env)).all (fun x => !x.1) = true
  | [], _ => rfl
  | e :: es, h => by
    rw [List.all_cons, Bool.and_eq_true] at h
    rw [star1 h.1]
    show (!false && (backTo pos (starEach es env)).all (fun x => !x.1)) = true
    rw [starAll h.2]
    rfl
section
variable {X : Cx} {K : PySem.W.Frag}
theorem paC {e : Expr} {es : List Expr} {te : TE} {t : TA} (ha : PE X e te) (hr : PA X es t) (h : plainE e = true := by rfl) : PA X (e :: es) (tCons te t) := pa_cons ha hr (star1 h)
theorem peF {k : Nat} {x : Str} {ps : List Str} {sp : Sp} {e : Expr} {es : List Expr} {t : TA} {p pos : Pos} (D : Def X.prog X.w X.K X.mg X.base k x ps sp) (hr : Room k X.A) (hg : Gl X x) (ha : PA X (e :: es) t)
    (hdb : (x == ("__debug__" : Str)) = false := by decide) (h : (e :: es).all plainE = true := by rfl) : PE X (.Call (.Name x p) (e :: es) [] pos) (tCall sp [] E0 t) := by
  rw [List.all_cons, Bool.and_eq_true] at h
  exact pe_fn D hr hg ha hdb (star1 h.1) (starAny h.2)
theorem peB {x : Str} {p pos : Pos} {e : Expr} {es : List Expr} {t : TA} {id : String} {r : List V → Hp → VK → Prop} (hc : CallR X (.builtin id) r) (hg : Gl X x) (hm : X.mg x = none) (hv : bootBuiltins x = some (.builtin id)) (ha : PA X (e :: es) t)
    (hn : x ≠ "__name__" := by decide) (hdb : (x == ("__debug__" : Str)) = false := by decide) (h : (e :: es).all plainE = true := by rfl) : PE X (.Call (.Name x p) (e :: es) [] pos) (tCB r t) := by
  rw [List.all_cons, Bool.and_eq_true] at h
  exact pe_callB hc hg hm hv ha hn hdb (star1 h.1) (starAny h.2)
theorem peT {x : Str} {p pos : Pos} {e : Expr} {es : List Expr} {t : TA} {T : String} {r : List V → Hp → VK → Prop} (hc : CallR X (.type T) r) (hg : Gl X x) (hm : X.mg x = none) (hv : bootBuiltins x = some (.type T)) (ha : PA X (e :: es) t)
    (hn : x ≠ "__name__" := by decide) (hdb : (x == ("__debug__" : Str)) = false := by decide) (h : (e :: es).all plainE = true := by rfl) : PE X (.Call (.Name x p) (e :: es) [] pos) (tCB r t) := by
  rw [List.all_cons, Bool.and_eq_true] at h
  exact pe_callTy hc hg hm hv ha hn hdb (star1 h.1) (starAny h.2)
theorem peApp {o e : Expr} {es : List Expr} {to : TE} {t : TA} {apos cpos : Pos} (hK : X.K = K) (ho : PE X o to) (ha : PA X (e :: es) t)
    (hbase : attributeBase o "append" X.env (eval o X.env) = eval o X.env := by rfl) (hlen : decide ((e :: es).length + 0 + 0 < 30) = true := by rfl) (hline : (apos.endLine == cpos.line) = true := by rfl) (h : (e :: es).all plainE = true := by rfl) :
    PE X (.Call (.Attribute o "append" apos) (e :: es) [] cpos) (tBM K "list" rAppend to t) := by
  have h2 := h
  rw [List.all_cons, Bool.and_eq_true] at h2
  refine pe_app hK ho ha hbase ?_ hline (star1 h2.1) (starAny h2.2)
  rw [starAll h]
  exact hlen
theorem peRev {e : Expr} {ta : TA} {p p2 pos pos2 : Pos} (hK : X.K = K) (ha : PA X [e] ta) (hc : X.calm = true) (hg : Gl X "list") (hm : X.mg "list" = none) (hg2 : Gl X "reversed") (hm2 : X.mg "reversed" = none) (h : plainE e = true := by rfl) :
    PE X (.Call (.Name "list" p) [.Call (.Name "reversed" p2) [e] [] pos2] [] pos) (tListRev K ta) := pe_listrevK hK ha hc hg hm hg2 hm2 (star1 h)
theorem piR1 {tg a : Expr} {ta : TA} {p pos : Pos} (hg : Gl X "range") (hm : X.mg "range" = none) (ha : PA X [a] ta) (h : plainE a = true := by rfl) : PI X tg (.Call (.Name "range" p) [a] [] pos) (iRng1 ta) := pi_range1 hg hm ha (star1 h)
end
end My
namespace My
open PySem PySem.Spec PyProof.Rows L2
end My

namespace My
open PySem PySem.Spec PyProof.Rows L2
theorem kit_bt (K : PySem.W.Frag) {T U : String} {b : Bool} (h1 : (Value.type T == Value.type U) = false) (h2 : PySem.W.kitMeta U = true) (h3 : (fastBuiltinMro T).map (·.contains (Value.type U)) = some b) : PySem.W.kitOne K (.type T) (.type U) = some b := by
  unfold PySem.W.kitOne
  rw [if_neg (by rw [h1]; exact Bool.false_ne_true)]
  show (if PySem.W.kitMeta U = true then PySem.W.subIn K (.type T) (.type U) else none) = some b
  rw [if_pos h2]
  exact h3
def cutI (ds : List Int) (lo hi : Option Int) : List Int := (ds.drop (HT.sIx ds.length 0 lo)).take (HT.sIx ds.length ds.length hi - HT.sIx ds.length 0 lo)
theorem cutI_mem {ds : List Int} {lo hi : Option Int} {d : Int} (h : d ∈ cutI ds lo hi) : d ∈ ds := List.mem_of_mem_drop (List.mem_of_mem_take h)
theorem Bytes.cut {ds : List Int} (h : Bytes ds) {lo hi : Option Int} : Bytes (cutI ds lo hi) := fun d hd => h d (cutI_mem hd)
theorem Bytes.app {ds es : List Int} (h : Bytes ds) (g : Bytes es) : Bytes (ds ++ es) := fun d hd => (List.mem_append.mp hd).elim (h d) (g d)
section
variable {σ : L2.St} {H : Hp} {Q : VK} {D : Ends} {K : PySem.W.Frag}
theorem tup_mod {a : Addr} {oc : Value} {od : Option Addr} {its : List Value} {n : Nat} {osl : Array (Option Value)} {xs : List V} (l : K.lookup a = some ⟨.type "tuple", od, .seq its.toArray n, osl⟩) (hz : its.length ≤ 1000) (r : Vals xs its) (H : Hp) : SqT K H a xs :=
  .inr ⟨_, its.toArray, n, l, rfl, rfl, by rw [List.size_toArray]; exact Nat.le_of_lt (small1000 hz), by simpa using r⟩
end
end My

namespace My
open PySem PySem.Spec PyProof.Rows L2
section
variable {X : Cx} {σ : L2.St} {H : Hp} {s : Shared} {h2 : Heap}
theorem inv_pinned {pins : List (Addr × Obj)} (I : L2.Inv X pins σ H s) {b : Addr} {o : Obj} (h : (b, o) ∈ pins) : s.heap.get? b = some o := (I.pin (b, o) (List.mem_append_right _ h)).1
end
end My

namespace My
open PySem PySem.Spec PyProof.Rows L2
abbrev gcx (X : Cx) (A2 : Around) (s : Shared) (H : Hp) (cenv : Env) (fp : List Addr) : Cx :=
  { X with A := A2, s_0 := s, H_0 := H, env := cenv, outer := X.stack, stack := cenv :: X.stack, ex := fp, fn := fun _ => false, pn := [], xe := fun _ _ => False }
abbrev genv (X : Cx) (scope : Scope) (C : Addr) (code : Value) : Env := genEnv scope (cloFrom X.env.cells scope.names []) C code builtinsNs X.env
structure GenOk (N : List Str) (sc scope : Scope) (own : List (Str × Nat)) : Prop where
  blk : BlkOk N sc scope own
  nocell : ∀ y ∈ scope.names, y.2 ≠ .cell
  dot : scope.names.lookup (".0" : Str) = some NameKind.local
  co : scope.isCoroutine = false
section
variable {X : Cx} {pins : List (Addr × Obj)} {σ : L2.St} {H : Hp} {s : Shared}
theorem gen_start {scope : Scope} {own : List (Str × Nat)} {fp : List Addr} {A2 : Around} {code it : Value} {h2 : Heap} {g2 : Array GenState} {t2 : Nat} (I : L2.Inv X pins σ H s) (ok : GenOk X.N X.env.scope scope own) (hN : X.N.Nodup)
    (hA : A2.handled = none) (hf : A2.frames = some (genv X scope s.heap.objs.size code :: X.stack)) (hfp : ∀ b ∈ fp, FpOk X pins H b ∧ b < s.heap.objs.size)
    (kp : ∀ b o, s.heap.get? b = some o → h2.get? b = some o) (hns : h2.Ns s.heap.objs.size (fun y => if y = ".0" then some it else none)) (hg : AllBare g2) :
    L2.Inv (gcx X A2 s H (genv X scope s.heap.objs.size code) fp) [] (wipe σ (own.map (·.2))) H { s with heap := h2, gens := g2, toks := t2 } := by
  have hfree : ∀ y ∈ scope.names, y.2 = .free → ∃ c, X.env.cells.lookup y.1 = some c := fun y hy e => by
    rcases ok.blk.free y hy e with k | k
    · exact I.ok.has _ (.inl k)
    · exact I.ok.has _ (.inr k)
  have cm : ∀ {y c}, (y, c) ∈ cloFrom X.env.cells scope.names [] → X.env.cells.lookup y = some c ∧ c < s.heap.objs.size := fun {y c} hm => by
    rcases cloFrom_mem hm with hm | ⟨h1, rfl⟩
    · cases hm
    · obtain ⟨c, hc⟩ := hfree _ h1 rfl
      rw [hc]
      obtain ⟨w, z⟩ := I.cell _ _ hc
      exact ⟨rfl, z.lt⟩
  have cl : ∀ {y c}, (cloFrom X.env.cells scope.names []).lookup y = some c → X.env.cells.lookup y = some c ∧ c < s.heap.objs.size := fun e => cm (PySem.mem_of_lookup e)
  have look : ∀ {y}, scope.names.lookup y = some .free → ∃ c, (cloFrom X.env.cells scope.names []).lookup y = some c ∧ X.env.cells.lookup y = some c := fun {y} hl => by
    obtain ⟨c, e⟩ := mem_lookup (cloFrom_has (cells := X.env.cells) (acc := []) (PySem.mem_of_lookup hl))
    exact ⟨c, e, (cl e).1⟩
  have nocell : ∀ {y}, scope.names.lookup y ≠ some .cell := fun {y} e => ok.nocell _ (PySem.mem_of_lookup e) rfl
  have okB : (gcx X A2 s H (genv X scope s.heap.objs.size code) fp).Ok := by
    refine ⟨I.ok.mod, ok.blk.kind, I.ok.glob, rfl, Nat.le_refl _, fun y z c e1 e2 => I.ok.inj y z c (cl e1).1 (cl e2).1, fun y hy => ?_, fun y c z e => (Bool.false_ne_true z).elim, fun _ => hA, hf, .inr ⟨rfl, rfl⟩, fun b hb => ⟨Nat.ne_of_lt (hfp b hb).2, fun y c e z => ?_⟩, I.bs, Nat.le_trans I.ok.bsz I.sz, fun b o e hb => ?_, fun b hb z => ?_, I.stack, I.stkFree⟩
    · rcases hy with hy | hy
      · exact absurd hy nocell
      · obtain ⟨c, e, _⟩ := look hy
        exact ⟨c, e⟩
    · exact (hfp b hb).1.2.2.2.2.1 y c (cl e).1 z
    · rcases (hfp b hb).1.2.2.2.1 with z | z
      · exact I.ok.noex b o e z
      · exact absurd (Nat.lt_of_lt_of_le (Heap.lt_size e) (Nat.le_trans I.ok.bsz z)) (Nat.lt_irrefl _)
    · rcases List.mem_cons.mp (I.stkSub b z) with z | z
      · exact (hfp b hb).1.2.1 z
      · exact (hfp b hb).1.2.2.1 z
  refine ⟨okB, rfl, hg, Un.kept kp, ⟨_, hns, fun i y av e1 e2 e3 => ?_⟩, fun y c e => ?_, I.hok.fresh (Nat.le_refl _), fun y c e => I.freeC y c (cl e).1, fun p hp => ?_, I.hok.kept kp, by rw [wipe_length]; exact I.len⟩
  · obtain ⟨e2, hne⟩ := wipe_some e2
    have no : ∀ k, scope.names.lookup y = some k → ¬ (k = .local ∨ k = .cell) := fun k hk hh => by
      rcases ok.blk.own _ (PySem.mem_of_lookup hk) hh with e' | e'
      · obtain ⟨p, hp, hpy⟩ := List.mem_map.mp e'
        have e3 := ok.blk.ix p hp
        have z : p.1 = y := hpy
        rw [z] at e3
        exact hne (List.mem_map.mpr ⟨p, hp, nodup_ix hN e3 e1⟩)
      · exact e' (List.mem_of_getElem? e1)
    have hfr : scope.names.lookup y = some .free := by
      rcases (show Vis scope y from e3) with e3 | e3 | e3
      · exact absurd (.inl rfl) (no _ e3)
      · exact absurd (.inr rfl) (no _ e3)
      · exact e3
    obtain ⟨m, hn, hl⟩ := I.loc
    have hvis : Vis X.env.scope y := (ok.blk.free _ (PySem.mem_of_lookup hfr) rfl).elim (fun k => .inr (.inl k)) (fun k => .inr (.inr k))
    obtain ⟨w, r, q⟩ := hl i y av e1 e2 hvis
    obtain ⟨c, h1, h3⟩ := look hfr
    refine ⟨w, r, .inr ⟨.inr hfr, c, h1, ?_⟩⟩
    rcases q with ⟨k, _⟩ | ⟨_, c', e', z⟩
    · have k : X.env.scope.names.lookup y = some .local := k
      rcases ok.blk.free _ (PySem.mem_of_lookup hfr) rfl with k' | k' <;> rw [show X.env.scope.names.lookup y = _ from k'] at k <;> cases k
    · rw [h3] at e'
      cases e'
      exact z.keeps kp
  · obtain ⟨v, z⟩ := I.cell y c (cl e).1
    exact ⟨v, z.keeps kp⟩
  · exact absurd (show p ∈ ([] : List (Addr × Obj)) ++ [] from hp) (by simp)
end
end My

namespace My
open PySem PySem.Spec PyProof.Rows L2
theorem setGen_size (s : Shared) (g : Nat) (x : GenState) : (s.setGen g x).gens.size = s.gens.size := by
  unfold Shared.setGen
  exact Array.size_setIfInBounds
theorem more_of_run {M : Model} {Γ : PySem.Ctx} {p : Pos} {t : Sem PySem.Fin} {fs : List Frame} {s s2 : Shared} {e : End} (r : Runs M Γ p t fs s e s2) : s.gens.size ≤ s2.gens.size := by
  induction r <;> (try rw [setGen_size] at *) <;> (try simp only [Array.size_push, setGen_size] at *) <;> omega
theorem more_of_wake {M : Model} {Γ : PySem.Ctx} {p : Pos} {g : Nat} {r : Resume} {s s2 : Shared} {x : GenResult} (k : Wakes M Γ p g r s x s2) : s.gens.size ≤ s2.gens.size := by
  have one : ∀ {Γ : PySem.Ctx} {p : Pos} {t : Sem PySem.Fin} {fs : List Frame} {e : End} {s1 : Shared}, Runs M Γ p t fs (s.setGen g .running) e s1 → s.gens.size ≤ (s1.setGen g e.genState).gens.size := fun r1 => by
    have z := more_of_run r1
    rw [setGen_size] at z
    rw [setGen_size]
    exact z
  unfold Wakes at k
  split at k
  · exact False.elim k
  · split at k
    · obtain ⟨_, _, r1, _, _, e1⟩ := k
      rw [e1]
      exact one r1
    · obtain ⟨_, e1⟩ := k
      rw [e1]
      omega
    · obtain ⟨_, e1⟩ := k
      rw [e1, setGen_size]
      omega
  · obtain ⟨_, _, r1, _, _, e1⟩ := k
    rw [e1]
    exact one r1
  · obtain ⟨_, e1⟩ := k
    rw [e1]
    omega
  · obtain ⟨_, e1⟩ := k
    rw [e1]
    omega
theorem wp_more {α : Type} (M : Model) (Γ : PySem.Ctx) (n : Nat) (t : Sem α) : ∀ (Q : α → Pos → Shared → Prop) (E : Value → Pos → Shared → Prop) (p : Pos) (s : Shared), n ≤ s.gens.size → Sem.wp M Γ t Q E p s →
    Sem.wp M Γ t (fun a p2 s2 => n ≤ s2.gens.size ∧ Q a p2 s2) (fun e p2 s2 => n ≤ s2.gens.size ∧ E e p2 s2) p s := by
  induction t with
  | pure a =>
    intro Q E p s l k
    exact And.intro l k
  | raise e =>
    intro Q E p s l k
    exact And.intro l k
  | unsupported _ =>
    intro Q E p s _ k
    exact k
  | finish _ =>
    intro Q E p s _ k
    exact k
  | register _ _ =>
    intro Q E p s _ k
    exact k
  | yield _ _ _ _ =>
    intro Q E p s _ k
    exact k
  | fork _ _ =>
    intro Q E p s _ k
    exact k
  | await _ _ _ _ _ =>
    intro Q E p s _ k
    exact k
  | rule _ f ih =>
    intro Q E p s l k
    exact ih _ Q E p s l k
  | «at» p2 f ih =>
    intro Q E p s l k
    exact ih _ Q E p2 s l k
  | load a _ f ih =>
    intro Q E p s l ⟨o, e, k⟩
    exact ⟨o, e, ih o Q E p s l k⟩
  | update a _ u f ih =>
    intro Q E p s l ⟨e, k⟩
    exact ⟨e, ih () Q E p { s with heap := _ } l k⟩
  | loadIfAlive a f ih =>
    intro Q E p s l k
    exact ih _ Q E p s l k
  | point _ f ih =>
    intro Q E p s l k
    exact ih _ Q E p s l k
  | alloc o f ih =>
    intro Q E p s l k
    exact ih _ Q E p { s with heap := _ } l k
  | fresh f ih =>
    intro Q E p s l k
    exact ih _ Q E p { s with toks := _ } l k
  | ask f ih =>
    intro Q E p s l k
    exact ih _ Q E p s l k
  | choose src m f ih =>
    intro Q E p s l ⟨e, k⟩
    exact ⟨e, ih _ Q E p { s with drawn := _ } l k⟩
  | os q _ f ih =>
    intro Q E p s l k
    exact ih _ Q E p { s with os := _ } l k
  | call c hd _ _ f ih =>
    intro Q E p s l ⟨r, s2, hr, k⟩
    exact ⟨r, s2, hr, ih r Q E p s2 (Nat.le_trans l (more_of_run hr)) k⟩
  | handled own f ih =>
    intro Q E p s l k
    exact ih _ Q E p s l k
  | genState g f ih =>
    intro Q E p s l ⟨x, e, k⟩
    exact ⟨x, e, ih _ Q E p s l k⟩
  | newGen c f ih =>
    intro Q E p s l k
    refine ih _ Q E p { s with gens := s.gens.push _ } ?_ k
    show n ≤ (s.gens.push _).size
    rw [Array.size_push]
    omega
  | resume g r _ f ih =>
    intro Q E p s l ⟨x, s2, hw, k⟩
    exact ⟨x, s2, hw, ih x Q E p s2 (Nat.le_trans l (more_of_wake hw)) k⟩
  | stack f ih =>
    intro Q E p s l k
    exact ih _ Q E p s l k
  | thread f ih =>
    intro Q E p s l k
    exact ih _ Q E p s l k
theorem with_more {α : Type} {M : Model} {A : Around} {s : Shared} {t : Sem α} {Q : α → Shared → Prop} {E : Value → Shared → Prop} {n : Nat} (l : n ≤ s.gens.size)
    (k : wpAny M A t (fun a s2 => n ≤ s2.gens.size → Q a s2) (fun e s2 => n ≤ s2.gens.size → E e s2) s) : wpAny M A t Q E s := by
  have z : wpAny M A t (fun a s2 => n ≤ s2.gens.size ∧ (n ≤ s2.gens.size → Q a s2)) (fun e s2 => n ≤ s2.gens.size ∧ (n ≤ s2.gens.size → E e s2)) s := fun Γ p i => wp_more M Γ n t _ _ p s l (k Γ p i)
  exact wpAny_mono z (fun _ _ y => y.2 y.1) (fun _ _ y => y.2 y.1)
end My

namespace My
open PySem PySem.Spec PyProof.Rows L2
def outs (n : Nat) (out : Nat → Option V) (i : Nat) : List V := ((List.range n).drop i).filterMap out
theorem outs_end (n : Nat) (out : Nat → Option V) : outs n out n = [] := by
  unfold outs
  rw [List.drop_of_length_le (by simp)]
  rfl
theorem outs_step {n i : Nat} {out : Nat → Option V} (l : i < n) : outs n out i = (match out i with | some v => v :: outs n out (i + 1) | none => outs n out (i + 1)) := by
  have e : (List.range n).drop i = i :: (List.range n).drop (i + 1) := by
    rw [List.drop_eq_getElem_cons (by simpa using l)]
    simp
  unfold outs
  rw [e]
  cases q : out i with
  | none => rw [List.filterMap_cons_none q]
  | some v => rw [List.filterMap_cons_some q]
theorem outs_suffix (n : Nat) (out : Nat → Option V) (i : Nat) : outs n out i <:+ outs n out 0 := by
  unfold outs
  rw [List.drop_zero]
  exact (List.drop_suffix i _).filterMap _
structure GBody (J : It) (g : TG) (tt : TT) (te : TE) (σ0 : L2.St) (vs : List Nat) (W : Nat → Hp → Prop) (n : Nat) (out : Nat → Option V) : Prop where
  stop : ∀ H, W n H → J.stop n H
  turn : ∀ i H, i < n → W i H → J.go i H ∧ ∀ x H1, J.yld i H x H1 → g x σ0 H1 fun σ1 H2 => wipe σ1 vs = σ0 ∧ tt σ1 H2 fun c H3 =>
    if c = true then te σ1 H3 fun y H4 => out i = some y ∧ W (i + 1) H4 else out i = none ∧ W (i + 1) H3
abbrev gcode (elt tg iter : Expr) (ifs : List Expr) (scope : Scope) (pos : Pos) (it : Addr) (cenv : Env) : Code := .compLoop (.GeneratorExp elt [⟨tg, iter, ifs, 0⟩] scope pos) 0 (.ref it) .none cenv
structure GAt (Xg : Cx) (L fp : List Addr) (tn : Nat → Heap → Prop) (σ0 : L2.St) (W : Nat → Hp → Prop) (ps : List (Addr × Obj)) (i : Nat) (H : Hp) (s : Shared) : Prop where
  inv : L2.Inv Xg ps σ0 H s
  tn : tn i s.heap
  w : W i H
  fpn : ∀ b ∈ fp, H b = none
def LOk (L : List Addr) (s : Shared) : Prop := ∀ b ∈ L, ∃ o, s.heap.get? b = some o
def GEnd (Xg : Cx) (L : List Addr) (σ0 : L2.St) (W : Nat → Hp → Prop) (n : Nat) : GenEnd := fun m s₀ r s₁ => r = .ok .next ∧ m = 0 ∧ ∃ H, W n H ∧ L2.Inv Xg (pinsAt L s₀.heap) σ0 H s₁
def GYld (Xg : Cx) (L fp : List Addr) (tn : Nat → Heap → Prop) (σ0 : L2.St) (W : Nat → Hp → Prop) (n : Nat) (out : Nat → Option V) : Protocol := fun m s₀ u s kap =>
  ∃ i x H, i ≤ n ∧ RelV x u ∧ (outs n out i).length = m ∧ (x :: outs n out i) <:+ outs n out 0 ∧ GAt Xg L fp tn σ0 W (pinsAt L s₀.heap) i H s ∧
    ∀ s2 : Shared, LOk L s2 → GAt Xg L fp tn σ0 W (pinsAt L s2.heap) i H s2 → kap (.send .none) s2
section
variable {X : Cx} {A : Around} {H0 : Hp} {σ0 : L2.St} {s4 : Shared} {cenv : Env} {fp L : List Addr} {it : Addr} {J : It} {tn : Nat → Heap → Prop} {tg elt iter : Expr} {ifs : List Expr} {scope : Scope} {pos : Pos} {g : TG} {tt : TT} {te : TE} {vs : List Nat}
  {W : Nat → Hp → Prop} {n : Nat} {out : Nat → Option V}
theorem seg_gen {Xg : Cx} (hX : Xg = gcx X (A.over (gcode elt tg iter ifs scope pos it cenv) []) s4 H0 cenv fp) (hc : X.calm = true) (T : Turn X.prog X.w X.K tg J fp it tn) (hL : ∀ b ∈ L, b ∉ fp)
    (pg : PG Xg tg g) (pt : PTs Xg ifs tt) (pe : PE Xg elt te) (hco : cenv.scope.isCoroutine = false) (B : GBody J g tt te σ0 vs W n out) :
    ∀ (k i : Nat) (s₀ s : Shared) (H : Hp), n - i = k → i ≤ n → GAt Xg L fp tn σ0 W (pinsAt L s₀.heap) i H s →
      Seg (model X.prog X.w) A (GEnd Xg L σ0 W n) (GYld Xg L fp tn σ0 W n out) (outs n out i).length s₀ (gcode elt tg iter ifs scope pos it cenv) ((model X.prog X.w).den (gcode elt tg iter ifs scope pos it cenv)) [] s := by
  have stat : ∀ {ps : List (Addr × Obj)} {σ' : L2.St} {H' : Hp} {s' : Shared}, L2.Inv Xg ps σ' H' s' → (∀ p ∈ ps, p.1 ∈ L) → (∀ b ∈ fp, H' b = none) → ∀ b ∈ fp, FpOk Xg ps H' b := fun {ps σ' H' s'} I' hp hn b hb => by
    subst hX
    refine ⟨hn b hb, (I'.ok.exf b hb).1, I'.ok.exfs b hb, .inl hb, fun x c e => (I'.ok.exf b hb).2 x c e, fun p hq => ?_⟩
    have hq : p ∈ ps := hq
    intro z
    exact hL p.1 (hp p hq) (z ▸ hb)
  have inL : ∀ {h : Heap}, ∀ p ∈ pinsAt L h, p.1 ∈ L := fun {h} p hp => (of_pinsAt hp).1
  have hh : (A.over (gcode elt tg iter ifs scope pos it cenv) []) = Xg.A := by rw [hX]
  have hm : model X.prog X.w = model Xg.prog Xg.w := by rw [hX]
  have hxe : Xg.xe = fun _ _ => False := by rw [hX]
  have hev : Xg.env = cenv := by rw [hX]
  have hpw : Xg.prog = X.prog ∧ Xg.w = X.w ∧ Xg.K = X.K ∧ Xg.calm = X.calm := by rw [hX]; exact ⟨rfl, rfl, rfl, rfl⟩
  intro k
  induction k with
  | zero =>
    intro i s₀ s H hk hi G
    have e : i = n := by omega
    subst e
    show Seg _ A _ _ _ s₀ _ ((compTurn (.GeneratorExp elt [⟨tg, iter, ifs, 0⟩] scope pos) 0 (.ref it) .none cenv).onRaise (leaving cenv)) [] s
    rw [compTurn_gen, Sem.onRaise_eq_wrap]
    refine seg_bind_wrap (wpAny_standAt ?_)
    have td := T.done Xg hpw.1 hpw.2.1 hpw.2.2.1 (hpw.2.2.2.trans hc) i _ s σ0 H (fun _ _ => False) G.inv (stat G.inv inL G.fpn) G.tn (B.stop H G.w)
    rw [← hh] at td
    refine seg_bind_wrap (thnF td fun r s1 ⟨hr, I1⟩ => ?_)
    subst hr
    refine seg_end (.ok .next) ⟨rfl, ?_, H, G.w, I1⟩
    rw [outs_end]
    rfl
  | succ k ih =>
    intro i s₀ s H hk hi G
    have hlt : i < n := by omega
    obtain ⟨go, step⟩ := B.turn i H hlt G.w
    show Seg _ A _ _ _ s₀ _ ((compTurn (.GeneratorExp elt [⟨tg, iter, ifs, 0⟩] scope pos) 0 (.ref it) .none cenv).onRaise (leaving cenv)) [] s
    rw [compTurn_gen, Sem.onRaise_eq_wrap]
    refine seg_bind_wrap (wpAny_standAt ?_)
    have ti := T.item Xg hpw.1 hpw.2.1 hpw.2.2.1 (hpw.2.2.2.trans hc) i _ s σ0 H (fun _ _ => False) G.inv (stat G.inv inL G.fpn) G.tn go
    rw [← hh] at ti
    refine seg_bind_wrap (thnF ti fun r s1 ⟨u, hr, h1⟩ => ?_)
    subst hr
    refine seg_bind_wrap (thnF h1 fun _ s2 ⟨x, H2, I2, r2, y2, t2, n2⟩ => ?_)
    have I2' := I2.pinned (stat I2 inL n2) (T.obj _ _ t2)
    have q1 := pg _ s2 σ0 H2 x u _ I2' r2 (step x H2 y2)
    rw [← hh, ← hm, hxe, hev] at q1
    refine seg_bind_wrap (thnF q1 fun _ s3 ⟨σ3, H3, I3, w3, q3⟩ => ?_)
    have q2 := pt _ s3 σ3 H3 _ I3 q3
    rw [← hh, ← hm, hxe, hev] at q2
    refine seg_bind_wrap (thnF q2 fun b s4 ⟨H4, I4, q4⟩ => ?_)
    have fin : ∀ {s' : Shared} {H' : Hp}, L2.Inv Xg (pinsAt L s₀.heap ++ pinsAt fp s2.heap) σ3 H' s' → W (i + 1) H' → GAt Xg L fp tn σ0 W (pinsAt L s₀.heap) (i + 1) H' s' := fun {s' H'} I' w' => by
      have pin' : ∀ b ∈ fp, ∀ o, s2.heap.get? b = some o → s'.heap.get? b = some o ∧ H' b = none := fun b hb o e =>
        let z := I'.pin (b, o) (List.mem_append_right _ (List.mem_append_right _ (mem_pinsAt hb e)))
        ⟨z.1, z.2.1⟩
      have hl : σ0.length = σ3.length := by rw [← w3, wipe_length]
      refine ⟨I'.unpinned.weak hl (fun j v e => ?_), T.keep _ _ _ t2 fun b hb o e => (pin' b hb o e).1, w', fun b hb => ?_⟩
      · rw [← w3] at e
        exact (wipe_some e).1
      · obtain ⟨o, e, _⟩ := T.obj _ _ t2 b hb
        exact (pin' b hb o e).2
    cases b with
    | false =>
      simp only [Bool.false_eq_true, if_false] at q4 ⊢
      rw [outs_step hlt, q4.1]
      exact seg_again rfl (ih (i + 1) s₀ s4 H4 (by omega) hlt (fin I4 q4.2))
    | true =>
      simp only [if_true] at q4 ⊢
      have hy : ∀ v, yieldOut cenv v = yieldValue v := fun v => by simp only [yieldOut, hco, Bool.false_eq_true, if_false]
      simp only [hy]
      rw [Sem.bind_eq_wrap', Sem.bind_eq_wrap', Sem.wrap_wrap, Sem.wrap_wrap]
      have q5 := pe _ s4 σ3 H4 _ I4 q4
      rw [← hh, ← hm, hxe, hev] at q5
      refine seg_wrap (thnF q5 fun z s5 ⟨yv, H5, I5, r5, o5, w5⟩ => ?_)
      have st := outs_step (n := n) (out := out) hlt
      rw [o5] at st
      have st : outs n out i = yv :: outs n out (i + 1) := st
      have sf := outs_suffix n out i
      rw [st] at sf
      rw [st, List.length_cons]
      refine seg_at (seg_yield rfl rfl rfl ⟨i + 1, yv, H5, hlt, r5, rfl, sf, fin I5 w5, fun s6 _ G6 => ?_⟩)
      exact seg_again rfl (ih (i + 1) s6 s6 H5 (by omega) hlt G6)
end
end My

namespace My
open PySem PySem.Spec PyProof.Rows L2
theorem inv_setGen {X : Cx} {ps : List (Addr × Obj)} {σ : L2.St} {H : Hp} {s : Shared} (I : L2.Inv X ps σ H s) (g : Nat) {x : GenState} (hx : x.bare = true) : L2.Inv X ps σ H (s.setGen g x) := by
  refine ⟨I.ok, I.os, ?_, I.base, I.loc, I.cell, I.free, I.freeC, I.pin, I.hok, I.len⟩
  intro y hy
  have hy : y ∈ s.gens.setIfInBounds g x := hy
  rcases Array.mem_or_eq_of_mem_setIfInBounds hy with z | z
  · exact I.bare y z
  · rw [z]
    exact hx
theorem pinsAt_same {L : List Addr} {h h2 : Heap} (e : ∀ b ∈ L, ∃ o, h.get? b = some o) (k : ∀ b ∈ L, ∀ o, h.get? b = some o → h2.get? b = some o) : pinsAt L h2 = pinsAt L h := by
  induction L with
  | nil => rfl
  | cons b L ih =>
    obtain ⟨o, ho⟩ := e b List.mem_cons_self
    have h1 := ih (fun c hc => e c (List.mem_cons_of_mem _ hc)) (fun c hc => k c (List.mem_cons_of_mem _ hc))
    have ho2 := k b List.mem_cons_self o ho
    unfold pinsAt at h1 ⊢
    rw [List.filterMap_cons_some (b := (b, o)) (by rw [ho2]; rfl), List.filterMap_cons_some (b := (b, o)) (by rw [ho]; rfl), h1]
theorem same_end {α : Type} {l l1 l2 : List α} (a : l1 <:+ l) (b : l2 <:+ l) (e : l1.length = l2.length) : l1 = l2 := by
  obtain ⟨t1, e1⟩ := a
  obtain ⟨t2, e2⟩ := b
  exact (List.append_inj' (e1.trans e2.symm) e).2
section
variable {Xg : Cx} {A : Around} {σ0 : L2.St} {fp L : List Addr} {tn : Nat → Heap → Prop} {W : Nat → Hp → Prop} {n : Nat} {out : Nat → Option V} {a : Addr} {g : Nat}
theorem GAt.gen {ps : List (Addr × Obj)} {i : Nat} {H : Hp} {s : Shared} (G : GAt Xg L fp tn σ0 W ps i H s) (g : Nat) {x : GenState} (hx : x.bare = true) : GAt Xg L fp tn σ0 W ps i H (s.setGen g x) := ⟨inv_setGen G.inv g hx, G.tn, G.w, G.fpn⟩
theorem pin_keep {ps : List (Addr × Obj)} {H : Hp} {s s0 : Shared} {σ : L2.St} (I : L2.Inv Xg (pinsAt L s0.heap) σ H s) : ∀ b ∈ L, ∀ o, s0.heap.get? b = some o → s.heap.get? b = some o := fun b hb o e => inv_pinned I (mem_pinsAt hb e)
def GSt (prog : Program) (w : World) (A : Around) (a : Addr) (g : Nat) (Xg : Cx) (L fp : List Addr) (tn : Nat → Heap → Prop) (σ0 : L2.St) (W : Nat → Hp → Prop) (n : Nat) (out : Nat → Option V) (l : List V) (s : Shared) : Prop :=
  s.heap.IsGen a g ∧ LOk L s ∧ ∃ i H, i ≤ n ∧ outs n out i = l ∧ GAt Xg L fp tn σ0 W (pinsAt L s.heap) i H s ∧ ∃ gs : GenState, s.gens[g]? = some gs ∧ ∀ s2 : Shared, LOk L s2 → GAt Xg L fp tn σ0 W (pinsAt L s2.heap) i H s2 →
    gs.Goes (model prog w) A.in1 (GEnd Xg L σ0 W n) (GYld Xg L fp tn σ0 W n out) l.length (.send .none) s2
theorem gen_next {l : List V} {s : Shared} {Q : Option Value → Shared → Prop} {E : Value → Shared → Prop} (hh : A.handled = none) (hroom : A.depth < recursionLimit) (ha : a ∈ L) (st : GSt Xg.prog Xg.w A a g Xg L fp tn σ0 W n out l s)
    (h0 : l = [] → ∀ H s2, W n H → L2.Inv Xg (pinsAt L s.heap) σ0 H s2 → Q none s2)
    (h1 : ∀ x r, l = x :: r → ∀ u s2, RelV x u → GSt Xg.prog Xg.w A a g Xg L fp tn σ0 W n out r s2 → (∀ b ∈ L, ∀ o, s.heap.get? b = some o → s2.heap.get? b = some o) → Q (some u) s2) :
    wpAny (model Xg.prog Xg.w) A (pyNext (.ref a)) Q E s := by
  obtain ⟨hg, hLs, i, H, hi, el, G, gs, hgs, cl⟩ := st
  have hlt : g < s.gens.size := by
    obtain ⟨h, _⟩ := Array.getElem?_eq_some_iff.mp hgs
    exact h
  refine with_more (n := g + 1) hlt ?_
  have keepG : ∀ {s1 : Shared}, (∀ b ∈ L, ∀ o, s.heap.get? b = some o → s1.heap.get? b = some o) → s1.heap.IsGen a g := fun k => by
    obtain ⟨o, nm, qn, ho, r⟩ := hg
    exact ⟨o, nm, qn, k a ha o ho, r⟩
  refine wpAny_pyNext_genexpQ (P := fun m s₀ s₁ => m = 0 ∧ ∃ H, W n H ∧ L2.Inv Xg (pinsAt L s₀.heap) σ0 H s₁) (Y := GYld Xg L fp tn σ0 W n out) (n := l.length) hh G.inv.nolimit hroom hg hgs (cl (s.setGen g .running) hLs (G.gen g rfl)) (fun v s1 gs2 hb hY => ?_) (fun s1 hP h2 hk => ?_)
  · intro hsz
    obtain ⟨i1, x1, H1, hi1, r1, e1, sf1, G1, cl1⟩ := hY
    have k1 : ∀ b ∈ L, ∀ o, s.heap.get? b = some o → s1.heap.get? b = some o := pin_keep (s0 := s.setGen g .running) (ps := []) G1.inv
    have hL1 : LOk L s1 := fun b hb => by
      obtain ⟨o, e⟩ := hLs b hb
      exact ⟨o, k1 b hb o e⟩
    have eps : pinsAt L s1.heap = pinsAt L s.heap := pinsAt_same hLs k1
    have G1' : GAt Xg L fp tn σ0 W (pinsAt L s1.heap) i1 H1 s1 := by
      rw [eps]
      exact G1
    cases l with
    | nil => exact (cl1 s1 hL1 G1').elim
    | cons x r =>
      have e1 : (outs n out i1).length = r.length := e1
      have sf := outs_suffix n out i
      rw [el] at sf
      have z := same_end sf1 sf (by rw [List.length_cons, List.length_cons, e1])
      injection z with z1 z2
      subst z1
      rw [setGen_size] at hsz
      have cl1 : ∀ s2 : Shared, LOk L s2 → GAt Xg L fp tn σ0 W (pinsAt L s2.heap) i1 H1 s2 → gs2.Goes (model Xg.prog Xg.w) A.in1 (GEnd Xg L σ0 W n) (GYld Xg L fp tn σ0 W n out) r.length (.send .none) s2 := cl1
      refine h1 _ _ rfl v _ r1 ⟨keepG k1, hL1, i1, H1, hi1, z2, G1'.gen g hb, gs2, ?_, cl1⟩ k1
      show (s1.gens.setIfInBounds g gs2)[g]? = some gs2
      rw [Array.getElem?_setIfInBounds_self_of_lt hsz]
  · intro _
    obtain ⟨m0, H1, w1, I1⟩ := hP
    have e : l = [] := List.length_eq_zero_iff.mp m0
    exact h0 e H1 _ w1 ((inv_setGen I1 g (x := .finished) rfl).kept (t' := s1.toks) hk)
end
section
variable {X : Cx} {A : Around} {H0 : Hp} {σ0 : L2.St} {s4 : Shared} {cenv : Env} {fp L : List Addr} {it : Addr} {J : It} {tn : Nat → Heap → Prop} {tg elt iter : Expr} {ifs : List Expr} {scope : Scope} {pos : Pos} {g : TG} {tt : TT} {te : TE} {vs : List Nat}
  {W : Nat → Hp → Prop} {n : Nat} {out : Nat → Option V}
theorem seg_begin {Xg : Cx} (T : Turn X.prog X.w X.K tg J fp it tn) {s₀ s : Shared} {m : Nat} {R : GenEnd} {Y : Protocol} (h0 : tn 0 s.heap)
    (loop : Seg (model X.prog X.w) A R Y m s₀ (gcode elt tg iter ifs scope pos it cenv) ((model X.prog X.w).den (gcode elt tg iter ifs scope pos it cenv)) [] s) :
    Seg (model X.prog X.w) A R Y m s₀ (.compStart (.GeneratorExp elt [⟨tg, iter, ifs, 0⟩] scope pos) 0 (.ref it) .none cenv) ((model X.prog X.w).den (.compStart (.GeneratorExp elt [⟨tg, iter, ifs, 0⟩] scope pos) 0 (.ref it) .none cenv)) [] s := by
  have self := fun A2 Q E (z : Q (.ref it) s) => T.self A2 0 s Q E h0 z
  show Seg _ A R Y m s₀ _ (Sem.onRaise (compStart (.GeneratorExp elt [⟨tg, iter, ifs, 0⟩] scope pos) 0 (.ref it) .none cenv) (leaving cenv)) [] s
  unfold compStart
  rw [Sem.onRaise_eq_wrap]
  show Seg _ A R Y m s₀ _ ((ask >>= _).wrap _ _ _ _) [] s
  refine seg_bind_wrap (wpAny_askSetting ?_)
  split
  · exact seg_again rfl loop
  · refine seg_bind_wrap (wpAny_rule ?_)
    show Seg _ A R Y m s₀ _ ((standAt iter.pos >>= _).wrap _ _ _ _) [] s
    refine seg_bind_wrap (wpAny_standAt ?_)
    refine seg_bind_wrap (self _ _ _ ?_)
    exact seg_again rfl loop
end
end My

namespace My
open PySem PySem.Spec PyProof.Rows L2
def tabO (P : Addr) : HO := .ext fun h => ∃ ps : Array Value, h.get? P = some (PySem.W.tabObj ps) ∧ TriplesOk ps.toList
theorem tabO_ok {Pr : Program} {w : World} {H : Hp} {h : Heap} {P : Addr} {ps : Array Value} (e : h.get? P = some (PySem.W.tabObj ps)) (t : TriplesOk ps.toList) : ObjOk Pr w H h P (tabO P) :=
  ⟨⟨ps, e, t⟩, ⟨_, e⟩, fun h1 h2 ⟨qs, e1, t1⟩ k => ⟨qs, k _ e1, t1⟩⟩
structure BMain (mg : Str → Option Value) (base : Heap) : Prop where
  ex : ∃ bm ob, mg "__builtins__" = some (.ref bm) ∧ bm ≠ builtinsNs ∧ base.get? bm = some ob ∧ ob.cls = .type "module" ∧ ob.dict = some builtinsNs ∧ ob.data = .plain
section
variable {X : Cx} {pins : List (Addr × Obj)} {σ : L2.St} {H : Hp} {s : Shared}
theorem gen_code {c P : Addr} {pos : Pos} {q : Str} {scope : Scope} {Q : Value → Shared → Prop} {E : Value → Shared → Prop} (I : L2.Inv X pins σ H s) (hcode : X.env.code = .ref c) (C : PySem.W.CodeHd X.base c P) (hP : H P = some (tabO P))
    (hQ : ∀ code s3, L2.Inv X pins σ H s3 → (∀ b o, b ≠ P → s.heap.get? b = some o → s3.heap.get? b = some o) → s.heap.objs.size ≤ s3.heap.objs.size → Q code s3) :
    wpAny (model X.prog X.w) X.A (genexprCode X.env pos q scope) Q E s := by
  obtain ⟨⟨ps, e, t⟩, _, _⟩ := I.hok P _ hP
  have C1 := C.keeps I.bk
  cases hf : codeAmong pos ps.toList with
  | some v => exact wpAny_genexprCode_hit hcode (C1.code e t) hf (hQ v s I (fun b o _ z => z) (Nat.le_refl _))
  | none =>
    refine wpAny_genexprCodeX hcode (C1.code e t) (C1.tab e) hf fun c2 h2 tk hx h1 h3 hc2 _ ht2 _ => ?_
    have hsz : s.heap.objs.size ≤ h2.objs.size := by omega
    refine hQ _ _ ?_ (fun b o hb z => hx b o hb z) hsz
    obtain ⟨o, vs, file, tf, flags, tg, inF, text, tt, op, _, _, _, _, _, _, _, k1, k2, k3, _⟩ := hc2
    have k4 := ht2.2
    rw [k1] at k4
    cases k4
    cases k2
    have z := I.write (x := P) (e := P) (o := tabO P) (h' := h2) (t' := tk) (by rw [hP]; trivial) (.inl rfl) (fun b o hb z => hx b o hb z) ⟨_, k1⟩ (tabO_ok k1 k3)
    rw [upd_id hP] at z
    exact z
theorem gen_blt {Q : Addr → Shared → Prop} {E : Value → Shared → Prop} (I : L2.Inv X pins σ H s) (M : BMain X.mg X.base) (h : Q builtinsNs s) : wpAny (model X.prog X.w) X.A (builtinsFor X.env.globals X.env.builtins) Q E s := by
  obtain ⟨bm, ob, e1, e2, e3, e4, e5, e6⟩ := M.ex
  refine wpAny_builtinsFor (m := X.mg) ?_ e1 e2 (I.bk _ _ e3) e4 e5 e6 h
  rw [I.ok.glob]
  exact I.mod.glob.keeps I.bk
end
end My

namespace My
open PySem PySem.Spec PyProof.Rows L2
section
variable {Xg : Cx} {A : Around} {σ0 : L2.St} {fp L : List Addr} {tn : Nat → Heap → Prop} {W : Nat → Hp → Prop} {n : Nat} {out : Nat → Option V} {a : Addr} {g : Nat}
theorem unpin {X : Cx} {ps : List (Addr × Obj)} {σ : L2.St} {H : Hp} {s : Shared} (I : L2.Inv X ps σ H s) : L2.Inv X [] σ H s := I.pins_of fun p hp => nomatch hp
theorem not_fs {X : Cx} (ok : X.Ok) {b : Addr} (h : X.s_0.heap.objs.size ≤ b) : b ∉ X.fs := fun hb => by
  obtain ⟨_, o, ho, _⟩ := ok.funs.mem hb
  exact absurd (Nat.lt_of_lt_of_le (Heap.lt_size ho) h) (Nat.lt_irrefl _)
theorem truthy_bl {M : Model} {c : Bool} {s : Shared} {Q : Bool → Shared → Prop} {E : Value → Shared → Prop} (h : Q c s) : wpAny M A (truthy (.bool c)) Q E s := wpAny_of_eq (a := c) (by cases c <;> rfl) h
def allBl (l : List V) : Bool := l.all fun v => decide (v = .bl true)
theorem all_loop {Rr : Result → Shared → Prop} (hh : A.handled = none) (hroom : A.depth < recursionLimit) (ha : a ∈ L) : ∀ (l : List V) (s : Shared), GSt Xg.prog Xg.w A.in1 a g Xg L fp tn σ0 W n out l s → (∀ v ∈ l, ∃ c, v = .bl c) →
    (∀ i H s2, i ≤ n → W i H → L2.Inv Xg [] σ0 H s2 → Rr (.ok (.ret (.bool (allBl l)))) s2) → codeAny (model Xg.prog Xg.w) A (.builtin "all.loop" ⟨[.ref a], []⟩) Rr s := by
  intro l
  induction l with
  | nil =>
    intro s st _ hR
    refine codeAny_builtin PySem.F.entry_all_loop ?_
    rw [Around.under_plainId PySem.F.plain_all_loop]
    show wpAny _ _ (pyNext (.ref a) >>= _) _ _ s
    refine wpAny_bind ?_
    refine gen_next (A := A.in1) hh hroom ha st (fun _ H s2 w I => ?_) (fun x r e => nomatch e)
    refine wpAny_bind ?_
    refine wpAny_rule ?_
    exact wpAny_pure (hR n H s2 (Nat.le_refl _) w (unpin I))
  | cons x r ih =>
    intro s st hb hR
    obtain ⟨c, rfl⟩ := hb _ List.mem_cons_self
    refine codeAny_builtin PySem.F.entry_all_loop ?_
    rw [Around.under_plainId PySem.F.plain_all_loop]
    show wpAny _ _ (pyNext (.ref a) >>= _) _ _ s
    refine wpAny_bind ?_
    refine gen_next (A := A.in1) hh hroom ha st (fun e => nomatch e) (fun y r2 e u s2 ru st2 _ => ?_)
    cases e
    have ru : u = .bool c := ru
    subst ru
    refine wpAny_bind ?_
    refine wpAny_holding (truthy_bl ?_)
    refine wpAny_bind ?_
    refine wpAny_letGo ?_
    cases c with
    | true =>
      simp only [if_true]
      refine wpAny_pure ⟨plainId_quiet PySem.F.plain_all_loop _, ?_⟩
      exact ih s2 st2 (fun v hv => hb v (List.mem_cons_of_mem _ hv)) fun i H s3 hi w I => hR i H s3 hi w I
    | false =>
      simp only [Bool.false_eq_true, if_false]
      refine wpAny_bind ?_
      refine wpAny_rule ?_
      obtain ⟨_, _, i, H, hi, _, G, _⟩ := st2
      exact wpAny_pure (hR i H s2 hi G.w (unpin G.inv))
theorem call_all {s : Shared} {l : List V} {Q : Value → Shared → Prop} {E : Value → Shared → Prop} (hh : A.handled = none) (hroom : A.depth < recursionLimit) (ha : a ∈ L) (st : GSt Xg.prog Xg.w A.in1 a g Xg L fp tn σ0 W n out l s) (hb : ∀ v ∈ l, ∃ c, v = .bl c)
    (hQ : ∀ i H s2, i ≤ n → W i H → L2.Inv Xg [] σ0 H s2 → Q (.bool (allBl l)) s2) : wpAny (model Xg.prog Xg.w) A (call (.builtin "all") [.ref a]) Q E s := by
  refine call_function_tree PySem.F.kind_all PySem.F.plain_all PySem.F.entry_all (PySem.F.args_all1 _) ?_
  unfold Builtin.«all»
  refine wpAny_bind (m := oneArg "all" _) ?_
  refine wpAny_pure ?_
  refine wpAny_bind ?_
  refine wpAny_pyIter_gen st.1 ?_
  refine wpAny_pure ⟨plainId_quiet PySem.F.plain_all_loop _, ?_⟩
  exact all_loop hh hroom ha l s st hb fun i H s2 hi w I => hQ i H s2 hi w I
end
end My

namespace My
open PySem PySem.Spec PyProof.Rows L2
structure Made (X : Cx) (pins : List (Addr × Obj)) (σ : L2.St) (own : List (Str × Nat)) (scope : Scope) (tg : Expr) (geCode : Value → Env → Code) (J : It) (H1 : Hp) (it : Addr) (fp : List Addr) (tn : Nat → Heap → Prop) (code : Value) (a : Addr) (gn : Nat) (s4 s5 : Shared) : Prop where
  turn : Turn X.prog X.w X.K tg J fp it tn
  inv4 : L2.Inv X pins σ H1 s4
  fpo : ∀ b ∈ fp, FpOk X pins H1 b ∧ b < s4.heap.objs.size
  gen : s5.heap.IsGen a gn
  adr : a = s4.heap.objs.size + 1
  top : s5.heap.objs.size = a + 1
  fresh : s5.gens[gn]? = some (.fresh (geCode (.ref it) (genv X scope s4.heap.objs.size code)))
  tn0 : tn 0 s5.heap
  inv5 : ∀ A2 : Around, A2.handled = none → A2.frames = some (genv X scope s4.heap.objs.size code :: X.stack) → L2.Inv (gcx X A2 s4 H1 (genv X scope s4.heap.objs.size code) fp) [] (wipe σ (own.map (·.2))) H1 s5
section
variable {X : Cx} {pins : List (Addr × Obj)} {σ : L2.St} {H : Hp} {s : Shared}
theorem bare_push {g : Array GenState} {x : GenState} (h : AllBare g) (hx : x.bare = true) : AllBare (g.push x) := fun y hy => by
  rcases Array.mem_push.mp hy with z | z
  · exact h y z
  · rw [z]
    exact hx
theorem gen_make {elt tg iter : Expr} {ifs : List Expr} {scope : Scope} {own : List (Str × Nat)} {gpos : Pos} {wi : TI} {c P : Addr} {k : Nat} {R : It → Hp → Prop} {Qf : Value → Shared → Prop} (hN : X.N.Nodup) (hr : Room k X.A) (I : L2.Inv X pins σ H s)
    (hi : PI X tg iter wi) (ok : GenOk X.N X.env.scope scope own) (hcode : X.env.code = .ref c) (C : PySem.W.CodeHd X.base c P) (M : BMain X.mg X.base) (hs : ∀ x, genFold iter X.env x = pure x) (h : wi σ H R) (hRP : ∀ J H1, R J H1 → H1 P = some (tabO P))
    (hQ : ∀ J H1 it fp tn code a gn s4 s5, R J H1 → Made X pins σ own scope tg (fun i e => .compStart (.GeneratorExp elt [⟨tg, iter, ifs, 0⟩] scope gpos) 0 i .none e) J H1 it fp tn code a gn s4 s5 → Qf (.ref a) s5) :
    wpAny (model X.prog X.w) X.A (eval (.GeneratorExp elt [⟨tg, iter, ifs, 0⟩] scope gpos) X.env) Qf X.xe s := by
  have hfree : ∀ y ∈ scope.names, y.2 = .free → ∃ c, X.env.cells.lookup y.1 = some c := fun y hy e => (ok.blk.free y hy e).elim (fun z => I.ok.has _ (.inl z)) fun z => I.ok.has _ (.inr z)
  refine wpAny_GeneratorExp_make ok.co (closure_ok hfree) ok.nocell ok.dot ok.blk.kind hr.depth (thn (hi pins s σ H _ I h) fun xv s1 h1 => thn h1 fun itv s2 h2 => ?_) hs
  obtain ⟨it, fp, tn, J, H2, e, I2, T, t2, f2, q⟩ := h2
  subst e
  have hP := hRP J H2 q
  refine ⟨I2.nolimit, gen_code I2 hcode C hP fun code s3 I3 k3 z3 => gen_blt I3 M ?_⟩
  intro h5 hn5 hs5
  have nP : ∀ b ∈ fp, b ≠ P := fun b hb z => by
    have e := (f2 b hb).1
    rw [z, hP] at e
    cases e
  have lt2 : ∀ b ∈ fp, b < s2.heap.objs.size := fun b hb => by
    obtain ⟨o, e, _⟩ := T.obj _ _ t2 b hb
    exact Heap.lt_size e
  have kp : ∀ b o, s3.heap.get? b = some o → h5.get? b = some o := fun b o e => hs5.extBut b o (Nat.ne_of_lt (Heap.lt_size e)) (Heap.get?_push_of_some _ e)
  have sz5 : h5.objs.size = s3.heap.objs.size + 1 := by rw [hs5.1, Heap.size_push]
  have f3 : ∀ b ∈ fp, FpOk X pins H2 b ∧ b < s3.heap.objs.size := fun b hb => ⟨f2 b hb, Nat.lt_of_lt_of_le (lt2 b hb) z3⟩
  refine hQ J H2 it fp tn code _ s3.gens.size s3 _ q ⟨T, I3, f3, ?_, sz5, ?_, ?_, ?_, fun A2 hA hf => ?_⟩
  · exact ⟨_, _, _, Heap.get?_push_size _ rfl, rfl, rfl, rfl⟩
  · exact Heap.size_push ..
  · exact Array.getElem?_push_size ..
  · exact T.keep _ _ _ t2 fun b hb o e => Heap.get?_push_of_some _ (kp b o (k3 b o (nP b hb) e))
  · exact gen_start I3 ok hN hA hf f3 (fun b o e => Heap.get?_push_of_some _ (kp b o e)) (hn5.push _) (bare_push I3.bare rfl)
end
end My

namespace My
open PySem PySem.Spec PyProof.Rows L2
theorem over_frames {A : Around} {elt tg iter : Expr} {ifs : List Expr} {scope : Scope} {pos : Pos} {it : Addr} {cenv : Env} {l : List Env} (h : A.frames = some l) : (A.in1.in1.over (gcode elt tg iter ifs scope pos it cenv) []).frames = some (cenv :: l) := by
  show pushEnvs (gcode elt tg iter ifs scope pos it cenv).envs (pushEnvs (envsOf []) A.frames) = _
  rw [h]
  rfl
theorem over_handled {A : Around} {elt tg iter : Expr} {ifs : List Expr} {scope : Scope} {pos : Pos} {it : Addr} {cenv : Env} (h : A.handled = none) : (A.in1.in1.over (gcode elt tg iter ifs scope pos it cenv) []).handled = none := h
theorem over_room {A : Around} {elt tg iter : Expr} {ifs : List Expr} {scope : Scope} {pos : Pos} {it : Addr} {cenv : Env} {k : Nat} (h : Room (k + 1) A) : Room k (A.in1.in1.over (gcode elt tg iter ifs scope pos it cenv) []) := by
  have e1 : (A.in1.in1.over (gcode elt tg iter ifs scope pos it cenv) []).depth ≤ A.depth + 1 := by
    show A.depth + frameCount [] + (gcode elt tg iter ifs scope pos it cenv).weight ≤ _
    have : (gcode elt tg iter ifs scope pos it cenv).weight = 1 := rfl
    rw [this]
    exact Nat.le_refl _
  have e2 : (A.in1.in1.over (gcode elt tg iter ifs scope pos it cenv) []).units ≤ A.units + 5 := by
    show A.units + 1 + 1 + unitsOf [] + (gcode elt tg iter ifs scope pos it cenv).cUnits ≤ _
    have : (gcode elt tg iter ifs scope pos it cenv).cUnits = 3 := rfl
    rw [this]
    exact Nat.le_refl _
  have h1 := h.dp
  have h2 := h.un
  exact ⟨h.hd, by omega, by omega⟩
end My

namespace My
open PySem PySem.Spec PyProof.Rows L2
theorem boot_all : bootBuiltins "all" = some (.builtin "all") := by decide +kernel
def tAllG (P : Addr) (wi : TI) (g : TG) (tt : TT) (te : TE) (vs : List Nat) : TE := fun σ H Q => wi σ H fun J H1 => H1 P = some (tabO P) ∧ ∃ W n out, GBody J g tt te (wipe σ vs) vs W n out ∧ W 0 H1 ∧ (∀ v ∈ outs n out 0, ∃ c, v = .bl c) ∧
  ∀ i H2, i ≤ n → W i H2 → Q (.bl (allBl (outs n out 0))) H2
section
variable {X : Cx} {pins : List (Addr × Obj)} {σ : L2.St} {elt tg iter : Expr} {ifs : List Expr} {scope : Scope} {own : List (Str × Nat)} {gpos : Pos} {J : It} {H1 : Hp} {it : Addr} {fp L : List Addr} {tn : Nat → Heap → Prop} {code : Value} {a : Addr} {gn : Nat} {s4 s5 s6 : Shared}
  {g : TG} {tt : TT} {te : TE} {W : Nat → Hp → Prop} {n k : Nat} {out : Nat → Option V}
abbrev gctx (X : Cx) (elt tg iter : Expr) (ifs : List Expr) (scope : Scope) (gpos : Pos) (it : Addr) (s4 : Shared) (H1 : Hp) (code : Value) (fp : List Addr) : Cx :=
  gcx X (X.A.in1.in1.over (gcode elt tg iter ifs scope gpos it (genv X scope s4.heap.objs.size code)) []) s4 H1 (genv X scope s4.heap.objs.size code) fp
theorem made_st (hc : X.calm = true) (hr : Room (k + 1) X.A) (ok : GenOk X.N X.env.scope scope own)
    (hgt : ∀ (A2 : Around) (s : Shared) (H : Hp) (C : Addr) (code : Value) (fp : List Addr), Room k A2 → PG (gcx X A2 s H (genv X scope C code) fp) tg g)
    (ht : ∀ (A2 : Around) (s : Shared) (H : Hp) (C : Addr) (code : Value) (fp : List Addr), Room k A2 → PTs (gcx X A2 s H (genv X scope C code) fp) ifs tt)
    (he : ∀ (A2 : Around) (s : Shared) (H : Hp) (C : Addr) (code : Value) (fp : List Addr), Room k A2 → PE (gcx X A2 s H (genv X scope C code) fp) elt te)
    (m : Made X pins σ own scope tg (fun i e => .compStart (.GeneratorExp elt [⟨tg, iter, ifs, 0⟩] scope gpos) 0 i .none e) J H1 it fp tn code a gn s4 s5) (hL : ∀ b ∈ L, s4.heap.objs.size ≤ b) (B : GBody J g tt te (wipe σ (own.map (·.2))) (own.map (·.2)) W n out)
    (hg6 : s6.heap.IsGen a gn) (hL6 : LOk L s6) (G6 : GAt (gctx X elt tg iter ifs scope gpos it s4 H1 code fp) L fp tn (wipe σ (own.map (·.2))) W (pinsAt L s6.heap) 0 H1 s6) (e6 : s6.gens = s5.gens) :
    GSt X.prog X.w X.A.in1 a gn (gctx X elt tg iter ifs scope gpos it s4 H1 code fp) L fp tn (wipe σ (own.map (·.2))) W n out (outs n out 0) s6 := by
  have hLf : ∀ b ∈ L, b ∉ fp := fun b hb z => absurd (Nat.lt_of_lt_of_le (m.fpo b z).2 (hL b hb)) (Nat.lt_irrefl _)
  have r2 := over_room (elt := elt) (tg := tg) (iter := iter) (ifs := ifs) (scope := scope) (pos := gpos) (it := it) (cenv := genv X scope s4.heap.objs.size code) hr
  have fr := m.fresh
  rw [← e6] at fr
  refine ⟨hg6, hL6, 0, H1, Nat.zero_le _, rfl, G6, _, fr, fun s2 hL2 G2 => ?_⟩
  refine And.intro rfl ?_
  exact seg_begin (Xg := X) m.turn G2.tn (seg_gen rfl hc m.turn hLf (hgt _ _ _ _ _ _ r2) (ht _ _ _ _ _ _ r2) (he _ _ _ _ _ _ r2) ok.co B n 0 s2 s2 H1 (Nat.sub_zero _) (Nat.zero_le _) G2)
theorem made_back {H2 : Hp} {geCode : Value → Env → Code} {A2 : Around} {σ0 : L2.St} (m : Made X pins σ own scope tg geCode J H1 it fp tn code a gn s4 s5) (I6 : L2.Inv (gcx X A2 s4 H1 (genv X scope s4.heap.objs.size code) fp) [] σ0 H2 s6) : L2.Inv X pins σ H2 s6 :=
  m.inv4.call' (ch := fp) I6.os I6.base I6.hok I6.bare fun b hb => ⟨(m.fpo b hb).1.2.2.2.1, (m.fpo b hb).1.2.1, (m.fpo b hb).1.2.2.2.2.1, (m.fpo b hb).1.2.2.2.2.2⟩
theorem peAllG {wi : TI} {c P : Addr} {p pos : Pos} (hc : X.calm = true) (hN : X.N.Nodup) (hr : Room (k + 1) X.A) (hi : PI X tg iter wi) (ok : GenOk X.N X.env.scope scope own) (hcode : X.env.code = .ref c) (C : PySem.W.CodeHd X.base c P) (M : BMain X.mg X.base)
    (hg : Gl X "all") (hm : X.mg "all" = none)
    (hgt : ∀ (A2 : Around) (s : Shared) (H : Hp) (C : Addr) (code : Value) (fp : List Addr), Room k A2 → PG (gcx X A2 s H (genv X scope C code) fp) tg g)
    (ht : ∀ (A2 : Around) (s : Shared) (H : Hp) (C : Addr) (code : Value) (fp : List Addr), Room k A2 → PTs (gcx X A2 s H (genv X scope C code) fp) ifs tt)
    (he : ∀ (A2 : Around) (s : Shared) (H : Hp) (C : Addr) (code : Value) (fp : List Addr), Room k A2 → PE (gcx X A2 s H (genv X scope C code) fp) elt te) (hs : ∀ x, genFold iter X.env x = pure x := by intro _; rfl) :
    PE X (.Call (.Name "all" p) [.GeneratorExp elt [⟨tg, iter, ifs, 0⟩] scope gpos] [] pos) (tAllG P wi g tt te (own.map (·.2))) := by
  intro pins s σ H Q I h
  refine wpAny_Call_Name_kw (ld_blt I hg hm boot_all ?_)
  refine PyProof.Rows.callWith_builtin1 ?_ (star1 rfl) rfl
  rw [star1 rfl]
  show wpAny _ _ (spliced ((false, eval (.GeneratorExp elt [⟨tg, iter, ifs, 0⟩] scope gpos) X.env) :: backTo pos (starEach [] X.env))) _ _ s
  refine Calls.spliced_cons (gen_make hN hr I hi ok hcode C M hs h (fun J H1 q => q.1) fun J H1 it fp tn code a gn s4 s5 q m => ?_)
  obtain ⟨_, W, n, out, B, w0, hbl, hQ⟩ := q
  refine Calls.spliced_nil ?_
  have hA2 := over_handled (elt := elt) (tg := tg) (iter := iter) (ifs := ifs) (scope := scope) (pos := gpos) (it := it) (cenv := genv X scope s4.heap.objs.size code) hr.hd
  have I5 := m.inv5 _ hA2 (over_frames I.ok.frames)
  have ne4 : s4.heap.objs.size ≤ a := by rw [m.adr]; exact Nat.le_succ _
  have G5 : GAt (gctx X elt tg iter ifs scope gpos it s4 H1 code fp) [a] fp tn (wipe σ (own.map (·.2))) W (pinsAt [a] s5.heap) 0 H1 s5 := by
    refine ⟨I5.pins_of fun q hq => ?_, m.tn0, w0, fun b hb => (m.fpo b hb).1.1⟩
    obtain ⟨z1, z2⟩ := of_pinsAt hq
    have z1 : q.1 = a := by simpa using z1
    obtain ⟨o, nm, qn, ho, _, hd, _⟩ := m.gen
    rw [z1] at z2 ⊢
    have z3 : o = q.2 := Option.some.inj (ho.symm.trans z2)
    refine ⟨z2, m.inv4.hok.fresh ne4, ?_, not_fs I5.ok ne4, fun v z => ?_⟩
    · rw [m.adr]
      exact Nat.ne_of_gt (Nat.lt_succ_self _)
    · rw [← z3, hd] at z
      cases z
  refine call_all (Xg := gctx X elt tg iter ifs scope gpos it s4 H1 code fp) (L := [a]) hr.hd hr.depth (by simp) (made_st hc hr ok hgt ht he m (fun b hb => ?_) B m.gen (fun b hb => ?_) G5 rfl) hbl fun i H2 s6 hi w I6 => ?_
  · have z : b = a := by simpa using hb
    rw [z]
    exact ne4
  · have z : b = a := by simpa using hb
    obtain ⟨o, nm, qn, ho, _⟩ := m.gen
    exact ⟨o, by rw [z]; exact ho⟩
  · exact ⟨.bl _, H2, made_back m I6, rfl, hQ i H2 hi w⟩
end
end My

namespace My
open PySem PySem.Spec PyProof.Rows L2
abbrev accObj (z : Int) (t : Tok) (c : Nat) : Obj := { cls := .type "list", dict := none, data := .seq #[.int z t] c, slots := #[] }
section
variable {Xg : Cx} {A : Around} {σ0 : L2.St} {fp L : List Addr} {tn : Nat → Heap → Prop} {W : Nat → Hp → Prop} {n : Nat} {out : Nat → Option V} {a S : Addr} {g : Nat}
theorem GSt.upd {l : List V} {s : Shared} {h2 : Heap} {tk : Nat} {z z2 : Int} {t t2 : Tok} {c c2 : Nat} (st : GSt Xg.prog Xg.w A a g Xg L fp tn σ0 W n out l s) (hS : S ∈ L) (hSa : S ≠ a) (hSf : S ∉ fp) (hS4 : Xg.s_0.heap.objs.size ≤ S) (hpn : Xg.pn = [])
    (ktn : ∀ i h h', tn i h → (∀ b ∈ fp, ∀ o, h.get? b = some o → h'.get? b = some o) → tn i h') (eS : s.heap.get? S = some (accObj z t c)) (eS2 : h2.get? S = some (accObj z2 t2 c2)) (k : ∀ b o, b ≠ S → s.heap.get? b = some o → h2.get? b = some o) :
    GSt Xg.prog Xg.w A a g Xg L fp tn σ0 W n out l { s with heap := h2, toks := tk } := by
  obtain ⟨hg, hL, i, H, hi, el, G, gs, hgs, cl⟩ := st
  have pS := G.inv.pin (S, accObj z t c) (List.mem_append_right _ (mem_pinsAt hS eS))
  have I1 : L2.Inv Xg [] σ0 H { s with heap := h2, toks := tk } := by
    refine (unpin G.inv).turned (it := S) k pS.2.1 pS.2.2.1 (.inr hS4) (fun x b e q => ?_) (fun p hp => ?_)
    · obtain ⟨v, o, ho, hd⟩ := G.inv.cell x b e
      rw [q, eS] at ho
      cases ho
      cases hd
    · rw [hpn] at hp
      cases hp
  refine ⟨?_, fun b hb => ?_, i, H, hi, el, ⟨?_, ktn _ _ _ G.tn fun b hb o e => k b o (fun q => hSf (q ▸ hb)) e, G.w, G.fpn⟩, gs, hgs, cl⟩
  · obtain ⟨o, nm, qn, ho, r⟩ := hg
    exact ⟨o, nm, qn, k a o (Ne.symm hSa) ho, r⟩
  · by_cases q : b = S
    · exact ⟨_, by rw [q]; exact eS2⟩
    · obtain ⟨o, e⟩ := hL b hb
      exact ⟨o, k b o q e⟩
  · refine I1.pins_of fun p hp => ?_
    obtain ⟨z1, e2⟩ := of_pinsAt hp
    have e2 : h2.get? p.1 = some p.2 := e2
    by_cases q : p.1 = S
    · have e3 : p.2 = accObj z2 t2 c2 := by
        rw [q, eS2] at e2
        exact (Option.some.inj e2).symm
      refine ⟨e2, by rw [q]; exact pS.2.1, by rw [q]; exact pS.2.2.1, by rw [q]; exact pS.2.2.2.1, fun v r => ?_⟩
      rw [e3] at r
      cases r
    · obtain ⟨o, e⟩ := hL p.1 z1
      have pb := G.inv.pin (p.1, o) (List.mem_append_right _ (mem_pinsAt z1 e))
      have e3 := k p.1 o q e
      rw [e2] at e3
      have e3 : p.2 = o := Option.some.inj e3
      refine ⟨e2, pb.2.1, pb.2.2.1, pb.2.2.2.1, ?_⟩
      rw [e3]
      exact pb.2.2.2.2
end
end My

namespace My
open PySem PySem.Spec PyProof.Rows L2
end My

namespace My
open PySem PySem.Spec PyProof.Rows L2
def Tabs (tabs : List (Addr × Addr)) (H : Hp) : Prop := ∀ q ∈ tabs, H q.2 = some (tabO q.2)
theorem law_callT {P : Program} {w : World} {K : PySem.W.Frag} {mg mb : Str → Option Value} {k : Nat} {fa a : Addr} {fd : FuncData} {x : Str} {sp : Sp} {s₁ : Shared} {vs : List Value} {ns : List Int} {tabs : List (Addr × Addr)}
    (KX : K.In s₁.heap) (hns : s₁.heap.Ns mainGlobals mg) (hb : s₁.heap.Ns builtinsNs mb) (hbb : ∀ x : Str, x ≠ "__name__" → mb x = bootBuiltins x) (hlim : s₁.heap.NoLimit) (hg : s₁.gens = #[])
    (ha : s₁.heap.get? a = some { cls := .type "list", data := .seq vs.toArray }) (hi : IntsAre vs ns) (hl : ns.length ≤ sizeLine) (hr : Room k callerA) (hT : PySem.W.TabsAt tabs s₁.heap) (hKT : PySem.W.noTabs K = true) (hB : BMain mg s₁.heap)
    (F : ∀ base : Heap, K.In base → base.Ns mainGlobals mg → BMain mg base → (∀ q ∈ tabs, PySem.W.CodeHd base q.1 q.2) → FnOk P w K mg base CX0 k fa fd [x] sp) (hbind : ∀ (s : Shared) (u : Value), BindsTo s fd ⟨[u], []⟩ [(x, u)])
    (hsp : ∀ H : Hp, Tabs tabs H → SqL K H a (ns.map V.int) → sp [.ref a] H (fun v H2 => v = .bl true ∧ Tabs tabs H2) fun _ _ _ => False) :
    codeAny (model P w) callerA (.call (.ref fa) ⟨[.ref a], []⟩) (fun r s2 => r = .ok (.ret (.bool true)) ∧ OldK s₁.heap s2.heap ∧ s2.os = s₁.os ∧ AllBare s2.gens) s₁ := by
  have rv := vals_ints hi
  have lenV := hi.length
  have noK : ∀ q ∈ tabs, K.lookup q.2 = none := fun q hq => by
    cases e : K.lookup q.2 with
    | none => rfl
    | some o =>
      have e1 := KX _ _ e
      rw [(hT q hq).2] at e1
      have e2 : o = PySem.W.tabObj #[] := (Option.some.inj e1).symm
      have e3 := List.all_eq_true.mp hKT (q.2, o) (PySem.W.mem_of_lookupK e)
      rw [e2] at e3
      cases e3
  have aT : ∀ q ∈ tabs, q.2 ≠ a := fun q hq z => by
    have e := (hT q hq).2
    rw [z, ha] at e
    cases e
  have core : ∀ H : Hp, Tabs tabs H → (∀ b, (∀ q ∈ tabs, q.2 ≠ b) → H b = none ∨ (b = a ∧ H b = some (.frz { cls := .type "list", data := .seq vs.toArray } (.lst (ns.map V.int))) ∧ K.lookup a = none)) → SqL K H a (ns.map V.int) →
      codeAny (model P w) callerA (.call (.ref fa) ⟨[.ref a], []⟩) (fun r s2 => r = .ok (.ret (.bool true)) ∧ OldK s₁.heap s2.heap ∧ s2.os = s₁.os ∧ AllBare s2.gens) s₁ := by
    intro H hH hO hS
    have split : ∀ b, (∃ q ∈ tabs, q.2 = b) ∨ ∀ q ∈ tabs, q.2 ≠ b := fun b => by
      by_cases z : ∃ q ∈ tabs, q.2 = b
      · exact .inl z
      · exact .inr fun q hq e => z ⟨q, hq, e⟩
    have hok : HOk P w H s₁.heap := fun b u e => by
      rcases split b with ⟨q, hq, rfl⟩ | z
      · rw [hH q hq] at e
        cases e
        exact tabO_ok (hT q hq).2 trivial
      · rcases hO b z with e1 | ⟨rfl, e1, _⟩
        · rw [e1] at e
          cases e
        · rw [e1] at e
          cases e
          refine ⟨ha, ?_, vs, _, rv, ha⟩
          rw [List.length_map]
          exact hl
    have free : ∀ b o, s₁.heap.get? b = some o → (o.cls ≠ .none ∨ ∀ vs, o.data ≠ .fields vs) → (∀ its n, o.data ≠ .seq its n) → H b = none := fun b o e h1 h2 => by
      rcases split b with ⟨q, hq, rfl⟩ | z
      · rw [(hT q hq).2] at e
        cases e
        rcases h1 with h1 | h1
        · exact absurd rfl h1
        · exact absurd rfl (h1 _)
      · rcases hO b z with e1 | ⟨rfl, _, _⟩
        · exact e1
        · rw [ha] at e
          cases e
          exact absurd rfl (h2 _ _)
    have nsK : ∀ {b : Addr} {m : Str → Option Value}, s₁.heap.Ns b m → (hidT s₁.heap H).Ns b m := fun {b m} ⟨o, es, ep, e, d, r⟩ => by
      refine ⟨o, es, ep, hidT_get e (free b o e (.inr fun vs z => ?_) fun its n z => ?_), d, r⟩
      · rw [d] at z
        cases z
      · rw [d] at z
        cases z
    have hKb : K.In (hidT s₁.heap H) := fun b o e => by
      refine hidT_get (KX b o e) ?_
      rcases split b with ⟨q, hq, rfl⟩ | z
      · rw [noK q hq] at e
        cases e
      · rcases hO b z with e1 | ⟨rfl, _, e1⟩
        · exact e1
        · rw [e1] at e
          cases e
    have hBb : BMain mg (hidT s₁.heap H) := by
      obtain ⟨bm, ob, e1, e2, e3, e4, e5, e6⟩ := hB.ex
      refine ⟨bm, ob, e1, e2, hidT_get e3 (free bm ob e3 (.inl ?_) fun its n z => ?_), e4, e5, e6⟩
      · rw [e4]
        nofun
      · rw [e6] at z
        cases z
    have hCb : ∀ q ∈ tabs, PySem.W.CodeHd (hidT s₁.heap H) q.1 q.2 := fun q hq => by
      obtain ⟨o, us, file, tf, flags, tg, inF, text, tt, e1, e2, e3, r⟩ := (hT q hq).1
      refine ⟨o, us, file, tf, flags, tg, inF, text, tt, hidT_get e1 (free q.1 o e1 (.inl ?_) fun its n z => ?_), e2, e3, r⟩
      · rw [e2]
        nofun
      · rw [e3] at z
        cases z
    have hM : Mod K mg (hidT s₁.heap H) := ⟨hKb, nsK hns, ⟨mb, nsK hb, hbb⟩, let ⟨mc, h1, h2⟩ := hlim; ⟨mc, nsK h1, h2⟩⟩
    have e0 : Env0 P w K mg (hidT s₁.heap H) callerA [] s₁ H := ⟨rfl, hM, fun b o e => of_hidT e, Nat.le_of_eq (hidT_size _ _), trivial, fun b hb => absurd (show b ∈ ([] : List Addr) from hb) (by simp), hok, .of_eq hg⟩
    refine codeAny_mono ((F _ hKb (nsK hns) hBb hCb).run callerA [] s₁ H ⟨[.ref a], []⟩ [.ref a] [.ref a] _ _ hr e0 (hbind s₁ (.ref a)) (.cons rfl .nil) (hsp H hH hS)) fun r s2 h => ?_
    cases r with
    | error e => exact False.elim h
    | ok fl =>
      cases fl with
      | next => exact False.elim h
      | brk => exact False.elim h
      | cont => exact False.elim h
      | ret u =>
        obtain ⟨v, H2, os, bare, un, hok2, r2, q1, q2⟩ := h
        subst q1
        obtain rfl : u = Value.bool true := r2
        refine ⟨rfl, ⟨fun b o e => ?_, fun b o e => un.there b o e (by simp)⟩, os, bare⟩
        rcases split b with ⟨q, hq, rfl⟩ | z
        · obtain ⟨⟨ps, e1, _⟩, _, _⟩ := hok2 q.2 _ (q2 q hq)
          have e3 := (hT q hq).2
          rw [e] at e3
          have e4 : o = PySem.W.tabObj #[] := Option.some.inj e3
          subst e4
          refine .inr (.inl ⟨((hT q hq).1.tab (hT q hq).2).isCodeTable, rfl, #[], ps, rfl, ?_⟩)
          rw [e1]
          simp
        · rcases hO b z with e1 | ⟨rfl, e1, _⟩
          · exact .inl (un.keep b o e e1 (fun q => absurd (show b ∈ ([] : List Addr) from q) (by simp)) (by simp))
          · obtain ⟨e2, _⟩ := hok2 b _ (un.frzs b _ _ e1)
            rw [ha] at e
            cases e
            exact .inl e2
  obtain ⟨H, h1, h2, h3⟩ : ∃ H : Hp, Tabs tabs H ∧ (∀ b, (∀ q ∈ tabs, q.2 ≠ b) → b ≠ a → H b = none) ∧ H a = (if K.lookup a = none then some (.frz { cls := .type "list", data := .seq vs.toArray } (.lst (ns.map V.int))) else none) := by
    refine ⟨fun b => if (∃ q ∈ tabs, q.2 = b) then some (tabO b) else if b = a then (if K.lookup a = none then some (.frz { cls := .type "list", data := .seq vs.toArray } (.lst (ns.map V.int))) else none) else none, fun q hq => ?_, fun b z n => ?_, ?_⟩
    · exact if_pos ⟨q, hq, rfl⟩
    · refine (if_neg ?_).trans (if_neg n)
      rintro ⟨q, hq, e⟩
      exact z q hq e
    · refine (if_neg ?_).trans (if_pos rfl)
      rintro ⟨q, hq, e⟩
      exact aT q hq e
  refine core H h1 (fun b z => ?_) ?_
  · by_cases n : b = a
    · subst n
      by_cases e : K.lookup b = none
      · rw [if_pos e] at h3
        exact .inr ⟨rfl, h3, e⟩
      · rw [if_neg e] at h3
        exact .inl h3
    · exact .inl (h2 b z n)
  · cases hk : K.lookup a with
    | none =>
      rw [if_pos hk] at h3
      exact .inl (.inr ⟨_, h3⟩)
    | some o =>
      have e := KX a o hk
      rw [ha] at e
      cases e
      exact .inr ⟨_, vs.toArray, _, hk, rfl, rfl, rfl, by rw [List.size_toArray, lenV]; exact hl, by simpa using rv⟩
end My

namespace My
open PySem PySem.Spec PyProof.Rows L2
def RawG (K : PySem.W.Frag) (mg : Str → Option Value) (name : Str) (st : Stmt) (ps : List Str) (c P : Addr) : Prop :=
  ∃ f fd, Fun K name name st f fd ∧ mg name = some (.ref f) ∧ Binds K fd ps [] ∧ fd.code = .ref c ∧ PySem.W.tabIn K name = some (c, P)
theorem rawG_mk {K : PySem.W.Frag} {h : Heap} {mg : Str → Option Value} {x : Str} {st : Stmt} {ps : List Str} {f co Ta : Addr} {oc : Value} {od an : Option Addr} {osl : Array (Option Value)} {kV doc pm cdv ct : Value}
    (X : K.In h) (G : h.Ns mainGlobals mg) (a : PySem.W.nsIn K mainGlobals x = some (some (.ref f)))
    (l : K.lookup f = some ⟨oc, od, .func (PySem.W.fnOf x x (defArgs st) (defBody st) (defScope st) .none kV doc pm an cdv ct), osl⟩)
    (c : PySem.W.codeIn K cdv x = true) (k : PySem.W.keepIn K (.ref f) = true) (t : PySem.W.tabIn K x = some (co, Ta))
    (b : ∀ (kV doc pm : Value) (an : Option Addr) (cdv ct : Value) (us : List Value), us.length = ps.length → bindArgs (PySem.W.fnOf x x (defArgs st) (defBody st) (defScope st) .none kV doc pm an cdv ct) ⟨us, []⟩ = pure (ps.zip us)) :
    RawG K mg x st ps co Ta := by
  have F := fun_mk (st := st) l c k
  have m := PySem.W.mg_of X G a
  exact ⟨f, _, F, m, F.binds b, PySem.W.law_code X G t m (X _ _ l) rfl, t⟩
theorem RawG.raw {K : PySem.W.Frag} {mg : Str → Option Value} {x : Str} {st : Stmt} {ps : List Str} {c P : Addr} (R : RawG K mg x st ps c P) : Raw K mg x st ps := by
  obtain ⟨f, fd, F, m, b, _⟩ := R
  exact ⟨f, fd, F, m, b⟩
section
variable {P : Program} {w : World} {K : PySem.W.Frag} {mg : Str → Option Value} {base : Heap}
theorem def_ofG {x : Str} {st : Stmt} {N ps : List Str} {k : Nat} {sp : Sp} {c Ta : Addr} (R : RawG K mg x st ps c Ta) (S : FnScope N ps (defScope st)) (len : ∀ vs H Q E, sp vs H Q E → vs.length = ps.length)
    (hbody : ∀ (f : Addr) (A : Around) (outer : List Env) (s : Shared) (H : Hp) (vs : List V) (Q : VK) (E : XK), Room k (A.deeper (envOfC x (defScope st) s.heap.objs.size f (.ref c))) → sp vs H Q E →
      ∃ t, PSs (cxOf CX0 P w K mg base N x (defScope st) f (.ref c) A outer s H E).nox (defBody st) t ∧ t { nx := fun _ H' => Q .non H', rt := Q } (start N vs) H) : Def P w K mg base (k + 1) x ps sp := by
  obtain ⟨f, fd, F, m, b, e, _⟩ := R
  refine ⟨f, fd, m, F.kp, b, ?_⟩
  obtain ⟨oc, od, kV, doc, pm, an, cdv, ct, osl, rfl, lk, hcd⟩ := F.ex
  have e : cdv = .ref c := e
  subst e
  refine fn_of lk hcd S len fun A outer s H vs Q E hr hsp => ?_
  obtain ⟨t, h, q⟩ := hbody f A outer s H vs Q E hr hsp
  exact ⟨t, h.nox, q⟩
end
end My

namespace My
open PySem PySem.Spec PyProof.Rows L2
end My

namespace My
open PySem PySem.Spec PyProof.Rows L2
theorem putK_keys (kvs : List (Key × V)) (k : Key) (v : V) (h : (kvs.map (·.1)).Nodup) : ((putK kvs k v).map (·.1)).Nodup := by
  unfold putK
  split
  · have e : (kvs.map (fun kv => if kv.1 = k then (kv.1, v) else kv)).map (·.1) = kvs.map (·.1) := by
      rw [List.map_map]
      refine List.map_congr_left fun p _ => ?_
      show (if p.1 = k then (p.1, v) else p).1 = p.1
      split <;> rfl
    rw [e]
    exact h
  · rename_i n
    rw [List.map_append, List.nodup_append]
    refine ⟨h, by simp, fun a ha b hb e => n ?_⟩
    obtain ⟨p, hp, e1⟩ := List.mem_map.mp ha
    have e2 : b = k := by simpa using hb
    rw [List.any_eq_true]
    exact ⟨p, hp, decide_eq_true (e1.trans (e.trans e2))⟩
theorem putK_mem {kvs : List (Key × V)} {k : Key} {v : V} {p : Key × V} (h : p ∈ putK kvs k v) : p ∈ kvs ∨ p = (k, v) := by
  unfold putK at h
  split at h
  · obtain ⟨q, hq, e⟩ := List.mem_map.mp h
    have e : (if q.1 = k then (q.1, v) else q) = p := e
    split at e
    · rename_i z
      rw [z] at e
      exact .inr e.symm
    · exact .inl (e ▸ hq)
  · rcases List.mem_append.mp h with z | z
    · exact .inl z
    · exact .inr (by simpa using z)
def Wr (H : Hp) (t : Addr) : Prop := ∃ d n : Int, H t = some (.tup [.int d, .int n]) ∧ (0 ≤ d ∧ d < 20) ∧ (0 ≤ n ∧ n < 256)
structure Mom (H : Hp) (m : Int) (kvs : List (Key × V)) : Prop where
  keys : (kvs.map (·.1)).Nodup
  all : ∀ p ∈ kvs, ∃ (k : Int) (t : Addr), p = (Sum.inl k, V.ref t) ∧ (0 ≤ k ∧ k < m) ∧ Wr H t
theorem Mom.nil {H : Hp} {m : Int} : Mom H m [] := ⟨by simp, fun p hp => by cases hp⟩
theorem Wr.same {H H2 : Hp} {t : Addr} (h : Wr H t) (s : ∀ b xs, H b = some (.tup xs) → H2 b = some (.tup xs)) : Wr H2 t := by
  obtain ⟨d, n, e, r⟩ := h
  exact ⟨d, n, s _ _ e, r⟩
theorem Mom.same {H H2 : Hp} {m : Int} {kvs : List (Key × V)} (h : Mom H m kvs) (s : ∀ b xs, H b = some (.tup xs) → H2 b = some (.tup xs)) : Mom H2 m kvs := ⟨h.keys, fun p hp => by
  obtain ⟨k, t, e, hk, w⟩ := h.all p hp
  exact ⟨k, t, e, hk, w.same s⟩⟩
theorem Mom.put {H : Hp} {m k : Int} {t : Addr} {kvs : List (Key × V)} (h : Mom H m kvs) (hk : 0 ≤ k ∧ k < m) (w : Wr H t) : Mom H m (putK kvs (.inl k) (.ref t)) := ⟨putK_keys _ _ _ h.keys, fun p hp => by
  rcases putK_mem hp with z | z
  · exact h.all p z
  · exact ⟨k, t, z, hk, w⟩⟩
theorem DeckAt.same {H H2 : Hp} {l : Addr} (h : DeckAt H l) (s : Same H H2) : DeckAt H2 l := by
  obtain ⟨ds, e, r⟩ := h
  exact ⟨ds, s _ _ e, r⟩
theorem SameX.off {l : Addr} {H H2 : Hp} (o : ∀ b, b ≠ l → H2 b = H b) : SameX l H H2 := fun b u e n => (o b n).trans e
theorem Mom.step {H H2 : Hp} {l p : Addr} {m : Int} {kvs kvs2 : List (Key × V)} (h : Mom H m kvs) (s : SameX l H H2) (hl : ∀ xs, H l ≠ some (.tup xs)) : Mom H2 m kvs := h.same fun b xs e => s b _ e fun z => hl xs (z ▸ e)
theorem Mom.ks {H : Hp} {m : Int} {kvs : List (Key × V)} (h : Mom H m kvs) : ∃ ks : List Int, kvs.map (·.1) = ks.map Sum.inl ∧ ks.Nodup ∧ ks.length = kvs.length ∧ ∀ k ∈ ks, (0 ≤ k ∧ k < m) ∧ ∃ t, valV kvs (.inl k) = some (.ref t) ∧ Wr H t := by
  let f : Key × V → Int := fun p => match p.1 with | .inl k => k | .inr _ => 0
  have e : kvs.map (·.1) = (kvs.map f).map Sum.inl := by
    rw [List.map_map]
    refine List.map_congr_left fun p hp => ?_
    obtain ⟨k, t, e, _⟩ := h.all p hp
    rw [e]
    rfl
  refine ⟨kvs.map f, e, ?_, by rw [List.length_map], fun k hk => ?_⟩
  · have n := h.keys
    rw [e] at n
    exact List.Pairwise.of_map Sum.inl (fun a b h e => h (by rw [e])) n
  · obtain ⟨p, hp, ep⟩ := List.mem_map.mp hk
    obtain ⟨k2, t2, e2, b2, _⟩ := h.all p hp
    have e3 : k2 = k := by
      rw [e2] at ep
      exact ep
    subst e3
    refine ⟨b2, ?_⟩
    cases q : kvs.find? (fun kv => decide (kv.1 = Sum.inl k2)) with
    | none =>
      have z := List.find?_eq_none.mp q p hp
      rw [e2] at z
      exact absurd (decide_eq_true rfl) z
    | some r =>
      have r1 := List.mem_of_find?_eq_some q
      have r2 := of_decide_eq_true (List.find?_some (p := fun kv : Key × V => decide (kv.1 = Sum.inl k2)) q)
      obtain ⟨k4, t4, e4, _, w4⟩ := h.all r r1
      refine ⟨t4, ?_, w4⟩
      unfold valV
      rw [q, e4]
      rfl
def WAt (H : Hp) (r : Addr) (w : Int × Int × Int) : Prop := H r = some (.tup [.int (w.1 / 32), .int (w.1 % 32), .int w.2.1, .int w.2.2]) ∧ (0 ≤ w.2.1 ∧ w.2.1 < 20) ∧ (0 ≤ w.2.2 ∧ w.2.2 < 256)
structure LogAt (H : Hp) (t : Addr) (m : Int) (ds : List Int) (ws : List (Int × Int × Int)) : Prop where
  ex : ∃ (a b : Addr) (refs : List Addr), H t = some (.tup [.int m, .ref a, .ref b]) ∧ H a = some (.tup (ds.map V.int)) ∧ H b = some (.tup (refs.map V.ref)) ∧ Paired (WAt H) refs ws
  ms : 1 ≤ m ∧ m ≤ 40
  len : ds.length = 20
  byt : Bytes ds
  wl : ws.length ≤ 400
  low : ∀ w ∈ ws, 0 ≤ w.1 ∧ w.1 < 32 * m
  ups : (ws.map (·.1)).Pairwise (· < ·)
theorem WAt.same {H H2 : Hp} (s : ∀ b xs, H b = some (.tup xs) → H2 b = some (.tup xs)) : ∀ {refs : List Addr} {ws : List (Int × Int × Int)}, Paired (WAt H) refs ws → Paired (WAt H2) refs ws
  | _, _, .nil => .nil
  | _, _, .cons h t => .cons ⟨s _ _ h.1, h.2⟩ (WAt.same s t)
theorem LogAt.same {H H2 : Hp} {t : Addr} {m : Int} {ds : List Int} {ws : List (Int × Int × Int)} (h : LogAt H t m ds ws) (s : ∀ b xs, H b = some (.tup xs) → H2 b = some (.tup xs)) : LogAt H2 t m ds ws := by
  obtain ⟨⟨a, b, refs, e1, e2, e3, e4⟩, r1, r2, r3, r4, r5, r6⟩ := h
  exact ⟨⟨a, b, refs, s _ _ e1, s _ _ e2, s _ _ e3, WAt.same s e4⟩, r1, r2, r3, r4, r5, r6⟩
theorem DeckAt.ne {H : Hp} {l p : Addr} (h : DeckAt H l) (n : H p = none) : p ≠ l := fun e => by
  obtain ⟨ds, h1, _⟩ := h
  rw [e, h1] at n
  cases n
def heldOf (ds : List Int) (ws : List (Int × Int × Int)) (M : Int) : List Int := ws.foldl (fun d w => if w.1 ≤ M then d.set w.2.1.toNat w.2.2 else d) ds
end My

namespace My
open PySem PySem.Spec PyProof.Rows L2
def genC (N : List Str) (sc scope : Scope) (own : List (Str × Nat)) : Bool := blkC N sc scope own && scope.names.all (fun y => y.2 != NameKind.cell) && (scope.names.lookup (".0" : Str) == some NameKind.local) && !scope.isCoroutine
theorem genOk_by {N : List Str} {sc scope : Scope} {own : List (Str × Nat)} (h : genC N sc scope own = true) : GenOk N sc scope own := by
  unfold genC at h
  rw [Bool.and_eq_true, Bool.and_eq_true, Bool.and_eq_true] at h
  obtain ⟨⟨⟨h1, h2⟩, h3⟩, h4⟩ := h
  refine ⟨blkOk_by h1, fun y hy e => ?_, by simpa using h3, by simpa using h4⟩
  have z := List.all_eq_true.mp h2 y hy
  rw [e] at z
  exact absurd z (by decide)
end My

namespace My
open PySem PySem.Spec PyProof.Rows L2
def tabsIn (K : PySem.W.Frag) (names : List Str) : List (Addr × Addr) := names.filterMap fun x => PySem.W.tabIn K x
theorem mem_tabsIn {K : PySem.W.Frag} {names : List Str} {x : Str} {c P : Addr} (h : x ∈ names) (e : PySem.W.tabIn K x = some (c, P)) : (c, P) ∈ tabsIn K names := List.mem_filterMap.mpr ⟨x, h, e⟩
theorem tab_mk {K : PySem.W.Frag} {x : Str} {f c P : Addr} {oc oc2 : Value} {od od2 : Option Addr} {fd : FuncData} {osl osl2 : Array (Option Value)} {vs : Array Value} (a : PySem.W.nsIn K mainGlobals x = some (some (.ref f))) (l : K.lookup f = some ⟨oc, od, .func fd, osl⟩) (hc : fd.code = .ref c)
    (lc : K.lookup c = some ⟨oc2, od2, .fields vs, osl2⟩) (h : vs[11]? = some (.ref P)) : PySem.W.tabIn K x = some (c, P) := by
  unfold PySem.W.tabIn
  rw [a]
  dsimp only
  rw [l]
  dsimp only
  rw [hc]
  dsimp only
  rw [lc]
  dsimp only
  rw [h]
end My

namespace My
open PySem PySem.Spec PyProof.Rows L2
end My

namespace My
open PySem PySem.Spec PyProof.Rows L2
end My

namespace My
open PySem PySem.Spec PyProof.Rows L2
abbrev Stretch := Int × Int × Int × List Int
def StAt (H : Hp) (r : Addr) (x : Stretch) : Prop := ∃ d : Addr, H r = some (.tup [.int x.1, .int x.2.1, .int x.2.2.1, .ref d]) ∧ H d = some (.tup (x.2.2.2.map V.int))
theorem StAt.keep {H H2 : Hp} (s : ∀ b xs, H b = some (.tup xs) → H2 b = some (.tup xs)) : ∀ {refs : List Addr} {rs : List Stretch}, Paired (StAt H) refs rs → Paired (StAt H2) refs rs
  | _, _, .nil => .nil
  | _, _, .cons ⟨d, h1, h2⟩ t => .cons ⟨d, s _ _ h1, s _ _ h2⟩ (StAt.keep s t)
inductive Chain (ds : List Int) (ws : List (Int × Int × Int)) : Int → List Stretch → Int → Prop
  | nil (M : Int) : Chain ds ws M [] M
  | cons {M L f b M2 : Int} {hd : List Int} {rest : List Stretch} (e : M = 32 * L + f) (h0 : 0 ≤ L) (h1 : 0 ≤ f) (h2 : f < b) (h3 : b ≤ 32) (hh : ∀ m, M ≤ m → m < 32 * L + b → heldOf ds ws m = hd) (t : Chain ds ws (32 * L + b) rest M2) : Chain ds ws M ((L, f, b, hd) :: rest) M2
theorem Chain.app {ds : List Int} {ws : List (Int × Int × Int)} {M M2 M3 : Int} {a b : List Stretch} (h : Chain ds ws M a M2) (g : Chain ds ws M2 b M3) : Chain ds ws M (a ++ b) M3 := by
  induction h with
  | nil _ => exact g
  | cons e h0 h1 h2 h3 hh _ ih => exact .cons e h0 h1 h2 h3 hh (ih g)
theorem Chain.le {ds : List Int} {ws : List (Int × Int × Int)} {M M2 : Int} {a : List Stretch} (h : Chain ds ws M a M2) : M ≤ M2 := by
  induction h with
  | nil _ => exact Int.le_refl _
  | cons e _ _ h2 _ _ _ ih => omega
end My

namespace My
open PySem PySem.Spec PyProof.Rows L2
end My

namespace My
open PySem PySem.Spec PyProof.Rows L2
def six : List Int := [1, 2, 4, 8, 16, 32]
end My

namespace My
open PySem PySem.Spec PyProof.Rows L2
end My

namespace My
open PySem PySem.Spec PyProof.Rows L2
abbrev SK := Int × Int × List Int
section
variable (prog : Program) (w : World)
def IsSKey (h : Heap) (k : SK) (a : Addr) : Prop := ∃ o n t1 t2 d, h.get? a = some o ∧ o.cls = .type "tuple" ∧ o.data = .seq #[.int k.1 t1, .int k.2.1 t2, .ref d] n ∧ IsTupleKey (intKind prog w) h k.2.2 d
end
section
variable {prog : Program} {w : World} {A : Around} {E : Value → Shared → Prop} {s : Shared}
theorem IsSKey.typeIs {k : SK} {a : Addr} (x : IsSKey prog w s.heap k a) : s.TypeIs (.ref a) "tuple" := let ⟨o, _, _, _, _, ho, hc, _⟩ := x; ⟨o, ho, hc⟩
theorem IsSKey.inj {h : Heap} {a : Addr} {x y : SK} (hx : IsSKey prog w h x a) (hy : IsSKey prog w h y a) : x = y := by
  obtain ⟨o, n, t1, t2, d, ho, _, hd, hi⟩ := hx
  obtain ⟨o2, n2, u1, u2, d2, ho2, _, hd2, hi2⟩ := hy
  obtain rfl : o = o2 := Option.some.inj (ho.symm.trans ho2)
  rw [hd] at hd2
  injection hd2 with h1 _
  have e1 := congrArg Array.toList h1
  simp only [List.cons.injEq, Value.int.injEq, Value.ref.injEq, and_true] at e1
  obtain ⟨⟨e, _⟩, ⟨f, _⟩, g⟩ := e1
  subst g
  have z := hi.inj hi2
  obtain ⟨x1, x2, x3⟩ := x
  obtain ⟨y1, y2, y3⟩ := y
  simp only at e f z
  rw [e, f, z]
theorem IsSKey.keeps {h h' : Heap} {k : SK} {a d : Addr} {o : Obj} {es ep} (x : IsSKey prog w h k a) (ho : h.get? d = some o) (hd : o.data = .dict es ep) (hs : Heap.SameBut d h h') : IsSKey prog w h' k a := by
  obtain ⟨o', n, t1, t2, b, ho', hc, hd', hi⟩ := x
  have hne : a ≠ d := by
    rintro rfl
    obtain rfl : o' = o := Option.some.inj (ho'.symm.trans ho)
    rw [hd] at hd'; exact nomatch hd'
  exact ⟨o', n, t1, t2, b, (hs.2 a hne).trans ho', hc, hd', hi.keeps ho hd hs⟩
end
abbrev SE := SK × Addr × Addr
def KeyN (H : Hp) (b : Addr) (k : SK) : Prop := ∃ d, H b = some (.tup [.int k.1, .int k.2.1, .ref d]) ∧ H d = some (.tup (k.2.2.map V.int))
def KeysN (H : Hp) (xs : List SE) : Prop := ∀ x ∈ xs, KeyN H x.2.1 x.1
theorem KeyN.keep {H H2 : Hp} {b : Addr} {k : SK} (h : KeyN H b k) (s : ∀ b xs, H b = some (.tup xs) → H2 b = some (.tup xs)) : KeyN H2 b k := by
  obtain ⟨d, e1, e2⟩ := h
  exact ⟨d, s _ _ e1, s _ _ e2⟩
theorem KeysN.keep {H H2 : Hp} {xs : List SE} (h : KeysN H xs) (s : ∀ b xs, H b = some (.tup xs) → H2 b = some (.tup xs)) : KeysN H2 xs := fun x hx => (h x hx).keep s
end My

namespace My
open PySem PySem.Spec L2
theorem atI_nat (xs : List V) {n : Nat} (h : n < xs.length) : atI xs (n : Int) = xs[n]? := by
  have z : ixN xs.length (n : Int) = some n := by
    unfold ixN
    rw [if_pos (by omega)]
    simp
    omega
  unfold atI
  rw [z]
  rfl
end My

namespace My
open PySem PySem.Spec PyProof.Rows L2
section
variable {X : Cx}
def rIsNotB : R2 := fun x y H Q => ∃ b c, x = .bl b ∧ y = .bl c ∧ Q (.bl (b != c)) H
theorem opIsNotB : OpR X (compareOp .IsNot) rIsNotB := by
  intro pins s σ H x y v u Q I rx ry h
  obtain ⟨b, c, rfl, rfl, q⟩ := h
  cases (show v = Value.bool b from rx)
  cases (show u = Value.bool c from ry)
  exact isnot_bool ⟨.bl (b != c), H, I, rfl, q⟩
end
section
variable {σ : L2.St} {H : Hp} {D : Ends} {K : PySem.W.Frag} {Q : VK} {ta tb tc : TE}
inductive Typed (H : Hp) : V → Prop
  | non : Typed H .non
  | bl (b : Bool) : Typed H (.bl b)
  | int (i : Int) : Typed H (.int i)
  | str (x : Str) : Typed H (.str x)
  | tup {a : Addr} {xs : List V} (e : H a = some (.tup xs)) : Typed H (.ref a)
  | lst {a : Addr} {xs : List V} (e : H a = some (.lst xs)) : Typed H (.ref a)
  | dic {a : Addr} {xs : List (Key × V)} (e : H a = some (.dK xs)) : Typed H (.ref a)
theorem Typed.same {H2 : Hp} {x : V} (h : Typed H x) (s : Same H H2) : Typed H2 x := by
  cases h with
  | non => exact .non
  | bl b => exact .bl b
  | int i => exact .int i
  | str x => exact .str x
  | tup e => exact .tup (s _ _ e)
  | lst e => exact .lst (s _ _ e)
  | dic e => exact .dic (s _ _ e)
def isTupB (H : Hp) : V → Bool
  | .ref a => match H a with
    | some (.tup _) => true
    | _ => false
  | _ => false
theorem isTupB_tup {a : Addr} {xs : List V} (e : H a = some (.tup xs)) : isTupB H (.ref a) = true := by
  simp only [isTupB, e]
def ShAt (H : Hp) (x : V) : Option (List V) → Prop
  | some xs => ∃ a, x = .ref a ∧ H a = some (.tup xs) ∧ ∀ v ∈ xs, Typed H v
  | none => Typed H x ∧ isTupB H x = false
theorem ShAt.same {H2 : Hp} {x : V} {sh : Option (List V)} (h : ShAt H x sh) (s : Same H H2) : ShAt H2 x sh := by
  cases sh with
  | some xs =>
    obtain ⟨a, e, t, k⟩ := h
    exact ⟨a, e, s _ _ t, fun v hv => (k v hv).same s⟩
  | none =>
    obtain ⟨k, z⟩ := h
    refine ⟨k.same s, ?_⟩
    cases k with
    | non => rfl
    | bl b => rfl
    | int i => rfl
    | str x => rfl
    | @tup a xs e => rw [isTupB_tup e] at z; cases z
    | lst e => simp only [isTupB, s _ _ e]
    | dic e => simp only [isTupB, s _ _ e]
def numB : V → Int → Int → Bool
  | .int i, lo, hi => decide (lo ≤ i) && decide (i ≤ hi)
  | _, _, _ => false
end
end My

namespace My
open PySem PySem.Spec PyProof.Rows L2
def ModT (K : PySem.W.Frag) (a : Addr) (D : List (Str × V)) : Prop := (a == sysModules) = false ∧ ∃ o es ep, K.lookup a = some o ∧ o.ExactDict ∧ o.data = .dict es ep ∧ KTD.Rows (fun x v => RelV x v) es.toList D
section
variable {prog : Program} {w : World} {A : Around} {E : Value → Shared → Prop} {s : Shared} {a : Addr} {D : List (Str × V)} {k : Str} {tk : Tok} {K : PySem.W.Frag}
theorem ModT.typeIs (T : ModT K a D) (X : K.In s.heap) : s.TypeIs (.ref a) "dict" := let ⟨_, o, _, _, ho, hc, _⟩ := T; ⟨o, X _ _ ho, hc.1⟩
theorem dictGet_mod {Q : Option Value → Shared → Prop} (T : ModT K a D) (X : K.In s.heap) (h1 : ∀ x v, KTD.datumAt k D = some x → RelV x v → Q (some v) { s with toks := s.toks + 1 }) (h2 : KTD.datumAt k D = none → Q none { s with toks := s.toks + 1 }) :
    wpAny (model prog w) A (dictGet a (.str k tk)) Q E s := by
  obtain ⟨_, o, es, ep, ho, hc, hd, hr⟩ := T
  have ho := X _ _ ho
  unfold dictGet
  try with_reducible refine wpAny_holding ?_
  refine wpAny_bind (wpAny_pyHash_str (wpAny_bind (KTD.kt_dictFind_strs (s := { s with toks := s.toks + 1 }) ho hd (by obtain ⟨l⟩ := es; simpa using hr.exact) ?_)))
  have hq : Q (findBy (fun k v => v.isStr k) es k) { s with toks := s.toks + 1 } := by
    have hf : findBy (fun k v => v.isStr k) es k = (es.toList.find? fun e => e.key.isStr k).map (·.val) := by
      obtain ⟨l⟩ := es
      simp [findBy]
    rw [hf]
    cases hat : KTD.datumAt k D with
    | some d => obtain ⟨v, hv, hfl⟩ := hr.find_some hat; rw [hv]; exact h1 d v hat hfl
    | none => rw [hr.find_none hat]; exact h2 hat
  rw [findBy_of_findIdx?] at hq
  cases hi : es.findIdx? fun e => e.key.isStr k with
  | none => rw [hi] at hq; exact wpAny_pure hq
  | some i => rw [hi] at hq; exact wpAny_bind (wpAny_dictEntries (s := { s with toks := s.toks + 1 }) ho hd (wpAny_pure hq))
theorem item_mod {Q : Value → Shared → Prop} {x : V} (T : ModT K a D) (X : K.In s.heap) (hx : KTD.datumAt k D = some x) (h : ∀ v, RelV x v → Q v { s with toks := s.toks + 1 }) :
    wpAny (model prog w) A (getItem (.ref a) (.str k tk)) Q E s := by
  unfold getItem
  try with_reducible refine wpAny_holding ?_
  refine wpAny_bind (wpAny_sequenceKey (T.typeIs X) (by decide) ?_)
  refine wpAny_bind (wpAny_callSpecial?_slot (name := Str.ofString "__getitem__") (T.typeIs X) F.slot_dict_getitem
    (wpAny_call_entry F.slot_dict_getitem (T.typeIs X) F.entry_dict_getitem ?_ (F.args_dict_getitem_2 _ _)))
  show wpAny _ _ (dictGet a (.str k tk) >>= _) _ _ s
  exact wpAny_bind (dictGet_mod T X (fun d v ha hv => wpAny_pure ⟨v, rfl, wpAny_pure (h v (by rw [hx] at ha; cases ha; exact hv))⟩) fun hn => by rw [hx] at hn; cases hn)
end
def tMGet (K : PySem.W.Frag) (td ty : TE) : TE := fun σ H Q => td σ H fun x H1 => ty σ H1 fun y H2 => ∃ a k D v, x = .ref a ∧ y = .str k ∧ ModT K a D ∧ KTD.datumAt k D = some v ∧ Q v H2
section
variable {X : Cx} {o i : Expr} {pos : Pos} {td ty : TE} {K : PySem.W.Frag}
theorem peMGet (hK : X.K = K) (ho : PE X o td) (hi : PE X i ty) (hs : NoSl i) : PE X (.Subscript o i pos) (tMGet K td ty) := by
  subst hK
  intro pins s σ H Q I h
  refine subD_of PySem.F.slot_dict_getitem.lookup hs (thn (ho pins s σ H _ I h) fun u s1 ⟨x, H1, I1, rx, q1⟩ => thn (hi pins s1 σ H1 _ I1 q1) fun iv s2 ⟨y, H2, I2, ry, a, k, D, v, ex, ey, hD, hv, q2⟩ => ?_)
  subst ex ey
  obtain rfl : u = Value.ref a := rx
  obtain ⟨tk, rfl⟩ : ∃ t, iv = Value.str k t := ry
  exact ⟨hD.typeIs I2.kIn, item_mod hD I2.kIn hv fun v' rv => ⟨v, H2, I2.tok _, rv, q2⟩⟩
end
def repS (s : Str) (n : Int) : Str := ⟨(List.replicate n.toNat s.cps).foldl (· ++ ·) #[]⟩
theorem repS_one (s : Str) : repS s 1 = s := by
  show (⟨(List.replicate 1 s.cps).foldl (· ++ ·) #[]⟩ : Str) = s
  simp
theorem rep_size (c : Array Nat) : ∀ (n : Nat) (acc : Array Nat), ((List.replicate n c).foldl (· ++ ·) acc).size = acc.size + n * c.size
  | 0, acc => by simp
  | n + 1, acc => by
    rw [List.replicate_succ, List.foldl_cons, rep_size c n (acc ++ c), Array.size_append, Nat.succ_mul]
    omega
def rMulS : R2 := fun x y H Q => ∃ s n, x = .str s ∧ y = .int n ∧ s.length = 1 ∧ (1 ≤ n ∧ n ≤ 1000) ∧ Q (.str (repS s n)) H
section
variable {X : Cx}
theorem opMulS : OpR X (binaryOp .Mult) rMulS := by
  intro pins s σ H x y v u Q I rx ry h
  obtain ⟨st, n, rfl, rfl, hl, hn, q⟩ := h
  obtain ⟨t, rfl⟩ : ∃ t, v = Value.str st t := rx
  obtain ⟨t2, rfl⟩ : ∃ t, u = Value.int n t := ry
  refine PySem.P.mul_str ?_ (fun _ _ => ?_) (fun _ _ => ?_) ?_
  · rw [decide_eq_false (by omega), decide_eq_false (by omega)]
    rfl
  · rw [hl]
    have z : (1 : Int) ≤ (2 ^ 63 - 1) / n := by
      refine Int.le_ediv_of_mul_le (by omega) (by omega)
    omega
  · rw [hl]
    unfold Builtin.Str.tooLong
    have z : 1 * n.toNat < sizeLine := small1000 (by omega)
    exact decide_eq_false (by omega)
  · rw [if_neg (by omega)]
    by_cases c : n = 1
    · subst c
      rw [if_pos (by simp)]
      rw [repS_one] at q
      exact ⟨.str st, H, I, ⟨t, rfl⟩, q⟩
    · rw [if_neg (by simp [c, hl])]
      refine ⟨?_, ?_⟩
      · show (List.foldl (fun x1 x2 => x1 ++ x2) #[] (List.replicate n.toNat st.cps)).size ≤ sizeLine
        rw [rep_size]
        have hl2 : st.cps.size = 1 := hl
        rw [hl2]
        exact Nat.le_of_lt (small1000 (by simp; omega))
      · exact ⟨.str (repS st n), H, I.tok _, ⟨_, rfl⟩, q⟩
end
end My

namespace My
open PySem PySem.Spec PyProof.Rows L2
end My

namespace My
open PySem PySem.Spec PyProof.Rows L2
end My

namespace My
open PySem PySem.Spec L2
end My

namespace My
open PySem PySem.Spec PyProof.Rows L2
section
variable {σ : L2.St} {H : Hp} {D : Ends} {Q : VK}
theorem dec_str (a b : Str) : decide (V.str a = V.str b) = decide (a = b) := by
  by_cases h : a = b
  · rw [h]; simp
  · rw [decide_eq_false h, decide_eq_false fun e => h (by injection e)]
end
end My

namespace My
open PySem PySem.Spec PyProof.Rows L2
end My

namespace Pu
open PySem PySem.Spec PyProof.Rows L2 My
inductive PV where
  | non | bl (b : Bool) | int (i : Int) | str (x : Str) | tup (xs : List PV) | ref (i : Nat) | ty (n : String) | gl (x : Str)
inductive PO where
  | lst (xs : List PV) | fro (xs : List PV) | dic (ks : List Key) (xs : List PV) | dit (ks : List (List Key)) (xs : List PV) | ins (c : Str) (fs : List (Str × PV))
abbrev Sto := List PO
inductive R (α : Type) where
  | ok (a : α) (st : Sto) | exc (c : Str) (st : Sto) | bad
@[inline] def R.bind {α β : Type} (r : R α) (f : α → Sto → R β) : R β := match r with
  | .ok a st => f a st
  | .exc c st => .exc c st
  | .bad => .bad
theorem bind_ok {α β : Type} (a : α) (st : Sto) (f : α → Sto → R β) : (R.ok a st).bind f = f a st := rfl
structure Gx where
  K : PySem.W.Frag
  mg : Str → Option Value
  tabs : List Addr
mutual
def Rep (G : Gx) (ι : List Addr) (H : Hp) : PV → V → Prop
  | .non, v => v = .non
  | .bl b, v => v = .bl b
  | .int i, v => v = .int i
  | .str x, v => v = .str x
  | .tup xs, v => ∃ a vs, v = .ref a ∧ SqT G.K H a vs ∧ RepL G ι H xs vs
  | .ref i, v => ∃ a, ι[i]? = some a ∧ v = .ref a
  | .ty n, v => v = .ty n
  | .gl x, v => ∃ a, G.mg x = some (.ref a) ∧ v = .ref a
def RepL (G : Gx) (ι : List Addr) (H : Hp) : List PV → List V → Prop
  | [], vs => vs = []
  | x :: xs, vs => ∃ v r, vs = v :: r ∧ Rep G ι H x v ∧ RepL G ι H xs r
end
def OR (G : Gx) (ι : List Addr) (H : Hp) : PO → Addr → Prop
  | .lst xs, a => ∃ vs, H a = some (.lst vs) ∧ RepL G ι H xs vs
  | .fro xs, a => ∃ vs, Rd H a (.lst vs) ∧ RepL G ι H xs vs
  | .dic ks xs, a => ∃ vs, H a = some (.dK (ks.zip vs)) ∧ RepL G ι H xs vs ∧ ks.length = xs.length
  | .dit ks xs, a => ∃ vs, H a = some (.dT (ks.zip vs)) ∧ RepL G ι H xs vs ∧ ks.length = xs.length
  | .ins _ _, _ => False
structure SR (G : Gx) (ι : List Addr) (H : Hp) (st : Sto) : Prop where
  len : ι.length = st.length
  nd : ι.Nodup
  ob : ∀ (i : Nat) (a : Addr) (o : PO), ι[i]? = some a → st[i]? = some o → OR G ι H o a
  tab : ∀ a ∈ G.tabs, H a = some (tabO a) ∧ a ∉ ι
structure Ext (ι : List Addr) (H : Hp) (ι' : List Addr) (H' : Hp) : Prop where
  pre : ∃ t, ι' = ι ++ t
  keep : ∀ a u, H a = some u → a ∉ ι → H' a = some u ∧ a ∉ ι'
theorem Ext.refl {ι : List Addr} {H : Hp} : Ext ι H ι H := ⟨⟨[], by simp⟩, fun _ _ h n => ⟨h, n⟩⟩
theorem Ext.trans {ι ι1 ι2 : List Addr} {H H1 H2 : Hp} (a : Ext ι H ι1 H1) (b : Ext ι1 H1 ι2 H2) : Ext ι H ι2 H2 := by
  obtain ⟨t, e⟩ := a.pre
  obtain ⟨u, f⟩ := b.pre
  exact ⟨⟨t ++ u, by rw [f, e, List.append_assoc]⟩, fun x o h n => let ⟨h1, n1⟩ := a.keep x o h n; b.keep x o h1 n1⟩
theorem Ext.get {ι ι1 : List Addr} {H H1 : Hp} (a : Ext ι H ι1 H1) {i : Nat} {x : Addr} (h : ι[i]? = some x) : ι1[i]? = some x := by
  obtain ⟨t, e⟩ := a.pre
  rw [e, List.getElem?_append_left (List.getElem?_eq_some_iff.mp h).1, h]
section
variable {G : Gx} {ι ι1 : List Addr} {H H1 : Hp} {st st1 : Sto}
theorem SR.get (s : SR G ι H st) {a : Addr} (h : a ∈ ι) : ∃ (i : Nat) (o : PO), ι[i]? = some a ∧ st[i]? = some o ∧ OR G ι H o a := by
  obtain ⟨i, hi, e⟩ := List.getElem_of_mem h
  have hi2 : i < st.length := by rw [← s.len]; exact hi
  have e1 : ι[i]? = some a := by rw [List.getElem?_eq_getElem hi, e]
  have e2 : st[i]? = some st[i] := List.getElem?_eq_getElem hi2
  exact ⟨i, _, e1, e2, s.ob i a _ e1 e2⟩
theorem SR.notT (s : SR G ι H st) {a : Addr} {vs : List V} (h : H a = some (.tup vs)) : a ∉ ι := fun m => by
  obtain ⟨i, o, _, _, q⟩ := s.get m
  cases o with
  | lst xs => obtain ⟨ws, e, _⟩ := q; rw [h] at e; cases e
  | fro xs =>
    obtain ⟨ws, e, _⟩ := q
    rcases e with e | ⟨o, e⟩
    · rw [h] at e; cases e
    · rw [h] at e; cases e
  | dic _ _ => obtain ⟨ws, e, _⟩ := q; rw [h] at e; cases e
  | dit _ _ => obtain ⟨ws, e, _⟩ := q; rw [h] at e; cases e
  | ins _ _ => exact q
theorem SR.notF (s : SR G ι H st) {a : Addr} {vs : List V} {ob : Obj} (h : H a = some (.frz ob (.tup vs))) : a ∉ ι := fun m => by
  obtain ⟨i, o, _, _, q⟩ := s.get m
  cases o with
  | lst xs => obtain ⟨ws, e, _⟩ := q; rw [h] at e; cases e
  | fro xs =>
    obtain ⟨ws, e, _⟩ := q
    rcases e with e | ⟨o, e⟩
    · rw [h] at e; cases e
    · rw [h] at e; cases e
  | dic _ _ => obtain ⟨ws, e, _⟩ := q; rw [h] at e; cases e
  | dit _ _ => obtain ⟨ws, e, _⟩ := q; rw [h] at e; cases e
  | ins _ _ => exact q
theorem OR.some {o : PO} {a : Addr} (h : OR G ι H o a) : H a ≠ none := by
  cases o with
  | lst xs => obtain ⟨ws, e, _⟩ := h; rw [e]; nofun
  | fro xs =>
    obtain ⟨ws, e, _⟩ := h
    rcases e with e | ⟨o, e⟩
    · rw [e]; nofun
    · rw [e]; nofun
  | dic _ _ => obtain ⟨ws, e, _⟩ := h; rw [e]; nofun
  | dit _ _ => obtain ⟨ws, e, _⟩ := h; rw [e]; nofun
  | ins _ _ => exact h.elim
theorem SR.fresh (s : SR G ι H st) {p : Addr} (hp : H p = none) : p ∉ ι := fun m => by
  obtain ⟨i, o, _, _, q⟩ := s.get m
  exact q.some hp
theorem SqT.ext (s : SR G ι H st) (x : Ext ι H ι1 H1) {a : Addr} {vs : List V} (h : SqT G.K H a vs) : SqT G.K H1 a vs := by
  rcases h with (h | ⟨o, h⟩) | h
  · exact .inl (.inl (x.keep _ _ h (s.notT h)).1)
  · exact .inl (.inr ⟨o, (x.keep _ _ h (s.notF h)).1⟩)
  · exact .inr h
mutual
theorem Rep.ext (s : SR G ι H st) (x : Ext ι H ι1 H1) : ∀ {pv : PV} {v : V}, Rep G ι H pv v → Rep G ι1 H1 pv v
  | .non, v, h => h
  | .bl b, v, h => h
  | .int i, v, h => h
  | .str _, v, h => h
  | .tup xs, v, h => by
    obtain ⟨a, vs, e, h1, h2⟩ := h
    exact ⟨a, vs, e, SqT.ext s x h1, RepL.ext s x h2⟩
  | .ref i, v, h => by
    obtain ⟨a, e, h1⟩ := h
    exact ⟨a, x.get e, h1⟩
  | .ty n, v, h => h
  | .gl n, v, h => h
theorem RepL.ext (s : SR G ι H st) (x : Ext ι H ι1 H1) : ∀ {ps : List PV} {vs : List V}, RepL G ι H ps vs → RepL G ι1 H1 ps vs
  | [], vs, h => h
  | p :: ps, vs, h => by
    obtain ⟨v, r, e, h1, h2⟩ := h
    exact ⟨v, r, e, Rep.ext s x h1, RepL.ext s x h2⟩
end
theorem RepL.length : ∀ {ps : List PV} {vs : List V}, RepL G ι H ps vs → ps.length = vs.length
  | [], vs, h => by rw [show vs = [] from h]; rfl
  | p :: ps, vs, h => by
    obtain ⟨v, r, rfl, _, h2⟩ := h
    rw [List.length_cons, List.length_cons, RepL.length h2]
theorem RepL.get : ∀ {ps : List PV} {vs : List V} {i : Nat} {p : PV}, RepL G ι H ps vs → ps[i]? = some p → ∃ v, vs[i]? = some v ∧ Rep G ι H p v
  | [], _, _, _, _, e => by simp at e
  | q :: ps, vs, 0, p, h, e => by
    obtain ⟨v, r, rfl, h1, h2⟩ := h
    simp at e; subst e
    exact ⟨v, rfl, h1⟩
  | q :: ps, vs, i + 1, p, h, e => by
    obtain ⟨v, r, rfl, h1, h2⟩ := h
    obtain ⟨u, h3, h4⟩ := RepL.get (i := i) (p := p) h2 (by simpa using e)
    exact ⟨u, by simpa using h3, h4⟩
theorem RepL.append : ∀ {ps qs : List PV} {vs us : List V}, RepL G ι H ps vs → RepL G ι H qs us → RepL G ι H (ps ++ qs) (vs ++ us)
  | [], _, _, _, h, g => by rw [show _ = [] from h]; exact g
  | p :: ps, qs, vs, us, h, g => by
    obtain ⟨v, r, rfl, h1, h2⟩ := h
    exact ⟨v, r ++ us, rfl, h1, RepL.append h2 g⟩
theorem RepL.drop : ∀ {ps : List PV} {vs : List V} (n : Nat), RepL G ι H ps vs → RepL G ι H (ps.drop n) (vs.drop n)
  | _, _, 0, h => h
  | [], vs, n + 1, h => by rw [show vs = [] from h]; rfl
  | p :: ps, vs, n + 1, h => by
    obtain ⟨v, r, rfl, h1, h2⟩ := h
    exact RepL.drop n h2
theorem RepL.take : ∀ {ps : List PV} {vs : List V} (n : Nat), RepL G ι H ps vs → RepL G ι H (ps.take n) (vs.take n)
  | _, _, 0, h => rfl
  | [], vs, n + 1, h => by rw [show vs = [] from h]; rfl
  | p :: ps, vs, n + 1, h => by
    obtain ⟨v, r, rfl, h1, h2⟩ := h
    exact ⟨v, r.take n, rfl, h1, RepL.take n h2⟩
theorem RepL.set {p : PV} {v : V} (hp : Rep G ι H p v) : ∀ {ps : List PV} {vs : List V} (n : Nat), RepL G ι H ps vs → RepL G ι H (ps.set n p) (vs.set n v)
  | [], vs, n, h => by rw [show vs = [] from h]; rfl
  | q :: ps, vs, 0, h => by
    obtain ⟨u, r, rfl, h1, h2⟩ := h
    exact ⟨v, r, rfl, hp, h2⟩
  | q :: ps, vs, n + 1, h => by
    obtain ⟨u, r, rfl, h1, h2⟩ := h
    exact ⟨u, r.set n v, rfl, h1, RepL.set hp n h2⟩
theorem RepL.reverse : ∀ {ps : List PV} {vs : List V}, RepL G ι H ps vs → RepL G ι H ps.reverse vs.reverse
  | [], vs, h => by rw [show vs = [] from h]; rfl
  | p :: ps, vs, h => by
    obtain ⟨v, r, rfl, h1, h2⟩ := h
    rw [List.reverse_cons, List.reverse_cons]
    exact RepL.append (RepL.reverse h2) ⟨v, [], rfl, h1, rfl⟩
end
def Ok (G : Gx) (E : XK) (ι : List Addr) (H : Hp) {α : Type} (r : R α) (P : α → Sto → List Addr → Hp → Prop) : Prop := match r with
  | .ok a st' => ∀ ι' H', Ext ι H ι' H' → SR G ι' H' st' → P a st' ι' H'
  | .exc c st' => ∃ u, G.mg c = some u ∧ ∀ d ι' H', Ext ι H ι' H' → SR G ι' H' st' → E u d H'
  | .bad => False
section
variable {G : Gx} {E : XK} {ι ι1 : List Addr} {H H1 : Hp} {st : Sto} {α β : Type} {r : R α} {P P' : α → Sto → List Addr → Hp → Prop}
theorem Ok.ext (x : Ext ι H ι1 H1) (h : Ok G E ι H r P) : Ok G E ι1 H1 r P := by
  cases r with
  | ok a st' => exact fun ι' H' y s => h ι' H' (x.trans y) s
  | exc c st' =>
    obtain ⟨u, e, h⟩ := h
    exact ⟨u, e, fun d ι' H' y s => h d ι' H' (x.trans y) s⟩
  | bad => exact h
theorem Ok.bind {f : α → Sto → R β} {P : β → Sto → List Addr → Hp → Prop} (h : Ok G E ι H (r.bind f) P) : Ok G E ι H r (fun a st1 ι1 H1 => Ok G E ι1 H1 (f a st1) P) := by
  cases r with
  | ok a st' => exact fun ι' H' y s => Ok.ext y h
  | exc c st' => exact h
  | bad => exact h
theorem Ok.mono (h : Ok G E ι H r P) (m : ∀ a st' ι' H', Ext ι H ι' H' → SR G ι' H' st' → P a st' ι' H' → P' a st' ι' H') : Ok G E ι H r P' := by
  cases r with
  | ok a st' => exact fun ι' H' y s => m a st' ι' H' y s (h ι' H' y s)
  | exc c st' => exact h
  | bad => exact h
theorem Ok.here {a : α} (s : SR G ι H st) (h : Ok G E ι H (.ok a st) P) : P a st ι H := h ι H Ext.refl s
end
abbrev Env := List (Option PV)
structure ER (G : Gx) (ι : List Addr) (H : Hp) (ρ : Env) (σ : L2.St) : Prop where
  len : ρ.length = σ.length
  at' : ∀ (i : Nat) (p : PV), ρ[i]? = some (some p) → ∃ v, σ[i]? = some (some v) ∧ Rep G ι H p v
section
variable {G : Gx} {ι ι1 : List Addr} {H H1 : Hp} {st : Sto} {ρ : Env} {σ : L2.St}
theorem ER.ext (s : SR G ι H st) (x : Ext ι H ι1 H1) (e : ER G ι H ρ σ) : ER G ι1 H1 ρ σ := ⟨e.len, fun i p h => let ⟨v, h1, h2⟩ := e.at' i p h; ⟨v, h1, h2.ext s x⟩⟩
theorem ER.set (e : ER G ι H ρ σ) {i : Nat} {p : PV} {v : V} (h : Rep G ι H p v) : ER G ι H (ρ.set i (some p)) (σ.set i (some v)) := by
  refine ⟨by rw [List.length_set, List.length_set]; exact e.len, fun j q hq => ?_⟩
  rw [List.getElem?_set] at hq ⊢
  by_cases c : i = j
  · rw [if_pos c] at hq ⊢
    by_cases z : i < ρ.length
    · rw [if_pos z] at hq
      rw [if_pos (by rw [← e.len]; exact z)]
      cases hq
      exact ⟨v, rfl, h⟩
    · rw [if_neg z] at hq
      cases hq
  · rw [if_neg c] at hq ⊢
    exact e.at' j q hq
theorem ER.none (e : ER G ι H ρ σ) (i : Nat) : ER G ι H (ρ.set i none) (σ.set i none) := by
  refine ⟨by rw [List.length_set, List.length_set]; exact e.len, fun j q hq => ?_⟩
  rw [List.getElem?_set] at hq ⊢
  by_cases c : i = j
  · rw [if_pos c] at hq
    split at hq <;> cases hq
  · rw [if_neg c] at hq ⊢
    exact e.at' j q hq
end
abbrev ME := Env → Sto → R PV
abbrev MT := Env → Sto → R Bool
abbrev MA := Env → Sto → R (List PV)
inductive SO where
  | nx (ρ : Env) | rt (v : PV) | bk (ρ : Env) | ct (ρ : Env)
abbrev MS := Env → Sto → R SO
def QV (G : Gx) (Q : VK) : PV → Sto → List Addr → Hp → Prop := fun pv _ ι H => ∀ v, Rep G ι H pv v → Q v H
def QL (G : Gx) (Q : List V → Hp → Prop) : List PV → Sto → List Addr → Hp → Prop := fun ps _ ι H => ∀ vs, RepL G ι H ps vs → Q vs H
def QB (Q : Bool → Hp → Prop) : Bool → Sto → List Addr → Hp → Prop := fun b _ _ H => Q b H
def QS (G : Gx) (D : Ends) : SO → Sto → List Addr → Hp → Prop := fun so _ ι H => match so with
  | .nx ρ => ∀ σ, ER G ι H ρ σ → D.nx σ H
  | .rt p => ∀ v, Rep G ι H p v → D.rt v H
  | .bk ρ => ∀ σ, ER G ι H ρ σ → D.bk σ H
  | .ct ρ => ∀ σ, ER G ι H ρ σ → D.ct σ H
def SE (G : Gx) (E : XK) (t : TE) (m : ME) : Prop := ∀ ρ σ st ι H Q, SR G ι H st → ER G ι H ρ σ → Ok G E ι H (m ρ st) (QV G Q) → t σ H Q
def ST (G : Gx) (E : XK) (t : TT) (m : MT) : Prop := ∀ ρ σ st ι H Q, SR G ι H st → ER G ι H ρ σ → Ok G E ι H (m ρ st) (QB Q) → t σ H Q
def SA (G : Gx) (E : XK) (t : TA) (m : MA) : Prop := ∀ ρ σ st ι H Q, SR G ι H st → ER G ι H ρ σ → Ok G E ι H (m ρ st) (QL G Q) → t σ H Q
def SS (G : Gx) (E : XK) (t : TS) (m : MS) : Prop := ∀ ρ σ st ι H D, SR G ι H st → ER G ι H ρ σ → Ok G E ι H (m ρ st) (QS G D) → t D σ H
def S1 (G : Gx) (E : XK) (r : V → Hp → VK → Prop) (f : PV → Sto → R PV) : Prop := ∀ p x st ι H Q, SR G ι H st → Rep G ι H p x → Ok G E ι H (f p st) (QV G Q) → r x H Q
def S2 (G : Gx) (E : XK) (r : R2) (f : PV → PV → Sto → R PV) : Prop := ∀ p q x y st ι H Q, SR G ι H st → Rep G ι H p x → Rep G ι H q y → Ok G E ι H (f p q st) (QV G Q) → r x y H Q
def SC (G : Gx) (E : XK) (r : List V → Hp → VK → Prop) (f : List PV → Sto → R PV) : Prop := ∀ ps xs st ι H Q, SR G ι H st → RepL G ι H ps xs → Ok G E ι H (f ps st) (QV G Q) → r xs H Q
def SM (G : Gx) (E : XK) (r : V → List V → Hp → VK → Prop) (f : PV → List PV → Sto → R PV) : Prop := ∀ p ps x xs st ι H Q, SR G ι H st → Rep G ι H p x → RepL G ι H ps xs → Ok G E ι H (f p ps st) (QV G Q) → r x xs H Q
def eVar (i : Nat) : ME := fun ρ st => match ρ[i]? with
  | some (some p) => .ok p st
  | _ => .bad
def eC (p : PV) : ME := fun _ st => .ok p st
def e1 (f : PV → Sto → R PV) (a : ME) : ME := fun ρ st => (a ρ st).bind fun p st => f p st
def e2 (f : PV → PV → Sto → R PV) (a b : ME) : ME := fun ρ st => (a ρ st).bind fun p st => (b ρ st).bind fun q st => f p q st
def tOf (a : ME) : MT := fun ρ st => (a ρ st).bind fun p st => match p with
  | .bl b => .ok b st
  | _ => .bad
def tAndP (a b : MT) : MT := fun ρ st => (a ρ st).bind fun c st => if c = true then b ρ st else .ok false st
def tOrP (a b : MT) : MT := fun ρ st => (a ρ st).bind fun c st => if c = true then .ok true st else b ρ st
def tNotP (a : MT) : MT := fun ρ st => (a ρ st).bind fun c st => .ok (!c) st
def eAnd (a b : ME) : ME := fun ρ st => (a ρ st).bind fun p st => match p with
  | .bl c => if c = true then b ρ st else .ok (.bl false) st
  | _ => .bad
def eOr (a b : ME) : ME := fun ρ st => (a ρ st).bind fun p st => match p with
  | .bl c => if c = true then .ok (.bl true) st else b ρ st
  | _ => .bad
def eNot (a : ME) : ME := fun ρ st => (a ρ st).bind fun p st => match p with
  | .bl c => .ok (.bl (!c)) st
  | _ => .bad
def eIf (t : MT) (a b : ME) : ME := fun ρ st => (t ρ st).bind fun c st => if c = true then a ρ st else b ρ st
def eChain (f g : PV → PV → Sto → R PV) (a b c : ME) : ME := fun ρ st => (a ρ st).bind fun p st => (b ρ st).bind fun q st => (f p q st).bind fun z st => match z with
  | .bl k => if k = true then (c ρ st).bind fun w st => g q w st else .ok (.bl false) st
  | _ => .bad
def aNil : MA := fun _ st => .ok [] st
def aCons (a : ME) (b : MA) : MA := fun ρ st => (a ρ st).bind fun p st => (b ρ st).bind fun ps st => .ok (p :: ps) st
def eTup (a : MA) : ME := fun ρ st => (a ρ st).bind fun ps st => if ps.length ≤ 100000 then .ok (.tup ps) st else .bad
def new (o : PO) (st : Sto) : R PV := .ok (.ref st.length) (st ++ [o])
def eLst (a : MA) : ME := fun ρ st => (a ρ st).bind fun ps st => if ps.length ≤ 100000 then new (.lst ps) st else .bad
def eB (f : List PV → Sto → R PV) (a : MA) : ME := fun ρ st => (a ρ st).bind fun ps st => f ps st
def sNext : MS := fun ρ st => .ok (.nx ρ) st
def sRet (a : ME) : MS := fun ρ st => (a ρ st).bind fun p st => .ok (.rt p) st
def sRetN : MS := fun _ st => .ok (.rt .non) st
def sDrop (a : ME) : MS := fun ρ st => (a ρ st).bind fun _ st => .ok (.nx ρ) st
def sSeq (a b : MS) : MS := fun ρ st => (a ρ st).bind fun so st => match so with
  | .nx ρ => b ρ st
  | so => .ok so st
def sIf (c : MT) (a b : MS) : MS := fun ρ st => (c ρ st).bind fun b' st => if b' = true then a ρ st else b ρ st
def sBreak : MS := fun ρ st => .ok (.bk ρ) st
section
variable {G : Gx} {E : XK} {ta tb tc : TE} {a b c : ME} {tA tB' : TT} {mA mB : MT}
theorem se_var {i : Nat} : SE G E (tVar i) (eVar i) := by
  intro ρ σ st ι H Q s e h
  unfold eVar at h
  split at h
  · rename_i p hp
    obtain ⟨v, h1, h2⟩ := e.at' i p hp
    exact ⟨v, h1, h.here s v h2⟩
  · exact h.elim
theorem se_c {p : PV} {v : V} (r : ∀ ι H, Rep G ι H p v) : SE G E (tC v) (eC p) := by
  intro ρ σ st ι H Q s e h
  exact h.here s v (r ι H)
theorem se_op {r : R2} {f : PV → PV → Sto → R PV} (hr : S2 G E r f) (ha : SE G E ta a) (hb : SE G E tb b) : SE G E (tOp r ta tb) (e2 f a b) := by
  intro ρ σ st ι H Q s e h
  refine ha ρ σ st ι H _ s e (h.bind.mono fun p st1 ι1 H1 x1 s1 h1 v hv => ?_)
  refine hb ρ σ st1 ι1 H1 _ s1 (e.ext s x1) (h1.bind.mono fun q st2 ι2 H2 x2 s2 h2 u hu => ?_)
  exact hr p q v u st2 ι2 H2 Q s2 (hv.ext s1 x2) hu h2
theorem se_un {r : V → Hp → VK → Prop} {f : PV → Sto → R PV} (hr : S1 G E r f) (ha : SE G E ta a) : SE G E (tUn r ta) (e1 f a) := by
  intro ρ σ st ι H Q s e h
  exact ha ρ σ st ι H _ s e (h.bind.mono fun p st1 ι1 H1 x1 s1 h1 v hv => hr p v st1 ι1 H1 Q s1 hv h1)
theorem ok_bl {p : PV} {st : Sto} {ι : List Addr} {H : Hp} {v : V} {β : Type} {P : β → Sto → List Addr → Hp → Prop} {f : Bool → Sto → R β} (hv : Rep G ι H p v) (h : Ok G E ι H (match p with | .bl b => f b st | _ => .bad) P) : ∃ k, v = .bl k ∧ Ok G E ι H (f k st) P := by
  cases p with
  | bl k => exact ⟨k, hv, h⟩
  | _ => exact h.elim
theorem st_of (ha : SE G E ta a) : ST G E (tB ta) (tOf a) := by
  intro ρ σ st ι H Q s e h
  refine ha ρ σ st ι H _ s e (h.bind.mono fun p st1 ι1 H1 x1 s1 h1 v hv => ?_)
  obtain ⟨k, e, h2⟩ := ok_bl (f := fun b st => .ok b st) hv h1
  exact ⟨k, e, h2.here s1⟩
theorem st_test (ha : SE G E ta a) : ST G E (tTest ta) (tOf a) := st_of ha
theorem st_and (ha : ST G E tA mA) (hb : ST G E tB' mB) : ST G E (tAnd tA tB') (tAndP mA mB) := by
  intro ρ σ st ι H Q s e h
  refine ha ρ σ st ι H _ s e (h.bind.mono fun c st1 ι1 H1 x1 s1 h1 => ?_)
  show if c = true then tB' σ H1 Q else Q false H1
  by_cases hc : c = true
  · rw [if_pos hc] at h1 ⊢
    exact hb ρ σ st1 ι1 H1 Q s1 (e.ext s x1) h1
  · rw [if_neg hc] at h1 ⊢
    exact h1.here s1
theorem st_or (ha : ST G E tA mA) (hb : ST G E tB' mB) : ST G E (tOr tA tB') (tOrP mA mB) := by
  intro ρ σ st ι H Q s e h
  refine ha ρ σ st ι H _ s e (h.bind.mono fun c st1 ι1 H1 x1 s1 h1 => ?_)
  show if c = true then Q true H1 else tB' σ H1 Q
  by_cases hc : c = true
  · rw [if_pos hc] at h1 ⊢
    exact h1.here s1
  · rw [if_neg hc] at h1 ⊢
    exact hb ρ σ st1 ι1 H1 Q s1 (e.ext s x1) h1
theorem st_not (ha : ST G E tA mA) : ST G E (tNot tA) (tNotP mA) := by
  intro ρ σ st ι H Q s e h
  refine ha ρ σ st ι H _ s e (h.bind.mono fun c st1 ι1 H1 x1 s1 h1 => ?_)
  exact (h1.here s1 : QB Q (!c) st1 ι1 H1)
theorem se_and (ha : SE G E ta a) (hb : SE G E tb b) : SE G E (tAndV ta tb) (eAnd a b) := by
  intro ρ σ st ι H Q s e h
  refine ha ρ σ st ι H _ s e (h.bind.mono fun p st1 ι1 H1 x1 s1 h1 v hv => ?_)
  obtain ⟨k, e', h2⟩ := ok_bl (f := fun c st => if c = true then b ρ st else .ok (.bl false) st) hv h1
  refine ⟨k, e', ?_⟩
  by_cases hc : k = true
  · rw [if_pos hc] at h2 ⊢
    exact hb ρ σ st1 ι1 H1 Q s1 (e.ext s x1) h2
  · rw [if_neg hc] at h2 ⊢
    exact h2.here s1 _ rfl
theorem se_or (ha : SE G E ta a) (hb : SE G E tb b) : SE G E (tOrV ta tb) (eOr a b) := by
  intro ρ σ st ι H Q s e h
  refine ha ρ σ st ι H _ s e (h.bind.mono fun p st1 ι1 H1 x1 s1 h1 v hv => ?_)
  obtain ⟨k, e', h2⟩ := ok_bl (f := fun c st => if c = true then .ok (.bl true) st else b ρ st) hv h1
  refine ⟨k, e', ?_⟩
  by_cases hc : k = true
  · rw [if_pos hc] at h2 ⊢
    exact h2.here s1 _ rfl
  · rw [if_neg hc] at h2 ⊢
    exact hb ρ σ st1 ι1 H1 Q s1 (e.ext s x1) h2
theorem se_not (ha : SE G E ta a) : SE G E (tNotV ta) (eNot a) := by
  intro ρ σ st ι H Q s e h
  refine ha ρ σ st ι H _ s e (h.bind.mono fun p st1 ι1 H1 x1 s1 h1 v hv => ?_)
  obtain ⟨k, e', h2⟩ := ok_bl (f := fun c st => R.ok (PV.bl (!c)) st) hv h1
  exact ⟨k, e', h2.here s1 _ rfl⟩
theorem se_chain {r r' : R2} {f g : PV → PV → Sto → R PV} (hf : S2 G E r f) (hg : S2 G E r' g) (ha : SE G E ta a) (hb : SE G E tb b) (hc : SE G E tc c) : SE G E (tChain r r' ta tb tc) (eChain f g a b c) := by
  intro ρ σ st ι H Q s e h
  refine ha ρ σ st ι H _ s e (h.bind.mono fun p st1 ι1 H1 x1 s1 h1 v hv => ?_)
  refine hb ρ σ st1 ι1 H1 _ s1 (e.ext s x1) (h1.bind.mono fun q st2 ι2 H2 x2 s2 h2 u hu => ?_)
  refine hf p q v u st2 ι2 H2 _ s2 (hv.ext s1 x2) hu (h2.bind.mono fun z st3 ι3 H3 x3 s3 h3 w hw => ?_)
  obtain ⟨k, e', h4⟩ := ok_bl (f := fun k st => if k = true then (c ρ st).bind fun w st => g q w st else .ok (.bl false) st) hw h3
  refine ⟨k, e', ?_⟩
  by_cases hk : k = true
  · rw [if_pos hk] at h4 ⊢
    refine hc ρ σ st3 ι3 H3 _ s3 (((e.ext s x1).ext s1 x2).ext s2 x3) (h4.bind.mono fun o st4 ι4 H4 x4 s4 h5 y hy => ?_)
    exact hg q o u y st4 ι4 H4 Q s4 ((hu.ext s2 x3).ext s3 x4) hy h5
  · rw [if_neg hk] at h4 ⊢
    exact h4.here s3 _ rfl
theorem sa_nil : SA G E tNil aNil := by
  intro ρ σ st ι H Q s e h
  exact h.here s [] rfl
theorem sa_cons {t : TA} {m : MA} (ha : SE G E ta a) (hb : SA G E t m) : SA G E (tCons ta t) (aCons a m) := by
  intro ρ σ st ι H Q s e h
  refine ha ρ σ st ι H _ s e (h.bind.mono fun p st1 ι1 H1 x1 s1 h1 v hv => ?_)
  refine hb ρ σ st1 ι1 H1 _ s1 (e.ext s x1) (h1.bind.mono fun ps st2 ι2 H2 x2 s2 h2 vs hvs => ?_)
  exact h2.here s2 _ ⟨v, vs, rfl, hv.ext s1 x2, hvs⟩
theorem line_le {n : Nat} (h : n ≤ 100000) : n ≤ sizeLine := Nat.le_trans h (by decide)
theorem ext_new {ι : List Addr} {H : Hp} {p : Addr} {o : HO} {st : Sto} (hp : H p = none) : Ext ι H ι (upd H p o) := ⟨⟨[], by simp⟩, fun a u h n => ⟨by rw [upd_ne (ne_of_none h hp)]; exact h, n⟩⟩
theorem sr_new {ι : List Addr} {H : Hp} {p : Addr} {vs : List V} {st : Sto} (s : SR G ι H st) (hp : H p = none) : SR G ι (upd H p (.tup vs)) st := by
  have np := s.fresh hp
  have x : Ext ι H ι (upd H p (.tup vs)) := ext_new (st := st) hp
  refine ⟨s.len, s.nd, fun i a o h1 h2 => ?_, fun a ha => ?_⟩
  · have na : a ≠ p := fun z => np (by rw [← z]; exact List.mem_of_getElem? h1)
    have q := s.ob i a o h1 h2
    cases o with
    | lst xs =>
      obtain ⟨ws, h3, h4⟩ := q
      exact ⟨ws, by rw [upd_ne na]; exact h3, h4.ext s x⟩
    | fro xs =>
      obtain ⟨ws, h3, h4⟩ := q
      refine ⟨ws, ?_, h4.ext s x⟩
      rcases h3 with h3 | ⟨o, h3⟩
      · exact .inl (by rw [upd_ne na]; exact h3)
      · exact .inr ⟨o, by rw [upd_ne na]; exact h3⟩
    | dic _ _ => obtain ⟨ws, h3, h4, h5⟩ := q; exact ⟨ws, by rw [upd_ne na]; exact h3, h4.ext s x, h5⟩
    | dit _ _ => obtain ⟨ws, h3, h4, h5⟩ := q; exact ⟨ws, by rw [upd_ne na]; exact h3, h4.ext s x, h5⟩
    | ins _ _ => exact q
  · obtain ⟨h1, h2⟩ := s.tab a ha
    exact ⟨(x.keep _ _ h1 h2).1, h2⟩
end
end Pu

namespace Pu
open PySem PySem.Spec PyProof.Rows L2 My
section
variable {G : Gx} {E : XK} {ι ι1 : List Addr} {H H1 : Hp} {st : Sto} {ta tb tc : TE} {a b c : ME} {t : TA} {m : MA} {ts tu : TS} {ms mu : MS} {tA : TT} {mA : MT}
theorem OR.ext (s : SR G ι H st) (x : Ext ι H ι1 H1) {o : PO} {a : Addr} (e : H1 a = H a) (h : OR G ι H o a) : OR G ι1 H1 o a := by
  cases o with
  | lst xs =>
    obtain ⟨vs, h1, h2⟩ := h
    exact ⟨vs, by rw [e]; exact h1, h2.ext s x⟩
  | fro xs =>
    obtain ⟨vs, h1, h2⟩ := h
    refine ⟨vs, ?_, h2.ext s x⟩
    rcases h1 with h1 | ⟨o, h1⟩
    · exact .inl (by rw [e]; exact h1)
    · exact .inr ⟨o, by rw [e]; exact h1⟩
  | dic _ _ => obtain ⟨vs, h1, h2, h3⟩ := h; exact ⟨vs, by rw [e]; exact h1, h2.ext s x, h3⟩
  | dit _ _ => obtain ⟨vs, h1, h2, h3⟩ := h; exact ⟨vs, by rw [e]; exact h1, h2.ext s x, h3⟩
  | ins _ _ => exact h
theorem push {p : Addr} {o : HO} {po : PO} (s : SR G ι H st) (hp : H p = none) (ho : ∀ H1, Ext ι H (ι ++ [p]) H1 → H1 p = some o → OR G (ι ++ [p]) H1 po p) :
    Ext ι H (ι ++ [p]) (upd H p o) ∧ SR G (ι ++ [p]) (upd H p o) (st ++ [po]) := by
  have np := s.fresh hp
  have x : Ext ι H (ι ++ [p]) (upd H p o) := ⟨⟨[p], rfl⟩, fun a u h n => by
    have na := ne_of_none h hp
    refine ⟨by rw [upd_ne na]; exact h, ?_⟩
    rw [List.mem_append, List.mem_singleton]
    rintro (z | z)
    · exact n z
    · exact na z⟩
  refine ⟨x, by rw [List.length_append, List.length_append, s.len]; rfl, ?_, fun i a o' h1 h2 => ?_, fun a ha => ?_⟩
  · rw [List.nodup_append]
    refine ⟨s.nd, by simp, fun b hb c hc => ?_⟩
    rw [List.mem_singleton] at hc
    rintro rfl
    exact np (by rw [← hc]; exact hb)
  · by_cases hi : i < ι.length
    · rw [List.getElem?_append_left hi] at h1
      rw [List.getElem?_append_left (by rw [← s.len]; exact hi)] at h2
      refine (s.ob i a o' h1 h2).ext s x (upd_ne ?_)
      rintro rfl
      exact np (List.mem_of_getElem? h1)
    · rw [List.getElem?_append_right (by omega)] at h1
      rw [List.getElem?_append_right (by rw [← s.len]; omega)] at h2
      rw [← s.len] at h2
      cases hk : i - ι.length with
      | zero =>
        rw [hk] at h1 h2
        simp at h1 h2
        subst h1 h2
        exact ho _ x upd_same
      | succ k =>
        rw [hk] at h1
        simp at h1
  · obtain ⟨h1, h2⟩ := s.tab a ha
    obtain ⟨h3, h4⟩ := x.keep _ _ h1 h2
    exact ⟨h3, h4⟩
theorem pushL {p : Addr} {xs : List PV} {vs : List V} (s : SR G ι H st) (hp : H p = none) (r : RepL G ι H xs vs) : Ext ι H (ι ++ [p]) (upd H p (.lst vs)) ∧ SR G (ι ++ [p]) (upd H p (.lst vs)) (st ++ [.lst xs]) :=
  push s hp fun H1 x e => ⟨vs, e, r.ext s x⟩
theorem rep_last {p : Addr} (s : SR G ι H st) : Rep G (ι ++ [p]) H1 (.ref st.length) (.ref p) := ⟨p, by rw [← s.len, List.getElem?_append_right (Nat.le_refl _)]; simp, rfl⟩
theorem putS {i : Nat} {p : Addr} {o : HO} {po : PO} (s : SR G ι H st) (hp : ι[i]? = some p) (ho : ∀ H1, Ext ι H ι H1 → H1 p = some o → OR G ι H1 po p) : Ext ι H ι (upd H p o) ∧ SR G ι (upd H p o) (st.set i po) := by
  have mp := List.mem_of_getElem? hp
  have x : Ext ι H ι (upd H p o) := ⟨⟨[], by simp⟩, fun a u h n => by
    have na : a ≠ p := by rintro rfl; exact n mp
    exact ⟨by rw [upd_ne na]; exact h, n⟩⟩
  refine ⟨x, by rw [List.length_set]; exact s.len, s.nd, fun j a o' h1 h2 => ?_, fun a ha => ?_⟩
  · rw [List.getElem?_set] at h2
    by_cases c : i = j
    · subst c
      rw [hp] at h1
      cases h1
      rw [if_pos rfl] at h2
      split at h2
      · cases h2
        exact ho _ x upd_same
      · cases h2
    · rw [if_neg c] at h2
      refine (s.ob j a o' h1 h2).ext s x (upd_ne ?_)
      rintro rfl
      have hi := (List.getElem?_eq_some_iff.mp hp)
      have hj := (List.getElem?_eq_some_iff.mp h1)
      exact c ((List.getElem_inj s.nd).mp (hi.2.trans hj.2.symm))
  · obtain ⟨h1, h2⟩ := s.tab a ha
    exact ⟨(x.keep _ _ h1 h2).1, h2⟩
theorem putL {i : Nat} {p : Addr} {xs : List PV} {vs : List V} (s : SR G ι H st) (hp : ι[i]? = some p) (r : RepL G ι H xs vs) : Ext ι H ι (upd H p (.lst vs)) ∧ SR G ι (upd H p (.lst vs)) (st.set i (.lst xs)) :=
  putS s hp fun H1 x e => ⟨vs, e, r.ext s x⟩
def getL (st : Sto) (i : Nat) : Option (List PV) := match st[i]? with
  | some (.lst xs) => some xs
  | some (.fro xs) => some xs
  | _ => none
def getM (st : Sto) (i : Nat) : Option (List PV) := match st[i]? with
  | some (.lst xs) => some xs
  | _ => none
theorem SR.lst (s : SR G ι H st) {i : Nat} {xs : List PV} (h : getL st i = some xs) : ∃ a vs, ι[i]? = some a ∧ Rd H a (.lst vs) ∧ RepL G ι H xs vs := by
  unfold getL at h
  have key : ∀ o, st[i]? = some o → ∃ a, ι[i]? = some a ∧ OR G ι H o a := fun o e => by
    have hi : i < ι.length := by rw [s.len]; exact (List.getElem?_eq_some_iff.mp e).1
    exact ⟨_, List.getElem?_eq_getElem hi, s.ob i _ o (List.getElem?_eq_getElem hi) e⟩
  split at h
  · rename_i ys e
    cases h
    obtain ⟨a, h1, vs, h2, h3⟩ := key _ e
    exact ⟨a, vs, h1, .inl h2, h3⟩
  · rename_i ys e
    cases h
    obtain ⟨a, h1, vs, h2, h3⟩ := key _ e
    exact ⟨a, vs, h1, h2, h3⟩
  · cases h
theorem SR.mut (s : SR G ι H st) {i : Nat} {xs : List PV} (h : getM st i = some xs) : ∃ a vs, ι[i]? = some a ∧ H a = some (.lst vs) ∧ RepL G ι H xs vs := by
  unfold getM at h
  split at h
  · rename_i ys e
    cases h
    have hi : i < ι.length := by rw [s.len]; exact (List.getElem?_eq_some_iff.mp e).1
    obtain ⟨vs, h2, h3⟩ := s.ob i _ _ (List.getElem?_eq_getElem hi) e
    exact ⟨_, vs, List.getElem?_eq_getElem hi, h2, h3⟩
  · cases h
theorem SR.lstAt (s : SR G ι H st) {i : Nat} {xs : List PV} {a : Addr} (ha : ι[i]? = some a) (h : getL st i = some xs) : ∃ vs, Rd H a (.lst vs) ∧ RepL G ι H xs vs := by
  obtain ⟨b, vs, h1, h2⟩ := s.lst h
  rw [ha] at h1; cases h1
  exact ⟨vs, h2⟩
theorem SR.mutAt (s : SR G ι H st) {i : Nat} {xs : List PV} {a : Addr} (ha : ι[i]? = some a) (h : getM st i = some xs) : ∃ vs, H a = some (.lst vs) ∧ RepL G ι H xs vs := by
  obtain ⟨b, vs, h1, h2⟩ := s.mut h
  rw [ha] at h1; cases h1
  exact ⟨vs, h2⟩
theorem SqL.rd {a : Addr} {vs : List V} (h : Rd H a (.lst vs)) : SqL G.K H a vs := .inl h
theorem se_tup (ha : SA G E t m) : SE G E (tTup t) (eTup m) := by
  intro ρ σ st ι H Q s e h
  refine ha ρ σ st ι H _ s e (h.bind.mono fun ps st1 ι1 H1 x1 s1 h1 vs hv => ?_)
  split at h1
  · rename_i hl
    refine ⟨by rw [← hv.length]; exact line_le hl, fun p hp => ?_⟩
    have x2 : Ext ι1 H1 ι1 (upd H1 p (.tup vs)) := ext_new (st := st1) hp
    exact h1 ι1 _ x2 (sr_new s1 hp) (.ref p) ⟨p, vs, rfl, .inl (.inl upd_same), hv.ext s1 x2⟩
  · exact h1.elim
theorem se_lst (ha : SA G E t m) : SE G E (tLst t) (eLst m) := by
  intro ρ σ st ι H Q s e h
  refine ha ρ σ st ι H _ s e (h.bind.mono fun ps st1 ι1 H1 x1 s1 h1 vs hv => ?_)
  split at h1
  · rename_i hl
    refine ⟨by rw [← hv.length]; exact line_le hl, fun p hp => ?_⟩
    obtain ⟨x2, s2⟩ := pushL s1 hp hv
    exact h1 _ _ x2 s2 (.ref p) (rep_last s1)
  · exact h1.elim
theorem se_cb {r : List V → Hp → VK → Prop} {f : List PV → Sto → R PV} (hr : SC G E r f) (ha : SA G E t m) : SE G E (tCB r t) (eB f m) := by
  intro ρ σ st ι H Q s e h
  exact ha ρ σ st ι H _ s e (h.bind.mono fun ps st1 ι1 H1 x1 s1 h1 vs hv => hr ps vs st1 ι1 H1 Q s1 hv h1)
theorem ss_next : SS G E tNext sNext := by
  intro ρ σ st ι H D s e h
  exact h.here s σ e
theorem ss_ret (ha : SE G E ta a) : SS G E (tRet ta) (sRet a) := by
  intro ρ σ st ι H D s e h
  exact ha ρ σ st ι H _ s e (h.bind.mono fun p st1 ι1 H1 x1 s1 h1 v hv => h1.here s1 v hv)
theorem ss_drop (ha : SE G E ta a) : SS G E (tDrop ta) (sDrop a) := by
  intro ρ σ st ι H D s e h
  exact ha ρ σ st ι H _ s e (h.bind.mono fun p st1 ι1 H1 x1 s1 h1 v hv => h1.here s1 σ (e.ext s x1))
theorem ss_seq (ha : SS G E ts ms) (hb : SS G E tu mu) : SS G E (tSeq ts tu) (sSeq ms mu) := by
  intro ρ σ st ι H D s e h
  refine ha ρ σ st ι H _ s e (h.bind.mono fun so st1 ι1 H1 x1 s1 h1 => ?_)
  cases so with
  | nx ρ1 => exact fun σ1 e1 => hb ρ1 σ1 st1 ι1 H1 D s1 e1 h1
  | rt p => exact Ok.here (E := E) (P := QS G D) s1 h1
  | bk ρ1 => exact Ok.here (E := E) (P := QS G D) s1 h1
  | ct ρ1 => exact Ok.here (E := E) (P := QS G D) s1 h1
theorem ss_if (ht : ST G E tA mA) (ha : SS G E ts ms) (hb : SS G E tu mu) : SS G E (tIfS tA ts tu) (sIf mA ms mu) := by
  intro ρ σ st ι H D s e h
  refine ht ρ σ st ι H _ s e (h.bind.mono fun c st1 ι1 H1 x1 s1 h1 => ?_)
  show if c = true then ts D σ H1 else tu D σ H1
  by_cases hc : c = true
  · rw [if_pos hc] at h1 ⊢
    exact ha ρ σ st1 ι1 H1 D s1 (e.ext s x1) h1
  · rw [if_neg hc] at h1 ⊢
    exact hb ρ σ st1 ι1 H1 D s1 (e.ext s x1) h1
end
abbrev MG := PV → Env → Sto → R Env
def QR (G : Gx) (Q : L2.St → Hp → Prop) (W : L2.St → Prop) : Env → Sto → List Addr → Hp → Prop := fun ρ _ ι H => ∀ σ, ER G ι H ρ σ → W σ → Q σ H
def SG (G : Gx) (E : XK) (g : TG) (m : MG) (vs : List Nat) : Prop := ∀ p x ρ σ st ι H Q, SR G ι H st → ER G ι H ρ σ → Rep G ι H p x → Ok G E ι H (m p ρ st) (QR G Q fun σ' => wipe σ' vs = wipe σ vs) → g x σ H Q
def SGs (G : Gx) (E : XK) (g : TGs) (m : List PV → Env → Sto → R Env) (vs : List Nat) : Prop := ∀ ps xs ρ σ st ι H Q, SR G ι H st → ER G ι H ρ σ → RepL G ι H ps xs → Ok G E ι H (m ps ρ st) (QR G Q fun σ' => wipe σ' vs = wipe σ vs) → g xs σ H Q
def SGa (G : Gx) (E : XK) (g : TG) (m : MG) : Prop := ∀ p x ρ σ st ι H Q, SR G ι H st → ER G ι H ρ σ → Rep G ι H p x → Ok G E ι H (m p ρ st) (QR G Q fun _ => True) → g x σ H Q
def gN (i : Nat) : MG := fun p ρ st => .ok (ρ.set i (some p)) st
def gsNil : List PV → Env → Sto → R Env := fun ps ρ st => match ps with
  | [] => .ok ρ st
  | _ => .bad
def gsCons (g : MG) (gs : List PV → Env → Sto → R Env) : List PV → Env → Sto → R Env := fun ps ρ st => match ps with
  | [] => .bad
  | p :: ps => (g p ρ st).bind fun ρ st => gs ps ρ st
def gT (n : Nat) (gs : List PV → Env → Sto → R Env) : MG := fun p ρ st => match p with
  | .tup ps => if ps.length = n then gs ps ρ st else .bad
  | _ => .bad
def setP (o i v : PV) (st : Sto) : R Unit := match o, i with
  | .ref j, .int k => (match getM st j with
    | some xs => (match ixN xs.length k with
      | some n => .ok () (st.set j (.lst (xs.set n v)))
      | none => .bad)
    | none => .bad)
  | _, _ => .bad
def gSubP (f : PV → PV → PV → Sto → R Unit) (o i : ME) : MG := fun v ρ st => (o ρ st).bind fun o st => (i ρ st).bind fun i st => (f o i v st).bind fun _ st => .ok ρ st
def sAsg (a : ME) (g : MG) : MS := fun ρ st => (a ρ st).bind fun p st => (g p ρ st).bind fun ρ st => .ok (.nx ρ) st
def sPar (i j : Nat) (a : MA) : MS := fun ρ st => (a ρ st).bind fun ps st => match ps with
  | [p, q] => .ok (.nx ((ρ.set i (some p)).set j (some q))) st
  | _ => .bad
def sAug (i : Nat) (a : ME) (f : PV → PV → Sto → R PV) : MS := fun ρ st => match ρ[i]? with
  | some (some p) => (a ρ st).bind fun q st => (f p q st).bind fun z st => .ok (.nx (ρ.set i (some z))) st
  | _ => .bad
theorem wipe_set (σ : L2.St) (v : Option V) : ∀ (vs : List Nat) (i : Nat), i ∈ vs → wipe (σ.set i v) vs = wipe σ vs
  | [], _, h => by simp at h
  | w :: vs, i, h => by
    show (wipe (σ.set i v) vs).set w none = (wipe σ vs).set w none
    by_cases c : i ∈ vs
    · rw [wipe_set σ v vs i c]
    · have e : i = w := by
        rcases List.mem_cons.mp h with h | h
        · exact h
        · exact absurd h c
      subst e
      have key : ∀ us : List Nat, i ∉ us → wipe (σ.set i v) us = (wipe σ us).set i v := by
        intro us
        induction us with
        | nil => intro _; rfl
        | cons u us ih =>
          intro hn
          have h1 : i ≠ u := fun z => hn (by rw [z]; exact List.mem_cons_self)
          have h2 : i ∉ us := fun z => hn (List.mem_cons_of_mem _ z)
          show (wipe (σ.set i v) us).set u none = ((wipe σ us).set u none).set i v
          rw [ih h2, List.set_comm _ _ h1]
      rw [key vs c, List.set_set]
section
variable {G : Gx} {E : XK} {ta tb tc : TE} {a b c : ME} {t : TA} {m : MA} {g : TG} {mg : MG} {vs ws : List Nat}
theorem sg_name {i : Nat} (h : i ∈ vs) : SG G E (gName i) (gN i) vs := by
  intro p x ρ σ st ι H Q s e r h1
  exact h1.here s _ (e.set r) (wipe_set σ _ vs i h)
theorem sgs_nil : SGs G E gNil gsNil vs := by
  intro ps xs ρ σ st ι H Q s e r h
  cases ps with
  | nil => exact ⟨r, h.here s σ e rfl⟩
  | cons _ _ => exact h.elim
theorem sgs_cons {gs : TGs} {ms : List PV → Env → Sto → R Env} (h1 : SG G E g mg vs) (h2 : SGs G E gs ms vs) : SGs G E (gCons g gs) (gsCons mg ms) vs := by
  intro ps xs ρ σ st ι H Q s e r h
  cases ps with
  | nil => exact h.elim
  | cons p ps =>
    obtain ⟨v, rs, rfl, r1, r2⟩ := r
    refine ⟨v, rs, rfl, h1 p v ρ σ st ι H _ s e r1 (h.bind.mono fun ρ1 st1 ι1 H1 x1 s1 q σ1 e1 w1 => ?_)⟩
    exact h2 ps rs ρ1 σ1 st1 ι1 H1 Q s1 e1 (r2.ext s x1) (q.mono fun ρ2 st2 ι2 H2 x2 s2 q2 σ2 e2 w2 => q2 σ2 e2 (w2.trans w1))
theorem sg_tup {n : Nat} {gs : TGs} {ms : List PV → Env → Sto → R Env} (h1 : SGs G E gs ms vs) : SG G E (gTup G.K n gs) (gT n ms) vs := by
  intro p x ρ σ st ι H Q s e r h
  cases p with
  | tup ps =>
    obtain ⟨a, us, rfl, h2, h3⟩ := r
    have h : Ok G E ι H (if ps.length = n then ms ps ρ st else .bad) (QR G Q fun σ' => wipe σ' vs = wipe σ vs) := h
    split at h
    · rename_i hn
      exact ⟨a, us, rfl, h2, by rw [← h3.length]; exact hn, h1 ps us ρ σ st ι H Q s e h3 h⟩
    · exact h.elim
  | _ => exact h.elim
def SSet (G : Gx) (E : XK) (r : TSet) (f : PV → PV → PV → Sto → R Unit) : Prop := ∀ o i v x y z st ι H Q, SR G ι H st → Rep G ι H o x → Rep G ι H i y → Rep G ι H v z → Ok G E ι H (f o i v st) (fun _ _ _ H => Q H) → r x y z H Q
theorem sset_list : SSet G E rSetL setP := by
  intro o i v x y z st ι H Q s ro ri rv h
  unfold setP at h
  split at h
  · rename_i j k
    obtain ⟨a, ha, rfl⟩ := ro
    split at h
    · rename_i xs hx
      split at h
      · rename_i n hn
        obtain ⟨us, h1, h2⟩ := s.mutAt ha hx
        obtain ⟨x2, s2⟩ := putL s ha (h2.set rv n)
        exact ⟨a, us, k, n, rfl, ri, h1, by rw [← h2.length]; exact hn, h _ _ x2 s2⟩
      · exact h.elim
    · exact h.elim
  · exact h.elim
theorem sga_sub {r : TSet} {f : PV → PV → PV → Sto → R Unit} (hf : SSet G E r f) (ho : SE G E ta a) (hi : SE G E tb b) : SGa G E (gSub ta tb r) (gSubP f a b) := by
  intro p x ρ σ st ι H Q s e r0 h
  refine ho ρ σ st ι H _ s e (h.bind.mono fun p1 st1 ι1 H1 x1 s1 h1 v1 r1 => ?_)
  refine hi ρ σ st1 ι1 H1 _ s1 (e.ext s x1) (h1.bind.mono fun p2 st2 ι2 H2 x2 s2 h2 v2 r2 => ?_)
  refine hf p1 p2 p v1 v2 x st2 ι2 H2 _ s2 (r1.ext s1 x2) r2 ((r0.ext s x1).ext s1 x2) (h2.bind.mono fun _ st3 ι3 H3 x3 s3 h3 => ?_)
  exact h3.here s3 σ (((e.ext s x1).ext s1 x2).ext s2 x3) trivial
theorem SG.any (h : SG G E g mg vs) : SGa G E g mg := fun p x ρ σ st ι H Q s e r hk => h p x ρ σ st ι H Q s e r (hk.mono fun _ _ _ _ _ _ q σ1 e1 _ => q σ1 e1 trivial)
theorem ss_asg (ha : SE G E ta a) (hg : SGa G E g mg) : SS G E (tAsg ta g) (sAsg a mg) := by
  intro ρ σ st ι H D s e h
  refine ha ρ σ st ι H _ s e (h.bind.mono fun p st1 ι1 H1 x1 s1 h1 v hv => ?_)
  exact hg p v ρ σ st1 ι1 H1 _ s1 (e.ext s x1) hv (h1.bind.mono fun ρ2 st2 ι2 H2 x2 s2 h2 σ2 e2 _ => h2.here s2 σ2 e2)
end
end Pu

namespace HT
open PySem PySem.Spec PyProof.Rows
section
variable {prog : Program} {w : World} {A : Around} {E : Value → Shared → Prop} {s : Shared}
theorem tupleIsExact_ {t : Addr} {items : Array Value} {Q : Bool → Shared → Prop} (ht : IsTup s.heap t items) (h : Q true s) : wpAny (model prog w) A (Builtin.Tuple.tupleIsExact (.ref t)) Q E s := by
  unfold Builtin.Tuple.tupleIsExact
  refine wpAny_bind (wpAny_typeOf ht.typeIs ?_)
  exact wpAny_pure (by simpa using h)
theorem getItem_tuple_whole {t sl : Addr} {items : Array Value} {vl vu : Value} {lo hi : Option Int} {Q : Value → Shared → Prop} (ht : IsTup s.heap t items) (hs : s.heap.IsSliceOf sl vl vu .none) (pl : IsPart vl lo) (pu : IsPart vu hi)
    (hw : sIx items.size 0 lo = 0 ∧ sIx items.size items.size hi = items.size) (h : Q (.ref t) s) : wpAny (model prog w) A (getItem (.ref t) (.ref sl)) Q E s := by
  obtain ⟨os, hos, hcs, hds⟩ := id hs
  have hTs : s.TypeIs (.ref sl) "slice" := ⟨os, hos, hcs⟩
  unfold getItem
  try with_reducible refine wpAny_holding ?_
  first | refine wpAny_bind (wpAny_pure ?_) | skip
  refine wpAny_bind (wpAny_sequenceKey ht.typeIs (by decide) ?_)
  refine wpAny_bind (wpAny_callSpecial?_slot (name := Str.ofString "__getitem__") ht.typeIs PyProof.Rows.slot_tuple_getitem
    (wpAny_call_entry PyProof.Rows.slot_tuple_getitem ht.typeIs entry_tuple_getitem ?_ (args_tuple_getitem _ _)))
  show wpAny _ _ (Builtin.Tuple.tupleItemsOf (.ref t) >>= _) _ _ s
  refine wpAny_bind (tupleItemsOf_ ht ?_)
  refine wpAny_bind (wpAny_typeOf hTs ?_)
  rw [if_pos (by decide)]
  refine wpAny_bind (sliceApplied_gen hs pl pu ?_)
  have hno : ((((sIx items.size 0 lo : Nat) : Int) == 0 && (1 : Int) == 1 && (sIx items.size items.size hi - sIx items.size 0 lo) == items.size) = true) := by
    rw [hw.1, hw.2]
    simp
  show wpAny _ _ (if (((sIx items.size 0 lo : Nat) : Int) == 0 && (1 : Int) == 1 && (sIx items.size items.size hi - sIx items.size 0 lo) == items.size) = true then _ else _) _ _ s
  rw [if_pos hno]
  refine wpAny_bind (tupleIsExact_ ht ?_)
  rw [if_pos rfl]
  refine wpAny_bind (wpAny_rule ?_)
  exact wpAny_pure ⟨_, rfl, wpAny_pure h⟩
end
end HT
namespace Pu
open PySem PySem.Spec PyProof.Rows L2 My
section
variable {X : Cx} {K : PySem.W.Frag}
theorem opOr {f : Value → Value → Sem Value} {r r' : R2} (h : OpR X f r) (h' : OpR X f r') : OpR X f (fun x y H Q => r x y H Q ∨ r' x y H Q) := by
  intro pins s σ H x y v u Q I rx ry q
  rcases q with q | q
  · exact h pins s σ H x y v u Q I rx ry q
  · exact h' pins s σ H x y v u Q I rx ry q
theorem crOr {f : Value} {r r' : List V → Hp → VK → Prop} (h : CallR X f r) (h' : CallR X f r') : CallR X f (fun xs H Q => r xs H Q ∨ r' xs H Q) := by
  intro pins s σ H xs us Q I rx q
  rcases q with q | q
  · exact h pins s σ H xs us Q I rx q
  · exact h' pins s σ H xs us Q I rx q
def rCatK (K : PySem.W.Frag) : R2 := fun x y H Q => ∃ a b xs ys, x = .ref a ∧ y = .ref b ∧ SqT K H a xs ∧ SqT K H b ys ∧ xs.length + ys.length ≤ sizeLine ∧ (xs = [] → Q y H) ∧ (ys = [] → Q x H) ∧ ∀ p, H p = none → Q (.ref p) (upd H p (.tup (xs ++ ys)))
theorem opCatK (hK : X.K = K) : OpR X (binaryOp .Add) (rCatK K) := by
  subst hK
  intro pins s σ H x y v u Q I rx ry h
  obtain ⟨a, b, xs, ys, rfl, rfl, ha, hb, hz, q1, q2, q⟩ := h
  cases rx
  cases ry
  obtain ⟨its, r1, p1, _⟩ := I.tuple ha
  obtain ⟨its2, r2, p2, _⟩ := I.tuple hb
  by_cases hx : xs = []
  · have hv : its = [] := r1.nil_iff.mpr hx
    have q3 := q1 hx
    subst hx
    obtain ⟨⟨cls, dd, data, sl⟩, ho, hc, n, hd⟩ := id p1
    obtain ⟨⟨cls2, dd2, data2, sl2⟩, ho2, hc2, n2, hd2⟩ := id p2
    simp only at hc hd hc2 hd2
    subst hc hd hc2 hd2
    exact concat_meets (T := "tuple") ⟨_, ho, rfl⟩ ⟨_, ho2, rfl⟩ noFill_tuple_add seq_tuple_add PySem.F.slot_tuple_add PySem.F.entry_tuple_add (PySem.F.args_tuple_add_2 _ _)
      (PyProof.Rows.tuple_addW0 a b its.toArray its2.toArray n n2 dd dd2 sl sl2 (by simp [hv])) ⟨ho, ho2, .ref b, H, I, rfl, q3⟩
  · refine HT.cat_tup p1 p2 (fun z => hx (r1.nil_iff.mp z)) (fun z => ⟨.ref a, H, I, rfl, q2 (r2.nil_iff.mp z)⟩) (fun z => ?_) (by rw [← r1.length, ← r2.length]; exact hz)
    have fr : H s.heap.objs.size = none := I.hok.fresh (Nat.le_refl _)
    refine ⟨.ref s.heap.objs.size, _, I.laid (t' := s.toks) (o := .tup (xs ++ ys)) (fun b ob q => Heap.get?_push_of_some _ q) (Nat.le_refl _) ?_, rfl, q _ fr⟩
    exact ⟨by rw [List.length_append]; exact hz, _, r1.append r2, IsTup.new _ _⟩
def rSlK (K : PySem.W.Frag) : V → Option Int → Option Int → Hp → VK → Prop := fun x lo hi H Q => ∃ a xs, x = .ref a ∧ SqT K H a xs ∧ (cutV xs lo hi = xs → Q x H) ∧ ∀ p, H p = none → Q (.ref p) (upd H p (.tup (cutV xs lo hi)))
theorem slK (hK : X.K = K) : SlR X (rSlK K) := by
  subst hK
  intro pins s σ H x v vl vu lo hi sl Q I rx hs pl pu h
  obtain ⟨a, xs, rfl, hx, q1, q⟩ := h
  by_cases hw : HT.sIx xs.length 0 lo = 0 ∧ HT.sIx xs.length xs.length hi = xs.length
  · cases rx
    obtain ⟨its, r, ht, hz⟩ := I.tuple hx
    have hlen : its.toArray.size = xs.length := by rw [List.size_toArray]; exact r.length.symm
    refine ⟨"tuple", _, PyProof.Rows.slot_tuple_getitem.lookup, ht.typeIs, ?_⟩
    refine HT.getItem_tuple_whole ht hs pl pu (by rw [hlen]; exact hw) ⟨.ref a, H, I, rfl, q1 ?_⟩
    unfold cutV
    rw [hw.1, hw.2]
    simp
  · exact sl_tup pins s σ H _ v vl vu lo hi sl Q I rx hs pl pu ⟨a, xs, rfl, hx, hw, q⟩
def rAddA (K : PySem.W.Frag) : R2 := fun x y H Q => rI0 (fun i j => .int (i + j)) x y H Q ∨ rCatK K x y H Q ∨ (∃ i j, x = .str i ∧ y = .str j ∧ i.length + j.length ≤ sizeLine ∧ Q (.str (i ++ j)) H) ∨ rCat x y H Q
theorem opAddA (hK : X.K = K) : OpR X (binaryOp .Add) (rAddA K) := opOr op_add (opOr (opCatK hK) (opOr op_add_str op_cat))
def rMulA : R2 := fun x y H Q => rI CMul (fun i j => .int (i * j)) x y H Q ∨ rRep x y H Q ∨ rMulS x y H Q
theorem opMulA : OpR X (binaryOp .Mult) rMulA := opOr op_mul (opOr op_rep opMulS)
def rSlA (K : PySem.W.Frag) : V → Option Int → Option Int → Hp → VK → Prop := fun x lo hi H Q => rSlK K x lo hi H Q ∨ rSlL K x lo hi H Q ∨ rSlS x lo hi H Q
theorem slA (hK : X.K = K) : SlR X (rSlA K) := SlR.or (slK hK) (SlR.or (slL hK) sl_str)
theorem ixA (hK : X.K = K) : IxR X (rIx K) := hK ▸ ix_seq
def rLenA (K : PySem.W.Frag) : List V → Hp → VK → Prop := fun xs H Q => rLen K xs H Q ∨ ∃ z, xs = [.str z] ∧ z.length ≤ sizeLine ∧ Q (.int z.length) H
theorem crLenA (hK : X.K = K) : CallR X (.builtin "len") (rLenA K) := crOr (crLen hK) call_len_str
def rIsNotA : R2 := fun x y H Q => (y = .non ∧ Q (.bl (!decide (x = .non))) H) ∨ rIsNotB x y H Q
theorem opIsNotA : OpR X (compareOp .IsNot) rIsNotA := opOr op_notN opIsNotB
def rEqA (K : PySem.W.Frag) : R2 := fun x y H Q => rEq x y H Q ∨ rEqD K x y H Q
theorem opEqA (hK : X.K = K) (hu : X.A.units + 64 < cLine) : OpR X (compareOp .Eq) (rEqA K) := opOr op_eq (opEqD hK hu)
def rNeA (K : PySem.W.Frag) : R2 := fun x y H Q => rNe x y H Q ∨ rNeD K x y H Q
theorem opNeA (hK : X.K = K) (hu : X.A.units + 64 < cLine) : OpR X (compareOp .NotEq) (rNeA K) := opOr op_ne (opNeD hK hu)
def rLtA (K : PySem.W.Frag) : R2 := fun x y H Q => rI0 (fun i j => .bl (decide (i < j))) x y H Q ∨ (∃ i j, x = .str i ∧ y = .str j ∧ Q (.bl (decide (i.cps.toList < j.cps.toList))) H) ∨ rLtT K x y H Q
theorem opLtA (hK : X.K = K) (hu : X.A.units + 64 < cLine) : OpR X (compareOp .Lt) (rLtA K) := opOr op_lt (opOr op_lt_str (hK ▸ op_ltT (by omega)))
def rLeA : R2 := fun x y H Q => rI0 (fun i j => .bl (decide (i ≤ j))) x y H Q ∨ ∃ i j, x = .str i ∧ y = .str j ∧ Q (.bl (!decide (j.cps.toList < i.cps.toList))) H
theorem opLeA : OpR X (compareOp .LtE) rLeA := opOr op_le op_le_str
end
instance (i j : Int) : Decidable (CMul i j) := inferInstanceAs (Decidable (_ ∨ _))
instance (i j : Int) : Decidable (CDiv i j) := inferInstanceAs (Decidable (_ ∧ _))
instance (i j : Int) : Decidable (CPow i j) := inferInstanceAs (Decidable (_ ∧ _))
def intP (g : Int → Int → PV) (p q : PV) (st : Sto) : R PV := match p, q with
  | .int i, .int j => .ok (g i j) st
  | _, _ => .bad
def intC (C : Int → Int → Prop) [∀ i j, Decidable (C i j)] (g : Int → Int → PV) (p q : PV) (st : Sto) : R PV := match p, q with
  | .int i, .int j => if C i j then .ok (g i j) st else .bad
  | _, _ => .bad
def addP (p q : PV) (st : Sto) : R PV := match p, q with
  | .int i, .int j => .ok (.int (i + j)) st
  | .tup xs, .tup ys => if xs.length + ys.length ≤ 100000 then .ok (.tup (xs ++ ys)) st else .bad
  | .str x, .str y => if x.length + y.length ≤ 100000 then .ok (.str (x ++ y)) st else .bad
  | .ref i, .ref j => (match getM st i, getM st j with
    | some xs, some ys => if xs.length + ys.length ≤ 100000 then new (.lst (xs ++ ys)) st else .bad
    | _, _ => .bad)
  | _, _ => .bad
def mulP (p q : PV) (st : Sto) : R PV := match p, q with
  | .int i, .int j => if CMul i j then .ok (.int (i * j)) st else .bad
  | .ref i, .int k => (match getM st i with
    | some xs => if -(2 ^ 63) ≤ k ∧ k < 2 ^ 63 ∧ xs.length * k.toNat ≤ 100000 then new (.lst (List.replicate k.toNat xs).flatten) st else .bad
    | none => .bad)
  | .str x, .int n => if x.length = 1 ∧ 1 ≤ n ∧ n ≤ 1000 then .ok (.str (repS x n)) st else .bad
  | _, _ => .bad
def cutP (xs : List PV) (lo hi : Option Int) : List PV := (xs.drop (HT.sIx xs.length 0 lo)).take (HT.sIx xs.length xs.length hi - HT.sIx xs.length 0 lo)
def ixP (p q : PV) (st : Sto) : R PV := match p, q with
  | .tup xs, .int i => (match atI xs i with
    | some v => .ok v st
    | none => .bad)
  | .ref j, .int i => (match getL st j with
    | some xs => (match atI xs i with
      | some v => .ok v st
      | none => .bad)
    | none => .bad)
  | .str z, .int i => if z.length ≤ 100000 then (match atI z.cps.toList i with
    | some c => .ok (.str ⟨#[c]⟩) st
    | none => .bad) else .bad
  | _, _ => .bad
def slP (p : PV) (lo hi : Option Int) (st : Sto) : R PV := match p with
  | .tup xs => .ok (.tup (cutP xs lo hi)) st
  | .ref j => (match getL st j with
    | some xs => new (.lst (cutP xs lo hi)) st
    | none => .bad)
  | .str z => if z.length ≤ 100000 then .ok (.str (cutS z lo hi)) st else .bad
  | _ => .bad
def lenP (ps : List PV) (st : Sto) : R PV := match ps with
  | [.tup xs] => .ok (.int xs.length) st
  | [.ref j] => (match getL st j with
    | some xs => .ok (.int xs.length) st
    | none => .bad)
  | [.str z] => if z.length ≤ 100000 then .ok (.int z.length) st else .bad
  | _ => .bad
def isNon : PV → Bool
  | .non => true
  | _ => false
def isP (p q : PV) (st : Sto) : R PV := match p, q with
  | p, .non => .ok (.bl (isNon p)) st
  | .bl a, .bl b => .ok (.bl (a == b)) st
  | _, _ => .bad
def isNotP (p q : PV) (st : Sto) : R PV := match p, q with
  | p, .non => .ok (.bl (!isNon p)) st
  | .bl a, .bl b => .ok (.bl (a != b)) st
  | _, _ => .bad
section
variable {G : Gx} {E : XK} {ι : List Addr} {H : Hp} {st : Sto}
theorem s2_int {g : Int → Int → PV} {g' : Int → Int → V} (hg : ∀ i j ι H, Rep G ι H (g i j) (g' i j)) : S2 G E (rI0 g') (intP g) := by
  intro p q x y st ι H Q s rp rq h
  unfold intP at h
  split at h
  · exact ⟨_, _, rp, rq, h.here s _ (hg _ _ _ _)⟩
  · exact h.elim
theorem s2_intC {C : Int → Int → Prop} [∀ i j, Decidable (C i j)] {g : Int → Int → PV} {g' : Int → Int → V} (hg : ∀ i j ι H, Rep G ι H (g i j) (g' i j)) : S2 G E (rI C g') (intC C g) := by
  intro p q x y st ι H Q s rp rq h
  unfold intC at h
  split at h
  · split at h
    · rename_i hc
      exact ⟨_, _, rp, rq, hc, h.here s _ (hg _ _ _ _)⟩
    · exact h.elim
  · exact h.elim
theorem okT {ps : List PV} {vs : List V} {Q : VK} (s : SR G ι H st) (r : RepL G ι H ps vs) (h : Ok G E ι H (.ok (.tup ps) st) (QV G Q)) (p : Addr) (hp : H p = none) : Q (.ref p) (upd H p (.tup vs)) := by
  have x2 : Ext ι H ι (upd H p (.tup vs)) := ext_new (st := st) hp
  exact h ι _ x2 (sr_new s hp) (.ref p) ⟨p, vs, rfl, .inl (.inl upd_same), r.ext s x2⟩
theorem okL {ps : List PV} {vs : List V} {Q : VK} (s : SR G ι H st) (r : RepL G ι H ps vs) (h : Ok G E ι H (new (.lst ps) st) (QV G Q)) (p : Addr) (hp : H p = none) : Q (.ref p) (upd H p (.lst vs)) := by
  obtain ⟨x2, s2⟩ := pushL s hp r
  exact h _ _ x2 s2 (.ref p) (rep_last s)
theorem s2_add : S2 G E (rAddA G.K) addP := by
  intro p q x y st ι H Q s rp rq h
  unfold addP at h
  split at h
  · exact .inl ⟨_, _, rp, rq, h.here s _ rfl⟩
  · rename_i xs ys
    split at h
    · rename_i hl
      obtain ⟨a, vs, e1, h1, h2⟩ := id rp
      obtain ⟨b, us, e2, h3, h4⟩ := id rq
      refine .inr (.inl ⟨a, b, vs, us, e1, e2, h1, h3, by rw [← h2.length, ← h4.length]; exact line_le hl, fun e => ?_, fun e => ?_, fun p hp => okT s (h2.append h4) h p hp⟩)
      · have e5 : xs = [] := List.length_eq_zero_iff.mp (by rw [h2.length, e]; rfl)
        subst e5
        exact h.here s y rq
      · have e5 : ys = [] := List.length_eq_zero_iff.mp (by rw [h4.length, e]; rfl)
        subst e5
        rw [List.append_nil] at h
        exact h.here s x rp
    · exact h.elim
  · split at h
    · rename_i hl
      exact .inr (.inr (.inl ⟨_, _, rp, rq, line_le hl, h.here s _ rfl⟩))
    · exact h.elim
  · rename_i i j
    split at h
    · rename_i xs ys e1 e2
      split at h
      · rename_i hl
        obtain ⟨a, ha, rfl⟩ := rp
        obtain ⟨b, hb, rfl⟩ := rq
        obtain ⟨vs, h1, h2⟩ := s.mutAt ha e1
        obtain ⟨us, h3, h4⟩ := s.mutAt hb e2
        exact .inr (.inr (.inr ⟨a, b, vs, us, rfl, rfl, h1, h3, by rw [← h2.length, ← h4.length]; exact line_le hl, fun p hp => okL s (h2.append h4) h p hp⟩))
      · exact h.elim
    · exact h.elim
  · exact h.elim
theorem RepL.rep {ps : List PV} {vs : List V} (h : RepL G ι H ps vs) : ∀ n, RepL G ι H (List.replicate n ps).flatten (List.replicate n vs).flatten
  | 0 => rfl
  | n + 1 => by
    rw [List.replicate_succ, List.replicate_succ, List.flatten_cons, List.flatten_cons]
    exact h.append (RepL.rep h n)
theorem s2_mul : S2 G E rMulA mulP := by
  intro p q x y st ι H Q s rp rq h
  unfold mulP at h
  split at h
  · split at h
    · rename_i hc
      exact .inl ⟨_, _, rp, rq, hc, h.here s _ rfl⟩
    · exact h.elim
  · rename_i i k
    split at h
    · rename_i xs e1
      split at h
      · rename_i hc
        obtain ⟨a, ha, rfl⟩ := rp
        obtain ⟨vs, h1, h2⟩ := s.mutAt ha e1
        exact .inr (.inl ⟨a, k, vs, rfl, rq, h1, hc.1, hc.2.1, by rw [← h2.length]; exact line_le hc.2.2, fun p hp => okL s (h2.rep _) h p hp⟩)
      · exact h.elim
    · exact h.elim
  · split at h
    · rename_i hc
      exact .inr (.inr ⟨_, _, rp, rq, hc.1, hc.2, h.here s _ rfl⟩)
    · exact h.elim
  · exact h.elim
theorem RepL.atI {ps : List PV} {vs : List V} {i : Int} {p : PV} (r : RepL G ι H ps vs) (h : atI ps i = some p) : ∃ v, L2.atI vs i = some v ∧ Rep G ι H p v := by
  unfold L2.atI at h ⊢
  rw [← r.length]
  cases e : ixN ps.length i with
  | none => rw [e] at h; cases h
  | some j =>
    rw [e] at h
    exact r.get h
theorem s2_ix : S2 G E (rIx G.K) ixP := by
  intro p q x y st ι H Q s rp rq h
  unfold ixP at h
  split at h
  · split at h
    · rename_i v e
      obtain ⟨a, vs, e1, h1, h2⟩ := id rp
      obtain ⟨u, h3, h4⟩ := h2.atI e
      exact .inr (.inl ⟨a, vs, _, u, e1, rq, h1, h3, h.here s _ h4⟩)
    · exact h.elim
  · split at h
    · rename_i xs e
      split at h
      · rename_i v e2
        obtain ⟨a, ha, rfl⟩ := rp
        obtain ⟨vs, h1, h2⟩ := s.lstAt ha e
        obtain ⟨u, h3, h4⟩ := h2.atI e2
        exact .inl ⟨a, vs, _, u, rfl, rq, .inl h1, h3, h.here s _ h4⟩
      · exact h.elim
    · exact h.elim
  · split at h
    · rename_i hl
      split at h
      · rename_i c e
        exact .inr (.inr ⟨_, _, c, rp, rq, line_le hl, e, h.here s _ rfl⟩)
      · exact h.elim
    · exact h.elim
  · exact h.elim
def SSl (G : Gx) (E : XK) (r : V → Option Int → Option Int → Hp → VK → Prop) (f : PV → Option Int → Option Int → Sto → R PV) : Prop := ∀ p x lo hi st ι H Q, SR G ι H st → Rep G ι H p x → Ok G E ι H (f p lo hi st) (QV G Q) → r x lo hi H Q
theorem RepL.cut {ps : List PV} {vs : List V} (r : RepL G ι H ps vs) (lo hi : Option Int) : RepL G ι H (cutP ps lo hi) (cutV vs lo hi) := by
  unfold cutP cutV
  rw [r.length]
  exact (r.drop _).take _
theorem ssl : SSl G E (rSlA G.K) slP := by
  intro p x lo hi st ι H Q s rp h
  unfold slP at h
  split at h
  · obtain ⟨a, vs, rfl, h1, h2⟩ := rp
    refine .inl ⟨a, vs, rfl, h1, fun e => ?_, fun p hp => okT s (h2.cut lo hi) h p hp⟩
    refine h.here s _ ⟨a, vs, rfl, h1, ?_⟩
    have z := h2.cut lo hi
    rw [e] at z
    exact z
  · split at h
    · rename_i xs e
      obtain ⟨a, ha, rfl⟩ := rp
      obtain ⟨vs, h1, h2⟩ := s.lstAt ha e
      exact .inr (.inl ⟨a, vs, rfl, .inl h1, fun p hp => okL s (h2.cut lo hi) h p hp⟩)
    · exact h.elim
  · split at h
    · rename_i hl
      exact .inr (.inr ⟨_, rp, line_le hl, h.here s _ rfl⟩)
    · exact h.elim
  · exact h.elim
theorem sc_len : SC G E (rLenA G.K) lenP := by
  intro ps xs st ι H Q s r h
  unfold lenP at h
  split at h
  · obtain ⟨v, r', rfl, ⟨a, vs, rfl, h1, h2⟩, e⟩ := r
    cases (show r' = [] from e)
    exact .inl ⟨a, vs, rfl, .inr h1, by have z := h.here s _ rfl; rw [h2.length] at z; exact z⟩
  · rename_i j
    obtain ⟨v, r', rfl, ⟨a, ha, rfl⟩, e⟩ := r
    cases (show r' = [] from e)
    split at h
    · rename_i ys e
      obtain ⟨vs, h1, h2⟩ := s.lstAt ha e
      exact .inl ⟨a, vs, rfl, .inl (.inl h1), by have z := h.here s _ rfl; rw [h2.length] at z; exact z⟩
    · exact h.elim
  · obtain ⟨v, r', rfl, e1, e⟩ := r
    cases (show r' = [] from e)
    split at h
    · rename_i hl
      exact .inr ⟨_, by rw [show v = _ from e1], line_le hl, h.here s _ rfl⟩
    · exact h.elim
  · exact h.elim
theorem rep_non {p : PV} {x : V} (r : Rep G ι H p x) : decide (x = .non) = isNon p := by
  cases p with
  | non => rw [show x = .non from r]; rfl
  | bl b => rw [show x = _ from r]; rfl
  | int b => rw [show x = _ from r]; rfl
  | str b => rw [show x = _ from r]; rfl
  | tup xs => obtain ⟨a, vs, rfl, _⟩ := r; rfl
  | ref i => obtain ⟨a, _, rfl⟩ := r; rfl
  | ty n => rw [show x = _ from r]; rfl
  | gl x => obtain ⟨a, _, rfl⟩ := r; rfl
theorem s2_isNot : S2 G E rIsNotA isNotP := by
  intro p q x y st ι H Q s rp rq h
  unfold isNotP at h
  split at h
  · exact .inl ⟨rq, by rw [rep_non rp]; exact h.here s _ rfl⟩
  · exact .inr ⟨_, _, rp, rq, h.here s _ rfl⟩
  · exact h.elim
end
end Pu

namespace Pu
open PySem PySem.Spec PyProof.Rows L2 My
mutual
def toD : PV → PyData
  | .non => .none
  | .bl b => .bool b
  | .int i => .int i
  | .str x => .str x
  | .tup xs => .tuple (toDL xs)
  | .ref _ => .none
  | .ty _ => .none
  | .gl _ => .none
def toDL : List PV → List PyData
  | [] => []
  | x :: xs => toD x :: toDL xs
end
mutual
/-- data of at most so many tuples in one another -/
def fit : Nat → PV → Bool
  | _, .non => true
  | _, .bl _ => true
  | _, .int _ => true
  | _, .str x => PyData.strOk x
  | n + 1, .tup xs => fitL n xs
  | 0, .tup _ => false
  | _, .ref _ => false
  | _, .ty _ => false
  | _, .gl _ => false
def fitL : Nat → List PV → Bool
  | _, [] => true
  | n, x :: xs => fit n x && fitL n xs
end
def eqvP (p q : PV) : Bool := PyData.eqv (toD p) (toD q)
def eqvL (p q : List PV) : Bool := PyData.eqvAll (toDL p) (toDL q)
section
variable {G : Gx} {E : XK} {ι : List Addr} {H : Hp} {st : Sto}
mutual
theorem dp_of : ∀ (n : Nat) (p : PV) (v : V), fit n p = true → Rep G ι H p v → Dp G.K H v (toD p)
  | _, .non, v, _, r => by rw [show v = _ from r]; exact .non
  | _, .bl b, v, _, r => by rw [show v = _ from r]; exact .bl b
  | _, .int b, v, _, r => by rw [show v = _ from r]; exact .int b
  | _, .str b, v, _, r => by rw [show v = _ from r]; exact .str b
  | n + 1, .tup xs, v, f, r => by
    obtain ⟨a, vs, rfl, h1, h2⟩ := r
    exact .tup h1 (dpL_of n xs vs f h2)
  | 0, .tup xs, v, f, r => by cases f
  | _, .ref i, v, f, r => by simp [fit] at f
  | _, .ty i, v, f, r => by simp [fit] at f
  | _, .gl i, v, f, r => by simp [fit] at f
theorem dpL_of : ∀ (n : Nat) (ps : List PV) (vs : List V), fitL n ps = true → RepL G ι H ps vs → DpAll G.K H vs (toDL ps)
  | _, [], vs, _, r => by rw [show vs = [] from r]; exact .nil
  | n, p :: ps, vs, f, r => by
    obtain ⟨v, us, rfl, h1, h2⟩ := r
    have f : (fit n p && fitL n ps) = true := f
    rw [Bool.and_eq_true] at f
    exact .cons (dp_of n p v f.1 h1) (dpL_of n ps us f.2 h2)
end
end
mutual
theorem can_of : ∀ (n : Nat) (p : PV), fit n p = true → (toD p).canLay0 = true ∧ (toD p).depth ≤ n + 1
  | n, .non, _ => ⟨rfl, by simp [toD, PyData.depth]⟩
  | n, .bl b, _ => ⟨rfl, by simp [toD, PyData.depth]⟩
  | n, .int b, _ => ⟨rfl, by simp [toD, PyData.depth]⟩
  | n, .str b, f => ⟨by simpa [fit, toD, PyData.canLay0] using f, by simp [toD, PyData.depth]⟩
  | n + 1, .tup xs, f => by
    have z := canL_of n xs f
    refine ⟨by simpa [toD, PyData.canLay0] using z.1, ?_⟩
    have := z.2
    simp only [toD, PyData.depth]
    omega
  | 0, .tup xs, f => by cases f
  | _, .ref i, f => by simp [fit] at f
  | _, .ty i, f => by simp [fit] at f
  | _, .gl i, f => by simp [fit] at f
theorem canL_of : ∀ (n : Nat) (ps : List PV), fitL n ps = true → PyData.canLayAll0 (toDL ps) = true ∧ PyData.depthAll (toDL ps) ≤ n + 1
  | n, [], _ => ⟨rfl, by simp [toDL, PyData.depthAll]⟩
  | n, p :: ps, f => by
    have f : (fit n p && fitL n ps) = true := f
    rw [Bool.and_eq_true] at f
    have a := can_of n p f.1
    have b := canL_of n ps f.2
    refine ⟨by simp [toDL, PyData.canLayAll0, a.1, b.1], ?_⟩
    have h1 := a.2
    have h2 := b.2
    simp only [toDL, PyData.depthAll]
    omega
end
theorem shaped_of {n : Nat} {p : PV} (h : fit n p = true) (hn : n ≤ 60) : SeqAt.shaped (toD p) = true := by
  have z := can_of n p h
  unfold SeqAt.shaped
  rw [z.1, Bool.true_and, decide_eq_true_iff]
  have := z.2
  omega
theorem shapedL_of {n : Nat} {ps : List PV} (h : fitL n ps = true) (hn : n ≤ 50) : SeqAt.shaped (.list (toDL ps)) = true := by
  have z := canL_of n ps h
  unfold SeqAt.shaped
  have e : (PyData.list (toDL ps)).canLay0 = true := by simpa [PyData.canLay0] using z.1
  rw [e, Bool.true_and, decide_eq_true_iff]
  have := z.2
  simp only [PyData.depth]
  omega
def eqQ (neg : Bool) (p q : PV) (st : Sto) : R PV := match p, q with
  | .int i, .int j => .ok (.bl (if neg then !decide (i = j) else decide (i = j))) st
  | .str i, .str j => .ok (.bl (if neg then !decide (i = j) else decide (i = j))) st
  | .ref i, .ref j => (match getL st i, getL st j with
    | some xs, some ys => if fitL 50 xs = true ∧ fitL 50 ys = true then .ok (.bl (if neg then !eqvL xs ys else eqvL xs ys)) st else .bad
    | _, _ => .bad)
  | p, q => if fit 60 p = true ∧ fit 60 q = true then .ok (.bl (if neg then !eqvP p q else eqvP p q)) st else .bad
def eqP := eqQ false
def neP := eqQ true
section
variable {G : Gx} {E : XK} {ι : List Addr} {H : Hp} {st : Sto}
theorem s2_eqQ (neg : Bool) {p q : PV} {x y : V} {st : Sto} {Q : VK} (s : SR G ι H st) (rp : Rep G ι H p x) (rq : Rep G ι H q y) (h : Ok G E ι H (eqQ neg p q st) (QV G Q)) :
    (∃ b, scal x y = true ∧ decide (x = y) = b ∧ Q (.bl (if neg then !b else b)) H) ∨ ∃ d e, Dp G.K H x d ∧ Dp G.K H y e ∧ SeqAt.shaped d = true ∧ SeqAt.shaped e = true ∧ Q (.bl (if neg then !PyData.eqv d e else PyData.eqv d e)) H := by
  unfold eqQ at h
  split at h
  · rename_i i j
    rw [show x = _ from rp, show y = _ from rq]
    exact .inl ⟨_, rfl, My.dec_int i j, h.here s _ rfl⟩
  · rename_i i j
    rw [show x = _ from rp, show y = _ from rq]
    exact .inl ⟨_, rfl, dec_str i j, h.here s _ rfl⟩
  · split at h
    · rename_i xs ys e1 e2
      split at h
      · rename_i hf
        obtain ⟨a, ha, rfl⟩ := rp
        obtain ⟨b, hb, rfl⟩ := rq
        obtain ⟨vs, h1, h2⟩ := s.lstAt ha e1
        obtain ⟨us, h3, h4⟩ := s.lstAt hb e2
        exact .inr ⟨_, _, .lst (.inl h1) (dpL_of 50 xs vs hf.1 h2), .lst (.inl h3) (dpL_of 50 ys us hf.2 h4), shapedL_of hf.1 (by decide), shapedL_of hf.2 (by decide), by
          simp only [PyData.eqv]
          exact h.here s _ rfl⟩
      · exact h.elim
    · exact h.elim
  · split at h
    · rename_i hf
      exact .inr ⟨_, _, dp_of 60 p x hf.1 rp, dp_of 60 q y hf.2 rq, shaped_of hf.1 (by decide), shaped_of hf.2 (by decide), h.here s _ rfl⟩
    · exact h.elim
theorem s2_eq : S2 G E (rEqA G.K) eqP := by
  intro p q x y st ι H Q s rp rq h
  rcases s2_eqQ false s rp rq h with ⟨b, h1, h2, h3⟩ | h
  · exact .inl ⟨h1, by rw [h2]; exact h3⟩
  · exact .inr h
theorem s2_ne : S2 G E (rNeA G.K) neP := by
  intro p q x y st ι H Q s rp rq h
  rcases s2_eqQ true s rp rq h with ⟨b, h1, h2, h3⟩ | h
  · exact .inl ⟨h1, by rw [h2]; exact h3⟩
  · exact .inr h
end
def intsOf : List PV → Option (List Int)
  | [] => some []
  | .int i :: r => (intsOf r).map (i :: ·)
  | _ => none
def ltP (p q : PV) (st : Sto) : R PV := match p, q with
  | .int i, .int j => .ok (.bl (decide (i < j))) st
  | .str i, .str j => .ok (.bl (decide (i.cps.toList < j.cps.toList))) st
  | .tup xs, .tup ys => (match intsOf xs, intsOf ys with
    | some ns, some ms => .ok (.bl (HT.lexLt ns ms)) st
    | _, _ => .bad)
  | _, _ => .bad
def leP (p q : PV) (st : Sto) : R PV := match p, q with
  | .int i, .int j => .ok (.bl (decide (i ≤ j))) st
  | .str i, .str j => .ok (.bl (!decide (j.cps.toList < i.cps.toList))) st
  | _, _ => .bad
def gtP : PV → PV → Sto → R PV := intP fun i j => .bl (decide (j < i))
def geP : PV → PV → Sto → R PV := intP fun i j => .bl (decide (j ≤ i))
def flatP : PV → Bool
  | .non => true
  | .bl _ => true
  | .int _ => true
  | .str _ => true
  | _ => false
def inQ (neg : Bool) (p q : PV) (st : Sto) : R PV :=
  let go (xs : List PV) : R PV := if flatP p = true ∧ xs.all flatP = true then .ok (.bl (if neg then !xs.any (fun y => eqvP y p) else xs.any (fun y => eqvP y p))) st else .bad
  match q with
  | .tup xs => go xs
  | .ref j => (match getL st j with
    | some xs => go xs
    | none => .bad)
  | _ => .bad
section
variable {G : Gx} {E : XK} {ι : List Addr} {H : Hp} {st : Sto}
theorem ints_of : ∀ {ps : List PV} {ns : List Int} {vs : List V}, intsOf ps = some ns → RepL G ι H ps vs → vs = ns.map V.int
  | [], ns, vs, e, r => by cases e; exact r
  | .int i :: ps, ns, vs, e, r => by
    obtain ⟨v, us, rfl, h1, h2⟩ := r
    have e : (intsOf ps).map (i :: ·) = some ns := e
    cases z : intsOf ps with
    | none => rw [z] at e; cases e
    | some ms =>
      rw [z] at e
      cases e
      rw [show v = _ from h1, ints_of z h2]
      rfl
  | .non :: ps, ns, vs, e, r => by cases e
  | .bl _ :: ps, ns, vs, e, r => by cases e
  | .str _ :: ps, ns, vs, e, r => by cases e
  | .tup _ :: ps, ns, vs, e, r => by cases e
  | .ref _ :: ps, ns, vs, e, r => by cases e
  | .ty _ :: ps, ns, vs, e, r => by cases e
  | .gl _ :: ps, ns, vs, e, r => by cases e
theorem s2_lt : S2 G E (rLtA G.K) ltP := by
  intro p q x y st ι H Q s rp rq h
  unfold ltP at h
  split at h
  · exact .inl ⟨_, _, rp, rq, h.here s _ rfl⟩
  · exact .inr (.inl ⟨_, _, rp, rq, h.here s _ rfl⟩)
  · split at h
    · rename_i ns ms e1 e2
      obtain ⟨a, vs, rfl, h1, h2⟩ := rp
      obtain ⟨b, us, rfl, h3, h4⟩ := rq
      rw [ints_of e1 h2] at h1
      rw [ints_of e2 h4] at h3
      exact .inr (.inr ⟨a, b, ns, ms, rfl, rfl, h1, h3, h.here s _ rfl⟩)
    · exact h.elim
  · exact h.elim
theorem s2_le : S2 G E rLeA leP := by
  intro p q x y st ι H Q s rp rq h
  unfold leP at h
  split at h
  · exact .inl ⟨_, _, rp, rq, h.here s _ rfl⟩
  · exact .inr ⟨_, _, rp, rq, h.here s _ rfl⟩
  · exact h.elim
theorem s2_gt : S2 G E (rI0 fun i j => .bl (decide (j < i))) gtP := s2_int fun _ _ _ _ => rfl
theorem s2_ge : S2 G E (rI0 fun i j => .bl (decide (j ≤ i))) geP := s2_int fun _ _ _ _ => rfl
theorem flat_of {p : PV} {x : V} (f : flatP p = true) (r : Rep G ι H p x) : flatV x = true := by
  cases p with
  | non => rw [show x = _ from r]; rfl
  | bl b => rw [show x = _ from r]; rfl
  | int b => rw [show x = _ from r]; rfl
  | str b => rw [show x = _ from r]; rfl
  | _ => cases f
theorem eqV_of {p q : PV} {x y : V} (f : flatP p = true) (g : flatP q = true) (r : Rep G ι H p x) (r' : Rep G ι H q y) : eqV x y = eqvP p q := by
  cases p with
  | non => rw [show x = _ from r]; cases q with
    | non => rw [show y = _ from r']; rfl
    | bl b => rw [show y = _ from r']; rfl
    | int b => rw [show y = _ from r']; rfl
    | str b => rw [show y = _ from r']; rfl
    | _ => cases g
  | bl b => rw [show x = _ from r]; cases q with
    | non => rw [show y = _ from r']; rfl
    | bl b => rw [show y = _ from r']; rfl
    | int b => rw [show y = _ from r']; rfl
    | str b => rw [show y = _ from r']; rfl
    | _ => cases g
  | int b => rw [show x = _ from r]; cases q with
    | non => rw [show y = _ from r']; rfl
    | bl b => rw [show y = _ from r']; rfl
    | int b => rw [show y = _ from r']; rfl
    | str b => rw [show y = _ from r']; rfl
    | _ => cases g
  | str b => rw [show x = _ from r]; cases q with
    | non => rw [show y = _ from r']; rfl
    | bl b => rw [show y = _ from r']; rfl
    | int b => rw [show y = _ from r']; rfl
    | str b => rw [show y = _ from r']; rfl
    | _ => cases g
  | _ => cases f
theorem any_of {p : PV} {x : V} (f : flatP p = true) (r : Rep G ι H p x) : ∀ {ps : List PV} {vs : List V}, ps.all flatP = true → RepL G ι H ps vs → vs.all flatV = true ∧ inV x vs = ps.any fun y => eqvP y p
  | [], vs, _, h => by rw [show vs = [] from h]; exact ⟨rfl, rfl⟩
  | q :: ps, vs, a, h => by
    obtain ⟨v, us, rfl, h1, h2⟩ := h
    rw [List.all_cons, Bool.and_eq_true] at a
    obtain ⟨z1, z2⟩ := any_of f r a.2 h2
    refine ⟨by rw [List.all_cons, flat_of a.1 h1, z1]; rfl, ?_⟩
    unfold inV at z2 ⊢
    rw [List.any_cons, List.any_cons, z2, eqV_of a.1 f h1 r]
theorem s2_inQ (neg : Bool) : S2 G E (rIn G.K neg) (inQ neg) := by
  intro p q x y st ι H Q s rp rq h
  unfold inQ at h
  dsimp only at h
  split at h
  · split at h
    · rename_i hf
      obtain ⟨a, vs, rfl, h1, h2⟩ := rq
      obtain ⟨z1, z2⟩ := any_of hf.1 rp hf.2 h2
      exact ⟨a, vs, rfl, .inr h1, flat_of hf.1 rp, z1, by rw [z2]; exact h.here s _ rfl⟩
    · exact h.elim
  · split at h
    · rename_i xs e
      split at h
      · rename_i hf
        obtain ⟨a, ha, rfl⟩ := rq
        obtain ⟨vs, h1, h2⟩ := s.lstAt ha e
        obtain ⟨z1, z2⟩ := any_of hf.1 rp hf.2 h2
        exact ⟨a, vs, rfl, .inl (.inl h1), flat_of hf.1 rp, z1, by rw [z2]; exact h.here s _ rfl⟩
      · exact h.elim
    · exact h.elim
  · exact h.elim
end
end Pu

namespace Pu
open PySem PySem.Spec PyProof.Rows L2 My
def iSeq (K : PySem.W.Frag) (tl : TE) : TI := fun σ H R => tl σ H fun x H1 => (∃ a, x = .ref a ∧ (∃ xs, SqL K H1 a xs) ∧ R (Itl K a) H1) ∨ (∃ a, x = .ref a ∧ (∃ xs, SqT K H1 a xs) ∧ R (Itt K a) H1) ∨ (∃ z, x = .str z ∧ R (Its z) H1)
theorem pi_seq {X : Cx} {K : PySem.W.Frag} {tg l : Expr} {tl : TE} (hK : X.K = K) (hl : PE X l tl) : PI X tg l (iSeq K tl) := by
  subst hK
  intro pins s σ H R I h
  refine thn (hl pins s σ H _ I h) fun v s1 ⟨x, H1, I1, r1, q1⟩ => ?_
  rcases q1 with ⟨a, e, ⟨xs, hq⟩, q⟩ | ⟨a, e, ⟨xs, hq⟩, q⟩ | ⟨z, e, q⟩
  · subst e
    cases r1
    obtain ⟨its, rv, p, hz⟩ := I1.list hq
    refine wpAny_pyIter_list p.isList ?_
    refine ⟨s1.heap.objs.size, [s1.heap.objs.size], _, _, H1, rfl, I1.kept (t' := s1.toks) fun b o e => Heap.get?_push_of_some _ e, turn_list a _, ⟨_, Heap.get?_push_size _ rfl, rfl, rfl⟩, fun b hb => ?_, q⟩
    have e : b = s1.heap.objs.size := by simpa using hb
    subst e
    exact I1.fpOk (Nat.le_refl _) (I1.hok.fresh (Nat.le_refl _))
  · subst e
    cases r1
    obtain ⟨its, rv, p, hz⟩ := I1.tuple hq
    refine wpAny_pyIter_tuple (show s1.heap.IsTuple a its.toArray from p) ?_
    refine ⟨s1.heap.objs.size, [s1.heap.objs.size], _, _, H1, rfl, I1.kept (t' := s1.toks) fun b o e => Heap.get?_push_of_some _ e, turn_tuple a _, ⟨_, Heap.get?_push_size _ rfl, rfl, rfl⟩, fun b hb => ?_, q⟩
    have e : b = s1.heap.objs.size := by simpa using hb
    subst e
    exact I1.fpOk (Nat.le_refl _) (I1.hok.fresh (Nat.le_refl _))
  · subst e
    obtain ⟨t, rfl⟩ := r1
    cases ha : z.cps.all (· < 128)
    · exact wpAny_pyIter_wide ha (pi_one (tk := s1.toks) I1 _ (turn_str _ z t "str_iterator" (.inr rfl)) ⟨_, Heap.get?_push_size _ rfl, rfl, rfl⟩ q)
    · exact wpAny_pyIter_ascii ha (pi_one (tk := s1.toks) I1 _ (turn_str _ z t "str_ascii_iterator" (.inl rfl)) ⟨_, Heap.get?_push_size _ rfl, rfl, rfl⟩ q)
inductive IT where
  | items (xs : List PV) | ofL (j : Nat) | zipI (p q : PV) | enI (p : PV)
def seqOf (st : Sto) : PV → Option (List PV)
  | .tup xs => some xs
  | .ref j => getL st j
  | _ => none
def nextP : IT → Nat → Sto → Option (Option PV)
  | .items xs, i, _ => some xs[i]?
  | .ofL j, i, st => (getL st j).map fun ys => ys[i]?
  | .zipI p q, i, st => (seqOf st p).bind fun xs => (seqOf st q).map fun ys => xs[i]?.bind fun x => ys[i]?.map fun y => .tup [x, y]
  | .enI p, i, st => (seqOf st p).map fun xs => xs[i]?.map fun x => .tup [.int (i : Nat), x]
def fuelP : IT → Sto → Nat
  | .items xs, _ => xs.length + 1
  | .ofL j, st => ((getL st j).getD []).length + 1
  | .zipI p _, st => ((seqOf st p).getD []).length + 1
  | .enI p, st => ((seqOf st p).getD []).length + 1
abbrev MI := Env → Sto → R IT
def SIt (G : Gx) (ι : List Addr) (H : Hp) (J : It) (it : IT) : Prop := ∀ ι1 H1 st1, Ext ι H ι1 H1 → SR G ι1 H1 st1 → ∀ i r, nextP it i st1 = some r → match r with
  | none => J.stop i H1
  | some p => J.go i H1 ∧ ∀ x H2, J.yld i H1 x H2 → Ext ι1 H1 ι1 H2 ∧ SR G ι1 H2 st1 ∧ Rep G ι1 H2 p x
def SI (G : Gx) (E : XK) (wi : TI) (m : MI) : Prop := ∀ ρ σ st ι H RR, SR G ι H st → ER G ι H ρ σ → Ok G E ι H (m ρ st) (fun it _ ι1 H1 => ∀ J, SIt G ι1 H1 J it → RR J H1) → wi σ H RR
def iSeqP (a : ME) : MI := fun ρ st => (a ρ st).bind fun p st => match p with
  | .tup xs => .ok (.items xs) st
  | .ref j => (match getL st j with
    | some _ => .ok (.ofL j) st
    | none => .bad)
  | .str z => .ok (.items (z.cps.toList.map fun c => .str ⟨#[c]⟩)) st
  | _ => .bad
def rangeP (lo : Int) (n : Nat) : List PV := (List.range n).map fun k => .int (lo + (k : Nat))
def iR1 (a : MA) : MI := fun ρ st => (a ρ st).bind fun ps st => match ps with
  | [.int j] => if -(2 ^ 62) ≤ j ∧ j < 2 ^ 62 then .ok (.items (rangeP 0 j.toNat)) st else .bad
  | _ => .bad
section
variable {G : Gx} {E : XK} {ι : List Addr} {H : Hp} {st : Sto} {ta tb tc : TE} {a b c : ME} {t : TA} {m : MA}
theorem sit_tup {a : Addr} {xs : List PV} {vs : List V} (s : SR G ι H st) (h : SqT G.K H a vs) (r : RepL G ι H xs vs) : SIt G ι H (Itt G.K a) (.items xs) := by
  intro ι1 H1 st1 x1 s1 i r' e
  have e : some xs[i]? = some r' := e
  cases e
  have h1 := SqT.ext s x1 h
  have r1 := r.ext s x1
  cases z : xs[i]? with
  | none =>
    have hl : xs.length ≤ i := List.getElem?_eq_none_iff.mp z
    exact ⟨vs, h1, by rw [← r1.length]; exact hl⟩
  | some p =>
    obtain ⟨v, h2, h3⟩ := r1.get z
    refine ⟨⟨vs, v, h1, h2⟩, fun x H2 hy => ?_⟩
    obtain ⟨rfl, hy⟩ := hy
    have hx := hy vs h1
    rw [h2] at hx
    cases hx
    exact ⟨Ext.refl, s1, h3⟩
theorem sit_lst {j : Nat} {a : Addr} (ha : ι[j]? = some a) : SIt G ι H (Itl G.K a) (.ofL j) := by
  intro ι1 H1 st1 x1 s1 i r' e
  have e : (getL st1 j).map (fun ys => ys[i]?) = some r' := e
  cases z : getL st1 j with
  | none => rw [z] at e; cases e
  | some ys =>
    rw [z] at e
    cases e
    dsimp only
    obtain ⟨vs, h1, h2⟩ := s1.lstAt (x1.get ha) z
    cases z2 : ys[i]? with
    | none => exact ⟨vs, .inl h1, by rw [← h2.length]; exact List.getElem?_eq_none_iff.mp z2⟩
    | some p =>
      obtain ⟨v, h3, h4⟩ := h2.get z2
      refine ⟨⟨vs, v, .inl h1, h3⟩, fun x H2 hy => ?_⟩
      obtain ⟨rfl, hy⟩ := hy
      have hx := hy vs (.inl h1)
      rw [h3] at hx
      cases hx
      exact ⟨Ext.refl, s1, h4⟩
theorem sit_rng {lo : Int} {n : Nat} : SIt G ι H (Itr lo n) (.items (rangeP lo n)) := by
  intro ι1 H1 st1 x1 s1 i r' e
  have e : some (rangeP lo n)[i]? = some r' := e
  cases e
  unfold rangeP
  rw [List.getElem?_map]
  by_cases hi : i < n
  · rw [List.getElem?_range hi]
    refine ⟨hi, fun x H2 hy => ?_⟩
    obtain ⟨rfl, rfl⟩ := hy
    exact ⟨Ext.refl, s1, rfl⟩
  · rw [List.getElem?_eq_none (by rw [List.length_range]; omega)]
    show n ≤ i
    omega
theorem sit_str {z : Str} : SIt G ι H (Its z) (.items (z.cps.toList.map fun c => PV.str ⟨#[c]⟩)) := by
  intro ι1 H1 st1 x1 s1 i r' e
  have e : some (z.cps.toList.map fun c => PV.str ⟨#[c]⟩)[i]? = some r' := e
  cases e
  rw [List.getElem?_map, Array.getElem?_toList]
  cases hc : z.cps[i]? with
  | none =>
    have : z.cps.size ≤ i := Array.getElem?_eq_none_iff.mp hc
    exact this
  | some c =>
    have hi : i < z.cps.size := (Array.getElem?_eq_some_iff.mp hc).1
    refine ⟨hi, fun x H2 hy => ?_⟩
    obtain ⟨rfl, d, hd, rfl⟩ := hy
    rw [hc] at hd
    cases hd
    exact ⟨Ext.refl, s1, rfl⟩
theorem si_seq (ha : SE G E ta a) : SI G E (iSeq G.K ta) (iSeqP a) := by
  intro ρ σ st ι H RR s e h
  refine ha ρ σ st ι H _ s e (h.bind.mono fun p st1 ι1 H1 x1 s1 h1 v hv => ?_)
  cases p with
  | tup xs =>
    obtain ⟨b, vs, rfl, h2, h3⟩ := hv
    exact .inr (.inl ⟨b, rfl, ⟨vs, h2⟩, Ok.here (E := E) (st := st1) (a := IT.items xs) (P := fun it _ ι1 H1 => ∀ J, SIt G ι1 H1 J it → RR J H1) s1 h1 _ (sit_tup s1 h2 h3)⟩)
  | ref j =>
    obtain ⟨b, hb, rfl⟩ := hv
    have h1 : Ok G E ι1 H1 (match getL st1 j with | some _ => R.ok (IT.ofL j) st1 | none => .bad) (fun it _ ι1 H1 => ∀ J, SIt G ι1 H1 J it → RR J H1) := h1
    split at h1
    · rename_i xs hx
      obtain ⟨vs, h2, h3⟩ := s1.lstAt hb hx
      exact .inl ⟨b, rfl, ⟨vs, .inl h2⟩, h1.here s1 _ (sit_lst hb)⟩
    · exact h1.elim
  | str z => exact .inr (.inr ⟨z, hv, Ok.here (E := E) (st := st1) (a := IT.items (z.cps.toList.map fun c => PV.str ⟨#[c]⟩)) (P := fun it _ ι1 H1 => ∀ J, SIt G ι1 H1 J it → RR J H1) s1 h1 _ sit_str⟩)
  | _ => exact h1.elim
theorem si_r1 (ha : SA G E t m) : SI G E (iRng1 t) (iR1 m) := by
  intro ρ σ st ι H RR s e h
  refine ha ρ σ st ι H _ s e (h.bind.mono fun ps st1 ι1 H1 x1 s1 h1 vs hv => ?_)
  split at h1
  · split at h1
    · rename_i hc
      obtain ⟨v, r, rfl, e1, e2⟩ := hv
      cases (show r = [] from e2)
      exact ⟨_, by rw [show v = _ from e1], hc.1, hc.2, h1.here s1 _ sit_rng⟩
    · exact h1.elim
  · exact h1.elim
end
def forGo (it : IT) (g : MG) (body : MS) : Nat → Nat → Env → Sto → R SO
  | 0, _, _, _ => .bad
  | n + 1, i, ρ, st => match nextP it i st with
    | none => .bad
    | some none => .ok (.nx ρ) st
    | some (some p) => (g p ρ st).bind fun ρ st => (body ρ st).bind fun so st => match so with
      | .nx ρ => forGo it g body n (i + 1) ρ st
      | .ct ρ => forGo it g body n (i + 1) ρ st
      | .bk ρ => .ok (.nx ρ) st
      | .rt v => .ok (.rt v) st
def sFor (mi : MI) (g : MG) (body : MS) : MS := fun ρ st => (mi ρ st).bind fun it st => forGo it g body (fuelP it st) 0 ρ st
section
variable {G : Gx} {E : XK} {ta tb tc : TE} {a b c : ME} {g : TG} {mg : MG} {ts : TS} {ms : MS} {wi : TI} {mi : MI}
theorem ss_for (hi : SI G E wi mi) (hg : SGa G E g mg) (hb : SS G E ts ms) : SS G E (tFor wi g ts) (sFor mi mg ms) := by
  intro ρ σ st ι H D s e h
  refine hi ρ σ st ι H _ s e (h.bind.mono fun it st1 ι1 H1 x1 s1 h1 J hJ => ?_)
  refine ⟨fun i m σ2 H2 => ∃ ρ2 st2 ι2, Ext ι1 H1 ι2 H2 ∧ SR G ι2 H2 st2 ∧ ER G ι2 H2 ρ2 σ2 ∧ Ok G E ι2 H2 (forGo it mg ms m i ρ2 st2) (QS G D), ⟨fuelP it st1, ρ, st1, ι1, Ext.refl, s1, e.ext s x1, h1⟩, ?_⟩
  rintro i m σ2 H2 ⟨ρ2, st2, ι2, x2, s2, e2, h2⟩
  cases m with
  | zero => exact h2.elim
  | succ n =>
    unfold forGo at h2
    have hj := hJ ι2 H2 st2 x2 s2 i
    split at h2
    · exact h2.elim
    · rename_i hn
      exact .inl ⟨hj _ hn, h2.here s2 _ e2⟩
    · rename_i p hn
      obtain ⟨hgo, hy⟩ := hj _ hn
      refine .inr ⟨hgo, fun σ3 H3 => ∃ ρ3 st3 ι3, Ext ι1 H1 ι3 H3 ∧ SR G ι3 H3 st3 ∧ ER G ι3 H3 ρ3 σ3 ∧ Ok G E ι3 H3 (forGo it mg ms n (i + 1) ρ3 st3) (QS G D), fun σ' H' q => ⟨n, Nat.lt_succ_self _, q⟩, fun x H3 y => ?_⟩
      obtain ⟨x3, s3, r3⟩ := hy x H3 y
      have h2 := h2.ext x3
      refine hg p x ρ2 σ2 st2 ι2 H3 _ s3 (e2.ext s2 x3) r3 (h2.bind.mono fun ρ4 st4 ι4 H4 x4 s4 h4 σ4 e4 _ => ?_)
      refine hb ρ4 σ4 st4 ι4 H4 _ s4 e4 (h4.bind.mono fun so st5 ι5 H5 x5 s5 h5 => ?_)
      have xx := ((x2.trans x3).trans x4).trans x5
      cases so with
      | nx ρ5 => exact fun σ5 e5 => ⟨ρ5, st5, ι5, xx, s5, e5, h5⟩
      | ct ρ5 => exact fun σ5 e5 => ⟨ρ5, st5, ι5, xx, s5, e5, h5⟩
      | bk ρ5 => exact fun σ5 e5 => (Ok.here (E := E) (P := QS G D) (a := SO.nx ρ5) s5 h5) σ5 e5
      | rt v => exact Ok.here (E := E) (P := QS G D) (a := SO.rt v) s5 h5
end
end Pu

namespace Pu
open PySem PySem.Spec PyProof.Rows L2 My
theorem Ok.bind0 {G : Gx} {E : XK} {ι : List Addr} {H : Hp} {α β : Type} {r : R α} {f : α → Sto → R β} {P : β → Sto → List Addr → Hp → Prop} (h : Ok G E ι H (r.bind f) P) : Ok G E ι H r (fun a st1 _ _ => Ok G E ι H (f a st1) P) := by
  cases r with
  | ok a st' => exact fun ι' H' y s => h
  | exc c st' => exact h
  | bad => exact h
section
variable {G : Gx} {E : XK} {ι ι1 : List Addr} {H H1 : Hp} {st : Sto}
mutual
theorem Rep.mono (k : ∀ a vs, SqT G.K H a vs → SqT G.K H1 a vs) (j : ∀ (i : Nat) a, ι[i]? = some a → ι1[i]? = some a) : ∀ {p : PV} {v : V}, Rep G ι H p v → Rep G ι1 H1 p v
  | .non, v, h => h
  | .bl b, v, h => h
  | .int i, v, h => h
  | .str _, v, h => h
  | .tup xs, v, h => by
    obtain ⟨a, vs, e, h1, h2⟩ := h
    exact ⟨a, vs, e, k _ _ h1, RepL.mono k j h2⟩
  | .ref i, v, h => by
    obtain ⟨a, e, h1⟩ := h
    exact ⟨a, j _ _ e, h1⟩
  | .ty n, v, h => h
  | .gl n, v, h => h
theorem RepL.mono (k : ∀ a vs, SqT G.K H a vs → SqT G.K H1 a vs) (j : ∀ (i : Nat) a, ι[i]? = some a → ι1[i]? = some a) : ∀ {ps : List PV} {vs : List V}, RepL G ι H ps vs → RepL G ι1 H1 ps vs
  | [], vs, h => h
  | p :: ps, vs, h => by
    obtain ⟨v, r, e, h1, h2⟩ := h
    exact ⟨v, r, e, Rep.mono k j h1, RepL.mono k j h2⟩
end
theorem SqT.updL {D : Addr} {ws us : List V} (e : H D = some (.lst ws)) : ∀ a vs, SqT G.K H a vs → SqT G.K (upd H D (.lst us)) a vs := fun a vs h => by
  rcases h with (h | ⟨o, h⟩) | h
  · have n : a ≠ D := ne_of h e (by nofun)
    exact .inl (.inl (by rw [upd_ne n]; exact h))
  · have n : a ≠ D := ne_of h e (by nofun)
    exact .inl (.inr ⟨o, by rw [upd_ne n]; exact h⟩)
  · exact .inr h
theorem SR.updL {D : Addr} {ws us : List V} (s : SR G ι H st) (nD : D ∉ ι) (e : H D = some (.lst ws)) : SR G ι (upd H D (.lst us)) st := by
  refine ⟨s.len, s.nd, fun i a o h1 h2 => ?_, fun a ha => ?_⟩
  · have na : a ≠ D := fun z => nD (by rw [← z]; exact List.mem_of_getElem? h1)
    have q := s.ob i a o h1 h2
    cases o with
    | lst xs =>
      obtain ⟨zs, h3, h4⟩ := q
      exact ⟨zs, by rw [upd_ne na]; exact h3, h4.mono (SqT.updL e) fun _ _ z => z⟩
    | fro xs =>
      obtain ⟨zs, h3, h4⟩ := q
      refine ⟨zs, ?_, h4.mono (SqT.updL e) fun _ _ z => z⟩
      rcases h3 with h3 | ⟨o, h3⟩
      · exact .inl (by rw [upd_ne na]; exact h3)
      · exact .inr ⟨o, by rw [upd_ne na]; exact h3⟩
    | dic _ _ => obtain ⟨zs, h3, h4, h5⟩ := q; exact ⟨zs, by rw [upd_ne na]; exact h3, h4.mono (SqT.updL e) fun _ _ z => z, h5⟩
    | dit _ _ => obtain ⟨zs, h3, h4, h5⟩ := q; exact ⟨zs, by rw [upd_ne na]; exact h3, h4.mono (SqT.updL e) fun _ _ z => z, h5⟩
    | ins _ _ => exact q
  · obtain ⟨h1, h2⟩ := s.tab a ha
    have na : a ≠ D := ne_of h1 e (by unfold tabO; nofun)
    exact ⟨by rw [upd_ne na]; exact h1, h2⟩
end
def wipeP (ρ : Env) : List Nat → Env
  | [] => ρ
  | v :: vs => (wipeP ρ vs).set v none
theorem ER.wipe {G : Gx} {ι : List Addr} {H : Hp} {ρ : Env} {σ : L2.St} (e : ER G ι H ρ σ) : ∀ vs, ER G ι H (wipeP ρ vs) (L2.wipe σ vs)
  | [] => e
  | v :: vs => (ER.wipe e vs).none v
theorem wipe_wipe_set (σ : L2.St) : ∀ vs : List Nat, L2.wipe (L2.wipe σ vs) vs = L2.wipe σ vs := by
  intro vs
  have key : ∀ (us : List Nat) (τ : L2.St), (∀ i ∈ us, τ[i]? = some none ∨ τ[i]? = none) → L2.wipe τ us = τ := by
    intro us
    induction us with
    | nil => intro τ _; rfl
    | cons u us ih =>
      intro τ h
      show (L2.wipe τ us).set u none = τ
      rw [ih τ fun i hi => h i (List.mem_cons_of_mem _ hi)]
      apply List.ext_getElem?
      intro i
      rw [List.getElem?_set]
      by_cases c : u = i
      · subst c
        rw [if_pos rfl]
        rcases h u List.mem_cons_self with z | z
        · rw [z, if_pos (List.getElem?_eq_some_iff.mp z).1]
        · rw [z, if_neg (by rw [List.getElem?_eq_none_iff] at z; omega)]
      · rw [if_neg c]
  have key2 : ∀ (us : List Nat) (i : Nat), i ∈ us → (L2.wipe σ us)[i]? = some none ∨ (L2.wipe σ us)[i]? = none := by
    intro us
    induction us with
    | nil => intro i hi; simp at hi
    | cons u us ih =>
      intro i hi
      show ((L2.wipe σ us).set u none)[i]? = some none ∨ ((L2.wipe σ us).set u none)[i]? = none
      rw [List.getElem?_set]
      by_cases c : u = i
      · rw [if_pos c]
        split
        · exact .inl rfl
        · exact .inr rfl
      · rw [if_neg c]
        rcases List.mem_cons.mp hi with z | z
        · exact absurd z.symm c
        · exact ih i z
  exact key vs _ fun i hi => key2 vs i hi
def lcGo (it : IT) (g : MG) (c : MT) (e : ME) (vs : List Nat) : Nat → Nat → Env → List PV → Sto → R PV
  | 0, _, _, _, _ => .bad
  | n + 1, i, ρ, acc, st => match nextP it i st with
    | none => .bad
    | some none => new (.lst acc) st
    | some (some p) => (g p (wipeP ρ vs) st).bind fun ρ1 st => (c ρ1 st).bind fun k st => if k = true then (e ρ1 st).bind fun y st => (if acc.length < 100000 then lcGo it g c e vs n (i + 1) ρ (acc ++ [y]) st else .bad) else lcGo it g c e vs n (i + 1) ρ acc st
def eLc (mi : MI) (g : MG) (c : MT) (e : ME) (vs : List Nat) : ME := fun ρ st => (mi ρ st).bind fun it st => lcGo it g c e vs (fuelP it st) 0 ρ [] st
def tYesP : MT := fun _ st => .ok true st
section
variable {G : Gx} {E : XK} {ta tb tc te : TE} {a b c me : ME} {g : TG} {mg : MG} {ts : TS} {ms : MS} {wi : TI} {mi : MI} {tt : TT} {mt : MT} {vs : List Nat}
theorem st_yes : ST G E tYes tYesP := by
  intro ρ σ st ι H Q s e h
  exact h.here s
theorem se_lc (hi : SI G E wi mi) (hg : SG G E g mg vs) (ht : ST G E tt mt) (he : SE G E te me) : SE G E (tLc wi g tt te vs) (eLc mi mg mt me vs) := by
  intro ρ σ st ι H Q s e h
  refine hi ρ σ st ι H _ s e (h.bind.mono fun it st1 ι1 H1 x1 s1 h1 J hJ => ?_)
  intro D hD
  have e1 := e.ext s x1
  have nD : D ∉ ι1 := s1.fresh hD
  have xD : Ext ι1 H1 ι1 (upd H1 D (.lst [])) := ext_new (st := st1) hD
  have sD : SR G ι1 (upd H1 D (.lst [])) st1 := by
    have z := sr_new (vs := []) s1 hD
    have z2 : SR G ι1 (upd (upd H1 D (.tup [])) D (.lst [])) st1 := by
      refine ⟨z.len, z.nd, fun i a o h1 h2 => ?_, fun a ha => ?_⟩
      · have na : a ≠ D := fun w => nD (by rw [← w]; exact List.mem_of_getElem? h1)
        refine (s1.ob i a o h1 h2).ext s1 (by rw [upd_upd]; exact xD) ?_
        rw [upd_upd, upd_ne na]
      · obtain ⟨q1, q2⟩ := s1.tab a ha
        rw [upd_upd]
        exact ⟨(xD.keep _ _ q1 q2).1, q2⟩
    rw [upd_upd] at z2
    exact z2
  refine ⟨fun i m H2 => ∃ acc us st2 ι2, Ext ι1 H1 ι2 H2 ∧ SR G ι2 H2 st2 ∧ D ∉ ι2 ∧ H2 D = some (.lst us) ∧ RepL G ι2 H2 acc us ∧ Ok G E ι1 H1 (lcGo it mg mt me vs m i ρ acc st2) (QV G Q),
    ⟨fuelP it st1, [], [], st1, ι1, xD, sD, nD, upd_same, rfl, h1⟩, ?_⟩
  rintro i m H2 ⟨acc, us, st2, ι2, x2, s2, nD2, hD2, r2, h2⟩
  cases m with
  | zero => exact h2.elim
  | succ n =>
    unfold lcGo at h2
    have hj := hJ ι2 H2 st2 x2 s2 i
    split at h2
    · exact h2.elim
    · rename_i hn
      refine .inl ⟨hj _ hn, ?_⟩
      have x3 : Ext ι1 H1 (ι2 ++ [D]) H2 := by
        obtain ⟨t, et⟩ := x2.pre
        refine ⟨⟨t ++ [D], by rw [et, List.append_assoc]⟩, fun a u q1 q2 => ?_⟩
        obtain ⟨q3, q4⟩ := x2.keep a u q1 q2
        refine ⟨q3, fun z => ?_⟩
        rcases List.mem_append.mp z with z | z
        · exact q4 z
        · rw [List.mem_singleton] at z
          exact ne_of_none q1 hD z
      have s3 : SR G (ι2 ++ [D]) H2 (st2 ++ [.lst acc]) := by
        have mono : ∀ {p : List PV} {w : List V}, RepL G ι2 H2 p w → RepL G (ι2 ++ [D]) H2 p w := fun z => z.mono (fun _ _ y => y) fun i a y => by rw [List.getElem?_append_left (List.getElem?_eq_some_iff.mp y).1]; exact y
        refine ⟨by rw [List.length_append, List.length_append, s2.len]; rfl, ?_, fun j b o q1 q2 => ?_, fun b hb => ?_⟩
        · rw [List.nodup_append]
          refine ⟨s2.nd, by simp, fun b hb c hc => ?_⟩
          rw [List.mem_singleton] at hc
          rintro rfl
          exact nD2 (by rw [← hc]; exact hb)
        · by_cases hji : j < ι2.length
          · rw [List.getElem?_append_left hji] at q1
            rw [List.getElem?_append_left (by rw [← s2.len]; exact hji)] at q2
            have q := s2.ob j b o q1 q2
            cases o with
            | lst xs => obtain ⟨w, w1, w2⟩ := q; exact ⟨w, w1, mono w2⟩
            | fro xs => obtain ⟨w, w1, w2⟩ := q; exact ⟨w, w1, mono w2⟩
            | dic _ _ => obtain ⟨w, w1, w2, w3⟩ := q; exact ⟨w, w1, mono w2, w3⟩
            | dit _ _ => obtain ⟨w, w1, w2, w3⟩ := q; exact ⟨w, w1, mono w2, w3⟩
            | ins _ _ => exact q
          · rw [List.getElem?_append_right (by omega)] at q1
            rw [List.getElem?_append_right (by rw [← s2.len]; omega)] at q2
            rw [← s2.len] at q2
            cases hk : j - ι2.length with
            | zero =>
              rw [hk] at q1 q2
              simp at q1 q2
              subst q1 q2
              exact ⟨us, hD2, mono r2⟩
            | succ k =>
              rw [hk] at q1
              simp at q1
        · obtain ⟨q1, q2⟩ := s2.tab b hb
          refine ⟨q1, fun z => ?_⟩
          rcases List.mem_append.mp z with z | z
          · exact q2 z
          · rw [List.mem_singleton] at z
            rw [z, hD2] at q1
            cases q1
      exact h2 _ _ x3 s3 _ ⟨D, by rw [← s2.len, List.getElem?_append_right (Nat.le_refl _)]; simp, rfl⟩
    · rename_i p hn
      obtain ⟨hgo, hy⟩ := hj _ hn
      refine .inr ⟨hgo, fun H3 => ∃ acc us st3 ι3, Ext ι1 H1 ι3 H3 ∧ SR G ι3 H3 st3 ∧ D ∉ ι3 ∧ H3 D = some (.lst us) ∧ RepL G ι3 H3 acc us ∧ Ok G E ι1 H1 (lcGo it mg mt me vs n (i + 1) ρ acc st3) (QV G Q), fun H' q => ⟨n, Nat.lt_succ_self _, q⟩, fun x H3 y => ?_⟩
      obtain ⟨x3, s3, r3⟩ := hy x H3 y
      have xx3 := x2.trans x3
      have e3 : ER G ι2 H3 (wipeP ρ vs) (L2.wipe σ vs) := (e1.ext s1 xx3).wipe vs
      obtain ⟨hD3, nD3⟩ := x3.keep D _ hD2 nD2
      refine hg p x (wipeP ρ vs) (L2.wipe σ vs) st2 ι2 H3 _ s3 e3 r3 ((h2.bind0.ext xx3).mono fun ρ4 st4 ι4 H4 x4 s4 h4 σ4 e4 w4 => ?_)
      refine ⟨w4.trans (wipe_wipe_set σ vs), ?_⟩
      have xx4 := xx3.trans x4
      obtain ⟨hD4, nD4⟩ := x4.keep D _ hD3 nD3
      have r4 := (r2.ext s2 x3).ext s3 x4
      refine ht ρ4 σ4 st4 ι4 H4 _ s4 e4 ((h4.bind0.ext xx4).mono fun k st5 ι5 H5 x5 s5 h5 => ?_)
      have xx5 := xx4.trans x5
      obtain ⟨hD5, nD5⟩ := x5.keep D _ hD4 nD4
      have r5 := r4.ext s4 x5
      show if k = true then _ else _
      by_cases hk : k = true
      · rw [if_pos hk] at h5 ⊢
        refine he ρ4 σ4 st5 ι5 H5 _ s5 (e4.ext s4 x5) ((h5.bind0.ext xx5).mono fun y st6 ι6 H6 x6 s6 h6 v6 r6 => ?_)
        have xx6 := xx5.trans x6
        obtain ⟨hD6, nD6⟩ := x6.keep D _ hD5 nD5
        split at h6
        · rename_i hl
          have r7 := (r5.ext s5 x6)
          refine ⟨us, hD6, ?_, acc ++ [y], us ++ [v6], st6, ι6, ?_, s6.updL nD6 hD6, nD6, upd_same, ?_, h6⟩
          · rw [← r7.length]
            exact Nat.lt_of_lt_of_le hl (by decide)
          · exact ⟨xx6.pre, fun a u q1 q2 => by
              obtain ⟨q3, q4⟩ := xx6.keep a u q1 q2
              exact ⟨by rw [upd_ne (ne_of_none q1 hD)]; exact q3, q4⟩⟩
          · have m1 := r7.mono (SqT.updL (us := us ++ [v6]) hD6) fun _ _ z => z
            have m2 := r6.mono (SqT.updL (us := us ++ [v6]) hD6) fun _ _ z => z
            exact m1.append ⟨v6, [], rfl, m2, rfl⟩
        · exact h6.elim
      · rw [if_neg hk] at h5 ⊢
        exact ⟨acc, us, st5, ι5, xx5, s5, nD5, hD5, r5, h5⟩
end
end Pu

namespace Pu
open PySem PySem.Spec PyProof.Rows L2 My
mutual
def noRef : PV → Bool
  | .ref _ => false
  | .tup xs => noRefL xs
  | .non => true
  | .bl _ => true
  | .int _ => true
  | .str _ => true
  | .ty _ => true
  | .gl _ => true
def noRefL : List PV → Bool
  | [] => true
  | x :: xs => noRef x && noRefL xs
end
def PO.flat : PO → Bool
  | .lst xs => noRefL xs
  | .fro xs => noRefL xs
  | .dic _ xs => noRefL xs
  | .dit _ xs => noRefL xs
  | .ins _ fs => fs.all fun f => noRef f.2
section
variable {G : Gx} {E : XK} {ι ι1 : List Addr} {H H1 : Hp} {st : Sto}
mutual
theorem Rep.noRef : ∀ {p : PV} {v : V}, Pu.noRef p = true → Rep G ι H p v → Rep G ι1 H p v
  | .non, v, _, h => h
  | .bl b, v, _, h => h
  | .int i, v, _, h => h
  | .str _, v, _, h => h
  | .tup xs, v, n, h => by
    obtain ⟨a, vs, e, h1, h2⟩ := h
    exact ⟨a, vs, e, h1, RepL.noRef n h2⟩
  | .ref i, v, n, h => by cases n
  | .ty n, v, _, h => h
  | .gl n, v, _, h => h
theorem RepL.noRef : ∀ {ps : List PV} {vs : List V}, noRefL ps = true → RepL G ι H ps vs → RepL G ι1 H ps vs
  | [], vs, _, h => h
  | p :: ps, vs, n, h => by
    obtain ⟨v, r, e, h1, h2⟩ := h
    have n : (Pu.noRef p && noRefL ps) = true := n
    rw [Bool.and_eq_true] at n
    exact ⟨v, r, e, Rep.noRef n.1 h1, RepL.noRef n.2 h2⟩
end
mutual
/-- refs that were there ahead -/
theorem Rep.back {t : List Addr} : ∀ {p : PV} {v v0 : V}, Rep G ι H p v0 → Rep G (ι ++ t) H1 p v → Rep G ι H1 p v
  | .non, v, _, _, h => h
  | .bl b, v, _, _, h => h
  | .int i, v, _, _, h => h
  | .str _, v, _, _, h => h
  | .tup xs, v, v0, h0, h => by
    obtain ⟨a, vs, e, h1, h2⟩ := h
    obtain ⟨a0, vs0, e0, h10, h20⟩ := h0
    exact ⟨a, vs, e, h1, RepL.back h20 h2⟩
  | .ref i, v, v0, h0, h => by
    obtain ⟨a0, e0, _⟩ := h0
    obtain ⟨a, e, h1⟩ := h
    rw [List.getElem?_append_left (List.getElem?_eq_some_iff.mp e0).1] at e
    exact ⟨a, e, h1⟩
  | .ty n, v, _, _, h => h
  | .gl n, v, _, _, h => h
theorem RepL.back {t : List Addr} : ∀ {ps : List PV} {vs vs0 : List V}, RepL G ι H ps vs0 → RepL G (ι ++ t) H1 ps vs → RepL G ι H1 ps vs
  | [], vs, _, _, h => h
  | p :: ps, vs, vs0, h0, h => by
    obtain ⟨v, r, e, h1, h2⟩ := h
    obtain ⟨v0, r0, e0, h10, h20⟩ := h0
    exact ⟨v, r, e, Rep.back h10 h1, RepL.back h20 h2⟩
end
theorem OR.flat {o : PO} {a : Addr} (f : o.flat = true) (h : OR G ι H o a) : OR G ι1 H o a := by
  cases o with
  | lst xs => obtain ⟨vs, h1, h2⟩ := h; exact ⟨vs, h1, h2.noRef f⟩
  | fro xs => obtain ⟨vs, h1, h2⟩ := h; exact ⟨vs, h1, h2.noRef f⟩
  | dic ks xs => obtain ⟨vs, h1, h2, h3⟩ := h; exact ⟨vs, h1, h2.noRef f, h3⟩
  | dit ks xs => obtain ⟨vs, h1, h2, h3⟩ := h; exact ⟨vs, h1, h2.noRef f, h3⟩
  | ins _ _ => exact h
theorem OR.back {t : List Addr} {o : PO} {a a0 : Addr} (h0 : OR G ι H o a0) (h : OR G (ι ++ t) H1 o a) : OR G ι H1 o a := by
  cases o with
  | lst xs => obtain ⟨vs, h1, h2⟩ := h; obtain ⟨_, _, h3⟩ := h0; exact ⟨vs, h1, h3.back h2⟩
  | fro xs => obtain ⟨vs, h1, h2⟩ := h; obtain ⟨_, _, h3⟩ := h0; exact ⟨vs, h1, h3.back h2⟩
  | dic ks xs => obtain ⟨vs, h1, h2, h4⟩ := h; obtain ⟨_, _, h3, _⟩ := h0; exact ⟨vs, h1, h3.back h2, h4⟩
  | dit ks xs => obtain ⟨vs, h1, h2, h4⟩ := h; obtain ⟨_, _, h3, _⟩ := h0; exact ⟨vs, h1, h3.back h2, h4⟩
  | ins _ _ => exact h
def Clean (st st' : Sto) : Prop := ∀ i o, st'[i]? = some o → i < st.length → st[i]? = some o ∨ o.flat = true
theorem SR.cut {st' : Sto} (s : SR G ι H st) (x : Ext ι H ι1 H1) (s1 : SR G ι1 H1 st') (c : Clean st st') : Ext ι H ι H1 ∧ SR G ι H1 (st'.take st.length) := by
  obtain ⟨t, et⟩ := x.pre
  have hl : st.length ≤ st'.length := by rw [← s.len, ← s1.len, et, List.length_append]; omega
  refine ⟨⟨⟨[], by simp⟩, fun a u h n => ⟨(x.keep a u h n).1, n⟩⟩, by rw [List.length_take, s.len]; omega, s.nd, fun i a o h1 h2 => ?_, fun a ha => ?_⟩
  · rw [List.getElem?_take] at h2
    split at h2
    · rename_i hi
      have h3 := s1.ob i a o (x.get h1) h2
      rcases c i o h2 hi with z | z
      · rw [et] at h3
        exact (s.ob i a o h1 z).back h3
      · exact h3.flat z
    · cases h2
  · obtain ⟨h1, h2⟩ := s.tab a ha
    exact ⟨(x.keep _ _ h1 h2).1, h2⟩
end
open Classical in
noncomputable def gc (st : Sto) (r : R PV) : R PV := match r with
  | .ok v st' => if Clean st st' then
      (if noRef v = true then .ok v (st'.take st.length) else match v with
        | .ref i => (match st'[i]? with
          | some o => if st.length ≤ i ∧ o.flat = true then .ok (.ref st.length) (st'.take st.length ++ [o]) else .ok v st'
          | none => .ok v st')
        | _ => .ok v st')
    else .ok v st'
  | .exc c st' => if Clean st st' then .exc c (st'.take st.length) else .exc c st'
  | .bad => .bad
theorem ok_gc {G : Gx} {E : XK} {ι : List Addr} {H : Hp} {st : Sto} {r : R PV} {Q : VK} (s : SR G ι H st) (h : Ok G E ι H (gc st r) (QV G Q)) : Ok G E ι H r (QV G Q) := by
  cases r with
  | bad => exact h
  | exc c st' =>
    unfold gc at h
    dsimp only at h
    split at h
    · rename_i hc
      obtain ⟨u, e, h⟩ := h
      refine ⟨u, e, fun d ι' H' x s1 => ?_⟩
      obtain ⟨x2, s2⟩ := s.cut x s1 hc
      exact h d ι H' x2 s2
    · exact h
  | ok v st' =>
    unfold gc at h
    dsimp only at h
    split at h
    · rename_i hc
      split at h
      · rename_i hn
        intro ι' H' x s1 v' rv
        obtain ⟨x2, s2⟩ := s.cut x s1 hc
        exact h ι H' x2 s2 v' (rv.noRef hn)
      · split at h
        · rename_i i _
          split at h
          · rename_i o ho
            split at h
            · rename_i hf
              intro ι' H' x s1 v' rv
              obtain ⟨x2, s2⟩ := s.cut x s1 hc
              obtain ⟨a, ha, rfl⟩ := rv
              obtain ⟨t, et⟩ := x.pre
              have hia : ι.length ≤ i := by rw [s.len]; exact hf.1
              have na : a ∉ ι := fun z => by
                obtain ⟨j, hj, ej⟩ := List.getElem_of_mem z
                have q : ι'[j]? = some a := x.get (by rw [List.getElem?_eq_getElem hj, ej])
                have q1 := List.getElem?_eq_some_iff.mp q
                have q2 := List.getElem?_eq_some_iff.mp ha
                have := (List.getElem_inj s1.nd).mp (q1.2.trans q2.2.symm)
                omega
              refine h (ι ++ [a]) H' ?_ ?_ _ ⟨a, by rw [← s.len, List.getElem?_append_right (Nat.le_refl _)]; simp, rfl⟩
              · refine ⟨⟨[a], rfl⟩, fun b u q1 q2 => ?_⟩
                obtain ⟨q3, q4⟩ := x.keep b u q1 q2
                refine ⟨q3, fun z => ?_⟩
                rcases List.mem_append.mp z with z | z
                · exact q2 z
                · rw [List.mem_singleton] at z
                  exact q4 (by rw [z]; exact List.mem_of_getElem? ha)
              · have mono : ∀ {p : List PV} {w : List V}, RepL G ι H' p w → RepL G (ι ++ [a]) H' p w := fun z => z.mono (fun _ _ y => y) fun i a y => by rw [List.getElem?_append_left (List.getElem?_eq_some_iff.mp y).1]; exact y
                refine ⟨by rw [List.length_append, List.length_append, s2.len]; rfl, ?_, fun j b o' q1 q2 => ?_, fun b hb => ?_⟩
                · rw [List.nodup_append]
                  refine ⟨s.nd, by simp, fun b hb c hc => ?_⟩
                  rw [List.mem_singleton] at hc
                  rintro rfl
                  exact na (by rw [← hc]; exact hb)
                · by_cases hji : j < ι.length
                  · rw [List.getElem?_append_left hji] at q1
                    rw [List.getElem?_append_left (by rw [← s2.len]; exact hji)] at q2
                    have q := s2.ob j b o' q1 q2
                    cases o' with
                    | lst xs => obtain ⟨w, w1, w2⟩ := q; exact ⟨w, w1, mono w2⟩
                    | fro xs => obtain ⟨w, w1, w2⟩ := q; exact ⟨w, w1, mono w2⟩
                    | dic _ _ => obtain ⟨w, w1, w2, w3⟩ := q; exact ⟨w, w1, mono w2, w3⟩
                    | dit _ _ => obtain ⟨w, w1, w2, w3⟩ := q; exact ⟨w, w1, mono w2, w3⟩
                    | ins _ _ => exact q
                  · rw [List.getElem?_append_right (by omega)] at q1
                    rw [List.getElem?_append_right (by rw [← s2.len]; omega)] at q2
                    rw [← s2.len] at q2
                    cases hk : j - ι.length with
                    | zero =>
                      rw [hk] at q1 q2
                      simp at q1 q2
                      subst q1 q2
                      exact (s1.ob i a o ha ho).flat hf.2
                    | succ k =>
                      rw [hk] at q1
                      simp at q1
                · obtain ⟨q1, q2⟩ := s2.tab b hb
                  refine ⟨q1, fun z => ?_⟩
                  rcases List.mem_append.mp z with z | z
                  · exact q2 z
                  · rw [List.mem_singleton] at z
                    obtain ⟨_, q4⟩ := s1.tab b hb
                    exact q4 (by rw [z]; exact List.mem_of_getElem? ha)
            · exact h
          · exact h
        · exact h
    · exact h
abbrev Fn := List PV → Sto → R PV
def out (so : SO) (st : Sto) : R PV := match so with
  | .rt v => .ok v st
  | .nx _ => .ok .non st
  | _ => .bad
noncomputable def fnP (np n : Nat) (body : MS) : Fn := fun ps st => if ps.length = np then gc st ((body (ps.map some ++ List.replicate (n - ps.length) none) st).bind out) else .bad
def spOf (G : Gx) (np : Nat) (f : Fn) : Sp := fun vs H Q _ => ∃ ps st ι, SR G ι H st ∧ RepL G ι H ps vs ∧ ps.length = np ∧ Ok G E0 ι H (f ps st) (QV G Q)
def eCall (np : Nat) (f : Fn) (a : MA) : ME := fun ρ st => (a ρ st).bind fun ps st => if ps.length = np then f ps st else .bad
section
variable {G : Gx} {ta tb tc te : TE} {a b c me : ME} {t : TA} {m : MA} {ts : TS} {ms : MS}
theorem se_call {np : Nat} {f : Fn} (ha : SA G E0 t m) : SE G E0 (tCall (spOf G np f) [] E0 t) (eCall np f m) := by
  intro ρ σ st ι H Q s e h
  unfold tCall
  refine ha ρ σ st ι H _ s e (h.bind.mono fun ps st1 ι1 H1 x1 s1 h1 vs hv => ?_)
  split at h1
  · rename_i hn
    rw [List.append_nil]
    exact ⟨ps, st1, ι1, s1, hv, hn, h1⟩
  · exact h1.elim
theorem er_start {ι : List Addr} {H : Hp} {N : List Str} {ps : List PV} {vs : List V} (r : RepL G ι H ps vs) : ER G ι H (ps.map some ++ List.replicate (N.length - ps.length) none) (L2.start N vs) := by
  unfold L2.start
  refine ⟨by simp [r.length], fun i p h => ?_⟩
  by_cases hi : i < ps.length
  · rw [List.getElem?_append_left (by simpa using hi), List.getElem?_map] at h
    cases z : ps[i]? with
    | none => rw [z] at h; cases h
    | some q =>
      rw [z] at h
      cases h
      obtain ⟨v, h1, h2⟩ := r.get z
      have hi2 : i < vs.length := by rw [← r.length]; exact hi
      exact ⟨v, by rw [List.getElem?_append_left (by simpa using hi2), List.getElem?_map, h1]; rfl, h2⟩
  · rw [List.getElem?_append_right (by simpa using hi), List.getElem?_replicate] at h
    split at h <;> cases h
theorem body_of {np : Nat} {N : List Str} {H : Hp} {vs : List V} {Q : VK} {E : XK} (hb : SS G E0 ts ms) (h : spOf G np (fnP np N.length ms) vs H Q E) : ts { nx := fun _ H' => Q .non H', rt := Q } (L2.start N vs) H := by
  obtain ⟨ps, st, ι, s, r, hn, h⟩ := h
  unfold fnP at h
  rw [if_pos hn] at h
  have h := ok_gc s h
  refine hb _ _ st ι H _ s (er_start r) (h.bind.mono fun so st1 ι1 H1 x1 s1 h1 => ?_)
  cases so with
  | nx ρ => exact fun σ _ => (Ok.here (E := E0) (a := PV.non) (P := QV G Q) s1 h1) _ rfl
  | rt v => exact Ok.here (E := E0) (a := v) (P := QV G Q) s1 h1
  | bk ρ => exact h1.elim
  | ct ρ => exact h1.elim
theorem len_of {np : Nat} {f : Fn} {vs : List V} {H : Hp} {Q : VK} {E : XK} (h : spOf G np f vs H Q E) : vs.length = np := by
  obtain ⟨ps, st, ι, s, r, hn, _⟩ := h
  rw [← r.length]
  exact hn
end
end Pu

namespace Pu
open PySem PySem.Spec PyProof.Rows L2 My
def turnP (g : MG) (c : MT) (e : ME) (vs : List Nat) (ρ : Env) (p : PV) (st : Sto) : R (Option PV) := (g p (wipeP ρ vs) st).bind fun ρ1 st => (c ρ1 st).bind fun k st => if k = true then (e ρ1 st).bind fun y st => .ok (some y) st else .ok none st
open Classical in
noncomputable def genGo (it : IT) (g : MG) (c : MT) (e : ME) (vs : List Nat) (ρ : Env) (st : Sto) : Nat → Nat → Option (List (Option PV))
  | 0, _ => none
  | n + 1, i => match nextP it i st with
    | none => none
    | some none => some []
    | some (some p) => match turnP g c e vs ρ p st with
      | .ok r st' => if ∃ t, st' = st ++ t then (genGo it g c e vs ρ st n (i + 1)).map (r :: ·) else none
      | _ => none
theorem genGo_at {it : IT} {g : MG} {c : MT} {e : ME} {vs : List Nat} {ρ : Env} {st : Sto} : ∀ (n i : Nat) (L : List (Option PV)), genGo it g c e vs ρ st n i = some L →
    nextP it (i + L.length) st = some none ∧ ∀ j r, L[j]? = some r → ∃ p st' t, nextP it (i + j) st = some (some p) ∧ turnP g c e vs ρ p st = .ok r st' ∧ st' = st ++ t
  | 0, i, L, h => by cases h
  | n + 1, i, L, h => by
    unfold genGo at h
    split at h
    · cases h
    · rename_i hn
      cases h
      exact ⟨hn, fun j r z => by simp at z⟩
    · rename_i p hn
      split at h
      · rename_i r st' ht
        split at h
        · rename_i hp
          cases z : genGo it g c e vs ρ st n (i + 1) with
          | none => rw [z] at h; cases h
          | some L' =>
            rw [z] at h
            cases h
            obtain ⟨h1, h2⟩ := genGo_at n (i + 1) L' z
            refine ⟨by rw [List.length_cons, ← Nat.add_assoc, Nat.add_right_comm]; exact h1, fun j r' q => ?_⟩
            cases j with
            | zero =>
              simp at q
              subst q
              obtain ⟨t, et⟩ := hp
              exact ⟨p, st', t, hn, ht, et⟩
            | succ j =>
              obtain ⟨p', st2, t, q1, q2, q3⟩ := h2 j r' (by simpa using q)
              exact ⟨p', st2, t, by rw [← Nat.add_assoc, Nat.add_right_comm]; exact q1, q2, q3⟩
        · cases h
      · cases h
def scalV : PV → Option V
  | .bl b => some (.bl b)
  | .int i => some (.int i)
  | _ => none
theorem scal_rep {G : Gx} {ι : List Addr} {H : Hp} {p : PV} {v w : V} (h : scalV p = some w) (r : Rep G ι H p v) : v = w := by
  cases p with
  | bl b => cases h; exact r
  | int i => cases h; exact r
  | _ => cases h
def outOf (L : List (Option PV)) (i : Nat) : Option V := (L[i]?).bind fun r => r.bind scalV
theorem outs_of (L : List (Option PV)) : outs L.length (outOf L) 0 = L.filterMap fun r => r.bind scalV := by
  unfold outs
  rw [List.drop_zero]
  unfold outOf
  induction L with
  | nil => rfl
  | cons x L ih =>
    rw [List.length_cons, List.range_succ_eq_map, List.filterMap_cons, List.filterMap_map, List.filterMap_cons]
    simp only [List.getElem?_cons_zero, Option.bind_some]
    have e : ((fun i => ((x :: L)[i]?).bind fun r => r.bind scalV) ∘ Nat.succ) = fun i => (L[i]?).bind fun r => r.bind scalV := by
      funext i
      simp
    rw [e, ih]
def boolsOf : List (Option PV) → Option (List Bool)
  | [] => some []
  | none :: r => boolsOf r
  | some (.bl b) :: r => (boolsOf r).map (b :: ·)
  | _ => none
theorem bools_scal : ∀ {L : List (Option PV)} {bs : List Bool}, boolsOf L = some bs → (L.filterMap fun r => r.bind scalV) = bs.map V.bl ∧ ∀ (j : Nat) (r : Option PV) (p : PV), L[j]? = some r → r = some p → (scalV p).isSome = true
  | [], bs, h => by cases h; exact ⟨rfl, fun j r p z => by simp at z⟩
  | none :: L, bs, h => by
    have h : boolsOf L = some bs := h
    obtain ⟨h1, h2⟩ := bools_scal h
    refine ⟨h1, fun j r p z1 z2 => ?_⟩
    cases j with
    | zero => simp at z1; subst z1; cases z2
    | succ j => exact h2 j r p (by simpa using z1) z2
  | some (.bl b) :: L, bs, h => by
    have h : (boolsOf L).map (b :: ·) = some bs := h
    cases z : boolsOf L with
    | none => rw [z] at h; cases h
    | some cs =>
      rw [z] at h
      cases h
      obtain ⟨h1, h2⟩ := bools_scal z
      refine ⟨by show V.bl b :: _ = _; rw [h1]; rfl, fun j r p z1 z2 => ?_⟩
      cases j with
      | zero => simp at z1; subst z1; cases z2; rfl
      | succ j => exact h2 j r p (by simpa using z1) z2
  | some .non :: L, bs, h => by cases h
  | some (.int _) :: L, bs, h => by cases h
  | some (.str _) :: L, bs, h => by cases h
  | some (.tup _) :: L, bs, h => by cases h
  | some (.ref _) :: L, bs, h => by cases h
  | some (.ty _) :: L, bs, h => by cases h
  | some (.gl _) :: L, bs, h => by cases h
theorem allBl_of : ∀ bs : List Bool, allBl (bs.map V.bl) = bs.all id
  | [] => rfl
  | b :: r => by
    have e := allBl_of r
    unfold allBl at e ⊢
    rw [List.map_cons, List.all_cons, List.all_cons, e]
    cases b <;> rfl
noncomputable def eAllG (mi : MI) (g : MG) (c : MT) (e : ME) (vs : List Nat) : ME := fun ρ st => (mi ρ st).bind fun it st => match genGo it g c e vs ρ st (fuelP it st) 0 with
  | some L => (match boolsOf L with
    | some bs => .ok (.bl (bs.all id)) st
    | none => .bad)
  | none => .bad
section
variable {G : Gx} {ι1 : List Addr} {H1 : Hp} {st : Sto} {ta tb tc te : TE} {a b c me : ME} {g : TG} {mg : MG} {wi : TI} {mi : MI} {tt : TT} {mt : MT} {vs : List Nat}
theorem gbody_of {ρ : Env} {σ : L2.St} {J : It} {it : IT} {L : List (Option PV)} {n0 : Nat} (s1 : SR G ι1 H1 st) (e1 : ER G ι1 H1 ρ σ) (hJ : SIt G ι1 H1 J it) (hg : SG G E0 g mg vs) (ht : ST G E0 tt mt) (he : SE G E0 te me)
    (hL : genGo it mg mt me vs ρ st n0 0 = some L) (hs : ∀ (j : Nat) (r : Option PV) (p : PV), L[j]? = some r → r = some p → (scalV p).isSome = true) :
    GBody J g tt te (L2.wipe σ vs) vs (fun _ H => Ext ι1 H1 ι1 H ∧ SR G ι1 H st) L.length (outOf L) := by
  obtain ⟨h1, h2⟩ := genGo_at n0 0 L hL
  rw [Nat.zero_add] at h1
  refine ⟨fun H w => hJ ι1 H st w.1 w.2 _ _ h1, fun i H hi w => ?_⟩
  obtain ⟨p, st', t, q1, q2, q3⟩ := h2 i _ (List.getElem?_eq_getElem hi)
  rw [Nat.zero_add] at q1
  obtain ⟨hgo, hy⟩ := hJ ι1 H st w.1 w.2 _ _ q1
  refine ⟨hgo, fun x H2 y => ?_⟩
  obtain ⟨x2, s2, r2⟩ := hy x H2 y
  have xx2 := w.1.trans x2
  have hk : Ok G E0 ι1 H2 (turnP mg mt me vs ρ p st) (fun r st2 _ _ => r = L[i] ∧ st2 = st') := by
    rw [q2]
    exact fun _ _ _ _ => ⟨rfl, rfl⟩
  have hout : outOf L i = L[i].bind scalV := by
    unfold outOf
    rw [List.getElem?_eq_getElem hi]
    rfl
  have fin : ∀ ι5 H5, Ext ι1 H2 ι5 H5 → SR G ι5 H5 st' → Ext ι1 H1 ι1 H5 ∧ SR G ι1 H5 st := fun ι5 H5 x5 s5 => by
    have cl : Clean st st' := fun j o z hj => by
      rw [q3, List.getElem?_append_left hj] at z
      exact .inl z
    obtain ⟨x6, s6⟩ := s2.cut x5 s5 cl
    rw [q3, List.take_left] at s6
    exact ⟨xx2.trans x6, s6⟩
  unfold turnP at hk
  refine hg p x (wipeP ρ vs) (L2.wipe σ vs) st ι1 H2 _ s2 ((e1.ext s1 xx2).wipe vs) r2 (hk.bind0.mono fun ρ3 st3 ι3 H3 x3 s3 h3 σ3 e3 w3 => ?_)
  refine ⟨w3.trans (wipe_wipe_set σ vs), ?_⟩
  refine ht ρ3 σ3 st3 ι3 H3 _ s3 e3 ((h3.bind0.ext x3).mono fun k st4 ι4 H4 x4 s4 h4 => ?_)
  show if k = true then _ else _
  have xx4 := x3.trans x4
  by_cases hk : k = true
  · rw [if_pos hk] at h4 ⊢
    refine he ρ3 σ3 st4 ι4 H4 _ s4 (e3.ext s3 x4) ((h4.bind0.ext xx4).mono fun y st5 ι5 H5 x5 s5 h5 v5 r5 => ?_)
    obtain ⟨e5, f5⟩ := h5 ι5 H5 (xx4.trans x5) s5
    subst f5
    refine ⟨?_, fin ι5 H5 (xx4.trans x5) s5⟩
    rw [hout, ← e5]
    have z := hs i _ y (List.getElem?_eq_getElem hi) e5.symm
    show scalV y = some v5
    cases q : scalV y with
    | none => rw [q] at z; cases z
    | some w5 => rw [scal_rep q r5]
  · rw [if_neg hk] at h4 ⊢
    obtain ⟨e5, f5⟩ := h4 ι4 H4 xx4 s4
    subst f5
    refine ⟨?_, fin ι4 H4 xx4 s4⟩
    rw [hout, ← e5]
    rfl
theorem se_allG {P : Addr} (hP : P ∈ G.tabs) (hi : SI G E0 wi mi) (hg : SG G E0 g mg vs) (ht : ST G E0 tt mt) (he : SE G E0 te me) : SE G E0 (tAllG P wi g tt te vs) (eAllG mi mg mt me vs) := by
  intro ρ σ st ι H Q s e h
  refine hi ρ σ st ι H _ s e (h.bind.mono fun it st1 ι1 H1 x1 s1 h1 J hJ => ?_)
  split at h1
  · rename_i L hL
    split at h1
    · rename_i bs hb
      obtain ⟨z1, z2⟩ := bools_scal hb
      refine ⟨(s1.tab P hP).1, _, L.length, outOf L, gbody_of s1 (e.ext s x1) hJ hg ht he hL z2, ⟨Ext.refl, s1⟩, fun v hv => ?_, fun i H2 _ w => ?_⟩
      · rw [outs_of, z1] at hv
        obtain ⟨b, _, rfl⟩ := List.mem_map.mp hv
        exact ⟨b, rfl⟩
      · rw [outs_of, z1, allBl_of]
        exact h1 ι1 H2 w.1 w.2 _ rfl
    · exact h1.elim
  · exact h1.elim
end
end Pu

namespace Pu
open PySem PySem.Spec PyProof.Rows L2 My
def rIsT (K : PySem.W.Frag) : List V → Hp → VK → Prop := fun xs H Q => ∃ a ys n b, xs = [.ref a, .ty n] ∧ SqT K H a ys ∧ PySem.W.kitOne K (.type "tuple") (.type n) = some b ∧ Q (.bl b) H
def rIsiA (K : PySem.W.Frag) : List V → Hp → VK → Prop := fun xs H Q => rIsi K xs H Q ∨ rIsT K xs H Q
theorem crIsT {X : Cx} {K : PySem.W.Frag} (hK : X.K = K) : CallR X (.builtin "isinstance") (rIsT K) := by
  subst hK
  intro pins s σ H xs us Q I r h
  obtain ⟨a, ys, n, b, rfl, hs, e, q⟩ := h
  cases r with
  | cons rx rr =>
    cases rr with
    | cons ry rr =>
      cases rr
      cases rx
      cases ry
      obtain ⟨its, _, ⟨o, h1, h2, _⟩, _⟩ := I.tuple hs
      exact PySem.W.kia_one PySem.W.kitx_tuple I.kIn ⟨o, h1, h2⟩ e (fun z => nomatch z) fun tk => ⟨.bl b, H, I.tok _, rfl, q⟩
theorem crIsiA {X : Cx} {K : PySem.W.Frag} (hK : X.K = K) : CallR X (.builtin "isinstance") (rIsiA K) := crOr (crIsi hK) (crIsT hK)
theorem kit_same (K : PySem.W.Frag) (T : String) : PySem.W.kitOne K (.type T) (.type T) = some true := by
  unfold PySem.W.kitOne
  rw [if_pos (by simp)]
def tys : List String := ["NoneType", "bool", "int", "str", "tuple", "list", "dict"]
def cls : List String := ["bool", "int", "str", "tuple", "list"]
def subTy (T n : String) : Bool := decide (T = n) || (decide (T = "bool") && decide (n = "int"))
theorem kit_all (K : PySem.W.Frag) : ∀ T ∈ tys, ∀ n ∈ cls, PySem.W.kitOne K (.type T) (.type n) = some (subTy T n) := by
  have key : ∀ T ∈ tys, ∀ n ∈ cls, T ≠ n → (Value.type T == Value.type n) = false ∧ PySem.W.kitMeta n = true ∧ (fastBuiltinMro T).map (·.contains (Value.type n)) = some (subTy T n) := by decide +kernel
  intro T hT n hn
  by_cases e : T = n
  · subst e
    rw [kit_same]
    simp [subTy]
  · obtain ⟨h1, h2, h3⟩ := key T hT n hn e
    exact kit_bt K h1 h2 h3
def tyP (st : Sto) : PV → Option String
  | .non => some "NoneType"
  | .bl _ => some "bool"
  | .int _ => some "int"
  | .str _ => some "str"
  | .tup _ => some "tuple"
  | .ref j => match st[j]? with
    | some (.dic _ _) => some "dict"
    | _ => (getL st j).map fun _ => "list"
  | _ => none
def isiP (ps : List PV) (st : Sto) : R PV := match ps with
  | [p, .ty n] => (match tyP st p with
    | some T => if n ∈ cls then .ok (.bl (subTy T n)) st else .bad
    | none => .bad)
  | _ => .bad
def intP1 (ps : List PV) (st : Sto) : R PV := match ps with
  | [.int i] => .ok (.int i) st
  | [.bl b] => .ok (.int (if b then 1 else 0)) st
  | _ => .bad
def listP (ps : List PV) (st : Sto) : R PV := match ps with
  | [.tup xs] => new (.lst xs) st
  | [.ref j] => (match getL st j with
    | some xs => new (.lst xs) st
    | none => .bad)
  | _ => .bad
def tupP (ps : List PV) (st : Sto) : R PV := match ps with
  | [.tup xs] => .ok (.tup xs) st
  | [.ref j] => (match getL st j with
    | some xs => .ok (.tup xs) st
    | none => .bad)
  | _ => .bad
def revP (ps : List PV) (st : Sto) : R PV := match ps with
  | [.ref j] => (match getL st j with
    | some xs => new (.lst xs.reverse) st
    | none => .bad)
  | _ => .bad
def minP (ps : List PV) (st : Sto) : R PV := match ps with
  | [.int i, .int j] => .ok (.int (min i j)) st
  | _ => .bad
def maxP (ps : List PV) (st : Sto) : R PV := match ps with
  | [.int i, .int j] => .ok (.int (max i j)) st
  | _ => .bad
def sumP (ps : List PV) (st : Sto) : R PV := match ps with
  | [.ref j] => (match getL st j with
    | some xs => (match intsOf xs with
      | some ns => .ok (.int ns.sum) st
      | none => .bad)
    | none => .bad)
  | _ => .bad
def negP (p : PV) (st : Sto) : R PV := match p with
  | .int i => .ok (.int (-i)) st
  | _ => .bad
def appendP (p : PV) (ps : List PV) (st : Sto) : R PV := match p, ps with
  | .ref j, [v] => (match getM st j with
    | some xs => if xs.length < 100000 then .ok .non (st.set j (.lst (xs ++ [v]))) else .bad
    | none => .bad)
  | _, _ => .bad
def popP (p : PV) (ps : List PV) (st : Sto) : R PV := match p, ps with
  | .ref j, [] => (match getM st j with
    | some xs => (match xs[xs.length - 1]? with
      | some v => .ok v (st.set j (.lst xs.dropLast))
      | none => .bad)
    | none => .bad)
  | _, _ => .bad
def ipExtP (p q : PV) (st : Sto) : R PV := match p, q with
  | .ref j, .ref k => (match getM st j, getM st k with
    | some xs, some ys => if xs.length + ys.length ≤ 100000 then .ok (.ref j) (st.set j (.lst (xs ++ ys))) else .bad
    | _, _ => .bad)
  | _, _ => .bad
def indexP (p : PV) (ps : List PV) (st : Sto) : R PV := match p, ps with
  | .ref j, [v] => (match getL st j with
    | some xs => if flatP v = true ∧ xs.all flatP = true then (match xs.findIdx? (fun y => eqvP y v) with
      | some n => .ok (.int n) st
      | none => .bad) else .bad
    | none => .bad)
  | _, _ => .bad
def isL (st : Sto) : PV → Bool
  | .ref j => (getL st j).isSome
  | _ => false
def eML (f : PV → List PV → Sto → R PV) (o : ME) (a : MA) : ME := fun ρ st => (o ρ st).bind fun p st => if isL st p = true then (a ρ st).bind fun ps st => f p ps st else .bad
def eML0 (f : PV → List PV → Sto → R PV) (o : ME) : ME := fun ρ st => (o ρ st).bind fun p st => if isL st p = true then f p [] st else .bad
section
variable {G : Gx} {E : XK} {ι : List Addr} {H : Hp} {st : Sto} {ta tb tc te : TE} {a b c me : ME} {t : TA} {m : MA}
theorem sc_isi : SC G E (rIsiA G.K) isiP := by
  intro ps xs st ι H Q s r h
  unfold isiP at h
  split at h
  · rename_i p n
    obtain ⟨v, r', rfl, r1, w, r2, rfl, r3, e⟩ := r
    cases (show r2 = [] from e)
    cases (show w = .ty n from r3)
    split at h
    · rename_i T hT
      split at h
      · rename_i hn
        have fin : ∀ t : String, T = t → t ∈ tys → PySem.W.kitOne G.K (.type t) (.type n) = some (subTy T n) := fun t e ht => by
          rw [e]
          exact kit_all G.K t ht n hn
        cases p with
        | non => cases hT; exact .inl ⟨v, n, _, _, rfl, by rw [show v = _ from r1]; exact .non, fin _ rfl (by decide), h.here s _ rfl⟩
        | bl b => cases hT; exact .inl ⟨v, n, _, _, rfl, by rw [show v = _ from r1]; exact .bl b, fin _ rfl (by decide), h.here s _ rfl⟩
        | int b => cases hT; exact .inl ⟨v, n, _, _, rfl, by rw [show v = _ from r1]; exact .int b, fin _ rfl (by decide), h.here s _ rfl⟩
        | str b => cases hT; exact .inl ⟨v, n, _, _, rfl, by rw [show v = _ from r1]; exact .str b, fin _ rfl (by decide), h.here s _ rfl⟩
        | tup ps =>
          cases hT
          obtain ⟨a, vs, rfl, h1, h2⟩ := r1
          exact .inr ⟨a, vs, n, _, rfl, h1, fin _ rfl (by decide), h.here s _ rfl⟩
        | ref j =>
          unfold tyP at hT
          dsimp only at hT
          split at hT
          · rename_i ks xs e1
            cases hT
            obtain ⟨a, ha, rfl⟩ := r1
            obtain ⟨vs, h1, _⟩ := s.ob j a _ ha e1
            exact .inl ⟨_, n, _, _, rfl, .dK h1, fin _ rfl (by decide), h.here s _ rfl⟩
          cases z : getL st j with
          | none => rw [z] at hT; cases hT
          | some ys =>
            rw [z] at hT
            cases hT
            obtain ⟨a, ha, rfl⟩ := r1
            obtain ⟨vs, h1, h2⟩ := s.lstAt ha z
            rcases h1 with h1 | ⟨o, h1⟩
            · exact .inl ⟨_, n, _, _, rfl, .lst h1, fin _ rfl (by decide), h.here s _ rfl⟩
            · exact .inl ⟨_, n, _, _, rfl, .frz h1, fin _ rfl (by decide), h.here s _ rfl⟩
        | ty _ => cases hT
        | gl _ => cases hT
      · exact h.elim
    · exact h.elim
  · exact h.elim
theorem sc_int : SC G E rInt1 intP1 := by
  intro ps xs st ι H Q s r h
  unfold intP1 at h
  split at h
  · obtain ⟨v, r', rfl, e1, e⟩ := r
    cases (show r' = [] from e)
    exact .inl ⟨_, by rw [show v = _ from e1], h.here s _ rfl⟩
  · obtain ⟨v, r', rfl, e1, e⟩ := r
    cases (show r' = [] from e)
    exact .inr ⟨_, by rw [show v = _ from e1], h.here s _ rfl⟩
  · exact h.elim
theorem sc_list : SC G E (rListOf G.K) listP := by
  intro ps xs st ι H Q s r h
  unfold listP at h
  split at h
  · obtain ⟨v, r', rfl, ⟨a, vs, rfl, h1, h2⟩, e⟩ := r
    cases (show r' = [] from e)
    exact ⟨a, vs, rfl, .inr h1, fun p hp => okL s h2 h p hp⟩
  · obtain ⟨v, r', rfl, ⟨a, ha, rfl⟩, e⟩ := r
    cases (show r' = [] from e)
    split at h
    · rename_i ys e
      obtain ⟨vs, h1, h2⟩ := s.lstAt ha e
      exact ⟨a, vs, rfl, .inl (.inl h1), fun p hp => okL s h2 h p hp⟩
    · exact h.elim
  · exact h.elim
theorem sc_tup : SC G E (rTupOf G.K) tupP := by
  intro ps xs st ι H Q s r h
  unfold tupP at h
  split at h
  · obtain ⟨v, r', rfl, ⟨a, vs, rfl, h1, h2⟩, e⟩ := r
    cases (show r' = [] from e)
    exact ⟨a, vs, rfl, .inr ⟨h1, h.here s _ ⟨a, vs, rfl, h1, h2⟩⟩⟩
  · obtain ⟨v, r', rfl, ⟨a, ha, rfl⟩, e⟩ := r
    cases (show r' = [] from e)
    split at h
    · rename_i ys e
      obtain ⟨vs, h1, h2⟩ := s.lstAt ha e
      exact ⟨a, vs, rfl, .inl ⟨.inl h1, fun p hp => okT s h2 h p hp⟩⟩
    · exact h.elim
  · exact h.elim
theorem s1_neg : S1 G E (rU fun i => .int (-i)) negP := by
  intro p x st ι H Q s r h
  unfold negP at h
  split at h
  · exact ⟨_, r, h.here s _ rfl⟩
  · exact h.elim
theorem se_rev (ha : SA G E t m) : SE G E (tListRev G.K t) (eB revP m) := by
  intro ρ σ st ι H Q s e h
  refine ha ρ σ st ι H _ s e (h.bind.mono fun ps st1 ι1 H1 x1 s1 h1 vs hv => ?_)
  unfold revP at h1
  split at h1
  · obtain ⟨v, r', rfl, ⟨b, hb, rfl⟩, e⟩ := hv
    cases (show r' = [] from e)
    split at h1
    · rename_i ys e
      obtain ⟨us, h2, h3⟩ := s1.lstAt hb e
      exact ⟨b, us, rfl, .inl h2, fun p hp => okL s1 h3.reverse h1 p hp⟩
    · exact h1.elim
  · exact h1.elim
theorem tyV_of {p : PV} {v : V} (s : SR G ι H st) (r : Rep G ι H p v) (h : isL st p = true) : tyV G.K "list" v H := by
  cases p with
  | ref j =>
    have h : (getL st j).isSome = true := h
    obtain ⟨xs, e⟩ := Option.isSome_iff_exists.mp h
    obtain ⟨a, ha, rfl⟩ := r
    obtain ⟨vs, h1, h2⟩ := s.lstAt ha e
    exact .inl ⟨rfl, vs, .inl h1⟩
  | _ => cases h
theorem se_bm {r : V → List V → Hp → VK → Prop} {f : PV → List PV → Sto → R PV} (hr : SM G E r f) (ho : SE G E ta a) (ha : SA G E t m) : SE G E (tBM G.K "list" r ta t) (eML f a m) := by
  intro ρ σ st ι H Q s e h
  refine ho ρ σ st ι H _ s e (h.bind.mono fun p st1 ι1 H1 x1 s1 h1 v hv => ?_)
  split at h1
  · rename_i hl
    refine ⟨tyV_of s1 hv hl, ha ρ σ st1 ι1 H1 _ s1 (e.ext s x1) (h1.bind.mono fun ps st2 ι2 H2 x2 s2 h2 vs hvs => ?_)⟩
    exact hr p ps v vs st2 ι2 H2 Q s2 (hv.ext s1 x2) hvs h2
  · exact h1.elim
theorem se_bm0 {r : V → List V → Hp → VK → Prop} {f : PV → List PV → Sto → R PV} (hr : SM G E r f) (ho : SE G E ta a) : SE G E (tBM0 G.K "list" r ta) (eML0 f a) := by
  intro ρ σ st ι H Q s e h
  refine ho ρ σ st ι H _ s e (h.bind.mono fun p st1 ι1 H1 x1 s1 h1 v hv => ?_)
  split at h1
  · rename_i hl
    exact ⟨tyV_of s1 hv hl, hr p [] v [] st1 ι1 H1 Q s1 hv rfl h1⟩
  · exact h1.elim
theorem sm_append : SM G E rAppend appendP := by
  intro p ps x xs st ι H Q s r rs h
  unfold appendP at h
  split at h
  · rename_i j pv
    obtain ⟨v, r', rfl, e1, e⟩ := rs
    cases (show r' = [] from e)
    obtain ⟨a, ha, rfl⟩ := r
    split at h
    · rename_i ys e
      split at h
      · rename_i hl
        obtain ⟨vs, h1, h2⟩ := s.mutAt ha e
        have e3 : RepL G ι H [pv] [v] := ⟨v, [], rfl, e1, rfl⟩
        obtain ⟨x2, s2⟩ := putL s ha (h2.append e3)
        exact ⟨a, vs, v, rfl, rfl, h1, by rw [← h2.length]; exact Nat.lt_of_lt_of_le hl (by decide), h _ _ x2 s2 _ rfl⟩
      · exact h.elim
    · exact h.elim
  · exact h.elim
theorem RepL.dropLast : ∀ {ps : List PV} {vs : List V}, RepL G ι H ps vs → RepL G ι H ps.dropLast vs.dropLast := fun {ps vs} r => by
  rw [List.dropLast_eq_take, List.dropLast_eq_take, r.length]
  exact r.take _
theorem sm_pop : SM G E rPop popP := by
  intro p ps x xs st ι H Q s r rs h
  unfold popP at h
  split at h
  · cases (show xs = [] from rs)
    obtain ⟨a, ha, rfl⟩ := r
    split at h
    · rename_i ys e
      split at h
      · rename_i v hv
        obtain ⟨vs, h1, h2⟩ := s.mutAt ha e
        obtain ⟨u, h3, h4⟩ := h2.get hv
        obtain ⟨x2, s2⟩ := putL s ha h2.dropLast
        rw [h2.length] at h3
        exact ⟨a, vs, u, rfl, rfl, h1, h3, h _ _ x2 s2 _ (h4.ext s x2)⟩
      · exact h.elim
    · exact h.elim
  · exact h.elim
end
def lookS (k : Str) : List (Str × PV) → Option PV
  | [] => none
  | (x, v) :: r => if x = k then some v else lookS k r
def mgetP (D : List (Str × PV)) (q : PV) (st : Sto) : R PV := match q with
  | .str k => (match lookS k D with
    | some v => .ok v st
    | none => .bad)
  | _ => .bad
abbrev MO := Env → Sto → R (Option Int)
def oNone : MO := fun _ st => .ok none st
def oSome (a : ME) : MO := fun ρ st => (a ρ st).bind fun p st => match p with
  | .int i => .ok (some i) st
  | _ => .bad
def eSl (a : ME) (l u : MO) : ME := fun ρ st => (a ρ st).bind fun p st => (l ρ st).bind fun lo st => (u ρ st).bind fun hi st => slP p lo hi st
abbrev MC := Str → MS
def mNil : MC := fun _ => sNext
def mCase (xs : List Str) (b : MS) (r : MC) : MC := fun k ρ st => if k ∈ xs then b ρ st else r k ρ st
def sMatch (a : ME) (c : MC) : MS := fun ρ st => (a ρ st).bind fun p st => match p with
  | .str k => c k ρ st
  | _ => .bad
section
variable {G : Gx} {E : XK} {ta tb tc te : TE} {a b c me : ME} {ts : TS} {ms : MS}
def SOp (G : Gx) (E : XK) (t : TO) (m : MO) : Prop := ∀ ρ σ st ι H Q, SR G ι H st → ER G ι H ρ σ → Ok G E ι H (m ρ st) (fun o _ _ H1 => Q o H1) → t σ H Q
theorem so_none : SOp G E tNoPart oNone := by
  intro ρ σ st ι H Q s e h
  exact h.here s
theorem so_some (ha : SE G E ta a) : SOp G E (tPart ta) (oSome a) := by
  intro ρ σ st ι H Q s e h
  refine ha ρ σ st ι H _ s e (h.bind.mono fun p st1 ι1 H1 x1 s1 h1 v hv => ?_)
  cases p with
  | int i => exact ⟨i, hv, Ok.here (E := E) (st := st1) (a := some i) (P := fun o _ _ H1 => Q o H1) s1 h1⟩
  | _ => exact h1.elim
theorem se_sl {tl tu : TO} {ml mu : MO} (ha : SE G E ta a) (hl : SOp G E tl ml) (hu : SOp G E tu mu) : SE G E (tSl (rSlA G.K) ta tl tu) (eSl a ml mu) := by
  intro ρ σ st ι H Q s e h
  refine ha ρ σ st ι H _ s e (h.bind.mono fun p st1 ι1 H1 x1 s1 h1 v hv => ?_)
  refine hl ρ σ st1 ι1 H1 _ s1 (e.ext s x1) (h1.bind.mono fun lo st2 ι2 H2 x2 s2 h2 => ?_)
  refine hu ρ σ st2 ι2 H2 _ s2 ((e.ext s x1).ext s1 x2) (h2.bind.mono fun hi st3 ι3 H3 x3 s3 h3 => ?_)
  exact ssl p v lo hi st3 ι3 H3 Q s3 ((hv.ext s1 x2).ext s2 x3) h3
def TabR (G : Gx) (a : Addr) (D : List (Str × PV)) : Prop := ∃ DV : List (Str × V), ModT G.K a DV ∧ ∀ k p, lookS k D = some p → ∃ v, KTD.datumAt k DV = some v ∧ ∀ ι H, Rep G ι H p v
theorem se_mget {ad : Addr} {D : List (Str × PV)} (T : TabR G ad D) (hb : SE G E tb b) : SE G E (tMGet G.K (tC (.ref ad)) tb) (e1 (mgetP D) b) := by
  intro ρ σ st ι H Q s e h
  refine hb ρ σ st ι H _ s e (h.bind.mono fun p st1 ι1 H1 x1 s1 h1 v hv => ?_)
  obtain ⟨DV, h2, h3⟩ := T
  unfold mgetP at h1
  split at h1
  · rename_i k
    split at h1
    · rename_i w hw
      obtain ⟨u, h4, h5⟩ := h3 k w hw
      exact ⟨ad, k, DV, u, rfl, hv, h2, h4, h1.here s1 _ (h5 _ _)⟩
    · exact h1.elim
  · exact h1.elim
end
end Pu

namespace Pu
open PySem PySem.Spec PyProof.Rows L2 My
def subP : PV → PV → Sto → R PV := intP fun i j => .int (i - j)
def fdivP : PV → PV → Sto → R PV := intC CDiv fun i j => .int (i / j)
def modP : PV → PV → Sto → R PV := intC (fun _ j => 0 < j) fun i j => .int (i % j)
def powP : PV → PV → Sto → R PV := intC CPow fun i j => .int (i ^ j.toNat)
def bandP : PV → PV → Sto → R PV := intP fun i j => .int (Builtin.bitAnd i j)
def borP : PV → PV → Sto → R PV := intP fun i j => .int (Builtin.bitOr i j)
def bxorP : PV → PV → Sto → R PV := intP fun i j => .int (Builtin.bitXor i j)
def augAddP (p q : PV) (st : Sto) : R PV := match p, q with
  | .int i, .int j => .ok (.int (i + j)) st
  | .ref _, .ref _ => ipExtP p q st
  | _, _ => .bad
section
variable {G : Gx} {E : XK}
theorem s2_sub : S2 G E (rI0 fun i j => .int (i - j)) subP := s2_int fun _ _ _ _ => rfl
theorem s2_fdiv : S2 G E (rI CDiv fun i j => .int (i / j)) fdivP := s2_intC fun _ _ _ _ => rfl
theorem s2_mod : S2 G E (rI (fun _ j => 0 < j) fun i j => .int (i % j)) modP := s2_intC fun _ _ _ _ => rfl
theorem s2_pow : S2 G E (rI CPow fun i j => .int (i ^ j.toNat)) powP := s2_intC fun _ _ _ _ => rfl
end
theorem tab_of {G : Gx} {a : Addr} {DV : List (Str × V)} {D : List (Str × PV)} (h : ModT G.K a DV) (r : Paired (fun (x : Str × PV) (y : Str × V) => x.1 = y.1 ∧ ∀ ι H, Rep G ι H x.2 y.2) D DV) : TabR G a D := by
  refine ⟨DV, h, ?_⟩
  clear h
  induction r with
  | nil => intro k p e; cases e
  | @cons x y xs ys hxy _ ih =>
    intro k p e
    obtain ⟨x1, x2⟩ := x
    obtain ⟨y1, y2⟩ := y
    obtain ⟨e1, e2⟩ := hxy
    have e1 : x1 = y1 := e1
    subst e1
    have e : (if x1 = k then some x2 else lookS k xs) = some p := e
    show ∃ v, (if decide (k = x1) = true then some y2 else KTD.datumAt k ys) = some v ∧ _
    by_cases c : x1 = k
    · rw [if_pos c] at e
      cases e
      exact ⟨y2, by rw [if_pos (decide_eq_true c.symm)], e2⟩
    · rw [if_neg c] at e
      obtain ⟨v, h1, h2⟩ := ih k p e
      exact ⟨v, by rw [if_neg (by rw [decide_eq_true_iff]; exact fun z => c z.symm)]; exact h1, h2⟩
theorem noLists_sq {K : PySem.W.Frag} (h : (K.all fun p => match p.2.cls with | .type n => n != "list" | _ => true) = true) {H : Hp} {a : Addr} {xs : List V} (q : SqL K H a xs) : Rd H a (.lst xs) := by
  rcases q with q | ⟨o, its, n, hk, hc, _⟩
  · exact q
  · have z := List.all_eq_true.mp h (a, o) (PySem.W.mem_of_lookupK hk)
    simp only [hc] at z
    exact absurd z (by decide)
end Pu

namespace Pu
open PySem PySem.Spec PyProof.Rows L2 My
def noLists (K : PySem.W.Frag) : Bool := K.all fun p => match p.2.cls with | .type n => n != "list" | _ => true
theorem rep_ints (G : Gx) (ι : List Addr) (H : Hp) : ∀ ns : List Int, RepL G ι H (ns.map PV.int) (ns.map V.int)
  | [] => rfl
  | n :: ns => ⟨_, _, rfl, rfl, rep_ints G ι H ns⟩
theorem law_sp {K : PySem.W.Frag} {mg : Str → Option Value} {tabs : List (Addr × Addr)} {f : Fn} {ns : List Int} {H : Hp} {a : Addr} {E : XK} (hK : noLists K = true) (hT : Tabs tabs H) (hS : SqL K H a (ns.map V.int))
    (hp : ∃ st', f [.ref 0] [.fro (ns.map PV.int)] = .ok (.bl true) st') : spOf ⟨K, mg, tabs.map (·.2)⟩ 1 f [.ref a] H (fun v H2 => v = .bl true ∧ Tabs tabs H2) E := by
  have rd := noLists_sq hK hS
  obtain ⟨st', hp⟩ := hp
  refine ⟨[.ref 0], [.fro (ns.map PV.int)], [a], ⟨rfl, by simp, fun i b o h1 h2 => ?_, fun b hb => ?_⟩, ⟨.ref a, [], rfl, ⟨a, rfl, rfl⟩, rfl⟩, rfl, ?_⟩
  · cases i with
    | zero =>
      cases h1
      cases h2
      exact ⟨_, rd, rep_ints _ _ _ ns⟩
    | succ i => simp at h1
  · obtain ⟨q, hq, rfl⟩ := List.mem_map.mp hb
    have e := hT q hq
    refine ⟨e, fun z => ?_⟩
    rw [List.mem_singleton] at z
    rw [z] at e
    rcases rd with rd | ⟨o, rd⟩
    · rw [rd] at e; cases e
    · rw [rd] at e; cases e
  · rw [hp]
    intro ι' H' x s v hv
    refine ⟨hv, fun q hq => (s.tab q.2 (List.mem_map.mpr ⟨q, hq, rfl⟩)).1⟩
theorem walk_ofM {l : PySem.W.OpenLaw} {n k : Nat} {q : Program} {loose : List Str} {XP : (Str → Option Value) → Heap → Prop} {YP : World → Heap → Prop} {d : DefRec} {K : Params → PySem.W.Frag} {sp : World → (Str → Option Value) → Sp} {x : Str} {names : List Str}
    (hn : l.most = some n) (hn2 : n ≤ sizeLine) (hdf : d.params.defaults = []) (hr : Room k callerA)
    (hY : ∀ (w : World) (h : Heap), YP w h → (K w.params).In h) (hKT : ∀ w : World, PySem.W.noTabs (K w.params) = true) (hN : (names.all fun y => ((recsOf q).find? (fun e => e.name == y)).isSome) = true)
    (F : ∀ (w : World) (mg : Str → Option Value) (fa : Addr) (h : Heap), (K w.params).In h → h.Ns mainGlobals mg → mg d.name = some (.ref fa) →
      ∃ fd : FuncData, (∀ (s : Shared) (u : Value), BindsTo s fd ⟨[u], []⟩ [(x, u)]) ∧
        ∀ base : Heap, (K w.params).In base → base.Ns mainGlobals mg → BMain mg base → (∀ q ∈ tabsIn (K w.params) names, PySem.W.CodeHd base q.1 q.2) → FnOk l.prog w (K w.params) mg base CX0 k fa fd [x] (sp w mg))
    (hsp : ∀ (w : World) (mg : Str → Option Value) (H : Hp) (a : Addr) (ns : List Int), ns.length ≤ n → Tabs (tabsIn (K w.params) names) H → SqL (K w.params) H a (ns.map V.int) → sp w mg [.ref a] H (fun v H2 => v = .bl true ∧ Tabs (tabsIn (K w.params) names) H2) fun _ _ _ => False) :
    PySem.W.WalkO q loose XP YP l.row.toRowW d [] (fun f vs => PySem.call f vs) := by
  have hT : ∀ (w : World) (h : Heap) (loose : List Str) (mean : ExcName → Option Value) (mg mb : Str → Option Value), (K w.params).In h → PyProof.Rows.Top q loose mean mg mb h → PySem.W.TabsAt (tabsIn (K w.params) names) h := fun w h loose mean mg mb KX T p hp => by
    obtain ⟨y, hy, e⟩ := List.mem_filterMap.mp hp
    have z := List.all_eq_true.mp hN y hy
    obtain ⟨d2, e2⟩ := Option.isSome_iff_exists.mp z
    exact PySem.W.tab_of T KX e2 e
  refine Att.attach_call hn hdf fun w s₀ s₁ mg mb fa o pm cd doc a vs ns G Y ho hd hcd hmg hobj hints hlen hg => ?_
  have KX := hY w _ Y
  obtain ⟨fd, hb, hF⟩ := F w mg fa _ KX G.T.g hmg
  exact law_callT KX G.T.g G.T.b G.T.builtins G.T.nolimit hg hobj hints (Nat.le_trans hlen hn2) hr (hT w _ _ _ mg mb KX G.T) (hKT w) ⟨G.T.bmain⟩ hF hb fun H hO hS => hsp w mg H a ns hlen hO hS
end Pu

namespace Pu
open PySem PySem.Spec PyProof.Rows L2 My
theorem units1 {n c : Nat} (h : n + 64 < c) : n + 1 < c := by omega
def keyP : PV → Option Key
  | .int i => some (.inl i)
  | .str x => some (.inr x)
  | _ => none
def lookK (k : Key) : List Key → List PV → Option PV
  | a :: ks, x :: xs => if a = k then some x else lookK k ks xs
  | _, _ => none
def eDic (ks : List Key) (m : MA) : ME := fun ρ st => (m ρ st).bind fun ps st => if ks.Nodup ∧ ks.length = ps.length ∧ ks.length ≤ 15 then .ok (.ref st.length) (st ++ [.dic ks ps]) else .bad
def dlook (p q : PV) (st : Sto) : R (Option PV) := match p with
  | .ref i => match st[i]? with
    | some (.dic ks xs) => match keyP q with
      | some k => .ok (lookK k ks xs) st
      | none => .bad
    | _ => .bad
  | _ => .bad
def eDGet (a b : ME) : ME := fun ρ st => (a ρ st).bind fun p st => (b ρ st).bind fun q st => (dlook p q st).bind fun o st => match o with
  | some v => .ok v st
  | none => .bad
section
variable {G : Gx} {E : XK} {ι ι1 : List Addr} {H H1 : Hp} {st : Sto} {ta tb tc : TE} {a b c : ME} {t : TA} {m : MA}
theorem SqT.updD {D : Addr} {ks : List (Key × V)} {o' : HO} (e : H D = some (.dK ks)) : ∀ a vs, SqT G.K H a vs → SqT G.K (upd H D o') a vs := fun a vs h => by
  rcases h with (h | ⟨o, h⟩) | h
  · have n : a ≠ D := ne_of h e (by nofun)
    exact .inl (.inl (by rw [upd_ne n]; exact h))
  · have n : a ≠ D := ne_of h e (by nofun)
    exact .inl (.inr ⟨o, by rw [upd_ne n]; exact h⟩)
  · exact .inr h
theorem SR.updD {D : Addr} {ks : List (Key × V)} {o' : HO} (s : SR G ι H st) (nD : D ∉ ι) (e : H D = some (.dK ks)) : SR G ι (upd H D o') st := by
  refine ⟨s.len, s.nd, fun i a o h1 h2 => ?_, fun a ha => ?_⟩
  · have na : a ≠ D := fun z => nD (by rw [← z]; exact List.mem_of_getElem? h1)
    have q := s.ob i a o h1 h2
    cases o with
    | lst xs =>
      obtain ⟨zs, h3, h4⟩ := q
      exact ⟨zs, by rw [upd_ne na]; exact h3, h4.mono (SqT.updD e) fun _ _ z => z⟩
    | fro xs =>
      obtain ⟨zs, h3, h4⟩ := q
      refine ⟨zs, ?_, h4.mono (SqT.updD e) fun _ _ z => z⟩
      rcases h3 with h3 | ⟨o, h3⟩
      · exact .inl (by rw [upd_ne na]; exact h3)
      · exact .inr ⟨o, by rw [upd_ne na]; exact h3⟩
    | dic _ _ => obtain ⟨zs, h3, h4, h5⟩ := q; exact ⟨zs, by rw [upd_ne na]; exact h3, h4.mono (SqT.updD e) fun _ _ z => z, h5⟩
    | dit _ _ => obtain ⟨zs, h3, h4, h5⟩ := q; exact ⟨zs, by rw [upd_ne na]; exact h3, h4.mono (SqT.updD e) fun _ _ z => z, h5⟩
    | ins _ _ => exact q
  · obtain ⟨h1, h2⟩ := s.tab a ha
    have na : a ≠ D := ne_of h1 e (by unfold tabO; nofun)
    exact ⟨by rw [upd_ne na]; exact h1, h2⟩
theorem SR.newO {p : Addr} {o' : HO} (s : SR G ι H st) (hp : H p = none) : SR G ι (upd H p o') st := by
  have np := s.fresh hp
  have x : Ext ι H ι (upd H p o') := ext_new (st := st) hp
  refine ⟨s.len, s.nd, fun i a o h1 h2 => ?_, fun a ha => ?_⟩
  · have na : a ≠ p := fun z => np (by rw [← z]; exact List.mem_of_getElem? h1)
    exact (s.ob i a o h1 h2).ext s x (upd_ne na)
  · obtain ⟨h1, h2⟩ := s.tab a ha
    exact ⟨by rw [upd_ne (ne_of_none h1 hp)]; exact h1, h2⟩
theorem SR.snoc {p : Addr} {po : PO} (s : SR G ι H st) (np : p ∉ ι) (nt : p ∉ G.tabs) (ho : OR G (ι ++ [p]) H po p) : SR G (ι ++ [p]) H (st ++ [po]) := by
  have mono : ∀ {p' : List PV} {w : List V}, RepL G ι H p' w → RepL G (ι ++ [p]) H p' w := fun z => z.mono (fun _ _ y => y) fun i a y => by rw [List.getElem?_append_left (List.getElem?_eq_some_iff.mp y).1]; exact y
  refine ⟨by rw [List.length_append, List.length_append, s.len]; rfl, ?_, fun j b o q1 q2 => ?_, fun b hb => ?_⟩
  · rw [List.nodup_append]
    refine ⟨s.nd, by simp, fun b hb c hc => ?_⟩
    rw [List.mem_singleton] at hc
    rintro rfl
    exact np (by rw [← hc]; exact hb)
  · by_cases hji : j < ι.length
    · rw [List.getElem?_append_left hji] at q1
      rw [List.getElem?_append_left (by rw [← s.len]; exact hji)] at q2
      have q := s.ob j b o q1 q2
      cases o with
      | lst xs => obtain ⟨w, w1, w2⟩ := q; exact ⟨w, w1, mono w2⟩
      | fro xs => obtain ⟨w, w1, w2⟩ := q; exact ⟨w, w1, mono w2⟩
      | dic _ _ => obtain ⟨w, w1, w2, w3⟩ := q; exact ⟨w, w1, mono w2, w3⟩
      | dit _ _ => obtain ⟨w, w1, w2, w3⟩ := q; exact ⟨w, w1, mono w2, w3⟩
      | ins _ _ => exact q
    · rw [List.getElem?_append_right (by omega)] at q1
      rw [List.getElem?_append_right (by rw [← s.len]; omega)] at q2
      rw [← s.len] at q2
      cases hk : j - ι.length with
      | zero =>
        rw [hk] at q1 q2
        simp at q1 q2
        rw [← q1, ← q2]
        exact ho
      | succ n =>
        rw [hk] at q1
        simp at q1
  · obtain ⟨h1, h2⟩ := s.tab b hb
    refine ⟨h1, fun z => ?_⟩
    rcases List.mem_append.mp z with z | z
    · exact h2 z
    · rw [List.mem_singleton] at z
      exact nt (by rw [← z]; exact hb)
def SPr (G : Gx) (E : XK) (trs : List (TE × TE)) (ks : List Key) (m : MA) : Prop := ∀ ρ σ st ι H Q, SR G ι H st → ER G ι H ρ σ →
  Ok G E ι H (m ρ st) (fun ps _ ι' H' => ∀ vs, RepL G ι' H' ps vs → Q ((ks.map kV).zip vs) H') → tPairs trs σ H Q
theorem sp_nil : SPr G E [] [] aNil := by
  intro ρ σ st ι H Q s e h
  exact h.here s [] rfl
theorem sp_cons {k : Key} {ks : List Key} {trs : List (TE × TE)} {tk : TE} (hk : tk = tC (kV k)) (ha : SE G E ta a) (hb : SPr G E trs ks m) : SPr G E ((tk, ta) :: trs) (k :: ks) (aCons a m) := by
  subst hk
  intro ρ σ st ι H Q s e h
  show ta σ H _
  refine ha ρ σ st ι H _ s e (h.bind.mono fun p st1 ι1 H1 x1 s1 h1 v hv => ?_)
  refine hb ρ σ st1 ι1 H1 _ s1 (e.ext s x1) (h1.bind.mono fun ps st2 ι2 H2 x2 s2 h2 vs hvs => ?_)
  exact h2.here s2 _ ⟨v, vs, rfl, hv.ext s1 x2, hvs⟩
theorem zip_map : ∀ (ks : List Key) (vs : List V), (ks.map kV).zip vs = (ks.zip vs).map fun kv => (kV kv.1, kv.2)
  | [], vs => by simp
  | k :: ks, [] => by simp
  | k :: ks, v :: vs => by simp [zip_map ks vs]
theorem putK_new {kvs : List (Key × V)} {k : Key} {v : V} (h : k ∉ kvs.map (·.1)) : putK kvs k v = kvs ++ [(k, v)] := by
  unfold putK
  rw [if_neg]
  intro z
  rw [List.any_eq_true] at z
  obtain ⟨x, h1, h2⟩ := z
  exact h (by rw [List.mem_map]; exact ⟨x, h1, of_decide_eq_true h2⟩)
theorem mergeK_new : ∀ (more kvs : List (Key × V)), ((kvs ++ more).map (·.1)).Nodup → mergeK kvs more = kvs ++ more
  | [], kvs, _ => by simp [mergeK]
  | p :: r, kvs, h => by
    have e : p.1 ∉ kvs.map (·.1) := by
      rw [List.map_append, List.map_cons, List.nodup_append] at h
      intro z
      exact h.2.2 _ z _ (List.mem_cons_self ..) rfl
    show mergeK (putK kvs p.1 p.2) r = _
    rw [putK_new e, mergeK_new r (kvs ++ [p]) (by rw [List.append_assoc]; exact h), List.append_assoc]
    rfl
theorem mergeK_zip {ks : List Key} {vs : List V} (n : ks.Nodup) (l : ks.length = vs.length) : mergeK [] (ks.zip vs) = ks.zip vs := by
  rw [mergeK_new _ _ (by rw [List.nil_append, List.map_fst_zip (by omega)]; exact n), List.nil_append]
theorem se_dic {trs : List (TE × TE)} {ks : List Key} (hm : SPr G E trs ks m) : SE G E (tDisp trs) (eDic ks m) := by
  intro ρ σ st ι H Q s e h p hp
  have pn := s.fresh hp
  have x0 : Ext ι H ι (upd H p (.dK [])) := ext_new (st := st) hp
  have s0 : SR G ι (upd H p (.dK [])) st := s.newO hp
  have nt : p ∉ G.tabs := fun z => by rw [(s.tab p z).1] at hp; cases hp
  refine hm ρ σ st ι _ _ s0 (e.ext s x0) ?_
  unfold eDic at h
  have h1 := h.bind
  cases hr : m ρ st with
  | bad => rw [hr] at h1; exact h1
  | exc c st1 =>
    rw [hr] at h1
    exact Ok.ext x0 h1
  | ok ps st1 =>
    rw [hr] at h1
    intro ι' H' x1 s1 vs hvs
    obtain ⟨hp1, pn1⟩ := x1.keep p _ (by unfold upd; rw [if_pos rfl]) pn
    have x01 := x0.trans x1
    have kk : ∀ a u, H a = some u → a ∉ ι → H' a = some u ∧ a ∉ ι' ∧ a ≠ p := fun a u ha hn => ⟨(x01.keep a u ha hn).1, (x01.keep a u ha hn).2, ne_of_none ha hp⟩
    have h2 := h1 ι' H' x01 s1
    dsimp only at h2
    split at h2
    · rename_i hc
      obtain ⟨hn, hl, h15⟩ := hc
      have hl2 : ks.length = vs.length := by rw [hl, hvs.length]
      refine ⟨hp1, ks.zip vs, zip_map ks vs, by rw [List.length_zip]; omega, ?_⟩
      rw [mergeK_zip hn hl2]
      have x3 : Ext ι H (ι' ++ [p]) (upd H' p (.dK (ks.zip vs))) := by
        obtain ⟨t, et⟩ := x01.pre
        refine ⟨⟨t ++ [p], by rw [et, List.append_assoc]⟩, fun a u ha hna => ?_⟩
        obtain ⟨q1, q2, q3⟩ := kk a u ha hna
        refine ⟨by rw [upd_ne q3]; exact q1, fun z => ?_⟩
        rcases List.mem_append.mp z with z | z
        · exact q2 z
        · rw [List.mem_singleton] at z; exact q3 z
      have s3 : SR G (ι' ++ [p]) (upd H' p (.dK (ks.zip vs))) (st1 ++ [.dic ks ps]) := by
        refine (s1.updD pn1 hp1).snoc pn1 nt ⟨vs, by unfold upd; rw [if_pos rfl], hvs.mono (SqT.updD hp1) fun i a y => ?_, hl⟩
        rw [List.getElem?_append_left (List.getElem?_eq_some_iff.mp y).1]; exact y
      have h4 : Ok G E ι H ((R.ok (PV.ref st1.length) (st1 ++ [.dic ks ps])) : R PV) (QV G Q) := by
        rw [hr, bind_ok, if_pos ⟨hn, hl, h15⟩] at h
        exact h
      exact h4 _ _ x3 s3 _ ⟨p, by rw [← s1.len, List.getElem?_append_right (Nat.le_refl _)]; simp, rfl⟩
    · exact h2.elim
theorem key_of {q : PV} {y : V} {k : Key} (e : keyP q = some k) (h : Rep G ι H q y) : y = kV k := by
  cases q with
  | int i => cases e; exact h
  | str x => cases e; exact h
  | non => cases e
  | bl b => cases e
  | tup xs => cases e
  | ref i => cases e
  | ty n => cases e
  | gl x => cases e
theorem lookK_rep {k : Key} : ∀ {ks : List Key} {ps : List PV} {vs : List V}, RepL G ι H ps vs → (∀ x, lookK k ks ps = some x → ∃ v, valV (ks.zip vs) k = some v ∧ Rep G ι H x v) ∧ (lookK k ks ps = none → valV (ks.zip vs) k = none)
  | [], ps, vs, h => ⟨fun x e => (by unfold lookK at e; cases e), fun _ => rfl⟩
  | a :: ks, [], vs, h => by
    cases (show vs = [] from h)
    exact ⟨fun x e => (by unfold lookK at e; cases e), fun _ => rfl⟩
  | a :: ks, p :: ps, vs, h => by
    obtain ⟨v, r, rfl, h1, h2⟩ := h
    have ih := lookK_rep (k := k) (ks := ks) h2
    by_cases ha : a = k
    · rw [List.zip_cons_cons, valV_pos (p := (a, v)) ha]
      unfold lookK
      rw [if_pos ha]
      exact ⟨fun x e => by cases e; exact ⟨v, rfl, h1⟩, fun e => by cases e⟩
    · rw [List.zip_cons_cons, valV_neg (p := (a, v)) ha]
      unfold lookK
      rw [if_neg ha]
      exact ih
theorem ok_dlook {p q : PV} {x y : V} {β : Type} {P : β → Sto → List Addr → Hp → Prop} {f : Option PV → Sto → R β} (s : SR G ι H st) (hx : Rep G ι H p x) (hy : Rep G ι H q y) (h : Ok G E ι H ((dlook p q st).bind f) P) :
    ∃ a o, x = .ref a ∧ Ok G E ι H (f o st) P ∧ ∃ r, DGet H a y r ∧ (∀ z, o = some z → ∃ v, r = some v ∧ Rep G ι H z v) ∧ (o = none → r = none) := by
  unfold dlook at h
  split at h
  · rename_i i
    split at h
    · rename_i ks xs e
      split at h
      · rename_i k hk
        obtain ⟨a, ha, rfl⟩ := hx
        obtain ⟨vs, h1, h2, _⟩ := s.ob i a _ ha e
        have l := lookK_rep (k := k) (ks := ks) h2
        rw [key_of hk hy]
        refine ⟨a, lookK k ks xs, rfl, h, _, DGet.k h1, fun z hz => l.1 z hz, fun hz => l.2 hz⟩
      · exact h.elim
    · exact h.elim
  · exact h.elim
theorem se_dget (ha : SE G E ta a) (hb : SE G E tb b) : SE G E (tDGet ta tb) (eDGet a b) := by
  intro ρ σ st ι H Q s e h
  refine ha ρ σ st ι H _ s e (h.bind.mono fun p st1 ι1 H1 x1 s1 h1 v hv => ?_)
  refine hb ρ σ st1 ι1 H1 _ s1 (e.ext s x1) (h1.bind.mono fun q st2 ι2 H2 x2 s2 h2 u hu => ?_)
  obtain ⟨a, o, rfl, h3, r, g, r1, r2⟩ := ok_dlook s2 (hv.ext s1 x2) hu h2
  cases o with
  | none => exact h3.elim
  | some z =>
    obtain ⟨w, rfl, hw⟩ := r1 z rfl
    exact ⟨a, w, rfl, g, h3.here s2 _ hw⟩
end
end Pu

namespace Pu
open PySem PySem.Spec L2 My
inductive W {α : Type} (r : R α) (P : α → Sto → Prop) : Prop
  | mk (a : α) (st : Sto) (e : r = .ok a st) (h : P a st) : W r P
theorem W.ok {α : Type} {a : α} {st : Sto} {P : α → Sto → Prop} (h : P a st) : W (.ok a st) P := ⟨a, st, rfl, h⟩
theorem W.un {α : Type} {a : α} {st : Sto} {P : α → Sto → Prop} (h : W (.ok a st) P) : P a st := by
  obtain ⟨b, s, e, h⟩ := h
  cases e
  exact h
theorem W_ok {α : Type} {a : α} {st : Sto} {P : α → Sto → Prop} : W (.ok a st) P = P a st := propext ⟨W.un, W.ok⟩
theorem W_bind {α β : Type} {r : R α} {f : α → Sto → R β} {P : β → Sto → Prop} : W (r.bind f) P = W r (fun a st => W (f a st) P) := by
  cases r with
  | ok a st =>
    rw [bind_ok]
    exact (W_ok (P := fun a st => W (f a st) P)).symm
  | exc c st => exact propext ⟨fun ⟨_, _, e, _⟩ => (nomatch e), fun ⟨_, _, e, _⟩ => (nomatch e)⟩
  | bad => exact propext ⟨fun ⟨_, _, e, _⟩ => (nomatch e), fun ⟨_, _, e, _⟩ => (nomatch e)⟩
theorem W.mono {α : Type} {r : R α} {P Q : α → Sto → Prop} (h : W r P) (m : ∀ a st, P a st → Q a st) : W r Q := by
  obtain ⟨a, st, e, h⟩ := h
  exact ⟨a, st, e, m a st h⟩
theorem W.eq {α : Type} {r : R α} {P : α → Sto → Prop} (h : W r P) : ∃ a st, r = .ok a st ∧ P a st := by
  obtain ⟨a, st, e, h⟩ := h
  exact ⟨a, st, e, h⟩
theorem W.of {α : Type} {r : R α} {a : α} {st : Sto} {P : α → Sto → Prop} (e : r = .ok a st) (h : P a st) : W r P := ⟨a, st, e, h⟩
theorem clean_app (st g : Sto) : Clean st (st ++ g) := fun i o h hi => by
  rw [List.getElem?_append_left hi] at h
  exact .inl h
theorem clean_set {st g : Sto} {l : Nat} {o : PO} (f : o.flat = true) : Clean st (st.set l o ++ g) := fun i o' h hi => by
  rw [List.getElem?_append_left (by simpa using hi), List.getElem?_set] at h
  by_cases c : l = i
  · subst c
    rw [if_pos rfl, if_pos hi] at h
    cases h
    exact .inr f
  · rw [if_neg c] at h
    exact .inl h
theorem gc_app {st g : Sto} {v : PV} (n : noRef v = true) : gc st (.ok v (st ++ g)) = .ok v st := by
  unfold gc
  dsimp only
  rw [if_pos (clean_app st g), if_pos n, List.take_left]
theorem gc_set {st g : Sto} {v : PV} {l : Nat} {o : PO} (f : o.flat = true) (n : noRef v = true) : gc st (.ok v (st.set l o ++ g)) = .ok v (st.set l o) := by
  unfold gc
  dsimp only
  rw [if_pos (clean_set f), if_pos n, List.take_left' (by simp)]
theorem gc_new {st s' g : Sto} {i : Nat} {o : PO} (hc : Clean st (s' ++ g)) (hl : s'.length = st.length) (hi : st.length ≤ i) (e : (s' ++ g)[i]? = some o) (f : o.flat = true) : gc st (.ok (.ref i) (s' ++ g)) = .ok (.ref st.length) (s' ++ [o]) := by
  unfold gc
  dsimp only
  rw [if_pos hc, if_neg (by unfold noRef; simp)]
  rw [e]
  show (if st.length ≤ i ∧ o.flat = true then R.ok (PV.ref st.length) (List.take st.length (s' ++ g) ++ [o]) else R.ok (PV.ref i) (s' ++ g)) = _
  rw [if_pos ⟨hi, f⟩, ← hl, List.take_left]
theorem fn_W {np n : Nat} {body : MS} {ps : List PV} {st : Sto} {P : PV → Sto → Prop} (hl : ps.length = np) (hb : W (body (ps.map some ++ List.replicate (n - ps.length) none) st) (fun so st' => W (out so st') (fun v st2 => W (gc st (.ok v st2)) P))) : W (fnP np n body ps st) P := by
  unfold fnP
  rw [if_pos hl]
  obtain ⟨so, st1, e1, h1⟩ := hb.eq
  rw [e1, bind_ok]
  obtain ⟨v, st2, e2, h2⟩ := h1.eq
  rw [e2]
  exact h2
def IsDeck (o : PO) : Prop := ∃ ds : List Int, o = .lst (ds.map PV.int) ∧ ∀ d ∈ ds, 0 ≤ d ∧ d < 1000
def Deck (st : Sto) (l : Nat) : Prop := ∃ o, st[l]? = some o ∧ IsDeck o
theorem noRefL_ints : ∀ ds : List Int, noRefL (ds.map PV.int) = true
  | [] => rfl
  | d :: ds => by
    show (true && noRefL (ds.map PV.int)) = true
    rw [noRefL_ints ds]
    rfl
theorem IsDeck.flat {o : PO} (h : IsDeck o) : o.flat = true := by
  obtain ⟨ds, rfl, _⟩ := h
  exact noRefL_ints ds
theorem Deck.set {st : Sto} {l : Nat} {o : PO} (h : Deck st l) (d : IsDeck o) : Deck (st.set l o) l := by
  obtain ⟨o', e, _⟩ := h
  refine ⟨o, ?_, d⟩
  rw [List.getElem?_set, if_pos rfl, if_pos (List.getElem?_eq_some_iff.mp e).1]
end Pu

namespace LawP
open PySem PySem.Spec L2 My Pu
noncomputable def b_p_law_mixed : MS :=
  (sSeq (sAsg (e2 modP (e2 addP (e2 addP (eVar 0) (e2 mulP (e2 mulP (eVar 1) (eVar 1)) (eC (.int 40503)))) (eC (.int 12345))) (eC (.int 2305843009213693951))) (gN 2))
  (sSeq (sAsg (e2 modP (e2 mulP (eVar 2) (eVar 2)) (eC (.int 2305843009213693951))) (gN 2))
  (sSeq (sAsg (e2 modP (e2 mulP (e2 addP (e2 addP (eVar 2) (e2 mulP (eVar 1) (eC (.int 7919)))) (eC (.int 1))) (eC (.int 48271))) (eC (.int 2305843009213693951))) (gN 2))
  (sRet (e2 fdivP (e2 modP (e2 mulP (eVar 2) (eVar 2)) (eC (.int 2305843009213693951))) (eC (.int 1024)))))))
noncomputable def p_law_mixed : Fn := fnP 2 3 b_p_law_mixed
noncomputable def b_p_law_deck : MS :=
  (sSeq (sAsg (e2 addP (eB listP (aCons (eSl (eVar 0) oNone (oSome (eC (.int 60)))) aNil)) (e2 mulP (eLst (aCons (eC (.int 0)) aNil)) (eB intP1 (aCons (e2 eqP (eB lenP (aCons (eVar 0) aNil)) (eC (.int 0))) aNil)))) (gN 2))
  (sSeq (sAsg (eLc (iSeqP (eVar 2)) (gN 4) tYesP (e2 mulP (eVar 4) (eB intP1 (aCons (e2 geP (eVar 4) (e2 powP (eC (.int 10)) (eC (.int 18)))) aNil))) [4]) (gN 3))
  (sSeq (sAsg (eLst aNil) (gN 5))
  (sSeq (sFor (iR1 (aCons (eVar 1) aNil)) (gN 6)
    (sSeq (sAsg (e2 modP (eVar 6) (eB lenP (aCons (eVar 2) aNil))) (gN 7))
  (sIf (tOf (e2 gtP (e2 ixP (eVar 3) (eVar 7)) (eC (.int 0))))
    (sSeq (sDrop (eML appendP (eVar 5) (aCons (e2 modP (e2 ixP (eVar 3) (eVar 7)) (eC (.int 1000))) aNil)))
  (sAsg (e2 fdivP (e2 ixP (eVar 3) (eVar 7)) (eC (.int 1000))) (gSubP setP (eVar 3) (eVar 7))))
    (sDrop (eML appendP (eVar 5) (aCons (e2 modP (eCall 2 LawP.p_law_mixed (aCons (e2 ixP (eVar 2) (eVar 7)) (aCons (e2 addP (eVar 6) (eC (.int 1))) aNil))) (eC (.int 1000))) aNil))))))
  (sRet (eB revP (aCons (eVar 5) aNil)))))))
noncomputable def p_law_deck : Fn := fnP 2 8 b_p_law_deck
noncomputable def b_p_law_next : MS :=
  (sSeq (sIf (tOf (e2 gtP (eB lenP (aCons (eVar 0) aNil)) (eC (.int 0))))
    (sRet (eML0 popP (eVar 0)))
    sNext)
  (sRet (eC (.int 0))))
noncomputable def p_law_next : Fn := fnP 1 1 b_p_law_next
end LawP

namespace LawP
open PySem PySem.Spec L2 My Pu
noncomputable def b_p_law_byte : MS :=
  (sSeq (sAsg (eCall 1 LawP.p_law_next (aCons (eVar 0) aNil)) (gN 1))
  (sSeq (sIf (tOf (e2 eqP (e2 modP (eVar 1) (eC (.int 3))) (eC (.int 0))))
    (sRet (e2 ixP (eLst (aCons (eC (.int 0)) (aCons (eC (.int 1)) (aCons (eC (.int 127)) (aCons (eC (.int 128)) (aCons (eC (.int 254)) (aCons (eC (.int 255)) aNil))))))) (e2 modP (e2 fdivP (eVar 1) (eC (.int 3))) (eC (.int 6)))))
    sNext)
  (sRet (e2 modP (eVar 1) (eC (.int 256))))))
noncomputable def p_law_byte : Fn := fnP 1 2 b_p_law_byte
noncomputable def b_p_law_memory : MS :=
  (sSeq (sAsg (eCall 1 LawP.p_law_byte (aCons (eVar 0) aNil)) (gN 1))
  (sSeq (sAsg (eCall 1 LawP.p_law_next (aCons (eVar 0) aNil)) (gN 2))
  (sSeq (sAsg (eLc (iR1 (aCons (eC (.int 16)) aNil)) (gN 4) tYesP (e2 modP (e2 addP (eVar 1) (e2 mulP (eVar 4) (eVar 2))) (eC (.int 256))) [4]) (gN 3))
  (sSeq (sAsg (eCall 1 LawP.p_law_byte (aCons (eVar 0) aNil)) (gSubP setP (eVar 3) (e2 modP (eCall 1 LawP.p_law_next (aCons (eVar 0) aNil)) (eC (.int 16)))))
  (sRet (eVar 3))))))
noncomputable def p_law_memory : Fn := fnP 1 5 b_p_law_memory
noncomputable def b_p_law_state : MS :=
  (sSeq (sAsg (eCall 1 LawP.p_law_next (aCons (eVar 0) aNil)) (gN 2))
  (sSeq (sAsg (eTup (aCons (eVar 1) (aCons (eCall 1 LawP.p_law_byte (aCons (eVar 0) aNil)) (aCons (eCall 1 LawP.p_law_byte (aCons (eVar 0) aNil)) (aCons (e2 modP (eVar 2) (eC (.int 2))) (aCons (e2 modP (e2 fdivP (eVar 2) (eC (.int 2))) (eC (.int 2))) aNil)))))) (gN 3))
  (sSeq (sAsg (eB tupP (aCons (eCall 1 LawP.p_law_memory (aCons (eVar 0) aNil)) aNil)) (gN 4))
  (sSeq (sAsg (eCall 1 LawP.p_law_next (aCons (eVar 0) aNil)) (gN 5))
  (sSeq (sAsg (eB tupP (aCons (eLc (iR1 (aCons (eC (.int 20)) aNil)) (gN 7) tYesP (e2 modP (e2 addP (eVar 5) (e2 mulP (eVar 7) (eC (.int 37)))) (eC (.int 256))) [7]) aNil)) (gN 6))
  (sSeq (sAsg (eTup (aCons (e2 modP (e2 fdivP (eVar 2) (eC (.int 4))) (eC (.int 64))) (aCons (e2 mulP (eVar 5) (eC (.int 4))) (aCons (e2 modP (e2 fdivP (eVar 2) (eC (.int 7))) (eC (.int 5))) (aCons (eC (.int 0)) (aCons (e2 modP (e2 fdivP (eVar 2) (eC (.int 3))) (eC (.int 2))) aNil)))))) (gN 8))
  (sRet (e2 addP (e2 addP (eVar 3) (eTup (aCons (eVar 4) (aCons (eVar 6) aNil)))) (eVar 8)))))))))
noncomputable def p_law_state : Fn := fnP 2 9 b_p_law_state
noncomputable def b_p_law_deeds : MS :=
  (sSeq (sAsg (eLst (aCons (eC (.str "set")) (aCons (eC (.str "test")) (aCons (eC (.str "setx")) (aCons (eC (.str "get")) (aCons (eC (.str "put")) (aCons (eC (.str "add")) (aCons (eC (.str "sub")) (aCons (eC (.str "mask")) (aCons (eC (.str "flip")) (aCons (eC (.str "getx")) (aCons (eC (.str "putx")) (aCons (eC (.str "lay")) (aCons (eC (.str "take")) aNil)))))))))))))) (gN 0))
  (sSeq (sAsg (e2 addP (eVar 0) (eLst (aCons (eC (.str "half")) (aCons (eC (.str "twice")) (aCons (eC (.str "up")) (aCons (eC (.str "down")) (aCons (eC (.str "tox")) (aCons (eC (.str "toa")) (aCons (eC (.str "rest")) (aCons (eC (.str "idle")) (aCons (eC (.str "wait")) aNil))))))))))) (gN 0))
  (sRet (e2 addP (eVar 0) (eLst (aCons (eC (.str "go")) (aCons (eC (.str "ifz")) (aCons (eC (.str "ifn")) (aCons (eC (.str "ifc")) (aCons (eC (.str "ifd")) (aCons (eC (.str "at")) (aCons (eC (.str "door")) (aCons (eC (.str "eye")) (aCons (eC (.str "data")) aNil))))))))))))))
noncomputable def p_law_deeds : Fn := fnP 0 1 b_p_law_deeds
noncomputable def b_p_law_most : MS :=
  (sSeq (sIf (tOrP (tOf (e2 ltP (eVar 0) (eC (.int 3)))) (tOf (e2 eqP (eVar 0) (eC (.int 30)))))
    (sRet (eC (.int 255)))
    sNext)
  (sSeq (sIf (tOf (e2 ltP (eVar 0) (eC (.int 13))))
    (sRet (eC (.int 15)))
    sNext)
  (sRet (e2 ixP (eLst (aCons (eC (.int 19)) (aCons (eC (.int 5)) aNil))) (e2 subP (eVar 0) (eC (.int 28)))))))
noncomputable def p_law_most : Fn := fnP 1 1 b_p_law_most
noncomputable def b_p_law_name : MS :=
  (sRet (e2 mulP (e2 ixP (eC (.str "abcdefghijklmnopqrstuvwxyz")) (e2 modP (eVar 0) (eC (.int 26)))) (e2 addP (eC (.int 1)) (e2 modP (e2 fdivP (eVar 0) (eC (.int 26))) (eC (.int 8))))))
noncomputable def p_law_name : Fn := fnP 1 1 b_p_law_name
noncomputable def b_p_law_value : MS :=
  (sSeq (sAsg (eCall 1 LawP.p_law_next (aCons (eVar 0) aNil)) (gN 4))
  (sSeq (sIf (tOf (eChain leP ltP (eC (.int 13)) (eVar 1) (eC (.int 22))))
    (sRet (eC (.non)))
    sNext)
  (sSeq (sIf (tOf (e2 eqP (eVar 1) (eC (.int 27))))
    (sRet (e2 ixP (eVar 3) (e2 modP (eVar 4) (eB lenP (aCons (eVar 3) aNil)))))
    sNext)
  (sSeq (sIf (tOf (eChain leP ltP (eC (.int 22)) (eVar 1) (eC (.int 27))))
    (sRet (e2 ixP (eVar 2) (e2 modP (eVar 4) (eB lenP (aCons (eVar 2) aNil)))))
    sNext)
  (sRet (e2 modP (eVar 4) (e2 addP (eCall 1 LawP.p_law_most (aCons (eVar 1) aNil)) (eC (.int 1)))))))))
noncomputable def p_law_value : Fn := fnP 4 5 b_p_law_value
noncomputable def b_p_law_free : MS :=
  (sSeq (sAsg (eLc (iR1 (aCons (eVar 1) aNil)) (gN 4) (tOrP (tOf (e2 eqP (eVar 4) (eC (.int 0)))) (tOf (e2 eqP (e2 modP (eCall 1 LawP.p_law_next (aCons (eVar 0) aNil)) (eC (.int 3))) (eC (.int 0))))) (eVar 4) [4]) (gN 3))
  (sSeq (sAsg (eLc (iR1 (aCons (eVar 2) aNil)) (gN 4) (tOrP (tOf (e2 eqP (eVar 4) (eC (.int 0)))) (tOf (e2 eqP (e2 modP (eCall 1 LawP.p_law_next (aCons (eVar 0) aNil)) (eC (.int 3))) (eC (.int 0))))) (e2 addP (eVar 1) (eVar 4)) [4]) (gN 5))
  (sSeq (sAsg (eLc (iSeqP (eVar 3)) (gN 4) tYesP (eCall 1 LawP.p_law_name (aCons (eVar 4) aNil)) [4]) (gN 6))
  (sSeq (sAsg (eLc (iSeqP (eVar 5)) (gN 4) tYesP (eCall 1 LawP.p_law_name (aCons (eVar 4) aNil)) [4]) (gN 7))
  (sSeq (sAsg (eLst aNil) (gN 8))
  (sSeq (sFor (iR1 (aCons (eVar 1) aNil)) (gN 4)
    (sSeq (sAsg (e2 modP (eCall 1 LawP.p_law_next (aCons (eVar 0) aNil)) (eC (.int 30))) (gN 9))
  (sSeq (sIf (tOf (e2 eqP (eVar 4) (e2 subP (eVar 1) (eC (.int 1)))))
    (sAsg (eC (.int 22)) (gN 9))
    sNext)
  (sSeq (sIf (tAndP (tOf (e2 eqP (eVar 9) (eC (.int 27)))) (tOf (e2 eqP (eVar 2) (eC (.int 0)))))
    (sAsg (eC (.int 19)) (gN 9))
    sNext)
  (sSeq (sAsg (eCall 4 LawP.p_law_value (aCons (eVar 0) (aCons (eVar 9) (aCons (eVar 6) (aCons (eVar 7) aNil))))) (gN 10))
  (sDrop (eML appendP (eVar 8) (aCons (eTup (aCons (e2 ixP (eLst (aCons (eC (.str "")) (aCons (eCall 1 LawP.p_law_name (aCons (eVar 4) aNil)) aNil))) (eB intP1 (aCons (e2 (inQ false) (eVar 4) (eVar 3)) aNil))) (aCons (e2 ixP (eCall 0 LawP.p_law_deeds aNil) (eVar 9)) (aCons (eVar 10) aNil)))) aNil))))))))
  (sSeq (sFor (iR1 (aCons (eVar 2) aNil)) (gN 4)
    (sDrop (eML appendP (eVar 8) (aCons (eTup (aCons (e2 ixP (eLst (aCons (eC (.str "")) (aCons (eCall 1 LawP.p_law_name (aCons (e2 addP (eVar 1) (eVar 4)) aNil)) aNil))) (eB intP1 (aCons (e2 (inQ false) (e2 addP (eVar 1) (eVar 4)) (eVar 5)) aNil))) (aCons (eC (.str "data")) (aCons (e2 modP (eCall 1 LawP.p_law_next (aCons (eVar 0) aNil)) (eC (.int 256))) aNil)))) aNil))))
  (sRet (eB tupP (aCons (eVar 8) aNil))))))))))
noncomputable def p_law_free : Fn := fnP 3 11 b_p_law_free
end LawP

namespace Prog
open PySem PySem.Spec L2 My Pu
def d_DEEDS : List (Str × PV) := [("set", .tup [.str "byte", .int 2]), ("test", .tup [.str "byte", .int 2]), ("setx", .tup [.str "byte", .int 2]), ("get", .tup [.str "memory", .int 3]), ("put", .tup [.str "memory", .int 3]), ("add", .tup [.str "memory", .int 3]), ("sub", .tup [.str "memory", .int 3]), ("mask", .tup [.str "memory", .int 3]), ("flip", .tup [.str "memory", .int 3]), ("getx", .tup [.str "memory", .int 3]), ("putx", .tup [.str "memory", .int 3]), ("lay", .tup [.str "memory", .int 4]), ("take", .tup [.str "memory", .int 4]), ("half", .tup [.str "plain", .int 2]), ("twice", .tup [.str "plain", .int 2]), ("up", .tup [.str "plain", .int 2]), ("down", .tup [.str "plain", .int 2]), ("tox", .tup [.str "plain", .int 2]), ("toa", .tup [.str "plain", .int 2]), ("rest", .tup [.str "plain", .int 2]), ("idle", .tup [.str "plain", .int 3]), ("wait", .tup [.str "plain", .int 2]), ("go", .tup [.str "mark", .int 3]), ("ifz", .tup [.str "mark", .int 2]), ("ifn", .tup [.str "mark", .int 2]), ("ifc", .tup [.str "mark", .int 2]), ("ifd", .tup [.str "mark", .int 2]), ("at", .tup [.str "mark", .int 4]), ("door", .tup [.str "door", .int 3]), ("eye", .tup [.str "eye", .int 3]), ("data", .tup [.str "table", .int 0])]
noncomputable def b_deeds_kind : MS :=
  (sRet (e2 ixP (e1 (mgetP Prog.d_DEEDS) (eVar 0)) (eC (.int 0))))
noncomputable def deeds_kind : Fn := fnP 1 1 b_deeds_kind
def d_BYTE_COUNTS : List (Str × PV) := [("byte", .int 2), ("memory", .int 2), ("plain", .int 1), ("mark", .int 2), ("door", .int 2), ("eye", .int 2), ("table", .int 1)]
noncomputable def b_deeds_byte_count : MS :=
  (sRet (e1 (mgetP Prog.d_BYTE_COUNTS) (eCall 1 Prog.deeds_kind (aCons (eVar 0) aNil))))
noncomputable def deeds_byte_count : Fn := fnP 1 1 b_deeds_byte_count
noncomputable def b_bounds_is_whole : MS :=
  (sRet (eAnd (eB isiP (aCons (eVar 0) (aCons (eC (.ty "int")) aNil))) (eNot (eB isiP (aCons (eVar 0) (aCons (eC (.ty "bool")) aNil))))))
noncomputable def bounds_is_whole : Fn := fnP 1 1 b_bounds_is_whole
noncomputable def b_bounds_is_number : MS :=
  (sRet (eAnd (eCall 1 Prog.bounds_is_whole (aCons (eVar 0) aNil)) (eChain leP leP (eVar 1) (eVar 0) (eVar 2))))
noncomputable def bounds_is_number : Fn := fnP 3 3 b_bounds_is_number
noncomputable def b_bounds_is_byte : MS :=
  (sRet (eCall 3 Prog.bounds_is_number (aCons (eVar 0) (aCons (eC (.int 0)) (aCons (eC (.int 255)) aNil)))))
noncomputable def bounds_is_byte : Fn := fnP 1 1 b_bounds_is_byte
noncomputable def b_steps_with_byte : MS :=
  (sRet (e2 addP (e2 addP (eSl (eVar 0) oNone (oSome (eVar 1))) (eTup (aCons (eVar 2) aNil))) (eSl (eVar 0) (oSome (e2 addP (eVar 1) (eC (.int 1)))) oNone)))
noncomputable def steps_with_byte : Fn := fnP 3 3 b_steps_with_byte
noncomputable def b_steps_memory_behind : MS :=
  (sSeq (sMatch (eVar 0)
    (mCase ["put"] (sRet (eCall 3 Prog.steps_with_byte (aCons (eVar 4) (aCons (eVar 1) (aCons (eVar 2) aNil)))))
    (mCase ["putx"] (sRet (eCall 3 Prog.steps_with_byte (aCons (eVar 4) (aCons (eVar 1) (aCons (eVar 3) aNil)))))
    (mCase ["lay"] (sRet (eCall 3 Prog.steps_with_byte (aCons (eVar 4) (aCons (e2 modP (e2 addP (eVar 1) (eVar 3)) (eC (.int 16))) (aCons (eVar 2) aNil)))))
    mNil))))
  (sRet (eVar 4)))
noncomputable def steps_memory_behind : Fn := fnP 5 5 b_steps_memory_behind
end Prog

namespace My
open PySem PySem.Spec PyProof.Rows L2
end My

namespace My
open PySem PySem.Spec PyProof.Rows L2
abbrev bmV : List Value := [.type "ValueError", .type "Exception", .type "BaseException", .type "object"]
structure ExcK (K : PySem.W.Frag) (mg : Str → Option Value) (x : Str) (C : Addr) (bm : List Value) : Prop where
  bound : mg x = some (.ref C)
  obj : ∃ N nm q bs hdct sn sub ab col dd k0 k1 k2 k3 k5, K.lookup C = some (excClassObj nm q C N bs bm hdct sn sub ab col dd k0 k1 k2 k3 k5 "ValueError.__new__") ∧ PySem.W.nsOkIn K N = true ∧ PySem.W.nsIn K N "__init__" = some none
  tail : PySem.W.tailIn K bmV bm = true
theorem ExcK.own {K : PySem.W.Frag} {mg : Str → Option Value} {x : Str} {C : Addr} {bm : List Value} (h : ExcK K mg x C bm) {hp : Heap} (X : K.In hp) : OwnCls x C bmV "ValueError.__new__" mg hp := by
  obtain ⟨N, nm, q, bs, hdct, sn, sub, ab, col, dd, k0, k1, k2, k3, k5, l, n1, n2⟩ := h.obj
  exact ⟨h.bound, bm, N, nm, q, bs, hdct, sn, sub, ab, col, dd, k0, k1, k2, k3, k5, _, X _ _ l, .of_isNs (PySem.W.isNs_of_in X n1), PySem.W.nsMap_none_of_in X n1 n2, PySem.W.tail_of_in X h.tail⟩
end My

namespace My
open PySem PySem.Spec PyProof.Rows L2
structure Fl (X : Cx) (pins : List (Addr × Obj)) (a : Addr) (C : Value) (H : Hp) (B : Heap) (h : Heap) : Prop where
  fl : ∃ a0, Heap.FlyingW B X.stack a C a0 h
  base : X.base.StaysIn B
  trk : ∀ b u, H b = some u → ∃ o, B.get? b = some o
  ahead : ∀ b o, X.s_0.heap.get? b = some o → b ∉ X.fs → ∃ o', B.get? b = some o'
  cells : ∀ x c, X.env.cells.lookup x = some c → ∃ o, B.get? c = some o
  pins : ∀ p ∈ X.pn ++ pins, ∃ o, B.get? p.1 = some o
end My

namespace My
open PySem PySem.Spec PyProof.Rows L2
abbrev EK := Value → L2.St → Hp → Prop
def XP (X : Cx) (pins : List (Addr × Obj)) (Ex : EK) (e : Value) (s' : Shared) : Prop := ∃ a C H' B σ', e = .ref a ∧ Inv X pins σ' H' s' ∧ Fl X pins a C H' B s'.heap ∧ Ex C σ' H'
end My

namespace My
open PySem PySem.Spec PyProof.Rows L2
end My

namespace Pu
open PySem PySem.Spec PyProof.Rows L2 My
inductive WX {α : Type} (r : R α) (P : Str → Sto → Prop) : Prop
  | mk (c : Str) (st : Sto) (e : r = .exc c st) (h : P c st) : WX r P
theorem WX.mono {α : Type} {r : R α} {P Q : Str → Sto → Prop} (h : WX r P) (m : ∀ c st, P c st → Q c st) : WX r Q := by
  obtain ⟨c, st, e, h⟩ := h
  exact ⟨c, st, e, m c st h⟩
theorem WX.eq {α : Type} {r : R α} {P : Str → Sto → Prop} (h : WX r P) : ∃ c st, r = .exc c st ∧ P c st := by
  obtain ⟨c, st, e, h⟩ := h
  exact ⟨c, st, e, h⟩
theorem WX.bind {α β : Type} {r : R α} {f : α → Sto → R β} {P : Str → Sto → Prop} (h : WX r P) : WX (r.bind f) P := by
  obtain ⟨c, st, e, h⟩ := h
  exact ⟨c, st, by rw [e]; rfl, h⟩
end Pu

namespace My
open PySem PySem.Spec PyProof.Rows L2
end My

namespace Pu
open PySem PySem.Spec PyProof.Rows L2 My
end Pu

namespace Pu
open PySem PySem.Spec L2 My
theorem getL_lst {st : Sto} {i : Nat} {xs : List PV} (h : st[i]? = some (.lst xs)) : getL st i = some xs := by unfold getL; rw [h]
theorem getM_lst {st : Sto} {i : Nat} {xs : List PV} (h : st[i]? = some (.lst xs)) : getM st i = some xs := by unfold getM; rw [h]
theorem getM_L {st : Sto} {i : Nat} {xs : List PV} (h : getM st i = some xs) : getL st i = some xs := by
  unfold getM at h
  split at h
  · rename_i ys e
    cases h
    exact getL_lst e
  · cases h
theorem getM_at {st : Sto} {i : Nat} {xs : List PV} (h : getM st i = some xs) : st[i]? = some (.lst xs) := by
  unfold getM at h
  split at h
  · rename_i ys e
    cases h
    exact e
  · cases h
theorem at_last (st : Sto) (o : PO) : (st ++ [o])[st.length]? = some o := by
  rw [List.getElem?_append_right (Nat.le_refl _)]
  simp
theorem at_app {st g : Sto} {i : Nat} {o : PO} (h : st[i]? = some o) : (st ++ g)[i]? = some o := by
  rw [List.getElem?_append_left (List.getElem?_eq_some_iff.mp h).1]
  exact h
theorem getL_app {st g : Sto} {i : Nat} {xs : List PV} (h : getL st i = some xs) : getL (st ++ g) i = some xs := by
  unfold getL at h ⊢
  split at h
  · rename_i ys e
    rw [at_app e]
    exact h
  · rename_i ys e
    rw [at_app e]
    exact h
  · cases h
theorem getM_app {st g : Sto} {i : Nat} {xs : List PV} (h : getM st i = some xs) : getM (st ++ g) i = some xs := getM_lst (at_app (getM_at h))
theorem getL_last (st : Sto) (xs : List PV) : getL (st ++ [.lst xs]) st.length = some xs := getL_lst (at_last st _)
theorem getM_last (st : Sto) (xs : List PV) : getM (st ++ [.lst xs]) st.length = some xs := getM_lst (at_last st _)
theorem set_app {st g : Sto} {i : Nat} {o : PO} (h : i < st.length) : (st ++ g).set i o = st.set i o ++ g := List.set_append_left _ _ h
def Pre (st st' : Sto) : Prop := ∃ g, st' = st ++ g
theorem Pre.refl {st : Sto} : Pre st st := ⟨[], by simp⟩
theorem Pre.trans {a b c : Sto} (h : Pre a b) (k : Pre b c) : Pre a c := by
  obtain ⟨g, rfl⟩ := h
  obtain ⟨g', rfl⟩ := k
  exact ⟨g ++ g', by simp⟩
theorem Pre.app {st g : Sto} : Pre st (st ++ g) := ⟨g, rfl⟩
theorem Pre.new {a b : Sto} {o : PO} (h : Pre a b) : Pre a (b ++ [o]) := h.trans .app
theorem Pre.le {a b : Sto} (h : Pre a b) : a.length ≤ b.length := by
  obtain ⟨g, rfl⟩ := h
  rw [List.length_append]
  omega
theorem Pre.set {a b : Sto} {k : Nat} {o : PO} (h : Pre a b) (hk : a.length ≤ k) : Pre a (b.set k o) := by
  obtain ⟨g, rfl⟩ := h
  exact ⟨g.set (k - a.length) o, by rw [List.set_append_right _ _ hk]⟩
theorem Pre.at {a b : Sto} (h : Pre a b) {i : Nat} {o : PO} (e : a[i]? = some o) : b[i]? = some o := by
  obtain ⟨g, rfl⟩ := h
  exact at_app e
theorem Pre.getL {a b : Sto} (h : Pre a b) {i : Nat} {xs : List PV} (e : Pu.getL a i = some xs) : Pu.getL b i = some xs := by
  obtain ⟨g, rfl⟩ := h
  exact getL_app e
theorem Pre.getM {a b : Sto} (h : Pre a b) {i : Nat} {xs : List PV} (e : Pu.getM a i = some xs) : Pu.getM b i = some xs := by
  obtain ⟨g, rfl⟩ := h
  exact getM_app e
theorem getM_set {st : Sto} {k : Nat} {xs ys : List PV} (h : getM st k = some xs) : getM (st.set k (.lst ys)) k = some ys := by
  refine getM_lst ?_
  rw [List.getElem?_set, if_pos rfl, if_pos (List.getElem?_eq_some_iff.mp (getM_at h)).1]
theorem getM_ne {st : Sto} {k j : Nat} {o : PO} (n : j ≠ k) : getM (st.set k o) j = getM st j := by
  unfold getM
  rw [List.getElem?_set, if_neg (fun e => n e.symm)]
theorem getL_ne {st : Sto} {k j : Nat} {o : PO} (n : j ≠ k) : getL (st.set k o) j = getL st j := by
  unfold getL
  rw [List.getElem?_set, if_neg (fun e => n e.symm)]
theorem for_W {xs : List PV} {g : MG} {body : MS} {P : SO → Sto → Prop} (I : Nat → Env → Sto → Prop)
    (step : ∀ (i : Nat) p ρ st, xs[i]? = some p → I i ρ st → W (g p ρ st) fun ρ1 st1 => W (body ρ1 st1) fun so st2 => match so with
      | .nx ρ2 => I (i + 1) ρ2 st2
      | .ct ρ2 => I (i + 1) ρ2 st2
      | .bk ρ2 => P (.nx ρ2) st2
      | .rt v => P (.rt v) st2)
    (hend : ∀ ρ st, I xs.length ρ st → P (.nx ρ) st) : ∀ (n i : Nat) (ρ : Env) (st : Sto), n + i = xs.length → I i ρ st → W (forGo (.items xs) g body (n + 1) i ρ st) P
  | 0, i, ρ, st, hn, hI => by
    unfold forGo
    have e : nextP (.items xs) i st = some none := by
      show some xs[i]? = _
      rw [List.getElem?_eq_none (by omega)]
    rw [e]
    first | exact W.ok (hend ρ st (by rw [← hn, Nat.zero_add]; exact hI)) | exact W.mono (hend ρ st (by rw [← hn, Nat.zero_add]; exact hI)) (fun _ _ q => W.ok q) | (simp only [W_ok]; exact hend ρ st (by rw [← hn, Nat.zero_add]; exact hI))
  | n + 1, i, ρ, st, hn, hI => by
    unfold forGo
    have hi : i < xs.length := by omega
    have e : nextP (.items xs) i st = some (some xs[i]) := by
      show some xs[i]? = _
      rw [List.getElem?_eq_getElem hi]
    rw [e]
    show W ((g xs[i] ρ st).bind _) P
    rw [W_bind]
    refine (step i _ ρ st (List.getElem?_eq_getElem hi) hI).mono fun ρ1 st1 h1 => ?_
    rw [W_bind]
    refine h1.mono fun so st2 h2 => ?_
    cases so with
    | nx ρ2 => exact for_W I step hend n (i + 1) ρ2 st2 (by omega) h2
    | ct ρ2 => exact for_W I step hend n (i + 1) ρ2 st2 (by omega) h2
    | bk ρ2 => first | exact W.ok (h2) | exact W.mono (h2) (fun _ _ q => W.ok q) | (simp only [W_ok]; exact h2)
    | rt v => first | exact W.ok (h2) | exact W.mono (h2) (fun _ _ q => W.ok q) | (simp only [W_ok]; exact h2)
theorem for_items {xs : List PV} {g : MG} {body : MS} {P : SO → Sto → Prop} {ρ : Env} {st : Sto} (I : Nat → Env → Sto → Prop) (h0 : I 0 ρ st)
    (step : ∀ (i : Nat) p ρ st, xs[i]? = some p → I i ρ st → W (g p ρ st) fun ρ1 st1 => W (body ρ1 st1) fun so st2 => match so with
      | .nx ρ2 => I (i + 1) ρ2 st2
      | .ct ρ2 => I (i + 1) ρ2 st2
      | .bk ρ2 => P (.nx ρ2) st2
      | .rt v => P (.rt v) st2)
    (hend : ∀ ρ st, I xs.length ρ st → P (.nx ρ) st) : W (forGo (.items xs) g body (fuelP (.items xs) st) 0 ρ st) P := for_W I step hend xs.length 0 ρ st rfl h0
theorem lc_W {xs : List PV} {g : MG} {c : MT} {e : ME} {vs : List Nat} {ρ : Env} {P : PV → Sto → Prop} (I : Nat → List PV → Sto → Prop)
    (step : ∀ (i : Nat) p acc st, xs[i]? = some p → I i acc st → W (g p (wipeP ρ vs) st) fun ρ1 st1 => W (c ρ1 st1) fun k st2 => if k = true then W (e ρ1 st2) fun y st3 => acc.length < 100000 ∧ I (i + 1) (acc ++ [y]) st3 else I (i + 1) acc st2)
    (hend : ∀ acc st, I xs.length acc st → P (.ref st.length) (st ++ [.lst acc])) : ∀ (n i : Nat) (acc : List PV) (st : Sto), n + i = xs.length → I i acc st → W (lcGo (.items xs) g c e vs (n + 1) i ρ acc st) P
  | 0, i, acc, st, hn, hI => by
    unfold lcGo
    have e : nextP (.items xs) i st = some none := by
      show some xs[i]? = _
      rw [List.getElem?_eq_none (by omega)]
    rw [e]
    first | exact W.ok (hend acc st (by rw [← hn, Nat.zero_add]; exact hI)) | exact W.mono (hend acc st (by rw [← hn, Nat.zero_add]; exact hI)) (fun _ _ q => W.ok q) | (simp only [W_ok]; exact hend acc st (by rw [← hn, Nat.zero_add]; exact hI))
  | n + 1, i, acc, st, hn, hI => by
    unfold lcGo
    have hi : i < xs.length := by omega
    have e : nextP (.items xs) i st = some (some xs[i]) := by
      show some xs[i]? = _
      rw [List.getElem?_eq_getElem hi]
    rw [e]
    show W ((g xs[i] (wipeP ρ vs) st).bind _) P
    rw [W_bind]
    refine (step i _ acc st (List.getElem?_eq_getElem hi) hI).mono fun ρ1 st1 h1 => ?_
    rw [W_bind]
    refine h1.mono fun k st2 h2 => ?_
    by_cases hk : k = true
    · rw [if_pos hk] at h2 ⊢
      rw [W_bind]
      refine h2.mono fun y st3 h3 => ?_
      rw [if_pos h3.1]
      exact lc_W I step hend n (i + 1) (acc ++ [y]) st3 (by omega) h3.2
    · rw [if_neg hk] at h2 ⊢
      exact lc_W I step hend n (i + 1) acc st2 (by omega) h2
theorem lc_items {xs : List PV} {g : MG} {c : MT} {e : ME} {vs : List Nat} {ρ : Env} {st : Sto} {P : PV → Sto → Prop} (I : Nat → List PV → Sto → Prop) (h0 : I 0 [] st)
    (step : ∀ (i : Nat) p acc st, xs[i]? = some p → I i acc st → W (g p (wipeP ρ vs) st) fun ρ1 st1 => W (c ρ1 st1) fun k st2 => if k = true then W (e ρ1 st2) fun y st3 => acc.length < 100000 ∧ I (i + 1) (acc ++ [y]) st3 else I (i + 1) acc st2)
    (hend : ∀ acc st, I xs.length acc st → P (.ref st.length) (st ++ [.lst acc])) : W (lcGo (.items xs) g c e vs (fuelP (.items xs) st) 0 ρ [] st) P := lc_W I step hend xs.length 0 [] st rfl h0
theorem forL_eq {j : Nat} {xs : List PV} {g : MG} {body : MS} {P : SO → Sto → Prop} (I : Nat → Env → Sto → Prop)
    (stay : ∀ i ρ st, I i ρ st → getL st j = some xs)
    (step : ∀ (i : Nat) p ρ st, xs[i]? = some p → I i ρ st → W (g p ρ st) fun ρ1 st1 => W (body ρ1 st1) fun so st2 => match so with
      | .nx ρ2 => I (i + 1) ρ2 st2
      | .ct ρ2 => I (i + 1) ρ2 st2
      | .bk ρ2 => P (.nx ρ2) st2
      | .rt v => P (.rt v) st2)
    (hend : ∀ ρ st, I xs.length ρ st → P (.nx ρ) st) : ∀ (n i : Nat) (ρ : Env) (st : Sto), n + i = xs.length → I i ρ st → W (forGo (.ofL j) g body (n + 1) i ρ st) P
  | 0, i, ρ, st, hn, hI => by
    unfold forGo
    have e : nextP (.ofL j) i st = some none := by
      show (getL st j).map (fun ys => ys[i]?) = _
      rw [stay i ρ st hI, Option.map_some, List.getElem?_eq_none (by omega)]
    rw [e]
    first | exact W.ok (hend ρ st (by rw [← hn, Nat.zero_add]; exact hI)) | exact W.mono (hend ρ st (by rw [← hn, Nat.zero_add]; exact hI)) (fun _ _ q => W.ok q) | (simp only [W_ok]; exact hend ρ st (by rw [← hn, Nat.zero_add]; exact hI))
  | n + 1, i, ρ, st, hn, hI => by
    unfold forGo
    have hi : i < xs.length := by omega
    have e : nextP (.ofL j) i st = some (some xs[i]) := by
      show (getL st j).map (fun ys => ys[i]?) = _
      rw [stay i ρ st hI, Option.map_some, List.getElem?_eq_getElem hi]
    rw [e]
    show W ((g xs[i] ρ st).bind _) P
    rw [W_bind]
    refine (step i _ ρ st (List.getElem?_eq_getElem hi) hI).mono fun ρ1 st1 h1 => ?_
    rw [W_bind]
    refine h1.mono fun so st2 h2 => ?_
    cases so with
    | nx ρ2 => exact forL_eq I stay step hend n (i + 1) ρ2 st2 (by omega) h2
    | ct ρ2 => exact forL_eq I stay step hend n (i + 1) ρ2 st2 (by omega) h2
    | bk ρ2 => first | exact W.ok (h2) | exact W.mono (h2) (fun _ _ q => W.ok q) | (simp only [W_ok]; exact h2)
    | rt v => first | exact W.ok (h2) | exact W.mono (h2) (fun _ _ q => W.ok q) | (simp only [W_ok]; exact h2)
theorem fuel_L {j : Nat} {st : Sto} {xs : List PV} (h : getL st j = some xs) : fuelP (.ofL j) st = xs.length + 1 := by
  show ((getL st j).getD []).length + 1 = _
  rw [h]
  rfl
theorem for_list {j : Nat} {xs : List PV} {g : MG} {body : MS} {P : SO → Sto → Prop} {ρ : Env} {st : Sto} (I : Nat → Env → Sto → Prop) (h0 : I 0 ρ st)
    (stay : ∀ i ρ st, I i ρ st → getL st j = some xs)
    (step : ∀ (i : Nat) p ρ st, xs[i]? = some p → I i ρ st → W (g p ρ st) fun ρ1 st1 => W (body ρ1 st1) fun so st2 => match so with
      | .nx ρ2 => I (i + 1) ρ2 st2
      | .ct ρ2 => I (i + 1) ρ2 st2
      | .bk ρ2 => P (.nx ρ2) st2
      | .rt v => P (.rt v) st2)
    (hend : ∀ ρ st, I xs.length ρ st → P (.nx ρ) st) : W (forGo (.ofL j) g body (fuelP (.ofL j) st) 0 ρ st) P := by
  rw [fuel_L (stay 0 ρ st h0)]
  exact forL_eq I stay step hend xs.length 0 ρ st rfl h0
theorem lcL_W {j : Nat} {xs : List PV} {g : MG} {c : MT} {e : ME} {vs : List Nat} {ρ : Env} {P : PV → Sto → Prop} (I : Nat → List PV → Sto → Prop)
    (stay : ∀ i acc st, I i acc st → getL st j = some xs)
    (step : ∀ (i : Nat) p acc st, xs[i]? = some p → I i acc st → W (g p (wipeP ρ vs) st) fun ρ1 st1 => W (c ρ1 st1) fun k st2 => if k = true then W (e ρ1 st2) fun y st3 => acc.length < 100000 ∧ I (i + 1) (acc ++ [y]) st3 else I (i + 1) acc st2)
    (hend : ∀ acc st, I xs.length acc st → P (.ref st.length) (st ++ [.lst acc])) : ∀ (n i : Nat) (acc : List PV) (st : Sto), n + i = xs.length → I i acc st → W (lcGo (.ofL j) g c e vs (n + 1) i ρ acc st) P
  | 0, i, acc, st, hn, hI => by
    unfold lcGo
    have e : nextP (.ofL j) i st = some none := by
      show (getL st j).map (fun ys => ys[i]?) = _
      rw [stay i acc st hI, Option.map_some, List.getElem?_eq_none (by omega)]
    rw [e]
    first | exact W.ok (hend acc st (by rw [← hn, Nat.zero_add]; exact hI)) | exact W.mono (hend acc st (by rw [← hn, Nat.zero_add]; exact hI)) (fun _ _ q => W.ok q) | (simp only [W_ok]; exact hend acc st (by rw [← hn, Nat.zero_add]; exact hI))
  | n + 1, i, acc, st, hn, hI => by
    unfold lcGo
    have hi : i < xs.length := by omega
    have e : nextP (.ofL j) i st = some (some xs[i]) := by
      show (getL st j).map (fun ys => ys[i]?) = _
      rw [stay i acc st hI, Option.map_some, List.getElem?_eq_getElem hi]
    rw [e]
    show W ((g xs[i] (wipeP ρ vs) st).bind _) P
    rw [W_bind]
    refine (step i _ acc st (List.getElem?_eq_getElem hi) hI).mono fun ρ1 st1 h1 => ?_
    rw [W_bind]
    refine h1.mono fun k st2 h2 => ?_
    by_cases hk : k = true
    · rw [if_pos hk] at h2 ⊢
      rw [W_bind]
      refine h2.mono fun y st3 h3 => ?_
      rw [if_pos h3.1]
      exact lcL_W I stay step hend n (i + 1) (acc ++ [y]) st3 (by omega) h3.2
    · rw [if_neg hk] at h2 ⊢
      exact lcL_W I stay step hend n (i + 1) acc st2 (by omega) h2
theorem lc_list {j : Nat} {xs : List PV} {g : MG} {c : MT} {e : ME} {vs : List Nat} {ρ : Env} {st : Sto} {P : PV → Sto → Prop} (I : Nat → List PV → Sto → Prop) (h0 : I 0 [] st)
    (stay : ∀ i acc st, I i acc st → getL st j = some xs)
    (step : ∀ (i : Nat) p acc st, xs[i]? = some p → I i acc st → W (g p (wipeP ρ vs) st) fun ρ1 st1 => W (c ρ1 st1) fun k st2 => if k = true then W (e ρ1 st2) fun y st3 => acc.length < 100000 ∧ I (i + 1) (acc ++ [y]) st3 else I (i + 1) acc st2)
    (hend : ∀ acc st, I xs.length acc st → P (.ref st.length) (st ++ [.lst acc])) : W (lcGo (.ofL j) g c e vs (fuelP (.ofL j) st) 0 ρ [] st) P := by
  rw [fuel_L (stay 0 [] st h0)]
  exact lcL_W I stay step hend xs.length 0 [] st rfl h0
theorem range_at {lo : Int} {n i : Nat} {p : PV} (h : (rangeP lo n)[i]? = some p) : i < n ∧ p = .int (lo + (i : Nat)) := by
  unfold rangeP at h
  rw [List.getElem?_map] at h
  by_cases hi : i < n
  · rw [List.getElem?_range hi] at h
    cases h
    exact ⟨hi, rfl⟩
  · rw [List.getElem?_eq_none (by rw [List.length_range]; omega)] at h
    cases h
theorem range_len (lo : Int) (n : Nat) : (rangeP lo n).length = n := by
  unfold rangeP
  rw [List.length_map, List.length_range]
end Pu

namespace Pu
open PySem PySem.Spec L2 My
def Nx (b : MS) (P : SO → Sto → Prop) (so : SO) (st : Sto) : Prop := match so with
  | .nx ρ => W (b ρ st) P
  | so => P so st
section
variable {ρ : Env} {st : Sto} {a b c : ME} {m : MA} {s t : MS} {tA tB : MT} {P : PV → Sto → Prop} {PS : SO → Sto → Prop} {PB : Bool → Sto → Prop} {PL : List PV → Sto → Prop} {PR : Env → Sto → Prop} {i j : Nat} {p q : PV}
theorem w_seq (h : W (s ρ st) (Nx t PS)) : W (sSeq s t ρ st) PS := by
  unfold sSeq
  rw [W_bind]
  refine h.mono fun so st1 h1 => ?_
  cases so with
  | nx ρ => exact h1
  | rt v => first | exact W.ok (h1) | exact W.mono (h1) (fun _ _ q => W.ok q) | (simp only [W_ok]; exact h1)
  | bk ρ => first | exact W.ok (h1) | exact W.mono (h1) (fun _ _ q => W.ok q) | (simp only [W_ok]; exact h1)
  | ct ρ => first | exact W.ok (h1) | exact W.mono (h1) (fun _ _ q => W.ok q) | (simp only [W_ok]; exact h1)
theorem w_nx (h : W (t ρ st) PS) : Nx t PS (.nx ρ) st := by first | exact h | exact W.ok h | exact W.mono h (fun _ _ q => W.ok q)
theorem w_rt (h : PS (.rt p) st) : Nx t PS (.rt p) st := h
theorem w_asg {g : MG} (h : W (a ρ st) fun p st1 => W (g p ρ st1) fun ρ1 st2 => PS (.nx ρ1) st2) : W (sAsg a g ρ st) PS := by
  unfold sAsg
  rw [W_bind]
  refine h.mono fun p st1 h1 => ?_
  rw [W_bind]
  first | exact W.ok (h1) | exact W.mono (h1) (fun _ _ q => W.ok q) | (simp only [W_ok]; exact h1)
theorem w_par (h : W (m ρ st) fun ps st1 => ∃ p q, ps = [p, q] ∧ PS (.nx ((ρ.set i (some p)).set j (some q))) st1) : W (sPar i j m ρ st) PS := by
  unfold sPar
  rw [W_bind]
  refine h.mono fun ps st1 h1 => ?_
  obtain ⟨p, q, rfl, h1⟩ := h1
  first | exact W.ok (h1) | exact W.mono (h1) (fun _ _ q => W.ok q) | (simp only [W_ok]; exact h1)
theorem w_aug {f : PV → PV → Sto → R PV} (e : ρ[i]? = some (some p)) (h : W (a ρ st) fun q st1 => W (f p q st1) fun z st2 => PS (.nx (ρ.set i (some z))) st2) : W (sAug i a f ρ st) PS := by
  unfold sAug
  rw [e]
  dsimp only
  rw [W_bind]
  refine h.mono fun q st1 h1 => ?_
  rw [W_bind]
  first | exact W.ok (h1) | exact W.mono (h1) (fun _ _ q => W.ok q) | (simp only [W_ok]; exact h1)
theorem w_ret (h : W (a ρ st) fun p st1 => PS (.rt p) st1) : W (sRet a ρ st) PS := by
  unfold sRet
  rw [W_bind]
  first | exact W.ok (h) | exact W.mono (h) (fun _ _ q => W.ok q) | (simp only [W_ok]; exact h)
theorem w_retN (h : PS (.rt .non) st) : W (sRetN ρ st) PS := W.ok h
theorem w_drop (h : W (a ρ st) fun _ st1 => PS (.nx ρ) st1) : W (sDrop a ρ st) PS := by
  unfold sDrop
  rw [W_bind]
  first | exact W.ok (h) | exact W.mono (h) (fun _ _ q => W.ok q) | (simp only [W_ok]; exact h)
theorem w_next (h : PS (.nx ρ) st) : W (sNext ρ st) PS := W.ok h
theorem w_break (h : PS (.bk ρ) st) : W (sBreak ρ st) PS := W.ok h
theorem w_if (h : W (tA ρ st) fun k st1 => if k = true then W (s ρ st1) PS else W (t ρ st1) PS) : W (sIf tA s t ρ st) PS := by
  unfold sIf
  rw [W_bind]
  refine h.mono fun k st1 h1 => ?_
  split
  · rename_i hk
    rw [if_pos hk] at h1
    exact h1
  · rename_i hk
    rw [if_neg hk] at h1
    exact h1
theorem w_match {mc : MC} (h : W (a ρ st) fun p st1 => ∃ k, p = .str k ∧ W (mc k ρ st1) PS) : W (sMatch a mc ρ st) PS := by
  unfold sMatch
  rw [W_bind]
  refine h.mono fun p st1 h1 => ?_
  obtain ⟨k, rfl, h1⟩ := h1
  exact h1
theorem w_case {k : Str} {xs : List Str} {r : MC} (h : if k ∈ xs then W (s ρ st) PS else W (r k ρ st) PS) : W (mCase xs s r k ρ st) PS := by
  unfold mCase
  split
  · rename_i hk
    rw [if_pos hk] at h
    exact h
  · rename_i hk
    rw [if_neg hk] at h
    exact h
theorem w_mnil {k : Str} (h : PS (.nx ρ) st) : W (mNil k ρ st) PS := W.ok h
theorem w_gN {PR : Env → Sto → Prop} (h : PR (ρ.set i (some p)) st) : W (gN i p ρ st) PR := W.ok h
theorem w_gT {n : Nat} {gs : List PV → Env → Sto → R Env} {ps : List PV} (hl : ps.length = n) (h : W (gs ps ρ st) PR) : W (gT n gs (.tup ps) ρ st) PR := by
  show W (if ps.length = n then gs ps ρ st else .bad) PR
  rw [if_pos hl]
  exact h
theorem w_gsN (h : PR ρ st) : W (gsNil [] ρ st) PR := W.ok h
theorem w_gsC {g : MG} {gs : List PV → Env → Sto → R Env} {ps : List PV} (h : W (g p ρ st) fun ρ1 st1 => W (gs ps ρ1 st1) PR) : W (gsCons g gs (p :: ps) ρ st) PR := by
  show W ((g p ρ st).bind _) PR
  rw [W_bind]
  exact h
theorem w_gsub {f : PV → PV → PV → Sto → R Unit} {v : PV} (h : W (a ρ st) fun o st1 => W (b ρ st1) fun i st2 => W (f o i v st2) fun _ st3 => PR ρ st3) : W (gSubP f a b v ρ st) PR := by
  unfold gSubP
  rw [W_bind]
  refine h.mono fun o st1 h1 => ?_
  rw [W_bind]
  refine h1.mono fun o st1 h1 => ?_
  rw [W_bind]
  first | exact W.ok (h1) | exact W.mono (h1) (fun _ _ q => W.ok q) | (simp only [W_ok]; exact h1)
theorem w_setL {xs : List PV} {k : Int} {n : Nat} {v : PV} {PU : Unit → Sto → Prop} (e : getM st j = some xs) (hn : ixN xs.length k = some n) (h : PU () (st.set j (.lst (xs.set n v)))) : W (setP (.ref j) (.int k) v st) PU := by
  unfold setP
  dsimp only
  rw [e]
  dsimp only
  rw [hn]
  first | exact W.ok (h) | exact W.mono (h) (fun _ _ q => W.ok q) | (simp only [W_ok]; exact h)
theorem w_var (e : ρ[i]? = some (some p)) (h : P p st) : W (eVar i ρ st) P := by
  unfold eVar
  rw [e]
  first | exact W.ok (h) | exact W.mono (h) (fun _ _ q => W.ok q) | (simp only [W_ok]; exact h)
theorem w_c (h : P p st) : W (eC p ρ st) P := W.ok h
theorem w_e1 {f : PV → Sto → R PV} (h : W (a ρ st) fun p st1 => W (f p st1) P) : W (e1 f a ρ st) P := by
  unfold e1
  rw [W_bind]
  exact h
theorem w_e2 {f : PV → PV → Sto → R PV} (h : W (a ρ st) fun p st1 => W (b ρ st1) fun q st2 => W (f p q st2) P) : W (e2 f a b ρ st) P := by
  unfold e2
  rw [W_bind]
  refine h.mono fun p st1 h1 => ?_
  rw [W_bind]
  exact h1
theorem w_tOf (h : W (a ρ st) fun p st1 => ∃ k, p = .bl k ∧ PB k st1) : W (tOf a ρ st) PB := by
  unfold tOf
  rw [W_bind]
  refine h.mono fun p st1 h1 => ?_
  obtain ⟨k, rfl, h1⟩ := h1
  first | exact W.ok (h1) | exact W.mono (h1) (fun _ _ q => W.ok q) | (simp only [W_ok]; exact h1)
theorem w_yes (h : PB true st) : W (tYesP ρ st) PB := W.ok h
theorem w_bl {k : Bool} {A : Bool → Prop} (h : A k) : ∃ k', PV.bl k = .bl k' ∧ A k' := ⟨k, rfl, h⟩
theorem w_str {k : Str} {A : Str → Prop} (h : A k) : ∃ k', PV.str k = .str k' ∧ A k' := ⟨k, rfl, h⟩
theorem w_two {x y : PV} {A : PV → PV → Prop} (h : A x y) : ∃ p q, [x, y] = [p, q] ∧ A p q := ⟨x, y, rfl, h⟩
theorem w_tand (h : W (tA ρ st) fun k st1 => if k = true then W (tB ρ st1) PB else PB false st1) : W (tAndP tA tB ρ st) PB := by
  unfold tAndP
  rw [W_bind]
  refine h.mono fun k st1 h1 => ?_
  split
  · rename_i hk
    rw [if_pos hk] at h1
    exact h1
  · rename_i hk
    rw [if_neg hk] at h1
    first | exact W.ok (h1) | exact W.mono (h1) (fun _ _ q => W.ok q) | (simp only [W_ok]; exact h1)
theorem w_tor (h : W (tA ρ st) fun k st1 => if k = true then PB true st1 else W (tB ρ st1) PB) : W (tOrP tA tB ρ st) PB := by
  unfold tOrP
  rw [W_bind]
  refine h.mono fun k st1 h1 => ?_
  split
  · rename_i hk
    rw [if_pos hk] at h1
    first | exact W.ok (h1) | exact W.mono (h1) (fun _ _ q => W.ok q) | (simp only [W_ok]; exact h1)
  · rename_i hk
    rw [if_neg hk] at h1
    exact h1
theorem w_tnot (h : W (tA ρ st) fun k st1 => PB (!k) st1) : W (tNotP tA ρ st) PB := by
  unfold tNotP
  rw [W_bind]
  first | exact W.ok (h) | exact W.mono (h) (fun _ _ q => W.ok q) | (simp only [W_ok]; exact h)
theorem w_and (h : W (a ρ st) fun p st1 => ∃ k, p = .bl k ∧ if k = true then W (b ρ st1) P else P (.bl false) st1) : W (eAnd a b ρ st) P := by
  unfold eAnd
  rw [W_bind]
  refine h.mono fun p st1 h1 => ?_
  obtain ⟨k, rfl, h1⟩ := h1
  show W (if k = true then b ρ st1 else .ok (.bl false) st1) P
  split
  · rename_i hk
    rw [if_pos hk] at h1
    exact h1
  · rename_i hk
    rw [if_neg hk] at h1
    first | exact W.ok (h1) | exact W.mono (h1) (fun _ _ q => W.ok q) | (simp only [W_ok]; exact h1)
theorem w_or (h : W (a ρ st) fun p st1 => ∃ k, p = .bl k ∧ if k = true then P (.bl true) st1 else W (b ρ st1) P) : W (eOr a b ρ st) P := by
  unfold eOr
  rw [W_bind]
  refine h.mono fun p st1 h1 => ?_
  obtain ⟨k, rfl, h1⟩ := h1
  show W (if k = true then .ok (.bl true) st1 else b ρ st1) P
  split
  · rename_i hk
    rw [if_pos hk] at h1
    first | exact W.ok (h1) | exact W.mono (h1) (fun _ _ q => W.ok q) | (simp only [W_ok]; exact h1)
  · rename_i hk
    rw [if_neg hk] at h1
    exact h1
theorem w_not (h : W (a ρ st) fun p st1 => ∃ k, p = .bl k ∧ P (.bl (!k)) st1) : W (eNot a ρ st) P := by
  unfold eNot
  rw [W_bind]
  refine h.mono fun p st1 h1 => ?_
  obtain ⟨k, rfl, h1⟩ := h1
  first | exact W.ok (h1) | exact W.mono (h1) (fun _ _ q => W.ok q) | (simp only [W_ok]; exact h1)
theorem w_ifE (h : W (tA ρ st) fun k st1 => if k = true then W (a ρ st1) P else W (b ρ st1) P) : W (eIf tA a b ρ st) P := by
  unfold eIf
  rw [W_bind]
  refine h.mono fun k st1 h1 => ?_
  split
  · rename_i hk
    rw [if_pos hk] at h1
    exact h1
  · rename_i hk
    rw [if_neg hk] at h1
    exact h1
theorem w_chain {f g : PV → PV → Sto → R PV} (h : W (a ρ st) fun p st1 => W (b ρ st1) fun q st2 => W (f p q st2) fun z st3 => ∃ k, z = .bl k ∧ if k = true then W (c ρ st3) fun w st4 => W (g q w st4) P else P (.bl false) st3) : W (eChain f g a b c ρ st) P := by
  unfold eChain
  rw [W_bind]
  refine h.mono fun p st1 h1 => ?_
  rw [W_bind]
  refine h1.mono fun q st2 h2 => ?_
  rw [W_bind]
  refine h2.mono fun z st3 h3 => ?_
  obtain ⟨k, rfl, h3⟩ := h3
  show W (if k = true then (c ρ st3).bind fun w st => g q w st else .ok (.bl false) st3) P
  split
  · rename_i hk
    rw [if_pos hk] at h3
    rw [W_bind]
    exact h3
  · rename_i hk
    rw [if_neg hk] at h3
    first | exact W.ok (h3) | exact W.mono (h3) (fun _ _ q => W.ok q) | (simp only [W_ok]; exact h3)
theorem w_nil (h : PL [] st) : W (aNil ρ st) PL := W.ok h
theorem w_cons (h : W (a ρ st) fun p st1 => W (m ρ st1) fun ps st2 => PL (p :: ps) st2) : W (aCons a m ρ st) PL := by
  unfold aCons
  rw [W_bind]
  refine h.mono fun p st1 h1 => ?_
  rw [W_bind]
  first | exact W.ok (h1) | exact W.mono (h1) (fun _ _ q => W.ok q) | (simp only [W_ok]; exact h1)
theorem w_tup (h : W (m ρ st) fun ps st1 => ps.length ≤ 100000 ∧ P (.tup ps) st1) : W (eTup m ρ st) P := by
  unfold eTup
  rw [W_bind]
  refine h.mono fun ps st1 h1 => ?_
  rw [if_pos h1.1]
  first | exact W.ok (h1.2) | exact W.mono (h1.2) (fun _ _ q => W.ok q) | (simp only [W_ok]; exact h1.2)
theorem w_lst (h : W (m ρ st) fun ps st1 => ps.length ≤ 100000 ∧ P (.ref st1.length) (st1 ++ [.lst ps])) : W (eLst m ρ st) P := by
  unfold eLst
  rw [W_bind]
  refine h.mono fun ps st1 h1 => ?_
  rw [if_pos h1.1]
  first | exact W.ok (h1.2) | exact W.mono (h1.2) (fun _ _ q => W.ok q) | (simp only [W_ok]; exact h1.2)
theorem w_few {n : Nat} {A : Prop} (hn : n ≤ 100000) (h : A) : n ≤ 100000 ∧ A := ⟨hn, h⟩
theorem w_B {f : List PV → Sto → R PV} (h : W (m ρ st) fun ps st1 => W (f ps st1) P) : W (eB f m ρ st) P := by
  unfold eB
  rw [W_bind]
  exact h
theorem w_call {np : Nat} {f : Fn} (h : W (m ρ st) fun ps st1 => ps.length = np ∧ W (f ps st1) P) : W (eCall np f m ρ st) P := by
  unfold eCall
  rw [W_bind]
  refine h.mono fun ps st1 h1 => ?_
  rw [if_pos h1.1]
  exact h1.2
theorem w_np {n k : Nat} {A : Prop} (hn : n = k) (h : A) : n = k ∧ A := ⟨hn, h⟩
theorem w_ML {f : PV → List PV → Sto → R PV} (h : W (a ρ st) fun p st1 => isL st1 p = true ∧ W (m ρ st1) fun ps st2 => W (f p ps st2) P) : W (eML f a m ρ st) P := by
  unfold eML
  rw [W_bind]
  refine h.mono fun p st1 h1 => ?_
  rw [if_pos h1.1, W_bind]
  exact h1.2
theorem w_ML0 {f : PV → List PV → Sto → R PV} (h : W (a ρ st) fun p st1 => isL st1 p = true ∧ W (f p [] st1) P) : W (eML0 f a ρ st) P := by
  unfold eML0
  rw [W_bind]
  refine h.mono fun p st1 h1 => ?_
  rw [if_pos h1.1]
  exact h1.2
theorem w_isL {xs : List PV} {A : Prop} (e : getL st j = some xs) (h : A) : isL st (.ref j) = true ∧ A := ⟨by show (getL st j).isSome = true; rw [e]; rfl, h⟩
theorem w_sl {l u : MO} (h : W (a ρ st) fun p st1 => W (l ρ st1) fun lo st2 => W (u ρ st2) fun hi st3 => W (slP p lo hi st3) P) : W (eSl a l u ρ st) P := by
  unfold eSl
  rw [W_bind]
  refine h.mono fun p st1 h1 => ?_
  rw [W_bind]
  refine h1.mono fun p st1 h1 => ?_
  rw [W_bind]
  exact h1
theorem w_oN {PO' : Option Int → Sto → Prop} (h : PO' none st) : W (oNone ρ st) PO' := by first | exact W.ok h | exact W.mono h (fun _ _ q => W.ok q)
theorem w_oS {PO' : Option Int → Sto → Prop} (h : W (a ρ st) fun p st1 => ∃ i, p = .int i ∧ PO' (some i) st1) : W (oSome a ρ st) PO' := by
  unfold oSome
  rw [W_bind]
  refine h.mono fun p st1 h1 => ?_
  obtain ⟨i, rfl, h1⟩ := h1
  first | exact W.ok (h1) | exact W.mono (h1) (fun _ _ q => W.ok q) | (simp only [W_ok]; exact h1)
theorem w_int {k : Int} {A : Int → Prop} (h : A k) : ∃ k', PV.int k = .int k' ∧ A k' := ⟨k, rfl, h⟩
theorem w_for {mi : MI} {g : MG} (h : W (mi ρ st) fun it st1 => W (forGo it g s (fuelP it st1) 0 ρ st1) PS) : W (sFor mi g s ρ st) PS := by
  unfold sFor
  rw [W_bind]
  exact h
theorem w_lc {mi : MI} {g : MG} {vs : List Nat} (h : W (mi ρ st) fun it st1 => W (lcGo it g tA a vs (fuelP it st1) 0 ρ [] st1) P) : W (eLc mi g tA a vs ρ st) P := by
  unfold eLc
  rw [W_bind]
  exact h
theorem w_seqT {PI : IT → Sto → Prop} {xs : List PV} (h : W (a ρ st) fun p st1 => ∃ xs, p = .tup xs ∧ PI (.items xs) st1) : W (iSeqP a ρ st) PI := by
  unfold iSeqP
  rw [W_bind]
  refine h.mono fun p st1 h1 => ?_
  obtain ⟨xs, rfl, h1⟩ := h1
  first | exact W.ok (h1) | exact W.mono (h1) (fun _ _ q => W.ok q) | (simp only [W_ok]; exact h1)
theorem w_seqL {PI : IT → Sto → Prop} (h : W (a ρ st) fun p st1 => ∃ j xs, p = .ref j ∧ getL st1 j = some xs ∧ PI (.ofL j) st1) : W (iSeqP a ρ st) PI := by
  unfold iSeqP
  rw [W_bind]
  refine h.mono fun p st1 h1 => ?_
  obtain ⟨j, xs, rfl, e, h1⟩ := h1
  show W (match getL st1 j with | some _ => R.ok (IT.ofL j) st1 | none => .bad) PI
  rw [e]
  first | exact W.ok (h1) | exact W.mono (h1) (fun _ _ q => W.ok q) | (simp only [W_ok]; exact h1)
theorem w_r1 {PI : IT → Sto → Prop} (h : W (m ρ st) fun ps st1 => ∃ j : Int, ps = [.int j] ∧ (-(2 ^ 62) ≤ j ∧ j < 2 ^ 62) ∧ PI (.items (rangeP 0 j.toNat)) st1) : W (iR1 m ρ st) PI := by
  unfold iR1
  rw [W_bind]
  refine h.mono fun ps st1 h1 => ?_
  obtain ⟨j, rfl, hj, h1⟩ := h1
  show W (if _ then _ else _) PI
  rw [if_pos hj]
  first | exact W.ok (h1) | exact W.mono (h1) (fun _ _ q => W.ok q) | (simp only [W_ok]; exact h1)
theorem w_one {n : Int} {A : Int → Prop} (b : -1000000 ≤ n ∧ n ≤ 1000000) (h : A n) : ∃ j : Int, [PV.int n] = [.int j] ∧ (-(2 ^ 62) ≤ j ∧ j < 2 ^ 62) ∧ A j := ⟨n, rfl, ⟨by omega, by omega⟩, h⟩
variable {x y : Int} {X Y : Str} {xs ys : List PV}
theorem w_addI (h : P (.int (x + y)) st) : W (addP (.int x) (.int y) st) P := W.ok h
theorem w_addT (hl : xs.length + ys.length ≤ 100000) (h : P (.tup (xs ++ ys)) st) : W (addP (.tup xs) (.tup ys) st) P := by
  show W (if _ then _ else _) P
  rw [if_pos hl]
  first | exact W.ok (h) | exact W.mono (h) (fun _ _ q => W.ok q) | (simp only [W_ok]; exact h)
theorem w_addL (e1 : getM st i = some xs) (e2 : getM st j = some ys) (hl : xs.length + ys.length ≤ 100000) (h : P (.ref st.length) (st ++ [.lst (xs ++ ys)])) : W (addP (.ref i) (.ref j) st) P := by
  unfold addP
  dsimp only
  rw [e1, e2]
  dsimp only
  rw [if_pos hl]
  first | exact W.ok (h) | exact W.mono (h) (fun _ _ q => W.ok q) | (simp only [W_ok]; exact h)
theorem w_sub (h : P (.int (x - y)) st) : W (subP (.int x) (.int y) st) P := W.ok h
theorem w_mulI (c : (-(2 ^ 64) < x ∧ x < 2 ^ 64) ∨ (-(2 ^ 64) < y ∧ y < 2 ^ 64)) (h : P (.int (x * y)) st) : W (mulP (.int x) (.int y) st) P := by
  show W (if CMul x y then _ else _) P
  rw [if_pos (show CMul x y from c)]
  first | exact W.ok (h) | exact W.mono (h) (fun _ _ q => W.ok q) | (simp only [W_ok]; exact h)
theorem w_fdiv (c : 0 < y ∧ y < 1073741824) (h : P (.int (x / y)) st) : W (fdivP (.int x) (.int y) st) P := by
  show W (if CDiv x y then _ else _) P
  rw [if_pos (show CDiv x y from c)]
  first | exact W.ok (h) | exact W.mono (h) (fun _ _ q => W.ok q) | (simp only [W_ok]; exact h)
theorem w_mod (c : 0 < y) (h : P (.int (x % y)) st) : W (modP (.int x) (.int y) st) P := by
  show W (if 0 < y then _ else _) P
  rw [if_pos c]
  first | exact W.ok (h) | exact W.mono (h) (fun _ _ q => W.ok q) | (simp only [W_ok]; exact h)
theorem w_pow (c : CPow x y) (h : P (.int (x ^ y.toNat)) st) : W (powP (.int x) (.int y) st) P := by
  show W (if CPow x y then _ else _) P
  rw [if_pos c]
  first | exact W.ok (h) | exact W.mono (h) (fun _ _ q => W.ok q) | (simp only [W_ok]; exact h)
theorem w_band (h : P (.int (Builtin.bitAnd x y)) st) : W (bandP (.int x) (.int y) st) P := W.ok h
theorem w_bor (h : P (.int (Builtin.bitOr x y)) st) : W (borP (.int x) (.int y) st) P := W.ok h
theorem w_bxor (h : P (.int (Builtin.bitXor x y)) st) : W (bxorP (.int x) (.int y) st) P := W.ok h
theorem w_neg (h : P (.int (-x)) st) : W (negP (.int x) st) P := W.ok h
theorem w_eqI (h : P (.bl (decide (x = y))) st) : W (eqP (.int x) (.int y) st) P := W.ok h
theorem w_neI (h : P (.bl (!decide (x = y))) st) : W (neP (.int x) (.int y) st) P := W.ok h
theorem w_eqS (h : P (.bl (decide (X = Y))) st) : W (eqP (.str X) (.str Y) st) P := W.ok h
theorem w_neS (h : P (.bl (!decide (X = Y))) st) : W (neP (.str X) (.str Y) st) P := W.ok h
theorem w_ltI (h : P (.bl (decide (x < y))) st) : W (ltP (.int x) (.int y) st) P := W.ok h
theorem w_leI (h : P (.bl (decide (x ≤ y))) st) : W (leP (.int x) (.int y) st) P := W.ok h
theorem w_gtI (h : P (.bl (decide (y < x))) st) : W (gtP (.int x) (.int y) st) P := W.ok h
theorem w_geI (h : P (.bl (decide (y ≤ x))) st) : W (geP (.int x) (.int y) st) P := W.ok h
theorem w_isN (h : P (.bl (isNon p)) st) : W (isP p .non st) P := by
  cases p <;> first | exact W.ok (h) | exact W.mono (h) (fun _ _ q => W.ok q) | (simp only [W_ok]; exact h)
theorem w_isNotN (h : P (.bl (!isNon p)) st) : W (isNotP p .non st) P := by
  cases p <;> first | exact W.ok (h) | exact W.mono (h) (fun _ _ q => W.ok q) | (simp only [W_ok]; exact h)
theorem w_ixT {v : PV} (e : atI xs x = some v) (h : P v st) : W (ixP (.tup xs) (.int x) st) P := by
  unfold ixP
  dsimp only
  rw [e]
  first | exact W.ok (h) | exact W.mono (h) (fun _ _ q => W.ok q) | (simp only [W_ok]; exact h)
theorem w_ixL {v : PV} (g : getL st j = some xs) (e : atI xs x = some v) (h : P v st) : W (ixP (.ref j) (.int x) st) P := by
  unfold ixP
  dsimp only
  rw [g]
  dsimp only
  rw [e]
  first | exact W.ok (h) | exact W.mono (h) (fun _ _ q => W.ok q) | (simp only [W_ok]; exact h)
theorem w_slT {lo hi : Option Int} (h : P (.tup (cutP xs lo hi)) st) : W (slP (.tup xs) lo hi st) P := W.ok h
theorem w_slL {lo hi : Option Int} (g : getL st j = some xs) (h : P (.ref st.length) (st ++ [.lst (cutP xs lo hi)])) : W (slP (.ref j) lo hi st) P := by
  unfold slP
  dsimp only
  rw [g]
  first | exact W.ok (h) | exact W.mono (h) (fun _ _ q => W.ok q) | (simp only [W_ok]; exact h)
theorem w_lenT (h : P (.int xs.length) st) : W (lenP [.tup xs] st) P := W.ok h
theorem w_lenL (g : getL st j = some xs) (h : P (.int xs.length) st) : W (lenP [.ref j] st) P := by
  unfold lenP
  dsimp only
  rw [g]
  first | exact W.ok (h) | exact W.mono (h) (fun _ _ q => W.ok q) | (simp only [W_ok]; exact h)
theorem w_intB {k : Bool} (h : P (.int (if k then 1 else 0)) st) : W (intP1 [.bl k] st) P := W.ok h
theorem w_listT (h : P (.ref st.length) (st ++ [.lst xs])) : W (listP [.tup xs] st) P := W.ok h
theorem w_listL (g : getL st j = some xs) (h : P (.ref st.length) (st ++ [.lst xs])) : W (listP [.ref j] st) P := by
  unfold listP
  dsimp only
  rw [g]
  first | exact W.ok (h) | exact W.mono (h) (fun _ _ q => W.ok q) | (simp only [W_ok]; exact h)
theorem w_tupL (g : getL st j = some xs) (h : P (.tup xs) st) : W (tupP [.ref j] st) P := by
  unfold tupP
  dsimp only
  rw [g]
  first | exact W.ok (h) | exact W.mono (h) (fun _ _ q => W.ok q) | (simp only [W_ok]; exact h)
theorem w_tupT (h : P (.tup xs) st) : W (tupP [.tup xs] st) P := W.ok h
theorem w_min (h : P (.int (min x y)) st) : W (minP [.int x, .int y] st) P := W.ok h
theorem w_max (h : P (.int (max x y)) st) : W (maxP [.int x, .int y] st) P := W.ok h
theorem w_sumL {ns : List Int} (g : getL st j = some xs) (e : intsOf xs = some ns) (h : P (.int ns.sum) st) : W (sumP [.ref j] st) P := by
  unfold sumP
  dsimp only
  rw [g]
  dsimp only
  rw [e]
  first | exact W.ok (h) | exact W.mono (h) (fun _ _ q => W.ok q) | (simp only [W_ok]; exact h)
theorem w_append {v : PV} (g : getM st j = some xs) (hl : xs.length < 100000) (h : P .non (st.set j (.lst (xs ++ [v])))) : W (appendP (.ref j) [v] st) P := by
  unfold appendP
  dsimp only
  rw [g]
  dsimp only
  rw [if_pos hl]
  first | exact W.ok (h) | exact W.mono (h) (fun _ _ q => W.ok q) | (simp only [W_ok]; exact h)
theorem w_rev (g : getL st j = some xs) (h : P (.ref st.length) (st ++ [.lst xs.reverse])) : W (revP [.ref j] st) P := by
  unfold revP
  dsimp only
  rw [g]
  first | exact W.ok (h) | exact W.mono (h) (fun _ _ q => W.ok q) | (simp only [W_ok]; exact h)
theorem w_mget {D : List (Str × PV)} {v : PV} (e : lookS X D = some v) (h : P v st) : W (mgetP D (.str X) st) P := by
  unfold mgetP
  dsimp only
  rw [e]
  first | exact W.ok (h) | exact W.mono (h) (fun _ _ q => W.ok q) | (simp only [W_ok]; exact h)
theorem w_augI (h : P (.int (x + y)) st) : W (augAddP (.int x) (.int y) st) P := W.ok h
end
def New (st : Sto) (xs : List PV) (P : PV → Sto → Prop) : Prop := ∀ st2, Pre st st2 → getM st2 st.length = some xs → st2.length = st.length + 1 → P (.ref st.length) st2
theorem New.at {st : Sto} {xs : List PV} {P : PV → Sto → Prop} (h : New st xs P) : P (.ref st.length) (st ++ [.lst xs]) := h _ .app (getM_last _ _) (by simp)
theorem w_dec {c : Prop} [Decidable c] {A B : Prop} (h1 : c → A) (h2 : ¬ c → B) : if decide c = true then A else B := by
  by_cases h : c
  · rw [if_pos (decide_eq_true h)]
    exact h1 h
  · rw [if_neg (by rw [decide_eq_true_iff]; exact h)]
    exact h2 h
theorem w_iteT {A B : Prop} (h1 : A) : if true = true then A else B := h1
theorem w_iteF {A B : Prop} (h1 : B) : if false = true then A else B := h1
theorem w_ifTrue {A B : Prop} (h1 : A) : if True then A else B := by rw [if_pos trivial]; exact h1
theorem w_ifFalse {A B : Prop} (h1 : B) : if False then A else B := by rw [if_neg not_false]; exact h1
theorem w_ntT {A B : Prop} (h1 : B) : if (!true) = true then A else B := h1
theorem w_ntF {A B : Prop} (h1 : A) : if (!false) = true then A else B := h1
theorem w_ndec {c : Prop} [Decidable c] {A B : Prop} (h1 : c → B) (h2 : ¬ c → A) : if (!decide c) = true then A else B := by
  by_cases h : c
  · rw [decide_eq_true h]
    exact h1 h
  · rw [decide_eq_false h]
    exact h2 h
end Pu

local macro_rules | `(tactic| walk_at "pw") => `(tactic| repeat (first
  | with_reducible refine' Pu.w_seq ?_
  | with_reducible refine' Pu.w_nx ?_
  | with_reducible refine' Pu.w_rt ?_
  | with_reducible refine' Pu.w_asg ?_
  | with_reducible refine' Pu.w_par ?_
  | ((with_reducible refine' Pu.w_aug ?hv ?_); (case hv => rfl))
  | with_reducible refine' Pu.w_ret ?_
  | with_reducible refine' Pu.w_retN ?_
  | with_reducible refine' Pu.w_drop ?_
  | with_reducible refine' Pu.w_next ?_
  | with_reducible refine' Pu.w_break ?_
  | with_reducible refine' Pu.w_if ?_
  | with_reducible refine' Pu.w_match ?_
  | with_reducible refine' Pu.w_case ?_
  | with_reducible refine' Pu.w_mnil ?_
  | with_reducible refine' Pu.w_gN ?_
  | ((with_reducible refine' Pu.w_gT ?hv ?_); (case hv => rfl))
  | with_reducible refine' Pu.w_gsC ?_
  | with_reducible refine' Pu.w_gsN ?_
  | with_reducible refine' Pu.w_gsub ?_
  | ((with_reducible refine' Pu.w_var ?hv ?_); (case hv => rfl))
  | with_reducible refine' Pu.w_c ?_
  | with_reducible refine' Pu.w_e1 ?_
  | with_reducible refine' Pu.w_e2 ?_
  | with_reducible refine' Pu.w_tOf ?_
  | with_reducible refine' Pu.w_yes ?_
  | with_reducible refine' Pu.w_bl ?_
  | with_reducible refine' Pu.w_str ?_
  | with_reducible refine' Pu.w_two ?_
  | with_reducible refine' Pu.w_int ?_
  | with_reducible refine' Pu.w_tand ?_
  | with_reducible refine' Pu.w_tor ?_
  | with_reducible refine' Pu.w_tnot ?_
  | with_reducible refine' Pu.w_and ?_
  | with_reducible refine' Pu.w_or ?_
  | with_reducible refine' Pu.w_not ?_
  | with_reducible refine' Pu.w_ifE ?_
  | with_reducible refine' Pu.w_chain ?_
  | with_reducible refine' Pu.w_nil ?_
  | with_reducible refine' Pu.w_cons ?_
  | with_reducible refine' Pu.w_tup ?_
  | with_reducible refine' Pu.w_lst ?_
  | with_reducible refine' Pu.w_few (by simp only [List.length_cons, List.length_nil]; omega) ?_
  | with_reducible refine' Pu.w_B ?_
  | with_reducible refine' Pu.w_call ?_
  | ((with_reducible refine' Pu.w_np ?hv ?_); (case hv => rfl))
  | with_reducible refine' Pu.w_ML ?_
  | with_reducible refine' Pu.w_ML0 ?_
  | with_reducible refine' Pu.w_sl ?_
  | with_reducible refine' Pu.w_oN ?_
  | with_reducible refine' Pu.w_oS ?_
  | with_reducible refine' Pu.w_for ?_
  | with_reducible refine' Pu.w_lc ?_
  | with_reducible refine' Pu.w_r1 ?_
  | with_reducible refine' Pu.w_addI ?_
  | with_reducible refine' Pu.w_sub ?_
  | with_reducible refine' Pu.w_mod (by decide) ?_
  | with_reducible refine' Pu.w_fdiv ⟨by decide, by decide⟩ ?_
  | with_reducible refine' Pu.w_mulI (Or.inr ⟨by decide, by decide⟩) ?_
  | with_reducible refine' Pu.w_mulI (Or.inl ⟨by omega, by omega⟩) ?_
  | with_reducible refine' Pu.w_band ?_
  | with_reducible refine' Pu.w_bor ?_
  | with_reducible refine' Pu.w_bxor ?_
  | with_reducible refine' Pu.w_neg ?_
  | with_reducible refine' Pu.w_eqI ?_
  | with_reducible refine' Pu.w_neI ?_
  | with_reducible refine' Pu.w_eqS ?_
  | with_reducible refine' Pu.w_neS ?_
  | with_reducible refine' Pu.w_ltI ?_
  | with_reducible refine' Pu.w_leI ?_
  | with_reducible refine' Pu.w_gtI ?_
  | with_reducible refine' Pu.w_geI ?_
  | with_reducible refine' Pu.w_isN ?_
  | with_reducible refine' Pu.w_isNotN ?_
  | with_reducible refine' Pu.w_slT ?_
  | with_reducible refine' Pu.w_lenT ?_
  | with_reducible refine' Pu.w_intB ?_
  | with_reducible refine' Pu.w_listT ?_
  | with_reducible refine' Pu.w_tupT ?_
  | with_reducible refine' Pu.w_min ?_
  | with_reducible refine' Pu.w_max ?_
  | with_reducible refine' Pu.w_augI ?_
  | with_reducible refine' Pu.w_ntT ?_
  | with_reducible refine' Pu.w_ifTrue ?_
  | with_reducible refine' Pu.w_ifFalse ?_
  | with_reducible refine' Pu.w_ntF ?_
  | with_reducible refine' Pu.w_iteT ?_
  | with_reducible refine' Pu.w_iteF ?_))
local macro_rules | `(tactic| walk_at "pq") => `(tactic| repeat (first
  | with_reducible refine' Pu.w_seq ?_
  | with_reducible refine' Pu.w_rt ?_
  | with_reducible refine' Pu.w_asg ?_
  | with_reducible refine' Pu.w_par ?_
  | ((with_reducible refine' Pu.w_aug ?hv ?_); (case hv => rfl))
  | with_reducible refine' Pu.w_ret ?_
  | with_reducible refine' Pu.w_retN ?_
  | with_reducible refine' Pu.w_drop ?_
  | with_reducible refine' Pu.w_next ?_
  | with_reducible refine' Pu.w_break ?_
  | with_reducible refine' Pu.w_if ?_
  | with_reducible refine' Pu.w_match ?_
  | with_reducible refine' Pu.w_case ?_
  | with_reducible refine' Pu.w_mnil ?_
  | with_reducible refine' Pu.w_gN ?_
  | ((with_reducible refine' Pu.w_gT ?hv ?_); (case hv => rfl))
  | with_reducible refine' Pu.w_gsC ?_
  | with_reducible refine' Pu.w_gsN ?_
  | with_reducible refine' Pu.w_gsub ?_
  | ((with_reducible refine' Pu.w_var ?hv ?_); (case hv => rfl))
  | with_reducible refine' Pu.w_c ?_
  | with_reducible refine' Pu.w_e1 ?_
  | with_reducible refine' Pu.w_e2 ?_
  | with_reducible refine' Pu.w_tOf ?_
  | with_reducible refine' Pu.w_yes ?_
  | with_reducible refine' Pu.w_bl ?_
  | with_reducible refine' Pu.w_str ?_
  | with_reducible refine' Pu.w_two ?_
  | with_reducible refine' Pu.w_int ?_
  | with_reducible refine' Pu.w_tand ?_
  | with_reducible refine' Pu.w_tor ?_
  | with_reducible refine' Pu.w_tnot ?_
  | with_reducible refine' Pu.w_and ?_
  | with_reducible refine' Pu.w_or ?_
  | with_reducible refine' Pu.w_not ?_
  | with_reducible refine' Pu.w_ifE ?_
  | with_reducible refine' Pu.w_chain ?_
  | with_reducible refine' Pu.w_nil ?_
  | with_reducible refine' Pu.w_cons ?_
  | with_reducible refine' Pu.w_tup ?_
  | with_reducible refine' Pu.w_lst ?_
  | with_reducible refine' Pu.w_few (by simp only [List.length_cons, List.length_nil]; omega) ?_
  | with_reducible refine' Pu.w_B ?_
  | with_reducible refine' Pu.w_call ?_
  | ((with_reducible refine' Pu.w_np ?hv ?_); (case hv => rfl))
  | with_reducible refine' Pu.w_ML ?_
  | with_reducible refine' Pu.w_ML0 ?_
  | with_reducible refine' Pu.w_sl ?_
  | with_reducible refine' Pu.w_oN ?_
  | with_reducible refine' Pu.w_oS ?_
  | with_reducible refine' Pu.w_for ?_
  | with_reducible refine' Pu.w_lc ?_
  | with_reducible refine' Pu.w_r1 ?_
  | with_reducible refine' Pu.w_addI ?_
  | with_reducible refine' Pu.w_sub ?_
  | with_reducible refine' Pu.w_mod (by decide) ?_
  | with_reducible refine' Pu.w_fdiv ⟨by decide, by decide⟩ ?_
  | with_reducible refine' Pu.w_mulI (Or.inr ⟨by decide, by decide⟩) ?_
  | with_reducible refine' Pu.w_mulI (Or.inl ⟨by omega, by omega⟩) ?_
  | with_reducible refine' Pu.w_band ?_
  | with_reducible refine' Pu.w_bor ?_
  | with_reducible refine' Pu.w_bxor ?_
  | with_reducible refine' Pu.w_neg ?_
  | with_reducible refine' Pu.w_eqI ?_
  | with_reducible refine' Pu.w_neI ?_
  | with_reducible refine' Pu.w_eqS ?_
  | with_reducible refine' Pu.w_neS ?_
  | with_reducible refine' Pu.w_ltI ?_
  | with_reducible refine' Pu.w_leI ?_
  | with_reducible refine' Pu.w_gtI ?_
  | with_reducible refine' Pu.w_geI ?_
  | with_reducible refine' Pu.w_isN ?_
  | with_reducible refine' Pu.w_isNotN ?_
  | with_reducible refine' Pu.w_slT ?_
  | with_reducible refine' Pu.w_lenT ?_
  | with_reducible refine' Pu.w_intB ?_
  | with_reducible refine' Pu.w_listT ?_
  | with_reducible refine' Pu.w_tupT ?_
  | with_reducible refine' Pu.w_min ?_
  | with_reducible refine' Pu.w_max ?_
  | with_reducible refine' Pu.w_augI ?_
  | with_reducible refine' Pu.w_ntT ?_
  | with_reducible refine' Pu.w_ifTrue ?_
  | with_reducible refine' Pu.w_ifFalse ?_
  | with_reducible refine' Pu.w_ntF ?_
  | with_reducible refine' Pu.w_iteT ?_
  | with_reducible refine' Pu.w_iteF ?_))
local macro_rules | `(tactic| walk_at "p0") => `(tactic| simp only [List.map_cons, List.map_nil, List.length_cons, List.length_nil, Nat.reduceAdd, Nat.reduceSub, Nat.zero_add, List.replicate_succ, List.replicate_zero, List.replicate, List.cons_append, List.nil_append])
local macro_rules | `(tactic| walk_at "ps") => `(tactic| simp only [List.set_cons_zero, List.set_cons_succ])
local macro_rules | `(tactic| walk_at "dd") => `(tactic| repeat (first
  | ((refine Eq.trans (if_pos ?h) ?_); (case h => decide +kernel))
  | ((refine Eq.trans (if_neg ?h) ?_); (case h => decide +kernel))))
namespace Pu
open PySem PySem.Spec PyProof.Rows L2 My
end Pu

namespace My
open PySem PySem.Spec PyProof.Rows L2
open PySem.AutoSeq1 (wpAny_loadPart')
open PySem.MeetsSeq PySem.MeetsSeq2 PySem.MeetsSeq3 PySem.SeqRoads2
theorem plain_rng_loop : plainId "range.__contains__.loop" = true := by decide +kernel
theorem entry_rng_loop : entryFor table "range.__contains__.loop" = some Builtin.«range.__contains__.loop» := entryFor_of_tree (by kernel_rfl)
def rngO (n : Int) (t u v : Tok) : Obj := { cls := .type "range", data := .fields #[.int 0 t, .int n u, .int 1 v] }
theorem rng_loop (l : Addr) (n : Int) (t u v : Tok) (x : Value) (k : Nat) :
    ∀ i : Nat, n.toNat - i = k → Meets (Builtin.«range.__contains__.loop» ⟨[.ref l, x, rawInt i], []⟩)
      (fun A R s => s.heap.get? l = some (rngO n t u v) ∧ (∀ tk j tj, SeqAt.EqAt A.in1 { s with toks := tk } (.int j tj) x false) ∧ ∀ tk, R (.ok (.ret (.bool false))) { s with toks := tk }) := by
  have hsz : Builtin.Range.rangeSize 0 n 1 = if 0 < n then n else 0 := by
    rw [rangeSize_one]; split <;> omega
  induction k with
  | zero =>
    intro i hk prog w A R s h
    obtain ⟨hp, g, d, tk, os⟩ := s; obtain ⟨hl, he, h⟩ := h
    have hc : (i : Int) ≥ Builtin.Range.rangeSize 0 n 1 := by rw [hsz]; split <;> omega
    wp_walk using wpAny_loadPart' hl
    rw [if_pos hc]
    wp_walk
    exact h tk
  | succ k ih =>
    intro i hk prog w A R s h
    obtain ⟨hp, g, d, tk, os⟩ := s; obtain ⟨hl, he, h⟩ := h
    have hc : ¬ (i : Int) ≥ Builtin.Range.rangeSize 0 n 1 := by rw [hsz]; split <;> omega
    wp_walk using wpAny_loadPart' hl
    rw [if_neg hc]
    refine wpAny_bind (wpAny_mkInt ?_)
    refine wpAny_bind ?_
    refine he (tk + 1) (0 + (i : Int) * 1) tk prog w _ _ ?_
    have hc : ((i : Int) + 1) = ((i + 1 : Nat) : Int) := by push_cast; rfl
    wp_walk
    rw [hc]
    exact ⟨plainId_quiet plain_rng_loop _, codeAny_builtin entry_rng_loop (by
      rw [Around.under_plainId plain_rng_loop _]
      exact ih (i + 1) (by omega) prog w A R _ ⟨hl, he, h⟩)⟩
theorem rng_searched (l : Addr) (n : Int) (t u v : Tok) (x : Value) (hx : Builtin.Range.rangeExactInt? x = none) : Meets (Builtin.«range.__contains__» ⟨[.ref l, x], []⟩)
      (fun A R s => s.heap.get? l = some (rngO n t u v) ∧ (∀ tk j tj, SeqAt.EqAt A.in1 { s with toks := tk } (.int j tj) x false) ∧ ∀ tk, R (.ok (.ret (.bool false))) { s with toks := tk }) := by
  intro prog w A R s h
  obtain ⟨hp, g, d, tk, os⟩ := s; obtain ⟨hl, he, h⟩ := h
  wp_walk using wpAny_loadPart' hl
  rw [hx]
  wp_walk
  exact ⟨plainId_quiet plain_rng_loop _, codeAny_builtin entry_rng_loop (by
    rw [Around.under_plainId plain_rng_loop _]
    exact rng_loop l n t u v x _ 0 rfl prog w A R _ ⟨hl, he, h⟩)⟩
theorem rng_reckoned (l : Addr) (n : Int) (t u v : Tok) (i : Int) (ti : Tok) : Meets (Builtin.«range.__contains__» ⟨[.ref l, .int i ti], []⟩)
      (fun A R s => s.heap.get? l = some (rngO n t u v) ∧ R (.ok (.ret (.bool (decide (0 ≤ i ∧ i < n))))) s) := by
  intro prog w A R s h
  obtain ⟨hp, g, d, tk, os⟩ := s; obtain ⟨hl, h⟩ := h
  have e : (Builtin.Range.rangePlace? 0 n 1 i).isSome = decide (0 ≤ i ∧ i < n) := by
    unfold Builtin.Range.rangePlace?
    by_cases c : 0 ≤ i ∧ i < n
    · simp [c, Int.emod_one]
    · have : ¬ (decide (0 ≤ i) && decide (i < n)) = true := by simpa using c
      simp [c]
  wp_walk using wpAny_loadPart' hl
  rw [e]
  exact h
def NoInt (K : PySem.W.Frag) (H : Hp) (y : V) : Prop := y = .non ∨ (∃ z, y = .str z) ∨ ∃ a xs, y = .ref a ∧ SqT K H a xs
def tRngNotIn (K : PySem.W.Frag) (ty : TE) (ta : TA) : TE := fun σ H Q => ty σ H fun y H1 => ta σ H1 fun vs H2 => ∃ n : Int, vs = [.int n] ∧
  ((∃ i, y = .int i ∧ Q (.bl (!decide (0 ≤ i ∧ i < n))) H2) ∨ (NoInt K H2 y ∧ Q (.bl true) H2))
theorem pc_rngNotIn {X : Cx} {K : PySem.W.Frag} {i a : Expr} {ty : TE} {ta : TA} {p pos : Pos} (hKK : X.K = K) (hu : X.A.units + 64 < cLine) (hg : Gl X "range") (hm : X.mg "range" = none) (hi : PE X i ty) (ha : PA X [a] ta) (hs : starEach [a] X.env = [(false, eval a X.env)] := by rfl) :
    PC X .NotIn i (.Call (.Name "range" p) [a] [] pos) (tRngNotIn K ty ta) := by
  subst hKK
  intro pins s σ H Q I h
  refine thn (hi pins s σ H _ I h) fun iv s1 ⟨y, H1, I1, ry, q1⟩ => ?_
  refine Call_ (ld_blt I1 hg hm boot_range (PyProof.Rows.callWith_type1 (thn (ha pos pins s1 σ H1 _ I1 q1) fun us s2 ⟨vs, H2, I2, r2, q2⟩ => ?_) hs rfl))
  obtain ⟨n, e, q⟩ := q2
  subst e
  cases r2 with
  | cons r rr =>
    cases rr
    obtain ⟨t, rfl⟩ := r
    refine call_range_1 ?_
    have hz : (s2.heap.push { cls := .type "range", data := .fields #[.int 0 s2.toks, .int n t, .int 1 (s2.toks + 1)] }).get? s2.heap.objs.size = some (rngO n s2.toks t (s2.toks + 1)) := Heap.get?_push_size _ rfl
    have I3 : ∀ tk, Inv X pins σ H2 { s2 with heap := s2.heap.push { cls := .type "range", data := .fields #[.int 0 s2.toks, .int n t, .int 1 (s2.toks + 1)] }, toks := tk } := fun tk => I2.kept fun b o e => Heap.get?_push_of_some _ e
    have search : ∀ x : Value, Builtin.Range.rangeExactInt? x = none → (∀ tk j tj, SeqAt.EqAt X.A.in1 { s2 with heap := s2.heap.push { cls := .type "range", data := .fields #[.int 0 s2.toks, .int n t, .int 1 (s2.toks + 1)] }, toks := tk } (.int j tj) x false) → Q (.bl true) H2 →
        wpAny (model X.prog X.w) X.A (compareOp .NotIn x (.ref s2.heap.objs.size)) (EP X pins σ Q) X.xe { s2 with heap := s2.heap.push { cls := .type "range", data := .fields #[.int 0 s2.toks, .int n t, .int 1 (s2.toks + 1)] }, toks := s2.toks + 1 + 1 } := fun x hx he hq => by
      refine notIn_meets ⟨_, hz, rfl⟩ F.slot_range_contains F.entry_range_contains (F.args_range_contains_2 _ _) (rng_searched _ n _ _ _ x hx) ⟨hz, he, fun tk => ⟨_, rfl, ?_⟩⟩
      exact ⟨.bl true, H2, I3 tk, rfl, hq⟩
    rcases q with ⟨i, rfl, q⟩ | ⟨c, q⟩
    · obtain ⟨ti, rfl⟩ := ry
      refine notIn_meets ⟨_, hz, rfl⟩ F.slot_range_contains F.entry_range_contains (F.args_range_contains_2 _ _) (rng_reckoned _ n _ _ _ i ti) ⟨hz, _, rfl, ?_⟩
      exact ⟨.bl _, H2, I3 _, rfl, q⟩
    · rcases c with rfl | ⟨z, rfl⟩ | ⟨b, xs, rfl, hb⟩
      · cases ry
        exact search _ rfl (fun tk j tj => SeqAt.EqAt.int_none j tj) q
      · obtain ⟨tz, rfl⟩ := ry
        exact search _ rfl (fun tk j tj => SeqAt.EqAt.int_str j tj z tz) q
      · cases ry
        refine search _ rfl (fun tk j tj => ?_) q
        obtain ⟨its, r, pl, hz2⟩ := (I3 tk).tuple hb
        exact SeqAt.EqAt.int_tuple j tj pl (by show X.A.units + 1 < cLine; omega)
end My

namespace My
open PySem PySem.Spec PyProof.Rows L2
open PySem.AutoSeq1 (wpAny_loadPart')
open PySem.Builtin
theorem noFill_tuple_mul : fillsNumberSlot (.type "tuple") "mul" = pure false :=
  PySem.fillsNumberSlot_seq (id := "tuple.__mul__") (r := some (.builtin "tuple.__rmul__")) F.slot_tuple_mul.lookup (by decide +kernel) F.slot_tuple_rmul.lookup (by decide +kernel)
theorem repeat_tuple : seqRepeat? (.type "tuple") = pure (some (.builtin "tuple.__mul__")) := by
  unfold seqRepeat?
  rw [PySem.seqSlot_of (T := "tuple") (name := "__mul__") (id := "tuple.__mul__") F.slot_tuple_mul.lookup (by decide +kernel), PySem.seqSlot_of (T := "tuple") (name := "__rmul__") (id := "tuple.__rmul__") F.slot_tuple_rmul.lookup (by decide +kernel)]
  rfl
theorem int_rmul_tuple (a : Int) (t : Tok) (l : Addr) (items : Array Value) (n : Nat) (dd : Option Addr) (sl : Array (Option Value)) :
    Meets (Builtin.«int.__rmul__» ⟨[.int a t, .ref l], []⟩) (fun _ R s => s.heap.get? l = some { cls := .type "tuple", dict := dd, data := .seq items n, slots := sl } ∧ R (.ok (.ret Value.notImplemented)) s) :=
  .of_wp fun prog w A R s h => by obtain ⟨hp, g, d, tk, os⟩ := s; obtain ⟨hl, h⟩ := h; wp_walk; exact ⟨_, rfl, h⟩
theorem tuple_mulW (l : Addr) (items : Array Value) (n : Nat) (dd : Option Addr) (sl : Array (Option Value)) (x : Int) (u : Tok) (h1 : 2 ≤ x ∧ x ≤ 1000) (h2 : items.isEmpty = false) (h3 : items.size ≤ 100) :
    Meets (Builtin.«tuple.__mul__» ⟨[.ref l, .int x u], []⟩) (fun _ R s => s.heap.get? l = some { cls := .type "tuple", dict := dd, data := .seq items n, slots := sl } ∧ R (.ok (.ret (Value.ref s.heap.objs.size))) { s with heap := s.heap.push { cls := Value.type "tuple", data := Data.seq (List.foldl (fun x1 x2 => x1 ++ x2) #[] (List.replicate x.toNat items)) }, toks := s.toks }) :=
  .of_wp fun prog w A R s h => by
    obtain ⟨hp, g, d, tk, os⟩ := s; obtain ⟨hl, h⟩ := h
    have f1 := AutoSeq1.idx_int
    have hb : (items.size : Int) * x ≤ 100000 := by
      have : (items.size : Int) * x ≤ 100 * 1000 := Int.mul_le_mul (by omega) h1.2 (by omega) (by omega)
      omega
    have c0 : ¬ (decide (x < -2 ^ 63) || decide (x ≥ 2 ^ 63)) = true := by simp; omega
    have c1 : ¬ (items.isEmpty || x == 1) = true := by rw [h2]; simp; omega
    have c2 : ¬ (decide (x ≤ 0) || items.isEmpty) = true := by rw [h2]; simp; omega
    have c3 : ¬ ((items.size : Int) * x > (2 ^ 63 - 1) / 8) := by omega
    have c4 : ¬ Tuple.tupleTooMany ((items.size : Int) * x) = true := by
      unfold Tuple.tupleTooMany
      have : (100000 : Int) ≤ (sizeLine : Int) := by decide
      simp
      omega
    have hsz : (List.foldl (fun x1 x2 => x1 ++ x2) #[] (List.replicate x.toNat items)).size ≤ sizeLine := by
      have e : ∀ (k : Nat) (a : Array Value), (List.foldl (fun x1 x2 => x1 ++ x2) a (List.replicate k items)).size = a.size + k * items.size := fun k => by
        induction k with
        | zero => intro a; simp
        | succ k ih => intro a; rw [List.replicate_succ, List.foldl_cons, ih, Array.size_append, Nat.succ_mul]; omega
      rw [e]
      have q : ((x.toNat * items.size : Nat) : Int) ≤ 100000 := by
        push_cast
        rw [Int.toNat_of_nonneg (by omega), Int.mul_comm]
        exact hb
      have : (100000 : Nat) ≤ sizeLine := by decide
      simp
      omega
    wp_walk using wpAny_loadPart' hl
    rw [if_neg c0]
    wp_walk using wpAny_loadPart' hl
    rw [if_neg c1]
    wp_walk
    rw [if_neg c2]
    wp_walk
    rw [if_neg c3]
    wp_walk
    exact ⟨_, rfl, h⟩
def rRepT (K : PySem.W.Frag) : R2 := fun x y H Q => ∃ a k xs, x = .ref a ∧ y = .int k ∧ SqT K H a xs ∧ (2 ≤ k ∧ k ≤ 1000) ∧ xs ≠ [] ∧ xs.length ≤ 100 ∧
  ∀ p, H p = none → Q (.ref p) (upd H p (.tup (List.replicate k.toNat xs).flatten))
theorem opRepT {X : Cx} {K : PySem.W.Frag} (hK : X.K = K) : OpR X (binaryOp .Mult) (rRepT K) := by
  subst hK
  intro pins s σ H x y v u Q I rx ry h
  obtain ⟨a, k, xs, rfl, rfl, ha, hk, hne, hz, q⟩ := h
  cases rx
  obtain ⟨t, rfl⟩ := ry
  obtain ⟨its, r, pl, _⟩ := I.tuple ha
  obtain ⟨⟨cls, dd, data, sl⟩, ho, hc, n, hd⟩ := id pl
  simp only at hc hd
  subst hc hd
  have hne' : its.toArray.isEmpty = false := by
    cases its with
    | nil => exact absurd (r.nil_iff.mp rfl) hne
    | cons b bs => simp
  have hnew : List.foldl (fun x1 x2 => x1 ++ x2) #[] (List.replicate k.toNat its.toArray) = (List.replicate k.toNat its).flatten.toArray := by
    have := foldl_rep its k.toNat []
    rw [List.nil_append] at this
    exact this
  refine wpAny_binaryOp_repeat_ref (T := "tuple") (U := "int") (by decide) ⟨_, ho, rfl⟩ (fun s' => typeIs_int s' k t) noFill_tuple_mul F.fills_int_mul F.slot_int_rmul repeat_tuple F.slot_int_index.lookup
    (call_meets F.slot_int_rmul (typeIs_int s k t) F.entry_int_rmul (F.args_int_rmul_2 _ _) (int_rmul_tuple k t a its.toArray n dd sl)
      ⟨ho, rfl, ⟨_, ho, rfl⟩, call_meets F.slot_tuple_mul ⟨_, ho, rfl⟩ F.entry_tuple_mul (F.args_tuple_mul_2 _ _) (tuple_mulW a its.toArray n dd sl k t hk hne' (by rw [List.size_toArray, ← r.length]; exact hz)) ⟨ho, ?_⟩⟩)
  rw [hnew]
  refine ⟨.ref s.heap.objs.size, _, I.laid (t' := s.toks) (o := .tup (List.replicate k.toNat xs).flatten) (fun b ob q => Heap.get?_push_of_some _ q) (Nat.le_refl _) ?_, rfl, q _ (I.hok.fresh (Nat.le_refl _))⟩
  refine ⟨?_, _, r.rep k.toNat, IsTup.new _ _⟩
  rw [len_rep]
  have h1 : k.toNat * xs.length ≤ 1000 * 100 := Nat.mul_le_mul (by omega) hz
  have : (100000 : Nat) ≤ sizeLine := by decide
  omega
end My

namespace Pu
open PySem PySem.Spec PyProof.Rows L2 My
def rIsC : R2 := fun x y H Q => ∃ b, y = .bl b ∧ Q (.bl (decide (x = .bl b))) H
theorem opIsC {X : Cx} : OpR X (compareOp .Is) rIsC := by
  intro pins s σ H x y v u Q I rx ry h
  obtain ⟨b, rfl, q⟩ := h
  cases (show u = Value.bool b from ry)
  have key : isSame v (.bool b) = pure (decide (x = .bl b)) := by
    cases x with
    | non => cases rx; rfl
    | bl c => cases rx; cases b <;> cases c <;> rfl
    | int i => obtain ⟨t, rfl⟩ := rx; rfl
    | str i => obtain ⟨t, rfl⟩ := rx; rfl
    | byt i => obtain ⟨t, rfl⟩ := rx; rfl
    | flt i => obtain ⟨t, rfl⟩ := rx; rfl
    | ref i => cases rx; rfl
    | ty i => cases rx; rfl
  show wpAny (model X.prog X.w) X.A (do return Value.bool (← isSame v (.bool b)) : Sem Value) (EP X pins σ Q) X.xe s
  rw [key]
  exact wpAny_bind (wpAny_pure (wpAny_pure ⟨.bl _, H, I, rfl, q⟩))
theorem ptRngN {X : Cx} {K : PySem.W.Frag} {i a : Expr} {ty : TE} {ta : TA} {p pos cpos : Pos} (hKK : X.K = K) (hu : X.A.units + 64 < cLine) (hg : Gl X "range") (hm : X.mg "range" = none) (hi : PE X i ty) (ha : PA X [a] ta) (hs : starEach [a] X.env = [(false, eval a X.env)] := by rfl) :
    PT X (.Compare i [.NotIn] [.Call (.Name "range" p) [a] [] pos] cpos) (tTest (tRngNotIn K ty ta)) := pt_cmp (pc_rngNotIn hKK hu hg hm hi ha hs) rfl
theorem peDic0 {X : Cx} {pos : Pos} : PE X (.Dict [] [] pos) (tDisp []) := by
  intro pins s σ H Q I q
  refine pe_dnewK pins s σ H Q I ?_
  intro p hp
  obtain ⟨h1, kvs, e, _, h2⟩ := q p hp
  cases kvs with
  | nil =>
    have e : upd (upd H p (.dK [])) p (.dK (mergeK [] [])) = upd H p (.dK []) := upd_upd
    rw [e] at h2
    exact h2
  | cons a b => cases e
def mulTP (p q : PV) (st : Sto) : R PV := match p, q with
  | .tup xs, .int k => if (2 ≤ k ∧ k ≤ 1000) ∧ xs ≠ [] ∧ xs.length ≤ 100 then .ok (.tup (List.replicate k.toNat xs).flatten) st else .bad
  | _, _ => .bad
def isBl : PV → Bool → Bool
  | .bl a, b => a == b
  | _, _ => false
def isCP (p q : PV) (st : Sto) : R PV := match q with
  | .bl b => .ok (.bl (isBl p b)) st
  | _ => .bad
def eRngN (a : ME) (m : MA) : ME := fun ρ st => (a ρ st).bind fun p st => (m ρ st).bind fun ps st => match p, ps with
  | .int i, [.int n] => .ok (.bl (!decide (0 ≤ i ∧ i < n))) st
  | .non, [.int _] => .ok (.bl true) st
  | .str _, [.int _] => .ok (.bl true) st
  | .tup _, [.int _] => .ok (.bl true) st
  | _, _ => .bad
section
variable {G : Gx} {E : XK} {ι : List Addr} {H : Hp} {st : Sto} {ta tb tc : TE} {a b c : ME} {t : TA} {m : MA}
theorem rep_isBl {p : PV} {x : V} {b : Bool} (r : Rep G ι H p x) : decide (x = .bl b) = isBl p b := by
  cases p with
  | non => rw [show x = _ from r]; rfl
  | bl c => rw [show x = _ from r]; cases b <;> cases c <;> rfl
  | int i => rw [show x = _ from r]; rfl
  | str i => rw [show x = _ from r]; rfl
  | tup xs => obtain ⟨a, vs, rfl, _⟩ := r; rfl
  | ref i => obtain ⟨a, _, rfl⟩ := r; rfl
  | ty n => rw [show x = _ from r]; rfl
  | gl x => obtain ⟨a, _, rfl⟩ := r; rfl
theorem s2_mulT : S2 G E (rRepT G.K) mulTP := by
  intro p q x y st ι H Q s rp rq h
  unfold mulTP at h
  split at h
  · rename_i xs k
    split at h
    · rename_i hc
      obtain ⟨a, vs, rfl, h1, h2⟩ := rp
      refine ⟨a, k, vs, rfl, rq, h1, hc.1, fun z => hc.2.1 ?_, by rw [← h2.length]; exact hc.2.2, fun p hp => okT s (h2.rep _) h p hp⟩
      have := h2.length
      rw [z] at this
      exact List.eq_nil_of_length_eq_zero this
    · exact h.elim
  · exact h.elim
theorem s2_isC : S2 G E rIsC isCP := by
  intro p q x y st ι H Q s rp rq h
  unfold isCP at h
  split at h
  · exact ⟨_, rq, by rw [rep_isBl rp]; exact h.here s _ rfl⟩
  · exact h.elim
theorem se_rngN (ha : SE G E ta a) (hm : SA G E t m) : SE G E (tRngNotIn G.K ta t) (eRngN a m) := by
  intro ρ σ st ι H Q s e h
  refine ha ρ σ st ι H _ s e (h.bind.mono fun p st1 ι1 H1 x1 s1 h1 u hu => ?_)
  refine hm ρ σ st1 ι1 H1 _ s1 (e.ext s x1) (h1.bind.mono fun ps st2 ι2 H2 x2 s2 h2 vs hv => ?_)
  have hu := hu.ext s1 x2
  split at h2
  · obtain ⟨v, r, rfl, hv, hr⟩ := hv
    cases (show r = [] from hr)
    exact ⟨_, by rw [show v = _ from hv], .inl ⟨_, hu, h2.here s2 _ rfl⟩⟩
  · obtain ⟨v, r, rfl, hv, hr⟩ := hv
    cases (show r = [] from hr)
    exact ⟨_, by rw [show v = _ from hv], .inr ⟨.inl hu, h2.here s2 _ rfl⟩⟩
  · obtain ⟨v, r, rfl, hv, hr⟩ := hv
    cases (show r = [] from hr)
    exact ⟨_, by rw [show v = _ from hv], .inr ⟨.inr (.inl ⟨_, hu⟩), h2.here s2 _ rfl⟩⟩
  · obtain ⟨v, r, rfl, hv, hr⟩ := hv
    cases (show r = [] from hr)
    obtain ⟨a, vs, rfl, h3, h4⟩ := hu
    exact ⟨_, by rw [show v = _ from hv], .inr ⟨.inr (.inr ⟨a, vs, rfl, h3⟩), h2.here s2 _ rfl⟩⟩
  · exact h2.elim
end
theorem w_mulT {st : Sto} {P : PV → Sto → Prop} {xs : List PV} {k : Int} (c : (2 ≤ k ∧ k ≤ 1000) ∧ xs ≠ [] ∧ xs.length ≤ 100) (h : P (.tup (List.replicate k.toNat xs).flatten) st) : W (mulTP (.tup xs) (.int k) st) P := by
  unfold mulTP
  dsimp only
  rw [if_pos c]
  exact W.ok h
theorem w_isC {st : Sto} {P : PV → Sto → Prop} {p : PV} {b : Bool} (h : P (.bl (isBl p b)) st) : W (isCP p (.bl b) st) P := W.ok h
theorem w_rngN {ρ : Pu.Env} {st : Sto} {a : ME} {m : MA} {P : PV → Sto → Prop} (h : W (a ρ st) fun p st1 => W (m ρ st1) fun ps st2 => ∃ n : Int, ps = [.int n] ∧ (match p with
    | .int i => P (.bl (!decide (0 ≤ i ∧ i < n))) st2
    | .non => P (.bl true) st2
    | .str _ => P (.bl true) st2
    | .tup _ => P (.bl true) st2
    | _ => False)) : W (eRngN a m ρ st) P := by
  unfold eRngN
  rw [W_bind]
  refine h.mono fun p st1 h1 => ?_
  rw [W_bind]
  refine h1.mono fun ps st2 h2 => ?_
  obtain ⟨n, rfl, h3⟩ := h2
  cases p <;> first | exact W.ok h3 | exact h3.elim
end Pu

namespace Prog
open PySem PySem.Spec L2 My Pu

noncomputable def b_bounds_are_bytes : MS :=
  (sRet (eAnd (eB isiP (aCons (eVar 0) (aCons (eC (.ty "tuple")) aNil))) (eAllG (iSeqP (eVar 0)) (gN 1) tYesP (eCall 1 Prog.bounds_is_byte (aCons (eVar 1) aNil)) [1])))
noncomputable def bounds_are_bytes : Fn := fnP 1 2 b_bounds_are_bytes
noncomputable def b_bounds_are_so_many_bytes : MS :=
  (sRet (eAnd (eCall 1 Prog.bounds_are_bytes (aCons (eVar 0) aNil)) (e2 eqP (eB lenP (aCons (eVar 0) aNil)) (eVar 1))))
noncomputable def bounds_are_so_many_bytes : Fn := fnP 2 2 b_bounds_are_so_many_bytes
noncomputable def b_bounds_is_tuple_of : MS :=
  (sRet (eAnd (eB isiP (aCons (eVar 0) (aCons (eC (.ty "tuple")) aNil))) (e2 eqP (eB lenP (aCons (eVar 0) aNil)) (eVar 1))))
noncomputable def bounds_is_tuple_of : Fn := fnP 2 2 b_bounds_is_tuple_of
noncomputable def b_programs_is_wait : MS :=
  (sRet (eAnd (eChain leP ltP (eC (.int 0)) (eVar 1) (eB lenP (aCons (eVar 0) aNil))) (e2 eqP (e2 ixP (e2 ixP (eVar 0) (eVar 1)) (eC (.int 1))) (eC (.str "wait")))))
noncomputable def programs_is_wait : Fn := fnP 2 2 b_programs_is_wait
noncomputable def b_states_may_wait : MS :=
  (sRet (eAnd (e2 eqP (eVar 2) (eC (.int 1))) (eAnd (e2 eqP (eVar 3) (eC (.int 0))) (eCall 2 Prog.programs_is_wait (aCons (eVar 0) (aCons (e2 subP (eVar 1) (eC (.int 1))) aNil))))))
noncomputable def states_may_wait : Fn := fnP 4 4 b_states_may_wait
noncomputable def b_states_is_code_row : MS :=
  (sRet (eAnd (eCall 3 Prog.bounds_is_number (aCons (eVar 1) (aCons (eC (.int 0)) (aCons (e2 subP (eB lenP (aCons (eVar 0) aNil)) (eC (.int 1))) aNil)))) (e2 neP (eCall 1 Prog.deeds_kind (aCons (e2 ixP (e2 ixP (eVar 0) (eVar 1)) (eC (.int 1))) aNil)) (eC (.str "table")))))
noncomputable def states_is_code_row : Fn := fnP 2 2 b_states_is_code_row
noncomputable def b_states_is_state : MS :=
  (sSeq (sIf (tNotP (tOf (eCall 2 Prog.bounds_is_tuple_of (aCons (eVar 1) (aCons (eC (.int 12)) aNil)))))
    (sRet (eC (.bl false)))
    sNext)
  (sSeq (sAsg (eVar 1) (gT 12 (gsCons (gN 2) (gsCons (gN 3) (gsCons (gN 4) (gsCons (gN 5) (gsCons (gN 6) (gsCons (gN 7) (gsCons (gN 8) (gsCons (gN 9) (gsCons (gN 10) (gsCons (gN 11) (gsCons (gN 12) (gsCons (gN 13) gsNil))))))))))))))
  (sSeq (sIf (tOrP (tNotP (tOf (eCall 2 Prog.states_is_code_row (aCons (eVar 0) (aCons (eVar 2) aNil))))) (tOrP (tNotP (tOf (eCall 1 Prog.bounds_is_byte (aCons (eVar 3) aNil)))) (tNotP (tOf (eCall 1 Prog.bounds_is_byte (aCons (eVar 4) aNil))))))
    (sRet (eC (.bl false)))
    sNext)
  (sSeq (sIf (tOrP (tNotP (tOf (eCall 2 Prog.bounds_are_so_many_bytes (aCons (eVar 7) (aCons (eC (.int 16)) aNil))))) (tNotP (tOf (eCall 2 Prog.bounds_are_so_many_bytes (aCons (eVar 8) (aCons (eC (.int 20)) aNil))))))
    (sRet (eC (.bl false)))
    sNext)
  (sSeq (sIf (tNotP (tOf (eAllG (iSeqP (eTup (aCons (eVar 5) (aCons (eVar 6) (aCons (eVar 12) (aCons (eVar 13) aNil)))))) (gN 14) tYesP (eCall 3 Prog.bounds_is_number (aCons (eVar 14) (aCons (eC (.int 0)) (aCons (eC (.int 1)) aNil)))) [14])))
    (sRet (eC (.bl false)))
    sNext)
  (sSeq (sIf (tOrP (tNotP (tOf (eCall 3 Prog.bounds_is_number (aCons (eVar 9) (aCons (eC (.int 0)) (aCons (eC (.int 63)) aNil)))))) (tNotP (tOf (eCall 3 Prog.bounds_is_number (aCons (eVar 10) (aCons (eC (.int 0)) (aCons (eC (.int 4080)) aNil)))))))
    (sRet (eC (.bl false)))
    sNext)
  (sSeq (sIf (tNotP (tOf (eCall 3 Prog.bounds_is_number (aCons (eVar 11) (aCons (eC (.int 0)) (aCons (eC (.int 4)) aNil))))))
    (sRet (eC (.bl false)))
    sNext)
  (sRet (eOr (e2 eqP (eVar 12) (eC (.int 0))) (eCall 4 Prog.states_may_wait (aCons (eVar 0) (aCons (eVar 2) (aCons (eVar 11) (aCons (eVar 13) aNil))))))))))))))
noncomputable def states_is_state : Fn := fnP 2 15 b_states_is_state
noncomputable def b_states_start : MS :=
  (sRet (eTup (aCons (eC (.int 0)) (aCons (eC (.int 0)) (aCons (eC (.int 0)) (aCons (eC (.int 1)) (aCons (eC (.int 0)) (aCons (e2 mulTP (eTup (aCons (eC (.int 0)) aNil)) (eC (.int 16))) (aCons (e2 mulTP (eTup (aCons (eC (.int 0)) aNil)) (eC (.int 20))) (aCons (eC (.int 0)) (aCons (eC (.int 0)) (aCons (eC (.int 0)) (aCons (eC (.int 0)) (aCons (eC (.int 0)) aNil))))))))))))))
noncomputable def states_start : Fn := fnP 1 1 b_states_start
end Prog
namespace K32
open PySem PySem.Spec L2 My Pu
noncomputable def b_p_law_waiting : MS :=
  (sSeq (sAsg (e2 addP (eC (.int 1)) (e2 modP (eCall 1 LawP.p_law_next (aCons (eVar 0) aNil)) (eC (.int 28)))) (gN 1))
  (sSeq (sAsg (eCall 3 LawP.p_law_free (aCons (eVar 0) (aCons (eVar 1) (aCons (e2 modP (eCall 1 LawP.p_law_next (aCons (eVar 0) aNil)) (eC (.int 9))) aNil)))) (gN 2))
  (sSeq (sAsg (e2 modP (eCall 1 LawP.p_law_next (aCons (eVar 0) aNil)) (eVar 1)) (gN 3))
  (sRet (eTup (aCons (e2 addP (e2 addP (eSl (eVar 2) oNone (oSome (eVar 3))) (eTup (aCons (eTup (aCons (eC (.str "")) (aCons (eC (.str "wait")) (aCons (eC (.non)) aNil)))) aNil))) (eSl (eVar 2) (oSome (eVar 3)) oNone)) (aCons (e2 addP (eVar 3) (eC (.int 1))) (aCons (e2 addP (eVar 1) (eC (.int 1))) aNil))))))))
noncomputable def p_law_waiting : Fn := fnP 1 4 b_p_law_waiting
noncomputable def b_p_law_most_of : MS :=
  (sRet (eDGet (eDic [.inl 1, .inl 2, .inl 3, .inl 4, .inl 7, .inl 8, .inl 9, .inl 10, .inl 11] (aCons (eC (.int 255)) (aCons (eC (.int 255)) (aCons (eC (.int 1)) (aCons (eC (.int 1)) (aCons (eC (.int 63)) (aCons (eC (.int 4080)) (aCons (eC (.int 4)) (aCons (eC (.int 1)) (aCons (eC (.int 1)) aNil)))))))))) (eVar 0)))
noncomputable def p_law_most_of : Fn := fnP 1 1 b_p_law_most_of
noncomputable def b_p_law_with : MS :=
  (sRet (e2 addP (e2 addP (eSl (eVar 0) oNone (oSome (eVar 1))) (eTup (aCons (eVar 2) aNil))) (eSl (eVar 0) (oSome (e2 addP (eVar 1) (eC (.int 1)))) oNone)))
noncomputable def p_law_with : Fn := fnP 3 3 b_p_law_with
noncomputable def b_p_law_no_rows : MS :=
  (sSeq (sAsg (eLst (aCons (e1 negP (eC (.int 1))) (aCons (eVar 2) (aCons (eB lenP (aCons (eVar 0) aNil)) (aCons (eC (.bl true)) (aCons (eC (.non)) (aCons (eC (.str "0")) (aCons (eTup (aCons (eC (.int 0)) aNil)) aNil)))))))) (gN 3))
  (sRet (eLc (iSeqP (eVar 3)) (gN 4) (tOrP (tOf (e2 isCP (eVar 4) (eC (.bl true)))) (tOf (eRngN (eVar 4) (aCons (eVar 2) aNil)))) (eCall 3 K32.p_law_with (aCons (eVar 1) (aCons (eC (.int 0)) (aCons (eVar 4) aNil)))) [4])))
noncomputable def p_law_no_rows : Fn := fnP 3 5 b_p_law_no_rows
noncomputable def b_p_law_no_bytes : MS :=
  (sSeq (sAsg (e2 ixP (eVar 1) (eVar 2)) (gN 3))
  (sSeq (sAsg (e2 modP (eCall 1 LawP.p_law_next (aCons (eVar 0) aNil)) (eB lenP (aCons (eVar 3) aNil))) (gN 4))
  (sSeq (sAsg (eLst (aCons (eB listP (aCons (eVar 3) aNil)) (aCons (eSl (eVar 3) oNone (oSome (e1 negP (eC (.int 1))))) (aCons (e2 addP (eVar 3) (eTup (aCons (eC (.int 0)) aNil))) (aCons (e2 addP (eTup (aCons (eC (.int 256)) aNil)) (eSl (eVar 3) (oSome (eC (.int 1))) oNone)) (aCons (e2 addP (eSl (eVar 3) oNone (oSome (e1 negP (eC (.int 1))))) (eTup (aCons (e1 negP (eC (.int 1))) aNil))) (aCons (e2 addP (eTup (aCons (eC (.bl true)) aNil)) (eSl (eVar 3) (oSome (eC (.int 1))) oNone)) (aCons (eC (.non)) (aCons (eC (.int 0)) aNil))))))))) (gN 5))
  (sSeq (sFor (iSeqP (eLst (aCons (eC (.int 256)) (aCons (e1 negP (eC (.int 1))) (aCons (eC (.bl true)) (aCons (eC (.non)) (aCons (eC (.str "0")) (aCons (eTup (aCons (eC (.int 0)) aNil)) (aCons (e2 powP (eC (.int 10)) (eC (.int 30))) aNil))))))))) (gN 6)
    (sDrop (eML appendP (eVar 5) (aCons (e2 addP (e2 addP (eSl (eVar 3) oNone (oSome (eVar 4))) (eTup (aCons (eVar 6) aNil))) (eSl (eVar 3) (oSome (e2 addP (eVar 4) (eC (.int 1)))) oNone)) aNil))))
  (sRet (eLc (iSeqP (eVar 5)) (gN 7) tYesP (eCall 3 K32.p_law_with (aCons (eVar 1) (aCons (eVar 2) (aCons (eVar 7) aNil)))) [7]))))))
noncomputable def p_law_no_bytes : Fn := fnP 3 8 b_p_law_no_bytes
noncomputable def b_p_law_none : MS :=
  (sSeq (sAsg (e2 addP (e2 addP (eCall 3 K32.p_law_no_rows (aCons (eVar 1) (aCons (eVar 2) (aCons (eVar 3) aNil)))) (eCall 3 K32.p_law_no_bytes (aCons (eVar 0) (aCons (eVar 2) (aCons (eC (.int 5)) aNil))))) (eCall 3 K32.p_law_no_bytes (aCons (eVar 0) (aCons (eVar 2) (aCons (eC (.int 6)) aNil))))) (gN 4))
  (sSeq (sFor (iSeqP (eLst (aCons (eC (.int 1)) (aCons (eC (.int 2)) (aCons (eC (.int 3)) (aCons (eC (.int 4)) (aCons (eC (.int 7)) (aCons (eC (.int 8)) (aCons (eC (.int 9)) (aCons (eC (.int 10)) (aCons (eC (.int 11)) aNil))))))))))) (gN 5)
    (sFor (iSeqP (eLst (aCons (e1 negP (eC (.int 1))) (aCons (e2 addP (eCall 1 K32.p_law_most_of (aCons (eVar 5) aNil)) (eC (.int 1))) (aCons (eC (.bl true)) (aCons (eC (.str "1")) (aCons (eC (.non)) (aCons (eTup (aCons (eC (.int 0)) aNil)) aNil)))))))) (gN 6)
    (sDrop (eML appendP (eVar 4) (aCons (eCall 3 K32.p_law_with (aCons (eVar 2) (aCons (eVar 5) (aCons (eVar 6) aNil)))) aNil)))))
  (sRet (e2 addP (eVar 4) (eLst (aCons (eSl (eVar 2) oNone (oSome (e1 negP (eC (.int 1))))) (aCons (e2 addP (eVar 2) (eTup (aCons (eC (.int 0)) aNil))) (aCons (eB listP (aCons (eVar 2) aNil)) (aCons (eC (.non)) (aCons (eC (.int 0)) (aCons (eC (.str "")) (aCons (eTup aNil) (aCons (eDic [] aNil) (aCons (eLst (aCons (eVar 2) aNil)) aNil))))))))))))))
noncomputable def p_law_none : Fn := fnP 4 7 b_p_law_none
noncomputable def b_p_law : MS :=
  (sSeq (sAsg (eCall 2 LawP.p_law_deck (aCons (eVar 0) (aCons (eC (.int 300)) aNil))) (gN 1))
  (sSeq (sAsg (eCall 1 K32.p_law_waiting (aCons (eVar 1) aNil)) (gT 3 (gsCons (gN 2) (gsCons (gN 3) (gsCons (gN 4) gsNil)))))
  (sSeq (sAsg (eCall 2 LawP.p_law_state (aCons (eVar 1) (aCons (e2 modP (eCall 1 LawP.p_law_next (aCons (eVar 1) aNil)) (eVar 4)) aNil))) (gN 5))
  (sSeq (sAsg (e2 addP (e2 addP (eTup (aCons (eVar 3) aNil)) (eSl (eVar 5) (oSome (eC (.int 1))) (oSome (eC (.int 9))))) (eTup (aCons (eC (.int 1)) (aCons (eC (.int 1)) (aCons (eC (.int 0)) aNil))))) (gN 6))
  (sSeq (sAsg (eLst (aCons (eVar 5) (aCons (eVar 6) (aCons (eCall 1 Prog.states_start (aCons (eVar 2) aNil)) aNil)))) (gN 7))
  (sSeq (sFor (iSeqP (eLst (aCons (eC (.int 1)) (aCons (eC (.int 2)) (aCons (eC (.int 3)) (aCons (eC (.int 4)) (aCons (eC (.int 7)) (aCons (eC (.int 8)) (aCons (eC (.int 9)) (aCons (eC (.int 11)) aNil)))))))))) (gN 8)
    (sAsg (e2 addP (eVar 7) (eLst (aCons (eCall 3 K32.p_law_with (aCons (eVar 5) (aCons (eVar 8) (aCons (eC (.int 0)) aNil)))) (aCons (eCall 3 K32.p_law_with (aCons (eVar 5) (aCons (eVar 8) (aCons (eCall 1 K32.p_law_most_of (aCons (eVar 8) aNil)) aNil)))) aNil)))) (gN 7)))
  (sSeq (sIf (tOf (e2 neP (eLc (iSeqP (eVar 7)) (gN 9) (tOf (e2 isNotP (eCall 2 Prog.states_is_state (aCons (eVar 2) (aCons (eVar 9) aNil))) (eC (.bl true)))) (eVar 9) [9]) (eLst aNil)))
    (sRet (eC (.bl false)))
    sNext)
  (sSeq (sAsg (e2 addP (eLc (iSeqP (eLst (aCons (eC (.int 0)) (aCons (eC (.int 2)) (aCons (eC (.int 3)) (aCons (eC (.int 4)) aNil)))))) (gN 11) tYesP (eCall 3 K32.p_law_with (aCons (eVar 6) (aCons (eC (.int 9)) (aCons (eVar 11) aNil)))) [11]) (eLst (aCons (eCall 3 K32.p_law_with (aCons (eVar 6) (aCons (eC (.int 11)) (aCons (eC (.int 1)) aNil)))) aNil))) (gN 10))
  (sSeq (sFor (iR1 (aCons (eVar 4) aNil)) (gN 12)
    (sIf (tOrP (tOf (e2 eqP (eVar 12) (eC (.int 0)))) (tOf (e2 neP (e2 ixP (e2 ixP (eVar 2) (e2 subP (eVar 12) (eC (.int 1)))) (eC (.int 1))) (eC (.str "wait")))))
    (sDrop (eML appendP (eVar 10) (aCons (eCall 3 K32.p_law_with (aCons (eVar 6) (aCons (eC (.int 0)) (aCons (eVar 12) aNil)))) aNil)))
    sNext))
  (sSeq (sAsg (e2 addP (eVar 10) (eCall 4 K32.p_law_none (aCons (eVar 1) (aCons (eVar 2) (aCons (eVar 5) (aCons (eVar 4) aNil)))))) (gN 10))
  (sSeq (sIf (tOf (e2 neP (eLc (iSeqP (eVar 10)) (gN 9) (tOf (e2 isNotP (eCall 2 Prog.states_is_state (aCons (eVar 2) (aCons (eVar 9) aNil))) (eC (.bl false)))) (eVar 9) [9]) (eLst aNil)))
    (sRet (eC (.bl false)))
    sNext)
  (sRet (e2 eqP (eCall 1 Prog.states_start (aCons (eVar 2) aNil)) (eTup (aCons (eC (.int 0)) (aCons (eC (.int 0)) (aCons (eC (.int 0)) (aCons (eC (.int 1)) (aCons (eC (.int 0)) (aCons (e2 mulTP (eTup (aCons (eC (.int 0)) aNil)) (eC (.int 16))) (aCons (e2 mulTP (eTup (aCons (eC (.int 0)) aNil)) (eC (.int 20))) (aCons (eC (.int 0)) (aCons (eC (.int 0)) (aCons (eC (.int 0)) (aCons (eC (.int 0)) (aCons (eC (.int 0)) aNil))))))))))))))))))))))))))
noncomputable def p_law : Fn := fnP 1 13 b_p_law
end K32

set_option maxHeartbeats 2000000
namespace Pu
open PySem PySem.Spec L2 My

theorem gc_same {st : Sto} {v : PV} (n : noRef v = true) : gc st (.ok v st) = .ok v st := by
  have z := gc_app (st := st) (g := []) n
  rw [List.append_nil] at z
  exact z
theorem set_same {st : Sto} {l : Nat} {o : PO} (e : st[l]? = some o) : st.set l o = st := by
  apply List.ext_getElem?
  intro i
  rw [List.getElem?_set]
  by_cases c : l = i
  · subst c
    rw [if_pos rfl, if_pos (List.getElem?_eq_some_iff.mp e).1, e]
  · rw [if_neg c]
theorem end_set {st g : Sto} {v : PV} {l : Nat} {o : PO} {P : PV → Sto → Prop} (f : o.flat = true) (n : noRef v = true) (h : P v (st.set l o)) : W (out (.rt v) (st.set l o ++ g)) (fun v st2 => W (gc st (.ok v st2)) P) := by
  refine W.of rfl ?_
  exact W.of (gc_set f n) h
theorem end_set0 {st : Sto} {v : PV} {l : Nat} {o : PO} {P : PV → Sto → Prop} (f : o.flat = true) (n : noRef v = true) (h : P v (st.set l o)) : W (out (.rt v) (st.set l o)) (fun v st2 => W (gc st (.ok v st2)) P) := by
  have z := gc_set (st := st) (g := []) (v := v) (l := l) f n
  rw [List.append_nil] at z
  refine W.of rfl ?_
  exact W.of z h
theorem end_app {st g : Sto} {v : PV} {P : PV → Sto → Prop} (n : noRef v = true) (h : P v st) : W (out (.rt v) (st ++ g)) (fun v st2 => W (gc st (.ok v st2)) P) := by
  refine W.of rfl ?_
  exact W.of (gc_app n) h
theorem end_same {st : Sto} {v : PV} {P : PV → Sto → Prop} (n : noRef v = true) (h : P v st) : W (out (.rt v) st) (fun v st2 => W (gc st (.ok v st2)) P) := by
  refine W.of rfl ?_
  exact W.of (gc_same n) h
theorem next_W {st : Sto} {l : Nat} (h : Deck st l) : W (LawP.p_law_next [.ref l] st) (fun v st' => ∃ n o, v = .int n ∧ (0 ≤ n ∧ n < 1000) ∧ IsDeck o ∧ st' = st.set l o) := by
  obtain ⟨o, e, ds, rfl, hd⟩ := h
  have gl := getL_lst e
  have gm := getM_lst e
  refine fn_W rfl ?_
  unfold LawP.b_p_law_next
  walk_at "pw"
  refine w_lenL gl ?_
  walk_at "pw"
  refine w_dec (fun hn => ?_) (fun hn => ?_)
  · walk_at "pw"
    refine w_isL gl ?_
    rw [List.length_map] at hn
    have hi : ds.length - 1 < ds.length := by omega
    unfold popP
    dsimp only
    rw [gm]
    dsimp only
    rw [List.length_map, List.getElem?_map, List.getElem?_eq_getElem hi]
    have hdl : IsDeck (.lst (ds.map PV.int).dropLast) := ⟨ds.dropLast, by rw [List.map_dropLast], fun d m => hd d ((List.dropLast_sublist ds).subset m)⟩
    first | exact W.ok (end_set0 hdl.flat rfl ⟨_, _, rfl, hd _ (List.getElem_mem hi), hdl, rfl⟩) | exact W.mono (end_set0 hdl.flat rfl ⟨_, _, rfl, hd _ (List.getElem_mem hi), hdl, rfl⟩) (fun _ _ q => W.ok q) | (simp only [W_ok]; exact end_set0 hdl.flat rfl ⟨_, _, rfl, hd _ (List.getElem_mem hi), hdl, rfl⟩)
  · walk_at "pw"
    exact end_same rfl ⟨0, _, rfl, by decide, ⟨ds, rfl, hd⟩, (set_same e).symm⟩
theorem mod_bound (a : Int) {m : Int} (h : 0 < m) : 0 ≤ a % m ∧ a % m < m := ⟨Int.emod_nonneg _ (by omega), Int.emod_lt_of_pos _ h⟩
theorem mixed_W {st : Sto} (c k : Int) (hk : 0 ≤ k ∧ k < 100000) : W (LawP.p_law_mixed [.int c, .int k] st) (fun v st' => ∃ n, v = .int n ∧ st' = st) := by
  refine fn_W rfl ?_
  unfold LawP.b_p_law_mixed
  walk_at "pw"
  exact end_same rfl ⟨_, rfl, rfl⟩
theorem end_new {st g : Sto} {i : Nat} {o : PO} {P : PV → Sto → Prop} (hi : st.length ≤ i) (e : (st ++ g)[i]? = some o) (f : o.flat = true) (h : P (.ref st.length) (st ++ [o])) : W (out (.rt (.ref i)) (st ++ g)) (fun v st2 => W (gc st (.ok v st2)) P) := by
  refine W.of rfl ?_
  exact W.of (gc_new (clean_app st g) rfl hi e f) h
theorem end_newP {st sx : Sto} {o : PO} {P : PV → Sto → Prop} (p : Pre st sx) (f : o.flat = true) (h : P (.ref st.length) (st ++ [o])) : W (out (.rt (.ref sx.length)) (sx ++ [o])) (fun v st2 => W (gc st (.ok v st2)) P) := by
  obtain ⟨g, rfl⟩ := p
  rw [List.append_assoc]
  refine end_new (by rw [List.length_append]; omega) ?_ f h
  rw [← List.append_assoc]
  exact at_last _ _
theorem end_pre {st sx : Sto} {v : PV} {P : PV → Sto → Prop} (p : Pre st sx) (n : noRef v = true) (h : P v st) : W (out (.rt v) sx) (fun v st2 => W (gc st (.ok v st2)) P) := by
  obtain ⟨g, rfl⟩ := p
  exact end_app n h
theorem atI_nat {α : Type} {xs : List α} {n : Nat} (h : n < xs.length) : atI xs (n : Int) = some xs[n] := by
  unfold atI ixN
  rw [if_pos (by omega), if_pos (by omega)]
  simp [h]
theorem atI_int {ds : List Int} {k : Int} (h : 0 ≤ k ∧ k < ds.length) : atI (ds.map PV.int) k = some (.int (ds.getD k.toNat 0)) := by
  obtain ⟨n, rfl⟩ : ∃ n : Nat, k = n := ⟨k.toNat, by omega⟩
  have hn : n < ds.length := by omega
  rw [atI_nat (by simpa using hn)]
  simp [List.getD, hn]
theorem ixN_int {n : Nat} {k : Int} (h : 0 ≤ k ∧ k < n) : ixN n k = some k.toNat := by
  unfold ixN
  rw [if_pos h.1, if_pos h.2]
def Av (st : Sto) (l : Nat) (sx : Sto) : Prop := ∃ o g, IsDeck o ∧ sx = st.set l o ++ g
theorem Deck.lt {st : Sto} {l : Nat} (h : Deck st l) : l < st.length := by
  obtain ⟨o, e, d⟩ := h
  exact (List.getElem?_eq_some_iff.mp e).1
theorem Av.start {st : Sto} {l : Nat} (h : Deck st l) : Av st l st := by
  obtain ⟨o, e, d⟩ := h
  exact ⟨o, [], d, by rw [set_same e, List.append_nil]⟩
theorem Av.new {st sx g : Sto} {l : Nat} (h : Av st l sx) : Av st l (sx ++ g) := by
  obtain ⟨o, g', d, rfl⟩ := h
  exact ⟨o, g' ++ g, d, by rw [List.append_assoc]⟩
theorem Av.draw {st sx : Sto} {l : Nat} {o : PO} (hl : l < st.length) (h : Av st l sx) (d : IsDeck o) : Av st l (sx.set l o) := by
  obtain ⟨o', g', d', rfl⟩ := h
  exact ⟨o, g', d, by rw [set_app (by rw [List.length_set]; exact hl), List.set_set]⟩
theorem Av.put {st sx : Sto} {l k : Nat} {x : PO} (hk : st.length ≤ k) (h : Av st l sx) : Av st l (sx.set k x) := by
  obtain ⟨o', g', d', rfl⟩ := h
  exact ⟨o', g'.set (k - (st.set l o').length) x, d', by rw [List.set_append_right _ _ (by rw [List.length_set]; exact hk)]⟩
theorem Av.deck {st sx : Sto} {l : Nat} (hl : l < st.length) (h : Av st l sx) : Deck sx l := by
  obtain ⟨o', g', d', rfl⟩ := h
  refine ⟨o', at_app ?_, d'⟩
  rw [List.getElem?_set, if_pos rfl, if_pos hl]
theorem Av.le {st sx : Sto} {l : Nat} (h : Av st l sx) : st.length ≤ sx.length := by
  obtain ⟨o', g', d', rfl⟩ := h
  rw [List.length_append, List.length_set]
  omega
theorem Av.trans {st sx sy : Sto} {l : Nat} (hl : l < st.length) (h : Av st l sx) (k : Av sx l sy) : Av st l sy := by
  obtain ⟨o, g, d, rfl⟩ := k
  exact (h.draw hl d).new
theorem Av.getL {st sx : Sto} {l i : Nat} {xs : List PV} (h : Av st l sx) (n : i ≠ l) (e : Pu.getL st i = some xs) : Pu.getL sx i = some xs := by
  obtain ⟨o', g', d', rfl⟩ := h
  exact getL_app (by rw [getL_ne n]; exact e)
def Drawn (st : Sto) (l : Nat) (A : PV → Prop) : PV → Sto → Prop := fun v st' => A v ∧ ∃ o, IsDeck o ∧ st' = st.set l o
theorem Av.fin {st sx : Sto} {l : Nat} {A : PV → Prop} {v : PV} (h : Av st l sx) (n : noRef v = true) (a : A v) : W (out (.rt v) sx) (fun v st2 => W (gc st (.ok v st2)) (Drawn st l A)) := by
  obtain ⟨o, g, d, rfl⟩ := h
  exact end_set d.flat n ⟨a, o, d, rfl⟩
def DrawnL (st : Sto) (l : Nat) (A : List PV → Prop) : PV → Sto → Prop := fun v st' => v = .ref st.length ∧ ∃ o xs, IsDeck o ∧ A xs ∧ st' = st.set l o ++ [.lst xs]
theorem Av.finL {st sx : Sto} {l i : Nat} {A : List PV → Prop} {xs : List PV} (h : Av st l sx) (hi : st.length ≤ i) (e : getM sx i = some xs) (n : noRefL xs = true) (a : A xs) : W (out (.rt (.ref i)) sx) (fun v st2 => W (gc st (.ok v st2)) (DrawnL st l A)) := by
  obtain ⟨o, g, d, rfl⟩ := h
  refine W.of rfl ?_
  exact W.of (gc_new (clean_set d.flat) (by simp) hi (getM_at e) n) ⟨rfl, o, xs, d, a, rfl⟩
theorem getM_draw {sx : Sto} {l k : Nat} {o : PO} {xs : List PV} (n : k ≠ l) (e : getM sx k = some xs) : getM (sx.set l o) k = some xs := by rw [getM_ne n]; exact e
theorem rep_zero (k : Bool) : (List.replicate (if k = true then (1 : Int) else 0).toNat [PV.int 0]).flatten = if k = true then [.int 0] else [] := by cases k <;> rfl
theorem cut60 (ns : List Int) : cutP (ns.map PV.int) none (some 60) = (ns.take 60).map PV.int := by
  unfold cutP
  have e : HT.sIx (ns.map PV.int).length (ns.map PV.int).length (some 60) = min 60 ns.length := by
    rw [show (60 : Int) = ((60 : Nat) : Int) from rfl, HT.sIx_nat, List.length_map]
  rw [HT.sIx_none, e, List.drop_zero, Nat.sub_zero, ← List.map_take]
  congr 1
  by_cases h : 60 ≤ ns.length
  · rw [Nat.min_eq_left h]
  · rw [Nat.min_eq_right (by omega), List.take_of_length_le (by omega), List.take_of_length_le (by omega)]
theorem deck_W {st : Sto} {s : Nat} {ns : List Int} {many : Int} (hs : getL st s = some (ns.map PV.int)) (hm : 0 ≤ many ∧ many ≤ 5000) (hn : ns.length ≤ 63) : W (LawP.p_law_deck [.ref s, .int many] st) (fun v st' => v = .ref st.length ∧ ∃ o, IsDeck o ∧ st' = st ++ [o]) := by
  refine fn_W rfl ?_
  unfold LawP.b_p_law_deck
  walk_at "p0"
  walk_at "pw"
  refine w_slL hs ?_
  walk_at "pw"
  refine w_listL (getL_last _ _) ?_
  walk_at "pw"
  refine w_lenL (getL_app (getL_app (getL_app hs))) ?_
  walk_at "pw"
  rw [cut60]
  obtain ⟨st1, e1⟩ : ∃ x, x = st ++ [PO.lst ((ns.take 60).map PV.int)] ++ [PO.lst ((ns.take 60).map PV.int)] ++ [PO.lst [PV.int 0]] := ⟨_, rfl⟩
  have p1 : Pre st st1 := by rw [e1]; exact .new (.new .app)
  have g1 : getM st1 (st ++ [PO.lst ((ns.take 60).map PV.int)]).length = some ((ns.take 60).map PV.int) := by rw [e1]; exact getM_app (getM_last _ _)
  have g2 : getM st1 (st ++ [PO.lst ((ns.take 60).map PV.int)] ++ [PO.lst ((ns.take 60).map PV.int)]).length = some [.int 0] := by rw [e1]; exact getM_last _ _
  rw [← e1]
  -- [0] * ..
  have hmul : ∀ {P : PV → Sto → Prop} {j : Nat} {k : Bool}, getM st1 j = some [.int 0] → P (.ref st1.length) (st1 ++ [.lst (if k = true then [.int 0] else [])]) → W (mulP (.ref j) (.int (if k = true then 1 else 0)) st1) P := fun {P j k} g h => by
    unfold mulP
    dsimp only
    rw [g]
    dsimp only
    rw [if_pos (by cases k <;> decide), rep_zero]
    first | exact W.ok (h) | exact W.mono (h) (fun _ _ q => W.ok q) | (simp only [W_ok]; exact h)
  refine hmul g2 ?_
  refine w_addL (getM_app g1) (getM_last _ _) (by rw [List.length_map, List.length_take]; split <;> simp <;> omega) ?_
  -- own
  obtain ⟨own, eo, ho1, ho2⟩ : ∃ own : List Int, (ns.take 60).map PV.int ++ (if decide ((((ns.map PV.int).length : Nat) : Int) = 0) = true then [PV.int 0] else []) = own.map PV.int ∧ 0 < own.length ∧ own.length ≤ 60 := by
    by_cases h0 : ns = []
    · subst h0
      exact ⟨[0], rfl, by decide, by decide⟩
    · have hl : 0 < ns.length := List.length_pos_iff.mpr h0
      refine ⟨ns.take 60, ?_, by rw [List.length_take]; omega, by rw [List.length_take]; omega⟩
      rw [List.length_map, if_neg (by rw [decide_eq_true_iff]; omega), List.append_nil]
  rw [eo]
  clear eo
  obtain ⟨st2, e2⟩ : ∃ x, x = st1 ++ [PO.lst (if decide ((((ns.map PV.int).length : Nat) : Int) = 0) = true then [PV.int 0] else [])] := ⟨_, rfl⟩
  rw [← e2]
  have p2 : Pre st st2 := by rw [e2]; exact p1.new
  clear e2 g1 g2 hmul p1 e1
  have hA : st.length ≤ st2.length := p2.le
  have gA := getM_last st2 (own.map PV.int)
  have p3 : Pre st (st2 ++ [PO.lst (own.map PV.int)]) := p2.new
  have lA : (st2 ++ [PO.lst (own.map PV.int)]).length = st2.length + 1 := by simp
  generalize st2 ++ [PO.lst (own.map PV.int)] = st3 at *
  walk_at "pw"
  refine w_seqL ?_
  walk_at "pw"
  refine ⟨st2.length, own.map PV.int, rfl, getM_L gA, ?_⟩
  refine lc_list (fun i acc st' => st' = st3 ∧ ∃ ds : List Int, acc = ds.map PV.int ∧ ds.length = i ∧ ∀ d ∈ ds, 0 ≤ d) ⟨rfl, [], rfl, rfl, fun d h => by cases h⟩ (fun i acc st' h => by rw [h.1]; exact getM_L gA) (fun i p acc st' hp h => ?_) (fun acc st' h => ?_)
  · obtain ⟨rfl, ds, rfl, hl, hd⟩ := h
    rw [List.getElem?_map] at hp
    obtain ⟨c, hc, rfl⟩ := Option.map_eq_some_iff.mp hp
    have hi : i < own.length := (List.getElem?_eq_some_iff.mp hc).1
    walk_at "pw"
    refine w_pow ⟨by decide, by decide, by decide⟩ ?_
    walk_at "pw"
    refine w_mulI (.inr ?_) ?_
    · split <;> decide
    refine ⟨by rw [List.length_map]; omega, rfl, ds ++ [c * (if decide ((10 : Int) ^ (18 : Int).toNat ≤ c) = true then 1 else 0)], by simp, by simp [hl], fun d m => ?_⟩
    rcases List.mem_append.mp m with m | m
    · exact hd d m
    · rw [List.mem_singleton] at m
      rw [m]
      split
      · rename_i q
        rw [decide_eq_true_iff] at q
        have z : (10 : Int) ^ (18 : Int).toNat = 1000000000000000000 := by decide
        rw [z] at q
        omega
      · omega
  · obtain ⟨rfl, ds, rfl, hl, hd⟩ := h
    rw [List.length_map] at hl
    have gB := getM_last st' (ds.map PV.int)
    have gA2 := getM_app (g := [PO.lst (ds.map PV.int)]) gA
    have p4 : Pre st (st' ++ [PO.lst (ds.map PV.int)]) := p3.new
    have lB : (st' ++ [PO.lst (ds.map PV.int)]).length = st'.length + 1 := by simp
    generalize st' ++ [PO.lst (ds.map PV.int)] = st4 at *
    walk_at "pw"
    have gC := getM_last st4 []
    have gB2 := getM_app (g := [PO.lst []]) gB
    have gA3 := getM_app (g := [PO.lst []]) gA2
    have p5 : Pre st (st4 ++ [PO.lst []]) := p4.new
    generalize st4 ++ [PO.lst []] = st5 at *
    refine w_one ⟨by omega, by omega⟩ ?_
    walk_at "ps"
    have ne1 : st2.length ≠ st'.length := by omega
    have ne2 : st2.length ≠ st4.length := by omega
    have ne3 : st'.length ≠ st4.length := by omega
    refine for_items (fun i ρ sx => ∃ x6 x7, ρ = [some (.ref s), some (.int many), some (.ref st2.length), some (.ref st'.length), none, some (.ref st4.length), x6, x7] ∧ Pre st sx ∧ getM sx st2.length = some (own.map PV.int) ∧ (∃ rs : List Int, getM sx st'.length = some (rs.map PV.int) ∧ rs.length = own.length ∧ ∀ d ∈ rs, 0 ≤ d) ∧ ∃ dk : List Int, getM sx st4.length = some (dk.map PV.int) ∧ dk.length = i ∧ ∀ d ∈ dk, 0 ≤ d ∧ d < 1000)
      ⟨_, _, rfl, p5, gA3, ⟨ds, gB2, hl, hd⟩, [], gC, rfl, fun d h => by cases h⟩ (fun i p ρ sx hp h => ?_) (fun ρ sx h => ?_)
    · obtain ⟨x6, x7, rfl, q1, q2, ⟨rs, q3, q4, q5⟩, dk, q6, q7, q8⟩ := h
      obtain ⟨hi, rfl⟩ := range_at hp
      walk_at "pw"
      refine w_lenL (getM_L q2) ?_
      rw [List.length_map]
      refine w_mod (by omega) ?_
      have hb := mod_bound (0 + (i : Int)) (m := (own.length : Int)) (by omega)
      generalize (0 + (i : Int)) % (own.length : Int) = k at hb
      walk_at "pw"
      refine w_ixL (getM_L q3) (atI_int ⟨hb.1, by omega⟩) ?_
      walk_at "pw"
      have hk : k.toNat < rs.length := by omega
      have hr : rs.getD k.toNat 0 = rs[k.toNat] := by simp [List.getD, hk]
      have hr0 : 0 ≤ rs[k.toNat] := q5 _ (List.getElem_mem hk)
      rw [hr]
      have mon : ∀ (sx : Sto) (n : Int), getM sx st4.length = some (dk.map PV.int) → getM (sx.set st4.length (.lst (dk.map PV.int ++ [.int n]))) st4.length = some ((dk ++ [n]).map PV.int) := fun sx n g => by
        rw [getM_set g, List.map_append]
        rfl
      have hdl : (dk.map PV.int).length < 100000 := by rw [List.length_map]; omega
      have q4' : st.length ≤ st4.length := by omega
      refine w_dec (fun hc => ?_) (fun hc => ?_)
      · walk_at "pw"
        refine w_isL (getM_L q6) ?_
        walk_at "pw"
        refine w_ixL (getM_L q3) (atI_int ⟨hb.1, by omega⟩) ?_
        rw [hr]
        walk_at "pw"
        refine w_append q6 hdl ?_
        walk_at "pw"
        have g3 : getM (sx.set st4.length (.lst (dk.map PV.int ++ [.int (rs[k.toNat] % 1000)]))) st'.length = some (rs.map PV.int) := by rw [getM_ne ne3]; exact q3
        refine w_ixL (getM_L g3) (atI_int ⟨hb.1, by omega⟩) ?_
        rw [hr]
        walk_at "pw"
        refine w_setL g3 (ixN_int ⟨hb.1, by rw [List.length_map]; omega⟩) ?_
        walk_at "ps"
        refine ⟨_, _, rfl, (q1.set q4').set (by omega), ?_, ⟨rs.set k.toNat (rs[k.toNat] / 1000), ?_, by rw [List.length_set]; exact q4, fun d m => ?_⟩, dk ++ [rs[k.toNat] % 1000], ?_, by simp [q7], fun d m => ?_⟩
        · rw [getM_ne ne1, getM_ne ne2]
          exact q2
        · rw [getM_set g3, List.map_set]
        · rcases List.mem_or_eq_of_mem_set m with m | m
          · exact q5 d m
          · rw [m]
            omega
        · rw [getM_ne ne3.symm]
          exact mon sx _ q6
        · rcases List.mem_append.mp m with m | m
          · exact q8 d m
          · rw [List.mem_singleton] at m
            rw [m]
            omega
      · walk_at "pw"
        refine w_isL (getM_L q6) ?_
        walk_at "pw"
        refine w_ixL (getM_L q2) (atI_int hb) ?_
        walk_at "pw"
        have hm5 : (0 : Int) ≤ 0 + (i : Int) + 1 ∧ 0 + (i : Int) + 1 < 100000 := ⟨by omega, by omega⟩
        generalize 0 + (i : Int) + 1 = k5 at hm5 ⊢
        refine W.mono (mixed_W (own.getD k.toNat 0) k5 hm5) ?_
        rintro v sy ⟨n, rfl, e⟩
        subst e
        walk_at "pw"
        refine w_append q6 hdl ?_
        walk_at "ps"
        refine ⟨_, _, rfl, q1.set q4', ?_, ⟨rs, ?_, q4, q5⟩, dk ++ [n % 1000], mon sy _ q6, by simp [q7], fun d m => ?_⟩
        · rw [getM_ne ne2]
          exact q2
        · rw [getM_ne ne3]
          exact q3
        · rcases List.mem_append.mp m with m | m
          · exact q8 d m
          · rw [List.mem_singleton] at m
            rw [m]
            omega
    · obtain ⟨x6, x7, rfl, q1, q2, q3, dk, q6, q7, q8⟩ := h
      walk_at "pw"
      refine w_rev (getM_L q6) ?_
      have hd : IsDeck (.lst (dk.map PV.int).reverse) := ⟨dk.reverse, by rw [List.map_reverse], fun d m => q8 d (List.mem_reverse.mp m)⟩
      exact end_newP q1 hd.flat ⟨rfl, _, hd, rfl⟩
end Pu

namespace Pu
open PySem PySem.Spec L2 My
end Pu

set_option maxHeartbeats 2000000
namespace Pu
open PySem PySem.Spec L2 My

def names : List Str := ["set", "test", "setx", "get", "put", "add", "sub", "mask", "flip", "getx", "putx", "lay", "take", "half", "twice", "up", "down", "tox", "toa", "rest", "idle", "wait", "go", "ifz", "ifn", "ifc", "ifd", "at", "door", "eye", "data"]
def lookD (d : Str) : Str × Int := match lookS d Prog.d_DEEDS with
  | some (.tup [.str k, .int b]) => (k, b)
  | _ => ("", 0)
def bcOf (d : Str) : Int := match lookS (lookD d).1 Prog.d_BYTE_COUNTS with
  | some (.int b) => b
  | _ => 0
theorem look_at {d : Str} (h : d ∈ names) : lookS d Prog.d_DEEDS = some (.tup [.str (lookD d).1, .int (lookD d).2]) := by
  simp only [names, List.mem_cons, List.not_mem_nil, or_false] at h
  rcases h with rfl | rfl | rfl | rfl | rfl | rfl | rfl | rfl | rfl | rfl | rfl | rfl | rfl | rfl | rfl | rfl | rfl | rfl | rfl | rfl | rfl | rfl | rfl | rfl | rfl | rfl | rfl | rfl | rfl | rfl | rfl <;> rfl
theorem bc_at {d : Str} (h : d ∈ names) : lookS (lookD d).1 Prog.d_BYTE_COUNTS = some (.int (bcOf d)) := by
  simp only [names, List.mem_cons, List.not_mem_nil, or_false] at h
  rcases h with rfl | rfl | rfl | rfl | rfl | rfl | rfl | rfl | rfl | rfl | rfl | rfl | rfl | rfl | rfl | rfl | rfl | rfl | rfl | rfl | rfl | rfl | rfl | rfl | rfl | rfl | rfl | rfl | rfl | rfl | rfl <;> rfl
theorem kind_W {st : Sto} {d : Str} (h : d ∈ names) : W (Prog.deeds_kind [.str d] st) (fun v st' => v = .str (lookD d).1 ∧ st' = st) := by
  refine fn_W rfl ?_
  unfold Prog.b_deeds_kind
  walk_at "p0"
  walk_at "pw"
  refine w_mget (look_at h) ?_
  walk_at "pw"
  refine w_ixT (v := .str (lookD d).1) rfl ?_
  exact end_same rfl ⟨rfl, rfl⟩
theorem byte_W {st : Sto} {d : Str} (h : d ∈ names) : W (Prog.deeds_byte_count [.str d] st) (fun v st' => v = .int (bcOf d) ∧ st' = st) := by
  refine fn_W rfl ?_
  unfold Prog.b_deeds_byte_count
  walk_at "p0"
  walk_at "pw"
  refine W.mono (kind_W h) ?_
  rintro v st' ⟨rfl, e⟩
  subst e
  refine w_mget (bc_at h) ?_
  exact end_same rfl ⟨rfl, rfl⟩
theorem isiInt {st : Sto} {P : PV → Sto → Prop} {i : Int} (h : P (.bl true) st) : W (isiP [.int i, .ty "int"] st) P := by first | exact W.ok h | exact W.mono h (fun _ _ q => W.ok q)
theorem isiBool {st : Sto} {P : PV → Sto → Prop} {i : Int} (h : P (.bl false) st) : W (isiP [.int i, .ty "bool"] st) P := by first | exact W.ok h | exact W.mono h (fun _ _ q => W.ok q)
theorem isi_W {st : Sto} {P : PV → Sto → Prop} {p : PV} {T n : String} (e : tyP st p = some T) (hn : n ∈ cls) (h : P (.bl (subTy T n)) st) : W (isiP [p, .ty n] st) P := by
  unfold isiP
  dsimp only
  rw [e]
  dsimp only
  rw [if_pos hn]
  first | exact W.ok (h) | exact W.mono (h) (fun _ _ q => W.ok q) | (simp only [W_ok]; exact h)
theorem whole_W {st : Sto} {i : Int} : W (Prog.bounds_is_whole [.int i] st) (fun v st' => v = .bl true ∧ st' = st) := by
  refine fn_W rfl ?_
  unfold Prog.b_bounds_is_whole
  walk_at "p0"
  walk_at "pw"
  refine isiInt ?_
  walk_at "pw"
  refine isiBool ?_
  walk_at "pw"
  exact end_same rfl ⟨rfl, rfl⟩
theorem number_W {st : Sto} {i lo hi : Int} : W (Prog.bounds_is_number [.int i, .int lo, .int hi] st) (fun v st' => v = .bl (decide (lo ≤ i ∧ i ≤ hi)) ∧ st' = st) := by
  refine fn_W rfl ?_
  unfold Prog.b_bounds_is_number
  walk_at "p0"
  walk_at "pw"
  refine W.mono whole_W ?_
  rintro v st' ⟨rfl, e⟩
  subst e
  walk_at "pw"
  refine w_dec (fun h => ?_) (fun h => ?_)
  · walk_at "pw"
    refine end_same rfl ⟨?_, rfl⟩
    congr 1
    simp [h]
  · refine end_same rfl ⟨?_, rfl⟩
    congr 1
    simp [h]
abbrev Rw := Str × Str × PV
def rowP (r : Rw) : PV := .tup [.str r.1, .str r.2.1, r.2.2]
theorem rowP_mk (m d : Str) (v : PV) : rowP (m, d, v) = .tup [.str m, .str d, v] := rfl
def progP (rows : List Rw) : PV := .tup (rows.map rowP)
def Known (rows : List Rw) : Prop := ∀ r ∈ rows, r.2.1 ∈ names
def lenOf (rows : List Rw) : Int := (rows.map fun r => bcOf r.2.1).sum
theorem gen_map {xs : List PV} {g : MG} {c : MT} {e : ME} {vs : List Nat} {ρ : Env} {st : Sto} (f : PV → PV) (h : ∀ p ∈ xs, W (g p (wipeP ρ vs) st) fun ρ1 st1 => W (c ρ1 st1) fun k st2 => k = true ∧ W (e ρ1 st2) fun y st3 => y = f p ∧ Pre st st3) :
    ∀ (n i : Nat), n + i = xs.length → genGo (.items xs) g c e vs ρ st (n + 1) i = some ((xs.drop i).map fun p => some (f p))
  | 0, i, hn => by
    unfold genGo
    have e : nextP (.items xs) i st = some none := by
      show some xs[i]? = _
      rw [List.getElem?_eq_none (by omega)]
    rw [e]
    dsimp only
    rw [List.drop_of_length_le (by omega)]
    rfl
  | n + 1, i, hn => by
    have hi : i < xs.length := by omega
    have e1 : nextP (.items xs) i st = some (some xs[i]) := by
      show some xs[i]? = _
      rw [List.getElem?_eq_getElem hi]
    have ih := gen_map f h n (i + 1) (by omega)
    have tn : ∃ t, turnP g c e vs ρ xs[i] st = .ok (some (f xs[i])) (st ++ t) := by
      obtain ⟨ρ1, st1, q1, h1⟩ := (h xs[i] (List.getElem_mem hi)).eq
      obtain ⟨k, st2, q2, hk, h2⟩ := h1.eq
      obtain ⟨y, st3, q3, hy, t, ht⟩ := h2.eq
      refine ⟨t, ?_⟩
      unfold turnP
      rw [q1, bind_ok, q2, bind_ok, if_pos hk, q3, bind_ok, hy, ht]
    obtain ⟨t, et⟩ := tn
    unfold genGo
    rw [e1]
    dsimp only
    rw [et]
    dsimp only
    rw [if_pos ⟨t, rfl⟩, ih, List.drop_eq_getElem_cons hi]
    rfl
theorem gen_items {xs : List PV} {g : MG} {c : MT} {e : ME} {vs : List Nat} {ρ : Env} {st : Sto} (f : PV → PV) (h : ∀ p ∈ xs, W (g p (wipeP ρ vs) st) fun ρ1 st1 => W (c ρ1 st1) fun k st2 => k = true ∧ W (e ρ1 st2) fun y st3 => y = f p ∧ Pre st st3) :
    genGo (.items xs) g c e vs ρ st (fuelP (.items xs) st) 0 = some (xs.map fun p => some (f p)) := gen_map f h xs.length 0 rfl
theorem w_allG {mi : MI} {g : MG} {c : MT} {e : ME} {vs : List Nat} {ρ : Env} {st : Sto} {P : PV → Sto → Prop} (h : W (mi ρ st) fun it st1 => ∃ L bs, genGo it g c e vs ρ st1 (fuelP it st1) 0 = some L ∧ boolsOf L = some bs ∧ P (.bl (bs.all id)) st1) : W (eAllG mi g c e vs ρ st) P := by
  unfold eAllG
  rw [W_bind]
  refine h.mono fun it st1 h1 => ?_
  obtain ⟨L, bs, h1, h2, h4⟩ := h1
  rw [h1]
  dsimp only
  rw [h2]
  first | exact W.ok (h4) | exact W.mono (h4) (fun _ _ q => W.ok q) | (simp only [W_ok]; exact h4)
def dOf : PV → Str
  | .tup [_, .str d, _] => d
  | _ => ""
end Pu

set_option maxHeartbeats 2000000
namespace Pu
open PySem PySem.Spec L2 My

theorem w_mem {k : Str} {xs : List Str} {A B : Prop} (h1 : k ∈ xs → A) (h2 : k ∉ xs → B) : if k ∈ xs then A else B := by
  by_cases h : k ∈ xs
  · rw [if_pos h]; exact h1 h
  · rw [if_neg h]; exact h2 h
def iv : PV → Int
  | .int n => n
  | _ => 0
def b2 (b : Bool) : Int := if b = true then 1 else 0
abbrev memP (mem : List Int) : PV := .tup (mem.map PV.int)
theorem cut_lo {α : Type} (f : α → PV) (xs : List α) (n : Nat) (h : n ≤ xs.length) : cutP (xs.map f) none (some (n : Int)) = (xs.take n).map f := by
  unfold cutP
  rw [HT.sIx_none, HT.sIx_nat, List.length_map, List.drop_zero, Nat.sub_zero, ← List.map_take, Nat.min_eq_left h]
theorem cut_hi {α : Type} (f : α → PV) (xs : List α) (n : Nat) : cutP (xs.map f) (some (n : Int)) none = (xs.drop n).map f := by
  unfold cutP
  rw [HT.sIx_none, HT.sIx_nat, List.length_map, ← List.map_drop, ← List.map_take]
  congr 1
  by_cases h : n ≤ xs.length
  · rw [Nat.min_eq_left h, List.take_of_length_le (by rw [List.length_drop]; omega)]
  · rw [Nat.min_eq_right (by omega), Nat.sub_self, List.take_zero, List.drop_of_length_le (by omega)]
theorem with_W {st : Sto} {mem : List Int} {i b : Int} (hm : mem.length = 16) (hi : 0 ≤ i ∧ i < 16) : W (Prog.steps_with_byte [memP mem, .int i, .int b] st) (fun v st' => v = memP (mem.set i.toNat b) ∧ st' = st) := by
  obtain ⟨n, rfl⟩ : ∃ n : Nat, i = n := ⟨i.toNat, by omega⟩
  have hn : n < 16 := by omega
  refine fn_W rfl ?_
  unfold Prog.b_steps_with_byte
  walk_at "p0"
  walk_at "pw"
  rw [cut_lo PV.int mem n (by omega)]
  refine w_addT (by simp; omega) ?_
  walk_at "pw"
  have e : (n : Int) + 1 = ((n + 1 : Nat) : Int) := by omega
  rw [e, cut_hi PV.int mem (n + 1)]
  refine w_addT (by simp; omega) ?_
  have e2 : (mem.take n).map PV.int ++ [PV.int b] ++ (mem.drop (n + 1)).map PV.int = (mem.set n b).map PV.int := by
    rw [List.set_eq_take_append_cons_drop, if_pos (by omega), List.map_append, List.map_cons, List.append_assoc]
    rfl
  rw [e2]
  exact end_same (noRefL_ints _) ⟨rfl, rfl⟩
def byteD : List Str := ["set", "test", "setx"]
def memD : List Str := ["get", "put", "add", "sub", "mask", "flip", "getx", "putx", "lay", "take"]
structure ValOk (d : Str) (v : PV) : Prop where
  byte : d ∈ byteD → ∃ n : Int, v = .int n ∧ 0 ≤ n ∧ n < 256
  mem : d ∈ memD → ∃ n : Int, v = .int n ∧ 0 ≤ n ∧ n < 16
def memI (d : Str) (v a x : Int) (mem : List Int) : List Int := if d ∈ (["put"] : List Str) then mem.set v.toNat a else if d ∈ (["putx"] : List Str) then mem.set v.toNat x else if d ∈ (["lay"] : List Str) then mem.set ((v + x) % 16).toNat a else mem
theorem memory_W {st : Sto} {d : Str} {v : PV} {a x : Int} {mem : List Int} (ok : ValOk d v) (hm : mem.length = 16) : W (Prog.steps_memory_behind [.str d, v, .int a, .int x, memP mem] st) (fun r st' => r = memP (memI d (iv v) a x mem) ∧ st' = st) := by
  refine fn_W rfl ?_
  unfold Prog.b_steps_memory_behind
  walk_at "p0"
  walk_at "pw"
  unfold memI
  refine w_mem (fun h => ?_) (fun h => ?_)
  · obtain ⟨n, rfl, hn⟩ := ok.mem (by rw [List.mem_singleton.mp h]; decide +kernel)
    simp only [if_pos h]
    walk_at "pw"
    refine W.mono (with_W hm hn) ?_
    rintro r st' ⟨rfl, e⟩
    subst e
    exact end_same (noRefL_ints _) ⟨rfl, rfl⟩
  simp only [if_neg h]
  walk_at "pw"
  refine w_mem (fun h => ?_) (fun h => ?_)
  · obtain ⟨n, rfl, hn⟩ := ok.mem (by rw [List.mem_singleton.mp h]; decide +kernel)
    simp only [if_pos h]
    walk_at "pw"
    refine W.mono (with_W hm hn) ?_
    rintro r st' ⟨rfl, e⟩
    subst e
    exact end_same (noRefL_ints _) ⟨rfl, rfl⟩
  simp only [if_neg h]
  walk_at "pw"
  refine w_mem (fun h => ?_) (fun h => ?_)
  · obtain ⟨n, rfl, hn⟩ := ok.mem (by rw [List.mem_singleton.mp h]; decide +kernel)
    simp only [if_pos h]
    walk_at "pw"
    have hq := mod_bound (n + x) (m := 16) (by decide)
    refine W.mono (with_W hm hq) ?_
    rintro r st' ⟨rfl, e⟩
    subst e
    exact end_same (noRefL_ints _) ⟨rfl, rfl⟩
  simp only [if_neg h]
  walk_at "pw"
  exact end_same (noRefL_ints _) ⟨rfl, rfl⟩
end Pu

set_option maxHeartbeats 2000000
namespace Pu
open PySem PySem.Spec L2 My

abbrev regs (row a x z c : Int) (mem : List Int) : List PV := [.int row, .int a, .int x, .int z, .int c, memP mem]
abbrev stP (row a x z c : Int) (mem : List Int) (rest : List PV) : PV := .tup (regs row a x z c mem ++ rest)
theorem row_at {rows : List Rw} {row : Int} {r : Rw} (h0 : 0 ≤ row) (h : rows[row.toNat]? = some r) : atI (rows.map rowP) row = some (rowP r) := by
  obtain ⟨n, rfl⟩ : ∃ n : Nat, row = n := ⟨row.toNat, by omega⟩
  have hn : n < rows.length := (List.getElem?_eq_some_iff.mp h).1
  rw [atI_nat (by simpa using hn)]
  rw [List.getElem_map]
  exact congrArg (fun r => some (rowP r)) (List.getElem?_eq_some_iff.mp h).2
end Pu

set_option maxHeartbeats 2000000
namespace Pu
open PySem PySem.Spec L2 My

end Pu

set_option maxHeartbeats 2000000
namespace Pu
open PySem PySem.Spec L2 My

end Pu

namespace Pu
open PySem PySem.Spec L2 My
section
variable {ρ : Pu.Env} {st : Sto} {m : MA} {a b c : ME} {P : PV → Sto → Prop} {ks : List Key}
theorem w_dic (h : W (m ρ st) fun ps st1 => (ks.Nodup ∧ ks.length = ps.length ∧ ks.length ≤ 15) ∧ P (.ref st1.length) (st1 ++ [.dic ks ps])) : W (eDic ks m ρ st) P := by
  unfold eDic
  rw [W_bind]
  refine h.mono fun ps st1 h1 => ?_
  rw [if_pos h1.1]
  exact W.ok h1.2
theorem w_dget (h : W (a ρ st) fun p st1 => W (b ρ st1) fun q st2 => W (dlook p q st2) fun o st3 => ∃ v, o = some v ∧ P v st3) : W (eDGet a b ρ st) P := by
  unfold eDGet
  rw [W_bind]
  refine h.mono fun p st1 h1 => ?_
  rw [W_bind]
  refine h1.mono fun q st2 h2 => ?_
  rw [W_bind]
  refine h2.mono fun o st3 h3 => ?_
  obtain ⟨v, rfl, h4⟩ := h3
  exact W.ok h4
theorem w_dlook {i : Nat} {xs : List PV} {q : PV} {k : Key} {P : Option PV → Sto → Prop} (e : st[i]? = some (.dic ks xs)) (hk : keyP q = some k) (h : P (lookK k ks xs) st) : W (dlook (.ref i) q st) P := by
  unfold dlook
  dsimp only
  rw [e]
  dsimp only
  rw [hk]
  exact W.ok h
theorem w_dlookN {xs : List PV} {q : PV} {k : Key} {P : Option PV → Sto → Prop} (hk : keyP q = some k) (h : P (lookK k ks xs) (st ++ [.dic ks xs])) : W (dlook (.ref st.length) q (st ++ [.dic ks xs])) P :=
  w_dlook (by rw [List.getElem?_append_right (Nat.le_refl _)]; simp) hk h
end
end Pu

set_option maxHeartbeats 2000000
namespace LawP
open PySem PySem.Spec L2 My Pu

theorem sixths : ∀ i : Nat, i < 6 → 0 ≤ ([0, 1, 127, 128, 254, 255] : List Int).getD i 0 ∧ ([0, 1, 127, 128, 254, 255] : List Int).getD i 0 < 256 := by decide
theorem byte_W {st : Sto} {l : Nat} (h : Deck st l) : W (p_law_byte [.ref l] st) (Drawn st l fun v => ∃ n, v = .int n ∧ 0 ≤ n ∧ n < 256) := by
  refine fn_W rfl ?_
  unfold b_p_law_byte
  walk_at "p0"
  walk_at "pw"
  refine W.mono (next_W h) ?_
  rintro v st' ⟨n, o, rfl, hn, ho, e⟩
  subst e
  walk_at "pw"
  refine w_dec (fun hc => ?_) (fun hc => ?_)
  · walk_at "pw"
    have hi : 0 ≤ n / 3 % 6 ∧ n / 3 % 6 < 6 := mod_bound _ (by decide)
    refine w_ixL (getL_last _ _) (atI_int (ds := [0, 1, 127, 128, 254, 255]) hi) ?_
    have z := sixths (n / 3 % 6).toNat (by omega)
    exact end_set ho.flat rfl ⟨⟨_, rfl, z⟩, o, ho, rfl⟩
  · walk_at "pw"
    exact end_set0 ho.flat rfl ⟨⟨_, rfl, mod_bound _ (by decide)⟩, o, ho, rfl⟩
theorem noRefL_rows : ∀ rows : List Rw, (∀ r ∈ rows, noRef r.2.2 = true) → noRefL (rows.map rowP) = true
  | [], _ => rfl
  | r :: rows, h => by
    show ((true && (true && (noRef r.2.2 && true))) && noRefL (rows.map rowP)) = true
    rw [h r List.mem_cons_self, noRefL_rows rows fun q hq => h q (List.mem_cons_of_mem _ hq)]
    rfl

def Bytes (ds : List Int) : Prop := ∀ d ∈ ds, 0 ≤ d ∧ d < 256
theorem memory_W {st : Sto} {l : Nat} (h : Deck st l) : W (p_law_memory [.ref l] st) (DrawnL st l fun xs => ∃ mem : List Int, xs = mem.map PV.int ∧ mem.length = 16 ∧ Bytes mem) := by
  have hl := h.lt
  refine fn_W rfl ?_
  unfold b_p_law_memory
  walk_at "p0"
  walk_at "pw"
  refine W.mono (byte_W h) ?_
  rintro v s1 ⟨⟨f, rfl, hf⟩, o1, ho1, e⟩
  have a1 : Av st l s1 := by rw [e]; exact (Av.start h).draw hl ho1
  clear e
  walk_at "pw"
  refine W.mono (next_W (a1.deck hl)) ?_
  rintro v s2 ⟨m, o2, rfl, hm, ho2, e⟩
  have a2 : Av st l s2 := by rw [e]; exact a1.draw hl ho2
  clear e
  walk_at "pw"
  refine w_one ⟨by omega, by omega⟩ ?_
  walk_at "ps"
  refine lc_items (fun i acc sx => sx = s2 ∧ ∃ ds : List Int, acc = ds.map PV.int ∧ ds.length = i ∧ Bytes ds) ⟨rfl, [], rfl, rfl, fun r hr => by cases hr⟩ (fun i p acc sx hp h => ?_) (fun acc sx h => ?_)
  · obtain ⟨rfl, ds, rfl, q2, q3⟩ := h
    obtain ⟨hi, rfl⟩ := range_at hp
    walk_at "pw"
    have q := mod_bound (f + (0 + (i : Int)) * m) (m := 256) (by decide)
    generalize (f + (0 + (i : Int)) * m) % 256 = z at q
    refine ⟨by rw [List.length_map]; omega, rfl, ds ++ [z], by simp, by simp [q2], fun d hd => ?_⟩
    rcases List.mem_append.mp hd with hd | hd
    · exact q3 d hd
    · rw [List.mem_singleton.mp hd]
      exact q
  · obtain ⟨rfl, ds, rfl, q2, q3⟩ := h
    rw [range_len] at q2
    have q2 : ds.length = 16 := q2
    have a3 : Av st l (sx ++ [.lst (ds.map PV.int)]) := a2.new
    have g3 := getM_last sx (ds.map PV.int)
    have lA := a2.le
    generalize sx.length = A at *
    generalize sx ++ [PO.lst (ds.map PV.int)] = s3 at *
    walk_at "pw"
    walk_at "ps"
    refine W.mono (byte_W (a3.deck hl)) ?_
    rintro v s4 ⟨⟨b, rfl, hb⟩, o4, ho4, e⟩
    have a4 : Av st l s4 := by rw [e]; exact a3.draw hl ho4
    have g4 : getM s4 A = some (ds.map PV.int) := by rw [e]; exact getM_draw (by omega) g3
    clear e
    walk_at "pw"
    refine W.mono (next_W (a4.deck hl)) ?_
    rintro v s5 ⟨n, o5, rfl, hn, ho5, e⟩
    have a5 : Av st l s5 := by rw [e]; exact a4.draw hl ho5
    have g5 : getM s5 A = some (ds.map PV.int) := by rw [e]; exact getM_draw (by omega) g4
    clear e
    walk_at "pw"
    have q := mod_bound n (m := 16) (by decide)
    refine w_setL g5 (ixN_int ⟨q.1, by rw [List.length_map, q2]; exact q.2⟩) ?_
    rw [← List.map_set]
    walk_at "pw"
    refine (a5.put lA).finL lA (getM_set g5) (noRefL_ints _) ⟨_, rfl, by rw [List.length_set]; exact q2, fun d hd => ?_⟩
    rcases List.mem_or_eq_of_mem_set hd with hd | hd
    · exact q3 d hd
    · rw [hd]
      exact hb
structure StOk (s : PV) (row a x z c : Int) (mem : List Int) (rest : List PV) : Prop where
  eq : s = stP row a x z c mem rest
  a : 0 ≤ a ∧ a < 256
  x : 0 ≤ x ∧ x < 256
  len : mem.length = 16
  mem : Bytes mem
  six : rest.length = 6
  flat : noRefL rest = true
theorem noRefL_app : ∀ xs ys : List PV, noRefL (xs ++ ys) = (noRefL xs && noRefL ys)
  | [], ys => rfl
  | x :: xs, ys => by
    show (noRef x && noRefL (xs ++ ys)) = ((noRef x && noRefL xs) && noRefL ys)
    rw [noRefL_app xs ys, Bool.and_assoc]
theorem StOk.noRef {s : PV} {row a x z c : Int} {mem : List Int} {rest : List PV} (h : StOk s row a x z c mem rest) : noRef s = true := by
  rw [h.eq]
  show noRefL (regs row a x z c mem ++ rest) = true
  rw [noRefL_app, h.flat]
  show ((true && (true && (true && (true && (true && (noRefL _ && true)))))) && true) = true
  rw [noRefL_ints]
  rfl
end LawP

set_option maxHeartbeats 2000000
namespace LawP
open PySem PySem.Spec L2 My Pu

theorem deeds_W {st : Sto} : W (LawP.p_law_deeds [] st) (fun v st' => v = .ref st.length ∧ st' = st ++ [.lst (names.map PV.str)]) := by
  refine fn_W rfl ?_
  unfold b_p_law_deeds
  walk_at "p0"
  walk_at "pq"
  walk_at "ps"
  refine w_nx ?_
  walk_at "pq"
  refine w_addL (getM_app (getM_last _ _)) (getM_last _ _) (by simp only [List.length_cons, List.length_nil]; omega) ?_
  walk_at "pq"
  walk_at "ps"
  refine w_nx ?_
  walk_at "pq"
  refine w_addL (getM_app (getM_last _ _)) (getM_last _ _) (by simp only [List.cons_append, List.nil_append, List.length_cons, List.length_nil]; omega) ?_
  refine end_newP (.new (.new (.new .app))) ?_ ⟨rfl, rfl⟩
  rfl
theorem most_W {st : Sto} {a : Int} (h : (0 ≤ a ∧ a < 13) ∨ a = 28 ∨ a = 29 ∨ a = 30) : W (LawP.p_law_most [.int a] st) (fun v st' => ∃ n, v = .int n ∧ st' = st ∧ (a < 3 → n = 255) ∧ (3 ≤ a → a < 13 → n = 15) ∧ (a = 28 → n = 19) ∧ (a = 29 → n = 5) ∧ (a = 30 → n = 255) ∧ 0 ≤ n ∧ n ≤ 255) := by
  refine fn_W rfl ?_
  unfold b_p_law_most
  walk_at "p0"
  walk_at "pw"
  refine w_dec (fun h3 => ?_) (fun h3 => ?_)
  · walk_at "pw"
    exact end_same rfl ⟨_, rfl, rfl, by omega, by omega, by omega, by omega, by omega, by omega, by omega⟩
  walk_at "pw"
  refine w_dec (fun h30 => ?_) (fun h30 => ?_)
  · walk_at "pw"
    exact end_same rfl ⟨_, rfl, rfl, by omega, by omega, by omega, by omega, by omega, by omega, by omega⟩
  walk_at "pw"
  refine w_dec (fun h13 => ?_) (fun h13 => ?_)
  · walk_at "pw"
    exact end_same rfl ⟨_, rfl, rfl, by omega, by omega, by omega, by omega, by omega, by omega, by omega⟩
  walk_at "pw"
  have ha : a = 28 ∨ a = 29 := by omega
  rcases ha with rfl | rfl
  · refine w_ixL (v := .int 19) (getL_last _ _) rfl ?_
    exact end_app rfl ⟨_, rfl, rfl, by omega, by omega, by omega, by omega, by omega, by omega, by omega⟩
  · refine w_ixL (v := .int 5) (getL_last _ _) rfl ?_
    exact end_app rfl ⟨_, rfl, rfl, by omega, by omega, by omega, by omega, by omega, by omega, by omega⟩
theorem w_ixS {st : Sto} {P : PV → Sto → Prop} {z : Str} {x : Int} {c : Nat} (hl : z.length ≤ 100000) (e : atI z.cps.toList x = some c) (h : P (.str ⟨#[c]⟩) st) : W (ixP (.str z) (.int x) st) P := by
  unfold ixP
  dsimp only
  rw [if_pos hl, e]
  exact W.ok h
theorem w_mulS {st : Sto} {P : PV → Sto → Prop} {z : Str} {n : Int} (hl : z.length = 1) (hn : 1 ≤ n ∧ n ≤ 1000) (h : P (.str (repS z n)) st) : W (mulP (.str z) (.int n) st) P := by
  unfold mulP
  dsimp only
  rw [if_pos ⟨hl, hn⟩]
  exact W.ok h
def nameS (k : Nat) : Str := repS ⟨#[97 + k % 26]⟩ ((1 + k / 26 % 8 : Nat) : Int)
theorem fold_rep (c : Nat) : ∀ (n : Nat) (a : Array Nat), ((List.replicate n #[c]).foldl (· ++ ·) a).toList = a.toList ++ List.replicate n c
  | 0, a => by simp
  | n + 1, a => by
    rw [List.replicate_succ, List.foldl_cons, fold_rep c n, Array.toList_append, List.replicate_succ]
    simp
theorem nameS_list (k : Nat) : (nameS k).cps.toList = List.replicate (1 + k / 26 % 8) (97 + k % 26) := by
  unfold nameS repS
  show ((List.replicate _ #[97 + k % 26]).foldl (· ++ ·) #[]).toList = _
  rw [fold_rep, Int.toNat_natCast]
  rfl
theorem nameS_inj {i j : Nat} (hi : i < 208) (hj : j < 208) (h : nameS i = nameS j) : i = j := by
  have e : (nameS i).cps.toList = (nameS j).cps.toList := by rw [h]
  rw [nameS_list, nameS_list] at e
  have l := congrArg List.length e
  rw [List.length_replicate, List.length_replicate] at l
  have m : 97 + i % 26 ∈ List.replicate (1 + j / 26 % 8) (97 + j % 26) := by
    rw [← e]
    exact List.mem_replicate.mpr ⟨by omega, rfl⟩
  have c := (List.mem_replicate.mp m).2
  omega
theorem nameS_ne (k : Nat) : nameS k ≠ ("" : Str) := fun h => by
  have e : (nameS k).cps.toList = ("" : Str).cps.toList := by rw [h]
  rw [nameS_list, show ("" : Str).cps.toList = [] from by decide +kernel] at e
  have l := congrArg List.length e
  rw [List.length_replicate] at l
  simp at l
theorem alpha : ("abcdefghijklmnopqrstuvwxyz" : Str).cps.toList = (List.range 26).map (97 + ·) := by decide +kernel
theorem name_W {st : Sto} {k : Nat} {K : Int} (hk : K = k) : W (LawP.p_law_name [.int K] st) (fun v st' => v = .str (nameS k) ∧ st' = st) := by
  subst hk
  refine fn_W rfl ?_
  unfold b_p_law_name
  walk_at "p0"
  walk_at "pw"
  have hi : atI ("abcdefghijklmnopqrstuvwxyz" : Str).cps.toList ((k : Int) % 26) = some (97 + k % 26) := by
    rw [alpha]
    have e : ((k : Int) % 26) = ((k % 26 : Nat) : Int) := by omega
    rw [e]
    refine L2.atI_nat ?_
    rw [List.getElem?_map, List.getElem?_range (by omega)]
    rfl
  refine w_ixS (by decide +kernel) hi ?_
  walk_at "pw"
  refine w_mulS rfl ⟨by omega, by omega⟩ ?_
  have e : (1 + (k : Int) / 26 % 8) = ((1 + k / 26 % 8 : Nat) : Int) := by omega
  rw [e]
  exact end_same rfl ⟨rfl, rfl⟩
structure ValAt (marks tabs : List Str) (a : Int) (v : PV) : Prop where
  byte : a < 3 → ∃ n, v = .int n ∧ 0 ≤ n ∧ n < 256
  mem : 3 ≤ a → a < 13 → ∃ n, v = .int n ∧ 0 ≤ n ∧ n < 16
  non : 13 ≤ a → a < 22 → v = .non
  mark : 22 ≤ a → a < 27 → ∃ m ∈ marks, v = .str m
  tab : a = 27 → ∃ m ∈ tabs, v = .str m
  door : a = 28 → ∃ n, v = .int n ∧ 0 ≤ n ∧ n < 20
  eye : a = 29 → ∃ n, v = .int n ∧ 0 ≤ n ∧ n < 6
  flat : noRef v = true
theorem atI_strs {Xs : List Str} {k : Int} (h : 0 ≤ k ∧ k < Xs.length) : ∃ d, d ∈ Xs ∧ atI (Xs.map PV.str) k = some (.str d) := by
  obtain ⟨n, rfl⟩ : ∃ n : Nat, k = n := ⟨k.toNat, by omega⟩
  have hn : n < Xs.length := by omega
  refine ⟨Xs[n], List.getElem_mem hn, ?_⟩
  rw [Pu.atI_nat (by simpa using hn)]
  simp
theorem value_W {st : Sto} {l jm jt : Nat} {a : Int} {marks tabs : List Str} (h : Deck st l) (ha : 0 ≤ a ∧ a < 30) (nm : jm ≠ l) (nt : jt ≠ l) (gm : getL st jm = some (marks.map PV.str)) (gt : getL st jt = some (tabs.map PV.str)) (hm : 22 ≤ a → a < 27 → marks ≠ []) (ht : a = 27 → tabs ≠ []) :
    W (LawP.p_law_value [.ref l, .int a, .ref jm, .ref jt] st) (Drawn st l (ValAt marks tabs a)) := by
  refine fn_W rfl ?_
  unfold b_p_law_value
  walk_at "p0"
  walk_at "pw"
  refine W.mono (next_W h) ?_
  rintro v s1 ⟨n, o1, rfl, hn, ho1, e⟩
  subst e
  walk_at "pw"
  have fin : ∀ {v : PV} {g : Sto}, noRef v = true → ValAt marks tabs a v → W (out (.rt v) (st.set l o1 ++ g)) (fun v st2 => W (gc st (.ok v st2)) (Drawn st l (ValAt marks tabs a))) := fun n q => end_set ho1.flat n ⟨q, o1, ho1, rfl⟩
  have fin0 : ∀ {v : PV}, noRef v = true → ValAt marks tabs a v → W (out (.rt v) (st.set l o1)) (fun v st2 => W (gc st (.ok v st2)) (Drawn st l (ValAt marks tabs a))) := fun n q => end_set0 ho1.flat n ⟨q, o1, ho1, rfl⟩
  have other : 22 ≤ a ∨ a < 13 → W (sSeq (sIf (tOf (e2 eqP (eVar 1) (eC (.int 27)))) (sRet (e2 ixP (eVar 3) (e2 modP (eVar 4) (eB lenP (aCons (eVar 3) aNil))))) sNext) (sSeq (sIf (tOf (eChain leP ltP (eC (.int 22)) (eVar 1) (eC (.int 27)))) (sRet (e2 ixP (eVar 2) (e2 modP (eVar 4) (eB lenP (aCons (eVar 2) aNil))))) sNext) (sRet (e2 modP (eVar 4) (e2 addP (eCall 1 LawP.p_law_most (aCons (eVar 1) aNil)) (eC (.int 1)))))) [some (.ref l), some (.int a), some (.ref jm), some (.ref jt), some (.int n)] (st.set l o1))
      (fun so st' => W (out so st') (fun v st2 => W (gc st (.ok v st2)) (Drawn st l (ValAt marks tabs a)))) := fun ho => by
    walk_at "pw"
    refine w_dec (fun h27 => ?_) (fun h27 => ?_)
    · walk_at "pw"
      have g2 : getL (st.set l o1) jt = some (tabs.map PV.str) := by rw [getL_ne nt]; exact gt
      refine w_lenL g2 ?_
      have hl : 0 < tabs.length := List.length_pos_iff.mpr (ht h27)
      rw [List.length_map]
      refine w_mod (by omega) ?_
      obtain ⟨d, hd, ed⟩ := atI_strs (Xs := tabs) (mod_bound n (m := (tabs.length : Int)) (by omega))
      refine w_ixL g2 ed ?_
      exact fin0 rfl ⟨by omega, by omega, by omega, by omega, fun _ => ⟨d, hd, rfl⟩, by omega, by omega, rfl⟩
    walk_at "pw"
    have rest : a < 13 ∨ 28 ≤ a → W (sRet (e2 modP (eVar 4) (e2 addP (eCall 1 LawP.p_law_most (aCons (eVar 1) aNil)) (eC (.int 1)))) [some (.ref l), some (.int a), some (.ref jm), some (.ref jt), some (.int n)] (st.set l o1))
      (fun so st' => W (out so st') (fun v st2 => W (gc st (.ok v st2)) (Drawn st l (ValAt marks tabs a)))) := fun hr => by
      walk_at "pw"
      refine W.mono (most_W (a := a) (by omega)) ?_
      rintro v s2 ⟨m, rfl, e, q1, q2, q3, q4, q5, q6, q7⟩
      subst e
      walk_at "pw"
      refine w_mod (by omega) ?_
      have z := mod_bound n (m := m + 1) (by omega)
      exact fin0 rfl ⟨fun c => ⟨_, rfl, by have := q1 c; omega, by have := q1 c; omega⟩, fun c d => ⟨_, rfl, by omega, by have := q2 c d; omega⟩, by omega, by omega, by omega, fun c => ⟨_, rfl, by omega, by have := q3 c; omega⟩, fun c => ⟨_, rfl, by omega, by have := q4 c; omega⟩, rfl⟩
    refine w_dec (fun h22 => ?_) (fun h22 => ?_)
    · walk_at "pw"
      refine w_dec (fun h27' => ?_) (fun h27' => ?_)
      · walk_at "pw"
        have g2 : getL (st.set l o1) jm = some (marks.map PV.str) := by rw [getL_ne nm]; exact gm
        refine w_lenL g2 ?_
        have hl : 0 < marks.length := List.length_pos_iff.mpr (hm h22 h27')
        rw [List.length_map]
        refine w_mod (by omega) ?_
        obtain ⟨d, hd, ed⟩ := atI_strs (Xs := marks) (mod_bound n (m := (marks.length : Int)) (by omega))
        refine w_ixL g2 ed ?_
        exact fin0 rfl ⟨by omega, by omega, by omega, fun _ _ => ⟨d, hd, rfl⟩, by omega, by omega, by omega, rfl⟩
      · refine w_next (w_nx ?_)
        exact rest (by omega)
    · walk_at "pq"
      refine w_nx ?_
      exact rest (by omega)
  refine w_dec (fun h13 => ?_) (fun h13 => ?_)
  · walk_at "pw"
    refine w_dec (fun h22 => ?_) (fun h22 => ?_)
    · walk_at "pw"
      exact fin0 rfl ⟨by omega, by omega, fun _ _ => rfl, by omega, by omega, by omega, by omega, rfl⟩
    · refine w_next (w_nx ?_)
      exact other (by omega)
  · walk_at "pq"
    refine w_nx ?_
    exact other (by omega)
end LawP

set_option maxHeartbeats 2000000
namespace LawP
open PySem PySem.Spec L2 My Pu

def Picks (ks : List Nat) (n : Nat) : Prop := ks.length ≤ n ∧ (∀ k ∈ ks, k < n) ∧ (0 < n → 0 ∈ ks)
theorem Picks.more {ks : List Nat} {n : Nat} (h : Picks ks n) (h0 : 0 < n) : Picks ks (n + 1) := ⟨by have := h.1; omega, fun k m => Nat.lt_succ_of_lt (h.2.1 k m), fun _ => h.2.2 h0⟩
theorem Picks.put {ks : List Nat} {n : Nat} (h : Picks ks n) : Picks (ks ++ [n]) (n + 1) := by
  refine ⟨by have := h.1; simp; omega, fun k m => ?_, fun _ => ?_⟩
  · rcases List.mem_append.mp m with m | m
    · exact Nat.lt_succ_of_lt (h.2.1 k m)
    · rw [List.mem_singleton.mp m]; omega
  · by_cases c : n = 0
    · subst c; simp
    · exact List.mem_append_left _ (h.2.2 (by omega))
theorem picks_W {st sx : Sto} {l : Nat} {ρ : Pu.Env} {n : Nat} {P : PV → Sto → Prop} {e : ME} (f : Nat → PV) (hl : l < st.length) (hn : n ≤ 1000) (av : Av st l sx) (hρ : ∀ p, ((wipeP ρ [4]).set 4 p)[4]? = some p) (h0 : ∀ p, ((wipeP ρ [4]).set 4 p)[0]? = some (some (.ref l)))
    (he : ∀ (k : Nat) s, W (e ((wipeP ρ [4]).set 4 (some (.int k))) s) fun v s' => v = f k ∧ s' = s)
    (h : ∀ ks s', Av st l s' → Picks ks n → P (.ref s'.length) (s' ++ [.lst (ks.map f)])) :
    W (lcGo (.items (rangeP 0 n)) (gN 4) (tOrP (tOf (e2 eqP (eVar 4) (eC (.int 0)))) (tOf (e2 eqP (e2 modP (eCall 1 LawP.p_law_next (aCons (eVar 0) aNil)) (eC (.int 3))) (eC (.int 0))))) e [4] (fuelP (.items (rangeP 0 n)) sx) 0 ρ [] sx) P := by
  refine lc_items (fun i acc s => Av st l s ∧ ∃ ks : List Nat, acc = ks.map f ∧ Picks ks i) ⟨av, [], rfl, by decide, nofun, by omega⟩ (fun i p acc s hp h => ?_) (fun acc s h1 => ?_)
  · obtain ⟨a1, ks, rfl, hk⟩ := h
    obtain ⟨hi, rfl⟩ := range_at hp
    rw [Int.zero_add]
    refine w_gN ?_
    have e4 := hρ (some (.int i))
    have e0 := h0 (some (.int i))
    have ee := he i
    generalize (wipeP ρ [4]).set 4 (some (.int i)) = ρ1 at e4 e0 ee ⊢
    have put : ∀ s', Av st l s' → W (e ρ1 s') fun y st3 => (ks.map f).length < 100000 ∧ Av st l st3 ∧ ∃ ks' : List Nat, ks.map f ++ [y] = ks'.map f ∧ Picks ks' (i + 1) := fun s' a' => by
      refine W.mono (ee s') ?_
      rintro v s2 ⟨rfl, e⟩
      subst e
      exact ⟨by rw [List.length_map]; have := hk.1; omega, a', ks ++ [i], by simp, hk.put⟩
    refine w_tor (w_tOf (w_e2 (w_var e4 (w_c (w_eqI (w_bl (w_dec (fun c => ?_) (fun c => ?_))))))))
    · refine w_iteT ?_
      exact put s a1
    · refine w_tOf (w_e2 (w_e2 (w_call (w_cons (w_var e0 (w_nil (w_np rfl ?_)))))))
      refine W.mono (next_W (a1.deck hl)) ?_
      rintro v s2 ⟨m, o, rfl, hm, ho, e⟩
      have a2 : Av st l s2 := by rw [e]; exact a1.draw hl ho
      clear e
      refine w_c (w_mod (by decide) (w_c (w_eqI (w_bl (w_dec (fun c3 => ?_) (fun c3 => ?_))))))
      · exact put s2 a2
      · exact ⟨a2, ks, rfl, hk.more (by omega)⟩
  · obtain ⟨a1, ks, rfl, hk⟩ := h1
    rw [range_len] at hk
    exact h ks s a1 hk
theorem names_of_W {s : Sto} {j : Nat} {ρ : Pu.Env} {ks : List Nat} {f : Nat → Int} {P : PV → Sto → Prop} (hl : ks.length ≤ 1000) (g : Nat → Nat) (hf : ∀ k, f k = (g k : Int)) (gj : getL s j = some (ks.map fun k => PV.int (f k))) (hρ : ∀ p, ((wipeP ρ [4]).set 4 p)[4]? = some p)
    (h : P (.ref s.length) (s ++ [.lst ((ks.map fun k => nameS (g k)).map PV.str)])) :
    W (lcGo (.ofL j) (gN 4) tYesP (eCall 1 LawP.p_law_name (aCons (eVar 4) aNil)) [4] (fuelP (.ofL j) s) 0 ρ [] s) P := by
  refine lc_list (xs := ks.map fun k => PV.int (f k)) (fun i acc s' => s' = s ∧ acc = ((ks.take i).map fun k => nameS (g k)).map PV.str) ⟨rfl, by simp⟩ (fun i acc s' q => by rw [q.1]; exact gj) (fun i p acc s' hp q => ?_) (fun acc s' q => ?_)
  · obtain ⟨rfl, rfl⟩ := q
    rw [List.getElem?_map] at hp
    obtain ⟨k, hc, rfl⟩ := Option.map_eq_some_iff.mp hp
    have hi : i < ks.length := (List.getElem?_eq_some_iff.mp hc).1
    refine w_gN (w_yes (w_iteT (w_call (w_cons (w_var (hρ _) (w_nil (w_np rfl ?_)))))))
    refine W.mono (name_W (hf k)) ?_
    rintro v s2 ⟨rfl, e⟩
    refine ⟨by simp; omega, e, ?_⟩
    rw [List.take_succ, hc]
    simp
  · obtain ⟨rfl, rfl⟩ := q
    rw [List.length_map, List.take_length]
    exact h
structure ValF (rows : List Rw) (many : Nat) (a : Nat) (v : PV) : Prop where
  byte : a < 3 → ∃ n, v = .int n ∧ 0 ≤ n ∧ n < 256
  mem : 3 ≤ a → a < 13 → ∃ n, v = .int n ∧ 0 ≤ n ∧ n < 16
  non : 13 ≤ a → a < 22 → v = .non
  mark : 22 ≤ a → a < 27 → ∃ k r, k < many ∧ rows[k]? = some r ∧ r.1 = nameS k ∧ v = .str (nameS k)
  tab : a = 27 → ∃ k r, many ≤ k ∧ rows[k]? = some r ∧ r.1 = nameS k ∧ v = .str (nameS k)
  door : a = 28 → ∃ n, v = .int n ∧ 0 ≤ n ∧ n < 20
  eye : a = 29 → ∃ n, v = .int n ∧ 0 ≤ n ∧ n < 6
  flat : noRef v = true
structure FreeOk (rows : List Rw) (many some' : Nat) : Prop where
  len : rows.length = many + some'
  pos : 0 < many
  small : many + some' ≤ 208
  mark : ∀ (j : Nat) r, rows[j]? = some r → r.1 = ("" : Str) ∨ r.1 = nameS j
  ups : ∀ (j : Nat) r, j < many → rows[j]? = some r → ∃ a : Nat, a < 30 ∧ r.2.1 = names.getD a "" ∧ ValF rows many a r.2.2 ∧ (j + 1 = many → a = 22)
  tabs : ∀ (j : Nat) r, many ≤ j → rows[j]? = some r → r.2.1 = "data" ∧ ∃ b, r.2.2 = .int b ∧ 0 ≤ b ∧ b < 256
end LawP

set_option maxHeartbeats 2000000
namespace LawP
open PySem PySem.Spec L2 My Pu

theorem any_int (x : Int) : ∀ ns : List Int, ((ns.map PV.int).any fun y => eqvP y (.int x)) = decide (x ∈ ns)
  | [] => rfl
  | n :: ns => by
    have e : eqvP (.int n) (.int x) = (n == x) := by simp [eqvP, toD, PyData.eqv]
    rw [List.map_cons, List.any_cons, e, any_int x ns]
    by_cases c : n = x
    · simp [c]
    · have : ¬ x = n := fun z => c z.symm
      simp [c, this]
theorem flat_int (ns : List Int) : (ns.map PV.int).all flatP = true := by
  rw [List.all_map, List.all_eq_true]
  exact fun _ _ => rfl
theorem w_inL {st : Sto} {P : PV → Sto → Prop} {x : Int} {j : Nat} {ns : List Int} (g : getL st j = some (ns.map PV.int)) (h : P (.bl (decide (x ∈ ns))) st) : W (inQ false (.int x) (.ref j) st) P := by
  unfold inQ
  dsimp only
  rw [g]
  dsimp only
  rw [if_pos ⟨rfl, flat_int ns⟩, any_int]
  exact W.ok h
theorem two_at {b : Bool} (x y : PV) : atI [x, y] (if b = true then 1 else 0) = some (if b = true then y else x) := by cases b <;> rfl
structure Four (s : Sto) (A B C D : Nat) (xa xb xc xd : List PV) : Prop where
  a : getM s A = some xa
  b : getM s B = some xb
  c : getM s C = some xc
  d : getM s D = some xd
theorem Four.app {s g : Sto} {A B C D : Nat} {xa xb xc xd : List PV} (h : Four s A B C D xa xb xc xd) : Four (s ++ g) A B C D xa xb xc xd := ⟨getM_app h.a, getM_app h.b, getM_app h.c, getM_app h.d⟩
theorem Four.set {s : Sto} {A B C D k : Nat} {o : PO} {xa xb xc xd : List PV} (h : Four s A B C D xa xb xc xd) (na : A ≠ k) (nb : B ≠ k) (nc : C ≠ k) (nd : D ≠ k) : Four (s.set k o) A B C D xa xb xc xd :=
  ⟨by rw [getM_ne na]; exact h.a, by rw [getM_ne nb]; exact h.b, by rw [getM_ne nc]; exact h.c, by rw [getM_ne nd]; exact h.d⟩
theorem deed_at {a : Int} (h : 0 ≤ a ∧ a < 30) : atI (names.map PV.str) a = some (.str (names.getD a.toNat "")) := by
  obtain ⟨n, rfl⟩ : ∃ n : Nat, a = n := ⟨a.toNat, by omega⟩
  have hn : n < names.length := by show n < 31; omega
  rw [Pu.atI_nat (by simpa using hn)]
  simp [List.getD, hn]
def R1 (ks : List Nat) (marks tabs : List Str) (many : Nat) (j : Nat) (r : Rw) : Prop :=
  r.1 = (if j ∈ ks then nameS j else "") ∧ ∃ a : Int, (0 ≤ a ∧ a < 30) ∧ r.2.1 = names.getD a.toNat "" ∧ ValAt marks tabs a r.2.2 ∧ (j + 1 = many → a = 22)
def R2 (ks : List Nat) (many : Nat) (j : Nat) (r : Rw) : Prop :=
  r.1 = (if j - many ∈ ks then nameS j else "") ∧ r.2.1 = "data" ∧ ∃ b, r.2.2 = .int b ∧ 0 ≤ b ∧ b < 256
theorem if_str (c : Prop) [Decidable c] (x y : Str) : (if decide c = true then PV.str x else PV.str y) = .str (if c then x else y) := by
  by_cases h : c
  · rw [if_pos (decide_eq_true h), if_pos h]
  · rw [if_neg (by rw [decide_eq_true_iff]; exact h), if_neg h]
theorem at_snoc {rows : List Rw} {r q : Rw} {j : Nat} (h : (rows ++ [q])[j]? = some r) : rows[j]? = some r ∨ (j = rows.length ∧ r = q) := by
  by_cases c : j < rows.length
  · rw [List.getElem?_append_left c] at h
    exact .inl h
  · rw [List.getElem?_append_right (by omega)] at h
    have := (List.getElem?_eq_some_iff.mp h).1
    simp at this
    have e : j - rows.length = 0 := by omega
    rw [e] at h
    simp at h
    exact .inr ⟨by omega, h.symm⟩
theorem noRefL_rowsP {rows : List Rw} (h : ∀ r ∈ rows, noRef r.2.2 = true) : noRef (progP rows) = true := noRefL_rows rows h
def cI (k : Nat) : PV := .int (k : Int)
def cJ (many k : Nat) : PV := .int ((many : Int) + (k : Int))
theorem cI_map (ks : List Nat) : ks.map cI = (ks.map fun k : Nat => (k : Int)).map PV.int := by rw [List.map_map]; rfl
theorem cJ_map (many : Nat) (ks : List Nat) : ks.map (cJ many) = (ks.map fun k : Nat => (many : Int) + (k : Int)).map PV.int := by rw [List.map_map]; rfl
theorem mem_cast {k : Nat} {ks : List Nat} : ((k : Int) ∈ ks.map fun k : Nat => (k : Int)) ↔ (k ∈ ks) := by
  rw [List.mem_map]
  constructor
  · rintro ⟨a, h, e⟩
    have : a = k := by omega
    exact this ▸ h
  · exact fun h => ⟨k, h, rfl⟩
theorem mem_cast2 {many k : Nat} {ks : List Nat} : ((many : Int) + (k : Int) ∈ ks.map fun k : Nat => (many : Int) + (k : Int)) ↔ (k ∈ ks) := by
  rw [List.mem_map]
  constructor
  · rintro ⟨a, h, e⟩
    have : a = k := by omega
    exact this ▸ h
  · exact fun h => ⟨k, h, rfl⟩
theorem Av.getM {st sx : Sto} {l i : Nat} {xs : List PV} (h : Av st l sx) (n : i ≠ l) (e : Pu.getM st i = some xs) : Pu.getM sx i = some xs := by
  obtain ⟨o', g', d', rfl⟩ := h
  exact getM_app (by rw [getM_ne n]; exact e)
theorem free_W {st : Sto} {l many some' : Nat} (h : Deck st l) (h1 : 0 < many) (h2 : many + some' ≤ 208) :
    W (LawP.p_law_free [.ref l, .int many, .int some'] st) (Drawn st l fun v => ∃ rows, v = progP rows ∧ FreeOk rows many some') := by
  have hl := h.lt
  refine fn_W rfl ?_
  unfold b_p_law_free
  walk_at "p0"
  refine w_seq (w_asg (w_lc (w_r1 ?_)))
  walk_at "pq"
  refine w_one ⟨by omega, by omega⟩ ?_
  rw [Int.toNat_natCast]
  refine picks_W cI hl (by omega) (Av.start h) (fun p => rfl) (fun p => rfl) (fun k s => ?_) (fun ks s1 a1 hk => ?_)
  · exact w_var rfl ⟨rfl, rfl⟩
  have lA := a1.le
  have gA := getM_last s1 (ks.map cI)
  have a1' : Av st l (s1 ++ [.lst (ks.map cI)]) := a1.new
  have nA : (s1 ++ [PO.lst (ks.map cI)]).length = s1.length + 1 := by simp
  generalize s1 ++ [PO.lst (ks.map cI)] = s1' at *
  walk_at "pq"
  walk_at "ps"
  refine w_nx (w_seq (w_asg (w_lc (w_r1 ?_))))
  walk_at "pq"
  refine w_one ⟨by omega, by omega⟩ ?_
  rw [Int.toNat_natCast]
  have hl1 : l < s1'.length := by omega
  refine picks_W (cJ many) hl1 (by omega) (Av.start (a1'.deck hl)) (fun p => rfl) (fun p => rfl) (fun k s => ?_) (fun ks2 s2 a2 hk2 => ?_)
  · walk_at "pq"
    exact ⟨rfl, rfl⟩
  have gA2 := Av.getM a2 (by omega) gA
  have a2b : Av st l s2 := a1'.trans hl a2
  have lB := a2.le
  clear a2 gA a1' a1
  have gB3 := getM_last s2 (ks2.map (cJ many))
  have gA3 := getM_app (g := [PO.lst (ks2.map (cJ many))]) gA2
  have a3 : Av st l (s2 ++ [.lst (ks2.map (cJ many))]) := a2b.new
  have nB : (s2 ++ [PO.lst (ks2.map (cJ many))]).length = s2.length + 1 := by simp
  generalize s2 ++ [PO.lst (ks2.map (cJ many))] = s3 at *
  generalize s1.length = A at *
  generalize s2.length = B at *
  clear a2b gA2
  walk_at "pq"
  walk_at "ps"
  refine w_nx (w_seq (w_asg (w_lc (w_seqL ?_))))
  walk_at "pq"
  refine ⟨A, _, rfl, getM_L gA3, ?_⟩
  refine names_of_W (ks := ks) (f := fun k => (k : Int)) (by have := hk.1; omega) (fun k => k) (fun _ => rfl) (getM_L gA3) (fun p => rfl) ?_
  have gC4 := getM_last s3 ((ks.map nameS).map PV.str)
  have gA4 := getM_app (g := [PO.lst ((ks.map nameS).map PV.str)]) gA3
  have gB4 := getM_app (g := [PO.lst ((ks.map nameS).map PV.str)]) gB3
  have a4 : Av st l (s3 ++ [.lst ((ks.map nameS).map PV.str)]) := a3.new
  have nC : (s3 ++ [PO.lst ((ks.map nameS).map PV.str)]).length = s3.length + 1 := by simp
  generalize s3 ++ [PO.lst ((ks.map nameS).map PV.str)] = s4 at *
  generalize s3.length = C at *
  clear gA3 gB3 a3
  walk_at "pq"
  walk_at "ps"
  refine w_nx (w_seq (w_asg (w_lc (w_seqL ?_))))
  walk_at "pq"
  refine ⟨B, _, rfl, getM_L gB4, ?_⟩
  refine names_of_W (ks := ks2) (f := fun k => (many : Int) + (k : Int)) (by have := hk2.1; omega) (fun k => many + k) (fun _ => by omega) (getM_L gB4) (fun p => rfl) ?_
  generalize em : ks.map nameS = marks at *
  generalize et : ks2.map (fun k => nameS (many + k)) = tabs at *
  have gD5 := getM_last s4 (tabs.map PV.str)
  have f5 : Four (s4 ++ [.lst (tabs.map PV.str)]) A B C s4.length (ks.map cI) (ks2.map (cJ many)) (marks.map PV.str) (tabs.map PV.str) := ⟨getM_app gA4, getM_app gB4, getM_app gC4, gD5⟩
  have a5 : Av st l (s4 ++ [.lst (tabs.map PV.str)]) := a4.new
  have nD : (s4 ++ [PO.lst (tabs.map PV.str)]).length = s4.length + 1 := by simp
  generalize s4 ++ [PO.lst (tabs.map PV.str)] = s5 at *
  generalize s4.length = D at *
  clear gA4 gB4 gC4 gD5 a4
  walk_at "pq"
  walk_at "ps"
  refine w_nx ?_
  walk_at "pq"
  walk_at "ps"
  refine w_nx ?_
  have gE := getM_last s5 []
  have f6 := f5.app (g := [.lst []])
  have a6 : Av st l (s5 ++ [.lst []]) := a5.new
  generalize s5 ++ [PO.lst []] = s6 at *
  generalize s5.length = E at *
  clear f5 a5
  walk_at "pq"
  refine w_one ⟨by omega, by omega⟩ ?_
  rw [Int.toNat_natCast]
  have hmk : marks ≠ [] := by
    rw [← em]
    have := hk.2.2 h1
    intro q
    rw [List.map_eq_nil_iff] at q
    rw [q] at this
    cases this
  have htb : 0 < some' → tabs ≠ [] := fun h0 => by
    rw [← et]
    have := hk2.2.2 h0
    intro q
    rw [List.map_eq_nil_iff] at q
    rw [q] at this
    cases this
  refine for_items (fun i ρ s => ∃ x4 x9 x10, ρ = [some (.ref l), some (.int many), some (.int some'), some (.ref A), x4, some (.ref B), some (.ref C), some (.ref D), some (.ref E), x9, x10] ∧ Av st l s ∧ Four s A B C D (ks.map cI) (ks2.map (cJ many)) (marks.map PV.str) (tabs.map PV.str) ∧ ∃ rows : List Rw, getM s E = some (rows.map rowP) ∧ rows.length = i ∧ ∀ (j : Nat) r, rows[j]? = some r → R1 ks marks tabs many j r)
    ⟨_, _, _, rfl, a6, f6, [], gE, rfl, fun j r q => by simp at q⟩ (fun i p ρ s hp q => ?_) (fun ρ s q => ?_)
  · obtain ⟨x4, x9, x10, rfl, a, f, rows, ge, hr, hR⟩ := q
    obtain ⟨hi, rfl⟩ := range_at hp
    rw [Int.zero_add]
    clear hp
    walk_at "pq"
    walk_at "ps"
    refine W.mono (next_W (a.deck hl)) ?_
    rintro v s7 ⟨n, o, rfl, hn, ho, e⟩
    have a7 : Av st l s7 := by rw [e]; exact a.draw hl ho
    have f7 : Four s7 A B C D (ks.map cI) (ks2.map (cJ many)) (marks.map PV.str) (tabs.map PV.str) := by rw [e]; exact f.set (by omega) (by omega) (by omega) (by omega)
    have ge7 : getM s7 E = some (rows.map rowP) := by rw [e]; exact getM_draw (by omega) ge
    clear e a f ge
    walk_at "pq"
    have hz := mod_bound n (m := 30) (by decide)
    generalize n % 30 = z at hz
    walk_at "ps"
    refine w_nx (w_seq (W.mono (P := fun so s' => ∃ z', so = .nx [some (.ref l), some (.int many), some (.int some'), some (.ref A), some (.int i), some (.ref B), some (.ref C), some (.ref D), some (.ref E), some (.int z'), x10] ∧ s' = s7 ∧ (0 ≤ z' ∧ z' < 30) ∧ (i + 1 = many → z' = 22)) ?_ ?_))
    · walk_at "pq"
      refine w_dec (fun c => ?_) (fun c => ?_)
      · walk_at "pq"
        walk_at "ps"
        exact ⟨_, rfl, trivial, by decide, fun _ => rfl⟩
      · walk_at "pq"
        exact ⟨_, rfl, rfl, hz, fun q => absurd (show (i : Int) = (many : Int) - 1 by omega) c⟩
    rintro so s8 ⟨z', rfl, e, hz', hz2⟩
    subst e
    refine w_nx (w_seq (W.mono (P := fun so s' => ∃ z', so = .nx [some (.ref l), some (.int many), some (.int some'), some (.ref A), some (.int i), some (.ref B), some (.ref C), some (.ref D), some (.ref E), some (.int z'), x10] ∧ s' = s8 ∧ (0 ≤ z' ∧ z' < 30) ∧ (i + 1 = many → z' = 22) ∧ (z' = 27 → 0 < some')) ?_ ?_))
    · walk_at "pq"
      refine w_dec (fun c => ?_) (fun c => ?_)
      · walk_at "pq"
        refine w_dec (fun c0 => ?_) (fun c0 => ?_)
        · walk_at "pq"
          walk_at "ps"
          exact ⟨_, rfl, trivial, by decide, fun q => by have := hz2 q; omega, by omega⟩
        · walk_at "pq"
          exact ⟨_, rfl, rfl, hz', hz2, by omega⟩
      · walk_at "pq"
        exact ⟨_, rfl, rfl, hz', hz2, fun q => absurd q c⟩
    clear hz hz' hz2
    rintro so s9 ⟨a, rfl, e, ha, ha2, ha3⟩
    subst e
    refine w_nx ?_
    walk_at "pq"
    refine W.mono (value_W (a7.deck hl) ha (by omega) (by omega) (getM_L f7.c) (getM_L f7.d) (fun _ _ => hmk) (fun q => htb (ha3 q))) ?_
    rintro v s10 ⟨hv, o, ho, e⟩
    have a8 : Av st l s10 := by rw [e]; exact a7.draw hl ho
    have f8 : Four s10 A B C D (ks.map cI) (ks2.map (cJ many)) (marks.map PV.str) (tabs.map PV.str) := by rw [e]; exact f7.set (by omega) (by omega) (by omega) (by omega)
    have ge8 : getM s10 E = some (rows.map rowP) := by rw [e]; exact getM_draw (by omega) ge7
    clear e a7 f7 ge7
    walk_at "pq"
    walk_at "ps"
    refine w_nx ?_
    walk_at "pq"
    refine w_isL (getM_L ge8) ?_
    walk_at "pq"
    refine W.mono (name_W (k := i) rfl) ?_
    rintro q s11 ⟨rfl, e⟩
    subst e
    walk_at "pq"
    have f9 := f8.app (g := [.lst [.str "", .str (nameS i)]])
    have ge9 := getM_app (g := [.lst [.str "", .str (nameS i)]]) ge8
    have a9 : Av st l (s11 ++ [.lst [.str "", .str (nameS i)]]) := a8.new
    refine w_inL (ns := ks.map fun k : Nat => (k : Int)) (by rw [← cI_map]; exact getM_L f9.a) ?_
    walk_at "pq"
    refine w_ixL (getL_last _ _) (two_at _ _) ?_
    generalize s11 ++ [PO.lst [.str "", .str (nameS i)]] = s12 at *
    clear f8 ge8 a8
    walk_at "pq"
    refine W.mono deeds_W ?_
    rintro q s13 ⟨rfl, e⟩
    have gd : getL s13 s12.length = some (names.map PV.str) := by rw [e]; exact getL_last _ _
    have f10 := f9.app (g := [.lst (names.map PV.str)])
    have ge10 := getM_app (g := [.lst (names.map PV.str)]) ge9
    have a10 : Av st l (s12 ++ [.lst (names.map PV.str)]) := a9.new
    rw [← e] at f10 ge10 a10
    clear f9 ge9 a9 e
    walk_at "pq"
    refine w_ixL gd (deed_at ha) ?_
    walk_at "pq"
    refine w_append ge10 (by rw [List.length_map]; omega) ?_
    rw [if_str]
    refine ⟨_, _, _, rfl, a10.put (by omega), f10.set (by omega) (by omega) (by omega) (by omega), rows ++ [((if (i : Int) ∈ ks.map (fun k : Nat => (k : Int)) then nameS i else ""), names.getD a.toNat "", v)], ?_, by simp [hr], fun j r q => ?_⟩
    · rw [getM_set ge10, List.map_append]
      rfl
    · rcases at_snoc q with q | ⟨q1, q2⟩
      · exact hR j r q
      · subst q2
        rw [q1, hr]
        refine ⟨?_, a, ha, rfl, hv, ha2⟩
        show (if (i : Int) ∈ ks.map (fun k : Nat => (k : Int)) then nameS i else ("" : Str)) = _
        simp only [mem_cast]
  obtain ⟨x4, x9, x10, rfl, a, f, rows1, ge, hr1, hR1⟩ := q
  rw [range_len] at hr1
  walk_at "pq"
  refine w_nx ?_
  walk_at "pq"
  refine w_one ⟨by omega, by omega⟩ ?_
  rw [Int.toNat_natCast]
  refine for_items (fun i ρ s => ∃ x4 x9 x10, ρ = [some (.ref l), some (.int many), some (.int some'), some (.ref A), x4, some (.ref B), some (.ref C), some (.ref D), some (.ref E), x9, x10] ∧ Av st l s ∧ Four s A B C D (ks.map cI) (ks2.map (cJ many)) (marks.map PV.str) (tabs.map PV.str) ∧ ∃ rows : List Rw, getM s E = some (rows.map rowP) ∧ rows.length = many + i ∧ (∀ (j : Nat) r, j < many → rows[j]? = some r → R1 ks marks tabs many j r) ∧ ∀ (j : Nat) r, many ≤ j → rows[j]? = some r → R2 ks2 many j r)
    ⟨_, _, _, rfl, a, f, rows1, ge, hr1, fun j r _ q => hR1 j r q, fun j r q1 q => absurd (List.getElem?_eq_some_iff.mp q).1 (by omega)⟩ (fun i p ρ s hp q => ?_) (fun ρ s q => ?_)
  · clear a f ge hr1 hR1
    obtain ⟨x4, x9, x10, rfl, a, f, rows, ge, hr, hR, hR2⟩ := q
    obtain ⟨hi, rfl⟩ := range_at hp
    rw [Int.zero_add]
    clear hp
    walk_at "pq"
    walk_at "ps"
    refine w_isL (getM_L ge) ?_
    walk_at "pq"
    refine W.mono (name_W (k := many + i) (by omega)) ?_
    rintro q s11 ⟨rfl, e⟩
    subst e
    walk_at "pq"
    have f9 := f.app (g := [.lst [.str "", .str (nameS (many + i))]])
    have ge9 := getM_app (g := [.lst [.str "", .str (nameS (many + i))]]) ge
    have a9 : Av st l (s11 ++ [.lst [.str "", .str (nameS (many + i))]]) := a.new
    refine w_inL (ns := ks2.map fun k : Nat => (many : Int) + (k : Int)) (by rw [← cJ_map]; exact getM_L f9.b) ?_
    walk_at "pq"
    refine w_ixL (getL_last _ _) (two_at _ _) ?_
    generalize s11 ++ [PO.lst [.str "", .str (nameS (many + i))]] = s12 at *
    clear f ge a
    walk_at "pq"
    refine W.mono (next_W (a9.deck hl)) ?_
    rintro v s7 ⟨n, o, rfl, hn, ho, e⟩
    have a10 : Av st l s7 := by rw [e]; exact a9.draw hl ho
    have f10 : Four s7 A B C D (ks.map cI) (ks2.map (cJ many)) (marks.map PV.str) (tabs.map PV.str) := by rw [e]; exact f9.set (by omega) (by omega) (by omega) (by omega)
    have ge10 : getM s7 E = some (rows.map rowP) := by rw [e]; exact getM_draw (by omega) ge9
    clear e a9 f9 ge9
    walk_at "pq"
    refine w_append ge10 (by rw [List.length_map]; omega) ?_
    rw [if_str]
    have hb := mod_bound n (m := 256) (by decide)
    generalize n % 256 = b at hb
    refine ⟨_, _, _, rfl, a10.put (by omega), f10.set (by omega) (by omega) (by omega) (by omega), rows ++ [((if (many : Int) + (i : Int) ∈ ks2.map (fun k : Nat => (many : Int) + (k : Int)) then nameS (many + i) else (("" : Str))), (("data" : Str)), PV.int b)], ?_, by simp [hr]; omega, fun j r hj q => ?_, fun j r hj q => ?_⟩
    · rw [getM_set ge10, List.map_append]
      rfl
    · rcases at_snoc q with q | ⟨q1, q2⟩
      · exact hR j r hj q
      · omega
    · rcases at_snoc q with q | ⟨q1, q2⟩
      · exact hR2 j r hj q
      · subst q2
        rw [q1, hr]
        refine ⟨?_, rfl, b, rfl, hb⟩
        show (if (many : Int) + (i : Int) ∈ ks2.map (fun k : Nat => (many : Int) + (k : Int)) then nameS (many + i) else ("" : Str)) = _
        simp only [mem_cast2, Nat.add_sub_cancel_left]
  clear a f ge hr1 hR1
  obtain ⟨x4, x9, x10, rfl, a, f, rows, ge, hr, hR, hR2⟩ := q
  rw [range_len] at hr
  walk_at "pq"
  refine w_nx ?_
  walk_at "pq"
  refine w_tupL (getM_L ge) ?_
  have ok : FreeOk rows many some' := by
    refine ⟨hr, h1, h2, fun j r q => ?_, fun j r hj q => ?_, fun j r hj q => (hR2 j r hj q).2⟩
    · by_cases hj : j < many
      · have := (hR j r hj q).1
        rw [this]
        split
        · exact .inr rfl
        · exact .inl rfl
      · have := (hR2 j r (by omega) q).1
        rw [this]
        split
        · exact .inr rfl
        · exact .inl rfl
    · obtain ⟨_, a, ha, e1, hv, e2⟩ := hR j r hj q
      refine ⟨a.toNat, by omega, e1, ⟨fun c => hv.byte (by omega), fun c d => hv.mem (by omega) (by omega), fun c d => hv.non (by omega) (by omega), fun c d => ?_, fun c => ?_, fun c => hv.door (by omega), fun c => hv.eye (by omega), hv.flat⟩, fun c => by have := e2 c; omega⟩
      · obtain ⟨m, hm, e⟩ := hv.mark (by omega) (by omega)
        rw [← em] at hm
        obtain ⟨k, hk', rfl⟩ := List.mem_map.mp hm
        have kl := hk.2.1 k hk'
        have er : rows[k]? = some rows[k] := List.getElem?_eq_getElem (by omega)
        have := (hR k _ kl er).1
        rw [if_pos hk'] at this
        exact ⟨k, _, kl, er, this, e⟩
      · obtain ⟨m, hm, e⟩ := hv.tab (by omega)
        rw [← et] at hm
        obtain ⟨k, hk', rfl⟩ := List.mem_map.mp hm
        have kl := hk2.2.1 k hk'
        have er : rows[many + k]? = some rows[many + k] := List.getElem?_eq_getElem (by omega)
        have := (hR2 _ _ (by omega) er).1
        rw [Nat.add_sub_cancel_left, if_pos hk'] at this
        exact ⟨many + k, _, by omega, er, this, e⟩
  refine a.fin ?_ ⟨rows, rfl, ok⟩
  refine noRefL_rowsP fun r m => ?_
  obtain ⟨j, hj, e⟩ := List.getElem_of_mem m
  have er : rows[j]? = some r := by rw [List.getElem?_eq_getElem hj, e]
  by_cases c : j < many
  · obtain ⟨_, _, _, v, _⟩ := ok.ups j r c er
    exact v.flat
  · obtain ⟨_, b, v, _⟩ := ok.tabs j r (by omega) er
    rw [v]
    rfl
end LawP

namespace LawP
open PySem PySem.Spec L2 My Pu
noncomputable def b_p_law_long : MS :=
  (sRet (e2 ixP (eLst (aCons (eC (.int 2)) (aCons (eC (.int 1)) aNil))) (eB intP1 (aCons (eOr (eChain leP ltP (eC (.int 13)) (eVar 0) (eC (.int 22))) (e2 eqP (eVar 0) (eC (.int 30)))) aNil))))
noncomputable def p_law_long : Fn := fnP 1 1 b_p_law_long
noncomputable def b_p_law_whole_long : MS :=
  (sRet (eB sumP (aCons (eLc (iSeqP (eVar 0)) (gT 3 (gsCons (gN 1) (gsCons (gN 2) (gsCons (gN 3) gsNil)))) tYesP (eCall 1 LawP.p_law_long (aCons (eML indexP (eCall 0 LawP.p_law_deeds aNil) (aCons (eVar 2) aNil)) aNil)) [1, 2, 3]) aNil)))
noncomputable def p_law_whole_long : Fn := fnP 1 4 b_p_law_whole_long
end LawP

set_option maxHeartbeats 2000000
namespace LawP
open PySem PySem.Spec L2 My Pu

structure ValM (rows : List Rw) (code : Nat) (a : Nat) (v : PV) : Prop where
  byte : a < 3 → ∃ n, v = .int n ∧ 0 ≤ n ∧ n < 256
  mem : 3 ≤ a → a < 13 → ∃ n, v = .int n ∧ 0 ≤ n ∧ n < 16
  non : 13 ≤ a → a < 22 → v = .non
  mark : 22 ≤ a → a < 27 → ∃ k r, k < code ∧ rows[k]? = some r ∧ r.1 ≠ ("" : Str) ∧ v = .str r.1
  tab : a = 27 → ∃ k r, code ≤ k ∧ rows[k]? = some r ∧ r.1 ≠ ("" : Str) ∧ v = .str r.1
  door : a = 28 → ∃ n, v = .int n ∧ 0 ≤ n ∧ n < 20
  eye : a = 29 → ∃ n, v = .int n ∧ 0 ≤ n ∧ n < 6
  flat : noRef v = true
structure Prg (rows : List Rw) (code : Nat) : Prop where
  pos : 1 ≤ code
  le : code ≤ rows.length
  few : rows.length ≤ 208
  uniq : ∀ (i j : Nat) r q, rows[i]? = some r → rows[j]? = some q → r.1 = q.1 → r.1 ≠ ("" : Str) → i = j
  ups : ∀ (j : Nat) r, j < code → rows[j]? = some r → ∃ a : Nat, a < 30 ∧ r.2.1 = names.getD a "" ∧ ValM rows code a r.2.2 ∧ (j + 1 = code → a = 22)
  tabs : ∀ (j : Nat) r, code ≤ j → rows[j]? = some r → r.2.1 = "data" ∧ ∃ b, r.2.2 = .int b ∧ 0 ≤ b ∧ b < 256
theorem prg_free {rows : List Rw} {many some' : Nat} (h : FreeOk rows many some') : Prg rows many := by
  have hl := h.len
  have hs := h.small
  refine ⟨h.pos, by omega, by omega, fun i j r q e1 e2 z ne => ?_, fun j r hj e => ?_, h.tabs⟩
  · have h1 := (List.getElem?_eq_some_iff.mp e1).1
    have h2 := (List.getElem?_eq_some_iff.mp e2).1
    rcases h.mark i r e1 with q1 | q1
    · exact absurd q1 ne
    · rcases h.mark j q e2 with q2 | q2
      · rw [z] at ne; exact absurd q2 ne
      · exact nameS_inj (by omega) (by omega) (by rw [← q1, ← q2]; exact z)
  · obtain ⟨a, ha, e1, v, e2⟩ := h.ups j r hj e
    refine ⟨a, ha, e1, ⟨v.byte, v.mem, v.non, fun c d => ?_, fun c => ?_, v.door, v.eye, v.flat⟩, e2⟩
    · obtain ⟨k, q, hk, hq, e3, e4⟩ := v.mark c d
      exact ⟨k, q, hk, hq, by rw [e3]; exact nameS_ne k, by rw [e3]; exact e4⟩
    · obtain ⟨k, q, hk, hq, e3, e4⟩ := v.tab c
      exact ⟨k, q, hk, hq, by rw [e3]; exact nameS_ne k, by rw [e3]; exact e4⟩
theorem tabA30 : ∀ a : Nat, a < 30 → names.getD a "" ∈ names ∧ names.getD a "" ≠ "data" ∧ bcOf (names.getD a "") = (if 13 ≤ a ∧ a < 22 then 1 else 2) := by decide +kernel
theorem Prg.known {rows : List Rw} {code : Nat} (h : Prg rows code) : Known rows := fun r m => by
  obtain ⟨j, hj, e⟩ := List.getElem_of_mem m
  have er : rows[j]? = some r := by rw [List.getElem?_eq_getElem hj, e]
  by_cases c : j < code
  · obtain ⟨a, ha, e1, _⟩ := h.ups j r c er
    rw [e1]
    exact (tabA30 a ha).1
  · rw [(h.tabs j r (by omega) er).1]
    decide +kernel
theorem Prg.flat {rows : List Rw} {code : Nat} (h : Prg rows code) : noRef (progP rows) = true := noRefL_rowsP fun r m => by
  obtain ⟨j, hj, e⟩ := List.getElem_of_mem m
  have er : rows[j]? = some r := by rw [List.getElem?_eq_getElem hj, e]
  by_cases c : j < code
  · obtain ⟨a, ha, e1, v, _⟩ := h.ups j r c er
    exact v.flat
  · obtain ⟨_, b, e2, _⟩ := h.tabs j r (by omega) er
    rw [e2]
    rfl
end LawP

set_option maxHeartbeats 2000000
namespace LawP
open PySem PySem.Spec L2 My Pu

def longI (a : Int) : Int := if 13 ≤ a ∧ a < 22 ∨ a = 30 then 1 else 2
theorem long_W {st : Sto} {a : Int} : W (LawP.p_law_long [.int a] st) (fun v st' => v = .int (longI a) ∧ st' = st) := by
  refine fn_W rfl ?_
  unfold b_p_law_long
  walk_at "p0"
  walk_at "pw"
  unfold longI
  have fin : ∀ {b : Bool} {n : Int}, (if b = true then (1 : Int) else 2) = n → W (ixP (.ref st.length) (.int (if b = true then 1 else 0)) (st ++ [.lst [.int 2, .int 1]])) (fun p st1 => W (out (.rt p) st1) fun v st2 => W (gc st (.ok v st2)) fun v st' => v = .int n ∧ st' = st) := fun {b n} e => by
    refine w_ixL (getL_last _ _) (two_at _ _) ?_
    have : (if b = true then PV.int 1 else .int 2) = .int n := by rw [← e]; cases b <;> rfl
    rw [this]
    exact end_app rfl ⟨rfl, rfl⟩
  refine w_dec (fun h13 => ?_) (fun h13 => ?_)
  · walk_at "pw"
    by_cases h22 : a < 22
    · rw [decide_eq_true h22]
      walk_at "pw"
      exact fin (b := true) (by rw [if_pos rfl, if_pos (.inl ⟨h13, h22⟩)])
    · rw [decide_eq_false h22]
      walk_at "pw"
      refine fin ?_
      by_cases h30 : a = 30
      · rw [decide_eq_true h30, if_pos rfl, if_pos (.inr h30)]
      · rw [decide_eq_false h30, if_neg (by decide), if_neg (by omega)]
  · walk_at "pw"
    refine fin ?_
    by_cases h30 : a = 30
    · rw [decide_eq_true h30, if_pos rfl, if_pos (.inr h30)]
    · rw [decide_eq_false h30, if_neg (by decide), if_neg (by omega)]
def ixOf (d : Str) : Nat := (names.findIdx? fun x => decide (x = d)).getD 0
theorem ix_names : ∀ d ∈ names, (names.findIdx? fun x => decide (x = d)) = some (ixOf d) ∧ longI (ixOf d) = bcOf d := by decide +kernel
theorem find_names (d : Str) : ((names.map PV.str).findIdx? fun y => eqvP y (.str d)) = names.findIdx? fun x => decide (x = d) := by
  have e : ((fun y => eqvP y (.str d)) ∘ PV.str) = fun x => decide (x = d) := by
    funext x
    have e : eqvP (.str x) (.str d) = (x == d) := by simp [eqvP, toD, PyData.eqv]
    show eqvP (.str x) (.str d) = decide (x = d)
    rw [e]
    by_cases c : x = d <;> simp [c]
  rw [List.findIdx?_map, e]
theorem w_ixD {st : Sto} {P : PV → Sto → Prop} {j : Nat} {d : Str} (g : getL st j = some (names.map PV.str)) (hd : d ∈ names) (h : P (.int (ixOf d)) st) : W (indexP (.ref j) [.str d] st) P := by
  unfold indexP
  dsimp only
  rw [g]
  dsimp only
  rw [if_pos ⟨rfl, by rw [List.all_map, List.all_eq_true]; exact fun _ _ => rfl⟩, find_names, (ix_names d hd).1]
  exact W.ok h
theorem ints_map' {α : Type} (f : α → Int) : ∀ xs : List α, intsOf (xs.map fun r => PV.int (f r)) = some (xs.map f)
  | [] => rfl
  | x :: xs => by
    show (intsOf (xs.map fun r => PV.int (f r))).map (f x :: ·) = _
    rw [ints_map' f xs]
    rfl
theorem whole_W {st : Sto} {rows : List Rw} (hk : Known rows) (hl : rows.length ≤ 1000) : W (LawP.p_law_whole_long [progP rows] st) (fun v st' => v = .int (lenOf rows) ∧ st' = st) := by
  refine fn_W rfl ?_
  unfold b_p_law_whole_long
  walk_at "p0"
  walk_at "pw"
  refine w_seqT (xs := []) ?_
  walk_at "pw"
  refine ⟨rows.map rowP, rfl, ?_⟩
  refine lc_items (fun i acc sx => Pre st sx ∧ acc = (rows.take i).map fun r => PV.int (bcOf r.2.1)) ⟨.refl, by simp⟩ (fun i p acc sx hp h => ?_) (fun acc sx h => ?_)
  · obtain ⟨p1, rfl⟩ := h
    rw [List.getElem?_map] at hp
    obtain ⟨⟨m, d, v⟩, hc, rfl⟩ := Option.map_eq_some_iff.mp hp
    have hi : i < rows.length := (List.getElem?_eq_some_iff.mp hc).1
    have hd : d ∈ names := hk _ (List.mem_of_getElem? hc)
    rw [rowP_mk]
    walk_at "pw"
    refine W.mono deeds_W ?_
    rintro q s1 ⟨rfl, e⟩
    have gd : getL s1 sx.length = some (names.map PV.str) := by rw [e]; exact getL_last _ _
    have p2 : Pre st s1 := by rw [e]; exact p1.new
    clear e
    refine w_isL gd ?_
    walk_at "pw"
    refine w_ixD gd hd ?_
    walk_at "pw"
    refine W.mono long_W ?_
    rintro q s2 ⟨rfl, e⟩
    subst e
    refine ⟨by rw [List.length_map, List.length_take]; omega, p2, ?_⟩
    rw [(ix_names d hd).2, List.take_succ, hc, List.map_append]
    rfl
  · obtain ⟨p1, rfl⟩ := h
    rw [List.length_map, List.take_length]
    walk_at "pw"
    refine w_sumL (getL_last _ _) (ints_map' (fun r : Rw => bcOf r.2.1) rows) ?_
    exact end_pre p1.new rfl ⟨rfl, rfl⟩
end LawP

set_option maxHeartbeats 2000000
namespace LawP
open PySem PySem.Spec L2 My Pu

def cnt (m : Str) (rows : List Rw) : Nat := (rows.filter fun r => decide (r.1 = m)).length
theorem cnt_app (m : Str) (a b : List Rw) : cnt m (a ++ b) = cnt m a + cnt m b := by
  unfold cnt
  rw [List.filter_append, List.length_append]
theorem cnt_zero {m : Str} {rows : List Rw} (h : ∀ r ∈ rows, r.1 ≠ m) : cnt m rows = 0 := by
  unfold cnt
  rw [List.length_eq_zero_iff, List.filter_eq_nil_iff]
  exact fun r hr => by rw [decide_eq_true_iff]; exact h r hr
structure ValL (rows : List Rw) (a : Nat) (v : PV) : Prop where
  byte : a < 3 → ∃ n, v = .int n ∧ 0 ≤ n ∧ n < 256
  mem : 3 ≤ a → a < 13 → ∃ n, v = .int n ∧ 0 ≤ n ∧ n < 16
  non : 13 ≤ a → a < 22 → v = .non
  mark : 22 ≤ a → a < 27 → ∃ q ∈ rows, q.1 ≠ ("" : Str) ∧ v = .str q.1
  tab : a ≠ 27
  door : a = 28 → ∃ n, v = .int n ∧ 0 ≤ n ∧ n < 20
  eye : a = 29 → ∃ n, v = .int n ∧ 0 ≤ n ∧ n < 6
  flat : noRef v = true
def RowV (rows : List Rw) (r : Rw) : Prop := ∃ a : Nat, a < 30 ∧ r.2.1 = names.getD a "" ∧ ValL rows a r.2.2
theorem RowV.more {rows rows' : List Rw} {r : Rw} (h : RowV rows r) (s : ∀ q ∈ rows, q ∈ rows') : RowV rows' r := by
  obtain ⟨a, ha, e, v⟩ := h
  refine ⟨a, ha, e, v.byte, v.mem, v.non, fun c d => ?_, v.tab, v.door, v.eye, v.flat⟩
  obtain ⟨q, hq, z⟩ := v.mark c d
  exact ⟨q, s q hq, z⟩
structure BlkOk (rows : List Rw) (m : Str) : Prop where
  few : rows.length ≤ 30
  mks : ∀ r ∈ rows, r.1 = ("" : Str) ∨ r.1 = m
  one : cnt m rows ≤ 1
  row : ∀ r ∈ rows, RowV rows r
theorem BlkOk.flat {rows : List Rw} {m : Str} (h : BlkOk rows m) : noRefL (rows.map rowP) = true := noRefL_rows rows fun r q => by
  obtain ⟨a, _, _, v⟩ := h.row r q
  exact v.flat
def ifs : List Str := ["ifz", "ifn", "ifc", "ifd"]
end LawP

set_option maxHeartbeats 2000000
namespace LawP
open PySem PySem.Spec L2 My Pu

structure RunOk (rows : List Rw) (i : Nat) : Prop where
  len : rows.length ≤ 1 + 30 * i
  mks : ∀ r ∈ rows, r.1 = ("" : Str) ∨ r.1 = ("top" : Str) ∨ ∃ k, k < i ∧ r.1 = nameS k
  one : ∀ m : Str, m ≠ "" → cnt m rows ≤ 1
  row : ∀ r ∈ rows, RowV rows r
  top : ∃ q ∈ rows, q.1 = ("top" : Str)
theorem top_name : ∀ k : Nat, k < 4 → nameS k ≠ ("top" : Str) := fun k hk z => by
  have e : (nameS k).cps.toList = ("top" : Str).cps.toList := by rw [z]
  rw [nameS_list, show ("top" : Str).cps.toList = [116, 111, 112] from by decide +kernel] at e
  have l := congrArg List.length e
  rw [List.length_replicate] at l
  have : 1 + k / 26 % 8 = 3 := l
  omega
theorem RunOk.flat {rows : List Rw} {i : Nat} (h : RunOk rows i) : noRefL (rows.map rowP) = true := noRefL_rows rows fun r q => by
  obtain ⟨a, _, _, v⟩ := h.row r q
  exact v.flat
theorem RunOk.add {rows B : List Rw} {i : Nat} (h : RunOk rows i) (hi : i < 4) (b : BlkOk B (nameS i)) : RunOk (rows ++ B) (i + 1) := by
  refine ⟨by rw [List.length_append]; have := h.len; have := b.few; omega, fun r hr => ?_, fun m ne => ?_, fun r hr => ?_, ?_⟩
  · rcases List.mem_append.mp hr with hr | hr
    · rcases h.mks r hr with q | q | ⟨k, hk, q⟩
      · exact .inl q
      · exact .inr (.inl q)
      · exact .inr (.inr ⟨k, by omega, q⟩)
    · rcases b.mks r hr with q | q
      · exact .inl q
      · exact .inr (.inr ⟨i, by omega, q⟩)
  · rw [cnt_app]
    by_cases c : m = nameS i
    · have : cnt m rows = 0 := cnt_zero fun r hr z => by
        rcases h.mks r hr with q | q | ⟨k, hk, q⟩
        · exact ne (by rw [← z, q])
        · exact top_name i hi (by rw [← c, ← z, q])
        · have := nameS_inj (i := i) (j := k) (by omega) (by omega) (by rw [← c, ← z, q])
          omega
      have hb := b.one
      rw [← c] at hb
      omega
    · have : cnt m B = 0 := cnt_zero fun r hr z => by
        rcases b.mks r hr with q | q
        · exact ne (by rw [← z, q])
        · exact c (by rw [← z, q])
      have := h.one m ne
      omega
  · rcases List.mem_append.mp hr with hr | hr
    · exact (h.row r hr).more fun q hq => List.mem_append_left _ hq
    · exact (b.row r hr).more fun q hq => List.mem_append_right _ hq
  · obtain ⟨q, hq, e⟩ := h.top
    exact ⟨q, List.mem_append_left _ hq, e⟩
end LawP

set_option maxHeartbeats 2000000
namespace LawP
open PySem PySem.Spec L2 My Pu

theorem gc_bl {st S : Sto} {b : Bool} : W (gc st (.ok (.bl b) S)) (fun v _ => v = .bl b) := by
  unfold gc
  dsimp only
  split
  · split
    · exact W.of rfl rfl
    · exact W.of rfl rfl
  · exact W.of rfl rfl
theorem _root_.Pu.Deck.app {st g : Sto} {l : Nat} (h : Deck st l) : Deck (st ++ g) l := by
  obtain ⟨o, e, d⟩ := h
  exact ⟨o, at_app e, d⟩
end LawP

set_option maxHeartbeats 2000000
namespace K32
open PySem PySem.Spec L2 My Pu LawP

def Ty (st : Sto) (p : PV) : Prop := ∃ T, tyP st p = some T
def numB (p : PV) (lo hi : Int) : Bool := match p with
  | .int i => decide (lo ≤ i ∧ i ≤ hi)
  | _ => false
def isIntP : PV → Bool
  | .int _ => true
  | _ => false
theorem ty_other {st : Sto} {p : PV} {T : String} (h : tyP st p = some T) (h1 : isIntP p = false) (h2 : ∀ b, p ≠ .bl b) : subTy T "int" = false := by
  have key : T ∈ (["NoneType", "str", "tuple", "list", "dict"] : List String) := by
    cases p with
    | non => cases h; decide
    | bl b => exact absurd rfl (h2 b)
    | int i => cases h1
    | str i => cases h; decide
    | tup xs => cases h; decide
    | ref j =>
      unfold tyP at h
      dsimp only at h
      split at h
      · cases h; decide
      · cases z : getL st j with
        | none => rw [z] at h; cases h
        | some xs => rw [z] at h; cases h; show "list" ∈ _; decide
    | ty n => cases h
    | gl n => cases h
  have all : ∀ T ∈ (["NoneType", "str", "tuple", "list", "dict"] : List String), subTy T "int" = false := by decide
  exact all T key
theorem whole' {st : Sto} {p : PV} (h : Ty st p) : W (Prog.bounds_is_whole [p] st) (fun v st' => v = .bl (isIntP p) ∧ st' = st) := by
  by_cases c : isIntP p = true
  · cases p with
    | int i => exact Pu.whole_W
    | _ => cases c
  have c : isIntP p = false := by cases z : isIntP p with | true => exact absurd z c | false => rfl
  obtain ⟨T, hT⟩ := h
  refine fn_W rfl ?_
  unfold Prog.b_bounds_is_whole
  walk_at "p0"
  walk_at "pw"
  refine isi_W hT (by decide) ?_
  by_cases cb : ∃ b, p = .bl b
  · obtain ⟨b, rfl⟩ := cb
    cases hT
    rw [show subTy "bool" "int" = true from rfl]
    walk_at "pw"
    refine isi_W rfl (by decide) ?_
    rw [show subTy "bool" "bool" = true from rfl]
    walk_at "pw"
    exact end_same rfl ⟨rfl, rfl⟩
  · rw [ty_other hT c fun b e => cb ⟨b, e⟩]
    walk_at "pw"
    rw [c]
    exact end_same rfl ⟨rfl, rfl⟩
theorem number' {st : Sto} {p : PV} {lo hi : Int} (h : Ty st p) : W (Prog.bounds_is_number [p, .int lo, .int hi] st) (fun v st' => v = .bl (numB p lo hi) ∧ st' = st) := by
  by_cases c : isIntP p = true
  · cases p with
    | int i => exact number_W
    | _ => cases c
  have c : isIntP p = false := by cases z : isIntP p with | true => exact absurd z c | false => rfl
  have e0 : numB p lo hi = false := by cases p <;> first | rfl | cases c
  refine fn_W rfl ?_
  unfold Prog.b_bounds_is_number
  walk_at "p0"
  walk_at "pw"
  refine W.mono (whole' h) ?_
  rintro v st' ⟨rfl, e⟩
  subst e
  rw [c]
  walk_at "pw"
  rw [e0]
  exact end_same rfl ⟨rfl, rfl⟩
theorem byte' {st : Sto} {p : PV} (h : Ty st p) : W (Prog.bounds_is_byte [p] st) (fun v st' => v = .bl (numB p 0 255) ∧ st' = st) := by
  refine fn_W rfl ?_
  unfold Prog.b_bounds_is_byte
  walk_at "p0"
  walk_at "pw"
  refine W.mono (number' h) ?_
  rintro v st' ⟨rfl, e⟩
  subst e
  exact end_same rfl ⟨rfl, rfl⟩
def bytesB : PV → Bool
  | .tup xs => xs.all fun x => numB x 0 255
  | _ => false
def tupN : PV → Int → Bool
  | .tup xs, n => decide ((xs.length : Int) = n)
  | _, _ => false
def TyL (st : Sto) (p : PV) : Prop := Ty st p ∧ ∀ xs, p = .tup xs → ∀ x ∈ xs, Ty st x
theorem ty_tup {st : Sto} {p : PV} {T : String} (h : tyP st p = some T) (h1 : ∀ xs, p ≠ .tup xs) : subTy T "tuple" = false := by
  have key : T ∈ (["NoneType", "str", "bool", "int", "list", "dict"] : List String) := by
    cases p with
    | non => cases h; decide
    | bl b => cases h; decide
    | int i => cases h; decide
    | str i => cases h; decide
    | tup xs => exact absurd rfl (h1 xs)
    | ref j =>
      unfold tyP at h
      dsimp only at h
      split at h
      · cases h; decide
      · cases z : getL st j with
        | none => rw [z] at h; cases h
        | some xs => rw [z] at h; cases h; show "list" ∈ _; decide
    | ty n => cases h
    | gl n => cases h
  have all : ∀ T ∈ (["NoneType", "str", "bool", "int", "list", "dict"] : List String), subTy T "tuple" = false := by decide
  exact all T key
theorem bools_map {α : Type} (f : α → Bool) : ∀ xs : List α, boolsOf (xs.map fun p => some (PV.bl (f p))) = some (xs.map f)
  | [] => rfl
  | x :: xs => by
    show (boolsOf (xs.map fun p => some (PV.bl (f p)))).map (f x :: ·) = _
    rw [bools_map f xs]
    rfl
theorem bytes' {st : Sto} {p : PV} (h : TyL st p) : W (Prog.bounds_are_bytes [p] st) (fun v st' => v = .bl (bytesB p) ∧ st' = st) := by
  obtain ⟨⟨T, hT⟩, hx⟩ := h
  refine fn_W rfl ?_
  unfold Prog.b_bounds_are_bytes
  walk_at "p0"
  walk_at "pw"
  refine isi_W hT (by decide) ?_
  by_cases c : ∃ xs, p = .tup xs
  · obtain ⟨xs, rfl⟩ := c
    cases hT
    rw [show subTy "tuple" "tuple" = true from rfl]
    walk_at "pw"
    refine w_allG ?_
    refine w_seqT (xs := []) ?_
    walk_at "pw"
    refine ⟨xs, rfl, _, _, gen_items (fun p => .bl (numB p 0 255)) (fun p hp => ?_), bools_map (fun p => numB p 0 255) xs, ?_⟩
    · walk_at "pq"
      refine ⟨rfl, ?_⟩
      walk_at "pq"
      refine W.mono (byte' (hx xs rfl p hp)) ?_
      rintro v s1 ⟨rfl, e⟩
      subst e
      exact ⟨rfl, .refl⟩
    · rw [List.all_map]
      exact end_same rfl ⟨rfl, rfl⟩
  · rw [ty_tup hT fun xs e => c ⟨xs, e⟩]
    walk_at "pw"
    have e : bytesB p = false := by cases p <;> first | rfl | exact absurd ⟨_, rfl⟩ c
    rw [e]
    exact end_same rfl ⟨rfl, rfl⟩
theorem istup' {st : Sto} {p : PV} {n : Int} (h : Ty st p) : W (Prog.bounds_is_tuple_of [p, .int n] st) (fun v st' => v = .bl (tupN p n) ∧ st' = st) := by
  obtain ⟨T, hT⟩ := h
  refine fn_W rfl ?_
  unfold Prog.b_bounds_is_tuple_of
  walk_at "p0"
  walk_at "pw"
  refine isi_W hT (by decide) ?_
  by_cases c : ∃ xs, p = .tup xs
  · obtain ⟨xs, rfl⟩ := c
    cases hT
    rw [show subTy "tuple" "tuple" = true from rfl]
    walk_at "pw"
    exact end_same rfl ⟨rfl, rfl⟩
  · rw [ty_tup hT fun xs e => c ⟨xs, e⟩]
    walk_at "pw"
    have e : tupN p n = false := by cases p <;> first | rfl | exact absurd ⟨_, rfl⟩ c
    rw [e]
    exact end_same rfl ⟨rfl, rfl⟩
def manyB (p : PV) (n : Int) : Bool := bytesB p && tupN p n
theorem many' {st : Sto} {p : PV} {n : Int} (h : TyL st p) : W (Prog.bounds_are_so_many_bytes [p, .int n] st) (fun v st' => v = .bl (manyB p n) ∧ st' = st) := by
  refine fn_W rfl ?_
  unfold Prog.b_bounds_are_so_many_bytes
  walk_at "p0"
  walk_at "pw"
  refine W.mono (bytes' h) ?_
  rintro v s1 ⟨rfl, e⟩
  subst e
  unfold manyB
  cases c : bytesB p with
  | false =>
    walk_at "pw"
    exact end_same rfl ⟨rfl, rfl⟩
  | true =>
    cases p with
    | tup xs =>
      walk_at "pw"
      exact end_same rfl ⟨rfl, rfl⟩
    | _ => cases c
def dOf (rows : List Rw) (i : Nat) : Str := ((rows[i]?).map fun r => r.2.1).getD ""
theorem dOf_at {rows : List Rw} {i : Nat} {m d : Str} {v : PV} (h : rows[i]? = some (m, d, v)) : dOf rows i = d := by unfold dOf; rw [h]; rfl
def waitB (rows : List Rw) (i : Int) : Bool := decide (0 ≤ i ∧ i < rows.length) && decide (dOf rows i.toNat = "wait")
theorem wait' {st : Sto} {rows : List Rw} {i : Int} : W (Prog.programs_is_wait [progP rows, .int i] st) (fun v st' => v = .bl (waitB rows i) ∧ st' = st) := by
  refine fn_W rfl ?_
  unfold Prog.b_programs_is_wait waitB
  walk_at "p0"
  unfold progP
  walk_at "pw"
  refine w_dec (fun h0 => ?_) (fun h0 => ?_)
  · walk_at "pw"
    rw [List.length_map]
    by_cases h1 : i < rows.length
    · rw [decide_eq_true h1, decide_eq_true (⟨h0, h1⟩ : 0 ≤ i ∧ i < rows.length)]
      have hi : i.toNat < rows.length := by omega
      have er : rows[i.toNat]? = some rows[i.toNat] := List.getElem?_eq_getElem hi
      generalize rows[i.toNat] = r at er
      obtain ⟨m, d, v⟩ := r
      walk_at "pw"
      refine w_ixT (row_at h0 er) ?_
      rw [rowP_mk]
      walk_at "pw"
      refine w_ixT (v := .str d) rfl ?_
      walk_at "pw"
      rw [dOf_at er]
      exact end_same rfl ⟨rfl, rfl⟩
    · rw [decide_eq_false h1, decide_eq_false (fun z : 0 ≤ i ∧ i < rows.length => h1 z.2)]
      walk_at "pw"
      exact end_same rfl ⟨rfl, rfl⟩
  · rw [decide_eq_false (fun z : 0 ≤ i ∧ i < rows.length => h0 z.1)]
    walk_at "pw"
    exact end_same rfl ⟨rfl, rfl⟩
def mayB (rows : List Rw) (r b k : Int) : Bool := decide (b = 1) && (decide (k = 0) && waitB rows (r - 1))
theorem may' {st : Sto} {rows : List Rw} {r b k : Int} : W (Prog.states_may_wait [progP rows, .int r, .int b, .int k] st) (fun v st' => v = .bl (mayB rows r b k) ∧ st' = st) := by
  refine fn_W rfl ?_
  unfold Prog.b_states_may_wait mayB
  walk_at "p0"
  walk_at "pw"
  refine w_dec (fun h0 => ?_) (fun h0 => ?_)
  · rw [decide_eq_true h0]
    walk_at "pw"
    refine w_dec (fun h1 => ?_) (fun h1 => ?_)
    · rw [decide_eq_true h1]
      walk_at "pw"
      refine W.mono wait' ?_
      rintro v s1 ⟨rfl, e⟩
      subst e
      exact end_same rfl ⟨rfl, rfl⟩
    · rw [decide_eq_false h1]
      walk_at "pw"
      exact end_same rfl ⟨rfl, rfl⟩
  · rw [decide_eq_false h0]
    walk_at "pw"
    exact end_same rfl ⟨rfl, rfl⟩
def codeB (rows : List Rw) (p : PV) : Bool := numB p 0 ((rows.length : Int) - 1) && match p with
  | .int i => !decide (dOf rows i.toNat = "data")
  | _ => false
theorem tab_names : ∀ d ∈ names, decide ((lookD d).1 = ("table" : Str)) = decide (d = ("data" : Str)) := by decide +kernel
theorem code' {st : Sto} {rows : List Rw} {p : PV} (hk : Known rows) (h : Ty st p) : W (Prog.states_is_code_row [progP rows, p] st) (fun v st' => v = .bl (codeB rows p) ∧ st' = st) := by
  refine fn_W rfl ?_
  unfold Prog.b_states_is_code_row codeB
  walk_at "p0"
  unfold progP
  walk_at "pw"
  rw [List.length_map]
  refine W.mono (number' h) ?_
  rintro v s1 ⟨rfl, e⟩
  subst e
  cases c : numB p 0 ((rows.length : Int) - 1) with
  | false =>
    walk_at "pw"
    exact end_same rfl ⟨rfl, rfl⟩
  | true =>
    cases p with
    | int i =>
      have hb : 0 ≤ i ∧ i ≤ (rows.length : Int) - 1 := of_decide_eq_true c
      have hi : i.toNat < rows.length := by omega
      have er : rows[i.toNat]? = some rows[i.toNat] := List.getElem?_eq_getElem hi
      generalize rows[i.toNat] = r at er
      obtain ⟨m, d, v⟩ := r
      have hd : d ∈ names := hk _ (List.mem_of_getElem? er)
      walk_at "pw"
      refine w_ixT (row_at hb.1 er) ?_
      rw [rowP_mk]
      walk_at "pw"
      refine w_ixT (v := .str d) rfl ?_
      walk_at "pw"
      refine W.mono (kind_W hd) ?_
      rintro v s2 ⟨rfl, e⟩
      subst e
      walk_at "pw"
      dsimp only
      rw [dOf_at er, tab_names d hd]
      exact end_same rfl ⟨rfl, rfl⟩
    | _ => cases c
def zB : PV → Bool
  | .int i => decide (i = 0)
  | _ => false
def mayP (rows : List Rw) : PV → PV → PV → Bool
  | .int r, .int b, .int k => mayB rows r b k
  | _, _, _ => false
def stB (rows : List Rw) : PV → Bool
  | .tup [r, a, x, z, c, me, d, m, t, b, w, k] => codeB rows r && (numB a 0 255 && (numB x 0 255 && (manyB me 16 && (manyB d 20 && ((numB z 0 1 && (numB c 0 1 && (numB w 0 1 && numB k 0 1))) && (numB m 0 63 && (numB t 0 4080 && (numB b 0 4 && (zB w || mayP rows r b k)))))))))
  | _ => false
def TyS (st : Sto) (p : PV) : Prop := Ty st p ∧ ∀ xs, p = .tup xs → ∀ x ∈ xs, TyL st x
theorem num_int {p : PV} {lo hi : Int} (h : numB p lo hi = true) : ∃ i, p = .int i ∧ lo ≤ i ∧ i ≤ hi := by
  cases p with
  | int i => exact ⟨i, rfl, of_decide_eq_true h⟩
  | _ => cases h
theorem len12 {xs : List PV} (h : xs.length = 12) : ∃ r a x z c me d m t b w k, xs = [r, a, x, z, c, me, d, m, t, b, w, k] := by
  match xs, h with
  | [r, a, x, z, c, me, d, m, t, b, w, k], _ => exact ⟨r, a, x, z, c, me, d, m, t, b, w, k, rfl⟩
theorem stB_12 {rows : List Rw} {p : PV} (h : tupN p 12 = false) : stB rows p = false := by
  unfold stB
  split
  · cases h
  · rfl
theorem state' {st : Sto} {rows : List Rw} {p : PV} (hk : Known rows) (h : TyS st p) : W (Prog.states_is_state [progP rows, p] st) (fun v st' => v = .bl (stB rows p) ∧ st' = st) := by
  refine fn_W rfl ?_
  unfold Prog.b_states_is_state
  walk_at "p0"
  walk_at "pq"
  refine W.mono (istup' h.1) ?_
  rintro v s1 ⟨rfl, e⟩
  subst e
  cases c0 : tupN p 12 with
  | false =>
    walk_at "pq"
    rw [stB_12 c0]
    exact end_same rfl ⟨rfl, rfl⟩
  | true =>
    cases p with
    | tup xs =>
      have l12 : (xs.length : Int) = 12 := of_decide_eq_true c0
      obtain ⟨r, a, x, z, c, me, d, m, t, b, w, k, rfl⟩ := len12 (xs := xs) (by omega)
      have hx := h.2 _ rfl
      clear h c0 l12
      simp only [List.mem_cons, List.not_mem_nil, or_false, forall_eq_or_imp, forall_eq] at hx
      obtain ⟨tr, ta, tx, tz, tc, tme, td, tm, tt, tb, tw, tk⟩ := hx
      walk_at "pq"
      refine w_nx ?_
      walk_at "pq"
      walk_at "ps"
      refine w_nx ?_
      rw [show stB rows (.tup [r, a, x, z, c, me, d, m, t, b, w, k]) = (codeB rows r && (numB a 0 255 && (numB x 0 255 && (manyB me 16 && (manyB d 20 && ((numB z 0 1 && (numB c 0 1 && (numB w 0 1 && numB k 0 1))) && (numB m 0 63 && (numB t 0 4080 && (numB b 0 4 && (zB w || mayP rows r b k)))))))))) from rfl]
      walk_at "pq"
      refine W.mono (code' hk tr.1) ?_
      rintro v s2 ⟨rfl, e⟩
      subst e
      cases c2 : codeB rows r with
      | false =>
        walk_at "pq"
        exact end_same rfl ⟨rfl, rfl⟩
      | true =>
      walk_at "pq"
      refine W.mono (byte' ta.1) ?_
      rintro v s3 ⟨rfl, e⟩
      subst e
      cases c3 : numB a 0 255 with
      | false =>
        walk_at "pq"
        exact end_same rfl ⟨rfl, rfl⟩
      | true =>
      walk_at "pq"
      refine W.mono (byte' tx.1) ?_
      rintro v s4 ⟨rfl, e⟩
      subst e
      cases c4 : numB x 0 255 with
      | false =>
        walk_at "pq"
        exact end_same rfl ⟨rfl, rfl⟩
      | true =>
      walk_at "pq"
      refine w_nx ?_
      walk_at "pq"
      refine W.mono (many' tme) ?_
      rintro v s5 ⟨rfl, e⟩
      subst e
      cases c5 : manyB me 16 with
      | false =>
        walk_at "pq"
        exact end_same rfl ⟨rfl, rfl⟩
      | true =>
      walk_at "pq"
      refine W.mono (many' td) ?_
      rintro v s6 ⟨rfl, e⟩
      subst e
      cases c6 : manyB d 20 with
      | false =>
        walk_at "pq"
        exact end_same rfl ⟨rfl, rfl⟩
      | true =>
      walk_at "pq"
      refine w_nx ?_
      walk_at "pq"
      refine w_allG ?_
      refine w_seqT (xs := []) ?_
      walk_at "pq"
      refine ⟨_, rfl, _, _, gen_items (fun p => .bl (numB p 0 1)) (fun p hp => ?_), bools_map (fun p => numB p 0 1) [z, c, w, k], ?_⟩
      · walk_at "pq"
        refine ⟨rfl, ?_⟩
        walk_at "pq"
        have hp : Ty s6 p := by
          simp only [List.mem_cons, List.not_mem_nil, or_false] at hp
          rcases hp with rfl | rfl | rfl | rfl
          · exact tz.1
          · exact tc.1
          · exact tw.1
          · exact tk.1
        refine W.mono (number' hp) ?_
        rintro v s1 ⟨rfl, e⟩
        subst e
        exact ⟨rfl, .refl⟩
      simp only [List.map_cons, List.map_nil, List.all_cons, List.all_nil, id, Bool.and_true]
      cases c0 : (numB z 0 1 && (numB c 0 1 && (numB w 0 1 && numB k 0 1))) with
      | false =>
        walk_at "pq"
        exact end_same rfl ⟨rfl, rfl⟩
      | true =>
      walk_at "pq"
      refine w_nx ?_
      walk_at "pq"
      refine W.mono (number' tm.1) ?_
      rintro v s7 ⟨rfl, e⟩
      subst e
      cases c7 : numB m 0 63 with
      | false =>
        walk_at "pq"
        exact end_same rfl ⟨rfl, rfl⟩
      | true =>
      walk_at "pq"
      refine W.mono (number' tt.1) ?_
      rintro v s8 ⟨rfl, e⟩
      subst e
      cases c8 : numB t 0 4080 with
      | false =>
        walk_at "pq"
        exact end_same rfl ⟨rfl, rfl⟩
      | true =>
      walk_at "pq"
      refine w_nx ?_
      walk_at "pq"
      refine W.mono (number' tb.1) ?_
      rintro v s9 ⟨rfl, e⟩
      subst e
      cases c9 : numB b 0 4 with
      | false =>
        walk_at "pq"
        exact end_same rfl ⟨rfl, rfl⟩
      | true =>
      walk_at "pq"
      refine w_nx ?_
      walk_at "pq"
      simp only [Bool.and_eq_true] at c0
      obtain ⟨i, rfl, _⟩ := num_int c0.2.2.1
      obtain ⟨ik, rfl, _⟩ := num_int c0.2.2.2
      obtain ⟨ib, rfl, _⟩ := num_int c9
      obtain ⟨ir, rfl, _⟩ := num_int (p := r) (lo := 0) (hi := (rows.length : Int) - 1) (by unfold codeB at c2; simp only [Bool.and_eq_true] at c2; exact c2.1)
      walk_at "pq"
      refine w_dec (fun h0 => ?_) (fun h0 => ?_)
      · walk_at "pq"
        have : zB (.int i) = true := decide_eq_true h0
        rw [this]
        exact end_same rfl ⟨rfl, rfl⟩
      · have : zB (.int i) = false := decide_eq_false h0
        rw [this]
        walk_at "pq"
        refine W.mono may' ?_
        rintro v s9 ⟨rfl, e⟩
        subst e
        walk_at "pq"
        exact end_same rfl ⟨rfl, rfl⟩
    | _ => cases c0
end K32

set_option maxHeartbeats 2000000
namespace K32
open PySem PySem.Spec L2 My Pu LawP

theorem cutLo (xs : List PV) (k : Int) (h0 : 0 ≤ k) (h : k ≤ xs.length) : cutP xs none (some k) = xs.take k.toNat := by
  unfold cutP HT.sIx
  dsimp only
  rw [if_neg (by omega), List.drop_zero, Nat.sub_zero, Nat.min_eq_left (by omega)]
theorem cutHi (xs : List PV) (k : Int) (h0 : 0 ≤ k) (h : k ≤ xs.length) : cutP xs (some k) none = xs.drop k.toNat := by
  unfold cutP HT.sIx
  dsimp only
  rw [if_neg (by omega), Nat.min_eq_left (by omega), List.take_of_length_le (by rw [List.length_drop]; omega)]
theorem cutM (xs : List PV) (h : 1 ≤ xs.length) : cutP xs none (some (-1)) = xs.take (xs.length - 1) := by
  unfold cutP HT.sIx
  dsimp only
  rw [if_pos (by omega), List.drop_zero, Nat.sub_zero]
  congr 1
  omega
theorem set_at (xs : List PV) (n : Nat) (p : PV) (h : n < xs.length) : xs.take n ++ [p] ++ xs.drop (n + 1) = xs.set n p := by
  rw [List.set_eq_take_append_cons_drop, if_pos h, List.append_assoc]
  rfl
theorem gc_tup {st : Sto} {xs : List PV} {P : PV → Sto → Prop} (h : P (.tup xs) st) : W (gc st (.ok (.tup xs) st)) P := by
  unfold gc
  dsimp only
  split
  · split
    · exact W.of rfl (by rw [List.take_length]; exact h)
    · exact W.of rfl h
  · exact W.of rfl h
theorem with_W {st : Sto} {fs : List PV} {f : Int} {p : PV} (h0 : 0 ≤ f) (h1 : f < fs.length) (hl : fs.length ≤ 1000) : W (K32.p_law_with [.tup fs, .int f, p] st) (fun v st' => v = .tup (fs.set f.toNat p) ∧ st' = st) := by
  refine fn_W rfl ?_
  unfold b_p_law_with
  walk_at "p0"
  walk_at "pw"
  rw [cutLo fs f h0 (by omega)]
  refine w_addT (by rw [List.length_take]; simp; omega) ?_
  walk_at "pw"
  rw [cutHi fs (f + 1) (by omega) (by omega)]
  refine w_addT (by rw [List.length_append, List.length_take, List.length_drop]; simp; omega) ?_
  walk_at "pw"
  rw [show (f + 1).toNat = f.toNat + 1 by omega, set_at fs f.toNat p (by omega)]
  refine W.of rfl ?_
  refine gc_tup ?_
  exact ⟨rfl, rfl⟩
def mostI (f : Int) : Int := if f = 7 then 63 else if f = 8 then 4080 else if f = 9 then 4 else if f = 1 ∨ f = 2 then 255 else 1
def flds : List Int := [1, 2, 3, 4, 7, 8, 9, 10, 11]
theorem most_at : ∀ f ∈ flds, lookK (.inl f) [.inl 1, .inl 2, .inl 3, .inl 4, .inl 7, .inl 8, .inl 9, .inl 10, .inl 11] [PV.int 255, .int 255, .int 1, .int 1, .int 63, .int 4080, .int 4, .int 1, .int 1] = some (.int (mostI f)) := by
  intro f hf
  simp only [flds, List.mem_cons, List.not_mem_nil, or_false] at hf
  rcases hf with rfl | rfl | rfl | rfl | rfl | rfl | rfl | rfl | rfl <;> rfl
theorem most_W {st : Sto} {f : Int} (hf : f ∈ flds) : W (K32.p_law_most_of [.int f] st) (fun v st' => v = .int (mostI f) ∧ st' = st) := by
  refine fn_W rfl ?_
  unfold b_p_law_most_of
  walk_at "p0"
  refine w_ret (w_dget (w_dic ?_))
  walk_at "pw"
  refine ⟨by decide, ?_⟩
  walk_at "pw"
  refine w_dlookN (k := .inl f) rfl ?_
  refine ⟨_, most_at f hf, ?_⟩
  walk_at "pw"
  exact end_app rfl ⟨rfl, rfl⟩
end K32

set_option maxHeartbeats 2000000
namespace K32
open PySem PySem.Spec L2 My Pu LawP

def fieldB (rows : List Rw) (f : Nat) (p : PV) : Bool := match f with
  | 0 => codeB rows p
  | 1 => numB p 0 255
  | 2 => numB p 0 255
  | 5 => manyB p 16
  | 6 => manyB p 20
  | 7 => numB p 0 63
  | 8 => numB p 0 4080
  | 9 => numB p 0 4
  | _ => numB p 0 1
theorem stB_of (rows : List Rw) (r a x z c me d m t b w k : PV) : stB rows (.tup [r, a, x, z, c, me, d, m, t, b, w, k]) = (codeB rows r && (numB a 0 255 && (numB x 0 255 && (manyB me 16 && (manyB d 20 && ((numB z 0 1 && (numB c 0 1 && (numB w 0 1 && numB k 0 1))) && (numB m 0 63 && (numB t 0 4080 && (numB b 0 4 && (zB w || mayP rows r b k)))))))))) := rfl
theorem bad_at {rows : List Rw} {fs : List PV} {f : Nat} {p : PV} (hl : fs.length = 12) (hf : f < 12) (h : fieldB rows f p = false) : stB rows (.tup (fs.set f p)) = false := by
  obtain ⟨r, a, x, z, c, me, d, m, t, b, w, k, rfl⟩ := len12 hl
  match f, hf with
  | 0, _ | 1, _ | 2, _ | 3, _ | 4, _ | 5, _ | 6, _ | 7, _ | 8, _ | 9, _ | 10, _ | 11, _ =>
    simp only [fieldB] at h
    simp only [List.set_cons_zero, List.set_cons_succ, stB_of, h, Bool.false_and, Bool.and_false]
theorem bad_len {rows : List Rw} {fs : List PV} (h : fs.length ≠ 12) : stB rows (.tup fs) = false := stB_12 (by
  show decide ((fs.length : Int) = 12) = false
  rw [decide_eq_false]
  omega)
structure Fit (rows : List Rw) (fs : List PV) : Prop where
  len : fs.length = 12
  ok : ∀ f : Nat, f < 12 → ∀ p, fs[f]? = some p → fieldB rows f p = true
theorem Fit.set {rows : List Rw} {fs : List PV} {f : Nat} {p : PV} (h : Fit rows fs) (hp : fieldB rows f p = true) : Fit rows (fs.set f p) := by
  refine ⟨by rw [List.length_set]; exact h.len, fun g hg q e => ?_⟩
  rw [List.getElem?_set] at e
  split at e
  · rename_i c
    subst c
    split at e
    · cases e; exact hp
    · cases e
  · exact h.ok g hg q e
theorem Fit.st {rows : List Rw} {r a x z c me d m t b w k : PV} (h : Fit rows [r, a, x, z, c, me, d, m, t, b, w, k]) : stB rows (.tup [r, a, x, z, c, me, d, m, t, b, w, k]) = (zB w || mayP rows r b k) := by
  have e := fun f hf p => h.ok f hf p
  have e0 : codeB rows r = true := e 0 (by decide) r rfl
  have e1 : numB a 0 255 = true := e 1 (by decide) a rfl
  have e2 : numB x 0 255 = true := e 2 (by decide) x rfl
  have e3 : numB z 0 1 = true := e 3 (by decide) z rfl
  have e4 : numB c 0 1 = true := e 4 (by decide) c rfl
  have e5 : manyB me 16 = true := e 5 (by decide) me rfl
  have e6 : manyB d 20 = true := e 6 (by decide) d rfl
  have e7 : numB m 0 63 = true := e 7 (by decide) m rfl
  have e8 : numB t 0 4080 = true := e 8 (by decide) t rfl
  have e9 : numB b 0 4 = true := e 9 (by decide) b rfl
  have e10 : numB w 0 1 = true := e 10 (by decide) w rfl
  have e11 : numB k 0 1 = true := e 11 (by decide) k rfl
  rw [stB_of, e0, e1, e2, e3, e4, e5, e6, e7, e8, e9, e10, e11]
  rfl
theorem Fit.good {rows : List Rw} {fs : List PV} (h : Fit rows fs) (w : fs[10]? = some (.int 0)) : stB rows (.tup fs) = true := by
  obtain ⟨r, a, x, z, c, me, d, m, t, b, w', k, rfl⟩ := len12 h.len
  cases (show some w' = some (.int 0) from w)
  rw [h.st]
  rfl
def tyO : PO → Option String
  | .lst _ => some "list"
  | .fro _ => some "list"
  | .dic _ _ => some "dict"
  | _ => none
theorem tyP_ref (st : Sto) (j : Nat) : tyP st (.ref j) = (st[j]?).bind tyO := by
  show (match st[j]? with | some (.dic _ _) => some "dict" | _ => (getL st j).map fun _ => "list") = _
  unfold getL
  cases h : st[j]? with
  | none => rfl
  | some o => cases o <;> rfl
def Keep (st st' : Sto) : Prop := ∀ p T, tyP st p = some T → tyP st' p = some T
theorem Keep.refl {st : Sto} : Keep st st := fun _ _ h => h
theorem Keep.trans {a b c : Sto} (h : Keep a b) (k : Keep b c) : Keep a c := fun p T e => k p T (h p T e)
theorem keep_ref {st st' : Sto} (h : ∀ (j : Nat) T, (st[j]?).bind tyO = some T → (st'[j]?).bind tyO = some T) : Keep st st' := fun p T e => by
  cases p with
  | ref j => rw [tyP_ref] at e ⊢; exact h j T e
  | _ => exact e
theorem keep_app {st g : Sto} : Keep st (st ++ g) := keep_ref fun j T e => by
  cases z : st[j]? with
  | none => rw [z] at e; cases e
  | some o => rw [at_app z]; rw [z] at e; exact e
theorem keep_set {st : Sto} {l : Nat} {o o' : PO} (h : st[l]? = some o') (k : tyO o' = some "list") (k' : tyO o = some "list") : Keep st (st.set l o) := keep_ref fun j T e => by
  rw [List.getElem?_set]
  split
  · rename_i c
    subst c
    rw [h] at e
    have e : tyO o' = some T := e
    rw [k] at e
    cases e
    rw [if_pos (List.getElem?_eq_some_iff.mp h).1]
    exact k'
  · exact e
theorem deck_ty {o : PO} (h : IsDeck o) : tyO o = some "list" := by
  obtain ⟨ds, rfl, _⟩ := h
  rfl
theorem keep_draw {st : Sto} {l : Nat} {o : PO} (h : Deck st l) (d : IsDeck o) : Keep st (st.set l o) := by
  obtain ⟨o', e, d'⟩ := h
  exact keep_set e (deck_ty d') (deck_ty d)
theorem keep_av {st sx : Sto} {l : Nat} (h : Deck st l) (a : Av st l sx) : Keep st sx := by
  obtain ⟨o, g, d, rfl⟩ := a
  exact (keep_draw h d).trans keep_app
theorem keep_put {st : Sto} {k : Nat} {xs ys : List PV} (h : getM st k = some xs) : Keep st (st.set k (.lst ys)) := keep_set (getM_at h) rfl rfl
theorem Ty.keep {st st' : Sto} {p : PV} (k : Keep st st') (h : Ty st p) : Ty st' p := by
  obtain ⟨T, e⟩ := h
  exact ⟨T, k p T e⟩
theorem TyL.keep {st st' : Sto} {p : PV} (k : Keep st st') (h : TyL st p) : TyL st' p := ⟨Ty.keep k h.1, fun xs e x hx => Ty.keep k (h.2 xs e x hx)⟩
theorem TyS.keep {st st' : Sto} {p : PV} (k : Keep st st') (h : TyS st p) : TyS st' p := ⟨Ty.keep k h.1, fun xs e x hx => TyL.keep k (h.2 xs e x hx)⟩
theorem tyL_int {st : Sto} (i : Int) : TyL st (.int i) := ⟨⟨_, rfl⟩, fun _ e => by cases e⟩
theorem tyL_non {st : Sto} : TyL st .non := ⟨⟨_, rfl⟩, fun _ e => by cases e⟩
theorem tyL_bl {st : Sto} (b : Bool) : TyL st (.bl b) := ⟨⟨_, rfl⟩, fun _ e => by cases e⟩
theorem tyL_str {st : Sto} (z : Str) : TyL st (.str z) := ⟨⟨_, rfl⟩, fun _ e => by cases e⟩
theorem tyL_tup {st : Sto} {xs : List PV} (h : ∀ x ∈ xs, Ty st x) : TyL st (.tup xs) := ⟨⟨_, rfl⟩, fun _ e => by cases e; exact h⟩
theorem tyL_ref {st : Sto} {j : Nat} {o : PO} (h : st[j]? = some o) (k : (tyO o).isSome = true) : TyL st (.ref j) := by
  refine ⟨?_, fun _ e => by cases e⟩
  obtain ⟨T, e⟩ := Option.isSome_iff_exists.mp k
  exact ⟨T, by rw [tyP_ref, h]; exact e⟩
def TyF (st : Sto) (fs : List PV) : Prop := ∀ x ∈ fs, TyL st x
theorem TyF.keep {st st' : Sto} {fs : List PV} (k : Keep st st') (h : TyF st fs) : TyF st' fs := fun x hx => TyL.keep k (h x hx)
theorem TyF.set {st : Sto} {fs : List PV} {f : Nat} {p : PV} (h : TyF st fs) (hp : TyL st p) : TyF st (fs.set f p) := fun x hx => by
  rcases List.mem_or_eq_of_mem_set hx with hx | rfl
  · exact h x hx
  · exact hp
theorem TyF.s {st : Sto} {fs : List PV} (h : TyF st fs) : TyS st (.tup fs) := ⟨⟨_, rfl⟩, fun _ e => by cases e; exact h⟩
theorem tyS_of {st : Sto} {p : PV} (h : Ty st p) (n : ∀ xs, p ≠ .tup xs) : TyS st p := ⟨h, fun xs e => absurd e (n xs)⟩
def Bad (st : Sto) (rows : List Rw) (p : PV) : Prop := TyS st p ∧ stB rows p = false
theorem Bad.keep {st st' : Sto} {rows : List Rw} {p : PV} (k : Keep st st') (h : Bad st rows p) : Bad st' rows p := ⟨TyS.keep k h.1, h.2⟩
theorem bad_set {st : Sto} {rows : List Rw} {fs : List PV} {f : Nat} {p : PV} (hl : fs.length = 12) (hf : f < 12) (t : TyF st fs) (tp : TyL st p) (h : fieldB rows f p = false) : Bad st rows (.tup (fs.set f p)) := ⟨(t.set tp).s, bad_at hl hf h⟩
theorem bad_other {st : Sto} {rows : List Rw} {p : PV} (h : Ty st p) (n : ∀ xs, p ≠ .tup xs) : Bad st rows p := ⟨tyS_of h n, by
  unfold stB
  split
  · exact absurd rfl (n _)
  · rfl⟩
end K32

set_option maxHeartbeats 2000000
namespace K32
open PySem PySem.Spec L2 My Pu LawP

structure Fs (fs : List PV) (row : Int) : Prop where
  eq : ∃ (a x z c m t b k : Int) (mem ds : List Int), fs = [.int row, .int a, .int x, .int z, .int c, .tup (mem.map PV.int), .tup (ds.map PV.int), .int m, .int t, .int b, .int 0, .int k] ∧ (0 ≤ a ∧ a < 256) ∧ (0 ≤ x ∧ x < 256) ∧ (0 ≤ z ∧ z < 2) ∧ (0 ≤ c ∧ c < 2) ∧ (0 ≤ m ∧ m < 64) ∧ (0 ≤ t ∧ t ≤ 4080) ∧ (0 ≤ b ∧ b < 5) ∧ (0 ≤ k ∧ k < 2) ∧ mem.length = 16 ∧ LawP.Bytes mem ∧ ds.length = 20 ∧ LawP.Bytes ds
theorem state2_W {st : Sto} {l : Nat} {row : Int} (h : Deck st l) : W (LawP.p_law_state [.ref l, .int row] st) (Drawn st l fun s => ∃ fs, s = .tup fs ∧ Fs fs row) := by
  have hl := h.lt
  refine fn_W rfl ?_
  unfold LawP.b_p_law_state
  walk_at "p0"
  walk_at "pw"
  refine W.mono (next_W h) ?_
  rintro v s1 ⟨fl, o1, rfl, hf, ho1, e⟩
  have a1 : Av st l s1 := by rw [e]; exact (Av.start h).draw hl ho1
  clear e
  walk_at "pw"
  refine W.mono (LawP.byte_W (a1.deck hl)) ?_
  rintro v s2 ⟨⟨a, rfl, ha⟩, o2, ho2, e⟩
  have a2 : Av st l s2 := by rw [e]; exact a1.draw hl ho2
  clear e
  walk_at "pw"
  refine W.mono (LawP.byte_W (a2.deck hl)) ?_
  rintro v s3 ⟨⟨x, rfl, hx⟩, o3, ho3, e⟩
  have a3 : Av st l s3 := by rw [e]; exact a2.draw hl ho3
  clear e
  walk_at "pw"
  walk_at "ps"
  refine W.mono (LawP.memory_W (a3.deck hl)) ?_
  rintro v s4 ⟨rfl, o4, xs, ho4, ⟨mem, rfl, hm, hm2⟩, e⟩
  have a4 : Av st l s4 := by rw [e]; exact (a3.draw hl ho4).new
  have g4 : getM s4 s3.length = some (mem.map PV.int) := by
    have z := getM_last (s3.set l o4) (mem.map PV.int)
    rw [List.length_set] at z
    rw [e]
    exact z
  clear e
  walk_at "pw"
  refine w_tupL (getM_L g4) ?_
  walk_at "pw"
  refine W.mono (next_W (a4.deck hl)) ?_
  rintro v s5 ⟨f, o5, rfl, hf5, ho5, e⟩
  have a5 : Av st l s5 := by rw [e]; exact a4.draw hl ho5
  clear e
  walk_at "pw"
  refine w_one ⟨by omega, by omega⟩ ?_
  walk_at "ps"
  refine lc_items (fun i acc sx => sx = s5 ∧ ∃ ds : List Int, acc = ds.map PV.int ∧ ds.length = i ∧ LawP.Bytes ds) ⟨rfl, [], rfl, rfl, fun _ q => by cases q⟩ (fun i p acc sx hp h => ?_) (fun acc sx h => ?_)
  · obtain ⟨rfl, ds, rfl, q2, q3⟩ := h
    obtain ⟨hi, rfl⟩ := range_at hp
    walk_at "pw"
    exact ⟨by rw [List.length_map]; omega, rfl, ds ++ [_], by rw [List.map_append]; rfl, by simp [q2], fun d hd => by
      rcases List.mem_append.mp hd with hd | hd
      · exact q3 d hd
      · rw [List.mem_singleton.mp hd]; exact mod_bound _ (by decide)⟩
  · obtain ⟨rfl, ds, rfl, q2, q3⟩ := h
    walk_at "pw"
    refine w_tupL (getL_last _ _) ?_
    walk_at "pw"
    walk_at "ps"
    refine w_addT (by simp) ?_
    walk_at "pw"
    refine w_addT (by simp) ?_
    rw [range_len] at q2
    refine a5.new.fin ?_ ⟨_, rfl, ⟨a, x, fl % 2, fl / 2 % 2, fl / 4 % 64, f * 4, fl / 7 % 5, fl / 3 % 2, mem, ds, rfl, ha, hx, ⟨by omega, by omega⟩, ⟨by omega, by omega⟩, ⟨by omega, by omega⟩, ⟨by omega, by omega⟩, ⟨by omega, by omega⟩, ⟨by omega, by omega⟩, hm, hm2, q2, q3⟩⟩
    show (true && (true && (true && (true && (true && (noRefL (mem.map PV.int) && (noRefL (ds.map PV.int) && _))))))) = true
    rw [noRefL_ints, noRefL_ints]
    rfl
theorem bytes_all {ds : List Int} (h : LawP.Bytes ds) : bytesB (.tup (ds.map PV.int)) = true := by
  show (ds.map PV.int).all (fun x => numB x 0 255) = true
  rw [List.all_map, List.all_eq_true]
  intro d hd
  have := h d hd
  exact decide_eq_true ⟨this.1, by omega⟩
theorem many_ok {ds : List Int} {n : Nat} (h : LawP.Bytes ds) (hl : ds.length = n) : manyB (.tup (ds.map PV.int)) n = true := by
  unfold manyB
  rw [bytes_all h]
  show (true && decide (((ds.map PV.int).length : Int) = n)) = true
  rw [List.length_map, hl]
  simp
theorem num_ok {i lo hi : Int} (h : lo ≤ i ∧ i ≤ hi) : numB (.int i) lo hi = true := decide_eq_true h
theorem Fs.fit {rows : List Rw} {fs : List PV} {row : Int} (h : Fs fs row) (hc : codeB rows (.int row) = true) : Fit rows fs := by
  obtain ⟨a, x, z, c, m, t, b, k, mem, ds, rfl, ha, hx, hz, hc', hm, ht, hb, hk, l1, b1, l2, b2⟩ := h.eq
  refine ⟨rfl, fun f hf p e => ?_⟩
  match f, hf with
  | 0, _ => cases e; exact hc
  | 1, _ => cases e; exact num_ok ⟨ha.1, by omega⟩
  | 2, _ => cases e; exact num_ok ⟨hx.1, by omega⟩
  | 3, _ => cases e; exact num_ok ⟨hz.1, by omega⟩
  | 4, _ => cases e; exact num_ok ⟨hc'.1, by omega⟩
  | 5, _ => cases e; exact many_ok b1 l1
  | 6, _ => cases e; exact many_ok b2 l2
  | 7, _ => cases e; exact num_ok ⟨hm.1, by omega⟩
  | 8, _ => cases e; exact num_ok ⟨ht.1, by omega⟩
  | 9, _ => cases e; exact num_ok ⟨hb.1, by omega⟩
  | 10, _ => cases e; exact num_ok (i := 0) (lo := 0) (hi := 1) ⟨by decide, by decide⟩
  | 11, _ => cases e; exact num_ok ⟨hk.1, by omega⟩
theorem tyL_ints {st : Sto} (ds : List Int) : TyL st (.tup (ds.map PV.int)) := tyL_tup fun x hx => by
  obtain ⟨d, _, rfl⟩ := List.mem_map.mp hx
  exact ⟨_, rfl⟩
theorem Fs.ty {st : Sto} {fs : List PV} {row : Int} (h : Fs fs row) : TyF st fs := by
  obtain ⟨a, x, z, c, m, t, b, k, mem, ds, rfl, _⟩ := h.eq
  intro p hp
  simp only [List.mem_cons, List.not_mem_nil, or_false] at hp
  rcases hp with rfl | rfl | rfl | rfl | rfl | rfl | rfl | rfl | rfl | rfl | rfl | rfl
  · exact tyL_int _
  · exact tyL_int _
  · exact tyL_int _
  · exact tyL_int _
  · exact tyL_int _
  · exact tyL_ints _
  · exact tyL_ints _
  · exact tyL_int _
  · exact tyL_int _
  · exact tyL_int _
  · exact tyL_int _
  · exact tyL_int _
theorem Fs.len {fs : List PV} {row : Int} (h : Fs fs row) : fs.length = 12 := by
  obtain ⟨a, x, z, c, m, t, b, k, mem, ds, rfl, _⟩ := h.eq
  rfl
theorem Fs.flat {fs : List PV} {row : Int} (h : Fs fs row) : noRefL fs = true := by
  obtain ⟨a, x, z, c, m, t, b, k, mem, ds, rfl, _⟩ := h.eq
  show (true && (true && (true && (true && (true && (noRefL (mem.map PV.int) && (noRefL (ds.map PV.int) && _))))))) = true
  rw [noRefL_ints, noRefL_ints]
  rfl
end K32

set_option maxHeartbeats 2000000
namespace K32
open PySem PySem.Spec L2 My Pu LawP

theorem ins_get {α : Type} (P : List α) (w : α) (n : Nat) (h : n ≤ P.length) (i : Nat) : (P.take n ++ [w] ++ P.drop n)[i]? = if i < n then P[i]? else if i = n then some w else P[i - 1]? := by
  have e : (P.take n).length = n := by rw [List.length_take]; omega
  rw [List.append_assoc, List.getElem?_append, e]
  by_cases c : i < n
  · rw [if_pos c, if_pos c, List.getElem?_take_of_lt c]
  · rw [if_neg c, if_neg c]
    by_cases c1 : i = n
    · subst c1
      rw [if_pos rfl, Nat.sub_self]
      rfl
    · rw [if_neg c1]
      obtain ⟨k, rfl⟩ : ∃ k, i = n + (k + 1) := ⟨i - n - 1, by omega⟩
      rw [show n + (k + 1) - n = k + 1 by omega, show n + (k + 1) - 1 = n + k by omega]
      show (P.drop n)[k]? = _
      rw [List.getElem?_drop]
structure WOk (rows : List Rw) (n many : Nat) : Prop where
  lo : many + 1 ≤ rows.length
  hi : rows.length ≤ 100
  lt : n < many
  known : Known rows
  wait : dOf rows n = "wait"
  code : ∀ i : Nat, i ≤ many → dOf rows i ≠ "data"
  tabs : ∀ i : Nat, many < i → i < rows.length → dOf rows i = "data"
  flat : noRef (progP rows) = true
theorem wok_of {P : List Rw} {many some' n : Nat} (h : FreeOk P many some') (hm : many ≤ 40) (hs : some' ≤ 20) (hn : n < many) : WOk (P.take n ++ [(("", "wait", .non) : Rw)] ++ P.drop n) n many := by
  have pr := prg_free h
  have hl := h.len
  have len : (P.take n ++ [(("", "wait", .non) : Rw)] ++ P.drop n).length = P.length + 1 := by
    rw [List.length_append, List.length_append, List.length_take, List.length_drop]
    simp
    omega
  have g := ins_get P (("", "wait", .non) : Rw) n (by omega)
  have isd : ∀ i : Nat, dOf (P.take n ++ [(("", "wait", .non) : Rw)] ++ P.drop n) i = if i < n then dOf P i else if i = n then "wait" else dOf P (i - 1) := fun i => by
    unfold dOf
    rw [g]
    split
    · rfl
    · split <;> rfl
  have up : ∀ i : Nat, i < many → dOf P i ≠ "data" := fun i hi => by
    have e : P[i]? = some P[i] := List.getElem?_eq_getElem (by omega)
    obtain ⟨a, ha, e1, _⟩ := h.ups i _ hi e
    unfold dOf
    rw [e]
    show P[i].2.1 ≠ "data"
    rw [e1]
    exact (tabA30 a ha).2.1
  have tb : ∀ i : Nat, many ≤ i → i < P.length → dOf P i = "data" := fun i hi hi2 => by
    have e : P[i]? = some P[i] := List.getElem?_eq_getElem hi2
    unfold dOf
    rw [e]
    exact (h.tabs i _ hi e).1
  refine ⟨by rw [len]; omega, by rw [len]; omega, hn, fun r hr => ?_, ?_, fun i hi => ?_, fun i hi hi2 => ?_, ?_⟩
  · rcases List.mem_append.mp hr with hr | hr
    · rcases List.mem_append.mp hr with hr | hr
      · exact pr.known r (List.mem_of_mem_take hr)
      · rw [List.mem_singleton.mp hr]; show ("wait" : Str) ∈ names; decide +kernel
    · exact pr.known r (List.mem_of_mem_drop hr)
  · rw [isd, if_neg (by omega), if_pos rfl]
  · rw [isd]
    split
    · exact up i (by omega)
    · split
      · decide +kernel
      · exact up _ (by omega)
  · rw [len] at hi2
    rw [isd, if_neg (by omega), if_neg (by omega)]
    exact tb _ (by omega) (by omega)
  · refine noRefL_rowsP fun r hr => ?_
    have pf : ∀ q ∈ P, noRef q.2.2 = true := fun q hq => by
      have z := pr.flat
      obtain ⟨j, hj, e⟩ := List.mem_iff_getElem.mp hq
      have e1 : P[j]? = some q := by rw [List.getElem?_eq_getElem hj, e]
      by_cases c : j < many
      · obtain ⟨a, _, _, v, _⟩ := pr.ups j q c e1
        exact v.flat
      · obtain ⟨_, b, eb, _⟩ := pr.tabs j q (by omega) e1
        rw [eb]; rfl
    rcases List.mem_append.mp hr with hr | hr
    · rcases List.mem_append.mp hr with hr | hr
      · exact pf r (List.mem_of_mem_take hr)
      · rw [List.mem_singleton.mp hr]; rfl
    · exact pf r (List.mem_of_mem_drop hr)
theorem waiting_W {st : Sto} {l : Nat} (h : Deck st l) : W (K32.p_law_waiting [.ref l] st) (Drawn st l fun v => ∃ (rows : List Rw) (n many : Nat), v = .tup [progP rows, .int ((n : Int) + 1), .int ((many : Int) + 1)] ∧ WOk rows n many) := by
  have hl := h.lt
  refine fn_W rfl ?_
  unfold b_p_law_waiting
  walk_at "p0"
  walk_at "pq"
  refine W.mono (next_W h) ?_
  rintro v s1 ⟨n1, o1, rfl, hn1, ho1, e⟩
  have a1 : Av st l s1 := by rw [e]; exact (Av.start h).draw hl ho1
  clear e
  walk_at "pq"
  walk_at "ps"
  refine w_nx ?_
  have b1 := mod_bound n1 (m := 28) (by decide)
  obtain ⟨many, em, hm⟩ : ∃ many : Nat, 1 + n1 % 28 = many ∧ 1 ≤ many ∧ many ≤ 28 := ⟨(1 + n1 % 28).toNat, by omega, by omega, by omega⟩
  rw [em]
  walk_at "pq"
  refine W.mono (next_W (a1.deck hl)) ?_
  rintro v s2 ⟨n2, o2, rfl, hn2, ho2, e⟩
  have a2 : Av st l s2 := by rw [e]; exact a1.draw hl ho2
  clear e
  walk_at "pq"
  have b2 := mod_bound n2 (m := 9) (by decide)
  obtain ⟨some', es, hs⟩ : ∃ some' : Nat, n2 % 9 = some' ∧ some' ≤ 8 := ⟨(n2 % 9).toNat, by omega, by omega⟩
  rw [es]
  refine W.mono (free_W (a2.deck hl) (by omega) (by omega)) ?_
  rintro v s3 ⟨⟨P, rfl, ok⟩, o3, ho3, e⟩
  have a3 : Av st l s3 := by rw [e]; exact a2.draw hl ho3
  clear e
  walk_at "pq"
  walk_at "ps"
  refine w_nx ?_
  walk_at "pq"
  refine W.mono (next_W (a3.deck hl)) ?_
  rintro v s4 ⟨n4, o4, rfl, hn4, ho4, e⟩
  have a4 : Av st l s4 := by rw [e]; exact a3.draw hl ho4
  clear e
  walk_at "pq"
  refine w_mod (by omega) ?_
  have b4 := mod_bound n4 (m := (many : Int)) (by omega)
  obtain ⟨n, en, hn⟩ : ∃ n : Nat, n4 % (many : Int) = n ∧ n < many := ⟨(n4 % (many : Int)).toNat, by omega, by omega⟩
  rw [en]
  walk_at "pq"
  walk_at "ps"
  refine w_nx ?_
  have lenP := ok.len
  walk_at "pq"
  unfold progP
  refine w_slT ?_
  rw [cutLo _ _ (by omega) (by rw [List.length_map]; omega), Int.toNat_natCast, ← List.map_take]
  walk_at "pq"
  refine w_addT (by rw [List.length_map, List.length_take]; simp; omega) ?_
  walk_at "pq"
  rw [cutHi _ _ (by omega) (by rw [List.length_map]; omega), Int.toNat_natCast, ← List.map_drop]
  refine w_addT (by rw [List.length_append, List.length_map, List.length_take, List.length_map, List.length_drop]; simp; omega) ?_
  walk_at "pq"
  have er : (P.take n).map rowP ++ [PV.tup [.str "", .str "wait", .non]] ++ (P.drop n).map rowP = (P.take n ++ [(("", "wait", .non) : Rw)] ++ P.drop n).map rowP := by
    rw [List.map_append, List.map_append]; rfl
  rw [er]
  have wk := wok_of ok (by omega) (by omega) hn
  refine a4.fin ?_ ⟨_, n, many, rfl, wk⟩
  show (noRef (progP (P.take n ++ [(("", "wait", .non) : Rw)] ++ P.drop n)) && _) = true
  rw [wk.flat]
  rfl
theorem code_true {rows : List Rw} {n many : Nat} {i : Int} (h : WOk rows n many) (h0 : 0 ≤ i ∧ i ≤ many) : codeB rows (.int i) = true := by
  have := h.lo
  have e1 : numB (.int i) 0 ((rows.length : Int) - 1) = true := num_ok ⟨h0.1, by omega⟩
  unfold codeB
  rw [e1]
  show (true && !decide (dOf rows i.toNat = "data")) = true
  rw [decide_eq_false (h.code _ (by omega))]
  rfl
theorem code_many {rows : List Rw} {n many : Nat} (h : WOk rows n many) : codeB rows (.int ((many : Int) + 1)) = false := by
  have := h.lo
  unfold codeB
  by_cases c : many + 1 < rows.length
  · show (_ && !decide (dOf rows ((many : Int) + 1).toNat = "data")) = false
    rw [decide_eq_true (h.tabs _ (by omega) (by omega)), Bool.not_true, Bool.and_false]
  · rw [show numB (.int ((many : Int) + 1)) 0 ((rows.length : Int) - 1) = false from decide_eq_false (by omega)]
    rfl
end K32

set_option maxHeartbeats 2000000
namespace K32
open PySem PySem.Spec L2 My Pu LawP

def okT : PV → Bool
  | .bl b => b
  | .int _ => true
  | .non => true
  | .str _ => true
  | .tup _ => true
  | _ => false
theorem cond_W {st : Sto} {p q r s : PV} {n : Int} (hp : okT p = true) : W (tOrP (tOf (e2 isCP (eVar 4) (eC (.bl true)))) (tOf (eRngN (eVar 4) (aCons (eVar 2) aNil))) [some q, some r, some (.int n), some s, some p] st) (fun _ st' => st' = st) := by
  walk_at "pq"
  refine w_isC ?_
  walk_at "pq"
  cases p with
  | bl b =>
    cases b with
    | true =>
      rw [show isBl (.bl true) true = true from rfl]
      walk_at "pq"
      rfl
    | false => cases hp
  | int i =>
    rw [show isBl (.int i) true = false from rfl]
    walk_at "pq"
    refine w_rngN ?_
    walk_at "pq"
    refine ⟨n, rfl, ?_⟩
    walk_at "pq"
    rfl
  | non =>
    rw [show isBl .non true = false from rfl]
    walk_at "pq"
    refine w_rngN ?_
    walk_at "pq"
    refine ⟨n, rfl, ?_⟩
    walk_at "pq"
    rfl
  | str i =>
    rw [show isBl (.str i) true = false from rfl]
    walk_at "pq"
    refine w_rngN ?_
    walk_at "pq"
    refine ⟨n, rfl, ?_⟩
    walk_at "pq"
    rfl
  | tup i =>
    rw [show isBl (.tup i) true = false from rfl]
    walk_at "pq"
    refine w_rngN ?_
    walk_at "pq"
    refine ⟨n, rfl, ?_⟩
    walk_at "pq"
    rfl
  | _ => cases hp
theorem noRefL_set {fs : List PV} {f : Nat} {p : PV} (h : noRefL fs = true) (hp : noRef p = true) : noRefL (fs.set f p) = true := by
  induction fs generalizing f with
  | nil => rfl
  | cons x xs ih =>
    have h : (noRef x && noRefL xs) = true := h
    rw [Bool.and_eq_true] at h
    cases f with
    | zero => show (noRef p && noRefL xs) = true; rw [hp, h.2]; rfl
    | succ f => show (noRef x && noRefL (xs.set f p)) = true; rw [h.1, ih h.2]; rfl
theorem noRefL_app' : ∀ xs ys : List PV, noRefL (xs ++ ys) = (noRefL xs && noRefL ys)
  | [], ys => rfl
  | x :: xs, ys => by
    show (noRef x && noRefL (xs ++ ys)) = ((noRef x && noRefL xs) && noRefL ys)
    rw [noRefL_app' xs ys, Bool.and_assoc]
theorem no_rows_W {st : Sto} {rows : List Rw} {n many : Nat} {fs : List PV} {row : Int} (w : WOk rows n many) (hf : Fs fs row) :
    W (K32.p_law_no_rows [progP rows, .tup fs, .int ((many : Int) + 1)] st) (fun v st' => v = .ref st.length ∧ ∃ xs, st' = st ++ [.lst xs] ∧ xs.length ≤ 7 ∧ noRefL xs = true ∧ ∀ S, ∀ p ∈ xs, Bad S rows p) := by
  have lo := w.lo
  have len := hf.len
  refine fn_W rfl ?_
  unfold b_p_law_no_rows
  walk_at "p0"
  walk_at "pq"
  unfold progP
  refine w_lenT ?_
  walk_at "pq"
  rw [List.length_map]
  have things : ∀ p ∈ ([.int (-1), .int ((many : Int) + 1), .int (rows.length : Int), .bl true, .non, .str "0", .tup [.int 0]] : List PV), okT p = true ∧ noRef p = true ∧ (∀ S, TyL S p) ∧ codeB rows p = false := by
    intro p hp
    simp only [List.mem_cons, List.not_mem_nil, or_false] at hp
    rcases hp with rfl | rfl | rfl | rfl | rfl | rfl | rfl
    · exact ⟨rfl, rfl, fun _ => tyL_int _, rfl⟩
    · exact ⟨rfl, rfl, fun _ => tyL_int _, code_many w⟩
    · refine ⟨rfl, rfl, fun _ => tyL_int _, ?_⟩
      unfold codeB
      rw [show numB (.int (rows.length : Int)) 0 ((rows.length : Int) - 1) = false from decide_eq_false (by omega)]
      rfl
    · exact ⟨rfl, rfl, fun _ => tyL_bl _, rfl⟩
    · exact ⟨rfl, rfl, fun _ => tyL_non, rfl⟩
    · exact ⟨rfl, rfl, fun _ => tyL_str _, rfl⟩
    · exact ⟨rfl, rfl, fun _ => tyL_tup fun x hx => by rw [List.mem_singleton.mp hx]; exact ⟨_, rfl⟩, rfl⟩
  have g1 := getL_last st ([.int (-1), .int ((many : Int) + 1), .int (rows.length : Int), .bl true, .non, .str "0", .tup [.int 0]] : List PV)
  have p1 : Pre st (st ++ [.lst ([.int (-1), .int ((many : Int) + 1), .int (rows.length : Int), .bl true, .non, .str "0", .tup [.int 0]] : List PV)]) := .app
  have len7 : ([.int (-1), .int ((many : Int) + 1), .int (rows.length : Int), .bl true, .non, .str "0", .tup [.int 0]] : List PV).length = 7 := rfl
  show Nx _ _ (SO.nx _) (st ++ [.lst ([.int (-1), .int ((many : Int) + 1), .int (rows.length : Int), .bl true, .non, .str "0", .tup [.int 0]] : List PV)])
  generalize ([.int (-1), .int ((many : Int) + 1), .int (rows.length : Int), .bl true, .non, .str "0", .tup [.int 0]] : List PV) = ys at *
  generalize st ++ [PO.lst ys] = s1 at *
  walk_at "ps"
  refine w_nx ?_
  walk_at "pq"
  refine w_seqL ?_
  walk_at "pq"
  refine ⟨_, _, rfl, g1, ?_⟩
  refine lc_list (fun i acc sx => sx = s1 ∧ acc.length ≤ i ∧ noRefL acc = true ∧ ∀ S, ∀ p ∈ acc, Bad S rows p) ⟨rfl, Nat.le_refl _, rfl, fun _ _ q => by cases q⟩ (fun i acc sx q => by rw [q.1]; exact g1) (fun i p acc sx hp q => ?_) (fun acc sx q => ?_)
  · obtain ⟨rfl, q1, q2, q3⟩ := q
    obtain ⟨t1, t2, t3, t4⟩ := things p (List.mem_of_getElem? hp)
    have hi : i < ys.length := (List.getElem?_eq_some_iff.mp hp).1
    refine w_gN ?_
    refine W.mono (cond_W t1) ?_
    rintro k s2 e
    subst e
    cases k with
    | false =>
      rw [if_neg (by decide)]
      exact ⟨rfl, by omega, q2, q3⟩
    | true =>
      rw [if_pos rfl]
      walk_at "pq"
      refine W.mono (with_W (by omega) (by omega) (by omega)) ?_
      rintro v s3 ⟨rfl, e⟩
      refine ⟨by omega, e, by rw [List.length_append]; simp; omega, ?_, fun S q hq => ?_⟩
      · rw [noRefL_app', q2]
        show (true && (noRefL (fs.set 0 p) && true)) = true
        rw [noRefL_set hf.flat t2]
        rfl
      · rcases List.mem_append.mp hq with hq | hq
        · exact q3 S q hq
        · rw [List.mem_singleton.mp hq]
          exact bad_set len (by decide) hf.ty (t3 S) t4
  · obtain ⟨rfl, q1, q2, q3⟩ := q
    walk_at "pq"
    exact end_newP p1 q2 ⟨rfl, acc, rfl, by omega, q2, q3⟩
end K32

set_option maxHeartbeats 2000000
namespace K32
open PySem PySem.Spec L2 My Pu LawP

def Part (S : Sto) (n : Int) (p : PV) : Prop := TyL S p ∧ manyB p n = false
theorem Part.keep {S S' : Sto} {n : Int} {p : PV} (k : Keep S S') (h : Part S n p) : Part S' n p := ⟨TyL.keep k h.1, h.2⟩
theorem part_in {S : Sto} {n : Int} {xs : List PV} {x : PV} (t : ∀ y ∈ xs, Ty S y) (hx : x ∈ xs) (h : numB x 0 255 = false) : Part S n (.tup xs) := by
  refine ⟨tyL_tup t, ?_⟩
  unfold manyB
  have : bytesB (.tup xs) = false := by
    show xs.all (fun x => numB x 0 255) = false
    rw [List.all_eq_false]
    exact ⟨x, hx, by rw [h]; decide⟩
  rw [this]
  rfl
theorem part_len {S : Sto} {n : Int} {xs : List PV} (t : ∀ y ∈ xs, Ty S y) (h : (xs.length : Int) ≠ n) : Part S n (.tup xs) := by
  refine ⟨tyL_tup t, ?_⟩
  unfold manyB
  show (_ && decide ((xs.length : Int) = n)) = false
  rw [decide_eq_false h, Bool.and_false]
theorem ty_ints {S : Sto} {ds : List Int} : ∀ y ∈ ds.map PV.int, Ty S y := fun y hy => by
  obtain ⟨d, _, rfl⟩ := List.mem_map.mp hy
  exact ⟨_, rfl⟩
theorem noRefL_false {xs : List PV} {x : PV} (hx : x ∈ xs) (h : noRef x = false) : noRefL xs = false := by
  induction xs with
  | nil => cases hx
  | cons y ys ih =>
    show (noRef y && noRefL ys) = false
    rcases List.mem_cons.mp hx with rfl | hx
    · rw [h]; rfl
    · rw [ih hx, Bool.and_false]
theorem gc_keep {st S : Sto} {j : Nat} {xs : List PV} {P : PV → Sto → Prop} (g : getM S j = some xs) (h : noRefL xs = false) (q : P (.ref j) S) : W (gc st (.ok (.ref j) S)) P := by
  unfold gc
  dsimp only
  split
  · rw [if_neg (fun z : noRef (.ref j) = true => by cases z)]
    rw [getM_at g]
    dsimp only
    rw [if_neg (fun z => by have z2 : noRefL xs = true := z.2; rw [h] at z2; cases z2)]
    exact W.of rfl q
  · exact W.of rfl q
theorem no_bytes_W {st : Sto} {l : Nat} {rows : List Rw} {fs : List PV} {row : Int} {f n : Nat} {ds : List Int} (h : Deck st l) (hf : Fs fs row) (hk : f = 5 ∧ n = 16 ∨ f = 6 ∧ n = 20) (e : fs[f]? = some (.tup (ds.map PV.int))) (hd : ds.length = n) (hb : LawP.Bytes ds) :
    W (K32.p_law_no_bytes [.ref l, .tup fs, .int (f : Int)] st) (fun v st' => Av st l st' ∧ ∃ j xs, v = .ref j ∧ st.length ≤ j ∧ getM st' j = some xs ∧ xs.length ≤ 20 ∧ ∀ p ∈ xs, Bad st' rows p) := by
  have hl := h.lt
  have hn : 16 ≤ n ∧ n ≤ 20 := by omega
  have len := hf.len
  refine fn_W rfl ?_
  unfold b_p_law_no_bytes
  walk_at "p0"
  walk_at "pq"
  refine w_ixT (L2.atI_nat e) ?_
  walk_at "pq"
  walk_at "ps"
  refine w_nx ?_
  walk_at "pq"
  refine W.mono (next_W h) ?_
  rintro v s1 ⟨n1, o1, rfl, hn1, ho1, e1⟩
  have a1 : Av st l s1 := by rw [e1]; exact (Av.start h).draw hl ho1
  clear e1
  walk_at "pq"
  rw [List.length_map, hd]
  refine w_mod (by omega) ?_
  have b1 := mod_bound n1 (m := (n : Int)) (by omega)
  obtain ⟨k, ek, hkn⟩ : ∃ k : Nat, n1 % (n : Int) = k ∧ k < n := ⟨(n1 % (n : Int)).toNat, by omega, by omega⟩
  rw [ek]
  walk_at "pq"
  walk_at "ps"
  refine w_nx ?_
  have lD : (ds.map PV.int).length = n := by rw [List.length_map, hd]
  have tD : ∀ S, ∀ y ∈ ds.map PV.int, Ty S y := fun S => ty_ints
  have neD : 1 ≤ (ds.map PV.int).length := by omega
  generalize ds.map PV.int = D at *
  walk_at "pq"
  refine w_addT (by rw [lD]; simp; omega) ?_
  walk_at "pq"
  rw [cutHi D 1 (by decide) (by omega), cutM D neD]
  refine w_addT (by rw [List.length_drop]; simp; omega) ?_
  walk_at "pq"
  rw [cutM D neD]
  refine w_addT (by rw [List.length_take]; simp; omega) ?_
  walk_at "pq"
  rw [cutHi D 1 (by decide) (by omega)]
  refine w_addT (by rw [List.length_drop]; simp; omega) ?_
  walk_at "pq"
  have a2 : Av st l (s1 ++ [.lst D]) := a1.new
  have d2 : (s1 ++ [PO.lst D])[s1.length]? = some (.lst D) := at_last _ _
  have le2 : s1.length < (s1 ++ [PO.lst D]).length := by simp
  have le1 := a1.le
  generalize s1 ++ [PO.lst D] = s2 at *
  have tk : ∀ (S : Sto) (m : Nat), ∀ y ∈ D.take m, Ty S y := fun S m y hy => tD S y (List.mem_of_mem_take hy)
  have tdr : ∀ (S : Sto) (m : Nat), ∀ y ∈ D.drop m, Ty S y := fun S m y hy => tD S y (List.mem_of_mem_drop hy)
  have tap : ∀ (S : Sto) (xs ys : List PV), (∀ y ∈ xs, Ty S y) → (∀ y ∈ ys, Ty S y) → ∀ y ∈ xs ++ ys, Ty S y := fun S xs ys h1 h2 y hy => by
    rcases List.mem_append.mp hy with hy | hy
    · exact h1 y hy
    · exact h2 y hy
  have tone : ∀ (S : Sto) (p : PV), Ty S p → ∀ y ∈ [p], Ty S y := fun S p hp y hy => by rw [List.mem_singleton.mp hy]; exact hp
  have T0 : ∀ p ∈ ([.ref s1.length, .tup (D.take (D.length - 1)), .tup (D ++ [.int 0]), .tup ([.int 256] ++ D.drop (Int.toNat 1)), .tup (D.take (D.length - 1) ++ [.int (-1)]), .tup ([.bl true] ++ D.drop (Int.toNat 1)), .non, .int 0] : List PV), Part s2 n p := by
    intro p hp
    simp only [List.mem_cons, List.not_mem_nil, or_false] at hp
    rcases hp with rfl | rfl | rfl | rfl | rfl | rfl | rfl | rfl
    · exact ⟨tyL_ref d2 rfl, rfl⟩
    · exact part_len (tk _ _) (by rw [List.length_take]; omega)
    · exact part_len (tap _ _ _ (tD _) (tone _ _ ⟨_, rfl⟩)) (by rw [List.length_append]; simp; omega)
    · exact part_in (tap _ _ _ (tone _ _ ⟨_, rfl⟩) (tdr _ _)) (List.mem_append_left _ (List.mem_singleton.mpr rfl)) rfl
    · exact part_in (tap _ _ _ (tk _ _) (tone _ _ ⟨_, rfl⟩)) (List.mem_append_right _ (List.mem_singleton.mpr rfl)) rfl
    · exact part_in (tap _ _ _ (tone _ _ ⟨_, rfl⟩) (tdr _ _)) (List.mem_append_left _ (List.mem_singleton.mpr rfl)) rfl
    · exact ⟨tyL_non, rfl⟩
    · exact ⟨tyL_int _, rfl⟩
  show Nx _ _ (SO.nx _) (s2 ++ [.lst ([.ref s1.length, .tup (D.take (D.length - 1)), .tup (D ++ [.int 0]), .tup ([.int 256] ++ D.drop (Int.toNat 1)), .tup (D.take (D.length - 1) ++ [.int (-1)]), .tup ([.bl true] ++ D.drop (Int.toNat 1)), .non, .int 0] : List PV)])
  have inT : PV.ref s1.length ∈ ([.ref s1.length, .tup (D.take (D.length - 1)), .tup (D ++ [.int 0]), .tup ([.int 256] ++ D.drop (Int.toNat 1)), .tup (D.take (D.length - 1) ++ [.int (-1)]), .tup ([.bl true] ++ D.drop (Int.toNat 1)), .non, .int 0] : List PV) := List.mem_cons_self
  have l8 : ([.ref s1.length, .tup (D.take (D.length - 1)), .tup (D ++ [.int 0]), .tup ([.int 256] ++ D.drop (Int.toNat 1)), .tup (D.take (D.length - 1) ++ [.int (-1)]), .tup ([.bl true] ++ D.drop (Int.toNat 1)), .non, .int 0] : List PV).length = 8 := rfl
  generalize ([.ref s1.length, .tup (D.take (D.length - 1)), .tup (D ++ [.int 0]), .tup ([.int 256] ++ D.drop (Int.toNat 1)), .tup (D.take (D.length - 1) ++ [.int (-1)]), .tup ([.bl true] ++ D.drop (Int.toNat 1)), .non, .int 0] : List PV) = T at *
  have a3 : Av st l (s2 ++ [.lst T]) := a2.new
  have g3 : getM (s2 ++ [.lst T]) s2.length = some T := getM_last _ _
  have T1 : ∀ p ∈ T, Part (s2 ++ [.lst T]) n p := fun p hp => (T0 p hp).keep keep_app
  have lt3 : s2.length < (s2 ++ [PO.lst T]).length := by simp
  generalize s2 ++ [PO.lst T] = s3 at *
  walk_at "ps"
  refine w_nx ?_
  walk_at "pq"
  refine w_seqL ?_
  walk_at "pq"
  refine w_pow ⟨by decide, by decide, by decide⟩ ?_
  have hz : numB (.int ((10 : Int) ^ (30 : Int).toNat)) 0 255 = false := by decide +kernel
  generalize ((10 : Int) ^ (30 : Int).toNat) = z at hz
  walk_at "pq"
  have U0 : ∀ p ∈ ([.int 256, .int (-1), .bl true, .non, .str "0", .tup [.int 0], .int z] : List PV), (∀ S, Ty S p) ∧ numB p 0 255 = false := by
    intro p hp
    simp only [List.mem_cons, List.not_mem_nil, or_false] at hp
    rcases hp with rfl | rfl | rfl | rfl | rfl | rfl | rfl
    · exact ⟨fun _ => ⟨_, rfl⟩, rfl⟩
    · exact ⟨fun _ => ⟨_, rfl⟩, rfl⟩
    · exact ⟨fun _ => ⟨_, rfl⟩, rfl⟩
    · exact ⟨fun _ => ⟨_, rfl⟩, rfl⟩
    · exact ⟨fun _ => ⟨_, rfl⟩, rfl⟩
    · exact ⟨fun _ => ⟨_, rfl⟩, rfl⟩
    · exact ⟨fun _ => ⟨_, rfl⟩, hz⟩
  refine ⟨s3.length, _, rfl, getL_last _ _, ?_⟩
  have l7 : ([.int 256, .int (-1), .bl true, .non, .str "0", .tup [.int 0], .int z] : List PV).length = 7 := rfl
  generalize ([.int 256, .int (-1), .bl true, .non, .str "0", .tup [.int 0], .int z] : List PV) = U at *
  have gU := getL_last s3 U
  have a4 : Av st l (s3 ++ [PO.lst U]) := a3.new
  have g4 : getM (s3 ++ [PO.lst U]) s2.length = some T := getM_app g3
  have T2 : ∀ p ∈ T, Part (s3 ++ [PO.lst U]) n p := fun p hp => (T1 p hp).keep keep_app
  have ne7 : s3.length ≠ s2.length := by omega
  generalize s3 ++ [PO.lst U] = s4 at *
  refine for_list (fun i ρ S => (∃ x6, ρ = [some (.ref l), some (.tup fs), some (.int (f : Int)), some (.tup D), some (.int (k : Int)), some (.ref s2.length), x6, none]) ∧ Av st l S ∧ getL S s3.length = some U ∧ ∃ T', getM S s2.length = some T' ∧ T'.length = 8 + i ∧ PV.ref s1.length ∈ T' ∧ ∀ p ∈ T', Part S n p)
    ⟨⟨_, rfl⟩, a4, gU, T, g4, l8, inT, T2⟩ (fun i ρ S q => q.2.2.1) (fun i p ρ S hp q => ?_) (fun ρ S q => ?_)
  · obtain ⟨⟨x6, rfl⟩, a, gu, T', gt, lt', inT', pt⟩ := q
    have hi : i < U.length := (List.getElem?_eq_some_iff.mp hp).1
    obtain ⟨u1, u2⟩ := U0 p (List.mem_of_getElem? hp)
    walk_at "pq"
    walk_at "ps"
    refine w_isL (getM_L gt) ?_
    walk_at "pq"
    rw [cutLo D k (by omega) (by omega), Int.toNat_natCast]
    refine w_addT (by rw [List.length_take]; simp; omega) ?_
    walk_at "pq"
    rw [cutHi D (k + 1) (by omega) (by omega), show ((k : Int) + 1).toNat = k + 1 by omega]
    refine w_addT (by rw [List.length_append, List.length_take, List.length_drop]; simp; omega) ?_
    walk_at "pq"
    refine w_append gt (by omega) ?_
    have kp : Keep S (S.set s2.length (.lst (T' ++ [.tup (D.take k ++ [p] ++ D.drop (k + 1))]))) := keep_put gt
    have le2' := a2.le
    refine ⟨⟨_, rfl⟩, a.put le2', by rw [getL_ne ne7]; exact gu, _, getM_set gt, by rw [List.length_append, lt']; rfl, List.mem_append_left _ inT', fun q hq => ?_⟩
    rcases List.mem_append.mp hq with hq | hq
    · exact (pt q hq).keep kp
    · rw [List.mem_singleton.mp hq]
      exact part_in (tap _ _ _ (tap _ _ _ (tk _ _) (tone _ _ (u1 _))) (tdr _ _)) (List.mem_append_left _ (List.mem_append_right _ (List.mem_singleton.mpr rfl))) u2
  · obtain ⟨⟨x6, rfl⟩, a, gu, T', gt, lt', inT', pt⟩ := q
    refine w_nx ?_
    walk_at "pq"
    refine w_seqL ?_
    walk_at "pq"
    refine ⟨_, _, rfl, getM_L gt, ?_⟩
    refine lc_list (fun i acc sx => sx = S ∧ acc = (T'.take i).map fun q => PV.tup (fs.set f q)) ⟨rfl, by simp⟩ (fun i acc sx q => by rw [q.1]; exact getM_L gt) (fun i p acc sx hp q => ?_) (fun acc sx q => ?_)
    · obtain ⟨rfl, rfl⟩ := q
      have hi : i < T'.length := (List.getElem?_eq_some_iff.mp hp).1
      walk_at "pq"
      refine W.mono (with_W (by omega) (by omega) (by omega)) ?_
      rintro v s5 ⟨rfl, e5⟩
      refine ⟨by rw [List.length_map, List.length_take]; omega, e5, ?_⟩
      rw [List.take_succ, hp, List.map_append, Int.toNat_natCast]
      rfl
    · obtain ⟨rfl, rfl⟩ := q
      rw [List.take_length]
      walk_at "pq"
      refine W.of rfl ?_
      have ff : ∀ q, fieldB rows f q = manyB q n := fun q => by
        rcases hk with ⟨rfl, rfl⟩ | ⟨rfl, rfl⟩ <;> rfl
      refine gc_keep (getM_last _ _) (noRefL_false (List.mem_map_of_mem inT') ?_) ⟨a.new, _, _, rfl, a.le, getM_last _ _, by rw [List.length_map]; omega, fun q hq => ?_⟩
      · show noRefL (fs.set f (.ref s1.length)) = false
        refine noRefL_false (x := .ref s1.length) ?_ rfl
        exact List.mem_of_getElem? (i := f) (by rw [List.getElem?_set_self (by omega)])
      · obtain ⟨r, hr, rfl⟩ := List.mem_map.mp hq
        have pr := (pt r hr).keep (keep_app (g := [PO.lst (T'.map fun q => PV.tup (fs.set f q))]))
        exact bad_set len (by omega) hf.ty pr.1 (by rw [ff]; exact pr.2)
end K32

set_option maxHeartbeats 2000000
namespace K32
open PySem PySem.Spec L2 My Pu LawP

theorem field_most {rows : List Rw} {f : Int} (hf : f ∈ flds) (p : PV) : fieldB rows f.toNat p = numB p 0 (mostI f) ∧ 0 ≤ f ∧ f < 12 := by
  simp only [flds, List.mem_cons, List.not_mem_nil, or_false] at hf
  rcases hf with rfl | rfl | rfl | rfl | rfl | rfl | rfl | rfl | rfl <;> exact ⟨rfl, by decide, by decide⟩
theorem mem_flds {f : Int} {i : Nat} {p : PV} (h : (flds.map PV.int)[i]? = some p) : ∃ f, f ∈ flds ∧ p = .int f := by
  rw [List.getElem?_map] at h
  obtain ⟨f, hf, rfl⟩ := Option.map_eq_some_iff.mp h
  exact ⟨f, List.mem_of_getElem? hf, rfl⟩
theorem none_W {st : Sto} {l : Nat} {rows : List Rw} {n many : Nat} {fs : List PV} {row : Int} (h : Deck st l) (w : WOk rows n many) (hf : Fs fs row) :
    W (K32.p_law_none [.ref l, progP rows, .tup fs, .int ((many : Int) + 1)] st) (fun v st' => Av st l st' ∧ ∃ j xs, v = .ref j ∧ st.length ≤ j ∧ getM st' j = some xs ∧ xs.length ≤ 200 ∧ ∀ p ∈ xs, Bad st' rows p) := by
  have hl := h.lt
  have len := hf.len
  obtain ⟨a, x, z, c, m, t, b, k, mem, ds, efs, _, _, _, _, _, _, _, _, m1, m2, d1, d2⟩ := hf.eq
  have e5 : fs[5]? = some (.tup (mem.map PV.int)) := by rw [efs]; rfl
  have e6 : fs[6]? = some (.tup (ds.map PV.int)) := by rw [efs]; rfl
  clear efs
  refine fn_W rfl ?_
  unfold b_p_law_none
  walk_at "p0"
  walk_at "pq"
  refine W.mono (no_rows_W w hf) ?_
  rintro v s1 ⟨rfl, X1, e, lX1, fX1, bX1⟩
  have a1 : Av st l s1 := by rw [e]; exact (Av.start h).new
  have g1 : getM s1 st.length = some X1 := by rw [e]; exact getM_last _ _
  clear e
  walk_at "pq"
  refine W.mono (no_bytes_W (rows := rows) (f := 5) (n := 16) (a1.deck hl) hf (.inl ⟨rfl, rfl⟩) e5 m1 m2) ?_
  rintro v s2 ⟨b2, j2, X2, rfl, lj2, g2, lX2, bX2⟩
  have a2 : Av st l s2 := a1.trans hl b2
  have g1' : getM s2 st.length = some X1 := Av.getM b2 (by omega) g1
  refine w_addL g1' g2 (by omega) ?_
  have kx : Keep s2 (s2 ++ [PO.lst (X1 ++ X2)]) := keep_app
  have bX12 : ∀ p ∈ X1 ++ X2, Bad (s2 ++ [PO.lst (X1 ++ X2)]) rows p := fun p hp => by
    rcases List.mem_append.mp hp with hp | hp
    · exact bX1 _ p hp
    · exact (bX2 p hp).keep kx
  have a3 : Av st l (s2 ++ [PO.lst (X1 ++ X2)]) := a2.new
  have g3 : getM (s2 ++ [PO.lst (X1 ++ X2)]) s2.length = some (X1 ++ X2) := getM_last _ _
  have lX12 : (X1 ++ X2).length ≤ 27 := by rw [List.length_append]; omega
  have le2 := a2.le
  generalize X1 ++ X2 = X12 at *
  generalize s2 ++ [PO.lst X12] = s3 at *
  walk_at "pq"
  refine W.mono (no_bytes_W (rows := rows) (f := 6) (n := 20) (a3.deck hl) hf (.inr ⟨rfl, rfl⟩) e6 d1 d2) ?_
  rintro v s4 ⟨b4, j4, X4, rfl, lj4, g4, lX4, bX4⟩
  have a4 : Av st l s4 := a3.trans hl b4
  have g3' : getM s4 s2.length = some X12 := Av.getM b4 (by omega) g3
  have k34 : Keep s3 s4 := keep_av (a3.deck hl) b4
  refine w_addL g3' g4 (by omega) ?_
  have bX : ∀ p ∈ X12 ++ X4, Bad (s4 ++ [PO.lst (X12 ++ X4)]) rows p := fun p hp => by
    rcases List.mem_append.mp hp with hp | hp
    · exact (bX12 p hp).keep (k34.trans keep_app)
    · exact (bX4 p hp).keep keep_app
  have a5 : Av st l (s4 ++ [PO.lst (X12 ++ X4)]) := a4.new
  have g5 : getM (s4 ++ [PO.lst (X12 ++ X4)]) s4.length = some (X12 ++ X4) := getM_last _ _
  have lX : (X12 ++ X4).length ≤ 47 := by rw [List.length_append]; omega
  have le4 := a4.le
  have lt5 : s4.length < (s4 ++ [PO.lst (X12 ++ X4)]).length := by simp
  generalize X12 ++ X4 = X at *
  generalize s4 ++ [PO.lst X] = s5 at *
  walk_at "pq"
  walk_at "ps"
  refine w_nx ?_
  walk_at "pq"
  refine w_seqL ?_
  walk_at "pq"
  refine ⟨s5.length, flds.map PV.int, rfl, getL_last _ _, ?_⟩
  have a6 : Av st l (s5 ++ [PO.lst (flds.map PV.int)]) := a5.new
  have g6 : getM (s5 ++ [PO.lst (flds.map PV.int)]) s4.length = some X := getM_app g5
  have gF : getL (s5 ++ [PO.lst (flds.map PV.int)]) s5.length = some (flds.map PV.int) := getL_last _ _
  have bX6 : ∀ p ∈ X, Bad (s5 ++ [PO.lst (flds.map PV.int)]) rows p := fun p hp => (bX p hp).keep keep_app
  have l9 : (flds.map PV.int).length = 9 := rfl
  show W (forGo (.ofL s5.length) _ _ (fuelP (.ofL s5.length) (s5 ++ [PO.lst (flds.map PV.int)])) 0 _ (s5 ++ [PO.lst (flds.map PV.int)])) _
  have hmem : ∀ (i : Nat) p, (flds.map PV.int)[i]? = some p → ∃ f, f ∈ flds ∧ p = .int f := fun i p hp => mem_flds (f := 0) hp
  generalize flds.map PV.int = F at *
  generalize s5 ++ [PO.lst F] = s6 at *
  refine for_list (fun i ρ S => (∃ x5 x6, ρ = [some (.ref l), some (progP rows), some (.tup fs), some (.int ((many : Int) + 1)), some (.ref s4.length), x5, x6]) ∧ Av st l S ∧ getL S s5.length = some F ∧ ∃ X', getM S s4.length = some X' ∧ X'.length ≤ 47 + 6 * i ∧ ∀ p ∈ X', Bad S rows p)
    ⟨⟨_, _, rfl⟩, a6, gF, X, g6, by omega, bX6⟩ (fun i ρ S q => q.2.2.1) (fun i p ρ S hp q => ?_) (fun ρ S q => ?_)
  · obtain ⟨⟨x5, x6, rfl⟩, a, gf, X', gx, lx, bx⟩ := q
    have hi : i < F.length := (List.getElem?_eq_some_iff.mp hp).1
    obtain ⟨f, hff, rfl⟩ := hmem i p hp
    have fm := fun q => field_most (rows := rows) hff q
    have fr := (fm .non).2
    walk_at "pq"
    walk_at "ps"
    refine w_seqL ?_
    walk_at "pq"
    refine W.mono (most_W hff) ?_
    rintro v t1 ⟨rfl, e⟩
    subst e
    walk_at "pq"
    have G0 : ∀ p ∈ ([.int (-1), .int (mostI f + 1), .bl true, .str "1", .non, .tup [.int 0]] : List PV), (∀ S, TyL S p) ∧ numB p 0 (mostI f) = false := by
      intro p hp
      simp only [List.mem_cons, List.not_mem_nil, or_false] at hp
      rcases hp with rfl | rfl | rfl | rfl | rfl | rfl
      · exact ⟨fun _ => tyL_int _, decide_eq_false (p := 0 ≤ (-1 : Int) ∧ (-1 : Int) ≤ mostI f) (by omega)⟩
      · exact ⟨fun _ => tyL_int _, decide_eq_false (by omega)⟩
      · exact ⟨fun _ => tyL_bl _, rfl⟩
      · exact ⟨fun _ => tyL_str _, rfl⟩
      · exact ⟨fun _ => tyL_non, rfl⟩
      · exact ⟨fun _ => tyL_tup fun x hx => by rw [List.mem_singleton.mp hx]; exact ⟨_, rfl⟩, rfl⟩
    refine ⟨t1.length, _, rfl, getL_last _ _, ?_⟩
    have l6 : ([.int (-1), .int (mostI f + 1), .bl true, .str "1", .non, .tup [.int 0]] : List PV).length = 6 := rfl
    generalize ([.int (-1), .int (mostI f + 1), .bl true, .str "1", .non, .tup [.int 0]] : List PV) = G at *
    have gG : getL (t1 ++ [PO.lst G]) t1.length = some G := getL_last _ _
    have aG : Av st l (t1 ++ [PO.lst G]) := a.new
    have gxG : getM (t1 ++ [PO.lst G]) s4.length = some X' := getM_app gx
    have gfG : getL (t1 ++ [PO.lst G]) s5.length = some F := getL_app gf
    have bG : ∀ p ∈ X', Bad (t1 ++ [PO.lst G]) rows p := fun p hp => (bx p hp).keep keep_app
    have ltt : s4.length < t1.length := (List.getElem?_eq_some_iff.mp (getM_at gx)).1
    generalize t1 ++ [PO.lst G] = t2 at *
    refine for_list (fun i' ρ S => (∃ x6, ρ = [some (.ref l), some (progP rows), some (.tup fs), some (.int ((many : Int) + 1)), some (.ref s4.length), some (.int f), x6]) ∧ Av st l S ∧ getL S s5.length = some F ∧ getL S t1.length = some G ∧ ∃ X'', getM S s4.length = some X'' ∧ X''.length ≤ 47 + 6 * i + i' ∧ ∀ p ∈ X'', Bad S rows p)
      ⟨⟨_, rfl⟩, aG, gfG, gG, X', gxG, by omega, bG⟩ (fun i ρ S q => q.2.2.2.1) (fun i' p ρ S hp q => ?_) (fun ρ S q => ?_)
    · obtain ⟨⟨x6, rfl⟩, a', gf', gg', X'', gx', lx', bx'⟩ := q
      have hi' : i' < G.length := (List.getElem?_eq_some_iff.mp hp).1
      obtain ⟨u1, u2⟩ := G0 p (List.mem_of_getElem? hp)
      walk_at "pq"
      walk_at "ps"
      refine w_isL (getM_L gx') ?_
      walk_at "pq"
      refine W.mono (with_W (by omega) (by omega) (by omega)) ?_
      rintro v t3 ⟨rfl, e⟩
      subst e
      walk_at "pq"
      refine w_append gx' (by omega) ?_
      have kp : Keep t3 (t3.set s4.length (.lst (X'' ++ [.tup (fs.set f.toNat p)]))) := keep_put gx'
      refine ⟨⟨_, rfl⟩, a'.put le4, by rw [getL_ne (by omega)]; exact gf', by rw [getL_ne (by omega)]; exact gg', _, getM_set gx', by rw [List.length_append]; simp; omega, fun q hq => ?_⟩
      rcases List.mem_append.mp hq with hq | hq
      · exact (bx' q hq).keep kp
      · rw [List.mem_singleton.mp hq]
        exact bad_set len (by omega) hf.ty (u1 _) (by rw [(fm p).1]; exact u2)
    · obtain ⟨⟨x6, rfl⟩, a', gf', gg', X'', gx', lx', bx'⟩ := q
      exact ⟨⟨_, _, rfl⟩, a', gf', X'', gx', by omega, bx'⟩
  · obtain ⟨⟨x5, x6, rfl⟩, a, gf, X', gx, lx, bx⟩ := q
    refine w_nx ?_
    walk_at "pq"
    refine w_addT (by rw [len]; simp) ?_
    walk_at "pq"
    rw [cutM fs (by omega)]
    refine w_dic ?_
    walk_at "pq"
    refine ⟨by decide, ?_⟩
    walk_at "pq"
    have aS : Av st l (S ++ [PO.lst fs] ++ [PO.dic [] []] ++ [PO.lst [.tup fs]]) := a.new.new.new
    have gS : getM (S ++ [PO.lst fs] ++ [PO.dic [] []] ++ [PO.lst [.tup fs]]) s4.length = some X' := getM_app (getM_app (getM_app gx))
    have bS : ∀ p ∈ X', Bad (S ++ [PO.lst fs] ++ [PO.dic [] []] ++ [PO.lst [.tup fs]]) rows p := fun p hp => (bx p hp).keep (keep_app.trans (keep_app.trans keep_app))
    have r1 : (S ++ [PO.lst fs] ++ [PO.dic [] []] ++ [PO.lst [.tup fs]])[S.length]? = some (.lst fs) := at_app (at_app (at_last _ _))
    have r2 : (S ++ [PO.lst fs] ++ [PO.dic [] []] ++ [PO.lst [.tup fs]])[(S ++ [PO.lst fs]).length]? = some (.dic [] []) := at_app (at_last _ _)
    have r3 : (S ++ [PO.lst fs] ++ [PO.dic [] []] ++ [PO.lst [.tup fs]])[(S ++ [PO.lst fs] ++ [PO.dic [] []]).length]? = some (.lst [.tup fs]) := at_last _ _
    generalize hu : (S ++ [PO.lst fs]).length = j1 at *
    generalize hv : (S ++ [PO.lst fs] ++ [PO.dic [] []]).length = j2' at *
    generalize S ++ [PO.lst fs] ++ [PO.dic [] []] ++ [PO.lst [.tup fs]] = S' at *
    have N0 : ∀ p ∈ ([.tup (fs.take (fs.length - 1)), .tup (fs ++ [.int 0]), .ref S.length, .non, .int 0, .str "", .tup [], .ref j1, .ref j2'] : List PV), Bad S' rows p := by
      intro p hp
      simp only [List.mem_cons, List.not_mem_nil, or_false] at hp
      rcases hp with rfl | rfl | rfl | rfl | rfl | rfl | rfl | rfl | rfl
      · exact ⟨TyF.s fun x hx => hf.ty x (List.mem_of_mem_take hx), bad_len (by rw [List.length_take]; omega)⟩
      · refine ⟨TyF.s fun x hx => ?_, bad_len (by rw [List.length_append, len]; simp)⟩
        rcases List.mem_append.mp hx with hx | hx
        · exact hf.ty x hx
        · rw [List.mem_singleton.mp hx]; exact tyL_int _
      · exact bad_other (tyL_ref r1 rfl).1 (fun _ z => by cases z)
      · exact bad_other ⟨_, rfl⟩ (fun _ z => by cases z)
      · exact bad_other ⟨_, rfl⟩ (fun _ z => by cases z)
      · exact bad_other ⟨_, rfl⟩ (fun _ z => by cases z)
      · exact ⟨TyF.s (fs := []) (fun x hx => by cases hx), bad_len (fs := []) (by decide)⟩
      · exact bad_other (tyL_ref r2 rfl).1 (fun _ z => by cases z)
      · exact bad_other (tyL_ref r3 rfl).1 (fun _ z => by cases z)
    have inN : PV.ref j1 ∈ ([.tup (fs.take (fs.length - 1)), .tup (fs ++ [.int 0]), .ref S.length, .non, .int 0, .str "", .tup [], .ref j1, .ref j2'] : List PV) := by simp
    have l9' : ([.tup (fs.take (fs.length - 1)), .tup (fs ++ [.int 0]), .ref S.length, .non, .int 0, .str "", .tup [], .ref j1, .ref j2'] : List PV).length = 9 := rfl
    show W (addP (.ref s4.length) (.ref S'.length) (S' ++ [PO.lst ([.tup (fs.take (fs.length - 1)), .tup (fs ++ [.int 0]), .ref S.length, .non, .int 0, .str "", .tup [], .ref j1, .ref j2'] : List PV)])) _
    generalize ([.tup (fs.take (fs.length - 1)), .tup (fs ++ [.int 0]), .ref S.length, .non, .int 0, .str "", .tup [], .ref j1, .ref j2'] : List PV) = N at *
    refine w_addL (getM_app gS) (getM_last _ _) (by omega) ?_
    walk_at "pq"
    refine W.of rfl ?_
    refine gc_keep (getM_last _ _) (noRefL_false (List.mem_append_right _ inN) rfl) ⟨aS.new.new, _, _, rfl, ?_, getM_last _ _, by rw [List.length_append]; omega, fun q hq => ?_⟩
    · have := aS.le
      rw [List.length_append]
      omega
    · rcases List.mem_append.mp hq with hq | hq
      · exact (bS q hq).keep (keep_app.trans keep_app)
      · exact (N0 q hq).keep (keep_app.trans keep_app)
end K32

set_option maxHeartbeats 2000000
namespace K32
open PySem PySem.Spec L2 My Pu LawP

mutual
theorem eqv_refl : ∀ p : PV, eqvP p p = true
  | .non => rfl
  | .bl b => by simp [eqvP, toD, PyData.eqv]
  | .int i => by simp [eqvP, toD, PyData.eqv]
  | .str x => by simp [eqvP, toD, PyData.eqv]
  | .tup xs => by
    have z := eqvL_refl xs
    unfold eqvL at z
    simp only [eqvP, toD, PyData.eqv]
    exact z
  | .ref i => rfl
  | .ty n => rfl
  | .gl x => rfl
theorem eqvL_refl : ∀ ps : List PV, eqvL ps ps = true
  | [] => rfl
  | p :: ps => by
    have a := eqv_refl p
    have b := eqvL_refl ps
    unfold eqvP at a
    unfold eqvL at b ⊢
    simp only [toDL, PyData.eqvAll, a, b, Bool.and_self]
end
def startF : List PV := [.int 0, .int 0, .int 0, .int 1, .int 0, .tup ((List.replicate 16 (0 : Int)).map PV.int), .tup ((List.replicate 20 (0 : Int)).map PV.int), .int 0, .int 0, .int 0, .int 0, .int 0]
theorem zs_rep : ∀ k : Nat, (List.replicate k [PV.int 0]).flatten = (List.replicate k (0 : Int)).map PV.int
  | 0 => rfl
  | k + 1 => by
    rw [List.replicate_succ, List.replicate_succ, List.flatten_cons, zs_rep k]
    rfl
theorem bytes0 (k : Nat) : LawP.Bytes (List.replicate k (0 : Int)) := fun d hd => by
  rw [List.eq_of_mem_replicate hd]; decide
theorem start_fs : Fs startF 0 := ⟨0, 0, 1, 0, 0, 0, 0, 0, List.replicate 16 0, List.replicate 20 0, rfl, by decide, by decide, by decide, by decide, by decide, by decide, by decide, by decide, rfl, bytes0 _, rfl, bytes0 _⟩
theorem start_W {st : Sto} {p : PV} : W (Prog.states_start [p] st) (fun v st' => v = .tup startF ∧ st' = st) := by
  refine fn_W rfl ?_
  unfold Prog.b_states_start
  walk_at "p0"
  walk_at "pw"
  refine w_mulT ⟨⟨by decide, by decide⟩, by simp, by decide⟩ ?_
  walk_at "pw"
  refine w_mulT ⟨⟨by decide, by decide⟩, by simp, by decide⟩ ?_
  walk_at "pw"
  rw [zs_rep, zs_rep]
  exact end_same (start_fs.flat) ⟨rfl, rfl⟩
def Good (rows : List Rw) (p : PV) : Prop := (∀ S, TyS S p) ∧ stB rows p = true
def gfl : List Int := [1, 2, 3, 4, 7, 8, 9, 11]
theorem gfl_in : ∀ f ∈ gfl, f ∈ flds ∧ f ≠ 10 := by decide
theorem good_set {rows : List Rw} {fs : List PV} {row f : Int} {p : PV} (hf : Fs fs row) (fit : Fit rows fs) (hg : f ∈ gfl) (hp : numB p 0 (mostI f) = true) : Good rows (.tup (fs.set f.toNat p)) := by
  have g := gfl_in f hg
  have fm := field_most (rows := rows) g.1 p
  refine ⟨fun S => TyF.s (hf.ty.set ?_), (fit.set (f := f.toNat) (p := p) (by rw [fm.1]; exact hp)).good ?_⟩
  · obtain ⟨i, rfl, _⟩ := num_int hp
    exact tyL_int _
  · rw [List.getElem?_set_ne (by omega)]
    obtain ⟨a, x, z, c, m, t, b, k, mem, ds, rfl, _⟩ := hf.eq
    rfl
theorem most_pos {f : Int} (h : f ∈ flds) : 0 ≤ mostI f := by
  simp only [flds, List.mem_cons, List.not_mem_nil, or_false] at h
  rcases h with rfl | rfl | rfl | rfl | rfl | rfl | rfl | rfl | rfl <;> decide
end K32

set_option maxHeartbeats 2000000
namespace K32
open PySem PySem.Spec L2 My Pu LawP

theorem ne_nil {st : Sto} {i j : Nat} {P : PV → Sto → Prop} (h1 : getL st i = some []) (h2 : getL st j = some []) (h : P (.bl false) st) : W (neP (.ref i) (.ref j) st) P := by
  show W (eqQ true (.ref i) (.ref j) st) P
  unfold eqQ
  dsimp only
  rw [h1, h2]
  dsimp only
  rw [if_pos ⟨rfl, rfl⟩]
  exact W.ok h
def wl (a x z c : Int) (mem ds : List Int) (m t r b k : Int) : List PV := [.int r, .int a, .int x, .int z, .int c, .tup (mem.map PV.int), .tup (ds.map PV.int), .int m, .int t, .int b, .int 1, .int k]
theorem law_W (ns : List Int) (hn : ns.length ≤ 63) : W (K32.p_law [.ref 0] [.fro (ns.map PV.int)]) (fun v _ => v = .bl true) := by
  refine fn_W rfl ?_
  unfold b_p_law
  walk_at "p0"
  have g0 : getL [PO.fro (ns.map PV.int)] 0 = some (ns.map PV.int) := rfl
  walk_at "pq"
  refine W.mono (deck_W g0 ⟨by omega, by omega⟩ hn) ?_
  rintro v s1 ⟨rfl, o1, ho1, e⟩
  have dk1 : Deck s1 1 := by rw [e]; exact ⟨o1, rfl, ho1⟩
  clear e
  walk_at "pq"
  walk_at "ps"
  show Nx _ _ (SO.nx [some (.ref 0), some (.ref 1), none, none, none, none, none, none, none, none, none, none, none]) s1
  refine w_nx ?_
  walk_at "pq"
  refine W.mono (waiting_W dk1) ?_
  rintro v s2 ⟨⟨rows, n, many, rfl, wk⟩, o2, ho2, e⟩
  have dk2 : Deck s2 1 := by rw [e]; exact dk1.set ho2
  clear e
  walk_at "pq"
  walk_at "ps"
  refine w_nx ?_
  walk_at "pq"
  refine W.mono (next_W dk2) ?_
  rintro v s3 ⟨n3, o3, rfl, hn3, ho3, e⟩
  have dk3 : Deck s3 1 := by rw [e]; exact dk2.set ho3
  clear e
  walk_at "pq"
  refine w_mod (by omega) ?_
  have hrow := mod_bound n3 (m := (many : Int) + 1) (by omega)
  generalize n3 % ((many : Int) + 1) = row at hrow
  walk_at "pq"
  refine W.mono (state2_W dk3) ?_
  rintro v s4 ⟨⟨fs, rfl, hf⟩, o4, ho4, e⟩
  have dk4 : Deck s4 1 := by rw [e]; exact dk3.set ho4
  clear e
  have fit := hf.fit (code_true wk ⟨hrow.1, by omega⟩)
  have len := hf.len
  obtain ⟨a, x, z, c, m, t, b, k, mem, ds, efs, _⟩ := hf.eq
  have wfit : ∀ r b' k' : Int, codeB rows (.int r) = true → (0 ≤ b' ∧ b' ≤ 4) → (0 ≤ k' ∧ k' ≤ 1) → Fit rows (wl a x z c mem ds m t r b' k') := fun r b' k' h1 h2 h3 => by
    have q := (((fit.set (f := 0) (p := .int r) h1).set (f := 9) (p := .int b') (num_ok h2)).set (f := 10) (p := .int 1) (show numB (.int 1) 0 1 = true from rfl)).set (f := 11) (p := .int k') (num_ok h3)
    rw [efs] at q
    exact q
  have wst : ∀ r b' k' : Int, codeB rows (.int r) = true → (0 ≤ b' ∧ b' ≤ 4) → (0 ≤ k' ∧ k' ≤ 1) → stB rows (.tup (wl a x z c mem ds m t r b' k')) = mayB rows r b' k' := fun r b' k' h1 h2 h3 => by
    have q := (wfit r b' k' h1 h2 h3).st
    exact q
  have wty : ∀ (S : Sto) (r b' k' : Int), TyS S (.tup (wl a x z c mem ds m t r b' k')) := fun S r b' k' => by
    have q := (((hf.ty (st := S)).set (f := 0) (tyL_int r)).set (f := 9) (tyL_int b')).set (f := 10) (tyL_int 1)
    have q := q.set (f := 11) (tyL_int k')
    rw [efs] at q
    exact TyF.s q
  have cut19 : cutP fs (some 1) (some 9) = [.int a, .int x, .int z, .int c, .tup (mem.map PV.int), .tup (ds.map PV.int), .int m, .int t] := by rw [efs]; rfl
  clear efs
  have lt := wk.lt
  walk_at "pq"
  walk_at "ps"
  refine w_nx ?_
  walk_at "pq"
  rw [cut19]
  refine w_addT (by simp) ?_
  walk_at "pq"
  refine w_addT (by simp) ?_
  have hcn : codeB rows (.int ((n : Int) + 1)) = true := code_true wk ⟨by omega, by omega⟩
  have wgood : Good rows (.tup (wl a x z c mem ds m t ((n : Int) + 1) 1 0)) := by
    refine ⟨fun S => wty S _ _ _, ?_⟩
    rw [wst _ _ _ hcn (by decide) (by decide)]
    unfold mayB waitB
    rw [show (n : Int) + 1 - 1 = n by omega, Int.toNat_natCast, wk.wait, decide_eq_true (⟨by omega, by have := wk.lo; omega⟩ : (0 : Int) ≤ n ∧ (n : Int) < rows.length)]
    rfl
  have sgood : Good rows (.tup fs) := ⟨fun S => TyF.s hf.ty, fit.good (by
    obtain ⟨a, x, z, c, m, t, b, k, mem, ds, rfl, _⟩ := hf.eq
    rfl)⟩
  have tgood : Good rows (.tup startF) := ⟨fun S => TyF.s start_fs.ty, (start_fs.fit (code_true wk ⟨by omega, by omega⟩)).good rfl⟩
  show W (gN 6 (.tup (wl a x z c mem ds m t ((n : Int) + 1) 1 0)) _ s4) _
  have wbad9 : ∀ b', b' = 0 ∨ b' = 2 ∨ b' = 3 ∨ b' = 4 → ∀ S, Bad S rows (.tup (wl a x z c mem ds m t ((n : Int) + 1) b' 0)) := fun b' hb S => by
    refine ⟨wty S _ _ _, ?_⟩
    rw [wst _ _ _ hcn (by omega) (by decide)]
    unfold mayB
    rw [decide_eq_false (by omega : ¬ b' = 1)]
    rfl
  have wbad11 : ∀ S, Bad S rows (.tup (wl a x z c mem ds m t ((n : Int) + 1) 1 1)) := fun S => by
    refine ⟨wty S _ _ _, ?_⟩
    rw [wst _ _ _ hcn (by decide) (by decide)]
    rfl
  have wbad0 : ∀ r : Nat, r ≤ many → (r = 0 ∨ dOf rows (r - 1) ≠ "wait") → ∀ S, Bad S rows (.tup (wl a x z c mem ds m t r 1 0)) := fun r hr hw S => by
    refine ⟨wty S _ _ _, ?_⟩
    rw [wst _ _ _ (code_true wk ⟨by omega, by omega⟩) (by decide) (by decide)]
    unfold mayB waitB
    rcases hw with hw | hw
    · rw [decide_eq_false (by omega : ¬ ((0 : Int) ≤ (r : Int) - 1 ∧ (r : Int) - 1 < rows.length))]
      rfl
    · rw [show ((r : Int) - 1).toNat = r - 1 by omega, decide_eq_false hw, Bool.and_false, Bool.and_false, Bool.and_false]
  have set9 : ∀ b' : PV, (wl a x z c mem ds m t ((n : Int) + 1) 1 0).set 9 b' = [.int ((n : Int) + 1), .int a, .int x, .int z, .int c, .tup (mem.map PV.int), .tup (ds.map PV.int), .int m, .int t, b', .int 1, .int 0] := fun _ => rfl
  have set11 : ∀ k' : PV, (wl a x z c mem ds m t ((n : Int) + 1) 1 0).set 11 k' = [.int ((n : Int) + 1), .int a, .int x, .int z, .int c, .tup (mem.map PV.int), .tup (ds.map PV.int), .int m, .int t, .int 1, .int 1, k'] := fun _ => rfl
  have set0 : ∀ r : PV, (wl a x z c mem ds m t ((n : Int) + 1) 1 0).set 0 r = [r, .int a, .int x, .int z, .int c, .tup (mem.map PV.int), .tup (ds.map PV.int), .int m, .int t, .int 1, .int 1, .int 0] := fun _ => rfl
  have lw : (wl a x z c mem ds m t ((n : Int) + 1) 1 0).length = 12 := rfl
  walk_at "pq"
  walk_at "ps"
  refine w_nx ?_
  walk_at "pq"
  refine W.mono start_W ?_
  rintro v s5 ⟨rfl, e⟩
  subst e
  walk_at "pq"
  have G0 : ∀ p ∈ [PV.tup fs, .tup (wl a x z c mem ds m t ((n : Int) + 1) 1 0), .tup startF], Good rows p := by
    intro p hp
    simp only [List.mem_cons, List.not_mem_nil, or_false] at hp
    rcases hp with rfl | rfl | rfl
    · exact sgood
    · exact wgood
    · exact tgood
  generalize hW : wl a x z c mem ds m t ((n : Int) + 1) 1 0 = WL at *
  have l3 : [PV.tup fs, .tup WL, .tup startF].length = 3 := rfl
  have dk6 : Deck (s5 ++ [PO.lst [PV.tup fs, .tup WL, .tup startF]]) 1 := dk4.app
  have g6 : getM (s5 ++ [PO.lst [PV.tup fs, .tup WL, .tup startF]]) s5.length = some [PV.tup fs, .tup WL, .tup startF] := getM_last _ _
  have lt1 := dk4.lt
  generalize [PV.tup fs, .tup WL, .tup startF] = G at *
  generalize s5 ++ [PO.lst G] = s6 at *
  walk_at "ps"
  refine w_nx ?_
  walk_at "pq"
  refine w_seqL ?_
  walk_at "pq"
  refine ⟨s6.length, gfl.map PV.int, rfl, getL_last _ _, ?_⟩
  have dk7 : Deck (s6 ++ [PO.lst (gfl.map PV.int)]) 1 := dk6.app
  have g7 : getM (s6 ++ [PO.lst (gfl.map PV.int)]) s5.length = some G := getM_app g6
  have gF : getL (s6 ++ [PO.lst (gfl.map PV.int)]) s6.length = some (gfl.map PV.int) := getL_last _ _
  have l8 : (gfl.map PV.int).length = 8 := rfl
  have hmem : ∀ (i : Nat) p, (gfl.map PV.int)[i]? = some p → ∃ f, f ∈ gfl ∧ p = .int f := fun i p hp => by
    rw [List.getElem?_map] at hp
    obtain ⟨f, hf, rfl⟩ := Option.map_eq_some_iff.mp hp
    exact ⟨f, List.mem_of_getElem? hf, rfl⟩
  show W (forGo (.ofL s6.length) _ _ (fuelP (.ofL s6.length) (s6 ++ [PO.lst (gfl.map PV.int)])) 0 _ (s6 ++ [PO.lst (gfl.map PV.int)])) _
  generalize gfl.map PV.int = F at *
  generalize s6 ++ [PO.lst F] = s7 at *
  refine for_list (fun i ρ S => ∃ x8 j G', ρ = [some (.ref 0), some (.ref 1), some (progP rows), some (.int ((n : Int) + 1)), some (.int ((many : Int) + 1)), some (.tup fs), some (.tup WL), some (.ref j), x8, none, none, none, none] ∧ Deck S 1 ∧ getL S s6.length = some F ∧ getM S j = some G' ∧ G'.length ≤ 3 + 2 * i ∧ ∀ p ∈ G', Good rows p)
    ⟨_, _, G, rfl, dk7, gF, g7, by omega, G0⟩ (fun i ρ S q => by obtain ⟨_, _, _, _, _, q, _⟩ := q; exact q) (fun i p ρ S hp q => ?_) (fun ρ S q => ?_)
  · obtain ⟨x8, j, G', rfl, dk, gf, gg, lg, og⟩ := q
    have hi : i < F.length := (List.getElem?_eq_some_iff.mp hp).1
    obtain ⟨f, hfm, rfl⟩ := hmem i p hp
    have fl := gfl_in f hfm
    have fb := (field_most (rows := rows) fl.1 .non).2
    walk_at "pq"
    walk_at "ps"
    refine W.mono (with_W (by omega) (by omega) (by omega)) ?_
    rintro v t1 ⟨rfl, e⟩
    subst e
    walk_at "pq"
    refine W.mono (most_W fl.1) ?_
    rintro v t2 ⟨rfl, e⟩
    subst e
    walk_at "pq"
    refine W.mono (with_W (by omega) (by omega) (by omega)) ?_
    rintro v t3 ⟨rfl, e⟩
    subst e
    walk_at "pq"
    refine w_addL (getM_app gg) (getM_last _ _) (by simp; omega) ?_
    walk_at "pq"
    walk_at "ps"
    refine ⟨_, _, _, rfl, dk.app.app, getL_app (getL_app gf), getM_last _ _, by rw [List.length_append]; simp; omega, fun q hq => ?_⟩
    rcases List.mem_append.mp hq with hq | hq
    · exact og q hq
    · simp only [List.mem_cons, List.not_mem_nil, or_false] at hq
      have mp := most_pos fl.1
      rcases hq with rfl | rfl
      · exact good_set hf fit hfm (num_ok ⟨by omega, by omega⟩)
      · exact good_set hf fit hfm (num_ok ⟨by omega, by omega⟩)
  obtain ⟨x8, j, G', rfl, dk, gf, gg, lg, og⟩ := q
  refine w_nx ?_
  walk_at "pq"
  refine w_seqL ?_
  walk_at "pq"
  refine ⟨_, _, rfl, getM_L gg, ?_⟩
  refine lc_list (fun i acc sx => sx = S ∧ acc = []) ⟨rfl, rfl⟩ (fun i acc sx q => by rw [q.1]; exact getM_L gg) (fun i p acc sx hp q => ?_) (fun acc sx q => ?_)
  · obtain ⟨rfl, rfl⟩ := q
    have op := og p (List.mem_of_getElem? hp)
    walk_at "pq"
    refine W.mono (state' wk.known (op.1 _)) ?_
    rintro v t1 ⟨rfl, e⟩
    rw [op.2]
    subst e
    walk_at "pq"
    exact W.of rfl ⟨_, rfl, rfl, rfl⟩
  obtain ⟨rfl, rfl⟩ := q
  walk_at "pq"
  refine ne_nil (getL_app (getL_last _ _)) (getL_last _ _) ?_
  refine ⟨_, rfl, ?_⟩
  have dk8 : Deck (sx ++ [PO.lst []] ++ [PO.lst []]) 1 := dk.app.app
  generalize sx ++ [PO.lst []] ++ [PO.lst []] = s8 at *
  walk_at "pq"
  refine w_nx ?_
  walk_at "pq"
  refine w_seqL ?_
  walk_at "pq"
  refine ⟨s8.length, ([0, 2, 3, 4] : List Int).map PV.int, rfl, getL_last _ _, ?_⟩
  have gB : getL (s8 ++ [PO.lst (([0, 2, 3, 4] : List Int).map PV.int)]) s8.length = some (([0, 2, 3, 4] : List Int).map PV.int) := getL_last _ _
  have dk9 : Deck (s8 ++ [PO.lst (([0, 2, 3, 4] : List Int).map PV.int)]) 1 := dk8.app
  have hB : ∀ (i : Nat) p, (([0, 2, 3, 4] : List Int).map PV.int)[i]? = some p → ∃ b' : Int, (b' = 0 ∨ b' = 2 ∨ b' = 3 ∨ b' = 4) ∧ p = .int b' := fun i p hp => by
    rw [List.getElem?_map] at hp
    obtain ⟨f, hf, rfl⟩ := Option.map_eq_some_iff.mp hp
    have := List.mem_of_getElem? hf
    simp only [List.mem_cons, List.not_mem_nil, or_false] at this
    exact ⟨f, this, rfl⟩
  have l4 : (([0, 2, 3, 4] : List Int).map PV.int).length = 4 := rfl
  show W (lcGo (.ofL s8.length) _ _ _ _ (fuelP (.ofL s8.length) (s8 ++ [PO.lst (([0, 2, 3, 4] : List Int).map PV.int)])) 0 _ _ (s8 ++ [PO.lst (([0, 2, 3, 4] : List Int).map PV.int)])) _
  generalize ([0, 2, 3, 4] : List Int).map PV.int = B at *
  generalize s8 ++ [PO.lst B] = s9 at *
  refine lc_list (fun i acc sx => sx = s9 ∧ acc.length ≤ i ∧ ∀ S, ∀ p ∈ acc, Bad S rows p) ⟨rfl, Nat.le_refl _, fun _ _ q => by cases q⟩ (fun i acc sx q => by rw [q.1]; exact gB) (fun i p acc sx hp q => ?_) (fun acc sx q => ?_)
  · obtain ⟨rfl, q1, q2⟩ := q
    have hi : i < B.length := (List.getElem?_eq_some_iff.mp hp).1
    obtain ⟨b', hb', rfl⟩ := hB i p hp
    walk_at "pq"
    refine W.mono (with_W (by decide) (by rw [lw]; decide) (by rw [lw]; decide)) ?_
    rintro v t1 ⟨rfl, e⟩
    refine ⟨by omega, e, by rw [List.length_append]; simp; omega, fun S q hq => ?_⟩
    rcases List.mem_append.mp hq with hq | hq
    · exact q2 S q hq
    · rw [List.mem_singleton.mp hq]
      show Bad S rows (.tup (WL.set 9 (.int b')))
      rw [set9]
      exact wbad9 b' hb' S
  obtain ⟨rfl, q1, q2⟩ := q
  walk_at "pq"
  refine W.mono (with_W (by decide) (by rw [lw]; decide) (by rw [lw]; decide)) ?_
  rintro v t1 ⟨rfl, e⟩
  subst e
  walk_at "pq"
  refine w_addL (getM_app (getM_last _ _)) (getM_last _ _) (by simp; omega) ?_
  have hX : ∀ S, ∀ p ∈ acc ++ [PV.tup (WL.set 11 (.int 1))], Bad S rows p := fun S p hp => by
    rcases List.mem_append.mp hp with hp | hp
    · exact q2 S p hp
    · rw [List.mem_singleton.mp hp, set11]
      exact wbad11 S
  have lX : (acc ++ [PV.tup (WL.set 11 (.int 1))]).length ≤ 5 := by rw [List.length_append]; simp; omega
  show W (gN 10 (.ref (sx ++ [PO.lst acc] ++ [PO.lst [PV.tup (WL.set 11 (.int 1))]]).length) _ (sx ++ [PO.lst acc] ++ [PO.lst [PV.tup (WL.set 11 (.int 1))]] ++ [PO.lst (acc ++ [PV.tup (WL.set 11 (.int 1))])])) _
  generalize hj : (sx ++ [PO.lst acc] ++ [PO.lst [PV.tup (WL.set 11 (.int 1))]]).length = jx
  have dkA : Deck (sx ++ [PO.lst acc] ++ [PO.lst [PV.tup (WL.set 11 (.int 1))]] ++ [PO.lst (acc ++ [PV.tup (WL.set 11 (.int 1))])]) 1 := dk9.app.app.app
  have gA : getM (sx ++ [PO.lst acc] ++ [PO.lst [PV.tup (WL.set 11 (.int 1))]] ++ [PO.lst (acc ++ [PV.tup (WL.set 11 (.int 1))])]) jx = some (acc ++ [PV.tup (WL.set 11 (.int 1))]) := by rw [← hj]; exact getM_last _ _
  have neA : jx ≠ 1 := by
    have := dk9.lt
    rw [← hj, List.length_append, List.length_append]
    simp
  clear hj
  generalize acc ++ [PV.tup (WL.set 11 (.int 1))] = X at *
  generalize sx ++ [PO.lst acc] ++ [PO.lst [PV.tup (WL.set 11 (.int 1))]] ++ [PO.lst X] = sA at *
  walk_at "pq"
  walk_at "ps"
  refine w_nx ?_
  walk_at "pq"
  have hi100 := wk.hi
  have lo := wk.lo
  refine w_one ⟨by omega, by omega⟩ ?_
  refine for_items (fun i ρ S => (∃ x12, ρ = [some (.ref 0), some (.ref 1), some (progP rows), some (.int ((n : Int) + 1)), some (.int ((many : Int) + 1)), some (.tup fs), some (.tup WL), some (.ref j), x8, none, some (.ref jx), none, x12]) ∧ Deck S 1 ∧ ∃ X', getM S jx = some X' ∧ X'.length ≤ 5 + i ∧ ∀ S, ∀ p ∈ X', Bad S rows p)
    ⟨⟨_, rfl⟩, dkA, X, gA, by omega, hX⟩ (fun i p ρ S hp q => ?_) (fun ρ S q => ?_)
  · obtain ⟨⟨x12, rfl⟩, dk', X', gx, lx, bx⟩ := q
    obtain ⟨hi, rfl⟩ := range_at hp
    rw [Int.zero_add]
    have hi : i ≤ many := by omega
    clear hp
    walk_at "pq"
    walk_at "ps"
    have put : ∀ ρ', (i = 0 ∨ dOf rows (i - 1) ≠ "wait") → ρ' = [some (.ref 0), some (.ref 1), some (progP rows), some (.int ((n : Int) + 1)), some (.int ((many : Int) + 1)), some (.tup fs), some (.tup WL), some (.ref j), x8, none, some (.ref jx), none, some (.int (i : Int))] →
        W (sDrop (eML appendP (eVar 10) (aCons (eCall 3 p_law_with (aCons (eVar 6) (aCons (eC (.int 0)) (aCons (eVar 12) aNil)))) aNil)) ρ' S) (fun so st2 => match so with
          | .nx ρ2 => (∃ x12, ρ2 = [some (.ref 0), some (.ref 1), some (progP rows), some (.int ((n : Int) + 1)), some (.int ((many : Int) + 1)), some (.tup fs), some (.tup WL), some (.ref j), x8, none, some (.ref jx), none, x12]) ∧ Deck st2 1 ∧ ∃ X', getM st2 jx = some X' ∧ X'.length ≤ 5 + (i + 1) ∧ ∀ S, ∀ p ∈ X', Bad S rows p
          | _ => False) := fun ρ' hw e => by
      subst e
      walk_at "pq"
      refine w_isL (getM_L gx) ?_
      walk_at "pq"
      refine W.mono (with_W (by decide) (by rw [lw]; decide) (by rw [lw]; decide)) ?_
      rintro v t1 ⟨rfl, e⟩
      subst e
      walk_at "pq"
      refine w_append gx (by omega) ?_
      refine ⟨⟨_, rfl⟩, ?_, _, getM_set gx, by rw [List.length_append]; simp; omega, fun S' q hq => ?_⟩
      · obtain ⟨o', eo, d'⟩ := dk'
        exact ⟨o', by rw [List.getElem?_set_ne neA]; exact eo, d'⟩
      · rcases List.mem_append.mp hq with hq | hq
        · exact bx S' q hq
        · rw [List.mem_singleton.mp hq]
          show Bad S' rows (.tup (WL.set 0 (.int (i : Int))))
          rw [set0]
          exact wbad0 i hi hw S'
    refine w_dec (fun c0 => ?_) (fun c0 => ?_)
    · walk_at "pq"
      refine w_isL (getM_L gx) ?_
      walk_at "pq"
      refine W.mono (with_W (by decide) (by rw [lw]; decide) (by rw [lw]; decide)) ?_
      rintro v t1 ⟨rfl, e⟩
      subst e
      walk_at "pq"
      refine w_append gx (by omega) ?_
      refine ⟨⟨_, rfl⟩, ?_, _, getM_set gx, by rw [List.length_append]; simp; omega, fun S' q hq => ?_⟩
      · obtain ⟨o', eo, d'⟩ := dk'
        exact ⟨o', by rw [List.getElem?_set_ne neA]; exact eo, d'⟩
      · rcases List.mem_append.mp hq with hq | hq
        · exact bx S' q hq
        · rw [List.mem_singleton.mp hq]
          show Bad S' rows (.tup (WL.set 0 (.int (i : Int))))
          rw [set0]
          exact wbad0 i hi (.inl (by omega)) S'
    · walk_at "pq"
      have hi1 : i - 1 < rows.length := by omega
      have er : rows[i - 1]? = some rows[i - 1] := List.getElem?_eq_getElem hi1
      generalize rows[i - 1] = r at er
      obtain ⟨m', d', v'⟩ := r
      unfold progP
      refine w_ixT (row_at (by omega) (by rw [show ((i : Int) - 1).toNat = i - 1 by omega]; exact er)) ?_
      rw [rowP_mk]
      walk_at "pq"
      refine w_ixT (v := .str d') rfl ?_
      walk_at "pq"
      refine w_ndec (fun c1 => ?_) (fun c1 => ?_)
      · walk_at "pq"
        exact ⟨⟨_, rfl⟩, dk', X', gx, by omega, bx⟩
      · refine W.mono (put _ (.inr (by rw [dOf_at er]; exact c1)) rfl) ?_
        intro so st2 q
        cases so with
        | nx ρ2 => exact q
        | _ => exact q.elim
  obtain ⟨⟨x12, rfl⟩, dk', X', gx, lx, bx⟩ := q
  rw [range_len] at lx
  refine w_nx ?_
  walk_at "pq"
  refine W.mono (none_W dk' wk hf) ?_
  rintro v sB ⟨aB, jB, Y, rfl, ljB, gY, lY, bY⟩
  have gX : getM sB jx = some X' := Av.getM aB neA gx
  have dkB : Deck sB 1 := aB.deck dk'.lt
  refine w_addL gX gY (by omega) ?_
  have bZ : ∀ p ∈ X' ++ Y, Bad (sB ++ [PO.lst (X' ++ Y)]) rows p := fun p hp => by
    rcases List.mem_append.mp hp with hp | hp
    · exact bx _ p hp
    · exact (bY p hp).keep keep_app
  have gZ : getM (sB ++ [PO.lst (X' ++ Y)]) sB.length = some (X' ++ Y) := getM_last _ _
  generalize X' ++ Y = Z at *
  generalize sB ++ [PO.lst Z] = sC at *
  walk_at "pq"
  walk_at "ps"
  refine w_nx ?_
  walk_at "pq"
  refine w_seqL ?_
  walk_at "pq"
  refine ⟨_, _, rfl, getM_L gZ, ?_⟩
  refine lc_list (fun i acc sx => sx = sC ∧ acc = []) ⟨rfl, rfl⟩ (fun i acc sx q => by rw [q.1]; exact getM_L gZ) (fun i p acc sx hp q => ?_) (fun acc sx q => ?_)
  · obtain ⟨rfl, rfl⟩ := q
    have op := bZ p (List.mem_of_getElem? hp)
    walk_at "pq"
    refine W.mono (state' wk.known op.1) ?_
    rintro v t1 ⟨rfl, e⟩
    rw [op.2]
    subst e
    walk_at "pq"
    exact W.of rfl ⟨_, rfl, rfl, rfl⟩
  obtain ⟨rfl, rfl⟩ := q
  walk_at "pq"
  refine ne_nil (getL_app (getL_last _ _)) (getL_last _ _) ?_
  refine ⟨_, rfl, ?_⟩
  walk_at "pq"
  refine w_nx ?_
  walk_at "pq"
  refine W.mono start_W ?_
  rintro v sD ⟨rfl, e⟩
  walk_at "pq"
  refine w_mulT ⟨⟨by decide, by decide⟩, by simp, by decide⟩ ?_
  walk_at "pq"
  refine w_mulT ⟨⟨by decide, by decide⟩, by simp, by decide⟩ ?_
  walk_at "pq"
  rw [zs_rep, zs_rep]
  have fe : ∀ S, eqQ false (.tup startF) (.tup startF) S = .ok (.bl true) S := fun S => by
    have f : Pu.fit 60 (.tup startF) = true := by decide +kernel
    unfold eqQ
    dsimp only
    rw [if_pos ⟨f, f⟩, eqv_refl]
    rfl
  refine W.of (fe _) ?_
  walk_at "pq"
  refine W.of rfl ?_
  exact gc_bl
end K32

namespace K32
open PySem PySem.Spec L2 My Pu
theorem pure (ns : List Int) (h : ns.length ≤ 63) : ∃ st', p_law [.ref 0] [.fro (ns.map PV.int)] = .ok (.bl true) st' := by
  obtain ⟨v, st', e, hv⟩ := law_W ns h
  subst hv
  exact ⟨st', e⟩
end K32

namespace K32
open PySem PySem.Spec L2 My Pu
def top (i : Nat) : Stmt := PySem.Challenge.pw_beamrows_k32_states.main.body.getD i (.Pass ⟨0, 0, 0, 0⟩)
abbrev s_is_whole : Stmt := top 2
abbrev n_is_whole : List Str := ["thing"]
theorem sc_is_whole : FnScope n_is_whole ["thing"] (defScope s_is_whole) := ⟨rfl, rfl, rfl, by decide +kernel, rfl, by decide +kernel, by decide +kernel⟩
abbrev s_is_number : Stmt := top 3
abbrev n_is_number : List Str := ["thing", "low", "high"]
theorem sc_is_number : FnScope n_is_number ["thing", "low", "high"] (defScope s_is_number) := ⟨rfl, rfl, rfl, by decide +kernel, rfl, by decide +kernel, by decide +kernel⟩
abbrev s_is_byte : Stmt := top 4
abbrev n_is_byte : List Str := ["thing"]
theorem sc_is_byte : FnScope n_is_byte ["thing"] (defScope s_is_byte) := ⟨rfl, rfl, rfl, by decide +kernel, rfl, by decide +kernel, by decide +kernel⟩
abbrev s_are_bytes : Stmt := top 5
abbrev n_are_bytes : List Str := ["thing", "part"]
theorem sc_are_bytes : FnScope n_are_bytes ["thing"] (defScope s_are_bytes) := ⟨rfl, rfl, rfl, by decide +kernel, rfl, by decide +kernel, by decide +kernel⟩
abbrev s_are_so_many_bytes : Stmt := top 6
abbrev n_are_so_many_bytes : List Str := ["thing", "many"]
theorem sc_are_so_many_bytes : FnScope n_are_so_many_bytes ["thing", "many"] (defScope s_are_so_many_bytes) := ⟨rfl, rfl, rfl, by decide +kernel, rfl, by decide +kernel, by decide +kernel⟩
abbrev s_is_tuple_of : Stmt := top 7
abbrev n_is_tuple_of : List Str := ["thing", "many"]
theorem sc_is_tuple_of : FnScope n_is_tuple_of ["thing", "many"] (defScope s_is_tuple_of) := ⟨rfl, rfl, rfl, by decide +kernel, rfl, by decide +kernel, by decide +kernel⟩
abbrev s_kind : Stmt := top 10
abbrev n_kind : List Str := ["deed"]
theorem sc_kind : FnScope n_kind ["deed"] (defScope s_kind) := ⟨rfl, rfl, rfl, by decide +kernel, rfl, by decide +kernel, by decide +kernel⟩
abbrev s_is_wait : Stmt := top 13
abbrev n_is_wait : List Str := ["program", "row"]
theorem sc_is_wait : FnScope n_is_wait ["program", "row"] (defScope s_is_wait) := ⟨rfl, rfl, rfl, by decide +kernel, rfl, by decide +kernel, by decide +kernel⟩
abbrev s_is_state : Stmt := top 19
abbrev n_is_state : List Str := ["program", "thing", "row", "a", "x", "zero", "carry", "memory", "doors", "meetings", "timer", "beat", "waiting", "asked", "bit"]
theorem sc_is_state : FnScope n_is_state ["program", "thing"] (defScope s_is_state) := ⟨rfl, rfl, rfl, by decide +kernel, rfl, by decide +kernel, by decide +kernel⟩
abbrev s_is_code_row : Stmt := top 20
abbrev n_is_code_row : List Str := ["program", "thing"]
theorem sc_is_code_row : FnScope n_is_code_row ["program", "thing"] (defScope s_is_code_row) := ⟨rfl, rfl, rfl, by decide +kernel, rfl, by decide +kernel, by decide +kernel⟩
abbrev s_may_wait : Stmt := top 21
abbrev n_may_wait : List Str := ["program", "row", "beat", "asked"]
theorem sc_may_wait : FnScope n_may_wait ["program", "row", "beat", "asked"] (defScope s_may_wait) := ⟨rfl, rfl, rfl, by decide +kernel, rfl, by decide +kernel, by decide +kernel⟩
abbrev s_start : Stmt := top 22
abbrev n_start : List Str := ["program"]
theorem sc_start : FnScope n_start ["program"] (defScope s_start) := ⟨rfl, rfl, rfl, by decide +kernel, rfl, by decide +kernel, by decide +kernel⟩
abbrev s__law_mixed : Stmt := top 24
abbrev n__law_mixed : List Str := ["_law_cell", "_law_k", "_law_number"]
theorem sc__law_mixed : FnScope n__law_mixed ["_law_cell", "_law_k"] (defScope s__law_mixed) := ⟨rfl, rfl, rfl, by decide +kernel, rfl, by decide +kernel, by decide +kernel⟩
abbrev s__law_deck : Stmt := top 25
abbrev n__law_deck : List Str := ["_law_script", "_law_many", "_law_own", "_law_rest", "_law_cell", "_law_deck_here", "_law_k", "_law_at"]
theorem sc__law_deck : FnScope n__law_deck ["_law_script", "_law_many"] (defScope s__law_deck) := ⟨rfl, rfl, rfl, by decide +kernel, rfl, by decide +kernel, by decide +kernel⟩
abbrev s__law_next : Stmt := top 26
abbrev n__law_next : List Str := ["_law_deck_here"]
theorem sc__law_next : FnScope n__law_next ["_law_deck_here"] (defScope s__law_next) := ⟨rfl, rfl, rfl, by decide +kernel, rfl, by decide +kernel, by decide +kernel⟩
abbrev s__law_byte : Stmt := top 27
abbrev n__law_byte : List Str := ["_law_deck_here", "_law_number"]
theorem sc__law_byte : FnScope n__law_byte ["_law_deck_here"] (defScope s__law_byte) := ⟨rfl, rfl, rfl, by decide +kernel, rfl, by decide +kernel, by decide +kernel⟩
abbrev s__law_deeds : Stmt := top 28
abbrev n__law_deeds : List Str := ["_law_first"]
theorem sc__law_deeds : FnScope n__law_deeds [] (defScope s__law_deeds) := ⟨rfl, rfl, rfl, by decide +kernel, rfl, by decide +kernel, by decide +kernel⟩
abbrev s__law_most : Stmt := top 29
abbrev n__law_most : List Str := ["_law_at"]
theorem sc__law_most : FnScope n__law_most ["_law_at"] (defScope s__law_most) := ⟨rfl, rfl, rfl, by decide +kernel, rfl, by decide +kernel, by decide +kernel⟩
abbrev s__law_name : Stmt := top 30
abbrev n__law_name : List Str := ["_law_k"]
theorem sc__law_name : FnScope n__law_name ["_law_k"] (defScope s__law_name) := ⟨rfl, rfl, rfl, by decide +kernel, rfl, by decide +kernel, by decide +kernel⟩
abbrev s__law_value : Stmt := top 31
abbrev n__law_value : List Str := ["_law_deck_here", "_law_at", "_law_marks", "_law_tables", "_law_cell"]
theorem sc__law_value : FnScope n__law_value ["_law_deck_here", "_law_at", "_law_marks", "_law_tables"] (defScope s__law_value) := ⟨rfl, rfl, rfl, by decide +kernel, rfl, by decide +kernel, by decide +kernel⟩
abbrev s__law_free : Stmt := top 32
abbrev n__law_free : List Str := ["_law_deck_here", "_law_many", "_law_some", "_law_marked", "_law_k", "_law_borne", "_law_marks", "_law_tables", "_law_rows", "_law_at", "_law_value_here"]
theorem sc__law_free : FnScope n__law_free ["_law_deck_here", "_law_many", "_law_some"] (defScope s__law_free) := ⟨rfl, rfl, rfl, by decide +kernel, rfl, by decide +kernel, by decide +kernel⟩
abbrev s__law_memory : Stmt := top 33
abbrev n__law_memory : List Str := ["_law_deck_here", "_law_first", "_law_more", "_law_memory_here", "_law_k"]
theorem sc__law_memory : FnScope n__law_memory ["_law_deck_here"] (defScope s__law_memory) := ⟨rfl, rfl, rfl, by decide +kernel, rfl, by decide +kernel, by decide +kernel⟩
abbrev s__law_state : Stmt := top 34
abbrev n__law_state : List Str := ["_law_deck_here", "_law_row", "_law_flags", "_law_registers", "_law_memory_here", "_law_first", "_law_doors", "_law_k", "_law_rest"]
theorem sc__law_state : FnScope n__law_state ["_law_deck_here", "_law_row"] (defScope s__law_state) := ⟨rfl, rfl, rfl, by decide +kernel, rfl, by decide +kernel, by decide +kernel⟩
abbrev s__law_waiting : Stmt := top 35
abbrev n__law_waiting : List Str := ["_law_deck_here", "_law_many", "_law_program", "_law_at"]
theorem sc__law_waiting : FnScope n__law_waiting ["_law_deck_here"] (defScope s__law_waiting) := ⟨rfl, rfl, rfl, by decide +kernel, rfl, by decide +kernel, by decide +kernel⟩
abbrev s__law_most_of : Stmt := top 36
abbrev n__law_most_of : List Str := ["_law_field"]
theorem sc__law_most_of : FnScope n__law_most_of ["_law_field"] (defScope s__law_most_of) := ⟨rfl, rfl, rfl, by decide +kernel, rfl, by decide +kernel, by decide +kernel⟩
abbrev s__law_with : Stmt := top 37
abbrev n__law_with : List Str := ["_law_state_here", "_law_field", "_law_thing"]
theorem sc__law_with : FnScope n__law_with ["_law_state_here", "_law_field", "_law_thing"] (defScope s__law_with) := ⟨rfl, rfl, rfl, by decide +kernel, rfl, by decide +kernel, by decide +kernel⟩
abbrev s__law_no_rows : Stmt := top 38
abbrev n__law_no_rows : List Str := ["_law_program", "_law_state_here", "_law_many", "_law_some", "_law_thing"]
theorem sc__law_no_rows : FnScope n__law_no_rows ["_law_program", "_law_state_here", "_law_many"] (defScope s__law_no_rows) := ⟨rfl, rfl, rfl, by decide +kernel, rfl, by decide +kernel, by decide +kernel⟩
abbrev s__law_no_bytes : Stmt := top 39
abbrev n__law_no_bytes : List Str := ["_law_deck_here", "_law_state_here", "_law_field", "_law_some", "_law_at", "_law_things", "_law_one", "_law_thing"]
theorem sc__law_no_bytes : FnScope n__law_no_bytes ["_law_deck_here", "_law_state_here", "_law_field"] (defScope s__law_no_bytes) := ⟨rfl, rfl, rfl, by decide +kernel, rfl, by decide +kernel, by decide +kernel⟩
abbrev s__law_none : Stmt := top 40
abbrev n__law_none : List Str := ["_law_deck_here", "_law_program", "_law_state_here", "_law_many", "_law_found", "_law_field", "_law_thing"]
theorem sc__law_none : FnScope n__law_none ["_law_deck_here", "_law_program", "_law_state_here", "_law_many"] (defScope s__law_none) := ⟨rfl, rfl, rfl, by decide +kernel, rfl, by decide +kernel, by decide +kernel⟩
abbrev s_law : Stmt := top 41
abbrev n_law : List Str := ["_law_script", "_law_deck_here", "_law_program", "_law_behind", "_law_many", "_law_state_here", "_law_waits", "_law_good", "_law_field", "_law_one", "_law_bad", "_law_beat", "_law_row"]
theorem sc_law : FnScope n_law ["_law_script"] (defScope s_law) := ⟨rfl, rfl, rfl, by decide +kernel, rfl, by decide +kernel, by decide +kernel⟩
structure Txt (G : Gx) : Prop where
  c_MOST_OF_A_BYTE : ∃ t, G.mg "MOST_OF_A_BYTE" = some (Value.int 255 t)
  c_DEEDS : ∃ a, G.mg "DEEDS" = some (Value.ref a) ∧ TabR G a Prog.d_DEEDS
  c_DOOR_COUNT : ∃ t, G.mg "DOOR_COUNT" = some (Value.int 20 t)
  c_MEMORY_SIZE : ∃ t, G.mg "MEMORY_SIZE" = some (Value.int 16 t)
  c_MOST_MEETINGS : ∃ t, G.mg "MOST_MEETINGS" = some (Value.int 63 t)
  c_MOST_TIMER : ∃ t, G.mg "MOST_TIMER" = some (Value.int 4080 t)
  c_MOST_BEAT : ∃ t, G.mg "MOST_BEAT" = some (Value.int 4 t)
  b_all : G.mg "all" = none
  b_bool : G.mg "bool" = none
  b_int : G.mg "int" = none
  b_isinstance : G.mg "isinstance" = none
  b_len : G.mg "len" = none
  b_list : G.mg "list" = none
  b_range : G.mg "range" = none
  b_reversed : G.mg "reversed" = none
  b_tuple : G.mg "tuple" = none
end K32

namespace K32
open PySem PySem.Spec L2 My Pu
local macro_rules | `(tactic| walk_at "au") => `(tactic| first | rfl | (intro _; rfl) | (intro _ _; rfl) | exact Or.inl rfl | exact Or.inr rfl | decide | (with_unfolding_all rfl))
section
variable {P : Program} {w : World} {G : Gx} {base : Heap}
theorem d_is_whole (T : Txt G) (R : Raw G.K G.mg "is_whole" s_is_whole ["thing"])  : Def P w G.K G.mg base 1 "is_whole" ["thing"] (spOf G 1 Prog.bounds_is_whole) := by
  refine def_of R sc_is_whole (fun vs H Q E h => len_of h) (fun fn cdv A outer s H vs Q E hr h => ?_)
  refine' ⟨_, ?b0, ?rd⟩
  (case b0 =>
    refine' pss_one ?s1
    (case s1 => exact (@ps_ret _ _ _ _ (@pe_and _ _ _ _ _ _ _ (@peB _ _ _ _ _ _ _ _ _ (crIsiA (K := G.K) rfl) (by rfl) T.b_isinstance (by decide +kernel) (@paC _ _ _ _ _ (pv 0) (@paC _ _ _ _ _ (pe_bltn (v := .ty "int") (u := .type "int") (by rfl) T.b_int (by decide +kernel) rfl) pa_nil (by walk_at "au")) (by walk_at "au")) (by decide) (by decide) (by walk_at "au")) (@pe_one _ _ _ _ _ (@pe_not _ _ _ _ (@peB _ _ _ _ _ _ _ _ _ (crIsiA (K := G.K) rfl) (by rfl) T.b_isinstance (by decide +kernel) (@paC _ _ _ _ _ (pv 0) (@paC _ _ _ _ _ (pe_bltn (v := .ty "bool") (u := .type "bool") (by rfl) T.b_bool (by decide +kernel) rfl) pa_nil (by walk_at "au")) (by walk_at "au")) (by decide) (by decide) (by walk_at "au"))))))))
  (case rd =>
    refine body_of (N := n_is_whole) (ms := Prog.b_bounds_is_whole) ?_ h
    exact (ss_ret (se_and (se_cb sc_isi (sa_cons se_var (sa_cons (se_c (fun _ _ => rfl)) sa_nil))) (se_not (se_cb sc_isi (sa_cons se_var (sa_cons (se_c (fun _ _ => rfl)) sa_nil)))))))

theorem d_is_number (T : Txt G) (R : Raw G.K G.mg "is_number" s_is_number ["thing", "low", "high"]) (D_is_whole : Def P w G.K G.mg base 1 "is_whole" ["thing"] (spOf G 1 Prog.bounds_is_whole)) : Def P w G.K G.mg base 2 "is_number" ["thing", "low", "high"] (spOf G 3 Prog.bounds_is_number) := by
  refine def_of R sc_is_number (fun vs H Q E h => len_of h) (fun fn cdv A outer s H vs Q E hr h => ?_)
  refine' ⟨_, ?b0, ?rd⟩
  (case b0 =>
    refine' pss_one ?s1
    (case s1 => exact (@ps_ret _ _ _ _ (@pe_and _ _ _ _ _ _ _ (@peF _ _ _ _ _ _ _ _ _ _ D_is_whole (hr.mono (by decide)) (by rfl) (@paC _ _ _ _ _ (pv 0) pa_nil (by walk_at "au")) (by decide) (by walk_at "au")) (@pe_one _ _ _ _ _ (@pe_chain _ _ _ _ _ _ _ _ _ _ _ _ opLeA opLeA (pv 1) (pv 0) (pv 2) (by walk_at "au")))))))
  (case rd =>
    refine body_of (N := n_is_number) (ms := Prog.b_bounds_is_number) ?_ h
    exact (ss_ret (se_and (se_call (sa_cons se_var sa_nil)) (se_chain s2_le s2_le se_var se_var se_var))))

theorem d_is_byte (T : Txt G) (R : Raw G.K G.mg "is_byte" s_is_byte ["thing"]) (D_is_number : Def P w G.K G.mg base 2 "is_number" ["thing", "low", "high"] (spOf G 3 Prog.bounds_is_number)) : Def P w G.K G.mg base 3 "is_byte" ["thing"] (spOf G 1 Prog.bounds_is_byte) := by
  refine def_of R sc_is_byte (fun vs H Q E h => len_of h) (fun fn cdv A outer s H vs Q E hr h => ?_)
  refine' ⟨_, ?b0, ?rd⟩
  (case b0 =>
    refine' pss_one ?s1
    (case s1 => exact (@ps_ret _ _ _ _ (@peF _ _ _ _ _ _ _ _ _ _ D_is_number (hr.mono (by decide)) (by rfl) (@paC _ _ _ _ _ (pv 0) (@paC _ _ _ _ _ pe_int (@paC _ _ _ _ _ (pe_globI (by rfl) T.c_MOST_OF_A_BYTE) pa_nil (by walk_at "au")) (by walk_at "au")) (by walk_at "au")) (by decide) (by walk_at "au")))))
  (case rd =>
    refine body_of (N := n_is_byte) (ms := Prog.b_bounds_is_byte) ?_ h
    exact (ss_ret (se_call (sa_cons se_var (sa_cons (se_c (fun _ _ => rfl)) (sa_cons (se_c (fun _ _ => rfl)) sa_nil))))))

theorem d_are_bytes (T : Txt G) {co Ta : Addr} (R : RawG G.K G.mg "are_bytes" s_are_bytes ["thing"] co Ta) (hC : PySem.W.CodeHd base co Ta) (hM : BMain G.mg base) (hP : Ta ∈ G.tabs) (D_is_byte : Def P w G.K G.mg base 3 "is_byte" ["thing"] (spOf G 1 Prog.bounds_is_byte)) : Def P w G.K G.mg base 5 "are_bytes" ["thing"] (spOf G 1 Prog.bounds_are_bytes) := by
  refine def_ofG R sc_are_bytes (fun vs H Q E h => len_of h) (fun fn A outer s H vs Q E hr h => ?_)
  refine' ⟨_, ?b0, ?rd⟩
  (case b0 =>
    refine' pss_one ?s1
    (case s1 => exact (@ps_ret _ _ _ _ (@pe_and _ _ _ _ _ _ _ (@peB _ _ _ _ _ _ _ _ _ (crIsiA (K := G.K) rfl) (by rfl) T.b_isinstance (by decide +kernel) (@paC _ _ _ _ _ (pv 0) (@paC _ _ _ _ _ (pe_bltn (v := .ty "tuple") (u := .type "tuple") (by rfl) T.b_tuple (by decide +kernel) rfl) pa_nil (by walk_at "au")) (by walk_at "au")) (by decide) (by decide) (by walk_at "au")) (@pe_one _ _ _ _ _ (@peAllG _ _ _ _ _ _ ([("part", 1)]) _ _ _ _ (3) _ _ _ _ _ rfl sc_are_bytes.nd (hr.mono (by decide)) (@pi_seq _ (G.K) _ _ _ rfl (pv 0)) (genOk_by (own := [("part", 1)]) (N := n_are_bytes) (sc := defScope s_are_bytes) (by decide +kernel)) rfl hC hM (by rfl) T.b_all (fun _ _ _ _ _ _ hr => (pg_name (i := 1) sc_are_bytes.nd rfl (by first | exact Or.inl rfl | exact Or.inr rfl))) (fun _ _ _ _ _ _ hr => pts_nil) (fun _ _ _ _ _ _ hr => (@peF _ _ _ _ _ _ _ _ _ _ D_is_byte (hr.mono (by decide)) (by rfl) (@paC _ _ _ _ _ (pv 1) pa_nil (by walk_at "au")) (by decide) (by walk_at "au"))) (by walk_at "au")))))))
  (case rd =>
    refine body_of (N := n_are_bytes) (ms := Prog.b_bounds_are_bytes) ?_ h
    exact (ss_ret (se_and (se_cb sc_isi (sa_cons se_var (sa_cons (se_c (fun _ _ => rfl)) sa_nil))) (se_allG hP (si_seq se_var) (sg_name (vs := [1]) (by decide)) st_yes (se_call (sa_cons se_var sa_nil))))))

theorem d_are_so_many_bytes (T : Txt G) (R : Raw G.K G.mg "are_so_many_bytes" s_are_so_many_bytes ["thing", "many"]) (D_are_bytes : Def P w G.K G.mg base 5 "are_bytes" ["thing"] (spOf G 1 Prog.bounds_are_bytes)) : Def P w G.K G.mg base 6 "are_so_many_bytes" ["thing", "many"] (spOf G 2 Prog.bounds_are_so_many_bytes) := by
  refine def_of R sc_are_so_many_bytes (fun vs H Q E h => len_of h) (fun fn cdv A outer s H vs Q E hr h => ?_)
  refine' ⟨_, ?b0, ?rd⟩
  (case b0 =>
    refine' pss_one ?s1
    (case s1 => exact (@ps_ret _ _ _ _ (@pe_and _ _ _ _ _ _ _ (@peF _ _ _ _ _ _ _ _ _ _ D_are_bytes (hr.mono (by decide)) (by rfl) (@paC _ _ _ _ _ (pv 0) pa_nil (by walk_at "au")) (by decide) (by walk_at "au")) (@pe_one _ _ _ _ _ (@pe_cmpR _ _ _ _ _ _ _ _ (opEqA (K := G.K) rfl hr.units) (@peB _ _ _ _ _ _ _ _ _ (crLenA (K := G.K) rfl) (by rfl) T.b_len (by decide +kernel) (@paC _ _ _ _ _ (pv 0) pa_nil (by walk_at "au")) (by decide) (by decide) (by walk_at "au")) (pv 1) (nomark _)))))))
  (case rd =>
    refine body_of (N := n_are_so_many_bytes) (ms := Prog.b_bounds_are_so_many_bytes) ?_ h
    exact (ss_ret (se_and (se_call (sa_cons se_var sa_nil)) (se_op s2_eq (se_cb sc_len (sa_cons se_var sa_nil)) se_var))))

theorem d_is_tuple_of (T : Txt G) (R : Raw G.K G.mg "is_tuple_of" s_is_tuple_of ["thing", "many"])  : Def P w G.K G.mg base 1 "is_tuple_of" ["thing", "many"] (spOf G 2 Prog.bounds_is_tuple_of) := by
  refine def_of R sc_is_tuple_of (fun vs H Q E h => len_of h) (fun fn cdv A outer s H vs Q E hr h => ?_)
  refine' ⟨_, ?b0, ?rd⟩
  (case b0 =>
    refine' pss_one ?s1
    (case s1 => exact (@ps_ret _ _ _ _ (@pe_and _ _ _ _ _ _ _ (@peB _ _ _ _ _ _ _ _ _ (crIsiA (K := G.K) rfl) (by rfl) T.b_isinstance (by decide +kernel) (@paC _ _ _ _ _ (pv 0) (@paC _ _ _ _ _ (pe_bltn (v := .ty "tuple") (u := .type "tuple") (by rfl) T.b_tuple (by decide +kernel) rfl) pa_nil (by walk_at "au")) (by walk_at "au")) (by decide) (by decide) (by walk_at "au")) (@pe_one _ _ _ _ _ (@pe_cmpR _ _ _ _ _ _ _ _ (opEqA (K := G.K) rfl hr.units) (@peB _ _ _ _ _ _ _ _ _ (crLenA (K := G.K) rfl) (by rfl) T.b_len (by decide +kernel) (@paC _ _ _ _ _ (pv 0) pa_nil (by walk_at "au")) (by decide) (by decide) (by walk_at "au")) (pv 1) (nomark _)))))))
  (case rd =>
    refine body_of (N := n_is_tuple_of) (ms := Prog.b_bounds_is_tuple_of) ?_ h
    exact (ss_ret (se_and (se_cb sc_isi (sa_cons se_var (sa_cons (se_c (fun _ _ => rfl)) sa_nil))) (se_op s2_eq (se_cb sc_len (sa_cons se_var sa_nil)) se_var))))

theorem d_kind (T : Txt G) (R : Raw G.K G.mg "kind" s_kind ["deed"])  : Def P w G.K G.mg base 1 "kind" ["deed"] (spOf G 1 Prog.deeds_kind) := by
  obtain ⟨a_DEEDS, h_DEEDS, q_DEEDS⟩ := T.c_DEEDS
  refine def_of R sc_kind (fun vs H Q E h => len_of h) (fun fn cdv A outer s H vs Q E hr h => ?_)
  refine' ⟨_, ?b0, ?rd⟩
  (case b0 =>
    refine' pss_one ?s1
    (case s1 => exact (@ps_ret _ _ _ _ (@pe_ix _ _ _ _ _ _ _ (ixA (K := G.K) rfl) (@peMGet _ _ _ _ _ _ (G.K) rfl (pe_globR (by rfl) h_DEEDS) (pv 0) (fun _ _ => rfl)) pe_int (fun _ _ => rfl)))))
  (case rd =>
    refine body_of (N := n_kind) (ms := Prog.b_deeds_kind) ?_ h
    exact (ss_ret (se_op s2_ix (se_mget q_DEEDS se_var) (se_c (fun _ _ => rfl)))))

theorem d_is_wait (T : Txt G) (R : Raw G.K G.mg "is_wait" s_is_wait ["program", "row"])  : Def P w G.K G.mg base 1 "is_wait" ["program", "row"] (spOf G 2 Prog.programs_is_wait) := by
  refine def_of R sc_is_wait (fun vs H Q E h => len_of h) (fun fn cdv A outer s H vs Q E hr h => ?_)
  refine' ⟨_, ?b0, ?rd⟩
  (case b0 =>
    refine' pss_one ?s1
    (case s1 => exact (@ps_ret _ _ _ _ (@pe_and _ _ _ _ _ _ _ (@pe_chain _ _ _ _ _ _ _ _ _ _ _ _ opLeA (opLtA (K := G.K) rfl hr.units) pe_int (pv 1) (@peB _ _ _ _ _ _ _ _ _ (crLenA (K := G.K) rfl) (by rfl) T.b_len (by decide +kernel) (@paC _ _ _ _ _ (pv 0) pa_nil (by walk_at "au")) (by decide) (by decide) (by walk_at "au")) (by walk_at "au")) (@pe_one _ _ _ _ _ (@pe_cmpR _ _ _ _ _ _ _ _ (opEqA (K := G.K) rfl hr.units) (@pe_ix _ _ _ _ _ _ _ (ixA (K := G.K) rfl) (@pe_ix _ _ _ _ _ _ _ (ixA (K := G.K) rfl) (pv 0) (pv 1) (fun _ _ => rfl)) pe_int (fun _ _ => rfl)) pe_str (nomark _)))))))
  (case rd =>
    refine body_of (N := n_is_wait) (ms := Prog.b_programs_is_wait) ?_ h
    exact (ss_ret (se_and (se_chain s2_le s2_lt (se_c (fun _ _ => rfl)) se_var (se_cb sc_len (sa_cons se_var sa_nil))) (se_op s2_eq (se_op s2_ix (se_op s2_ix se_var se_var) (se_c (fun _ _ => rfl))) (se_c (fun _ _ => rfl))))))

theorem d_may_wait (T : Txt G) (R : Raw G.K G.mg "may_wait" s_may_wait ["program", "row", "beat", "asked"]) (D_is_wait : Def P w G.K G.mg base 1 "is_wait" ["program", "row"] (spOf G 2 Prog.programs_is_wait)) : Def P w G.K G.mg base 2 "may_wait" ["program", "row", "beat", "asked"] (spOf G 4 Prog.states_may_wait) := by
  refine def_of R sc_may_wait (fun vs H Q E h => len_of h) (fun fn cdv A outer s H vs Q E hr h => ?_)
  refine' ⟨_, ?b0, ?rd⟩
  (case b0 =>
    refine' pss_one ?s1
    (case s1 => exact (@ps_ret _ _ _ _ (@pe_and _ _ _ _ _ _ _ (@pe_cmpR _ _ _ _ _ _ _ _ (opEqA (K := G.K) rfl hr.units) (pv 2) pe_int (nomark _)) (@pe_and _ _ _ _ _ _ _ (@pe_cmpR _ _ _ _ _ _ _ _ (opEqA (K := G.K) rfl hr.units) (pv 3) pe_int (nomark _)) (@pe_one _ _ _ _ _ (@peF _ _ _ _ _ _ _ _ _ _ D_is_wait (hr.mono (by decide)) (by rfl) (@paC _ _ _ _ _ (pv 0) (@paC _ _ _ _ _ (@pe_op _ _ _ _ _ _ _ _ op_sub (pv 1) pe_int) pa_nil (by walk_at "au")) (by walk_at "au")) (by decide) (by walk_at "au"))))))))
  (case rd =>
    refine body_of (N := n_may_wait) (ms := Prog.b_states_may_wait) ?_ h
    exact (ss_ret (se_and (se_op s2_eq se_var (se_c (fun _ _ => rfl))) (se_and (se_op s2_eq se_var (se_c (fun _ _ => rfl))) (se_call (sa_cons se_var (sa_cons (se_op s2_sub se_var (se_c (fun _ _ => rfl))) sa_nil)))))))

theorem d_is_code_row (T : Txt G) (R : Raw G.K G.mg "is_code_row" s_is_code_row ["program", "thing"]) (D_is_number : Def P w G.K G.mg base 2 "is_number" ["thing", "low", "high"] (spOf G 3 Prog.bounds_is_number)) (D_kind : Def P w G.K G.mg base 1 "kind" ["deed"] (spOf G 1 Prog.deeds_kind)) : Def P w G.K G.mg base 3 "is_code_row" ["program", "thing"] (spOf G 2 Prog.states_is_code_row) := by
  refine def_of R sc_is_code_row (fun vs H Q E h => len_of h) (fun fn cdv A outer s H vs Q E hr h => ?_)
  refine' ⟨_, ?b0, ?rd⟩
  (case b0 =>
    refine' pss_one ?s1
    (case s1 => exact (@ps_ret _ _ _ _ (@pe_and _ _ _ _ _ _ _ (@peF _ _ _ _ _ _ _ _ _ _ D_is_number (hr.mono (by decide)) (by rfl) (@paC _ _ _ _ _ (pv 1) (@paC _ _ _ _ _ pe_int (@paC _ _ _ _ _ (@pe_op _ _ _ _ _ _ _ _ op_sub (@peB _ _ _ _ _ _ _ _ _ (crLenA (K := G.K) rfl) (by rfl) T.b_len (by decide +kernel) (@paC _ _ _ _ _ (pv 0) pa_nil (by walk_at "au")) (by decide) (by decide) (by walk_at "au")) pe_int) pa_nil (by walk_at "au")) (by walk_at "au")) (by walk_at "au")) (by decide) (by walk_at "au")) (@pe_one _ _ _ _ _ (@pe_cmpR _ _ _ _ _ _ _ _ (opNeA (K := G.K) rfl hr.units) (@peF _ _ _ _ _ _ _ _ _ _ D_kind (hr.mono (by decide)) (by rfl) (@paC _ _ _ _ _ (@pe_ix _ _ _ _ _ _ _ (ixA (K := G.K) rfl) (@pe_ix _ _ _ _ _ _ _ (ixA (K := G.K) rfl) (pv 0) (pv 1) (fun _ _ => rfl)) pe_int (fun _ _ => rfl)) pa_nil (by walk_at "au")) (by decide) (by walk_at "au")) pe_str (nomark _)))))))
  (case rd =>
    refine body_of (N := n_is_code_row) (ms := Prog.b_states_is_code_row) ?_ h
    exact (ss_ret (se_and (se_call (sa_cons se_var (sa_cons (se_c (fun _ _ => rfl)) (sa_cons (se_op s2_sub (se_cb sc_len (sa_cons se_var sa_nil)) (se_c (fun _ _ => rfl))) sa_nil)))) (se_op s2_ne (se_call (sa_cons (se_op s2_ix (se_op s2_ix se_var se_var) (se_c (fun _ _ => rfl))) sa_nil)) (se_c (fun _ _ => rfl))))))

theorem d_is_state (T : Txt G) {co Ta : Addr} (R : RawG G.K G.mg "is_state" s_is_state ["program", "thing"] co Ta) (hC : PySem.W.CodeHd base co Ta) (hM : BMain G.mg base) (hP : Ta ∈ G.tabs) (D_is_tuple_of : Def P w G.K G.mg base 1 "is_tuple_of" ["thing", "many"] (spOf G 2 Prog.bounds_is_tuple_of)) (D_is_number : Def P w G.K G.mg base 2 "is_number" ["thing", "low", "high"] (spOf G 3 Prog.bounds_is_number)) (D_may_wait : Def P w G.K G.mg base 2 "may_wait" ["program", "row", "beat", "asked"] (spOf G 4 Prog.states_may_wait)) (D_is_code_row : Def P w G.K G.mg base 3 "is_code_row" ["program", "thing"] (spOf G 2 Prog.states_is_code_row)) (D_is_byte : Def P w G.K G.mg base 3 "is_byte" ["thing"] (spOf G 1 Prog.bounds_is_byte)) (D_are_so_many_bytes : Def P w G.K G.mg base 6 "are_so_many_bytes" ["thing", "many"] (spOf G 2 Prog.bounds_are_so_many_bytes)) : Def P w G.K G.mg base 7 "is_state" ["program", "thing"] (spOf G 2 Prog.states_is_state) := by
  refine def_ofG R sc_is_state (fun vs H Q E h => len_of h) (fun fn A outer s H vs Q E hr h => ?_)
  refine' ⟨_, ?b0, ?rd⟩
  (case b0 =>
    refine' pss_cons ?s1 ?b1
    (case s1 => exact (@ps_if _ _ _ _ _ _ _ _ (@pt_not _ _ _ _ (@pt_val _ _ _ (@peF _ _ _ _ _ _ _ _ _ _ D_is_tuple_of (hr.mono (by decide)) (by rfl) (@paC _ _ _ _ _ (pv 1) (@paC _ _ _ _ _ pe_int pa_nil (by walk_at "au")) (by walk_at "au")) (by decide) (by walk_at "au")) (by walk_at "au"))) (@pss_one _ _ _ (@ps_ret _ _ _ _ pe_bl)) pss_nil))
    (case b1 =>
      refine' pss_cons ?s2 ?b2
      (case s2 => exact (@ps_asg _ _ _ _ _ _ (pv 1) (@pg_tupK _ (G.K) _ _ _ _ _ rfl (@pg_tup _ _ _ _ _ (12) rfl (@pgs_cons _ _ _ _ _ (pg_name (i := 2) sc_is_state.nd rfl (by first | exact Or.inl rfl | exact Or.inr rfl)) (@pgs_cons _ _ _ _ _ (pg_name (i := 3) sc_is_state.nd rfl (by first | exact Or.inl rfl | exact Or.inr rfl)) (@pgs_cons _ _ _ _ _ (pg_name (i := 4) sc_is_state.nd rfl (by first | exact Or.inl rfl | exact Or.inr rfl)) (@pgs_cons _ _ _ _ _ (pg_name (i := 5) sc_is_state.nd rfl (by first | exact Or.inl rfl | exact Or.inr rfl)) (@pgs_cons _ _ _ _ _ (pg_name (i := 6) sc_is_state.nd rfl (by first | exact Or.inl rfl | exact Or.inr rfl)) (@pgs_cons _ _ _ _ _ (pg_name (i := 7) sc_is_state.nd rfl (by first | exact Or.inl rfl | exact Or.inr rfl)) (@pgs_cons _ _ _ _ _ (pg_name (i := 8) sc_is_state.nd rfl (by first | exact Or.inl rfl | exact Or.inr rfl)) (@pgs_cons _ _ _ _ _ (pg_name (i := 9) sc_is_state.nd rfl (by first | exact Or.inl rfl | exact Or.inr rfl)) (@pgs_cons _ _ _ _ _ (pg_name (i := 10) sc_is_state.nd rfl (by first | exact Or.inl rfl | exact Or.inr rfl)) (@pgs_cons _ _ _ _ _ (pg_name (i := 11) sc_is_state.nd rfl (by first | exact Or.inl rfl | exact Or.inr rfl)) (@pgs_cons _ _ _ _ _ (pg_name (i := 12) sc_is_state.nd rfl (by first | exact Or.inl rfl | exact Or.inr rfl)) (@pgs_cons _ _ _ _ _ (pg_name (i := 13) sc_is_state.nd rfl (by first | exact Or.inl rfl | exact Or.inr rfl)) pgs_nil (by walk_at "au")) (by walk_at "au")) (by walk_at "au")) (by walk_at "au")) (by walk_at "au")) (by walk_at "au")) (by walk_at "au")) (by walk_at "au")) (by walk_at "au")) (by walk_at "au")) (by walk_at "au")) (by walk_at "au")) (by walk_at "au") (by walk_at "au"))) (by walk_at "au") (by walk_at "au") (by walk_at "au")))
      (case b2 =>
        refine' pss_cons ?s3 ?b3
        (case s3 => exact (@ps_if _ _ _ _ _ _ _ _ (@PW.pt _ _ _ (@pw_or _ _ _ _ _ _ _ (@pt_not _ _ _ _ (@pt_val _ _ _ (@peF _ _ _ _ _ _ _ _ _ _ D_is_code_row (hr.mono (by decide)) (by rfl) (@paC _ _ _ _ _ (pv 0) (@paC _ _ _ _ _ (pv 2) pa_nil (by walk_at "au")) (by walk_at "au")) (by decide) (by walk_at "au")) (by walk_at "au"))) (@pw_or _ _ _ _ _ _ _ (@pt_not _ _ _ _ (@pt_val _ _ _ (@peF _ _ _ _ _ _ _ _ _ _ D_is_byte (hr.mono (by decide)) (by rfl) (@paC _ _ _ _ _ (pv 3) pa_nil (by walk_at "au")) (by decide) (by walk_at "au")) (by walk_at "au"))) (@pw_or1 _ _ _ _ (@pt_not _ _ _ _ (@pt_val _ _ _ (@peF _ _ _ _ _ _ _ _ _ _ D_is_byte (hr.mono (by decide)) (by rfl) (@paC _ _ _ _ _ (pv 4) pa_nil (by walk_at "au")) (by decide) (by walk_at "au")) (by walk_at "au"))))))) (@pss_one _ _ _ (@ps_ret _ _ _ _ pe_bl)) pss_nil))
        (case b3 =>
          refine' pss_cons ?s4 ?b4
          (case s4 => exact (@ps_if _ _ _ _ _ _ _ _ (@PW.pt _ _ _ (@pw_or _ _ _ _ _ _ _ (@pt_not _ _ _ _ (@pt_val _ _ _ (@peF _ _ _ _ _ _ _ _ _ _ D_are_so_many_bytes (hr.mono (by decide)) (by rfl) (@paC _ _ _ _ _ (pv 7) (@paC _ _ _ _ _ (pe_globI (by rfl) T.c_MEMORY_SIZE) pa_nil (by walk_at "au")) (by walk_at "au")) (by decide) (by walk_at "au")) (by walk_at "au"))) (@pw_or1 _ _ _ _ (@pt_not _ _ _ _ (@pt_val _ _ _ (@peF _ _ _ _ _ _ _ _ _ _ D_are_so_many_bytes (hr.mono (by decide)) (by rfl) (@paC _ _ _ _ _ (pv 8) (@paC _ _ _ _ _ (pe_globI (by rfl) T.c_DOOR_COUNT) pa_nil (by walk_at "au")) (by walk_at "au")) (by decide) (by walk_at "au")) (by walk_at "au")))))) (@pss_one _ _ _ (@ps_ret _ _ _ _ pe_bl)) pss_nil))
          (case b4 =>
            refine' pss_cons ?s5 ?b5
            (case s5 => exact (@ps_if _ _ _ _ _ _ _ _ (@pt_not _ _ _ _ (@pt_val _ _ _ (@peAllG _ _ _ _ _ _ ([("bit", 14)]) _ _ _ _ (2) _ _ _ _ _ rfl sc_is_state.nd (hr.mono (by decide)) (@pi_seq _ (G.K) _ _ _ rfl (@pe_tup _ _ _ _ _ (@paC _ _ _ _ _ (pv 5) (@paC _ _ _ _ _ (pv 6) (@paC _ _ _ _ _ (pv 12) (@paC _ _ _ _ _ (pv 13) pa_nil (by walk_at "au")) (by walk_at "au")) (by walk_at "au")) (by walk_at "au")))) (genOk_by (own := [("bit", 14)]) (N := n_is_state) (sc := defScope s_is_state) (by decide +kernel)) rfl hC hM (by rfl) T.b_all (fun _ _ _ _ _ _ hr => (pg_name (i := 14) sc_is_state.nd rfl (by first | exact Or.inl rfl | exact Or.inr rfl))) (fun _ _ _ _ _ _ hr => pts_nil) (fun _ _ _ _ _ _ hr => (@peF _ _ _ _ _ _ _ _ _ _ D_is_number (hr.mono (by decide)) (by rfl) (@paC _ _ _ _ _ (pv 14) (@paC _ _ _ _ _ pe_int (@paC _ _ _ _ _ pe_int pa_nil (by walk_at "au")) (by walk_at "au")) (by walk_at "au")) (by decide) (by walk_at "au"))) (by walk_at "au")) (by walk_at "au"))) (@pss_one _ _ _ (@ps_ret _ _ _ _ pe_bl)) pss_nil))
            (case b5 =>
              refine' pss_cons ?s6 ?b6
              (case s6 => exact (@ps_if _ _ _ _ _ _ _ _ (@PW.pt _ _ _ (@pw_or _ _ _ _ _ _ _ (@pt_not _ _ _ _ (@pt_val _ _ _ (@peF _ _ _ _ _ _ _ _ _ _ D_is_number (hr.mono (by decide)) (by rfl) (@paC _ _ _ _ _ (pv 9) (@paC _ _ _ _ _ pe_int (@paC _ _ _ _ _ (pe_globI (by rfl) T.c_MOST_MEETINGS) pa_nil (by walk_at "au")) (by walk_at "au")) (by walk_at "au")) (by decide) (by walk_at "au")) (by walk_at "au"))) (@pw_or1 _ _ _ _ (@pt_not _ _ _ _ (@pt_val _ _ _ (@peF _ _ _ _ _ _ _ _ _ _ D_is_number (hr.mono (by decide)) (by rfl) (@paC _ _ _ _ _ (pv 10) (@paC _ _ _ _ _ pe_int (@paC _ _ _ _ _ (pe_globI (by rfl) T.c_MOST_TIMER) pa_nil (by walk_at "au")) (by walk_at "au")) (by walk_at "au")) (by decide) (by walk_at "au")) (by walk_at "au")))))) (@pss_one _ _ _ (@ps_ret _ _ _ _ pe_bl)) pss_nil))
              (case b6 =>
                refine' pss_cons ?s7 ?b7
                (case s7 => exact (@ps_if _ _ _ _ _ _ _ _ (@pt_not _ _ _ _ (@pt_val _ _ _ (@peF _ _ _ _ _ _ _ _ _ _ D_is_number (hr.mono (by decide)) (by rfl) (@paC _ _ _ _ _ (pv 11) (@paC _ _ _ _ _ pe_int (@paC _ _ _ _ _ (pe_globI (by rfl) T.c_MOST_BEAT) pa_nil (by walk_at "au")) (by walk_at "au")) (by walk_at "au")) (by decide) (by walk_at "au")) (by walk_at "au"))) (@pss_one _ _ _ (@ps_ret _ _ _ _ pe_bl)) pss_nil))
                (case b7 =>
                  refine' pss_one ?s8
                  (case s8 => exact (@ps_ret _ _ _ _ (@pe_or _ _ _ _ _ _ _ (@pe_cmpR _ _ _ _ _ _ _ _ (opEqA (K := G.K) rfl hr.units) (pv 12) pe_int (nomark _)) (@pe_one _ _ _ _ _ (@peF _ _ _ _ _ _ _ _ _ _ D_may_wait (hr.mono (by decide)) (by rfl) (@paC _ _ _ _ _ (pv 0) (@paC _ _ _ _ _ (pv 2) (@paC _ _ _ _ _ (pv 11) (@paC _ _ _ _ _ (pv 13) pa_nil (by walk_at "au")) (by walk_at "au")) (by walk_at "au")) (by walk_at "au")) (by decide) (by walk_at "au"))))))))))))))
  (case rd =>
    refine body_of (N := n_is_state) (ms := Prog.b_states_is_state) ?_ h
    refine ss_seq (ss_if (st_not (st_of (se_call (sa_cons se_var (sa_cons (se_c (fun _ _ => rfl)) sa_nil))))) (ss_ret (se_c (fun _ _ => rfl))) ss_next) ?_
    refine ss_seq (ss_asg se_var (SG.any (sg_tup (sgs_cons (sg_name (vs := [2, 3, 4, 5, 6, 7, 8, 9, 10, 11, 12, 13]) (by decide)) (sgs_cons (sg_name (vs := [2, 3, 4, 5, 6, 7, 8, 9, 10, 11, 12, 13]) (by decide)) (sgs_cons (sg_name (vs := [2, 3, 4, 5, 6, 7, 8, 9, 10, 11, 12, 13]) (by decide)) (sgs_cons (sg_name (vs := [2, 3, 4, 5, 6, 7, 8, 9, 10, 11, 12, 13]) (by decide)) (sgs_cons (sg_name (vs := [2, 3, 4, 5, 6, 7, 8, 9, 10, 11, 12, 13]) (by decide)) (sgs_cons (sg_name (vs := [2, 3, 4, 5, 6, 7, 8, 9, 10, 11, 12, 13]) (by decide)) (sgs_cons (sg_name (vs := [2, 3, 4, 5, 6, 7, 8, 9, 10, 11, 12, 13]) (by decide)) (sgs_cons (sg_name (vs := [2, 3, 4, 5, 6, 7, 8, 9, 10, 11, 12, 13]) (by decide)) (sgs_cons (sg_name (vs := [2, 3, 4, 5, 6, 7, 8, 9, 10, 11, 12, 13]) (by decide)) (sgs_cons (sg_name (vs := [2, 3, 4, 5, 6, 7, 8, 9, 10, 11, 12, 13]) (by decide)) (sgs_cons (sg_name (vs := [2, 3, 4, 5, 6, 7, 8, 9, 10, 11, 12, 13]) (by decide)) (sgs_cons (sg_name (vs := [2, 3, 4, 5, 6, 7, 8, 9, 10, 11, 12, 13]) (by decide)) sgs_nil))))))))))))))) ?_
    refine ss_seq (ss_if (st_or (st_not (st_of (se_call (sa_cons se_var (sa_cons se_var sa_nil))))) (st_or (st_not (st_of (se_call (sa_cons se_var sa_nil)))) (st_not (st_of (se_call (sa_cons se_var sa_nil)))))) (ss_ret (se_c (fun _ _ => rfl))) ss_next) ?_
    refine ss_seq (ss_if (st_or (st_not (st_of (se_call (sa_cons se_var (sa_cons (se_c (fun _ _ => rfl)) sa_nil))))) (st_not (st_of (se_call (sa_cons se_var (sa_cons (se_c (fun _ _ => rfl)) sa_nil)))))) (ss_ret (se_c (fun _ _ => rfl))) ss_next) ?_
    refine ss_seq (ss_if (st_not (st_of (se_allG hP (si_seq (se_tup (sa_cons se_var (sa_cons se_var (sa_cons se_var (sa_cons se_var sa_nil)))))) (sg_name (vs := [14]) (by decide)) st_yes (se_call (sa_cons se_var (sa_cons (se_c (fun _ _ => rfl)) (sa_cons (se_c (fun _ _ => rfl)) sa_nil))))))) (ss_ret (se_c (fun _ _ => rfl))) ss_next) ?_
    refine ss_seq (ss_if (st_or (st_not (st_of (se_call (sa_cons se_var (sa_cons (se_c (fun _ _ => rfl)) (sa_cons (se_c (fun _ _ => rfl)) sa_nil)))))) (st_not (st_of (se_call (sa_cons se_var (sa_cons (se_c (fun _ _ => rfl)) (sa_cons (se_c (fun _ _ => rfl)) sa_nil))))))) (ss_ret (se_c (fun _ _ => rfl))) ss_next) ?_
    refine ss_seq (ss_if (st_not (st_of (se_call (sa_cons se_var (sa_cons (se_c (fun _ _ => rfl)) (sa_cons (se_c (fun _ _ => rfl)) sa_nil)))))) (ss_ret (se_c (fun _ _ => rfl))) ss_next) ?_
    exact (ss_ret (se_or (se_op s2_eq se_var (se_c (fun _ _ => rfl))) (se_call (sa_cons se_var (sa_cons se_var (sa_cons se_var (sa_cons se_var sa_nil))))))))

theorem d_start (T : Txt G) (R : Raw G.K G.mg "start" s_start ["program"])  : Def P w G.K G.mg base 1 "start" ["program"] (spOf G 1 Prog.states_start) := by
  refine def_of R sc_start (fun vs H Q E h => len_of h) (fun fn cdv A outer s H vs Q E hr h => ?_)
  refine' ⟨_, ?b0, ?rd⟩
  (case b0 =>
    refine' pss_one ?s1
    (case s1 => exact (@ps_ret _ _ _ _ (@pe_tup _ _ _ _ _ (@paC _ _ _ _ _ pe_int (@paC _ _ _ _ _ pe_int (@paC _ _ _ _ _ pe_int (@paC _ _ _ _ _ pe_int (@paC _ _ _ _ _ pe_int (@paC _ _ _ _ _ (@pe_op _ _ _ _ _ _ _ _ (opRepT (K := G.K) rfl) (@pe_tup _ _ _ _ _ (@paC _ _ _ _ _ pe_int pa_nil (by walk_at "au"))) (pe_globI (by rfl) T.c_MEMORY_SIZE)) (@paC _ _ _ _ _ (@pe_op _ _ _ _ _ _ _ _ (opRepT (K := G.K) rfl) (@pe_tup _ _ _ _ _ (@paC _ _ _ _ _ pe_int pa_nil (by walk_at "au"))) (pe_globI (by rfl) T.c_DOOR_COUNT)) (@paC _ _ _ _ _ pe_int (@paC _ _ _ _ _ pe_int (@paC _ _ _ _ _ pe_int (@paC _ _ _ _ _ pe_int (@paC _ _ _ _ _ pe_int pa_nil (by walk_at "au")) (by walk_at "au")) (by walk_at "au")) (by walk_at "au")) (by walk_at "au")) (by walk_at "au")) (by walk_at "au")) (by walk_at "au")) (by walk_at "au")) (by walk_at "au")) (by walk_at "au")) (by walk_at "au"))))))
  (case rd =>
    refine body_of (N := n_start) (ms := Prog.b_states_start) ?_ h
    exact (ss_ret (se_tup (sa_cons (se_c (fun _ _ => rfl)) (sa_cons (se_c (fun _ _ => rfl)) (sa_cons (se_c (fun _ _ => rfl)) (sa_cons (se_c (fun _ _ => rfl)) (sa_cons (se_c (fun _ _ => rfl)) (sa_cons (se_op s2_mulT (se_tup (sa_cons (se_c (fun _ _ => rfl)) sa_nil)) (se_c (fun _ _ => rfl))) (sa_cons (se_op s2_mulT (se_tup (sa_cons (se_c (fun _ _ => rfl)) sa_nil)) (se_c (fun _ _ => rfl))) (sa_cons (se_c (fun _ _ => rfl)) (sa_cons (se_c (fun _ _ => rfl)) (sa_cons (se_c (fun _ _ => rfl)) (sa_cons (se_c (fun _ _ => rfl)) (sa_cons (se_c (fun _ _ => rfl)) sa_nil)))))))))))))))

theorem d__law_mixed (T : Txt G) (R : Raw G.K G.mg "_law_mixed" s__law_mixed ["_law_cell", "_law_k"])  : Def P w G.K G.mg base 1 "_law_mixed" ["_law_cell", "_law_k"] (spOf G 2 LawP.p_law_mixed) := by
  refine def_of R sc__law_mixed (fun vs H Q E h => len_of h) (fun fn cdv A outer s H vs Q E hr h => ?_)
  refine' ⟨_, ?b0, ?rd⟩
  (case b0 =>
    refine' pss_cons ?s1 ?b1
    (case s1 => exact (@ps_set _ _ (2) _ _ _ _ sc__law_mixed.nd rfl (by first | exact Or.inl rfl | exact Or.inr rfl) (@pe_op _ _ _ _ _ _ _ _ op_mod (@pe_op _ _ _ _ _ _ _ _ (opAddA (K := G.K) rfl) (@pe_op _ _ _ _ _ _ _ _ (opAddA (K := G.K) rfl) (pv 0) (@pe_op _ _ _ _ _ _ _ _ opMulA (@pe_op _ _ _ _ _ _ _ _ opMulA (pv 1) (pv 1)) pe_int)) pe_int) pe_int) (by walk_at "au") (by walk_at "au")))
    (case b1 =>
      refine' pss_cons ?s2 ?b2
      (case s2 => exact (@ps_set _ _ (2) _ _ _ _ sc__law_mixed.nd rfl (by first | exact Or.inl rfl | exact Or.inr rfl) (@pe_op _ _ _ _ _ _ _ _ op_mod (@pe_op _ _ _ _ _ _ _ _ opMulA (pv 2) (pv 2)) pe_int) (by walk_at "au") (by walk_at "au")))
      (case b2 =>
        refine' pss_cons ?s3 ?b3
        (case s3 => exact (@ps_set _ _ (2) _ _ _ _ sc__law_mixed.nd rfl (by first | exact Or.inl rfl | exact Or.inr rfl) (@pe_op _ _ _ _ _ _ _ _ op_mod (@pe_op _ _ _ _ _ _ _ _ opMulA (@pe_op _ _ _ _ _ _ _ _ (opAddA (K := G.K) rfl) (@pe_op _ _ _ _ _ _ _ _ (opAddA (K := G.K) rfl) (pv 2) (@pe_op _ _ _ _ _ _ _ _ opMulA (pv 1) pe_int)) pe_int) pe_int) pe_int) (by walk_at "au") (by walk_at "au")))
        (case b3 =>
          refine' pss_one ?s4
          (case s4 => exact (@ps_ret _ _ _ _ (@pe_op _ _ _ _ _ _ _ _ op_fdiv (@pe_op _ _ _ _ _ _ _ _ op_mod (@pe_op _ _ _ _ _ _ _ _ opMulA (pv 2) (pv 2)) pe_int) pe_int)))))))
  (case rd =>
    refine body_of (N := n__law_mixed) (ms := LawP.b_p_law_mixed) ?_ h
    refine ss_seq (ss_asg (se_op s2_mod (se_op s2_add (se_op s2_add se_var (se_op s2_mul (se_op s2_mul se_var se_var) (se_c (fun _ _ => rfl)))) (se_c (fun _ _ => rfl))) (se_c (fun _ _ => rfl))) (SG.any (sg_name (vs := [2]) (by decide)))) ?_
    refine ss_seq (ss_asg (se_op s2_mod (se_op s2_mul se_var se_var) (se_c (fun _ _ => rfl))) (SG.any (sg_name (vs := [2]) (by decide)))) ?_
    refine ss_seq (ss_asg (se_op s2_mod (se_op s2_mul (se_op s2_add (se_op s2_add se_var (se_op s2_mul se_var (se_c (fun _ _ => rfl)))) (se_c (fun _ _ => rfl))) (se_c (fun _ _ => rfl))) (se_c (fun _ _ => rfl))) (SG.any (sg_name (vs := [2]) (by decide)))) ?_
    exact (ss_ret (se_op s2_fdiv (se_op s2_mod (se_op s2_mul se_var se_var) (se_c (fun _ _ => rfl))) (se_c (fun _ _ => rfl)))))

theorem d__law_deck (T : Txt G) (R : Raw G.K G.mg "_law_deck" s__law_deck ["_law_script", "_law_many"]) (D__law_mixed : Def P w G.K G.mg base 1 "_law_mixed" ["_law_cell", "_law_k"] (spOf G 2 LawP.p_law_mixed)) : Def P w G.K G.mg base 2 "_law_deck" ["_law_script", "_law_many"] (spOf G 2 LawP.p_law_deck) := by
  refine def_of R sc__law_deck (fun vs H Q E h => len_of h) (fun fn cdv A outer s H vs Q E hr h => ?_)
  refine' ⟨_, ?b0, ?rd⟩
  (case b0 =>
    refine' pss_cons ?s1 ?b1
    (case s1 => exact (@ps_set _ _ (2) _ _ _ _ sc__law_deck.nd rfl (by first | exact Or.inl rfl | exact Or.inr rfl) (@pe_op _ _ _ _ _ _ _ _ (opAddA (K := G.K) rfl) (@peT _ _ _ _ _ _ _ _ _ (crList (K := G.K) rfl) (by rfl) T.b_list (by decide +kernel) (@paC _ _ _ _ _ (@pe_slice _ _ _ _ _ _ _ _ _ _ (slA (K := G.K) rfl) (pv 0) po_none (@po_some _ _ _ pe_int)) pa_nil (by walk_at "au")) (by decide) (by decide) (by walk_at "au")) (@pe_op _ _ _ _ _ _ _ _ opMulA (@pe_lst _ _ _ _ (@paC _ _ _ _ _ pe_int pa_nil (by walk_at "au"))) (@peT _ _ _ _ _ _ _ _ _ crInt (by rfl) T.b_int (by decide +kernel) (@paC _ _ _ _ _ (@pe_cmpR _ _ _ _ _ _ _ _ (opEqA (K := G.K) rfl hr.units) (@peB _ _ _ _ _ _ _ _ _ (crLenA (K := G.K) rfl) (by rfl) T.b_len (by decide +kernel) (@paC _ _ _ _ _ (pv 0) pa_nil (by walk_at "au")) (by decide) (by decide) (by walk_at "au")) pe_int (nomark _)) pa_nil (by walk_at "au")) (by decide) (by decide) (by walk_at "au")))) (by walk_at "au") (by walk_at "au")))
    (case b1 =>
      refine' pss_cons ?s2 ?b2
      (case s2 => exact (@ps_setLc _ (3) _ _ _ _ _ _ _ ([("_law_cell", 4)]) _ _ _ _ _ _ rfl sc__law_deck.nd rfl rfl (sw_true rfl rfl rfl (by decide +kernel)) (@pi_seq _ (G.K) _ _ _ rfl (pv 2)) (blkOk_by (own := [("_law_cell", 4)]) (N := n__law_deck) (sc := defScope s__law_deck) (by decide +kernel)) (fun _ _ _ _ _ => (pg_name (i := 4) sc__law_deck.nd rfl (by first | exact Or.inl rfl | exact Or.inr rfl))) (fun _ _ _ _ _ => pts_nil) (fun _ _ _ _ _ => (@pe_op _ _ _ _ _ _ _ _ opMulA (pv 4) (@peT _ _ _ _ _ _ _ _ _ crInt (by rfl) T.b_int (by decide +kernel) (@paC _ _ _ _ _ (@pe_cmpR _ _ _ _ _ _ _ _ op_ge (pv 4) (@pe_op _ _ _ _ _ _ _ _ op_pow pe_int pe_int) (nomark _)) pa_nil (by walk_at "au")) (by decide) (by decide) (by walk_at "au")))) (by walk_at "au")))
      (case b2 =>
        refine' pss_cons ?s3 ?b3
        (case s3 => exact (@ps_set _ _ (5) _ _ _ _ sc__law_deck.nd rfl (by first | exact Or.inl rfl | exact Or.inr rfl) (@pe_lst _ _ _ _ pa_nil) (by walk_at "au") (by walk_at "au")))
        (case b3 =>
          refine' pss_cons ?s4 ?b4
          (case s4 => exact (@ps_for _ _ _ _ _ _ _ _ PassesOwn.never rfl (@piR1 _ _ _ _ _ _ (by rfl) T.b_range (@paC _ _ _ _ _ (pv 1) pa_nil (by walk_at "au")) (by walk_at "au")) (pg_name (i := 6) sc__law_deck.nd rfl (by first | exact Or.inl rfl | exact Or.inr rfl)) (@pss_cons _ _ _ _ _ (@ps_set _ _ (7) _ _ _ _ sc__law_deck.nd rfl (by first | exact Or.inl rfl | exact Or.inr rfl) (@pe_op _ _ _ _ _ _ _ _ op_mod (pv 6) (@peB _ _ _ _ _ _ _ _ _ (crLenA (K := G.K) rfl) (by rfl) T.b_len (by decide +kernel) (@paC _ _ _ _ _ (pv 2) pa_nil (by walk_at "au")) (by decide) (by decide) (by walk_at "au"))) (by walk_at "au") (by walk_at "au")) (@pss_one _ _ _ (@ps_if _ _ _ _ _ _ _ _ (@pt_cmpR _ _ _ _ _ _ _ _ op_gt (@pe_ix _ _ _ _ _ _ _ (ixA (K := G.K) rfl) (pv 3) (pv 7) (fun _ _ => rfl)) pe_int (nomark _)) (@pss_cons _ _ _ _ _ (@ps_expr _ _ _ _ (@peApp _ (G.K) _ _ _ _ _ _ _ rfl (pv 5) (@paC _ _ _ _ _ (@pe_op _ _ _ _ _ _ _ _ op_mod (@pe_ix _ _ _ _ _ _ _ (ixA (K := G.K) rfl) (pv 3) (pv 7) (fun _ _ => rfl)) pe_int) pa_nil (by walk_at "au")) (by walk_at "au") (by walk_at "au") (by walk_at "au") (by walk_at "au")) (by walk_at "au")) (@pss_one _ _ _ (@ps_asg _ _ _ _ _ _ (@pe_op _ _ _ _ _ _ _ _ op_fdiv (@pe_ix _ _ _ _ _ _ _ (ixA (K := G.K) rfl) (pv 3) (pv 7) (fun _ _ => rfl)) pe_int) (@pg_sub _ _ _ _ _ _ _ (pv 3) (pv 7) set_list (by walk_at "au")) (by walk_at "au") (by walk_at "au") (by walk_at "au")))) (@pss_one _ _ _ (@ps_expr _ _ _ _ (@peApp _ (G.K) _ _ _ _ _ _ _ rfl (pv 5) (@paC _ _ _ _ _ (@pe_op _ _ _ _ _ _ _ _ op_mod (@peF _ _ _ _ _ _ _ _ _ _ D__law_mixed (hr.mono (by decide)) (by rfl) (@paC _ _ _ _ _ (@pe_ix _ _ _ _ _ _ _ (ixA (K := G.K) rfl) (pv 2) (pv 7) (fun _ _ => rfl)) (@paC _ _ _ _ _ (@pe_op _ _ _ _ _ _ _ _ (opAddA (K := G.K) rfl) (pv 6) pe_int) pa_nil (by walk_at "au")) (by walk_at "au")) (by decide) (by walk_at "au")) pe_int) pa_nil (by walk_at "au")) (by walk_at "au") (by walk_at "au") (by walk_at "au") (by walk_at "au")) (by walk_at "au")))))) (by walk_at "au")))
          (case b4 =>
            refine' pss_one ?s5
            (case s5 => exact (@ps_ret _ _ _ _ (@peRev _ (G.K) _ _ _ _ _ _ rfl (@paC _ _ _ _ _ (pv 5) pa_nil (by walk_at "au")) rfl (by rfl) T.b_list (by rfl) T.b_reversed (by walk_at "au")))))))))
  (case rd =>
    refine body_of (N := n__law_deck) (ms := LawP.b_p_law_deck) ?_ h
    refine ss_seq (ss_asg (se_op s2_add (se_cb sc_list (sa_cons (se_sl se_var so_none (so_some (se_c (fun _ _ => rfl)))) sa_nil)) (se_op s2_mul (se_lst (sa_cons (se_c (fun _ _ => rfl)) sa_nil)) (se_cb sc_int (sa_cons (se_op s2_eq (se_cb sc_len (sa_cons se_var sa_nil)) (se_c (fun _ _ => rfl))) sa_nil)))) (SG.any (sg_name (vs := [2]) (by decide)))) ?_
    refine ss_seq (ss_asg (se_lc (si_seq se_var) (sg_name (vs := [4]) (by decide)) st_yes (se_op s2_mul se_var (se_cb sc_int (sa_cons (se_op s2_ge se_var (se_op s2_pow (se_c (fun _ _ => rfl)) (se_c (fun _ _ => rfl)))) sa_nil)))) (SG.any (sg_name (vs := [3]) (by decide)))) ?_
    refine ss_seq (ss_asg (se_lst sa_nil) (SG.any (sg_name (vs := [5]) (by decide)))) ?_
    refine ss_seq (ss_for (si_r1 (sa_cons se_var sa_nil)) (SG.any (sg_name (vs := [6]) (by decide))) (ss_seq (ss_asg (se_op s2_mod se_var (se_cb sc_len (sa_cons se_var sa_nil))) (SG.any (sg_name (vs := [7]) (by decide)))) (ss_if (st_test (se_op s2_gt (se_op s2_ix se_var se_var) (se_c (fun _ _ => rfl)))) (ss_seq (ss_drop (se_bm sm_append se_var (sa_cons (se_op s2_mod (se_op s2_ix se_var se_var) (se_c (fun _ _ => rfl))) sa_nil))) (ss_asg (se_op s2_fdiv (se_op s2_ix se_var se_var) (se_c (fun _ _ => rfl))) (sga_sub sset_list se_var se_var))) (ss_drop (se_bm sm_append se_var (sa_cons (se_op s2_mod (se_call (sa_cons (se_op s2_ix se_var se_var) (sa_cons (se_op s2_add se_var (se_c (fun _ _ => rfl))) sa_nil))) (se_c (fun _ _ => rfl))) sa_nil)))))) ?_
    exact (ss_ret (se_rev (sa_cons se_var sa_nil))))

theorem d__law_next (T : Txt G) (R : Raw G.K G.mg "_law_next" s__law_next ["_law_deck_here"])  : Def P w G.K G.mg base 1 "_law_next" ["_law_deck_here"] (spOf G 1 LawP.p_law_next) := by
  refine def_of R sc__law_next (fun vs H Q E h => len_of h) (fun fn cdv A outer s H vs Q E hr h => ?_)
  refine' ⟨_, ?b0, ?rd⟩
  (case b0 =>
    refine' pss_cons ?s1 ?b1
    (case s1 => exact (@ps_if _ _ _ _ _ _ _ _ (@pt_cmpR _ _ _ _ _ _ _ _ op_gt (@peB _ _ _ _ _ _ _ _ _ (crLenA (K := G.K) rfl) (by rfl) T.b_len (by decide +kernel) (@paC _ _ _ _ _ (pv 0) pa_nil (by walk_at "au")) (by decide) (by decide) (by walk_at "au")) pe_int (nomark _)) (@pss_one _ _ _ (@ps_ret _ _ _ _ (@pe_bm0 _ _ _ _ _ _ _ _ _ PySem.F.plainAttrs_list PySem.F.slot_list_pop PySem.F.type_list_pop mt_pop (pv 0) (by walk_at "au") (by walk_at "au")))) pss_nil))
    (case b1 =>
      refine' pss_one ?s2
      (case s2 => exact (@ps_ret _ _ _ _ pe_int))))
  (case rd =>
    refine body_of (N := n__law_next) (ms := LawP.b_p_law_next) ?_ h
    refine ss_seq (ss_if (st_test (se_op s2_gt (se_cb sc_len (sa_cons se_var sa_nil)) (se_c (fun _ _ => rfl)))) (ss_ret (se_bm0 sm_pop se_var)) ss_next) ?_
    exact (ss_ret (se_c (fun _ _ => rfl))))

theorem d__law_byte (T : Txt G) (R : Raw G.K G.mg "_law_byte" s__law_byte ["_law_deck_here"]) (D__law_next : Def P w G.K G.mg base 1 "_law_next" ["_law_deck_here"] (spOf G 1 LawP.p_law_next)) : Def P w G.K G.mg base 2 "_law_byte" ["_law_deck_here"] (spOf G 1 LawP.p_law_byte) := by
  refine def_of R sc__law_byte (fun vs H Q E h => len_of h) (fun fn cdv A outer s H vs Q E hr h => ?_)
  refine' ⟨_, ?b0, ?rd⟩
  (case b0 =>
    refine' pss_cons ?s1 ?b1
    (case s1 => exact (@ps_set _ _ (1) _ _ _ _ sc__law_byte.nd rfl (by first | exact Or.inl rfl | exact Or.inr rfl) (@peF _ _ _ _ _ _ _ _ _ _ D__law_next (hr.mono (by decide)) (by rfl) (@paC _ _ _ _ _ (pv 0) pa_nil (by walk_at "au")) (by decide) (by walk_at "au")) (by walk_at "au") (by walk_at "au")))
    (case b1 =>
      refine' pss_cons ?s2 ?b2
      (case s2 => exact (@ps_if _ _ _ _ _ _ _ _ (@pt_cmpR _ _ _ _ _ _ _ _ (opEqA (K := G.K) rfl hr.units) (@pe_op _ _ _ _ _ _ _ _ op_mod (pv 1) pe_int) pe_int (nomark _)) (@pss_one _ _ _ (@ps_ret _ _ _ _ (@pe_ix _ _ _ _ _ _ _ (ixA (K := G.K) rfl) (@pe_lst _ _ _ _ (@paC _ _ _ _ _ pe_int (@paC _ _ _ _ _ pe_int (@paC _ _ _ _ _ pe_int (@paC _ _ _ _ _ pe_int (@paC _ _ _ _ _ pe_int (@paC _ _ _ _ _ pe_int pa_nil (by walk_at "au")) (by walk_at "au")) (by walk_at "au")) (by walk_at "au")) (by walk_at "au")) (by walk_at "au"))) (@pe_op _ _ _ _ _ _ _ _ op_mod (@pe_op _ _ _ _ _ _ _ _ op_fdiv (pv 1) pe_int) pe_int) (fun _ _ => rfl)))) pss_nil))
      (case b2 =>
        refine' pss_one ?s3
        (case s3 => exact (@ps_ret _ _ _ _ (@pe_op _ _ _ _ _ _ _ _ op_mod (pv 1) pe_int))))))
  (case rd =>
    refine body_of (N := n__law_byte) (ms := LawP.b_p_law_byte) ?_ h
    refine ss_seq (ss_asg (se_call (sa_cons se_var sa_nil)) (SG.any (sg_name (vs := [1]) (by decide)))) ?_
    refine ss_seq (ss_if (st_test (se_op s2_eq (se_op s2_mod se_var (se_c (fun _ _ => rfl))) (se_c (fun _ _ => rfl)))) (ss_ret (se_op s2_ix (se_lst (sa_cons (se_c (fun _ _ => rfl)) (sa_cons (se_c (fun _ _ => rfl)) (sa_cons (se_c (fun _ _ => rfl)) (sa_cons (se_c (fun _ _ => rfl)) (sa_cons (se_c (fun _ _ => rfl)) (sa_cons (se_c (fun _ _ => rfl)) sa_nil))))))) (se_op s2_mod (se_op s2_fdiv se_var (se_c (fun _ _ => rfl))) (se_c (fun _ _ => rfl))))) ss_next) ?_
    exact (ss_ret (se_op s2_mod se_var (se_c (fun _ _ => rfl)))))

theorem d__law_deeds (T : Txt G) (R : Raw G.K G.mg "_law_deeds" s__law_deeds [])  : Def P w G.K G.mg base 1 "_law_deeds" [] (spOf G 0 LawP.p_law_deeds) := by
  refine def_of R sc__law_deeds (fun vs H Q E h => len_of h) (fun fn cdv A outer s H vs Q E hr h => ?_)
  refine' ⟨_, ?b0, ?rd⟩
  (case b0 =>
    refine' pss_cons ?s1 ?b1
    (case s1 => exact (@ps_set _ _ (0) _ _ _ _ sc__law_deeds.nd rfl (by first | exact Or.inl rfl | exact Or.inr rfl) (@pe_lst _ _ _ _ (@paC _ _ _ _ _ pe_str (@paC _ _ _ _ _ pe_str (@paC _ _ _ _ _ pe_str (@paC _ _ _ _ _ pe_str (@paC _ _ _ _ _ pe_str (@paC _ _ _ _ _ pe_str (@paC _ _ _ _ _ pe_str (@paC _ _ _ _ _ pe_str (@paC _ _ _ _ _ pe_str (@paC _ _ _ _ _ pe_str (@paC _ _ _ _ _ pe_str (@paC _ _ _ _ _ pe_str (@paC _ _ _ _ _ pe_str pa_nil (by walk_at "au")) (by walk_at "au")) (by walk_at "au")) (by walk_at "au")) (by walk_at "au")) (by walk_at "au")) (by walk_at "au")) (by walk_at "au")) (by walk_at "au")) (by walk_at "au")) (by walk_at "au")) (by walk_at "au")) (by walk_at "au"))) (by walk_at "au") (by walk_at "au")))
    (case b1 =>
      refine' pss_cons ?s2 ?b2
      (case s2 => exact (@ps_set _ _ (0) _ _ _ _ sc__law_deeds.nd rfl (by first | exact Or.inl rfl | exact Or.inr rfl) (@pe_op _ _ _ _ _ _ _ _ (opAddA (K := G.K) rfl) (pv 0) (@pe_lst _ _ _ _ (@paC _ _ _ _ _ pe_str (@paC _ _ _ _ _ pe_str (@paC _ _ _ _ _ pe_str (@paC _ _ _ _ _ pe_str (@paC _ _ _ _ _ pe_str (@paC _ _ _ _ _ pe_str (@paC _ _ _ _ _ pe_str (@paC _ _ _ _ _ pe_str (@paC _ _ _ _ _ pe_str pa_nil (by walk_at "au")) (by walk_at "au")) (by walk_at "au")) (by walk_at "au")) (by walk_at "au")) (by walk_at "au")) (by walk_at "au")) (by walk_at "au")) (by walk_at "au")))) (by walk_at "au") (by walk_at "au")))
      (case b2 =>
        refine' pss_one ?s3
        (case s3 => exact (@ps_ret _ _ _ _ (@pe_op _ _ _ _ _ _ _ _ (opAddA (K := G.K) rfl) (pv 0) (@pe_lst _ _ _ _ (@paC _ _ _ _ _ pe_str (@paC _ _ _ _ _ pe_str (@paC _ _ _ _ _ pe_str (@paC _ _ _ _ _ pe_str (@paC _ _ _ _ _ pe_str (@paC _ _ _ _ _ pe_str (@paC _ _ _ _ _ pe_str (@paC _ _ _ _ _ pe_str (@paC _ _ _ _ _ pe_str pa_nil (by walk_at "au")) (by walk_at "au")) (by walk_at "au")) (by walk_at "au")) (by walk_at "au")) (by walk_at "au")) (by walk_at "au")) (by walk_at "au")) (by walk_at "au")))))))))
  (case rd =>
    refine body_of (N := n__law_deeds) (ms := LawP.b_p_law_deeds) ?_ h
    refine ss_seq (ss_asg (se_lst (sa_cons (se_c (fun _ _ => rfl)) (sa_cons (se_c (fun _ _ => rfl)) (sa_cons (se_c (fun _ _ => rfl)) (sa_cons (se_c (fun _ _ => rfl)) (sa_cons (se_c (fun _ _ => rfl)) (sa_cons (se_c (fun _ _ => rfl)) (sa_cons (se_c (fun _ _ => rfl)) (sa_cons (se_c (fun _ _ => rfl)) (sa_cons (se_c (fun _ _ => rfl)) (sa_cons (se_c (fun _ _ => rfl)) (sa_cons (se_c (fun _ _ => rfl)) (sa_cons (se_c (fun _ _ => rfl)) (sa_cons (se_c (fun _ _ => rfl)) sa_nil)))))))))))))) (SG.any (sg_name (vs := [0]) (by decide)))) ?_
    refine ss_seq (ss_asg (se_op s2_add se_var (se_lst (sa_cons (se_c (fun _ _ => rfl)) (sa_cons (se_c (fun _ _ => rfl)) (sa_cons (se_c (fun _ _ => rfl)) (sa_cons (se_c (fun _ _ => rfl)) (sa_cons (se_c (fun _ _ => rfl)) (sa_cons (se_c (fun _ _ => rfl)) (sa_cons (se_c (fun _ _ => rfl)) (sa_cons (se_c (fun _ _ => rfl)) (sa_cons (se_c (fun _ _ => rfl)) sa_nil))))))))))) (SG.any (sg_name (vs := [0]) (by decide)))) ?_
    exact (ss_ret (se_op s2_add se_var (se_lst (sa_cons (se_c (fun _ _ => rfl)) (sa_cons (se_c (fun _ _ => rfl)) (sa_cons (se_c (fun _ _ => rfl)) (sa_cons (se_c (fun _ _ => rfl)) (sa_cons (se_c (fun _ _ => rfl)) (sa_cons (se_c (fun _ _ => rfl)) (sa_cons (se_c (fun _ _ => rfl)) (sa_cons (se_c (fun _ _ => rfl)) (sa_cons (se_c (fun _ _ => rfl)) sa_nil)))))))))))))

theorem d__law_most (T : Txt G) (R : Raw G.K G.mg "_law_most" s__law_most ["_law_at"])  : Def P w G.K G.mg base 1 "_law_most" ["_law_at"] (spOf G 1 LawP.p_law_most) := by
  refine def_of R sc__law_most (fun vs H Q E h => len_of h) (fun fn cdv A outer s H vs Q E hr h => ?_)
  refine' ⟨_, ?b0, ?rd⟩
  (case b0 =>
    refine' pss_cons ?s1 ?b1
    (case s1 => exact (@ps_if _ _ _ _ _ _ _ _ (@PW.pt _ _ _ (@pw_or _ _ _ _ _ _ _ (@pt_cmpR _ _ _ _ _ _ _ _ (opLtA (K := G.K) rfl hr.units) (pv 0) pe_int (nomark _)) (@pw_or1 _ _ _ _ (@pt_cmpR _ _ _ _ _ _ _ _ (opEqA (K := G.K) rfl hr.units) (pv 0) pe_int (nomark _))))) (@pss_one _ _ _ (@ps_ret _ _ _ _ pe_int)) pss_nil))
    (case b1 =>
      refine' pss_cons ?s2 ?b2
      (case s2 => exact (@ps_if _ _ _ _ _ _ _ _ (@pt_cmpR _ _ _ _ _ _ _ _ (opLtA (K := G.K) rfl hr.units) (pv 0) pe_int (nomark _)) (@pss_one _ _ _ (@ps_ret _ _ _ _ pe_int)) pss_nil))
      (case b2 =>
        refine' pss_one ?s3
        (case s3 => exact (@ps_ret _ _ _ _ (@pe_ix _ _ _ _ _ _ _ (ixA (K := G.K) rfl) (@pe_lst _ _ _ _ (@paC _ _ _ _ _ pe_int (@paC _ _ _ _ _ pe_int pa_nil (by walk_at "au")) (by walk_at "au"))) (@pe_op _ _ _ _ _ _ _ _ op_sub (pv 0) pe_int) (fun _ _ => rfl)))))))
  (case rd =>
    refine body_of (N := n__law_most) (ms := LawP.b_p_law_most) ?_ h
    refine ss_seq (ss_if (st_or (st_test (se_op s2_lt se_var (se_c (fun _ _ => rfl)))) (st_test (se_op s2_eq se_var (se_c (fun _ _ => rfl))))) (ss_ret (se_c (fun _ _ => rfl))) ss_next) ?_
    refine ss_seq (ss_if (st_test (se_op s2_lt se_var (se_c (fun _ _ => rfl)))) (ss_ret (se_c (fun _ _ => rfl))) ss_next) ?_
    exact (ss_ret (se_op s2_ix (se_lst (sa_cons (se_c (fun _ _ => rfl)) (sa_cons (se_c (fun _ _ => rfl)) sa_nil))) (se_op s2_sub se_var (se_c (fun _ _ => rfl))))))

theorem d__law_name (T : Txt G) (R : Raw G.K G.mg "_law_name" s__law_name ["_law_k"])  : Def P w G.K G.mg base 1 "_law_name" ["_law_k"] (spOf G 1 LawP.p_law_name) := by
  refine def_of R sc__law_name (fun vs H Q E h => len_of h) (fun fn cdv A outer s H vs Q E hr h => ?_)
  refine' ⟨_, ?b0, ?rd⟩
  (case b0 =>
    refine' pss_one ?s1
    (case s1 => exact (@ps_ret _ _ _ _ (@pe_op _ _ _ _ _ _ _ _ opMulA (@pe_ix _ _ _ _ _ _ _ (ixA (K := G.K) rfl) pe_str (@pe_op _ _ _ _ _ _ _ _ op_mod (pv 0) pe_int) (fun _ _ => rfl)) (@pe_op _ _ _ _ _ _ _ _ (opAddA (K := G.K) rfl) pe_int (@pe_op _ _ _ _ _ _ _ _ op_mod (@pe_op _ _ _ _ _ _ _ _ op_fdiv (pv 0) pe_int) pe_int))))))
  (case rd =>
    refine body_of (N := n__law_name) (ms := LawP.b_p_law_name) ?_ h
    exact (ss_ret (se_op s2_mul (se_op s2_ix (se_c (fun _ _ => rfl)) (se_op s2_mod se_var (se_c (fun _ _ => rfl)))) (se_op s2_add (se_c (fun _ _ => rfl)) (se_op s2_mod (se_op s2_fdiv se_var (se_c (fun _ _ => rfl))) (se_c (fun _ _ => rfl)))))))

theorem d__law_value (T : Txt G) (R : Raw G.K G.mg "_law_value" s__law_value ["_law_deck_here", "_law_at", "_law_marks", "_law_tables"]) (D__law_next : Def P w G.K G.mg base 1 "_law_next" ["_law_deck_here"] (spOf G 1 LawP.p_law_next)) (D__law_most : Def P w G.K G.mg base 1 "_law_most" ["_law_at"] (spOf G 1 LawP.p_law_most)) : Def P w G.K G.mg base 2 "_law_value" ["_law_deck_here", "_law_at", "_law_marks", "_law_tables"] (spOf G 4 LawP.p_law_value) := by
  refine def_of R sc__law_value (fun vs H Q E h => len_of h) (fun fn cdv A outer s H vs Q E hr h => ?_)
  refine' ⟨_, ?b0, ?rd⟩
  (case b0 =>
    refine' pss_cons ?s1 ?b1
    (case s1 => exact (@ps_set _ _ (4) _ _ _ _ sc__law_value.nd rfl (by first | exact Or.inl rfl | exact Or.inr rfl) (@peF _ _ _ _ _ _ _ _ _ _ D__law_next (hr.mono (by decide)) (by rfl) (@paC _ _ _ _ _ (pv 0) pa_nil (by walk_at "au")) (by decide) (by walk_at "au")) (by walk_at "au") (by walk_at "au")))
    (case b1 =>
      refine' pss_cons ?s2 ?b2
      (case s2 => exact (@ps_if _ _ _ _ _ _ _ _ (@pt_chain _ _ _ _ _ _ _ _ _ _ _ _ opLeA (opLtA (K := G.K) rfl hr.units) pe_int (pv 1) pe_int (by walk_at "au")) (@pss_one _ _ _ (@ps_ret _ _ _ _ pe_non)) pss_nil))
      (case b2 =>
        refine' pss_cons ?s3 ?b3
        (case s3 => exact (@ps_if _ _ _ _ _ _ _ _ (@pt_cmpR _ _ _ _ _ _ _ _ (opEqA (K := G.K) rfl hr.units) (pv 1) pe_int (nomark _)) (@pss_one _ _ _ (@ps_ret _ _ _ _ (@pe_ix _ _ _ _ _ _ _ (ixA (K := G.K) rfl) (pv 3) (@pe_op _ _ _ _ _ _ _ _ op_mod (pv 4) (@peB _ _ _ _ _ _ _ _ _ (crLenA (K := G.K) rfl) (by rfl) T.b_len (by decide +kernel) (@paC _ _ _ _ _ (pv 3) pa_nil (by walk_at "au")) (by decide) (by decide) (by walk_at "au"))) (fun _ _ => rfl)))) pss_nil))
        (case b3 =>
          refine' pss_cons ?s4 ?b4
          (case s4 => exact (@ps_if _ _ _ _ _ _ _ _ (@pt_chain _ _ _ _ _ _ _ _ _ _ _ _ opLeA (opLtA (K := G.K) rfl hr.units) pe_int (pv 1) pe_int (by walk_at "au")) (@pss_one _ _ _ (@ps_ret _ _ _ _ (@pe_ix _ _ _ _ _ _ _ (ixA (K := G.K) rfl) (pv 2) (@pe_op _ _ _ _ _ _ _ _ op_mod (pv 4) (@peB _ _ _ _ _ _ _ _ _ (crLenA (K := G.K) rfl) (by rfl) T.b_len (by decide +kernel) (@paC _ _ _ _ _ (pv 2) pa_nil (by walk_at "au")) (by decide) (by decide) (by walk_at "au"))) (fun _ _ => rfl)))) pss_nil))
          (case b4 =>
            refine' pss_one ?s5
            (case s5 => exact (@ps_ret _ _ _ _ (@pe_op _ _ _ _ _ _ _ _ op_mod (pv 4) (@pe_op _ _ _ _ _ _ _ _ (opAddA (K := G.K) rfl) (@peF _ _ _ _ _ _ _ _ _ _ D__law_most (hr.mono (by decide)) (by rfl) (@paC _ _ _ _ _ (pv 1) pa_nil (by walk_at "au")) (by decide) (by walk_at "au")) pe_int)))))))))
  (case rd =>
    refine body_of (N := n__law_value) (ms := LawP.b_p_law_value) ?_ h
    refine ss_seq (ss_asg (se_call (sa_cons se_var sa_nil)) (SG.any (sg_name (vs := [4]) (by decide)))) ?_
    refine ss_seq (ss_if (st_test (se_chain s2_le s2_lt (se_c (fun _ _ => rfl)) se_var (se_c (fun _ _ => rfl)))) (ss_ret (se_c (fun _ _ => rfl))) ss_next) ?_
    refine ss_seq (ss_if (st_test (se_op s2_eq se_var (se_c (fun _ _ => rfl)))) (ss_ret (se_op s2_ix se_var (se_op s2_mod se_var (se_cb sc_len (sa_cons se_var sa_nil))))) ss_next) ?_
    refine ss_seq (ss_if (st_test (se_chain s2_le s2_lt (se_c (fun _ _ => rfl)) se_var (se_c (fun _ _ => rfl)))) (ss_ret (se_op s2_ix se_var (se_op s2_mod se_var (se_cb sc_len (sa_cons se_var sa_nil))))) ss_next) ?_
    exact (ss_ret (se_op s2_mod se_var (se_op s2_add (se_call (sa_cons se_var sa_nil)) (se_c (fun _ _ => rfl))))))

theorem d__law_free (T : Txt G) (R : Raw G.K G.mg "_law_free" s__law_free ["_law_deck_here", "_law_many", "_law_some"]) (D__law_name : Def P w G.K G.mg base 1 "_law_name" ["_law_k"] (spOf G 1 LawP.p_law_name)) (D__law_value : Def P w G.K G.mg base 2 "_law_value" ["_law_deck_here", "_law_at", "_law_marks", "_law_tables"] (spOf G 4 LawP.p_law_value)) (D__law_next : Def P w G.K G.mg base 1 "_law_next" ["_law_deck_here"] (spOf G 1 LawP.p_law_next)) (D__law_deeds : Def P w G.K G.mg base 1 "_law_deeds" [] (spOf G 0 LawP.p_law_deeds)) : Def P w G.K G.mg base 3 "_law_free" ["_law_deck_here", "_law_many", "_law_some"] (spOf G 3 LawP.p_law_free) := by
  refine def_of R sc__law_free (fun vs H Q E h => len_of h) (fun fn cdv A outer s H vs Q E hr h => ?_)
  refine' ⟨_, ?b0, ?rd⟩
  (case b0 =>
    refine' pss_cons ?s1 ?b1
    (case s1 => exact (@ps_setLc _ (3) _ _ _ _ _ _ _ ([("_law_k", 4)]) _ _ _ _ _ _ rfl sc__law_free.nd rfl rfl (sw_true rfl rfl rfl (by decide +kernel)) (@piR1 _ _ _ _ _ _ (by rfl) T.b_range (@paC _ _ _ _ _ (pv 1) pa_nil (by walk_at "au")) (by walk_at "au")) (blkOk_by (own := [("_law_k", 4)]) (N := n__law_free) (sc := defScope s__law_free) (by decide +kernel)) (fun _ _ _ _ _ => (pg_name (i := 4) sc__law_free.nd rfl (by first | exact Or.inl rfl | exact Or.inr rfl))) (fun _ _ _ _ _ => (@pts_one _ _ _ (@PW.pt _ _ _ (@pw_or _ _ _ _ _ _ _ (@pt_cmpR _ _ _ _ _ _ _ _ (opEqA (K := G.K) rfl hr.units) (pv 4) pe_int (nomark _)) (@pw_or1 _ _ _ _ (@pt_cmpR _ _ _ _ _ _ _ _ (opEqA (K := G.K) rfl hr.units) (@pe_op _ _ _ _ _ _ _ _ op_mod (@peF _ _ _ _ _ _ _ _ _ _ D__law_next (hr.mono (by decide)) (by rfl) (@paC _ _ _ _ _ (pv 0) pa_nil (by walk_at "au")) (by decide) (by walk_at "au")) pe_int) pe_int (nomark _))))))) (fun _ _ _ _ _ => (pv 4)) (by walk_at "au")))
    (case b1 =>
      refine' pss_cons ?s2 ?b2
      (case s2 => exact (@ps_setLc _ (5) _ _ _ _ _ _ _ ([("_law_k", 4)]) _ _ _ _ _ _ rfl sc__law_free.nd rfl rfl (sw_true rfl rfl rfl (by decide +kernel)) (@piR1 _ _ _ _ _ _ (by rfl) T.b_range (@paC _ _ _ _ _ (pv 2) pa_nil (by walk_at "au")) (by walk_at "au")) (blkOk_by (own := [("_law_k", 4)]) (N := n__law_free) (sc := defScope s__law_free) (by decide +kernel)) (fun _ _ _ _ _ => (pg_name (i := 4) sc__law_free.nd rfl (by first | exact Or.inl rfl | exact Or.inr rfl))) (fun _ _ _ _ _ => (@pts_one _ _ _ (@PW.pt _ _ _ (@pw_or _ _ _ _ _ _ _ (@pt_cmpR _ _ _ _ _ _ _ _ (opEqA (K := G.K) rfl hr.units) (pv 4) pe_int (nomark _)) (@pw_or1 _ _ _ _ (@pt_cmpR _ _ _ _ _ _ _ _ (opEqA (K := G.K) rfl hr.units) (@pe_op _ _ _ _ _ _ _ _ op_mod (@peF _ _ _ _ _ _ _ _ _ _ D__law_next (hr.mono (by decide)) (by rfl) (@paC _ _ _ _ _ (pv 0) pa_nil (by walk_at "au")) (by decide) (by walk_at "au")) pe_int) pe_int (nomark _))))))) (fun _ _ _ _ _ => (@pe_op _ _ _ _ _ _ _ _ (opAddA (K := G.K) rfl) (pv 1) (pv 4))) (by walk_at "au")))
      (case b2 =>
        refine' pss_cons ?s3 ?b3
        (case s3 => exact (@ps_setLc _ (6) _ _ _ _ _ _ _ ([("_law_k", 4)]) _ _ _ _ _ _ rfl sc__law_free.nd rfl rfl (sw_true rfl rfl rfl (by decide +kernel)) (@pi_seq _ (G.K) _ _ _ rfl (pv 3)) (blkOk_by (own := [("_law_k", 4)]) (N := n__law_free) (sc := defScope s__law_free) (by decide +kernel)) (fun _ _ _ _ _ => (pg_name (i := 4) sc__law_free.nd rfl (by first | exact Or.inl rfl | exact Or.inr rfl))) (fun _ _ _ _ _ => pts_nil) (fun _ _ _ _ _ => (@peF _ _ _ _ _ _ _ _ _ _ D__law_name (hr.mono (by decide)) (by rfl) (@paC _ _ _ _ _ (pv 4) pa_nil (by walk_at "au")) (by decide) (by walk_at "au"))) (by walk_at "au")))
        (case b3 =>
          refine' pss_cons ?s4 ?b4
          (case s4 => exact (@ps_setLc _ (7) _ _ _ _ _ _ _ ([("_law_k", 4)]) _ _ _ _ _ _ rfl sc__law_free.nd rfl rfl (sw_true rfl rfl rfl (by decide +kernel)) (@pi_seq _ (G.K) _ _ _ rfl (pv 5)) (blkOk_by (own := [("_law_k", 4)]) (N := n__law_free) (sc := defScope s__law_free) (by decide +kernel)) (fun _ _ _ _ _ => (pg_name (i := 4) sc__law_free.nd rfl (by first | exact Or.inl rfl | exact Or.inr rfl))) (fun _ _ _ _ _ => pts_nil) (fun _ _ _ _ _ => (@peF _ _ _ _ _ _ _ _ _ _ D__law_name (hr.mono (by decide)) (by rfl) (@paC _ _ _ _ _ (pv 4) pa_nil (by walk_at "au")) (by decide) (by walk_at "au"))) (by walk_at "au")))
          (case b4 =>
            refine' pss_cons ?s5 ?b5
            (case s5 => exact (@ps_set _ _ (8) _ _ _ _ sc__law_free.nd rfl (by first | exact Or.inl rfl | exact Or.inr rfl) (@pe_lst _ _ _ _ pa_nil) (by walk_at "au") (by walk_at "au")))
            (case b5 =>
              refine' pss_cons ?s6 ?b6
              (case s6 => exact (@ps_for _ _ _ _ _ _ _ _ PassesOwn.never rfl (@piR1 _ _ _ _ _ _ (by rfl) T.b_range (@paC _ _ _ _ _ (pv 1) pa_nil (by walk_at "au")) (by walk_at "au")) (pg_name (i := 4) sc__law_free.nd rfl (by first | exact Or.inl rfl | exact Or.inr rfl)) (@pss_cons _ _ _ _ _ (@ps_set _ _ (9) _ _ _ _ sc__law_free.nd rfl (by first | exact Or.inl rfl | exact Or.inr rfl) (@pe_op _ _ _ _ _ _ _ _ op_mod (@peF _ _ _ _ _ _ _ _ _ _ D__law_next (hr.mono (by decide)) (by rfl) (@paC _ _ _ _ _ (pv 0) pa_nil (by walk_at "au")) (by decide) (by walk_at "au")) pe_int) (by walk_at "au") (by walk_at "au")) (@pss_cons _ _ _ _ _ (@ps_if _ _ _ _ _ _ _ _ (@pt_cmpR _ _ _ _ _ _ _ _ (opEqA (K := G.K) rfl hr.units) (pv 4) (@pe_op _ _ _ _ _ _ _ _ op_sub (pv 1) pe_int) (nomark _)) (@pss_one _ _ _ (@ps_set _ _ (9) _ _ _ _ sc__law_free.nd rfl (by first | exact Or.inl rfl | exact Or.inr rfl) pe_int (by walk_at "au") (by walk_at "au"))) pss_nil) (@pss_cons _ _ _ _ _ (@ps_if _ _ _ _ _ _ _ _ (@PW.pt _ _ _ (@pw_and _ _ _ _ _ _ _ (@pt_cmpR _ _ _ _ _ _ _ _ (opEqA (K := G.K) rfl hr.units) (pv 9) pe_int (nomark _)) (@pw_and1 _ _ _ _ (@pt_cmpR _ _ _ _ _ _ _ _ (opEqA (K := G.K) rfl hr.units) (pv 2) pe_int (nomark _))))) (@pss_one _ _ _ (@ps_set _ _ (9) _ _ _ _ sc__law_free.nd rfl (by first | exact Or.inl rfl | exact Or.inr rfl) pe_int (by walk_at "au") (by walk_at "au"))) pss_nil) (@pss_cons _ _ _ _ _ (@ps_set _ _ (10) _ _ _ _ sc__law_free.nd rfl (by first | exact Or.inl rfl | exact Or.inr rfl) (@peF _ _ _ _ _ _ _ _ _ _ D__law_value (hr.mono (by decide)) (by rfl) (@paC _ _ _ _ _ (pv 0) (@paC _ _ _ _ _ (pv 9) (@paC _ _ _ _ _ (pv 6) (@paC _ _ _ _ _ (pv 7) pa_nil (by walk_at "au")) (by walk_at "au")) (by walk_at "au")) (by walk_at "au")) (by decide) (by walk_at "au")) (by walk_at "au") (by walk_at "au")) (@pss_one _ _ _ (@ps_expr _ _ _ _ (@peApp _ (G.K) _ _ _ _ _ _ _ rfl (pv 8) (@paC _ _ _ _ _ (@pe_tup _ _ _ _ _ (@paC _ _ _ _ _ (@pe_ix _ _ _ _ _ _ _ (ixA (K := G.K) rfl) (@pe_lst _ _ _ _ (@paC _ _ _ _ _ pe_str (@paC _ _ _ _ _ (@peF _ _ _ _ _ _ _ _ _ _ D__law_name (hr.mono (by decide)) (by rfl) (@paC _ _ _ _ _ (pv 4) pa_nil (by walk_at "au")) (by decide) (by walk_at "au")) pa_nil (by walk_at "au")) (by walk_at "au"))) (@peT _ _ _ _ _ _ _ _ _ crInt (by rfl) T.b_int (by decide +kernel) (@paC _ _ _ _ _ (@pe_cmpR _ _ _ _ _ _ _ _ (opIn (K := G.K) rfl) (pv 4) (pv 3) (by rfl)) pa_nil (by walk_at "au")) (by decide) (by decide) (by walk_at "au")) (fun _ _ => rfl)) (@paC _ _ _ _ _ (@pe_ix _ _ _ _ _ _ _ (ixA (K := G.K) rfl) (pe_fn0 D__law_deeds (hr.mono (by decide)) (by rfl)) (pv 9) (fun _ _ => rfl)) (@paC _ _ _ _ _ (pv 10) pa_nil (by walk_at "au")) (by walk_at "au")) (by walk_at "au"))) pa_nil (by walk_at "au")) (by walk_at "au") (by walk_at "au") (by walk_at "au") (by walk_at "au")) (by walk_at "au"))))))) (by walk_at "au")))
              (case b6 =>
                refine' pss_cons ?s7 ?b7
                (case s7 => exact (@ps_for _ _ _ _ _ _ _ _ PassesOwn.never rfl (@piR1 _ _ _ _ _ _ (by rfl) T.b_range (@paC _ _ _ _ _ (pv 2) pa_nil (by walk_at "au")) (by walk_at "au")) (pg_name (i := 4) sc__law_free.nd rfl (by first | exact Or.inl rfl | exact Or.inr rfl)) (@pss_one _ _ _ (@ps_expr _ _ _ _ (@peApp _ (G.K) _ _ _ _ _ _ _ rfl (pv 8) (@paC _ _ _ _ _ (@pe_tup _ _ _ _ _ (@paC _ _ _ _ _ (@pe_ix _ _ _ _ _ _ _ (ixA (K := G.K) rfl) (@pe_lst _ _ _ _ (@paC _ _ _ _ _ pe_str (@paC _ _ _ _ _ (@peF _ _ _ _ _ _ _ _ _ _ D__law_name (hr.mono (by decide)) (by rfl) (@paC _ _ _ _ _ (@pe_op _ _ _ _ _ _ _ _ (opAddA (K := G.K) rfl) (pv 1) (pv 4)) pa_nil (by walk_at "au")) (by decide) (by walk_at "au")) pa_nil (by walk_at "au")) (by walk_at "au"))) (@peT _ _ _ _ _ _ _ _ _ crInt (by rfl) T.b_int (by decide +kernel) (@paC _ _ _ _ _ (@pe_cmpR _ _ _ _ _ _ _ _ (opIn (K := G.K) rfl) (@pe_op _ _ _ _ _ _ _ _ (opAddA (K := G.K) rfl) (pv 1) (pv 4)) (pv 5) (by rfl)) pa_nil (by walk_at "au")) (by decide) (by decide) (by walk_at "au")) (fun _ _ => rfl)) (@paC _ _ _ _ _ pe_str (@paC _ _ _ _ _ (@pe_op _ _ _ _ _ _ _ _ op_mod (@peF _ _ _ _ _ _ _ _ _ _ D__law_next (hr.mono (by decide)) (by rfl) (@paC _ _ _ _ _ (pv 0) pa_nil (by walk_at "au")) (by decide) (by walk_at "au")) pe_int) pa_nil (by walk_at "au")) (by walk_at "au")) (by walk_at "au"))) pa_nil (by walk_at "au")) (by walk_at "au") (by walk_at "au") (by walk_at "au") (by walk_at "au")) (by walk_at "au"))) (by walk_at "au")))
                (case b7 =>
                  refine' pss_one ?s8
                  (case s8 => exact (@ps_ret _ _ _ _ (@peT _ _ _ _ _ _ _ _ _ (crTup (K := G.K) rfl) (by rfl) T.b_tuple (by decide +kernel) (@paC _ _ _ _ _ (pv 8) pa_nil (by walk_at "au")) (by decide) (by decide) (by walk_at "au"))))))))))))
  (case rd =>
    refine body_of (N := n__law_free) (ms := LawP.b_p_law_free) ?_ h
    refine ss_seq (ss_asg (se_lc (si_r1 (sa_cons se_var sa_nil)) (sg_name (vs := [4]) (by decide)) (st_or (st_test (se_op s2_eq se_var (se_c (fun _ _ => rfl)))) (st_test (se_op s2_eq (se_op s2_mod (se_call (sa_cons se_var sa_nil)) (se_c (fun _ _ => rfl))) (se_c (fun _ _ => rfl))))) se_var) (SG.any (sg_name (vs := [3]) (by decide)))) ?_
    refine ss_seq (ss_asg (se_lc (si_r1 (sa_cons se_var sa_nil)) (sg_name (vs := [4]) (by decide)) (st_or (st_test (se_op s2_eq se_var (se_c (fun _ _ => rfl)))) (st_test (se_op s2_eq (se_op s2_mod (se_call (sa_cons se_var sa_nil)) (se_c (fun _ _ => rfl))) (se_c (fun _ _ => rfl))))) (se_op s2_add se_var se_var)) (SG.any (sg_name (vs := [5]) (by decide)))) ?_
    refine ss_seq (ss_asg (se_lc (si_seq se_var) (sg_name (vs := [4]) (by decide)) st_yes (se_call (sa_cons se_var sa_nil))) (SG.any (sg_name (vs := [6]) (by decide)))) ?_
    refine ss_seq (ss_asg (se_lc (si_seq se_var) (sg_name (vs := [4]) (by decide)) st_yes (se_call (sa_cons se_var sa_nil))) (SG.any (sg_name (vs := [7]) (by decide)))) ?_
    refine ss_seq (ss_asg (se_lst sa_nil) (SG.any (sg_name (vs := [8]) (by decide)))) ?_
    refine ss_seq (ss_for (si_r1 (sa_cons se_var sa_nil)) (SG.any (sg_name (vs := [4]) (by decide))) (ss_seq (ss_asg (se_op s2_mod (se_call (sa_cons se_var sa_nil)) (se_c (fun _ _ => rfl))) (SG.any (sg_name (vs := [9]) (by decide)))) (ss_seq (ss_if (st_test (se_op s2_eq se_var (se_op s2_sub se_var (se_c (fun _ _ => rfl))))) (ss_asg (se_c (fun _ _ => rfl)) (SG.any (sg_name (vs := [9]) (by decide)))) ss_next) (ss_seq (ss_if (st_and (st_test (se_op s2_eq se_var (se_c (fun _ _ => rfl)))) (st_test (se_op s2_eq se_var (se_c (fun _ _ => rfl))))) (ss_asg (se_c (fun _ _ => rfl)) (SG.any (sg_name (vs := [9]) (by decide)))) ss_next) (ss_seq (ss_asg (se_call (sa_cons se_var (sa_cons se_var (sa_cons se_var (sa_cons se_var sa_nil))))) (SG.any (sg_name (vs := [10]) (by decide)))) (ss_drop (se_bm sm_append se_var (sa_cons (se_tup (sa_cons (se_op s2_ix (se_lst (sa_cons (se_c (fun _ _ => rfl)) (sa_cons (se_call (sa_cons se_var sa_nil)) sa_nil))) (se_cb sc_int (sa_cons (se_op (s2_inQ false) se_var se_var) sa_nil))) (sa_cons (se_op s2_ix (se_call sa_nil) se_var) (sa_cons se_var sa_nil)))) sa_nil)))))))) ?_
    refine ss_seq (ss_for (si_r1 (sa_cons se_var sa_nil)) (SG.any (sg_name (vs := [4]) (by decide))) (ss_drop (se_bm sm_append se_var (sa_cons (se_tup (sa_cons (se_op s2_ix (se_lst (sa_cons (se_c (fun _ _ => rfl)) (sa_cons (se_call (sa_cons (se_op s2_add se_var se_var) sa_nil)) sa_nil))) (se_cb sc_int (sa_cons (se_op (s2_inQ false) (se_op s2_add se_var se_var) se_var) sa_nil))) (sa_cons (se_c (fun _ _ => rfl)) (sa_cons (se_op s2_mod (se_call (sa_cons se_var sa_nil)) (se_c (fun _ _ => rfl))) sa_nil)))) sa_nil)))) ?_
    exact (ss_ret (se_cb sc_tup (sa_cons se_var sa_nil))))

theorem d__law_memory (T : Txt G) (R : Raw G.K G.mg "_law_memory" s__law_memory ["_law_deck_here"]) (D__law_byte : Def P w G.K G.mg base 2 "_law_byte" ["_law_deck_here"] (spOf G 1 LawP.p_law_byte)) (D__law_next : Def P w G.K G.mg base 1 "_law_next" ["_law_deck_here"] (spOf G 1 LawP.p_law_next)) : Def P w G.K G.mg base 3 "_law_memory" ["_law_deck_here"] (spOf G 1 LawP.p_law_memory) := by
  refine def_of R sc__law_memory (fun vs H Q E h => len_of h) (fun fn cdv A outer s H vs Q E hr h => ?_)
  refine' ⟨_, ?b0, ?rd⟩
  (case b0 =>
    refine' pss_cons ?s1 ?b1
    (case s1 => exact (@ps_set _ _ (1) _ _ _ _ sc__law_memory.nd rfl (by first | exact Or.inl rfl | exact Or.inr rfl) (@peF _ _ _ _ _ _ _ _ _ _ D__law_byte (hr.mono (by decide)) (by rfl) (@paC _ _ _ _ _ (pv 0) pa_nil (by walk_at "au")) (by decide) (by walk_at "au")) (by walk_at "au") (by walk_at "au")))
    (case b1 =>
      refine' pss_cons ?s2 ?b2
      (case s2 => exact (@ps_set _ _ (2) _ _ _ _ sc__law_memory.nd rfl (by first | exact Or.inl rfl | exact Or.inr rfl) (@peF _ _ _ _ _ _ _ _ _ _ D__law_next (hr.mono (by decide)) (by rfl) (@paC _ _ _ _ _ (pv 0) pa_nil (by walk_at "au")) (by decide) (by walk_at "au")) (by walk_at "au") (by walk_at "au")))
      (case b2 =>
        refine' pss_cons ?s3 ?b3
        (case s3 => exact (@ps_setLc _ (3) _ _ _ _ _ _ _ ([("_law_k", 4)]) _ _ _ _ _ _ rfl sc__law_memory.nd rfl rfl (sw_true rfl rfl rfl (by decide +kernel)) (@piR1 _ _ _ _ _ _ (by rfl) T.b_range (@paC _ _ _ _ _ pe_int pa_nil (by walk_at "au")) (by walk_at "au")) (blkOk_by (own := [("_law_k", 4)]) (N := n__law_memory) (sc := defScope s__law_memory) (by decide +kernel)) (fun _ _ _ _ _ => (pg_name (i := 4) sc__law_memory.nd rfl (by first | exact Or.inl rfl | exact Or.inr rfl))) (fun _ _ _ _ _ => pts_nil) (fun _ _ _ _ _ => (@pe_op _ _ _ _ _ _ _ _ op_mod (@pe_op _ _ _ _ _ _ _ _ (opAddA (K := G.K) rfl) (pv 1) (@pe_op _ _ _ _ _ _ _ _ opMulA (pv 4) (pv 2))) pe_int)) (by walk_at "au")))
        (case b3 =>
          refine' pss_cons ?s4 ?b4
          (case s4 => exact (@ps_asg _ _ _ _ _ _ (@peF _ _ _ _ _ _ _ _ _ _ D__law_byte (hr.mono (by decide)) (by rfl) (@paC _ _ _ _ _ (pv 0) pa_nil (by walk_at "au")) (by decide) (by walk_at "au")) (@pg_sub _ _ _ _ _ _ _ (pv 3) (@pe_op _ _ _ _ _ _ _ _ op_mod (@peF _ _ _ _ _ _ _ _ _ _ D__law_next (hr.mono (by decide)) (by rfl) (@paC _ _ _ _ _ (pv 0) pa_nil (by walk_at "au")) (by decide) (by walk_at "au")) pe_int) set_list (by walk_at "au")) (by walk_at "au") (by walk_at "au") (by walk_at "au")))
          (case b4 =>
            refine' pss_one ?s5
            (case s5 => exact (@ps_ret _ _ _ _ (pv 3))))))))
  (case rd =>
    refine body_of (N := n__law_memory) (ms := LawP.b_p_law_memory) ?_ h
    refine ss_seq (ss_asg (se_call (sa_cons se_var sa_nil)) (SG.any (sg_name (vs := [1]) (by decide)))) ?_
    refine ss_seq (ss_asg (se_call (sa_cons se_var sa_nil)) (SG.any (sg_name (vs := [2]) (by decide)))) ?_
    refine ss_seq (ss_asg (se_lc (si_r1 (sa_cons (se_c (fun _ _ => rfl)) sa_nil)) (sg_name (vs := [4]) (by decide)) st_yes (se_op s2_mod (se_op s2_add se_var (se_op s2_mul se_var se_var)) (se_c (fun _ _ => rfl)))) (SG.any (sg_name (vs := [3]) (by decide)))) ?_
    refine ss_seq (ss_asg (se_call (sa_cons se_var sa_nil)) (sga_sub sset_list se_var (se_op s2_mod (se_call (sa_cons se_var sa_nil)) (se_c (fun _ _ => rfl))))) ?_
    exact (ss_ret se_var))

theorem d__law_state (T : Txt G) (R : Raw G.K G.mg "_law_state" s__law_state ["_law_deck_here", "_law_row"]) (D__law_next : Def P w G.K G.mg base 1 "_law_next" ["_law_deck_here"] (spOf G 1 LawP.p_law_next)) (D__law_byte : Def P w G.K G.mg base 2 "_law_byte" ["_law_deck_here"] (spOf G 1 LawP.p_law_byte)) (D__law_memory : Def P w G.K G.mg base 3 "_law_memory" ["_law_deck_here"] (spOf G 1 LawP.p_law_memory)) : Def P w G.K G.mg base 4 "_law_state" ["_law_deck_here", "_law_row"] (spOf G 2 LawP.p_law_state) := by
  refine def_of R sc__law_state (fun vs H Q E h => len_of h) (fun fn cdv A outer s H vs Q E hr h => ?_)
  refine' ⟨_, ?b0, ?rd⟩
  (case b0 =>
    refine' pss_cons ?s1 ?b1
    (case s1 => exact (@ps_set _ _ (2) _ _ _ _ sc__law_state.nd rfl (by first | exact Or.inl rfl | exact Or.inr rfl) (@peF _ _ _ _ _ _ _ _ _ _ D__law_next (hr.mono (by decide)) (by rfl) (@paC _ _ _ _ _ (pv 0) pa_nil (by walk_at "au")) (by decide) (by walk_at "au")) (by walk_at "au") (by walk_at "au")))
    (case b1 =>
      refine' pss_cons ?s2 ?b2
      (case s2 => exact (@ps_set _ _ (3) _ _ _ _ sc__law_state.nd rfl (by first | exact Or.inl rfl | exact Or.inr rfl) (@pe_tup _ _ _ _ _ (@paC _ _ _ _ _ (pv 1) (@paC _ _ _ _ _ (@peF _ _ _ _ _ _ _ _ _ _ D__law_byte (hr.mono (by decide)) (by rfl) (@paC _ _ _ _ _ (pv 0) pa_nil (by walk_at "au")) (by decide) (by walk_at "au")) (@paC _ _ _ _ _ (@peF _ _ _ _ _ _ _ _ _ _ D__law_byte (hr.mono (by decide)) (by rfl) (@paC _ _ _ _ _ (pv 0) pa_nil (by walk_at "au")) (by decide) (by walk_at "au")) (@paC _ _ _ _ _ (@pe_op _ _ _ _ _ _ _ _ op_mod (pv 2) pe_int) (@paC _ _ _ _ _ (@pe_op _ _ _ _ _ _ _ _ op_mod (@pe_op _ _ _ _ _ _ _ _ op_fdiv (pv 2) pe_int) pe_int) pa_nil (by walk_at "au")) (by walk_at "au")) (by walk_at "au")) (by walk_at "au")) (by walk_at "au"))) (by walk_at "au") (by walk_at "au")))
      (case b2 =>
        refine' pss_cons ?s3 ?b3
        (case s3 => exact (@ps_set _ _ (4) _ _ _ _ sc__law_state.nd rfl (by first | exact Or.inl rfl | exact Or.inr rfl) (@peT _ _ _ _ _ _ _ _ _ (crTup (K := G.K) rfl) (by rfl) T.b_tuple (by decide +kernel) (@paC _ _ _ _ _ (@peF _ _ _ _ _ _ _ _ _ _ D__law_memory (hr.mono (by decide)) (by rfl) (@paC _ _ _ _ _ (pv 0) pa_nil (by walk_at "au")) (by decide) (by walk_at "au")) pa_nil (by walk_at "au")) (by decide) (by decide) (by walk_at "au")) (by walk_at "au") (by walk_at "au")))
        (case b3 =>
          refine' pss_cons ?s4 ?b4
          (case s4 => exact (@ps_set _ _ (5) _ _ _ _ sc__law_state.nd rfl (by first | exact Or.inl rfl | exact Or.inr rfl) (@peF _ _ _ _ _ _ _ _ _ _ D__law_next (hr.mono (by decide)) (by rfl) (@paC _ _ _ _ _ (pv 0) pa_nil (by walk_at "au")) (by decide) (by walk_at "au")) (by walk_at "au") (by walk_at "au")))
          (case b4 =>
            refine' pss_cons ?s5 ?b5
            (case s5 => exact (@ps_set _ _ (6) _ _ _ _ sc__law_state.nd rfl (by first | exact Or.inl rfl | exact Or.inr rfl) (@peT _ _ _ _ _ _ _ _ _ (crTup (K := G.K) rfl) (by rfl) T.b_tuple (by decide +kernel) (@paC _ _ _ _ _ (@pe_lc _ _ _ _ _ _ ([("_law_k", 7)]) _ _ _ _ _ rfl sc__law_state.nd (@piR1 _ _ _ _ _ _ (by rfl) T.b_range (@paC _ _ _ _ _ pe_int pa_nil (by walk_at "au")) (by walk_at "au")) (blkOk_by (own := [("_law_k", 7)]) (N := n__law_state) (sc := defScope s__law_state) (by decide +kernel)) (fun _ _ _ _ _ => (pg_name (i := 7) sc__law_state.nd rfl (by first | exact Or.inl rfl | exact Or.inr rfl))) (fun _ _ _ _ _ => pts_nil) (fun _ _ _ _ _ => (@pe_op _ _ _ _ _ _ _ _ op_mod (@pe_op _ _ _ _ _ _ _ _ (opAddA (K := G.K) rfl) (pv 5) (@pe_op _ _ _ _ _ _ _ _ opMulA (pv 7) pe_int)) pe_int)) (by walk_at "au")) pa_nil (by walk_at "au")) (by decide) (by decide) (by walk_at "au")) (by walk_at "au") (by walk_at "au")))
            (case b5 =>
              refine' pss_cons ?s6 ?b6
              (case s6 => exact (@ps_set _ _ (8) _ _ _ _ sc__law_state.nd rfl (by first | exact Or.inl rfl | exact Or.inr rfl) (@pe_tup _ _ _ _ _ (@paC _ _ _ _ _ (@pe_op _ _ _ _ _ _ _ _ op_mod (@pe_op _ _ _ _ _ _ _ _ op_fdiv (pv 2) pe_int) pe_int) (@paC _ _ _ _ _ (@pe_op _ _ _ _ _ _ _ _ opMulA (pv 5) pe_int) (@paC _ _ _ _ _ (@pe_op _ _ _ _ _ _ _ _ op_mod (@pe_op _ _ _ _ _ _ _ _ op_fdiv (pv 2) pe_int) pe_int) (@paC _ _ _ _ _ pe_int (@paC _ _ _ _ _ (@pe_op _ _ _ _ _ _ _ _ op_mod (@pe_op _ _ _ _ _ _ _ _ op_fdiv (pv 2) pe_int) pe_int) pa_nil (by walk_at "au")) (by walk_at "au")) (by walk_at "au")) (by walk_at "au")) (by walk_at "au"))) (by walk_at "au") (by walk_at "au")))
              (case b6 =>
                refine' pss_one ?s7
                (case s7 => exact (@ps_ret _ _ _ _ (@pe_op _ _ _ _ _ _ _ _ (opAddA (K := G.K) rfl) (@pe_op _ _ _ _ _ _ _ _ (opAddA (K := G.K) rfl) (pv 3) (@pe_tup _ _ _ _ _ (@paC _ _ _ _ _ (pv 4) (@paC _ _ _ _ _ (pv 6) pa_nil (by walk_at "au")) (by walk_at "au")))) (pv 8)))))))))))
  (case rd =>
    refine body_of (N := n__law_state) (ms := LawP.b_p_law_state) ?_ h
    refine ss_seq (ss_asg (se_call (sa_cons se_var sa_nil)) (SG.any (sg_name (vs := [2]) (by decide)))) ?_
    refine ss_seq (ss_asg (se_tup (sa_cons se_var (sa_cons (se_call (sa_cons se_var sa_nil)) (sa_cons (se_call (sa_cons se_var sa_nil)) (sa_cons (se_op s2_mod se_var (se_c (fun _ _ => rfl))) (sa_cons (se_op s2_mod (se_op s2_fdiv se_var (se_c (fun _ _ => rfl))) (se_c (fun _ _ => rfl))) sa_nil)))))) (SG.any (sg_name (vs := [3]) (by decide)))) ?_
    refine ss_seq (ss_asg (se_cb sc_tup (sa_cons (se_call (sa_cons se_var sa_nil)) sa_nil)) (SG.any (sg_name (vs := [4]) (by decide)))) ?_
    refine ss_seq (ss_asg (se_call (sa_cons se_var sa_nil)) (SG.any (sg_name (vs := [5]) (by decide)))) ?_
    refine ss_seq (ss_asg (se_cb sc_tup (sa_cons (se_lc (si_r1 (sa_cons (se_c (fun _ _ => rfl)) sa_nil)) (sg_name (vs := [7]) (by decide)) st_yes (se_op s2_mod (se_op s2_add se_var (se_op s2_mul se_var (se_c (fun _ _ => rfl)))) (se_c (fun _ _ => rfl)))) sa_nil)) (SG.any (sg_name (vs := [6]) (by decide)))) ?_
    refine ss_seq (ss_asg (se_tup (sa_cons (se_op s2_mod (se_op s2_fdiv se_var (se_c (fun _ _ => rfl))) (se_c (fun _ _ => rfl))) (sa_cons (se_op s2_mul se_var (se_c (fun _ _ => rfl))) (sa_cons (se_op s2_mod (se_op s2_fdiv se_var (se_c (fun _ _ => rfl))) (se_c (fun _ _ => rfl))) (sa_cons (se_c (fun _ _ => rfl)) (sa_cons (se_op s2_mod (se_op s2_fdiv se_var (se_c (fun _ _ => rfl))) (se_c (fun _ _ => rfl))) sa_nil)))))) (SG.any (sg_name (vs := [8]) (by decide)))) ?_
    exact (ss_ret (se_op s2_add (se_op s2_add se_var (se_tup (sa_cons se_var (sa_cons se_var sa_nil)))) se_var)))

theorem d__law_waiting (T : Txt G) (R : Raw G.K G.mg "_law_waiting" s__law_waiting ["_law_deck_here"]) (D__law_free : Def P w G.K G.mg base 3 "_law_free" ["_law_deck_here", "_law_many", "_law_some"] (spOf G 3 LawP.p_law_free)) (D__law_next : Def P w G.K G.mg base 1 "_law_next" ["_law_deck_here"] (spOf G 1 LawP.p_law_next)) : Def P w G.K G.mg base 4 "_law_waiting" ["_law_deck_here"] (spOf G 1 K32.p_law_waiting) := by
  refine def_of R sc__law_waiting (fun vs H Q E h => len_of h) (fun fn cdv A outer s H vs Q E hr h => ?_)
  refine' ⟨_, ?b0, ?rd⟩
  (case b0 =>
    refine' pss_cons ?s1 ?b1
    (case s1 => exact (@ps_set _ _ (1) _ _ _ _ sc__law_waiting.nd rfl (by first | exact Or.inl rfl | exact Or.inr rfl) (@pe_op _ _ _ _ _ _ _ _ (opAddA (K := G.K) rfl) pe_int (@pe_op _ _ _ _ _ _ _ _ op_mod (@peF _ _ _ _ _ _ _ _ _ _ D__law_next (hr.mono (by decide)) (by rfl) (@paC _ _ _ _ _ (pv 0) pa_nil (by walk_at "au")) (by decide) (by walk_at "au")) pe_int)) (by walk_at "au") (by walk_at "au")))
    (case b1 =>
      refine' pss_cons ?s2 ?b2
      (case s2 => exact (@ps_set _ _ (2) _ _ _ _ sc__law_waiting.nd rfl (by first | exact Or.inl rfl | exact Or.inr rfl) (@peF _ _ _ _ _ _ _ _ _ _ D__law_free (hr.mono (by decide)) (by rfl) (@paC _ _ _ _ _ (pv 0) (@paC _ _ _ _ _ (pv 1) (@paC _ _ _ _ _ (@pe_op _ _ _ _ _ _ _ _ op_mod (@peF _ _ _ _ _ _ _ _ _ _ D__law_next (hr.mono (by decide)) (by rfl) (@paC _ _ _ _ _ (pv 0) pa_nil (by walk_at "au")) (by decide) (by walk_at "au")) pe_int) pa_nil (by walk_at "au")) (by walk_at "au")) (by walk_at "au")) (by decide) (by walk_at "au")) (by walk_at "au") (by walk_at "au")))
      (case b2 =>
        refine' pss_cons ?s3 ?b3
        (case s3 => exact (@ps_set _ _ (3) _ _ _ _ sc__law_waiting.nd rfl (by first | exact Or.inl rfl | exact Or.inr rfl) (@pe_op _ _ _ _ _ _ _ _ op_mod (@peF _ _ _ _ _ _ _ _ _ _ D__law_next (hr.mono (by decide)) (by rfl) (@paC _ _ _ _ _ (pv 0) pa_nil (by walk_at "au")) (by decide) (by walk_at "au")) (pv 1)) (by walk_at "au") (by walk_at "au")))
        (case b3 =>
          refine' pss_one ?s4
          (case s4 => exact (@ps_ret _ _ _ _ (@pe_tup _ _ _ _ _ (@paC _ _ _ _ _ (@pe_op _ _ _ _ _ _ _ _ (opAddA (K := G.K) rfl) (@pe_op _ _ _ _ _ _ _ _ (opAddA (K := G.K) rfl) (@pe_slice _ _ _ _ _ _ _ _ _ _ (slA (K := G.K) rfl) (pv 2) po_none (@po_some _ _ _ (pv 3))) (@pe_tup _ _ _ _ _ (@paC _ _ _ _ _ (@pe_tup _ _ _ _ _ (@paC _ _ _ _ _ pe_str (@paC _ _ _ _ _ pe_str (@paC _ _ _ _ _ pe_non pa_nil (by walk_at "au")) (by walk_at "au")) (by walk_at "au"))) pa_nil (by walk_at "au")))) (@pe_slice _ _ _ _ _ _ _ _ _ _ (slA (K := G.K) rfl) (pv 2) (@po_some _ _ _ (pv 3)) po_none)) (@paC _ _ _ _ _ (@pe_op _ _ _ _ _ _ _ _ (opAddA (K := G.K) rfl) (pv 3) pe_int) (@paC _ _ _ _ _ (@pe_op _ _ _ _ _ _ _ _ (opAddA (K := G.K) rfl) (pv 1) pe_int) pa_nil (by walk_at "au")) (by walk_at "au")) (by walk_at "au")))))))))
  (case rd =>
    refine body_of (N := n__law_waiting) (ms := K32.b_p_law_waiting) ?_ h
    refine ss_seq (ss_asg (se_op s2_add (se_c (fun _ _ => rfl)) (se_op s2_mod (se_call (sa_cons se_var sa_nil)) (se_c (fun _ _ => rfl)))) (SG.any (sg_name (vs := [1]) (by decide)))) ?_
    refine ss_seq (ss_asg (se_call (sa_cons se_var (sa_cons se_var (sa_cons (se_op s2_mod (se_call (sa_cons se_var sa_nil)) (se_c (fun _ _ => rfl))) sa_nil)))) (SG.any (sg_name (vs := [2]) (by decide)))) ?_
    refine ss_seq (ss_asg (se_op s2_mod (se_call (sa_cons se_var sa_nil)) se_var) (SG.any (sg_name (vs := [3]) (by decide)))) ?_
    exact (ss_ret (se_tup (sa_cons (se_op s2_add (se_op s2_add (se_sl se_var so_none (so_some se_var)) (se_tup (sa_cons (se_tup (sa_cons (se_c (fun _ _ => rfl)) (sa_cons (se_c (fun _ _ => rfl)) (sa_cons (se_c (fun _ _ => rfl)) sa_nil)))) sa_nil))) (se_sl se_var (so_some se_var) so_none)) (sa_cons (se_op s2_add se_var (se_c (fun _ _ => rfl))) (sa_cons (se_op s2_add se_var (se_c (fun _ _ => rfl))) sa_nil))))))

theorem d__law_most_of (T : Txt G) (R : Raw G.K G.mg "_law_most_of" s__law_most_of ["_law_field"])  : Def P w G.K G.mg base 1 "_law_most_of" ["_law_field"] (spOf G 1 K32.p_law_most_of) := by
  refine def_of R sc__law_most_of (fun vs H Q E h => len_of h) (fun fn cdv A outer s H vs Q E hr h => ?_)
  refine' ⟨_, ?b0, ?rd⟩
  (case b0 =>
    refine' pss_one ?s1
    (case s1 => exact (@ps_ret _ _ _ _ (@pe_dget _ _ _ _ _ _ (units1 hr.units) (@pe_disp _ _ _ _ _ (@pps_cons _ _ _ _ _ _ _ _ _ pe_int pe_int (@pps_cons _ _ _ _ _ _ _ _ _ pe_int pe_int (@pps_cons _ _ _ _ _ _ _ _ _ pe_int pe_int (@pps_cons _ _ _ _ _ _ _ _ _ pe_int pe_int (@pps_cons _ _ _ _ _ _ _ _ _ pe_int pe_int (@pps_cons _ _ _ _ _ _ _ _ _ pe_int pe_int (@pps_cons _ _ _ _ _ _ _ _ _ pe_int pe_int (@pps_cons _ _ _ _ _ _ _ _ _ pe_int pe_int (@pps_cons _ _ _ _ _ _ _ _ _ pe_int pe_int pps_nil))))))))) rfl rfl (by nofun) (by decide)) (pv 0) (fun _ _ => rfl)))))
  (case rd =>
    refine body_of (N := n__law_most_of) (ms := K32.b_p_law_most_of) ?_ h
    exact (ss_ret (se_dget (se_dic (sp_cons (k := .inl 1) rfl (se_c (fun _ _ => rfl)) (sp_cons (k := .inl 2) rfl (se_c (fun _ _ => rfl)) (sp_cons (k := .inl 3) rfl (se_c (fun _ _ => rfl)) (sp_cons (k := .inl 4) rfl (se_c (fun _ _ => rfl)) (sp_cons (k := .inl 7) rfl (se_c (fun _ _ => rfl)) (sp_cons (k := .inl 8) rfl (se_c (fun _ _ => rfl)) (sp_cons (k := .inl 9) rfl (se_c (fun _ _ => rfl)) (sp_cons (k := .inl 10) rfl (se_c (fun _ _ => rfl)) (sp_cons (k := .inl 11) rfl (se_c (fun _ _ => rfl)) sp_nil)))))))))) se_var)))

theorem d__law_with (T : Txt G) (R : Raw G.K G.mg "_law_with" s__law_with ["_law_state_here", "_law_field", "_law_thing"])  : Def P w G.K G.mg base 1 "_law_with" ["_law_state_here", "_law_field", "_law_thing"] (spOf G 3 K32.p_law_with) := by
  refine def_of R sc__law_with (fun vs H Q E h => len_of h) (fun fn cdv A outer s H vs Q E hr h => ?_)
  refine' ⟨_, ?b0, ?rd⟩
  (case b0 =>
    refine' pss_one ?s1
    (case s1 => exact (@ps_ret _ _ _ _ (@pe_op _ _ _ _ _ _ _ _ (opAddA (K := G.K) rfl) (@pe_op _ _ _ _ _ _ _ _ (opAddA (K := G.K) rfl) (@pe_slice _ _ _ _ _ _ _ _ _ _ (slA (K := G.K) rfl) (pv 0) po_none (@po_some _ _ _ (pv 1))) (@pe_tup _ _ _ _ _ (@paC _ _ _ _ _ (pv 2) pa_nil (by walk_at "au")))) (@pe_slice _ _ _ _ _ _ _ _ _ _ (slA (K := G.K) rfl) (pv 0) (@po_some _ _ _ (@pe_op _ _ _ _ _ _ _ _ (opAddA (K := G.K) rfl) (pv 1) pe_int)) po_none)))))
  (case rd =>
    refine body_of (N := n__law_with) (ms := K32.b_p_law_with) ?_ h
    exact (ss_ret (se_op s2_add (se_op s2_add (se_sl se_var so_none (so_some se_var)) (se_tup (sa_cons se_var sa_nil))) (se_sl se_var (so_some (se_op s2_add se_var (se_c (fun _ _ => rfl)))) so_none))))

theorem d__law_no_rows (T : Txt G) (R : Raw G.K G.mg "_law_no_rows" s__law_no_rows ["_law_program", "_law_state_here", "_law_many"]) (D__law_with : Def P w G.K G.mg base 1 "_law_with" ["_law_state_here", "_law_field", "_law_thing"] (spOf G 3 K32.p_law_with)) : Def P w G.K G.mg base 2 "_law_no_rows" ["_law_program", "_law_state_here", "_law_many"] (spOf G 3 K32.p_law_no_rows) := by
  refine def_of R sc__law_no_rows (fun vs H Q E h => len_of h) (fun fn cdv A outer s H vs Q E hr h => ?_)
  refine' ⟨_, ?b0, ?rd⟩
  (case b0 =>
    refine' pss_cons ?s1 ?b1
    (case s1 => exact (@ps_set _ _ (3) _ _ _ _ sc__law_no_rows.nd rfl (by first | exact Or.inl rfl | exact Or.inr rfl) (@pe_lst _ _ _ _ (@paC _ _ _ _ _ (@pe_un _ _ _ _ _ _ un_neg pe_int) (@paC _ _ _ _ _ (pv 2) (@paC _ _ _ _ _ (@peB _ _ _ _ _ _ _ _ _ (crLenA (K := G.K) rfl) (by rfl) T.b_len (by decide +kernel) (@paC _ _ _ _ _ (pv 0) pa_nil (by walk_at "au")) (by decide) (by decide) (by walk_at "au")) (@paC _ _ _ _ _ pe_bl (@paC _ _ _ _ _ pe_non (@paC _ _ _ _ _ pe_str (@paC _ _ _ _ _ (@pe_tup _ _ _ _ _ (@paC _ _ _ _ _ pe_int pa_nil (by walk_at "au"))) pa_nil (by walk_at "au")) (by walk_at "au")) (by walk_at "au")) (by walk_at "au")) (by walk_at "au")) (by walk_at "au")) (by walk_at "au"))) (by walk_at "au") (by walk_at "au")))
    (case b1 =>
      refine' pss_one ?s2
      (case s2 => exact (@ps_ret _ _ _ _ (@pe_lc _ _ _ _ _ _ ([("_law_thing", 4)]) _ _ _ _ _ rfl sc__law_no_rows.nd (@pi_seq _ (G.K) _ _ _ rfl (pv 3)) (blkOk_by (own := [("_law_thing", 4)]) (N := n__law_no_rows) (sc := defScope s__law_no_rows) (by decide +kernel)) (fun _ _ _ _ _ => (pg_name (i := 4) sc__law_no_rows.nd rfl (by first | exact Or.inl rfl | exact Or.inr rfl))) (fun _ _ _ _ _ => (@pts_one _ _ _ (@PW.pt _ _ _ (@pw_or _ _ _ _ _ _ _ (@pt_cmpR _ _ _ _ _ _ _ _ opIsC (pv 4) pe_bl (nomark _)) (@pw_or1 _ _ _ _ (@ptRngN _ (G.K) _ _ _ _ _ _ _ rfl hr.units (by rfl) T.b_range (pv 4) (@paC _ _ _ _ _ (pv 2) pa_nil (by walk_at "au")) (by walk_at "au"))))))) (fun _ _ _ _ _ => (@peF _ _ _ _ _ _ _ _ _ _ D__law_with (hr.mono (by decide)) (by rfl) (@paC _ _ _ _ _ (pv 1) (@paC _ _ _ _ _ pe_int (@paC _ _ _ _ _ (pv 4) pa_nil (by walk_at "au")) (by walk_at "au")) (by walk_at "au")) (by decide) (by walk_at "au"))) (by walk_at "au"))))))
  (case rd =>
    refine body_of (N := n__law_no_rows) (ms := K32.b_p_law_no_rows) ?_ h
    refine ss_seq (ss_asg (se_lst (sa_cons (se_un s1_neg (se_c (fun _ _ => rfl))) (sa_cons se_var (sa_cons (se_cb sc_len (sa_cons se_var sa_nil)) (sa_cons (se_c (fun _ _ => rfl)) (sa_cons (se_c (fun _ _ => rfl)) (sa_cons (se_c (fun _ _ => rfl)) (sa_cons (se_tup (sa_cons (se_c (fun _ _ => rfl)) sa_nil)) sa_nil)))))))) (SG.any (sg_name (vs := [3]) (by decide)))) ?_
    exact (ss_ret (se_lc (si_seq se_var) (sg_name (vs := [4]) (by decide)) (st_or (st_test (se_op s2_isC se_var (se_c (fun _ _ => rfl)))) (st_test (se_rngN se_var (sa_cons se_var sa_nil)))) (se_call (sa_cons se_var (sa_cons (se_c (fun _ _ => rfl)) (sa_cons se_var sa_nil)))))))

theorem d__law_no_bytes (T : Txt G) (R : Raw G.K G.mg "_law_no_bytes" s__law_no_bytes ["_law_deck_here", "_law_state_here", "_law_field"]) (D__law_next : Def P w G.K G.mg base 1 "_law_next" ["_law_deck_here"] (spOf G 1 LawP.p_law_next)) (D__law_with : Def P w G.K G.mg base 1 "_law_with" ["_law_state_here", "_law_field", "_law_thing"] (spOf G 3 K32.p_law_with)) : Def P w G.K G.mg base 2 "_law_no_bytes" ["_law_deck_here", "_law_state_here", "_law_field"] (spOf G 3 K32.p_law_no_bytes) := by
  refine def_of R sc__law_no_bytes (fun vs H Q E h => len_of h) (fun fn cdv A outer s H vs Q E hr h => ?_)
  refine' ⟨_, ?b0, ?rd⟩
  (case b0 =>
    refine' pss_cons ?s1 ?b1
    (case s1 => exact (@ps_set _ _ (3) _ _ _ _ sc__law_no_bytes.nd rfl (by first | exact Or.inl rfl | exact Or.inr rfl) (@pe_ix _ _ _ _ _ _ _ (ixA (K := G.K) rfl) (pv 1) (pv 2) (fun _ _ => rfl)) (by walk_at "au") (by walk_at "au")))
    (case b1 =>
      refine' pss_cons ?s2 ?b2
      (case s2 => exact (@ps_set _ _ (4) _ _ _ _ sc__law_no_bytes.nd rfl (by first | exact Or.inl rfl | exact Or.inr rfl) (@pe_op _ _ _ _ _ _ _ _ op_mod (@peF _ _ _ _ _ _ _ _ _ _ D__law_next (hr.mono (by decide)) (by rfl) (@paC _ _ _ _ _ (pv 0) pa_nil (by walk_at "au")) (by decide) (by walk_at "au")) (@peB _ _ _ _ _ _ _ _ _ (crLenA (K := G.K) rfl) (by rfl) T.b_len (by decide +kernel) (@paC _ _ _ _ _ (pv 3) pa_nil (by walk_at "au")) (by decide) (by decide) (by walk_at "au"))) (by walk_at "au") (by walk_at "au")))
      (case b2 =>
        refine' pss_cons ?s3 ?b3
        (case s3 => exact (@ps_set _ _ (5) _ _ _ _ sc__law_no_bytes.nd rfl (by first | exact Or.inl rfl | exact Or.inr rfl) (@pe_lst _ _ _ _ (@paC _ _ _ _ _ (@peT _ _ _ _ _ _ _ _ _ (crList (K := G.K) rfl) (by rfl) T.b_list (by decide +kernel) (@paC _ _ _ _ _ (pv 3) pa_nil (by walk_at "au")) (by decide) (by decide) (by walk_at "au")) (@paC _ _ _ _ _ (@pe_slice _ _ _ _ _ _ _ _ _ _ (slA (K := G.K) rfl) (pv 3) po_none (@po_some _ _ _ (@pe_un _ _ _ _ _ _ un_neg pe_int))) (@paC _ _ _ _ _ (@pe_op _ _ _ _ _ _ _ _ (opAddA (K := G.K) rfl) (pv 3) (@pe_tup _ _ _ _ _ (@paC _ _ _ _ _ pe_int pa_nil (by walk_at "au")))) (@paC _ _ _ _ _ (@pe_op _ _ _ _ _ _ _ _ (opAddA (K := G.K) rfl) (@pe_tup _ _ _ _ _ (@paC _ _ _ _ _ pe_int pa_nil (by walk_at "au"))) (@pe_slice _ _ _ _ _ _ _ _ _ _ (slA (K := G.K) rfl) (pv 3) (@po_some _ _ _ pe_int) po_none)) (@paC _ _ _ _ _ (@pe_op _ _ _ _ _ _ _ _ (opAddA (K := G.K) rfl) (@pe_slice _ _ _ _ _ _ _ _ _ _ (slA (K := G.K) rfl) (pv 3) po_none (@po_some _ _ _ (@pe_un _ _ _ _ _ _ un_neg pe_int))) (@pe_tup _ _ _ _ _ (@paC _ _ _ _ _ (@pe_un _ _ _ _ _ _ un_neg pe_int) pa_nil (by walk_at "au")))) (@paC _ _ _ _ _ (@pe_op _ _ _ _ _ _ _ _ (opAddA (K := G.K) rfl) (@pe_tup _ _ _ _ _ (@paC _ _ _ _ _ pe_bl pa_nil (by walk_at "au"))) (@pe_slice _ _ _ _ _ _ _ _ _ _ (slA (K := G.K) rfl) (pv 3) (@po_some _ _ _ pe_int) po_none)) (@paC _ _ _ _ _ pe_non (@paC _ _ _ _ _ pe_int pa_nil (by walk_at "au")) (by walk_at "au")) (by walk_at "au")) (by walk_at "au")) (by walk_at "au")) (by walk_at "au")) (by walk_at "au")) (by walk_at "au"))) (by walk_at "au") (by walk_at "au")))
        (case b3 =>
          refine' pss_cons ?s4 ?b4
          (case s4 => exact (@ps_for _ _ _ _ _ _ _ _ PassesOwn.never rfl (@pi_seq _ (G.K) _ _ _ rfl (@pe_lst _ _ _ _ (@paC _ _ _ _ _ pe_int (@paC _ _ _ _ _ (@pe_un _ _ _ _ _ _ un_neg pe_int) (@paC _ _ _ _ _ pe_bl (@paC _ _ _ _ _ pe_non (@paC _ _ _ _ _ pe_str (@paC _ _ _ _ _ (@pe_tup _ _ _ _ _ (@paC _ _ _ _ _ pe_int pa_nil (by walk_at "au"))) (@paC _ _ _ _ _ (@pe_op _ _ _ _ _ _ _ _ op_pow pe_int pe_int) pa_nil (by walk_at "au")) (by walk_at "au")) (by walk_at "au")) (by walk_at "au")) (by walk_at "au")) (by walk_at "au")) (by walk_at "au")))) (pg_name (i := 6) sc__law_no_bytes.nd rfl (by first | exact Or.inl rfl | exact Or.inr rfl)) (@pss_one _ _ _ (@ps_expr _ _ _ _ (@peApp _ (G.K) _ _ _ _ _ _ _ rfl (pv 5) (@paC _ _ _ _ _ (@pe_op _ _ _ _ _ _ _ _ (opAddA (K := G.K) rfl) (@pe_op _ _ _ _ _ _ _ _ (opAddA (K := G.K) rfl) (@pe_slice _ _ _ _ _ _ _ _ _ _ (slA (K := G.K) rfl) (pv 3) po_none (@po_some _ _ _ (pv 4))) (@pe_tup _ _ _ _ _ (@paC _ _ _ _ _ (pv 6) pa_nil (by walk_at "au")))) (@pe_slice _ _ _ _ _ _ _ _ _ _ (slA (K := G.K) rfl) (pv 3) (@po_some _ _ _ (@pe_op _ _ _ _ _ _ _ _ (opAddA (K := G.K) rfl) (pv 4) pe_int)) po_none)) pa_nil (by walk_at "au")) (by walk_at "au") (by walk_at "au") (by walk_at "au") (by walk_at "au")) (by walk_at "au"))) (by walk_at "au")))
          (case b4 =>
            refine' pss_one ?s5
            (case s5 => exact (@ps_ret _ _ _ _ (@pe_lc _ _ _ _ _ _ ([("_law_thing", 7)]) _ _ _ _ _ rfl sc__law_no_bytes.nd (@pi_seq _ (G.K) _ _ _ rfl (pv 5)) (blkOk_by (own := [("_law_thing", 7)]) (N := n__law_no_bytes) (sc := defScope s__law_no_bytes) (by decide +kernel)) (fun _ _ _ _ _ => (pg_name (i := 7) sc__law_no_bytes.nd rfl (by first | exact Or.inl rfl | exact Or.inr rfl))) (fun _ _ _ _ _ => pts_nil) (fun _ _ _ _ _ => (@peF _ _ _ _ _ _ _ _ _ _ D__law_with (hr.mono (by decide)) (by rfl) (@paC _ _ _ _ _ (pv 1) (@paC _ _ _ _ _ (pv 2) (@paC _ _ _ _ _ (pv 7) pa_nil (by walk_at "au")) (by walk_at "au")) (by walk_at "au")) (by decide) (by walk_at "au"))) (by walk_at "au")))))))))
  (case rd =>
    refine body_of (N := n__law_no_bytes) (ms := K32.b_p_law_no_bytes) ?_ h
    refine ss_seq (ss_asg (se_op s2_ix se_var se_var) (SG.any (sg_name (vs := [3]) (by decide)))) ?_
    refine ss_seq (ss_asg (se_op s2_mod (se_call (sa_cons se_var sa_nil)) (se_cb sc_len (sa_cons se_var sa_nil))) (SG.any (sg_name (vs := [4]) (by decide)))) ?_
    refine ss_seq (ss_asg (se_lst (sa_cons (se_cb sc_list (sa_cons se_var sa_nil)) (sa_cons (se_sl se_var so_none (so_some (se_un s1_neg (se_c (fun _ _ => rfl))))) (sa_cons (se_op s2_add se_var (se_tup (sa_cons (se_c (fun _ _ => rfl)) sa_nil))) (sa_cons (se_op s2_add (se_tup (sa_cons (se_c (fun _ _ => rfl)) sa_nil)) (se_sl se_var (so_some (se_c (fun _ _ => rfl))) so_none)) (sa_cons (se_op s2_add (se_sl se_var so_none (so_some (se_un s1_neg (se_c (fun _ _ => rfl))))) (se_tup (sa_cons (se_un s1_neg (se_c (fun _ _ => rfl))) sa_nil))) (sa_cons (se_op s2_add (se_tup (sa_cons (se_c (fun _ _ => rfl)) sa_nil)) (se_sl se_var (so_some (se_c (fun _ _ => rfl))) so_none)) (sa_cons (se_c (fun _ _ => rfl)) (sa_cons (se_c (fun _ _ => rfl)) sa_nil))))))))) (SG.any (sg_name (vs := [5]) (by decide)))) ?_
    refine ss_seq (ss_for (si_seq (se_lst (sa_cons (se_c (fun _ _ => rfl)) (sa_cons (se_un s1_neg (se_c (fun _ _ => rfl))) (sa_cons (se_c (fun _ _ => rfl)) (sa_cons (se_c (fun _ _ => rfl)) (sa_cons (se_c (fun _ _ => rfl)) (sa_cons (se_tup (sa_cons (se_c (fun _ _ => rfl)) sa_nil)) (sa_cons (se_op s2_pow (se_c (fun _ _ => rfl)) (se_c (fun _ _ => rfl))) sa_nil))))))))) (SG.any (sg_name (vs := [6]) (by decide))) (ss_drop (se_bm sm_append se_var (sa_cons (se_op s2_add (se_op s2_add (se_sl se_var so_none (so_some se_var)) (se_tup (sa_cons se_var sa_nil))) (se_sl se_var (so_some (se_op s2_add se_var (se_c (fun _ _ => rfl)))) so_none)) sa_nil)))) ?_
    exact (ss_ret (se_lc (si_seq se_var) (sg_name (vs := [7]) (by decide)) st_yes (se_call (sa_cons se_var (sa_cons se_var (sa_cons se_var sa_nil)))))))

theorem d__law_none (T : Txt G) (R : Raw G.K G.mg "_law_none" s__law_none ["_law_deck_here", "_law_program", "_law_state_here", "_law_many"]) (D__law_no_bytes : Def P w G.K G.mg base 2 "_law_no_bytes" ["_law_deck_here", "_law_state_here", "_law_field"] (spOf G 3 K32.p_law_no_bytes)) (D__law_no_rows : Def P w G.K G.mg base 2 "_law_no_rows" ["_law_program", "_law_state_here", "_law_many"] (spOf G 3 K32.p_law_no_rows)) (D__law_most_of : Def P w G.K G.mg base 1 "_law_most_of" ["_law_field"] (spOf G 1 K32.p_law_most_of)) (D__law_with : Def P w G.K G.mg base 1 "_law_with" ["_law_state_here", "_law_field", "_law_thing"] (spOf G 3 K32.p_law_with)) : Def P w G.K G.mg base 3 "_law_none" ["_law_deck_here", "_law_program", "_law_state_here", "_law_many"] (spOf G 4 K32.p_law_none) := by
  refine def_of R sc__law_none (fun vs H Q E h => len_of h) (fun fn cdv A outer s H vs Q E hr h => ?_)
  refine' ⟨_, ?b0, ?rd⟩
  (case b0 =>
    refine' pss_cons ?s1 ?b1
    (case s1 => exact (@ps_set _ _ (4) _ _ _ _ sc__law_none.nd rfl (by first | exact Or.inl rfl | exact Or.inr rfl) (@pe_op _ _ _ _ _ _ _ _ (opAddA (K := G.K) rfl) (@pe_op _ _ _ _ _ _ _ _ (opAddA (K := G.K) rfl) (@peF _ _ _ _ _ _ _ _ _ _ D__law_no_rows (hr.mono (by decide)) (by rfl) (@paC _ _ _ _ _ (pv 1) (@paC _ _ _ _ _ (pv 2) (@paC _ _ _ _ _ (pv 3) pa_nil (by walk_at "au")) (by walk_at "au")) (by walk_at "au")) (by decide) (by walk_at "au")) (@peF _ _ _ _ _ _ _ _ _ _ D__law_no_bytes (hr.mono (by decide)) (by rfl) (@paC _ _ _ _ _ (pv 0) (@paC _ _ _ _ _ (pv 2) (@paC _ _ _ _ _ pe_int pa_nil (by walk_at "au")) (by walk_at "au")) (by walk_at "au")) (by decide) (by walk_at "au"))) (@peF _ _ _ _ _ _ _ _ _ _ D__law_no_bytes (hr.mono (by decide)) (by rfl) (@paC _ _ _ _ _ (pv 0) (@paC _ _ _ _ _ (pv 2) (@paC _ _ _ _ _ pe_int pa_nil (by walk_at "au")) (by walk_at "au")) (by walk_at "au")) (by decide) (by walk_at "au"))) (by walk_at "au") (by walk_at "au")))
    (case b1 =>
      refine' pss_cons ?s2 ?b2
      (case s2 => exact (@ps_for _ _ _ _ _ _ _ _ PassesOwn.never rfl (@pi_seq _ (G.K) _ _ _ rfl (@pe_lst _ _ _ _ (@paC _ _ _ _ _ pe_int (@paC _ _ _ _ _ pe_int (@paC _ _ _ _ _ pe_int (@paC _ _ _ _ _ pe_int (@paC _ _ _ _ _ pe_int (@paC _ _ _ _ _ pe_int (@paC _ _ _ _ _ pe_int (@paC _ _ _ _ _ pe_int (@paC _ _ _ _ _ pe_int pa_nil (by walk_at "au")) (by walk_at "au")) (by walk_at "au")) (by walk_at "au")) (by walk_at "au")) (by walk_at "au")) (by walk_at "au")) (by walk_at "au")) (by walk_at "au")))) (pg_name (i := 5) sc__law_none.nd rfl (by first | exact Or.inl rfl | exact Or.inr rfl)) (@pss_one _ _ _ (@ps_for _ _ _ _ _ _ _ _ PassesOwn.never rfl (@pi_seq _ (G.K) _ _ _ rfl (@pe_lst _ _ _ _ (@paC _ _ _ _ _ (@pe_un _ _ _ _ _ _ un_neg pe_int) (@paC _ _ _ _ _ (@pe_op _ _ _ _ _ _ _ _ (opAddA (K := G.K) rfl) (@peF _ _ _ _ _ _ _ _ _ _ D__law_most_of (hr.mono (by decide)) (by rfl) (@paC _ _ _ _ _ (pv 5) pa_nil (by walk_at "au")) (by decide) (by walk_at "au")) pe_int) (@paC _ _ _ _ _ pe_bl (@paC _ _ _ _ _ pe_str (@paC _ _ _ _ _ pe_non (@paC _ _ _ _ _ (@pe_tup _ _ _ _ _ (@paC _ _ _ _ _ pe_int pa_nil (by walk_at "au"))) pa_nil (by walk_at "au")) (by walk_at "au")) (by walk_at "au")) (by walk_at "au")) (by walk_at "au")) (by walk_at "au")))) (pg_name (i := 6) sc__law_none.nd rfl (by first | exact Or.inl rfl | exact Or.inr rfl)) (@pss_one _ _ _ (@ps_expr _ _ _ _ (@peApp _ (G.K) _ _ _ _ _ _ _ rfl (pv 4) (@paC _ _ _ _ _ (@peF _ _ _ _ _ _ _ _ _ _ D__law_with (hr.mono (by decide)) (by rfl) (@paC _ _ _ _ _ (pv 2) (@paC _ _ _ _ _ (pv 5) (@paC _ _ _ _ _ (pv 6) pa_nil (by walk_at "au")) (by walk_at "au")) (by walk_at "au")) (by decide) (by walk_at "au")) pa_nil (by walk_at "au")) (by walk_at "au") (by walk_at "au") (by walk_at "au") (by walk_at "au")) (by walk_at "au"))) (by walk_at "au"))) (by walk_at "au")))
      (case b2 =>
        refine' pss_one ?s3
        (case s3 => exact (@ps_ret _ _ _ _ (@pe_op _ _ _ _ _ _ _ _ (opAddA (K := G.K) rfl) (pv 4) (@pe_lst _ _ _ _ (@paC _ _ _ _ _ (@pe_slice _ _ _ _ _ _ _ _ _ _ (slA (K := G.K) rfl) (pv 2) po_none (@po_some _ _ _ (@pe_un _ _ _ _ _ _ un_neg pe_int))) (@paC _ _ _ _ _ (@pe_op _ _ _ _ _ _ _ _ (opAddA (K := G.K) rfl) (pv 2) (@pe_tup _ _ _ _ _ (@paC _ _ _ _ _ pe_int pa_nil (by walk_at "au")))) (@paC _ _ _ _ _ (@peT _ _ _ _ _ _ _ _ _ (crList (K := G.K) rfl) (by rfl) T.b_list (by decide +kernel) (@paC _ _ _ _ _ (pv 2) pa_nil (by walk_at "au")) (by decide) (by decide) (by walk_at "au")) (@paC _ _ _ _ _ pe_non (@paC _ _ _ _ _ pe_int (@paC _ _ _ _ _ pe_str (@paC _ _ _ _ _ (@pe_tup _ _ _ _ _ pa_nil) (@paC _ _ _ _ _ peDic0 (@paC _ _ _ _ _ (@pe_lst _ _ _ _ (@paC _ _ _ _ _ (pv 2) pa_nil (by walk_at "au"))) pa_nil (by walk_at "au")) (by walk_at "au")) (by walk_at "au")) (by walk_at "au")) (by walk_at "au")) (by walk_at "au")) (by walk_at "au")) (by walk_at "au")) (by walk_at "au")))))))))
  (case rd =>
    refine body_of (N := n__law_none) (ms := K32.b_p_law_none) ?_ h
    refine ss_seq (ss_asg (se_op s2_add (se_op s2_add (se_call (sa_cons se_var (sa_cons se_var (sa_cons se_var sa_nil)))) (se_call (sa_cons se_var (sa_cons se_var (sa_cons (se_c (fun _ _ => rfl)) sa_nil))))) (se_call (sa_cons se_var (sa_cons se_var (sa_cons (se_c (fun _ _ => rfl)) sa_nil))))) (SG.any (sg_name (vs := [4]) (by decide)))) ?_
    refine ss_seq (ss_for (si_seq (se_lst (sa_cons (se_c (fun _ _ => rfl)) (sa_cons (se_c (fun _ _ => rfl)) (sa_cons (se_c (fun _ _ => rfl)) (sa_cons (se_c (fun _ _ => rfl)) (sa_cons (se_c (fun _ _ => rfl)) (sa_cons (se_c (fun _ _ => rfl)) (sa_cons (se_c (fun _ _ => rfl)) (sa_cons (se_c (fun _ _ => rfl)) (sa_cons (se_c (fun _ _ => rfl)) sa_nil))))))))))) (SG.any (sg_name (vs := [5]) (by decide))) (ss_for (si_seq (se_lst (sa_cons (se_un s1_neg (se_c (fun _ _ => rfl))) (sa_cons (se_op s2_add (se_call (sa_cons se_var sa_nil)) (se_c (fun _ _ => rfl))) (sa_cons (se_c (fun _ _ => rfl)) (sa_cons (se_c (fun _ _ => rfl)) (sa_cons (se_c (fun _ _ => rfl)) (sa_cons (se_tup (sa_cons (se_c (fun _ _ => rfl)) sa_nil)) sa_nil)))))))) (SG.any (sg_name (vs := [6]) (by decide))) (ss_drop (se_bm sm_append se_var (sa_cons (se_call (sa_cons se_var (sa_cons se_var (sa_cons se_var sa_nil)))) sa_nil))))) ?_
    exact (ss_ret (se_op s2_add se_var (se_lst (sa_cons (se_sl se_var so_none (so_some (se_un s1_neg (se_c (fun _ _ => rfl))))) (sa_cons (se_op s2_add se_var (se_tup (sa_cons (se_c (fun _ _ => rfl)) sa_nil))) (sa_cons (se_cb sc_list (sa_cons se_var sa_nil)) (sa_cons (se_c (fun _ _ => rfl)) (sa_cons (se_c (fun _ _ => rfl)) (sa_cons (se_c (fun _ _ => rfl)) (sa_cons (se_tup sa_nil) (sa_cons (se_dic sp_nil) (sa_cons (se_lst (sa_cons se_var sa_nil)) sa_nil)))))))))))))

theorem d_law (T : Txt G) {f : Addr} {fd : FuncData} (F : Fun G.K "law" "law" s_law f fd) (D__law_deck : Def P w G.K G.mg base 2 "_law_deck" ["_law_script", "_law_many"] (spOf G 2 LawP.p_law_deck)) (D__law_waiting : Def P w G.K G.mg base 4 "_law_waiting" ["_law_deck_here"] (spOf G 1 K32.p_law_waiting)) (D__law_state : Def P w G.K G.mg base 4 "_law_state" ["_law_deck_here", "_law_row"] (spOf G 2 LawP.p_law_state)) (D_start : Def P w G.K G.mg base 1 "start" ["program"] (spOf G 1 Prog.states_start)) (D__law_none : Def P w G.K G.mg base 3 "_law_none" ["_law_deck_here", "_law_program", "_law_state_here", "_law_many"] (spOf G 4 K32.p_law_none)) (D__law_next : Def P w G.K G.mg base 1 "_law_next" ["_law_deck_here"] (spOf G 1 LawP.p_law_next)) (D__law_with : Def P w G.K G.mg base 1 "_law_with" ["_law_state_here", "_law_field", "_law_thing"] (spOf G 3 K32.p_law_with)) (D__law_most_of : Def P w G.K G.mg base 1 "_law_most_of" ["_law_field"] (spOf G 1 K32.p_law_most_of)) (D_is_state : Def P w G.K G.mg base 7 "is_state" ["program", "thing"] (spOf G 2 Prog.states_is_state)) : FnOk P w G.K G.mg base CX0 8 f fd ["_law_script"] (spOf G 1 K32.p_law) := by
  refine F.ok sc_law (fun vs H Q E h => len_of h) (fun cdv A outer s H vs Q E hr h => ?_)
  refine' ⟨_, ?b0, ?rd⟩
  (case b0 =>
    refine' pss_cons ?s1 ?b1
    (case s1 => exact (@ps_set _ _ (1) _ _ _ _ sc_law.nd rfl (by first | exact Or.inl rfl | exact Or.inr rfl) (@peF _ _ _ _ _ _ _ _ _ _ D__law_deck (hr.mono (by decide)) (by rfl) (@paC _ _ _ _ _ (pv 0) (@paC _ _ _ _ _ pe_int pa_nil (by walk_at "au")) (by walk_at "au")) (by decide) (by walk_at "au")) (by walk_at "au") (by walk_at "au")))
    (case b1 =>
      refine' pss_cons ?s2 ?b2
      (case s2 => exact (@ps_asg _ _ _ _ _ _ (@peF _ _ _ _ _ _ _ _ _ _ D__law_waiting (hr.mono (by decide)) (by rfl) (@paC _ _ _ _ _ (pv 1) pa_nil (by walk_at "au")) (by decide) (by walk_at "au")) (@pg_tupK _ (G.K) _ _ _ _ _ rfl (@pg_tup _ _ _ _ _ (3) rfl (@pgs_cons _ _ _ _ _ (pg_name (i := 2) sc_law.nd rfl (by first | exact Or.inl rfl | exact Or.inr rfl)) (@pgs_cons _ _ _ _ _ (pg_name (i := 3) sc_law.nd rfl (by first | exact Or.inl rfl | exact Or.inr rfl)) (@pgs_cons _ _ _ _ _ (pg_name (i := 4) sc_law.nd rfl (by first | exact Or.inl rfl | exact Or.inr rfl)) pgs_nil (by walk_at "au")) (by walk_at "au")) (by walk_at "au")) (by walk_at "au") (by walk_at "au"))) (by walk_at "au") (by walk_at "au") (by walk_at "au")))
      (case b2 =>
        refine' pss_cons ?s3 ?b3
        (case s3 => exact (@ps_set _ _ (5) _ _ _ _ sc_law.nd rfl (by first | exact Or.inl rfl | exact Or.inr rfl) (@peF _ _ _ _ _ _ _ _ _ _ D__law_state (hr.mono (by decide)) (by rfl) (@paC _ _ _ _ _ (pv 1) (@paC _ _ _ _ _ (@pe_op _ _ _ _ _ _ _ _ op_mod (@peF _ _ _ _ _ _ _ _ _ _ D__law_next (hr.mono (by decide)) (by rfl) (@paC _ _ _ _ _ (pv 1) pa_nil (by walk_at "au")) (by decide) (by walk_at "au")) (pv 4)) pa_nil (by walk_at "au")) (by walk_at "au")) (by decide) (by walk_at "au")) (by walk_at "au") (by walk_at "au")))
        (case b3 =>
          refine' pss_cons ?s4 ?b4
          (case s4 => exact (@ps_set _ _ (6) _ _ _ _ sc_law.nd rfl (by first | exact Or.inl rfl | exact Or.inr rfl) (@pe_op _ _ _ _ _ _ _ _ (opAddA (K := G.K) rfl) (@pe_op _ _ _ _ _ _ _ _ (opAddA (K := G.K) rfl) (@pe_tup _ _ _ _ _ (@paC _ _ _ _ _ (pv 3) pa_nil (by walk_at "au"))) (@pe_slice _ _ _ _ _ _ _ _ _ _ (slA (K := G.K) rfl) (pv 5) (@po_some _ _ _ pe_int) (@po_some _ _ _ pe_int))) (@pe_tup _ _ _ _ _ (@paC _ _ _ _ _ pe_int (@paC _ _ _ _ _ pe_int (@paC _ _ _ _ _ pe_int pa_nil (by walk_at "au")) (by walk_at "au")) (by walk_at "au")))) (by walk_at "au") (by walk_at "au")))
          (case b4 =>
            refine' pss_cons ?s5 ?b5
            (case s5 => exact (@ps_set _ _ (7) _ _ _ _ sc_law.nd rfl (by first | exact Or.inl rfl | exact Or.inr rfl) (@pe_lst _ _ _ _ (@paC _ _ _ _ _ (pv 5) (@paC _ _ _ _ _ (pv 6) (@paC _ _ _ _ _ (@peF _ _ _ _ _ _ _ _ _ _ D_start (hr.mono (by decide)) (by rfl) (@paC _ _ _ _ _ (pv 2) pa_nil (by walk_at "au")) (by decide) (by walk_at "au")) pa_nil (by walk_at "au")) (by walk_at "au")) (by walk_at "au"))) (by walk_at "au") (by walk_at "au")))
            (case b5 =>
              refine' pss_cons ?s6 ?b6
              (case s6 => exact (@ps_for _ _ _ _ _ _ _ _ PassesOwn.never rfl (@pi_seq _ (G.K) _ _ _ rfl (@pe_lst _ _ _ _ (@paC _ _ _ _ _ pe_int (@paC _ _ _ _ _ pe_int (@paC _ _ _ _ _ pe_int (@paC _ _ _ _ _ pe_int (@paC _ _ _ _ _ pe_int (@paC _ _ _ _ _ pe_int (@paC _ _ _ _ _ pe_int (@paC _ _ _ _ _ pe_int pa_nil (by walk_at "au")) (by walk_at "au")) (by walk_at "au")) (by walk_at "au")) (by walk_at "au")) (by walk_at "au")) (by walk_at "au")) (by walk_at "au")))) (pg_name (i := 8) sc_law.nd rfl (by first | exact Or.inl rfl | exact Or.inr rfl)) (@pss_one _ _ _ (@ps_set _ _ (7) _ _ _ _ sc_law.nd rfl (by first | exact Or.inl rfl | exact Or.inr rfl) (@pe_op _ _ _ _ _ _ _ _ (opAddA (K := G.K) rfl) (pv 7) (@pe_lst _ _ _ _ (@paC _ _ _ _ _ (@peF _ _ _ _ _ _ _ _ _ _ D__law_with (hr.mono (by decide)) (by rfl) (@paC _ _ _ _ _ (pv 5) (@paC _ _ _ _ _ (pv 8) (@paC _ _ _ _ _ pe_int pa_nil (by walk_at "au")) (by walk_at "au")) (by walk_at "au")) (by decide) (by walk_at "au")) (@paC _ _ _ _ _ (@peF _ _ _ _ _ _ _ _ _ _ D__law_with (hr.mono (by decide)) (by rfl) (@paC _ _ _ _ _ (pv 5) (@paC _ _ _ _ _ (pv 8) (@paC _ _ _ _ _ (@peF _ _ _ _ _ _ _ _ _ _ D__law_most_of (hr.mono (by decide)) (by rfl) (@paC _ _ _ _ _ (pv 8) pa_nil (by walk_at "au")) (by decide) (by walk_at "au")) pa_nil (by walk_at "au")) (by walk_at "au")) (by walk_at "au")) (by decide) (by walk_at "au")) pa_nil (by walk_at "au")) (by walk_at "au")))) (by walk_at "au") (by walk_at "au"))) (by walk_at "au")))
              (case b6 =>
                refine' pss_cons ?s7 ?b7
                (case s7 => exact (@ps_if _ _ _ _ _ _ _ _ (@pt_cmpR _ _ _ _ _ _ _ _ (opNeA (K := G.K) rfl hr.units) (@pe_lc _ _ _ _ _ _ ([("_law_one", 9)]) _ _ _ _ _ rfl sc_law.nd (@pi_seq _ (G.K) _ _ _ rfl (pv 7)) (blkOk_by (own := [("_law_one", 9)]) (N := n_law) (sc := defScope s_law) (by decide +kernel)) (fun _ _ _ _ _ => (pg_name (i := 9) sc_law.nd rfl (by first | exact Or.inl rfl | exact Or.inr rfl))) (fun _ _ _ _ _ => (@pts_one _ _ _ (@pt_cmpR _ _ _ _ _ _ _ _ opIsNotA (@peF _ _ _ _ _ _ _ _ _ _ D_is_state (hr.mono (by decide)) (by rfl) (@paC _ _ _ _ _ (pv 2) (@paC _ _ _ _ _ (pv 9) pa_nil (by walk_at "au")) (by walk_at "au")) (by decide) (by walk_at "au")) pe_bl (nomark _)))) (fun _ _ _ _ _ => (pv 9)) (by walk_at "au")) (@pe_lst _ _ _ _ pa_nil) (nomark _)) (@pss_one _ _ _ (@ps_ret _ _ _ _ pe_bl)) pss_nil))
                (case b7 =>
                  refine' pss_cons ?s8 ?b8
                  (case s8 => exact (@ps_set _ _ (10) _ _ _ _ sc_law.nd rfl (by first | exact Or.inl rfl | exact Or.inr rfl) (@pe_op _ _ _ _ _ _ _ _ (opAddA (K := G.K) rfl) (@pe_lc _ _ _ _ _ _ ([("_law_beat", 11)]) _ _ _ _ _ rfl sc_law.nd (@pi_seq _ (G.K) _ _ _ rfl (@pe_lst _ _ _ _ (@paC _ _ _ _ _ pe_int (@paC _ _ _ _ _ pe_int (@paC _ _ _ _ _ pe_int (@paC _ _ _ _ _ pe_int pa_nil (by walk_at "au")) (by walk_at "au")) (by walk_at "au")) (by walk_at "au")))) (blkOk_by (own := [("_law_beat", 11)]) (N := n_law) (sc := defScope s_law) (by decide +kernel)) (fun _ _ _ _ _ => (pg_name (i := 11) sc_law.nd rfl (by first | exact Or.inl rfl | exact Or.inr rfl))) (fun _ _ _ _ _ => pts_nil) (fun _ _ _ _ _ => (@peF _ _ _ _ _ _ _ _ _ _ D__law_with (hr.mono (by decide)) (by rfl) (@paC _ _ _ _ _ (pv 6) (@paC _ _ _ _ _ pe_int (@paC _ _ _ _ _ (pv 11) pa_nil (by walk_at "au")) (by walk_at "au")) (by walk_at "au")) (by decide) (by walk_at "au"))) (by walk_at "au")) (@pe_lst _ _ _ _ (@paC _ _ _ _ _ (@peF _ _ _ _ _ _ _ _ _ _ D__law_with (hr.mono (by decide)) (by rfl) (@paC _ _ _ _ _ (pv 6) (@paC _ _ _ _ _ pe_int (@paC _ _ _ _ _ pe_int pa_nil (by walk_at "au")) (by walk_at "au")) (by walk_at "au")) (by decide) (by walk_at "au")) pa_nil (by walk_at "au")))) (by walk_at "au") (by walk_at "au")))
                  (case b8 =>
                    refine' pss_cons ?s9 ?b9
                    (case s9 => exact (@ps_for _ _ _ _ _ _ _ _ PassesOwn.never rfl (@piR1 _ _ _ _ _ _ (by rfl) T.b_range (@paC _ _ _ _ _ (pv 4) pa_nil (by walk_at "au")) (by walk_at "au")) (pg_name (i := 12) sc_law.nd rfl (by first | exact Or.inl rfl | exact Or.inr rfl)) (@pss_one _ _ _ (@ps_if _ _ _ _ _ _ _ _ (@PW.pt _ _ _ (@pw_or _ _ _ _ _ _ _ (@pt_cmpR _ _ _ _ _ _ _ _ (opEqA (K := G.K) rfl hr.units) (pv 12) pe_int (nomark _)) (@pw_or1 _ _ _ _ (@pt_cmpR _ _ _ _ _ _ _ _ (opNeA (K := G.K) rfl hr.units) (@pe_ix _ _ _ _ _ _ _ (ixA (K := G.K) rfl) (@pe_ix _ _ _ _ _ _ _ (ixA (K := G.K) rfl) (pv 2) (@pe_op _ _ _ _ _ _ _ _ op_sub (pv 12) pe_int) (fun _ _ => rfl)) pe_int (fun _ _ => rfl)) pe_str (nomark _))))) (@pss_one _ _ _ (@ps_expr _ _ _ _ (@peApp _ (G.K) _ _ _ _ _ _ _ rfl (pv 10) (@paC _ _ _ _ _ (@peF _ _ _ _ _ _ _ _ _ _ D__law_with (hr.mono (by decide)) (by rfl) (@paC _ _ _ _ _ (pv 6) (@paC _ _ _ _ _ pe_int (@paC _ _ _ _ _ (pv 12) pa_nil (by walk_at "au")) (by walk_at "au")) (by walk_at "au")) (by decide) (by walk_at "au")) pa_nil (by walk_at "au")) (by walk_at "au") (by walk_at "au") (by walk_at "au") (by walk_at "au")) (by walk_at "au"))) pss_nil)) (by walk_at "au")))
                    (case b9 =>
                      refine' pss_cons ?s10 ?b10
                      (case s10 => exact (@ps_set _ _ (10) _ _ _ _ sc_law.nd rfl (by first | exact Or.inl rfl | exact Or.inr rfl) (@pe_op _ _ _ _ _ _ _ _ (opAddA (K := G.K) rfl) (pv 10) (@peF _ _ _ _ _ _ _ _ _ _ D__law_none (hr.mono (by decide)) (by rfl) (@paC _ _ _ _ _ (pv 1) (@paC _ _ _ _ _ (pv 2) (@paC _ _ _ _ _ (pv 5) (@paC _ _ _ _ _ (pv 4) pa_nil (by walk_at "au")) (by walk_at "au")) (by walk_at "au")) (by walk_at "au")) (by decide) (by walk_at "au"))) (by walk_at "au") (by walk_at "au")))
                      (case b10 =>
                        refine' pss_cons ?s11 ?b11
                        (case s11 => exact (@ps_if _ _ _ _ _ _ _ _ (@pt_cmpR _ _ _ _ _ _ _ _ (opNeA (K := G.K) rfl hr.units) (@pe_lc _ _ _ _ _ _ ([("_law_one", 9)]) _ _ _ _ _ rfl sc_law.nd (@pi_seq _ (G.K) _ _ _ rfl (pv 10)) (blkOk_by (own := [("_law_one", 9)]) (N := n_law) (sc := defScope s_law) (by decide +kernel)) (fun _ _ _ _ _ => (pg_name (i := 9) sc_law.nd rfl (by first | exact Or.inl rfl | exact Or.inr rfl))) (fun _ _ _ _ _ => (@pts_one _ _ _ (@pt_cmpR _ _ _ _ _ _ _ _ opIsNotA (@peF _ _ _ _ _ _ _ _ _ _ D_is_state (hr.mono (by decide)) (by rfl) (@paC _ _ _ _ _ (pv 2) (@paC _ _ _ _ _ (pv 9) pa_nil (by walk_at "au")) (by walk_at "au")) (by decide) (by walk_at "au")) pe_bl (nomark _)))) (fun _ _ _ _ _ => (pv 9)) (by walk_at "au")) (@pe_lst _ _ _ _ pa_nil) (nomark _)) (@pss_one _ _ _ (@ps_ret _ _ _ _ pe_bl)) pss_nil))
                        (case b11 =>
                          refine' pss_one ?s12
                          (case s12 => exact (@ps_ret _ _ _ _ (@pe_cmpR _ _ _ _ _ _ _ _ (opEqA (K := G.K) rfl hr.units) (@peF _ _ _ _ _ _ _ _ _ _ D_start (hr.mono (by decide)) (by rfl) (@paC _ _ _ _ _ (pv 2) pa_nil (by walk_at "au")) (by decide) (by walk_at "au")) (@pe_tup _ _ _ _ _ (@paC _ _ _ _ _ pe_int (@paC _ _ _ _ _ pe_int (@paC _ _ _ _ _ pe_int (@paC _ _ _ _ _ pe_int (@paC _ _ _ _ _ pe_int (@paC _ _ _ _ _ (@pe_op _ _ _ _ _ _ _ _ (opRepT (K := G.K) rfl) (@pe_tup _ _ _ _ _ (@paC _ _ _ _ _ pe_int pa_nil (by walk_at "au"))) pe_int) (@paC _ _ _ _ _ (@pe_op _ _ _ _ _ _ _ _ (opRepT (K := G.K) rfl) (@pe_tup _ _ _ _ _ (@paC _ _ _ _ _ pe_int pa_nil (by walk_at "au"))) pe_int) (@paC _ _ _ _ _ pe_int (@paC _ _ _ _ _ pe_int (@paC _ _ _ _ _ pe_int (@paC _ _ _ _ _ pe_int (@paC _ _ _ _ _ pe_int pa_nil (by walk_at "au")) (by walk_at "au")) (by walk_at "au")) (by walk_at "au")) (by walk_at "au")) (by walk_at "au")) (by walk_at "au")) (by walk_at "au")) (by walk_at "au")) (by walk_at "au")) (by walk_at "au")) (by walk_at "au"))) (nomark _))))))))))))))))
  (case rd =>
    refine body_of (N := n_law) (ms := K32.b_p_law) ?_ h
    refine ss_seq (ss_asg (se_call (sa_cons se_var (sa_cons (se_c (fun _ _ => rfl)) sa_nil))) (SG.any (sg_name (vs := [1]) (by decide)))) ?_
    refine ss_seq (ss_asg (se_call (sa_cons se_var sa_nil)) (SG.any (sg_tup (sgs_cons (sg_name (vs := [2, 3, 4]) (by decide)) (sgs_cons (sg_name (vs := [2, 3, 4]) (by decide)) (sgs_cons (sg_name (vs := [2, 3, 4]) (by decide)) sgs_nil)))))) ?_
    refine ss_seq (ss_asg (se_call (sa_cons se_var (sa_cons (se_op s2_mod (se_call (sa_cons se_var sa_nil)) se_var) sa_nil))) (SG.any (sg_name (vs := [5]) (by decide)))) ?_
    refine ss_seq (ss_asg (se_op s2_add (se_op s2_add (se_tup (sa_cons se_var sa_nil)) (se_sl se_var (so_some (se_c (fun _ _ => rfl))) (so_some (se_c (fun _ _ => rfl))))) (se_tup (sa_cons (se_c (fun _ _ => rfl)) (sa_cons (se_c (fun _ _ => rfl)) (sa_cons (se_c (fun _ _ => rfl)) sa_nil))))) (SG.any (sg_name (vs := [6]) (by decide)))) ?_
    refine ss_seq (ss_asg (se_lst (sa_cons se_var (sa_cons se_var (sa_cons (se_call (sa_cons se_var sa_nil)) sa_nil)))) (SG.any (sg_name (vs := [7]) (by decide)))) ?_
    refine ss_seq (ss_for (si_seq (se_lst (sa_cons (se_c (fun _ _ => rfl)) (sa_cons (se_c (fun _ _ => rfl)) (sa_cons (se_c (fun _ _ => rfl)) (sa_cons (se_c (fun _ _ => rfl)) (sa_cons (se_c (fun _ _ => rfl)) (sa_cons (se_c (fun _ _ => rfl)) (sa_cons (se_c (fun _ _ => rfl)) (sa_cons (se_c (fun _ _ => rfl)) sa_nil)))))))))) (SG.any (sg_name (vs := [8]) (by decide))) (ss_asg (se_op s2_add se_var (se_lst (sa_cons (se_call (sa_cons se_var (sa_cons se_var (sa_cons (se_c (fun _ _ => rfl)) sa_nil)))) (sa_cons (se_call (sa_cons se_var (sa_cons se_var (sa_cons (se_call (sa_cons se_var sa_nil)) sa_nil)))) sa_nil)))) (SG.any (sg_name (vs := [7]) (by decide))))) ?_
    refine ss_seq (ss_if (st_test (se_op s2_ne (se_lc (si_seq se_var) (sg_name (vs := [9]) (by decide)) (st_test (se_op s2_isNot (se_call (sa_cons se_var (sa_cons se_var sa_nil))) (se_c (fun _ _ => rfl)))) se_var) (se_lst sa_nil))) (ss_ret (se_c (fun _ _ => rfl))) ss_next) ?_
    refine ss_seq (ss_asg (se_op s2_add (se_lc (si_seq (se_lst (sa_cons (se_c (fun _ _ => rfl)) (sa_cons (se_c (fun _ _ => rfl)) (sa_cons (se_c (fun _ _ => rfl)) (sa_cons (se_c (fun _ _ => rfl)) sa_nil)))))) (sg_name (vs := [11]) (by decide)) st_yes (se_call (sa_cons se_var (sa_cons (se_c (fun _ _ => rfl)) (sa_cons se_var sa_nil))))) (se_lst (sa_cons (se_call (sa_cons se_var (sa_cons (se_c (fun _ _ => rfl)) (sa_cons (se_c (fun _ _ => rfl)) sa_nil)))) sa_nil))) (SG.any (sg_name (vs := [10]) (by decide)))) ?_
    refine ss_seq (ss_for (si_r1 (sa_cons se_var sa_nil)) (SG.any (sg_name (vs := [12]) (by decide))) (ss_if (st_or (st_test (se_op s2_eq se_var (se_c (fun _ _ => rfl)))) (st_test (se_op s2_ne (se_op s2_ix (se_op s2_ix se_var (se_op s2_sub se_var (se_c (fun _ _ => rfl)))) (se_c (fun _ _ => rfl))) (se_c (fun _ _ => rfl))))) (ss_drop (se_bm sm_append se_var (sa_cons (se_call (sa_cons se_var (sa_cons (se_c (fun _ _ => rfl)) (sa_cons se_var sa_nil)))) sa_nil))) ss_next)) ?_
    refine ss_seq (ss_asg (se_op s2_add se_var (se_call (sa_cons se_var (sa_cons se_var (sa_cons se_var (sa_cons se_var sa_nil)))))) (SG.any (sg_name (vs := [10]) (by decide)))) ?_
    refine ss_seq (ss_if (st_test (se_op s2_ne (se_lc (si_seq se_var) (sg_name (vs := [9]) (by decide)) (st_test (se_op s2_isNot (se_call (sa_cons se_var (sa_cons se_var sa_nil))) (se_c (fun _ _ => rfl)))) se_var) (se_lst sa_nil))) (ss_ret (se_c (fun _ _ => rfl))) ss_next) ?_
    exact (ss_ret (se_op s2_eq (se_call (sa_cons se_var sa_nil)) (se_tup (sa_cons (se_c (fun _ _ => rfl)) (sa_cons (se_c (fun _ _ => rfl)) (sa_cons (se_c (fun _ _ => rfl)) (sa_cons (se_c (fun _ _ => rfl)) (sa_cons (se_c (fun _ _ => rfl)) (sa_cons (se_op s2_mulT (se_tup (sa_cons (se_c (fun _ _ => rfl)) sa_nil)) (se_c (fun _ _ => rfl))) (sa_cons (se_op s2_mulT (se_tup (sa_cons (se_c (fun _ _ => rfl)) sa_nil)) (se_c (fun _ _ => rfl))) (sa_cons (se_c (fun _ _ => rfl)) (sa_cons (se_c (fun _ _ => rfl)) (sa_cons (se_c (fun _ _ => rfl)) (sa_cons (se_c (fun _ _ => rfl)) (sa_cons (se_c (fun _ _ => rfl)) sa_nil))))))))))))))))

end
end K32

namespace K32
open PySem PySem.Spec L2 My Pu
theorem txt_mk {K : PySem.W.Frag} {h : Heap} {mg : Str → Option Value} (X : K.In h) (G : h.Ns mainGlobals mg)
    {t1 : Tok} {a3 : Addr} {k6 : Tok} {h7 : Int} {k8 : Tok} {h9 : Int} {k10 : Tok} {h11 : Int} {k12 : Tok} {h13 : Int} {k14 : Tok} {h15 : Int} {k16 : Tok} {h17 : Int} {k18 : Tok} {h19 : Int} {k20 : Tok} {h21 : Int} {k22 : Tok} {h23 : Int} {k24 : Tok} {h25 : Int} {k26 : Tok} {h27 : Int} {k28 : Tok} {h29 : Int} {k30 : Tok} {h31 : Int} {k32 : Tok} {h33 : Int} {k34 : Tok} {h35 : Int} {k36 : Tok} {h37 : Int} {k38 : Tok} {h39 : Int} {k40 : Tok} {h41 : Int} {k42 : Tok} {h43 : Int} {k44 : Tok} {h45 : Int} {k46 : Tok} {h47 : Int} {k48 : Tok} {h49 : Int} {k50 : Tok} {h51 : Int} {k52 : Tok} {h53 : Int} {k54 : Tok} {h55 : Int} {k56 : Tok} {h57 : Int} {k58 : Tok} {h59 : Int} {k60 : Tok} {h61 : Int} {k62 : Tok} {h63 : Int} {k64 : Tok} {h65 : Int} {k66 : Tok} {h67 : Int} {a68 : Addr} {t69 : Tok} {t70 : Tok} {od71 : Option Addr} {n72 : Nat} {sl73 : Array (Option Value)} {a75 : Addr} {t76 : Tok} {t77 : Tok} {od78 : Option Addr} {n79 : Nat} {sl80 : Array (Option Value)} {a82 : Addr} {t83 : Tok} {t84 : Tok} {od85 : Option Addr} {n86 : Nat} {sl87 : Array (Option Value)} {a89 : Addr} {t90 : Tok} {t91 : Tok} {od92 : Option Addr} {n93 : Nat} {sl94 : Array (Option Value)} {a96 : Addr} {t97 : Tok} {t98 : Tok} {od99 : Option Addr} {n100 : Nat} {sl101 : Array (Option Value)} {a103 : Addr} {t104 : Tok} {t105 : Tok} {od106 : Option Addr} {n107 : Nat} {sl108 : Array (Option Value)} {a110 : Addr} {t111 : Tok} {t112 : Tok} {od113 : Option Addr} {n114 : Nat} {sl115 : Array (Option Value)} {a117 : Addr} {t118 : Tok} {t119 : Tok} {od120 : Option Addr} {n121 : Nat} {sl122 : Array (Option Value)} {a124 : Addr} {t125 : Tok} {t126 : Tok} {od127 : Option Addr} {n128 : Nat} {sl129 : Array (Option Value)} {a131 : Addr} {t132 : Tok} {t133 : Tok} {od134 : Option Addr} {n135 : Nat} {sl136 : Array (Option Value)} {a138 : Addr} {t139 : Tok} {t140 : Tok} {od141 : Option Addr} {n142 : Nat} {sl143 : Array (Option Value)} {a145 : Addr} {t146 : Tok} {t147 : Tok} {od148 : Option Addr} {n149 : Nat} {sl150 : Array (Option Value)} {a152 : Addr} {t153 : Tok} {t154 : Tok} {od155 : Option Addr} {n156 : Nat} {sl157 : Array (Option Value)} {a159 : Addr} {t160 : Tok} {t161 : Tok} {od162 : Option Addr} {n163 : Nat} {sl164 : Array (Option Value)} {a166 : Addr} {t167 : Tok} {t168 : Tok} {od169 : Option Addr} {n170 : Nat} {sl171 : Array (Option Value)} {a173 : Addr} {t174 : Tok} {t175 : Tok} {od176 : Option Addr} {n177 : Nat} {sl178 : Array (Option Value)} {a180 : Addr} {t181 : Tok} {t182 : Tok} {od183 : Option Addr} {n184 : Nat} {sl185 : Array (Option Value)} {a187 : Addr} {t188 : Tok} {t189 : Tok} {od190 : Option Addr} {n191 : Nat} {sl192 : Array (Option Value)} {a194 : Addr} {t195 : Tok} {t196 : Tok} {od197 : Option Addr} {n198 : Nat} {sl199 : Array (Option Value)} {a201 : Addr} {t202 : Tok} {t203 : Tok} {od204 : Option Addr} {n205 : Nat} {sl206 : Array (Option Value)} {a208 : Addr} {t209 : Tok} {t210 : Tok} {od211 : Option Addr} {n212 : Nat} {sl213 : Array (Option Value)} {a215 : Addr} {t216 : Tok} {t217 : Tok} {od218 : Option Addr} {n219 : Nat} {sl220 : Array (Option Value)} {a222 : Addr} {t223 : Tok} {t224 : Tok} {od225 : Option Addr} {n226 : Nat} {sl227 : Array (Option Value)} {a229 : Addr} {t230 : Tok} {t231 : Tok} {od232 : Option Addr} {n233 : Nat} {sl234 : Array (Option Value)} {a236 : Addr} {t237 : Tok} {t238 : Tok} {od239 : Option Addr} {n240 : Nat} {sl241 : Array (Option Value)} {a243 : Addr} {t244 : Tok} {t245 : Tok} {od246 : Option Addr} {n247 : Nat} {sl248 : Array (Option Value)} {a250 : Addr} {t251 : Tok} {t252 : Tok} {od253 : Option Addr} {n254 : Nat} {sl255 : Array (Option Value)} {a257 : Addr} {t258 : Tok} {t259 : Tok} {od260 : Option Addr} {n261 : Nat} {sl262 : Array (Option Value)} {a264 : Addr} {t265 : Tok} {t266 : Tok} {od267 : Option Addr} {n268 : Nat} {sl269 : Array (Option Value)} {a271 : Addr} {t272 : Tok} {t273 : Tok} {od274 : Option Addr} {n275 : Nat} {sl276 : Array (Option Value)} {a278 : Addr} {t279 : Tok} {t280 : Tok} {od281 : Option Addr} {n282 : Nat} {sl283 : Array (Option Value)} {ep286 : Nat} {t287 : Tok} {t289 : Tok} {t291 : Tok} {t293 : Tok} {t295 : Tok}
    (e2 : PySem.W.nsIn K mainGlobals "MOST_OF_A_BYTE" = some (some (.int 255 t1)))
    (e4 : PySem.W.nsIn K mainGlobals "DEEDS" = some (some (.ref a3)))
    (s5 : (a3 == sysModules) = false)
    (l285 : K.lookup a3 = some ⟨.type "dict", none, .dict #[⟨h7, .str "set" k6, .ref a68⟩, ⟨h9, .str "test" k8, .ref a75⟩, ⟨h11, .str "setx" k10, .ref a82⟩, ⟨h13, .str "get" k12, .ref a89⟩, ⟨h15, .str "put" k14, .ref a96⟩, ⟨h17, .str "add" k16, .ref a103⟩, ⟨h19, .str "sub" k18, .ref a110⟩, ⟨h21, .str "mask" k20, .ref a117⟩, ⟨h23, .str "flip" k22, .ref a124⟩, ⟨h25, .str "getx" k24, .ref a131⟩, ⟨h27, .str "putx" k26, .ref a138⟩, ⟨h29, .str "lay" k28, .ref a145⟩, ⟨h31, .str "take" k30, .ref a152⟩, ⟨h33, .str "half" k32, .ref a159⟩, ⟨h35, .str "twice" k34, .ref a166⟩, ⟨h37, .str "up" k36, .ref a173⟩, ⟨h39, .str "down" k38, .ref a180⟩, ⟨h41, .str "tox" k40, .ref a187⟩, ⟨h43, .str "toa" k42, .ref a194⟩, ⟨h45, .str "rest" k44, .ref a201⟩, ⟨h47, .str "idle" k46, .ref a208⟩, ⟨h49, .str "wait" k48, .ref a215⟩, ⟨h51, .str "go" k50, .ref a222⟩, ⟨h53, .str "ifz" k52, .ref a229⟩, ⟨h55, .str "ifn" k54, .ref a236⟩, ⟨h57, .str "ifc" k56, .ref a243⟩, ⟨h59, .str "ifd" k58, .ref a250⟩, ⟨h61, .str "at" k60, .ref a257⟩, ⟨h63, .str "door" k62, .ref a264⟩, ⟨h65, .str "eye" k64, .ref a271⟩, ⟨h67, .str "data" k66, .ref a278⟩] ep286, #[]⟩)
    (l74 : K.lookup a68 = some ⟨.type "tuple", od71, .seq #[.str "byte" t69, .int 2 t70] n72, sl73⟩)
    (l81 : K.lookup a75 = some ⟨.type "tuple", od78, .seq #[.str "byte" t76, .int 2 t77] n79, sl80⟩)
    (l88 : K.lookup a82 = some ⟨.type "tuple", od85, .seq #[.str "byte" t83, .int 2 t84] n86, sl87⟩)
    (l95 : K.lookup a89 = some ⟨.type "tuple", od92, .seq #[.str "memory" t90, .int 3 t91] n93, sl94⟩)
    (l102 : K.lookup a96 = some ⟨.type "tuple", od99, .seq #[.str "memory" t97, .int 3 t98] n100, sl101⟩)
    (l109 : K.lookup a103 = some ⟨.type "tuple", od106, .seq #[.str "memory" t104, .int 3 t105] n107, sl108⟩)
    (l116 : K.lookup a110 = some ⟨.type "tuple", od113, .seq #[.str "memory" t111, .int 3 t112] n114, sl115⟩)
    (l123 : K.lookup a117 = some ⟨.type "tuple", od120, .seq #[.str "memory" t118, .int 3 t119] n121, sl122⟩)
    (l130 : K.lookup a124 = some ⟨.type "tuple", od127, .seq #[.str "memory" t125, .int 3 t126] n128, sl129⟩)
    (l137 : K.lookup a131 = some ⟨.type "tuple", od134, .seq #[.str "memory" t132, .int 3 t133] n135, sl136⟩)
    (l144 : K.lookup a138 = some ⟨.type "tuple", od141, .seq #[.str "memory" t139, .int 3 t140] n142, sl143⟩)
    (l151 : K.lookup a145 = some ⟨.type "tuple", od148, .seq #[.str "memory" t146, .int 4 t147] n149, sl150⟩)
    (l158 : K.lookup a152 = some ⟨.type "tuple", od155, .seq #[.str "memory" t153, .int 4 t154] n156, sl157⟩)
    (l165 : K.lookup a159 = some ⟨.type "tuple", od162, .seq #[.str "plain" t160, .int 2 t161] n163, sl164⟩)
    (l172 : K.lookup a166 = some ⟨.type "tuple", od169, .seq #[.str "plain" t167, .int 2 t168] n170, sl171⟩)
    (l179 : K.lookup a173 = some ⟨.type "tuple", od176, .seq #[.str "plain" t174, .int 2 t175] n177, sl178⟩)
    (l186 : K.lookup a180 = some ⟨.type "tuple", od183, .seq #[.str "plain" t181, .int 2 t182] n184, sl185⟩)
    (l193 : K.lookup a187 = some ⟨.type "tuple", od190, .seq #[.str "plain" t188, .int 2 t189] n191, sl192⟩)
    (l200 : K.lookup a194 = some ⟨.type "tuple", od197, .seq #[.str "plain" t195, .int 2 t196] n198, sl199⟩)
    (l207 : K.lookup a201 = some ⟨.type "tuple", od204, .seq #[.str "plain" t202, .int 2 t203] n205, sl206⟩)
    (l214 : K.lookup a208 = some ⟨.type "tuple", od211, .seq #[.str "plain" t209, .int 3 t210] n212, sl213⟩)
    (l221 : K.lookup a215 = some ⟨.type "tuple", od218, .seq #[.str "plain" t216, .int 2 t217] n219, sl220⟩)
    (l228 : K.lookup a222 = some ⟨.type "tuple", od225, .seq #[.str "mark" t223, .int 3 t224] n226, sl227⟩)
    (l235 : K.lookup a229 = some ⟨.type "tuple", od232, .seq #[.str "mark" t230, .int 2 t231] n233, sl234⟩)
    (l242 : K.lookup a236 = some ⟨.type "tuple", od239, .seq #[.str "mark" t237, .int 2 t238] n240, sl241⟩)
    (l249 : K.lookup a243 = some ⟨.type "tuple", od246, .seq #[.str "mark" t244, .int 2 t245] n247, sl248⟩)
    (l256 : K.lookup a250 = some ⟨.type "tuple", od253, .seq #[.str "mark" t251, .int 2 t252] n254, sl255⟩)
    (l263 : K.lookup a257 = some ⟨.type "tuple", od260, .seq #[.str "mark" t258, .int 4 t259] n261, sl262⟩)
    (l270 : K.lookup a264 = some ⟨.type "tuple", od267, .seq #[.str "door" t265, .int 3 t266] n268, sl269⟩)
    (l277 : K.lookup a271 = some ⟨.type "tuple", od274, .seq #[.str "eye" t272, .int 3 t273] n275, sl276⟩)
    (l284 : K.lookup a278 = some ⟨.type "tuple", od281, .seq #[.str "table" t279, .int 0 t280] n282, sl283⟩)
    (e288 : PySem.W.nsIn K mainGlobals "DOOR_COUNT" = some (some (.int 20 t287)))
    (e290 : PySem.W.nsIn K mainGlobals "MEMORY_SIZE" = some (some (.int 16 t289)))
    (e292 : PySem.W.nsIn K mainGlobals "MOST_MEETINGS" = some (some (.int 63 t291)))
    (e294 : PySem.W.nsIn K mainGlobals "MOST_TIMER" = some (some (.int 4080 t293)))
    (e296 : PySem.W.nsIn K mainGlobals "MOST_BEAT" = some (some (.int 4 t295)))
    (e297 : PySem.W.nsIn K mainGlobals "all" = some none)
    (e298 : PySem.W.nsIn K mainGlobals "bool" = some none)
    (e299 : PySem.W.nsIn K mainGlobals "int" = some none)
    (e300 : PySem.W.nsIn K mainGlobals "isinstance" = some none)
    (e301 : PySem.W.nsIn K mainGlobals "len" = some none)
    (e302 : PySem.W.nsIn K mainGlobals "list" = some none)
    (e303 : PySem.W.nsIn K mainGlobals "range" = some none)
    (e304 : PySem.W.nsIn K mainGlobals "reversed" = some none)
    (e305 : PySem.W.nsIn K mainGlobals "tuple" = some none) : Txt ⟨K, mg, (tabsIn K ["are_bytes", "is_state"]).map (·.2)⟩ :=
  ⟨⟨_, PySem.W.mg_of X G e2⟩,
   ⟨_, PySem.W.mg_of X G e4, tab_of (DV := [("set", V.ref a68), ("test", V.ref a75), ("setx", V.ref a82), ("get", V.ref a89), ("put", V.ref a96), ("add", V.ref a103), ("sub", V.ref a110), ("mask", V.ref a117), ("flip", V.ref a124), ("getx", V.ref a131), ("putx", V.ref a138), ("lay", V.ref a145), ("take", V.ref a152), ("half", V.ref a159), ("twice", V.ref a166), ("up", V.ref a173), ("down", V.ref a180), ("tox", V.ref a187), ("toa", V.ref a194), ("rest", V.ref a201), ("idle", V.ref a208), ("wait", V.ref a215), ("go", V.ref a222), ("ifz", V.ref a229), ("ifn", V.ref a236), ("ifc", V.ref a243), ("ifd", V.ref a250), ("at", V.ref a257), ("door", V.ref a264), ("eye", V.ref a271), ("data", V.ref a278)]) ⟨s5, _, _, _, l285, ⟨rfl, rfl, rfl⟩, rfl, .cons rfl rfl (.cons rfl rfl (.cons rfl rfl (.cons rfl rfl (.cons rfl rfl (.cons rfl rfl (.cons rfl rfl (.cons rfl rfl (.cons rfl rfl (.cons rfl rfl (.cons rfl rfl (.cons rfl rfl (.cons rfl rfl (.cons rfl rfl (.cons rfl rfl (.cons rfl rfl (.cons rfl rfl (.cons rfl rfl (.cons rfl rfl (.cons rfl rfl (.cons rfl rfl (.cons rfl rfl (.cons rfl rfl (.cons rfl rfl (.cons rfl rfl (.cons rfl rfl (.cons rfl rfl (.cons rfl rfl (.cons rfl rfl (.cons rfl rfl (.cons rfl rfl (.nil)))))))))))))))))))))))))))))))⟩ (.cons ⟨rfl, fun ι H => ⟨a68, [V.str "byte", V.int 2], rfl, tup_mod (oc := .none) (xs := [V.str "byte", V.int 2]) (its := [.str "byte" t69, .int 2 t70]) l74 (by simp) (.cons ⟨_, rfl⟩ (.cons ⟨_, rfl⟩ (.nil))) _, ⟨_, _, rfl, rfl, ⟨_, _, rfl, rfl, rfl⟩⟩⟩⟩ (.cons ⟨rfl, fun ι H => ⟨a75, [V.str "byte", V.int 2], rfl, tup_mod (oc := .none) (xs := [V.str "byte", V.int 2]) (its := [.str "byte" t76, .int 2 t77]) l81 (by simp) (.cons ⟨_, rfl⟩ (.cons ⟨_, rfl⟩ (.nil))) _, ⟨_, _, rfl, rfl, ⟨_, _, rfl, rfl, rfl⟩⟩⟩⟩ (.cons ⟨rfl, fun ι H => ⟨a82, [V.str "byte", V.int 2], rfl, tup_mod (oc := .none) (xs := [V.str "byte", V.int 2]) (its := [.str "byte" t83, .int 2 t84]) l88 (by simp) (.cons ⟨_, rfl⟩ (.cons ⟨_, rfl⟩ (.nil))) _, ⟨_, _, rfl, rfl, ⟨_, _, rfl, rfl, rfl⟩⟩⟩⟩ (.cons ⟨rfl, fun ι H => ⟨a89, [V.str "memory", V.int 3], rfl, tup_mod (oc := .none) (xs := [V.str "memory", V.int 3]) (its := [.str "memory" t90, .int 3 t91]) l95 (by simp) (.cons ⟨_, rfl⟩ (.cons ⟨_, rfl⟩ (.nil))) _, ⟨_, _, rfl, rfl, ⟨_, _, rfl, rfl, rfl⟩⟩⟩⟩ (.cons ⟨rfl, fun ι H => ⟨a96, [V.str "memory", V.int 3], rfl, tup_mod (oc := .none) (xs := [V.str "memory", V.int 3]) (its := [.str "memory" t97, .int 3 t98]) l102 (by simp) (.cons ⟨_, rfl⟩ (.cons ⟨_, rfl⟩ (.nil))) _, ⟨_, _, rfl, rfl, ⟨_, _, rfl, rfl, rfl⟩⟩⟩⟩ (.cons ⟨rfl, fun ι H => ⟨a103, [V.str "memory", V.int 3], rfl, tup_mod (oc := .none) (xs := [V.str "memory", V.int 3]) (its := [.str "memory" t104, .int 3 t105]) l109 (by simp) (.cons ⟨_, rfl⟩ (.cons ⟨_, rfl⟩ (.nil))) _, ⟨_, _, rfl, rfl, ⟨_, _, rfl, rfl, rfl⟩⟩⟩⟩ (.cons ⟨rfl, fun ι H => ⟨a110, [V.str "memory", V.int 3], rfl, tup_mod (oc := .none) (xs := [V.str "memory", V.int 3]) (its := [.str "memory" t111, .int 3 t112]) l116 (by simp) (.cons ⟨_, rfl⟩ (.cons ⟨_, rfl⟩ (.nil))) _, ⟨_, _, rfl, rfl, ⟨_, _, rfl, rfl, rfl⟩⟩⟩⟩ (.cons ⟨rfl, fun ι H => ⟨a117, [V.str "memory", V.int 3], rfl, tup_mod (oc := .none) (xs := [V.str "memory", V.int 3]) (its := [.str "memory" t118, .int 3 t119]) l123 (by simp) (.cons ⟨_, rfl⟩ (.cons ⟨_, rfl⟩ (.nil))) _, ⟨_, _, rfl, rfl, ⟨_, _, rfl, rfl, rfl⟩⟩⟩⟩ (.cons ⟨rfl, fun ι H => ⟨a124, [V.str "memory", V.int 3], rfl, tup_mod (oc := .none) (xs := [V.str "memory", V.int 3]) (its := [.str "memory" t125, .int 3 t126]) l130 (by simp) (.cons ⟨_, rfl⟩ (.cons ⟨_, rfl⟩ (.nil))) _, ⟨_, _, rfl, rfl, ⟨_, _, rfl, rfl, rfl⟩⟩⟩⟩ (.cons ⟨rfl, fun ι H => ⟨a131, [V.str "memory", V.int 3], rfl, tup_mod (oc := .none) (xs := [V.str "memory", V.int 3]) (its := [.str "memory" t132, .int 3 t133]) l137 (by simp) (.cons ⟨_, rfl⟩ (.cons ⟨_, rfl⟩ (.nil))) _, ⟨_, _, rfl, rfl, ⟨_, _, rfl, rfl, rfl⟩⟩⟩⟩ (.cons ⟨rfl, fun ι H => ⟨a138, [V.str "memory", V.int 3], rfl, tup_mod (oc := .none) (xs := [V.str "memory", V.int 3]) (its := [.str "memory" t139, .int 3 t140]) l144 (by simp) (.cons ⟨_, rfl⟩ (.cons ⟨_, rfl⟩ (.nil))) _, ⟨_, _, rfl, rfl, ⟨_, _, rfl, rfl, rfl⟩⟩⟩⟩ (.cons ⟨rfl, fun ι H => ⟨a145, [V.str "memory", V.int 4], rfl, tup_mod (oc := .none) (xs := [V.str "memory", V.int 4]) (its := [.str "memory" t146, .int 4 t147]) l151 (by simp) (.cons ⟨_, rfl⟩ (.cons ⟨_, rfl⟩ (.nil))) _, ⟨_, _, rfl, rfl, ⟨_, _, rfl, rfl, rfl⟩⟩⟩⟩ (.cons ⟨rfl, fun ι H => ⟨a152, [V.str "memory", V.int 4], rfl, tup_mod (oc := .none) (xs := [V.str "memory", V.int 4]) (its := [.str "memory" t153, .int 4 t154]) l158 (by simp) (.cons ⟨_, rfl⟩ (.cons ⟨_, rfl⟩ (.nil))) _, ⟨_, _, rfl, rfl, ⟨_, _, rfl, rfl, rfl⟩⟩⟩⟩ (.cons ⟨rfl, fun ι H => ⟨a159, [V.str "plain", V.int 2], rfl, tup_mod (oc := .none) (xs := [V.str "plain", V.int 2]) (its := [.str "plain" t160, .int 2 t161]) l165 (by simp) (.cons ⟨_, rfl⟩ (.cons ⟨_, rfl⟩ (.nil))) _, ⟨_, _, rfl, rfl, ⟨_, _, rfl, rfl, rfl⟩⟩⟩⟩ (.cons ⟨rfl, fun ι H => ⟨a166, [V.str "plain", V.int 2], rfl, tup_mod (oc := .none) (xs := [V.str "plain", V.int 2]) (its := [.str "plain" t167, .int 2 t168]) l172 (by simp) (.cons ⟨_, rfl⟩ (.cons ⟨_, rfl⟩ (.nil))) _, ⟨_, _, rfl, rfl, ⟨_, _, rfl, rfl, rfl⟩⟩⟩⟩ (.cons ⟨rfl, fun ι H => ⟨a173, [V.str "plain", V.int 2], rfl, tup_mod (oc := .none) (xs := [V.str "plain", V.int 2]) (its := [.str "plain" t174, .int 2 t175]) l179 (by simp) (.cons ⟨_, rfl⟩ (.cons ⟨_, rfl⟩ (.nil))) _, ⟨_, _, rfl, rfl, ⟨_, _, rfl, rfl, rfl⟩⟩⟩⟩ (.cons ⟨rfl, fun ι H => ⟨a180, [V.str "plain", V.int 2], rfl, tup_mod (oc := .none) (xs := [V.str "plain", V.int 2]) (its := [.str "plain" t181, .int 2 t182]) l186 (by simp) (.cons ⟨_, rfl⟩ (.cons ⟨_, rfl⟩ (.nil))) _, ⟨_, _, rfl, rfl, ⟨_, _, rfl, rfl, rfl⟩⟩⟩⟩ (.cons ⟨rfl, fun ι H => ⟨a187, [V.str "plain", V.int 2], rfl, tup_mod (oc := .none) (xs := [V.str "plain", V.int 2]) (its := [.str "plain" t188, .int 2 t189]) l193 (by simp) (.cons ⟨_, rfl⟩ (.cons ⟨_, rfl⟩ (.nil))) _, ⟨_, _, rfl, rfl, ⟨_, _, rfl, rfl, rfl⟩⟩⟩⟩ (.cons ⟨rfl, fun ι H => ⟨a194, [V.str "plain", V.int 2], rfl, tup_mod (oc := .none) (xs := [V.str "plain", V.int 2]) (its := [.str "plain" t195, .int 2 t196]) l200 (by simp) (.cons ⟨_, rfl⟩ (.cons ⟨_, rfl⟩ (.nil))) _, ⟨_, _, rfl, rfl, ⟨_, _, rfl, rfl, rfl⟩⟩⟩⟩ (.cons ⟨rfl, fun ι H => ⟨a201, [V.str "plain", V.int 2], rfl, tup_mod (oc := .none) (xs := [V.str "plain", V.int 2]) (its := [.str "plain" t202, .int 2 t203]) l207 (by simp) (.cons ⟨_, rfl⟩ (.cons ⟨_, rfl⟩ (.nil))) _, ⟨_, _, rfl, rfl, ⟨_, _, rfl, rfl, rfl⟩⟩⟩⟩ (.cons ⟨rfl, fun ι H => ⟨a208, [V.str "plain", V.int 3], rfl, tup_mod (oc := .none) (xs := [V.str "plain", V.int 3]) (its := [.str "plain" t209, .int 3 t210]) l214 (by simp) (.cons ⟨_, rfl⟩ (.cons ⟨_, rfl⟩ (.nil))) _, ⟨_, _, rfl, rfl, ⟨_, _, rfl, rfl, rfl⟩⟩⟩⟩ (.cons ⟨rfl, fun ι H => ⟨a215, [V.str "plain", V.int 2], rfl, tup_mod (oc := .none) (xs := [V.str "plain", V.int 2]) (its := [.str "plain" t216, .int 2 t217]) l221 (by simp) (.cons ⟨_, rfl⟩ (.cons ⟨_, rfl⟩ (.nil))) _, ⟨_, _, rfl, rfl, ⟨_, _, rfl, rfl, rfl⟩⟩⟩⟩ (.cons ⟨rfl, fun ι H => ⟨a222, [V.str "mark", V.int 3], rfl, tup_mod (oc := .none) (xs := [V.str "mark", V.int 3]) (its := [.str "mark" t223, .int 3 t224]) l228 (by simp) (.cons ⟨_, rfl⟩ (.cons ⟨_, rfl⟩ (.nil))) _, ⟨_, _, rfl, rfl, ⟨_, _, rfl, rfl, rfl⟩⟩⟩⟩ (.cons ⟨rfl, fun ι H => ⟨a229, [V.str "mark", V.int 2], rfl, tup_mod (oc := .none) (xs := [V.str "mark", V.int 2]) (its := [.str "mark" t230, .int 2 t231]) l235 (by simp) (.cons ⟨_, rfl⟩ (.cons ⟨_, rfl⟩ (.nil))) _, ⟨_, _, rfl, rfl, ⟨_, _, rfl, rfl, rfl⟩⟩⟩⟩ (.cons ⟨rfl, fun ι H => ⟨a236, [V.str "mark", V.int 2], rfl, tup_mod (oc := .none) (xs := [V.str "mark", V.int 2]) (its := [.str "mark" t237, .int 2 t238]) l242 (by simp) (.cons ⟨_, rfl⟩ (.cons ⟨_, rfl⟩ (.nil))) _, ⟨_, _, rfl, rfl, ⟨_, _, rfl, rfl, rfl⟩⟩⟩⟩ (.cons ⟨rfl, fun ι H => ⟨a243, [V.str "mark", V.int 2], rfl, tup_mod (oc := .none) (xs := [V.str "mark", V.int 2]) (its := [.str "mark" t244, .int 2 t245]) l249 (by simp) (.cons ⟨_, rfl⟩ (.cons ⟨_, rfl⟩ (.nil))) _, ⟨_, _, rfl, rfl, ⟨_, _, rfl, rfl, rfl⟩⟩⟩⟩ (.cons ⟨rfl, fun ι H => ⟨a250, [V.str "mark", V.int 2], rfl, tup_mod (oc := .none) (xs := [V.str "mark", V.int 2]) (its := [.str "mark" t251, .int 2 t252]) l256 (by simp) (.cons ⟨_, rfl⟩ (.cons ⟨_, rfl⟩ (.nil))) _, ⟨_, _, rfl, rfl, ⟨_, _, rfl, rfl, rfl⟩⟩⟩⟩ (.cons ⟨rfl, fun ι H => ⟨a257, [V.str "mark", V.int 4], rfl, tup_mod (oc := .none) (xs := [V.str "mark", V.int 4]) (its := [.str "mark" t258, .int 4 t259]) l263 (by simp) (.cons ⟨_, rfl⟩ (.cons ⟨_, rfl⟩ (.nil))) _, ⟨_, _, rfl, rfl, ⟨_, _, rfl, rfl, rfl⟩⟩⟩⟩ (.cons ⟨rfl, fun ι H => ⟨a264, [V.str "door", V.int 3], rfl, tup_mod (oc := .none) (xs := [V.str "door", V.int 3]) (its := [.str "door" t265, .int 3 t266]) l270 (by simp) (.cons ⟨_, rfl⟩ (.cons ⟨_, rfl⟩ (.nil))) _, ⟨_, _, rfl, rfl, ⟨_, _, rfl, rfl, rfl⟩⟩⟩⟩ (.cons ⟨rfl, fun ι H => ⟨a271, [V.str "eye", V.int 3], rfl, tup_mod (oc := .none) (xs := [V.str "eye", V.int 3]) (its := [.str "eye" t272, .int 3 t273]) l277 (by simp) (.cons ⟨_, rfl⟩ (.cons ⟨_, rfl⟩ (.nil))) _, ⟨_, _, rfl, rfl, ⟨_, _, rfl, rfl, rfl⟩⟩⟩⟩ (.cons ⟨rfl, fun ι H => ⟨a278, [V.str "table", V.int 0], rfl, tup_mod (oc := .none) (xs := [V.str "table", V.int 0]) (its := [.str "table" t279, .int 0 t280]) l284 (by simp) (.cons ⟨_, rfl⟩ (.cons ⟨_, rfl⟩ (.nil))) _, ⟨_, _, rfl, rfl, ⟨_, _, rfl, rfl, rfl⟩⟩⟩⟩ (.nil))))))))))))))))))))))))))))))))⟩,
   ⟨_, PySem.W.mg_of X G e288⟩,
   ⟨_, PySem.W.mg_of X G e290⟩,
   ⟨_, PySem.W.mg_of X G e292⟩,
   ⟨_, PySem.W.mg_of X G e294⟩,
   ⟨_, PySem.W.mg_of X G e296⟩,
   PySem.W.mg_none_of X G e297,
   PySem.W.mg_none_of X G e298,
   PySem.W.mg_none_of X G e299,
   PySem.W.mg_none_of X G e300,
   PySem.W.mg_none_of X G e301,
   PySem.W.mg_none_of X G e302,
   PySem.W.mg_none_of X G e303,
   PySem.W.mg_none_of X G e304,
   PySem.W.mg_none_of X G e305⟩
theorem tab_ex {K : PySem.W.Frag} {hh : Heap} (X : K.In hh) {x : Str} {f c P : Addr} {oc oc2 : Value} {od od2 : Option Addr} {fd : FuncData} {osl osl2 : Array (Option Value)} {vs : Array Value} (a : PySem.W.nsIn K mainGlobals x = some (some (.ref f))) (l : K.lookup f = some ⟨oc, od, .func fd, osl⟩) (hc : fd.code = .ref c)
    (lc : K.lookup c = some ⟨oc2, od2, .fields vs, osl2⟩) (h : vs[11]? = some (.ref P)) : ∃ c P, PySem.W.tabIn K x = some (c, P) := ⟨c, P, tab_mk a l hc lc h⟩
abbrev gx (K : PySem.W.Frag) (mg : Str → Option Value) : Gx := ⟨K, mg, (tabsIn K ["are_bytes", "is_state"]).map (·.2)⟩
theorem law_fd {P : Program} {w : World} {K : PySem.W.Frag} {h : Heap} {mg : Str → Option Value} {fa f : Addr} {oc : Value} {od an : Option Addr} {osl : Array (Option Value)} {kV doc pm cdv ct : Value} (X : K.In h) (G : h.Ns mainGlobals mg) (hfa : mg "law" = some (.ref fa))
    (a : PySem.W.nsIn K mainGlobals "law" = some (some (.ref f))) (l : K.lookup f = some ⟨oc, od, .func (PySem.W.fnOf "law" "law" (defArgs s_law) (defBody s_law) (defScope s_law) .none kV doc pm an cdv ct), osl⟩)
    (c : PySem.W.codeIn K cdv "law" = true) (k : PySem.W.keepIn K (.ref f) = true)
    (r : ∀ (base : Heap) (fd : FuncData), K.In base → base.Ns mainGlobals mg → BMain mg base → (∀ q ∈ tabsIn K ["are_bytes", "is_state"], PySem.W.CodeHd base q.1 q.2) → Fun K "law" "law" s_law f fd → FnOk P w K mg base CX0 8 f fd ["_law_script"] (spOf (gx K mg) 1 p_law)) :
    ∃ fd : FuncData, (∀ (s : Shared) (v : Value), BindsTo s fd ⟨[v], []⟩ [("_law_script", v)]) ∧ ∀ base : Heap, K.In base → base.Ns mainGlobals mg → BMain mg base → (∀ q ∈ tabsIn K ["are_bytes", "is_state"], PySem.W.CodeHd base q.1 q.2) → FnOk P w K mg base CX0 8 fa fd ["_law_script"] (spOf (gx K mg) 1 p_law) := by
  have e := hfa.symm.trans (PySem.W.mg_of X G a)
  cases e
  exact ⟨PySem.W.fnOf "law" "law" (defArgs s_law) (defBody s_law) (defScope s_law) .none kV doc pm an cdv ct, fun s v => .of_eq rfl, fun base kb nb hM hT => r base _ kb nb hM hT (fun_mk (st := s_law) l c k)⟩
theorem walk {l : PySem.W.OpenLaw} {q : Program} {loose : List Str} {XP : (Str → Option Value) → Heap → Prop} {YP : World → Heap → Prop} {d : DefRec} {K : Params → PySem.W.Frag} (hn : l.most = some 63) (hdf : d.params.defaults = [])
    (hY : ∀ (w : World) (h : Heap), YP w h → (K w.params).In h) (hKT : ∀ w : World, PySem.W.noTabs (K w.params) = true) (hKL : ∀ w : World, noLists (K w.params) = true) (hN : ((["are_bytes", "is_state"] : List Str).all fun y => ((PyProof.Rows.recsOf q).find? (fun e => e.name == y)).isSome) = true)
    (F : ∀ (w : World) (mg : Str → Option Value) (fa : Addr) (h : Heap), (K w.params).In h → h.Ns mainGlobals mg → mg d.name = some (.ref fa) →
      ∃ fd : FuncData, (∀ (s : Shared) (u : Value), BindsTo s fd ⟨[u], []⟩ [("_law_script", u)]) ∧ ∀ base : Heap, (K w.params).In base → base.Ns mainGlobals mg → BMain mg base → (∀ q ∈ tabsIn (K w.params) ["are_bytes", "is_state"], PySem.W.CodeHd base q.1 q.2) → FnOk l.prog w (K w.params) mg base CX0 8 fa fd ["_law_script"] (spOf (gx (K w.params) mg) 1 p_law)) :
    PySem.W.WalkO q loose XP YP l.row.toRowW d [] (fun f vs => PySem.call f vs) := by
  refine walk_ofM (n := 63) (k := 8) (x := "_law_script") (names := ["are_bytes", "is_state"]) (sp := fun w mg => spOf (gx (K w.params) mg) 1 p_law) hn (by decide) hdf ⟨rfl, by decide, by decide⟩ hY hKT hN F (fun w mg H a ns hl hT hS => ?_)
  exact law_sp (hKL w) hT hS (pure ns hl)
end K32
open PySem PySem.W PyProof.Rows
set_option maxRecDepth 100000 in
set_option maxHeartbeats 0 in
theorem PySem.Challenge.cw_beamrows_k32_states_holds : PySem.Challenge.rw_beamrows_k32_states.Holds := by
  w_on; o_law; k_head; (case hw => w_witness2)
  k_fill
  refine K32.walk (l := PySem.Challenge.rw_beamrows_k32_states) rfl rfl (fun w h Y => PySem.W.kIn_of Y) ?gKT ?gKL ?gNM ?gFF
  case gKT => intro w; rfl
  case gKL => intro w; rfl
  case gNM => rfl
  case gFF =>
    intro w mg fa h KX G hmg
    have T := by
      refine' K32.txt_mk KX G ?x0 ?x1 ?x2 ?x3 ?x4 ?x5 ?x6 ?x7 ?x8 ?x9 ?x10 ?x11 ?x12 ?x13 ?x14 ?x15 ?x16 ?x17 ?x18 ?x19 ?x20 ?x21 ?x22 ?x23 ?x24 ?x25 ?x26 ?x27 ?x28 ?x29 ?x30 ?x31 ?x32 ?x33 ?x34 ?x35 ?x36 ?x37 ?x38 ?x39 ?x40 ?x41 ?x42 ?x43 ?x44 ?x45 ?x46 ?x47 ?x48
      (case x0 => k_is); (case x1 => k_is); (case x2 => rfl); (case x3 => k_is); (case x4 => k_is); (case x5 => k_is); (case x6 => k_is); (case x7 => k_is); (case x8 => k_is); (case x9 => k_is); (case x10 => k_is); (case x11 => k_is); (case x12 => k_is); (case x13 => k_is); (case x14 => k_is); (case x15 => k_is); (case x16 => k_is); (case x17 => k_is); (case x18 => k_is); (case x19 => k_is); (case x20 => k_is); (case x21 => k_is); (case x22 => k_is); (case x23 => k_is); (case x24 => k_is); (case x25 => k_is); (case x26 => k_is); (case x27 => k_is); (case x28 => k_is); (case x29 => k_is); (case x30 => k_is); (case x31 => k_is); (case x32 => k_is); (case x33 => k_is); (case x34 => k_is); (case x35 => k_is); (case x36 => k_is); (case x37 => k_is); (case x38 => k_is); (case x39 => k_is); (case x40 => k_is); (case x41 => k_is); (case x42 => k_is); (case x43 => k_is); (case x44 => k_is); (case x45 => k_is); (case x46 => k_is); (case x47 => k_is); (case x48 => k_is)
    have Z_are_bytes := by
      refine' K32.tab_ex (x := "are_bytes") KX ?g1 ?g2 ?g3 ?g4 ?g5
      (case g1 => k_is); (case g2 => k_is); (case g3 => rfl); (case g4 => k_is); (case g5 => rfl)
    obtain ⟨co_are_bytes, Ta_are_bytes, t_are_bytes⟩ := Z_are_bytes
    have Z_is_state := by
      refine' K32.tab_ex (x := "is_state") KX ?g1 ?g2 ?g3 ?g4 ?g5
      (case g1 => k_is); (case g2 => k_is); (case g3 => rfl); (case g4 => k_is); (case g5 => rfl)
    obtain ⟨co_is_state, Ta_is_state, t_is_state⟩ := Z_is_state
    have R_is_whole := by
      refine' My.raw_mk (x := "is_whole") (st := K32.s_is_whole) (ps := ["thing"]) KX G ?a ?l ?c ?k (fun _ _ _ _ _ _ us hl => match us, hl with | [_], _ => rfl)
      (case a => k_is); (case l => k_is); (case c => k_is); (case k => k_is)
    have R_is_number := by
      refine' My.raw_mk (x := "is_number") (st := K32.s_is_number) (ps := ["thing", "low", "high"]) KX G ?a ?l ?c ?k (fun _ _ _ _ _ _ us hl => match us, hl with | [_, _, _], _ => rfl)
      (case a => k_is); (case l => k_is); (case c => k_is); (case k => k_is)
    have R_is_byte := by
      refine' My.raw_mk (x := "is_byte") (st := K32.s_is_byte) (ps := ["thing"]) KX G ?a ?l ?c ?k (fun _ _ _ _ _ _ us hl => match us, hl with | [_], _ => rfl)
      (case a => k_is); (case l => k_is); (case c => k_is); (case k => k_is)
    have R_are_bytes := by
      refine' My.rawG_mk (x := "are_bytes") (st := K32.s_are_bytes) (ps := ["thing"]) KX G ?a ?l ?c ?k t_are_bytes (fun _ _ _ _ _ _ us hl => match us, hl with | [_], _ => rfl)
      (case a => k_is); (case l => k_is); (case c => k_is); (case k => k_is)
    have R_are_so_many_bytes := by
      refine' My.raw_mk (x := "are_so_many_bytes") (st := K32.s_are_so_many_bytes) (ps := ["thing", "many"]) KX G ?a ?l ?c ?k (fun _ _ _ _ _ _ us hl => match us, hl with | [_, _], _ => rfl)
      (case a => k_is); (case l => k_is); (case c => k_is); (case k => k_is)
    have R_is_tuple_of := by
      refine' My.raw_mk (x := "is_tuple_of") (st := K32.s_is_tuple_of) (ps := ["thing", "many"]) KX G ?a ?l ?c ?k (fun _ _ _ _ _ _ us hl => match us, hl with | [_, _], _ => rfl)
      (case a => k_is); (case l => k_is); (case c => k_is); (case k => k_is)
    have R_kind := by
      refine' My.raw_mk (x := "kind") (st := K32.s_kind) (ps := ["deed"]) KX G ?a ?l ?c ?k (fun _ _ _ _ _ _ us hl => match us, hl with | [_], _ => rfl)
      (case a => k_is); (case l => k_is); (case c => k_is); (case k => k_is)
    have R_is_wait := by
      refine' My.raw_mk (x := "is_wait") (st := K32.s_is_wait) (ps := ["program", "row"]) KX G ?a ?l ?c ?k (fun _ _ _ _ _ _ us hl => match us, hl with | [_, _], _ => rfl)
      (case a => k_is); (case l => k_is); (case c => k_is); (case k => k_is)
    have R_is_state := by
      refine' My.rawG_mk (x := "is_state") (st := K32.s_is_state) (ps := ["program", "thing"]) KX G ?a ?l ?c ?k t_is_state (fun _ _ _ _ _ _ us hl => match us, hl with | [_, _], _ => rfl)
      (case a => k_is); (case l => k_is); (case c => k_is); (case k => k_is)
    have R_is_code_row := by
      refine' My.raw_mk (x := "is_code_row") (st := K32.s_is_code_row) (ps := ["program", "thing"]) KX G ?a ?l ?c ?k (fun _ _ _ _ _ _ us hl => match us, hl with | [_, _], _ => rfl)
      (case a => k_is); (case l => k_is); (case c => k_is); (case k => k_is)
    have R_may_wait := by
      refine' My.raw_mk (x := "may_wait") (st := K32.s_may_wait) (ps := ["program", "row", "beat", "asked"]) KX G ?a ?l ?c ?k (fun _ _ _ _ _ _ us hl => match us, hl with | [_, _, _, _], _ => rfl)
      (case a => k_is); (case l => k_is); (case c => k_is); (case k => k_is)
    have R_start := by
      refine' My.raw_mk (x := "start") (st := K32.s_start) (ps := ["program"]) KX G ?a ?l ?c ?k (fun _ _ _ _ _ _ us hl => match us, hl with | [_], _ => rfl)
      (case a => k_is); (case l => k_is); (case c => k_is); (case k => k_is)
    have R__law_mixed := by
      refine' My.raw_mk (x := "_law_mixed") (st := K32.s__law_mixed) (ps := ["_law_cell", "_law_k"]) KX G ?a ?l ?c ?k (fun _ _ _ _ _ _ us hl => match us, hl with | [_, _], _ => rfl)
      (case a => k_is); (case l => k_is); (case c => k_is); (case k => k_is)
    have R__law_deck := by
      refine' My.raw_mk (x := "_law_deck") (st := K32.s__law_deck) (ps := ["_law_script", "_law_many"]) KX G ?a ?l ?c ?k (fun _ _ _ _ _ _ us hl => match us, hl with | [_, _], _ => rfl)
      (case a => k_is); (case l => k_is); (case c => k_is); (case k => k_is)
    have R__law_next := by
      refine' My.raw_mk (x := "_law_next") (st := K32.s__law_next) (ps := ["_law_deck_here"]) KX G ?a ?l ?c ?k (fun _ _ _ _ _ _ us hl => match us, hl with | [_], _ => rfl)
      (case a => k_is); (case l => k_is); (case c => k_is); (case k => k_is)
    have R__law_byte := by
      refine' My.raw_mk (x := "_law_byte") (st := K32.s__law_byte) (ps := ["_law_deck_here"]) KX G ?a ?l ?c ?k (fun _ _ _ _ _ _ us hl => match us, hl with | [_], _ => rfl)
      (case a => k_is); (case l => k_is); (case c => k_is); (case k => k_is)
    have R__law_deeds := by
      refine' My.raw_mk (x := "_law_deeds") (st := K32.s__law_deeds) (ps := []) KX G ?a ?l ?c ?k (fun _ _ _ _ _ _ us hl => match us, hl with | [], _ => rfl)
      (case a => k_is); (case l => k_is); (case c => k_is); (case k => k_is)
    have R__law_most := by
      refine' My.raw_mk (x := "_law_most") (st := K32.s__law_most) (ps := ["_law_at"]) KX G ?a ?l ?c ?k (fun _ _ _ _ _ _ us hl => match us, hl with | [_], _ => rfl)
      (case a => k_is); (case l => k_is); (case c => k_is); (case k => k_is)
    have R__law_name := by
      refine' My.raw_mk (x := "_law_name") (st := K32.s__law_name) (ps := ["_law_k"]) KX G ?a ?l ?c ?k (fun _ _ _ _ _ _ us hl => match us, hl with | [_], _ => rfl)
      (case a => k_is); (case l => k_is); (case c => k_is); (case k => k_is)
    have R__law_value := by
      refine' My.raw_mk (x := "_law_value") (st := K32.s__law_value) (ps := ["_law_deck_here", "_law_at", "_law_marks", "_law_tables"]) KX G ?a ?l ?c ?k (fun _ _ _ _ _ _ us hl => match us, hl with | [_, _, _, _], _ => rfl)
      (case a => k_is); (case l => k_is); (case c => k_is); (case k => k_is)
    have R__law_free := by
      refine' My.raw_mk (x := "_law_free") (st := K32.s__law_free) (ps := ["_law_deck_here", "_law_many", "_law_some"]) KX G ?a ?l ?c ?k (fun _ _ _ _ _ _ us hl => match us, hl with | [_, _, _], _ => rfl)
      (case a => k_is); (case l => k_is); (case c => k_is); (case k => k_is)
    have R__law_memory := by
      refine' My.raw_mk (x := "_law_memory") (st := K32.s__law_memory) (ps := ["_law_deck_here"]) KX G ?a ?l ?c ?k (fun _ _ _ _ _ _ us hl => match us, hl with | [_], _ => rfl)
      (case a => k_is); (case l => k_is); (case c => k_is); (case k => k_is)
    have R__law_state := by
      refine' My.raw_mk (x := "_law_state") (st := K32.s__law_state) (ps := ["_law_deck_here", "_law_row"]) KX G ?a ?l ?c ?k (fun _ _ _ _ _ _ us hl => match us, hl with | [_, _], _ => rfl)
      (case a => k_is); (case l => k_is); (case c => k_is); (case k => k_is)
    have R__law_waiting := by
      refine' My.raw_mk (x := "_law_waiting") (st := K32.s__law_waiting) (ps := ["_law_deck_here"]) KX G ?a ?l ?c ?k (fun _ _ _ _ _ _ us hl => match us, hl with | [_], _ => rfl)
      (case a => k_is); (case l => k_is); (case c => k_is); (case k => k_is)
    have R__law_most_of := by
      refine' My.raw_mk (x := "_law_most_of") (st := K32.s__law_most_of) (ps := ["_law_field"]) KX G ?a ?l ?c ?k (fun _ _ _ _ _ _ us hl => match us, hl with | [_], _ => rfl)
      (case a => k_is); (case l => k_is); (case c => k_is); (case k => k_is)
    have R__law_with := by
      refine' My.raw_mk (x := "_law_with") (st := K32.s__law_with) (ps := ["_law_state_here", "_law_field", "_law_thing"]) KX G ?a ?l ?c ?k (fun _ _ _ _ _ _ us hl => match us, hl with | [_, _, _], _ => rfl)
      (case a => k_is); (case l => k_is); (case c => k_is); (case k => k_is)
    have R__law_no_rows := by
      refine' My.raw_mk (x := "_law_no_rows") (st := K32.s__law_no_rows) (ps := ["_law_program", "_law_state_here", "_law_many"]) KX G ?a ?l ?c ?k (fun _ _ _ _ _ _ us hl => match us, hl with | [_, _, _], _ => rfl)
      (case a => k_is); (case l => k_is); (case c => k_is); (case k => k_is)
    have R__law_no_bytes := by
      refine' My.raw_mk (x := "_law_no_bytes") (st := K32.s__law_no_bytes) (ps := ["_law_deck_here", "_law_state_here", "_law_field"]) KX G ?a ?l ?c ?k (fun _ _ _ _ _ _ us hl => match us, hl with | [_, _, _], _ => rfl)
      (case a => k_is); (case l => k_is); (case c => k_is); (case k => k_is)
    have R__law_none := by
      refine' My.raw_mk (x := "_law_none") (st := K32.s__law_none) (ps := ["_law_deck_here", "_law_program", "_law_state_here", "_law_many"]) KX G ?a ?l ?c ?k (fun _ _ _ _ _ _ us hl => match us, hl with | [_, _, _, _], _ => rfl)
      (case a => k_is); (case l => k_is); (case c => k_is); (case k => k_is)
    refine' K32.law_fd KX G hmg ?a ?l ?c ?k ?r
    (case a => k_is); (case l => k_is); (case c => k_is); (case k => k_is)
    (case r =>
      intro base fd kb nb hM hTs F
      have hC_are_bytes := hTs _ (My.mem_tabsIn (by decide) t_are_bytes)
      have hP_are_bytes : Ta_are_bytes ∈ (K32.gx _ mg).tabs := List.mem_map.mpr ⟨_, My.mem_tabsIn (by decide) t_are_bytes, rfl⟩
      have hC_is_state := hTs _ (My.mem_tabsIn (by decide) t_is_state)
      have hP_is_state : Ta_is_state ∈ (K32.gx _ mg).tabs := List.mem_map.mpr ⟨_, My.mem_tabsIn (by decide) t_is_state, rfl⟩
      have D__law_mixed := K32.d__law_mixed (P := PySem.Challenge.rw_beamrows_k32_states.prog) (w := w) (base := base) (G := K32.gx _ mg) T R__law_mixed 
      have D__law_deck := K32.d__law_deck (P := PySem.Challenge.rw_beamrows_k32_states.prog) (w := w) (base := base) (G := K32.gx _ mg) T R__law_deck D__law_mixed
      have D__law_name := K32.d__law_name (P := PySem.Challenge.rw_beamrows_k32_states.prog) (w := w) (base := base) (G := K32.gx _ mg) T R__law_name 
      have D__law_next := K32.d__law_next (P := PySem.Challenge.rw_beamrows_k32_states.prog) (w := w) (base := base) (G := K32.gx _ mg) T R__law_next 
      have D__law_most := K32.d__law_most (P := PySem.Challenge.rw_beamrows_k32_states.prog) (w := w) (base := base) (G := K32.gx _ mg) T R__law_most 
      have D__law_value := K32.d__law_value (P := PySem.Challenge.rw_beamrows_k32_states.prog) (w := w) (base := base) (G := K32.gx _ mg) T R__law_value D__law_next D__law_most
      have D__law_deeds := K32.d__law_deeds (P := PySem.Challenge.rw_beamrows_k32_states.prog) (w := w) (base := base) (G := K32.gx _ mg) T R__law_deeds 
      have D__law_free := K32.d__law_free (P := PySem.Challenge.rw_beamrows_k32_states.prog) (w := w) (base := base) (G := K32.gx _ mg) T R__law_free D__law_name D__law_value D__law_next D__law_deeds
      have D__law_waiting := K32.d__law_waiting (P := PySem.Challenge.rw_beamrows_k32_states.prog) (w := w) (base := base) (G := K32.gx _ mg) T R__law_waiting D__law_free D__law_next
      have D__law_byte := K32.d__law_byte (P := PySem.Challenge.rw_beamrows_k32_states.prog) (w := w) (base := base) (G := K32.gx _ mg) T R__law_byte D__law_next
      have D__law_memory := K32.d__law_memory (P := PySem.Challenge.rw_beamrows_k32_states.prog) (w := w) (base := base) (G := K32.gx _ mg) T R__law_memory D__law_byte D__law_next
      have D__law_state := K32.d__law_state (P := PySem.Challenge.rw_beamrows_k32_states.prog) (w := w) (base := base) (G := K32.gx _ mg) T R__law_state D__law_next D__law_byte D__law_memory
      have D_start := K32.d_start (P := PySem.Challenge.rw_beamrows_k32_states.prog) (w := w) (base := base) (G := K32.gx _ mg) T R_start 
      have D__law_with := K32.d__law_with (P := PySem.Challenge.rw_beamrows_k32_states.prog) (w := w) (base := base) (G := K32.gx _ mg) T R__law_with 
      have D__law_no_bytes := K32.d__law_no_bytes (P := PySem.Challenge.rw_beamrows_k32_states.prog) (w := w) (base := base) (G := K32.gx _ mg) T R__law_no_bytes D__law_next D__law_with
      have D__law_no_rows := K32.d__law_no_rows (P := PySem.Challenge.rw_beamrows_k32_states.prog) (w := w) (base := base) (G := K32.gx _ mg) T R__law_no_rows D__law_with
      have D__law_most_of := K32.d__law_most_of (P := PySem.Challenge.rw_beamrows_k32_states.prog) (w := w) (base := base) (G := K32.gx _ mg) T R__law_most_of 
      have D__law_none := K32.d__law_none (P := PySem.Challenge.rw_beamrows_k32_states.prog) (w := w) (base := base) (G := K32.gx _ mg) T R__law_none D__law_no_bytes D__law_no_rows D__law_most_of D__law_with
      have D_is_tuple_of := K32.d_is_tuple_of (P := PySem.Challenge.rw_beamrows_k32_states.prog) (w := w) (base := base) (G := K32.gx _ mg) T R_is_tuple_of 
      have D_is_whole := K32.d_is_whole (P := PySem.Challenge.rw_beamrows_k32_states.prog) (w := w) (base := base) (G := K32.gx _ mg) T R_is_whole 
      have D_is_number := K32.d_is_number (P := PySem.Challenge.rw_beamrows_k32_states.prog) (w := w) (base := base) (G := K32.gx _ mg) T R_is_number D_is_whole
      have D_is_wait := K32.d_is_wait (P := PySem.Challenge.rw_beamrows_k32_states.prog) (w := w) (base := base) (G := K32.gx _ mg) T R_is_wait 
      have D_may_wait := K32.d_may_wait (P := PySem.Challenge.rw_beamrows_k32_states.prog) (w := w) (base := base) (G := K32.gx _ mg) T R_may_wait D_is_wait
      have D_kind := K32.d_kind (P := PySem.Challenge.rw_beamrows_k32_states.prog) (w := w) (base := base) (G := K32.gx _ mg) T R_kind 
      have D_is_code_row := K32.d_is_code_row (P := PySem.Challenge.rw_beamrows_k32_states.prog) (w := w) (base := base) (G := K32.gx _ mg) T R_is_code_row D_is_number D_kind
      have D_is_byte := K32.d_is_byte (P := PySem.Challenge.rw_beamrows_k32_states.prog) (w := w) (base := base) (G := K32.gx _ mg) T R_is_byte D_is_number
      have D_are_bytes := K32.d_are_bytes (P := PySem.Challenge.rw_beamrows_k32_states.prog) (w := w) (base := base) (G := K32.gx _ mg) T R_are_bytes hC_are_bytes hM hP_are_bytes D_is_byte
      have D_are_so_many_bytes := K32.d_are_so_many_bytes (P := PySem.Challenge.rw_beamrows_k32_states.prog) (w := w) (base := base) (G := K32.gx _ mg) T R_are_so_many_bytes D_are_bytes
      have D_is_state := K32.d_is_state (P := PySem.Challenge.rw_beamrows_k32_states.prog) (w := w) (base := base) (G := K32.gx _ mg) T R_is_state hC_is_state hM hP_is_state D_is_tuple_of D_is_number D_may_wait D_is_code_row D_is_byte D_are_so_many_bytes
      exact K32.d_law (G := K32.gx _ mg) T F D__law_deck D__law_waiting D__law_state D_start D__law_none D__law_next D__law_with D__law_most_of D_is_state)

