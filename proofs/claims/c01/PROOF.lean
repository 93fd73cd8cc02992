import PyProof.Rows.All
import Wide.All
import OpenK.AllK
import Open.SpecLaws
import KE.OsHead
import KE.OsGo
import Wide.FinOn
import PyProof.EqAt
import PyProof.EqKinds
import PyProof.TupleCall
import KE.BitLaws
import PySem.Challenge.RW_contestways_s01_answers
section
set_option Elab.async false
set_option linter.all false
set_option maxRecDepth 100000
set_option maxHeartbeats 0
open PySem PySem.W PyProof.Rows
def Cw.view : Program := { PySem.Challenge.pw_contestways_s01_answers with main := { PySem.Challenge.pw_contestways_s01_answers.main with body := PySem.Challenge.pw_contestways_s01_answers.main.body.tail } }
section
local macro_rules | `(tactic| o_headS $_:term) => `(tactic| assumption)
theorem Cw.top (h : PySem.Challenge.rw_contestways_s01_answers.Holds) : PySem.Challenge.rw_contestways_s01_answers.Holds := by k_headS
end
def Cw.at_ : List Addr := [2, 3, 22, 24, 25, 27, 28, 29, 30, 31, 32, 33, 43, 45, 46, 48, 49, 50, 52, 53, 55, 56, 57, 59, 60, 62, 63, 64, 66, 67, 69, 70, 71, 72, 73, 74, 75, 78, 80, 81, 83, 84, 85, 87, 88, 90, 91, 92, 94, 95, 97, 98, 99, 102, 103, 104, 106, 107, 109, 110, 111, 114, 115, 116, 119, 120, 121, 124, 125, 126, 129, 130, 131, 134, 135, 136, 139, 140, 141, 144, 145, 146, 149, 150, 151, 154, 155, 156, 159, 160, 161, 163, 164, 166, 167, 168, 171, 172, 173, 175, 176, 178, 179, 180, 183, 184, 185, 187, 188, 190, 191, 192, 195, 196, 197, 200, 201, 202, 205, 206, 207, 209, 210, 212, 213, 214, 216, 217, 219, 220, 221, 223, 224, 226, 227, 228, 230, 231, 233, 234, 235, 237, 238, 240, 241, 242, 245, 246, 247, 249, 250, 252, 253, 254, 257, 258, 259, 261, 262, 264, 265, 266, 269, 270, 271, 274, 275, 276, 279, 280, 281, 284, 285, 286, 289, 290, 291, 293, 294, 296, 297, 298, 300, 301, 303, 304, 305, 307, 308, 310, 311]
theorem Cw.at_eq : ∀ P, Cw.at_ = (Cw.top.heap_1 P).map (·.1) := fun _ => by kernel_rfl
noncomputable abbrev Cw.ran (w : World) (os : OsState) : Option Shared := topFrom treeTable PySem.Challenge.rw_contestways_s01_answers.prog w 3772 ⟨boot_heap w.params, Array.mk [], boot_drawn, boot_toks, os⟩
noncomputable abbrev Cw.saw (s : Shared) := openSeen Cw.view [] (importedModules PySem.Challenge.rw_contestways_s01_answers.prog.main.body) (fun s => xlAt Cw.view [] s && recOk [] s) true s
noncomputable abbrev Cw.hook : Hook := kHook Cw.top.heap_1 Cw.at_ Cw.at_eq
theorem Cw.ran1 : ∀ (w : World) (os : OsState), (Cw.ran w os).map (fun s => ((Cw.saw s).1, Cw.hook.obs s)) = some (expectedOf Cw.view, Cw.hook.val w) := fun w os => by kernel_rfl
theorem Cw.ran2 : ∀ (w : World) (os : OsState), (Cw.ran w os).map (fun s => (Cw.saw s).2) = some (bltViewBooted, true, true, pinGoodD (drecsOf Cw.view), plainGoodE Cw.view (looseW Cw.view []), plainGoodD Cw.view [], wideGood Cw.view, clsGoodW Cw.view []) := fun w os => by kernel_rfl
theorem Cw.both {A B C D : Type} {o : Option A} {f : A → B × C} {g : A → D} {b : B} {c : C} {d : D} (h : o.map (fun s => ((f s).1, g s)) = some (b, d)) (k : o.map (fun s => (f s).2) = some c) : o.map (fun s => (f s, g s)) = some ((b, c), d) := by
  obtain ⟨s, rfl, e⟩ := Option.map_eq_some_iff.mp h
  obtain ⟨e1, e2⟩ := Prod.mk.inj e
  exact congrArg some (Prod.ext (Prod.ext e1 (Option.some.inj k)) e2)
theorem Cw.left : LeftO PySem.Challenge.rw_contestways_s01_answers.prog Cw.view [] (fun s => xlAt Cw.view [] s && recOk [] s) (Hook.obs (kHook Cw.top.heap_1 Cw.at_ Cw.at_eq)) (Hook.val (kHook Cw.top.heap_1 Cw.at_ Cw.at_eq)) 3772 := fun w => by
  obtain ⟨⟨h, gs, d, k, os⟩, e, e'⟩ := Option.map_eq_some_iff.mp (boot_open (p := PySem.Challenge.rw_contestways_s01_answers.prog) (N := 3772) (by kernel_rfl) (by decide) (fun s => by kernel_rfl) w)
  obtain ⟨rfl, rfl, rfl, rfl⟩ : h = boot_heap w.params ∧ gs = Array.mk [] ∧ d = boot_drawn ∧ k = boot_toks := by simpa using e'
  unfold openEnds
  rw [e]
  exact Cw.both (f := Cw.saw) (g := Cw.hook.obs) (Cw.ran1 w os) (Cw.ran2 w os)
end
section
set_option Elab.async false
set_option linter.all false
set_option maxRecDepth 100000
namespace L2
open PySem PySem.Spec PyProof.Rows
abbrev Key := Sum Int Str
def keyIs : Key → Value → Bool
  | .inl k, v => Value.isInt k v
  | .inr x, v => Value.isStrOf x v
def keyH (w : World) : Key → Int
  | .inl k => hashInt k
  | .inr x => hashStr w x
theorem keyIs_shape : ∀ {k : Key} {v : Value}, keyIs k v = true → (∃ i t, k = Sum.inl i ∧ v = Value.int i t) ∨ (∃ x t, k = Sum.inr x ∧ v = Value.str x t)
  | .inl i, v, h => by
    obtain ⟨t, e⟩ := Value.isInt_shape (k := i) (v := v) h
    exact .inl ⟨i, t, rfl, e⟩
  | .inr x, v, h => by
    obtain ⟨t, e⟩ := Value.isStrOf_shape (x := x) (v := v) h
    exact .inr ⟨x, t, rfl, e⟩
theorem keyIs_int (i : Int) (t : Tok) : keyIs (.inl i) (.int i t) = true := by simp [keyIs, Value.isInt]
theorem keyIs_str (x : Str) (t : Tok) : keyIs (.inr x) (.str x t) = true := by simp [keyIs, Value.isStrOf]
theorem key_ll (a b : Int) : decide ((Sum.inl a : Key) = Sum.inl b) = (a == b) := by
  by_cases e : a = b
  · subst e; simp
  · have h : ¬ (Sum.inl a : Key) = Sum.inl b := fun q => e (Sum.inl.inj q)
    rw [decide_eq_false h]
    exact (beq_eq_false_iff_ne.mpr e).symm
theorem key_rr (a b : Str) : decide ((Sum.inr a : Key) = Sum.inr b) = decide (a = b) := by
  by_cases e : a = b
  · subst e; simp
  · have h : ¬ (Sum.inr a : Key) = Sum.inr b := fun q => e (Sum.inr.inj q)
    rw [decide_eq_false h, decide_eq_false e]
theorem key_lr (a : Int) (b : Str) : decide ((Sum.inl a : Key) = Sum.inr b) = false := decide_eq_false (fun q => nomatch q)
theorem key_rl (a : Str) (b : Int) : decide ((Sum.inr a : Key) = Sum.inl b) = false := decide_eq_false (fun q => nomatch q)
def mixKind (prog : Program) (w : World) : PySem.KeyKind prog w Key where
  is := keyIs
  hash := keyH w
  inj := fun v a b ha hb => by
    rcases keyIs_shape ha with ⟨i, t, rfl, rfl⟩ | ⟨x, t, rfl, rfl⟩
    · rcases keyIs_shape hb with ⟨j, u, rfl, e⟩ | ⟨y, u, rfl, e⟩
      · injection e with e1 _; rw [e1]
      · exact nomatch e
    · rcases keyIs_shape hb with ⟨j, u, rfl, e⟩ | ⟨y, u, rfl, e⟩
      · exact nomatch e
      · injection e with e1 _; rw [e1]
  byValue := fun k v h => by
    rcases keyIs_shape h with ⟨i, t, rfl, rfl⟩ | ⟨x, t, rfl, rfl⟩ <;> rfl
  pyHash := fun hv h => by
    rcases keyIs_shape hv with ⟨i, t, rfl, rfl⟩ | ⟨x, t, rfl, rfl⟩
    · exact wpAny_pyHash_int h
    · exact wpAny_pyHash_str h
  eqBool := fun hu hv h => by
    rcases keyIs_shape hu with ⟨i, t, rfl, rfl⟩ | ⟨x, t, rfl, rfl⟩
    · rcases keyIs_shape hv with ⟨j, u, rfl, rfl⟩ | ⟨y, u, rfl, rfl⟩
      · rw [key_ll] at h; exact wpAny_eqBool_int h
      · rw [key_lr] at h; exact SeqAt.EqAt.int_str i t y u _ _ _ _ h
    · rcases keyIs_shape hv with ⟨j, u, rfl, rfl⟩ | ⟨y, u, rfl, rfl⟩
      · rw [key_rl] at h; exact SeqAt.EqAt.str_int x t j u _ _ _ _ h
      · rw [key_rr] at h; exact wpAny_eqBool_str h
  «strs» := fun k x t v h => by
    rcases keyIs_shape h with ⟨i, u, rfl, e⟩ | ⟨y, u, rfl, e⟩
    · exact nomatch e
    · injection e with e1 _
      subst e1
      cases v <;> rfl
theorem mixKind_int (prog : Program) (w : World) (i : Int) (t : Tok) : (mixKind prog w).is (.inl i) (.int i t) = true := keyIs_int i t
theorem mixKind_str (prog : Program) (w : World) (x : Str) (t : Tok) : (mixKind prog w).is (.inr x) (.str x t) = true := keyIs_str x t
end L2
namespace L2
open PySem PySem.Spec PyProof.Rows
inductive V where
  | non | bl (b : Bool) | int (i : Int) | str (x : Str) | byt (b : Array UInt8) | flt (b : UInt64) | ref (a : Addr) | ty (n : String)
  deriving DecidableEq
def RelV : V → Value → Prop
  | .non, u => u = Value.none
  | .bl b, u => u = Value.bool b
  | .int i, u => ∃ t, u = Value.int i t
  | .str x, u => ∃ t, u = Value.str x t
  | .byt b, u => ∃ t, u = Value.bytes b t
  | .flt b, u => ∃ t, u = Value.float b t
  | .ref a, u => u = Value.ref a
  | .ty n, u => u = Value.type n
abbrev Vals : List V → List Value → Prop := Paired RelV
theorem Vals.length {xs : List V} {us : List Value} (r : Vals xs us) : xs.length = us.length := Paired.length r
theorem Vals.get : ∀ {xs : List V} {us : List Value} {i : Nat} {x : V}, Vals xs us → xs[i]? = some x → ∃ u, us[i]? = some u ∧ RelV x u
  | _, _, _, _, .nil, e => by simp at e
  | _, _, 0, _, .cons r _, e => by simp at e; subst e; exact ⟨_, rfl, r⟩
  | _, _, i + 1, x, .cons _ t, e => by
    obtain ⟨u, h1, h2⟩ := Vals.get (i := i) (x := x) t (by simpa using e)
    exact ⟨u, by simpa using h1, h2⟩
theorem Vals.set {x : V} {u : Value} (r : RelV x u) : ∀ {xs : List V} {us : List Value} (i : Nat), Vals xs us → Vals (xs.set i x) (us.set i u)
  | _, _, _, .nil => .nil
  | _, _, 0, .cons _ t => .cons r t
  | _, _, i + 1, .cons q t => .cons q (Vals.set r i t)
theorem Vals.append : ∀ {xs ys : List V} {us ws : List Value}, Vals xs us → Vals ys ws → Vals (xs ++ ys) (us ++ ws)
  | _, _, _, _, .nil, s => s
  | _, _, _, _, .cons r t, s => .cons r (Vals.append t s)
theorem Vals.take : ∀ {xs : List V} {us : List Value} (n : Nat), Vals xs us → Vals (xs.take n) (us.take n)
  | _, _, 0, _ => .nil
  | _, _, _ + 1, .nil => .nil
  | _, _, n + 1, .cons r t => .cons r (Vals.take n t)
theorem Vals.drop : ∀ {xs : List V} {us : List Value} (n : Nat), Vals xs us → Vals (xs.drop n) (us.drop n)
  | _, _, 0, r => r
  | _, _, _ + 1, .nil => .nil
  | _, _, n + 1, .cons _ t => Vals.drop n t
def RelO : Option V → Option Value → Prop
  | some v, some u => RelV v u
  | none, none => True
  | _, _ => False
def KV {κ : Type} : List (κ × V) → List (κ × Value) → Prop := Paired fun (p : κ × V) (q : κ × Value) => p.1 = q.1 ∧ RelV p.2 q.2
def kV : Key → V
  | .inl i => .int i
  | .inr x => .str x
inductive HO where
  /-- a list -/
  | lst (xs : List V)
  /-- a tuple (never changes) -/
  | tup (xs : List V)
  /-- a dict whose keys are ints and texts; one whose keys are tuples of ints and texts (the empty one is both) -/
  | dK (kvs : List (Key × V)) | dT (kvs : List (List Key × V))
  /-- a set of ints: its members, its size -/
  | set (S : Int → Bool) (n : Nat)
  /-- an instance of the class at C, its dict at dx, its attributes -/
  | ins (C dx : Addr) (fs : List (Str × V))
  /-- the dict of the instance at x -/
  | own (x : Addr)
  /-- the dict of an exception -/
  | xd (fs : List (Str × V))
  /-- a bound method, f of x -/
  | met (f x : Addr)
  /-- a range object lo, lo + 1, .. below hi -/
  | rng (lo hi : Int)
  /-- a thing that is known to the object (the script; a dict while a loop walks it): read, never written while it is so -/
  | frz (o : Obj) (u : HO)
  /-- a code object's table -/
  | tbl (ps : Array Value)
  /-- any other thing, by what is true of its one object (a def of one's own: SetO a S n := HO.ext fun h => ..) -/
  | ext (φ : Heap → Prop)
abbrev Hp := Addr → Option HO
def upd (H : Hp) (a : Addr) (o : HO) : Hp := fun b => if b = a then some o else H b
theorem upd_same {H : Hp} {a : Addr} {o : HO} : upd H a o a = some o := by unfold upd; rw [if_pos rfl]
theorem upd_ne {H : Hp} {a b : Addr} {o : HO} (h : b ≠ a) : upd H a o b = H b := by unfold upd; rw [if_neg h]
theorem ne_of {H : Hp} {a b : Addr} {o u : HO} (h : H a = some o) (h' : H b = some u) (d : o ≠ u) : a ≠ b := by
  intro e; subst e; rw [h] at h'; exact d (Option.some.inj h')
theorem ne_of_none {H : Hp} {a b : Addr} {o : HO} (h : H a = some o) (h' : H b = none) : a ≠ b := by
  intro e; subst e; rw [h] at h'; cases h'
section
variable (P : Program) (w : World)
def ObjOk (H : Hp) (h : Heap) (a : Addr) : HO → Prop
  | .lst xs => xs.length ≤ sizeLine ∧ ∃ (its : List Value) (n : Nat), Vals xs its ∧ h.get? a = some { cls := .type "list", data := .seq its.toArray n }
  | .tup xs => xs.length ≤ sizeLine ∧ ∃ its : List Value, Vals xs its ∧ IsTup h a its.toArray
  | .dK kvs => kvs.length ≤ sizeLine ∧ (a == sysModules) = false ∧ ∃ vs, KV kvs vs ∧ h.DictOf (mixKind P w) a vs
  | .dT kvs => kvs.length ≤ sizeLine ∧ (a == sysModules) = false ∧ ∃ xs : List (List Key × Addr × Value),
      Paired (fun (p : List Key × V) (q : List Key × Addr × Value) => p.1 = q.1 ∧ H q.2.1 = some (.tup (p.1.map kV)) ∧ RelV p.2 q.2.2) kvs xs ∧
      ∃ o es ep, h.get? a = some o ∧ o.ExactDict ∧ o.data = .dict es ep ∧ es.toList = xs.map (entryOfKey (tupleKind (mixKind P w))) ∧ (xs.map (·.1)).Nodup
  | .set S n => h.SetOf (intKind P w) a S n
  | .ins C dx fs => H dx = some (.own a) ∧ fs.length ≤ 1000 ∧ dx ≠ a ∧ h.get? a = some (PySem.W.instObj C dx) ∧
      ∃ mA, h.Ns1 dx mA ∧ (∀ f, RelO (fs.lookup f) (mA f)) ∧ PySem.Within mA (fs.map (·.1))
  | .own _ => ∃ o, h.get? a = some o
  | .xd fs => ∃ mA, h.Ns1 a mA ∧ ∀ f, RelO (fs.lookup f) (mA f)
  | .rng lo hi => ∃ t u v, h.get? a = some { cls := .type "range", data := .fields #[.int lo t, .int hi u, .int 1 v] }
  | .frz o u => h.get? a = some o ∧ ObjOk H h a u
  | .tbl ps => h.get? a = some { cls := .none, data := .fields ps }
  | .met f x => h.get? a = some (PySem.W.methodObj (.ref f) (.ref x))
  | .ext φ => φ h ∧ (∃ o, h.get? a = some o) ∧ ∀ h1 h2 : Heap, φ h1 → (∀ o, h1.get? a = some o → h2.get? a = some o) → φ h2
def HOk (H : Hp) (h : Heap) : Prop := ∀ a o, H a = some o → ObjOk P w H h a o
end
section
variable {P : Program} {w : World} {H H' : Hp} {h h' : Heap} {a : Addr} {o : HO}
theorem ObjOk.lt (x : ObjOk P w H h a o) : a < h.objs.size := by
  cases o with
  | lst xs => obtain ⟨_, _, _, _, e⟩ := x; exact Heap.lt_size e
  | tup xs => obtain ⟨_, _, _, p⟩ := x; exact p.lt
  | dK kvs => obtain ⟨_, _, _, _, o, _, _, e, _⟩ := x; exact Heap.lt_size e
  | dT kvs => obtain ⟨_, _, _, _, o, _, _, e, _⟩ := x; exact Heap.lt_size e
  | set S n => obtain ⟨o, _, _, _, e, _⟩ := x; exact Heap.lt_size e
  | ins C dx fs => obtain ⟨_, _, _, e, _⟩ := x; exact Heap.lt_size e
  | own y => obtain ⟨_, e⟩ := x; exact Heap.lt_size e
  | xd fs => obtain ⟨_, ⟨_, _, _, e, _⟩, _⟩ := x; exact Heap.lt_size e
  | rng lo hi => obtain ⟨_, _, _, e⟩ := x; exact Heap.lt_size e
  | frz ob u => obtain ⟨e, _⟩ := x; exact Heap.lt_size e
  | tbl ps => exact Heap.lt_size (show h.get? a = some _ from x)
  | met f y => exact Heap.lt_size (show h.get? a = some _ from x)
  | ext φ => obtain ⟨_, ⟨_, e⟩, _⟩ := x; exact Heap.lt_size e
theorem Paired.mapP {α β : Type} {F G : α → β → Prop} : ∀ {l₁ : List α} {l₂ : List β}, Paired F l₁ l₂ → (∀ a b, F a b → G a b) → Paired G l₁ l₂
  | _, _, .nil, _ => .nil
  | _, _, .cons r t, f => .cons (f _ _ r) (Paired.mapP t f)
theorem ObjOk.stay (x : ObjOk P w H h a o) (k : ∀ b u, (b = a ∨ H b = some (.own a)) → h.get? b = some u → h'.get? b = some u)
    (ho : ∀ b, H b = some (.own a) → H' b = some (.own a)) (ht : ∀ b xs, H b = some (.tup xs) → H' b = some (.tup xs)) : ObjOk P w H' h' a o := by
  induction o with
  | lst xs => obtain ⟨z, its, n, r, e⟩ := x; exact ⟨z, its, n, r, k _ _ (.inl rfl) e⟩
  | tup xs => obtain ⟨z, its, r, ob, e, c⟩ := x; exact ⟨z, its, r, ob, k _ _ (.inl rfl) e, c⟩
  | dK kvs => obtain ⟨z, y, vs, r, ob, es, ep, e, c⟩ := x; exact ⟨z, y, vs, r, ob, es, ep, k _ _ (.inl rfl) e, c⟩
  | dT kvs =>
    obtain ⟨z, y, xs, r, ob, es, ep, e, c⟩ := x
    exact ⟨z, y, xs, Paired.mapP r fun p q z => ⟨z.1, ht _ _ z.2.1, z.2.2⟩, ob, es, ep, k _ _ (.inl rfl) e, c⟩
  | set S n => obtain ⟨ob, es, ep, t, e, c⟩ := x; exact ⟨ob, es, ep, t, k _ _ (.inl rfl) e, c⟩
  | ins C dx fs =>
    obtain ⟨d, z, ne, e, mA, ⟨od, es, ep, e2, c⟩, r⟩ := x
    exact ⟨ho _ d, z, ne, k _ _ (.inl rfl) e, mA, ⟨od, es, ep, k _ _ (.inr d) e2, c⟩, r⟩
  | own y => obtain ⟨ob, e⟩ := x; exact ⟨ob, k _ _ (.inl rfl) e⟩
  | xd fs => obtain ⟨mA, ⟨od, es, ep, e, c⟩, r⟩ := x; exact ⟨mA, ⟨od, es, ep, k _ _ (.inl rfl) e, c⟩, r⟩
  | rng lo hi => obtain ⟨t, u, v, e⟩ := x; exact ⟨t, u, v, k _ _ (.inl rfl) e⟩
  | frz ob u ih => obtain ⟨e, q⟩ := x; exact ⟨k _ _ (.inl rfl) e, ih q⟩
  | tbl ps =>
    have e : h.get? a = some { cls := .none, data := .fields ps } := x
    show h'.get? a = some { cls := .none, data := .fields ps }
    exact k a _ (.inl rfl) e
  | met f y =>
    have e : h.get? a = some (PySem.W.methodObj (.ref f) (.ref y)) := x
    show h'.get? a = some (PySem.W.methodObj (.ref f) (.ref y))
    exact k a _ (.inl rfl) e
  | ext φ => obtain ⟨p, ⟨o, e⟩, st⟩ := x; exact ⟨st _ _ p fun o q => k _ _ (.inl rfl) q, ⟨o, k _ _ (.inl rfl) e⟩, st⟩
theorem HOk.lt (x : HOk P w H h) (e : H a = some o) : a < h.objs.size := (x a o e).lt
theorem HOk.fresh (x : HOk P w H h) (e : h.objs.size ≤ a) : H a = none := by
  cases q : H a with
  | none => rfl
  | some u => exact absurd (Nat.lt_of_lt_of_le (x.lt q) e) (Nat.lt_irrefl _)
theorem HOk.kept (x : HOk P w H h) (k : ∀ b u, h.get? b = some u → h'.get? b = some u) : HOk P w H h' := fun a o e =>
  (x a o e).stay (fun b u _ q => k b u q) (fun _ q => q) fun _ _ q => q
theorem HOk.laid (x : HOk P w H h) (k : ∀ b u, h.get? b = some u → h'.get? b = some u) (hp : h.objs.size ≤ a) (new : ObjOk P w (upd H a o) h' a o) : HOk P w (upd H a o) h' := fun b u e => by
  have hn := x.fresh hp
  by_cases hb : b = a
  · subst hb; rw [upd_same] at e; cases e; exact new
  · rw [upd_ne hb] at e
    exact (x b u e).stay (fun c v _ q => k c v q) (fun c q => by rw [upd_ne (ne_of_none q hn)]; exact q) fun c xs q => by rw [upd_ne (ne_of_none q hn)]; exact q
end
def Rd (H : Hp) (a : Addr) (u : HO) : Prop := H a = some u ∨ ∃ o, H a = some (.frz o u)
theorem Rd.ok {P : Program} {w : World} {H : Hp} {h : Heap} {a : Addr} {u : HO} (r : Rd H a u) (x : HOk P w H h) : ObjOk P w H h a u := by
  rcases r with r | ⟨o, r⟩
  · exact x a u r
  · obtain ⟨_, q⟩ := x a _ r
    exact q
def Mut : Option HO → Prop
  | some (.lst _) => True
  | some (.dK _) => True
  | some (.dT _) => True
  | some (.set _ _) => True
  | some (.ins _ _ _) => True
  | some (.ext _) => True
  | _ => False
section
variable {P : Program} {w : World} {H : Hp} {h h' : Heap} {x e : Addr} {o' : HO}
theorem HOk.write (ok : HOk P w H h) (mu : Mut (H x)) (he : e = x ∨ H e = some (.own x)) (k : ∀ b u, b ≠ e → h.get? b = some u → h'.get? b = some u) (heo : ∃ u, h'.get? e = some u)
    (new : ObjOk P w (upd H x o') h' x o') : HOk P w (upd H x o') h' := fun b u q => by
  have nown : ∀ c y, H c = some (.own y) → c ≠ x := fun c y r z => by subst z; rw [r] at mu; exact mu
  have ntup : ∀ c xs, H c = some (.tup xs) → c ≠ x := fun c xs r z => by subst z; rw [r] at mu; exact mu
  by_cases hb : b = x
  · subst hb; rw [upd_same] at q; cases q; exact new
  · rw [upd_ne hb] at q
    by_cases hbe : b = e
    · have q' : H b = some (.own x) := by
        rcases he with z | z
        · exact absurd (hbe.trans z) hb
        · rw [hbe]; exact z
      rw [q] at q'; cases q'
      obtain ⟨v, hv⟩ := heo
      exact ⟨v, by rw [hbe]; exact hv⟩
    · refine (ok b u q).stay (fun c v hc r => k c v ?_ r) (fun c r => by rw [upd_ne (nown c b r)]; exact r) fun c xs r => by rw [upd_ne (ntup c xs r)]; exact r
      rcases hc with rfl | hc
      · exact hbe
      · rintro rfl
        rcases he with z | z
        · exact nown c b hc z
        · rw [hc] at z; cases z; exact hb rfl
end
structure Un (fs ex : List Addr) (H H' : Hp) (h h' : Heap) : Prop where
  keep : ∀ b o, h.get? b = some o → H b = none → b ∉ fs → b ∉ ex → h'.get? b = some o
  slot : ∀ b o, h.get? b = some o → H b = none → b ∈ fs → b ∉ ex → ∃ sl, h'.get? b = some { o with slots := sl }
  free : ∀ b o, h.get? b = some o → H b = none → b ∉ ex → H' b = none
  there : ∀ b o, h.get? b = some o → b ∉ ex → ∃ o', h'.get? b = some o'
  tups : ∀ b xs, H b = some (.tup xs) → H' b = some (.tup xs)
  frzs : ∀ b o u, H b = some (.frz o u) → H' b = some (.frz o u)
  tbls : ∀ b ps, H b = some (.tbl ps) → ∃ more, H' b = some (.tbl (ps ++ more))
section
variable {fs fs' ex ex' : List Addr} {H H1 H2 : Hp} {h h1 h2 h' : Heap} {a x e : Addr} {o : HO}
theorem Un.any (u : Un fs ex H H1 h h1) {b : Addr} {ob : Obj} (q : h.get? b = some ob) (n : H b = none) (hx : b ∉ ex) : ∃ sl, h1.get? b = some { ob with slots := sl } := by
  by_cases hb : b ∈ fs
  · exact u.slot b ob q n hb hx
  · exact ⟨ob.slots, u.keep b ob q n hb hx⟩
theorem Un.kept (k : ∀ b u, h.get? b = some u → h'.get? b = some u) : Un fs ex H H h h' :=
  ⟨fun b ob q _ _ _ => k b ob q, fun b ob q _ _ _ => ⟨ob.slots, k b ob q⟩, fun _ _ _ n _ => n, fun b ob q _ => ⟨ob, k b ob q⟩, fun _ _ q => q, fun _ _ _ q => q, fun _ ps q => ⟨#[], by rw [q]; simp⟩⟩
theorem Un.refl : Un fs ex H H h h := Un.kept fun _ _ q => q
theorem Un.laid (k : ∀ b u, h.get? b = some u → h'.get? b = some u) (hp : h.objs.size ≤ a) (hn : H a = none) : Un fs ex H (upd H a o) h h' where
  keep := fun b u q _ _ _ => k b u q
  slot := fun b u q _ _ _ => ⟨u.slots, k b u q⟩
  free := fun b u q n _ => by rw [upd_ne (Nat.ne_of_lt (Nat.lt_of_lt_of_le (Heap.lt_size q) hp))]; exact n
  there := fun b u q _ => ⟨u, k b u q⟩
  tups := fun b xs q => by rw [upd_ne (ne_of_none q hn)]; exact q
  frzs := fun b u xs q => by rw [upd_ne (ne_of_none q hn)]; exact q
  tbls := fun b ps q => ⟨#[], by rw [upd_ne (ne_of_none q hn), q]; simp⟩
theorem Un.write (mu : Mut (H x)) (he : e = x ∨ H e = some (.own x)) (k : ∀ b u, b ≠ e → h.get? b = some u → h'.get? b = some u) (heo : ∃ u, h'.get? e = some u) : Un fs ex H (upd H x o) h h' := by
  have hx : ∀ b, H b = none → b ≠ x := fun b n z => by subst z; rw [n] at mu; exact mu
  have hb : ∀ b, H b = none → b ≠ e := fun b n z => by
    subst z
    rcases he with r | r
    · exact hx b n r
    · rw [n] at r; cases r
  have hm : ∀ b u, H b = some u → ¬ Mut (some u) → b ≠ x := fun b u q nm z => by subst z; rw [q] at mu; exact nm mu
  refine ⟨fun b u q n _ _ => k b u (hb b n) q, fun b u q n _ _ => ⟨u.slots, k b u (hb b n) q⟩, fun b u q n _ => by rw [upd_ne (hx b n)]; exact n, fun b u q _ => ?_,
    fun b xs q => by rw [upd_ne (hm b _ q fun z => z)]; exact q, fun b u xs q => by rw [upd_ne (hm b _ q fun z => z)]; exact q, fun b ps q => ⟨#[], by rw [upd_ne (hm b _ q fun z => z), q]; simp⟩⟩
  by_cases hbe : b = e
  · subst hbe; exact heo
  · exact ⟨u, k b u hbe q⟩
end
end L2
namespace L2
open PySem PySem.Spec PyProof.Rows
structure Mod (K : PySem.W.Frag) (mg : Str → Option Value) (base : Heap) : Prop where
  kin : K.In base
  glob : base.Ns mainGlobals mg
  blt : ∃ mb, base.Ns builtinsNs mb ∧ ∀ x : Str, x ≠ "__name__" → mb x = bootBuiltins x
  nolimit : base.NoLimit
structure Cx where
  prog : Program
  w : World
  K : PySem.W.Frag
  mg : Str → Option Value
  base : Heap
  A : Around
  N : List Str
  s_0 : Shared
  H_0 : Hp
  env : Env
  outer : List Env
  stack : List Env
  ex : List Addr
  fn : Str → Bool
  calm : Bool
  pn : List (Addr × Obj)
  xe : Value → Shared → Prop
def frs (l : List Env) : List Addr := l.filterMap (·.frame)
abbrev Cx.fs (X : Cx) : List Addr := frs X.outer
def Vis (sc : Scope) (x : Str) : Prop := sc.names.lookup x = some .local ∨ sc.names.lookup x = some .cell ∨ sc.names.lookup x = some .free
def Loc (sc : Scope) (x : Str) : Prop := sc.names.lookup x = some .local ∨ sc.names.lookup x = some .cell
def Look (env : Env) (h : Heap) (m : Str → Option Value) (x : Str) (u : Value) : Prop :=
  (env.kindOf x = some .local ∧ m x = some u) ∨ ((env.kindOf x = some .cell ∨ env.kindOf x = some .free) ∧ ∃ c, env.cells.lookup x = some c ∧ h.IsCell c (some u))
structure Cx.Ok (X : Cx) : Prop where
  mod : Mod X.K X.mg X.base
  kind : X.env.scope.kind = .function
  glob : X.env.globals = mainGlobals
  blt : X.env.builtins = builtinsNs
  above : X.s_0.heap.objs.size ≤ X.env.locals
  inj : ∀ x y c, X.env.cells.lookup x = some c → X.env.cells.lookup y = some c → x = y
  has : ∀ x, (X.env.kindOf x = some .cell ∨ X.env.kindOf x = some .free) → ∃ c, X.env.cells.lookup x = some c
  cab : ∀ x c, X.fn x = true → X.env.cells.lookup x = some c → X.s_0.heap.objs.size ≤ c
  hd : X.calm = true → X.A.handled = none
  frames : X.A.frames = some X.stack
  stk : X.stack = X.outer ∨ (X.stack = X.env :: X.outer ∧ X.env.frame = some X.env.locals)
  exf : ∀ b ∈ X.ex, b ≠ X.env.locals ∧ ∀ x c, X.env.cells.lookup x = some c → c ≠ b
  bs : ∀ b o, X.base.get? b = some o → X.s_0.heap.get? b = some o ∧ X.H_0 b = none
  bsz : X.base.objs.size ≤ X.s_0.heap.objs.size
  noex : ∀ b o, X.base.get? b = some o → b ∉ X.ex
  exfs : ∀ b ∈ X.ex, b ∉ X.fs
  funs : X.s_0.heap.FunFrames X.base X.outer
  frf : ∀ b ∈ X.fs, X.H_0 b = none
structure Inv (X : Cx) (pins : List (Addr × Obj)) (σ : List (Option V)) (H : Hp) (s : Shared) : Prop where
  ok : X.Ok
  os : s.os = X.s_0.os
  bare : AllBare s.gens
  base : Un X.fs X.ex X.H_0 H X.s_0.heap s.heap
  loc : ∃ m, s.heap.Ns X.env.locals m ∧ ∀ (i : Nat) (x : Str) (v : V), X.N[i]? = some x → σ[i]? = some (some v) → Vis X.env.scope x → ∃ u, RelV v u ∧ Look X.env s.heap m x u
  cell : ∀ x c, X.env.cells.lookup x = some c → ∃ v, s.heap.IsCell c v
  free : H X.env.locals = none
  freeC : ∀ x c, X.env.cells.lookup x = some c → H c = none
  pin : ∀ p ∈ X.pn ++ pins, s.heap.get? p.1 = some p.2 ∧ H p.1 = none ∧ p.1 ≠ X.env.locals ∧ p.1 ∉ X.fs ∧ ∀ v, p.2.data ≠ .cell v
  hok : HOk X.prog X.w H s.heap
  len : σ.length = X.N.length
section
variable {X : Cx} {pins : List (Addr × Obj)} {σ : List (Option V)} {H H' : Hp} {s : Shared} {h' : Heap}
theorem Cx.Ok.nofr (ok : X.Ok) {b : Addr} {o : Obj} (e : X.base.get? b = some o) : b ∉ X.fs := fun hb => by
  have := (ok.funs.mem hb).1
  rw [e] at this; cases this
theorem Inv.bs (I : Inv X pins σ H s) : ∀ b o, X.base.get? b = some o → s.heap.get? b = some o ∧ H b = none := fun b o e =>
  ⟨I.base.keep b o (I.ok.bs b o e).1 (I.ok.bs b o e).2 (I.ok.nofr e) (I.ok.noex b o e), I.base.free b o (I.ok.bs b o e).1 (I.ok.bs b o e).2 (I.ok.noex b o e)⟩
theorem Inv.bk (I : Inv X pins σ H s) : ∀ b o, X.base.get? b = some o → s.heap.get? b = some o := fun b o e => (I.bs b o e).1
theorem Inv.mod (I : Inv X pins σ H s) : Mod X.K X.mg X.base := I.ok.mod
theorem Inv.kIn (I : Inv X pins σ H s) : X.K.In s.heap := I.ok.mod.kin.keeps I.bk
theorem Inv.lt (I : Inv X pins σ H s) : X.env.locals < s.heap.objs.size := let ⟨_, hn, _⟩ := I.loc; hn.lt
theorem Inv.sz (I : Inv X pins σ H s) : X.s_0.heap.objs.size ≤ s.heap.objs.size := Nat.le_trans I.ok.above (Nat.le_of_lt I.lt)
theorem Inv.nofs (I : Inv X pins σ H s) {a : Addr} (h : s.heap.objs.size ≤ a) : a ∉ X.fs := fun hb => by
  obtain ⟨_, o, ho, _⟩ := I.ok.funs.mem hb
  exact absurd (Nat.lt_of_lt_of_le (Heap.lt_size ho) (Nat.le_trans I.sz h)) (Nat.lt_irrefl _)
theorem Inv.cne (I : Inv X pins σ H s) : ∀ x c, X.env.cells.lookup x = some c → c ≠ X.env.locals := fun x c e z => by
  obtain ⟨v, o, ho, hd⟩ := I.cell x c e
  obtain ⟨m, ⟨o', es, ep, ho', hd', _⟩, _⟩ := I.loc
  rw [z, ho'] at ho; cases ho; rw [hd'] at hd; cases hd
theorem Inv.funs (I : Inv X pins σ H s) : s.heap.FunFrames X.base X.outer := by
  have all : ∀ (l : List Env), (∀ b ∈ frs l, b ∈ X.fs) → X.s_0.heap.FunFrames X.base l → s.heap.FunFrames X.base l := by
    intro l
    induction l with
    | nil => intro _ _; trivial
    | cons env r ih =>
      intro hs hl
      obtain ⟨hk, ⟨L, o, hf, hn, ho, hd⟩, hr⟩ := hl
      have hL : L ∈ X.fs := hs L (by unfold frs; rw [List.filterMap_cons, hf]; exact List.mem_cons_self)
      obtain ⟨sl, e⟩ := I.base.slot L o ho (I.ok.frf L hL) hL fun z => I.ok.exfs L z hL
      exact ⟨hk, ⟨L, _, hf, hn, e, hd⟩, ih (fun b hb => hs b (by unfold frs; rw [List.filterMap_cons, hf]; exact List.mem_cons_of_mem _ hb)) hr⟩
  exact all X.outer (fun _ hb => hb) I.ok.funs
theorem Inv.stack (I : Inv X pins σ H s) : s.heap.FunFrames X.base X.stack := by
  rcases I.ok.stk with e | ⟨e, hf⟩
  · rw [e]; exact I.funs
  · rw [e]
    obtain ⟨m, hn, _⟩ := I.loc
    refine .cons (by rw [I.ok.kind]; decide) hf hn ?_ I.funs
    exact Heap.get?_none_of_le (Nat.le_trans I.ok.bsz I.ok.above)
theorem Inv.stkSub (I : Inv X pins σ H s) : ∀ b ∈ frs X.stack, b ∈ X.env.locals :: X.fs := fun b hb => by
  rcases I.ok.stk with e | ⟨e, hf⟩
  · rw [e] at hb; exact List.mem_cons_of_mem _ hb
  · rw [e] at hb
    unfold frs at hb
    rw [List.filterMap_cons, hf] at hb
    exact hb
theorem Inv.stkFree (I : Inv X pins σ H s) : ∀ b ∈ frs X.stack, H b = none := fun b hb => by
  rcases List.mem_cons.mp (I.stkSub b hb) with e | hb
  · rw [e]; exact I.free
  · obtain ⟨_, o, ho, _⟩ := I.ok.funs.mem hb
    exact I.base.free b o ho (I.ok.frf b hb) fun z => I.ok.exfs b z hb
theorem Inv.step {g' : Array GenState} {t' : Nat} {d' : Drawn} {ch : List Addr} (I : Inv X pins σ H s)
    (hch : ∀ b ∈ ch, (b ∈ X.ex ∨ X.s_0.heap.objs.size ≤ b) ∧ b ≠ X.env.locals ∧ (∀ x c, X.env.cells.lookup x = some c → c ≠ b) ∧ ∀ p ∈ X.pn ++ pins, p.1 ≠ b)
    (keep : ∀ b o, b ≠ X.env.locals → b ∉ X.fs → b ∉ ch → s.heap.get? b = some o → H b = none → h'.get? b = some o)
    (slot : ∀ b o, b ≠ X.env.locals → b ∈ X.fs → b ∉ ch → s.heap.get? b = some o → H b = none → ∃ sl, h'.get? b = some { o with slots := sl }) (free : ∀ b o, b ∉ ch → s.heap.get? b = some o → H b = none → H' b = none)
    (there : ∀ b o, b ∉ ch → s.heap.get? b = some o → ∃ o', h'.get? b = some o')
    (tups : ∀ b xs, H b = some (.tup xs) → H' b = some (.tup xs)) (frzs : ∀ b o u, H b = some (.frz o u) → H' b = some (.frz o u)) (tbls : ∀ b ps, H b = some (.tbl ps) → ∃ more, H' b = some (.tbl (ps ++ more)))
    (ns : ∀ m, s.heap.Ns X.env.locals m → h'.Ns X.env.locals m) (hok : HOk X.prog X.w H' h') (hg : AllBare g') :
    Inv X pins σ H' { s with heap := h', gens := g', drawn := d', toks := t' } := by
  have neL : ∀ b o, X.s_0.heap.get? b = some o → b ≠ X.env.locals := fun b o e => Nat.ne_of_lt (Nat.lt_of_lt_of_le (Heap.lt_size e) I.ok.above)
  have neC : ∀ b o, X.s_0.heap.get? b = some o → b ∉ X.ex → b ∉ ch := fun b o e hx hb => by
    rcases (hch b hb).1 with z | z
    · exact hx z
    · exact absurd (Nat.lt_of_lt_of_le (Heap.lt_size e) z) (Nat.lt_irrefl _)
  have cellK : ∀ x c, X.env.cells.lookup x = some c → ∀ v, s.heap.IsCell c v → h'.IsCell c v := fun x c e v ⟨o, ho, hd⟩ => by
    have nch : c ∉ ch := fun z => (hch c z).2.2.1 x c e rfl
    by_cases hc : c ∈ X.fs
    · obtain ⟨sl, q⟩ := slot c o (I.cne x c e) hc nch ho (I.freeC x c e)
      exact ⟨_, q, hd⟩
    · exact ⟨o, keep c o (I.cne x c e) hc nch ho (I.freeC x c e), hd⟩
  refine ⟨I.ok, I.os, hg, ⟨fun b o e n hb hx => ?_, fun b o e n hb hx => ?_, fun b o e n hx => ?_, fun b o e hx => ?_, fun b xs e => tups b xs (I.base.tups b xs e), fun b o xs e => frzs b o xs (I.base.frzs b o xs e), fun b ps e => ?_⟩, ?_, fun x c e => ?_, ?_, fun x c e => ?_, fun p hp => ?_, hok, I.len⟩
  · exact keep b o (neL b o e) hb (neC b o e hx) (I.base.keep b o e n hb hx) (I.base.free b o e n hx)
  · obtain ⟨sl, e1⟩ := I.base.slot b o e n hb hx
    obtain ⟨sl', e2⟩ := slot b _ (neL b o e) hb (neC b o e hx) e1 (I.base.free b o e n hx)
    exact ⟨sl', e2⟩
  · obtain ⟨o', e1⟩ := I.base.there b o e hx
    exact free b o' (neC b o e hx) e1 (I.base.free b o e n hx)
  · obtain ⟨o', e1⟩ := I.base.there b o e hx
    exact there b o' (neC b o e hx) e1
  · obtain ⟨m1, e1⟩ := I.base.tbls b ps e
    obtain ⟨m2, e2⟩ := tbls b _ e1
    exact ⟨m1 ++ m2, by rw [e2, Array.append_assoc]⟩
  · obtain ⟨m, hn, hl⟩ := I.loc
    refine ⟨m, ns m hn, fun i x v e1 e2 e3 => ?_⟩
    obtain ⟨u, r, l⟩ := hl i x v e1 e2 e3
    refine ⟨u, r, ?_⟩
    rcases l with l | ⟨k, c, e, z⟩
    · exact .inl l
    · exact .inr ⟨k, c, e, cellK x c e _ z⟩
  · obtain ⟨v, z⟩ := I.cell x c e
    exact ⟨v, cellK x c e v z⟩
  · obtain ⟨m, ⟨o, _, _, ho, _⟩, _⟩ := I.loc
    exact free _ o (fun z => (hch _ z).2.1 rfl) ho I.free
  · obtain ⟨v, o, ho, hd⟩ := I.cell x c e
    exact free c o (fun z => (hch c z).2.2.1 x c e rfl) ho (I.freeC x c e)
  · obtain ⟨e, n, ne, nf, d⟩ := I.pin p hp
    have nch : p.1 ∉ ch := fun z => (hch p.1 z).2.2.2 p hp rfl
    exact ⟨keep p.1 p.2 ne nf nch e n, free p.1 p.2 nch e n, ne, nf, d⟩
theorem Inv.un {t' : Nat} (I : Inv X pins σ H s) (u : Un X.fs [] H H' s.heap h') (hok : HOk X.prog X.w H' h') : Inv X pins σ H' { s with heap := h', toks := t' } := by
  obtain ⟨m, ⟨o, es, ep, ho, r⟩, _⟩ := id I.loc
  obtain ⟨sl, hL⟩ := u.any ho I.free (by simp)
  exact I.step (g' := s.gens) (d' := s.drawn) (ch := []) (fun _ z => nomatch z) (fun b o _ hb _ e n => u.keep b o e n hb (by simp)) (fun b o _ hb _ e n => u.slot b o e n hb (by simp)) (fun b o _ e n => u.free b o e n (by simp)) (fun b o _ e => u.there b o e (by simp)) u.tups u.frzs u.tbls (fun m' hm => by
    obtain ⟨o', es', ep', ho', r'⟩ := hm
    rw [ho] at ho'; cases ho'
    exact ⟨_, es', ep', hL, r'⟩) hok I.bare
theorem Inv.call {g' : Array GenState} {t' : Nat} {d' : Drawn} {ch : List Addr} (I : Inv X pins σ H s) (u : Un (frs X.stack) ch H H' s.heap h') (hok : HOk X.prog X.w H' h') (hg : AllBare g')
    (hch : ∀ b ∈ ch, (b ∈ X.ex ∨ X.s_0.heap.objs.size ≤ b) ∧ b ≠ X.env.locals ∧ (∀ x c, X.env.cells.lookup x = some c → c ≠ b) ∧ ∀ p ∈ X.pn ++ pins, p.1 ≠ b) :
    Inv X pins σ H' { s with heap := h', gens := g', drawn := d', toks := t' } := by
  obtain ⟨m, ⟨o, es, ep, ho, r⟩, _⟩ := id I.loc
  obtain ⟨sl, hL⟩ := u.any ho I.free fun z => (hch _ z).2.1 rfl
  exact I.step (ch := ch) hch (fun b o hL hb hc e n => u.keep b o e n (fun z => (List.mem_cons.mp (I.stkSub b z)).elim hL hb) hc) (fun b o _ _ hc e n => u.any e n hc) (fun b o hc e n => u.free b o e n hc) (fun b o hc e => u.there b o e hc) u.tups u.frzs u.tbls (fun m' hm => by
    obtain ⟨o', es', ep', ho', r'⟩ := hm
    rw [ho] at ho'; cases ho'
    exact ⟨_, es', ep', hL, r'⟩) hok hg
theorem Inv.turned {t' : Nat} {it : Addr} (I : Inv X pins σ H s) (k : ∀ b o, b ≠ it → s.heap.get? b = some o → h'.get? b = some o) (hn : H it = none) (hL : it ≠ X.env.locals)
    (h1 : it ∈ X.ex ∨ X.s_0.heap.objs.size ≤ it) (h2 : ∀ x c, X.env.cells.lookup x = some c → c ≠ it) (h3 : ∀ p ∈ X.pn ++ pins, p.1 ≠ it) : Inv X pins σ H { s with heap := h', toks := t' } := by
  have nit : ∀ b u, H b = some u → b ≠ it := fun b u e z => by rw [z, hn] at e; cases e
  refine I.step (g' := s.gens) (d' := s.drawn) (ch := [it]) (fun b hb => ?_) (fun b o _ _ hc e _ => k b o (fun z => hc (by simp [z])) e) (fun b o _ _ hc e _ => ⟨o.slots, k b o (fun z => hc (by simp [z])) e⟩) (fun _ _ _ _ n => n)
    (fun b o hc e => ⟨o, k b o (fun z => hc (by simp [z])) e⟩) (fun _ _ e => e) (fun _ _ _ e => e) (fun b ps e => ⟨#[], by rw [e]; simp⟩) (fun m hm => ?_) (fun b u e => ?_) I.bare
  · have e : b = it := by simpa using hb
    subst e
    exact ⟨h1, hL, h2, h3⟩
  · obtain ⟨o, es, ep, ho, r⟩ := hm
    exact ⟨o, es, ep, k _ o (Ne.symm hL) ho, r⟩
  · refine (I.hok b u e).stay (fun c v hc q => k c v ?_ q) (fun _ q => q) fun _ _ q => q
    rcases hc with z | z
    · rw [z]; exact nit b u e
    · exact nit c _ z
theorem Inv.tok (I : Inv X pins σ H s) (t : Nat) : Inv X pins σ H { s with toks := t } := I.un (h' := s.heap) (t' := t) Un.refl I.hok
theorem Inv.kept {t' : Nat} (I : Inv X pins σ H s) (k : ∀ b u, s.heap.get? b = some u → h'.get? b = some u) : Inv X pins σ H { s with heap := h', toks := t' } := I.un (Un.kept k) (I.hok.kept k)
theorem Inv.laid {a : Addr} {o : HO} {t' : Nat} (I : Inv X pins σ H s) (k : ∀ b u, s.heap.get? b = some u → h'.get? b = some u) (hp : s.heap.objs.size ≤ a) (new : ObjOk X.prog X.w (upd H a o) h' a o) :
    Inv X pins σ (upd H a o) { s with heap := h', toks := t' } := I.un (Un.laid k hp (I.hok.fresh hp)) (I.hok.laid k hp new)
theorem Inv.write {x e : Addr} {o : HO} {t' : Nat} (I : Inv X pins σ H s) (mu : Mut (H x)) (he : e = x ∨ H e = some (.own x)) (k : ∀ b u, b ≠ e → s.heap.get? b = some u → h'.get? b = some u) (heo : ∃ u, h'.get? e = some u)
    (new : ObjOk X.prog X.w (upd H x o) h' x o) : Inv X pins σ (upd H x o) { s with heap := h', toks := t' } := I.un (Un.write mu he k heo) (I.hok.write mu he k heo new)
theorem Inv.weak {σ' : List (Option V)} (I : Inv X pins σ H s) (hl : σ'.length = σ.length) (w : ∀ (i : Nat) v, σ'[i]? = some (some v) → σ[i]? = some (some v)) : Inv X pins σ' H s :=
  ⟨I.ok, I.os, I.bare, I.base, let ⟨m, hn, hl'⟩ := I.loc; ⟨m, hn, fun i x v e1 e2 e3 => hl' i x v e1 (w i v e2) e3⟩, I.cell, I.free, I.freeC, I.pin, I.hok, hl.trans I.len⟩
theorem Inv.pins_of {pins' : List (Addr × Obj)} (I : Inv X pins σ H s) (h : ∀ p ∈ pins', s.heap.get? p.1 = some p.2 ∧ H p.1 = none ∧ p.1 ≠ X.env.locals ∧ p.1 ∉ X.fs ∧ ∀ v, p.2.data ≠ .cell v) : Inv X pins' σ H s :=
  ⟨I.ok, I.os, I.bare, I.base, I.loc, I.cell, I.free, I.freeC, fun p hp => (List.mem_append.mp hp).elim (fun z => I.pin p (List.mem_append_left _ z)) (h p), I.hok, I.len⟩
theorem nodup_ix {N : List Str} (hN : N.Nodup) {i j : Nat} {x : Str} (a : N[i]? = some x) (b : N[j]? = some x) : i = j := by
  obtain ⟨h1, e1⟩ := List.getElem?_eq_some_iff.mp a
  obtain ⟨h2, e2⟩ := List.getElem?_eq_some_iff.mp b
  exact (List.getElem_inj hN).mp (e1.trans e2.symm)
theorem store_ok2 {M : Model} {A : Around} {E : Value → Shared → Prop} {i : Nat} {x : Str} {v : V} {u : Value} {Q : Unit → Shared → Prop} (I : Inv X pins σ H s) (hN : X.N.Nodup) (hi : X.N[i]? = some x) (hx : Loc X.env.scope x) (r : RelV v u)
    (h : ∀ s', Inv X pins (σ.set i (some v)) H s' → (∃ a, Heap.SameBut a s.heap s'.heap ∧ (a = X.env.locals ∨ X.env.cells.lookup x = some a)) → Q () s') (hf : X.fn x = true ∨ X.env.scope.names.lookup x = some .local := by first | exact .inl rfl | exact .inr rfl | assumption) : wpAny M A (storeName X.env x u) Q E s := by
  obtain ⟨m, hn, hl⟩ := id I.loc
  have hcls : (X.env.scope.kind == .class || (X.env.scope.kind == .module && X.env.locals != X.env.globals)) = false := by rw [I.ok.kind]; rfl
  have hiσ : i < σ.length := by rw [I.len]; exact (List.getElem?_eq_some_iff.mp hi).1
  have cne := I.cne
  have tracked : ∀ {a : Addr} {h' : Heap}, (∃ o, s.heap.get? a = some o ∧ H a = none) → Heap.SameBut a s.heap h' → HOk X.prog X.w H h' := fun {a h'} ha hs b ob e => by
    obtain ⟨_, _, hfree⟩ := ha
    refine (I.hok b ob e).stay (fun c w' hc q => (hs.2 c ?_).trans q) (fun _ q => q) fun _ _ q => q
    rintro rfl
    rcases hc with rfl | hc
    · rw [hfree] at e; cases e
    · rw [hfree] at hc; cases hc
  rcases hx with hk | hk
  · refine wpAny_storeName_local hk hn (fun h' hn' hs => ?_) hcls
    obtain ⟨oL, _, _, hoL, _⟩ := id hn
    refine h _ ⟨I.ok, I.os, I.bare, ⟨fun b o e n hb hx => ?_, fun b o e n hb hx => ?_, I.base.free, fun b o e hx => ?_, I.base.tups, I.base.frzs, I.base.tbls⟩, ⟨_, hn', fun j y v' e1 e2 e3 => ?_⟩, fun y c e => ?_, I.free, I.freeC, fun p hp => ?_, tracked ⟨oL, hoL, I.free⟩ hs, by simpa using I.len⟩ ⟨_, hs, .inl rfl⟩
    · exact (hs.2 b (Nat.ne_of_lt (Nat.lt_of_lt_of_le (Heap.lt_size e) I.ok.above))).trans (I.base.keep b o e n hb hx)
    · obtain ⟨sl, e1⟩ := I.base.slot b o e n hb hx
      exact ⟨sl, (hs.2 b (Nat.ne_of_lt (Nat.lt_of_lt_of_le (Heap.lt_size e) I.ok.above))).trans e1⟩
    · obtain ⟨o', e1⟩ := I.base.there b o e hx
      exact ⟨o', (hs.2 b (Nat.ne_of_lt (Nat.lt_of_lt_of_le (Heap.lt_size e) I.ok.above))).trans e1⟩
    · by_cases hj : j = i
      · subst hj
        rw [hi] at e1; cases e1
        rw [List.getElem?_set_self hiσ] at e2
        cases e2
        exact ⟨u, r, .inl ⟨hk, by simp⟩⟩
      · rw [List.getElem?_set_ne (Ne.symm hj)] at e2
        obtain ⟨u', r', q⟩ := hl j y v' e1 e2 e3
        refine ⟨u', r', ?_⟩
        rcases q with ⟨k, e⟩ | ⟨k, c, e, z⟩
        · refine .inl ⟨k, ?_⟩
          have : y ≠ x := fun e => hj (nodup_ix hN e1 (e ▸ hi))
          simp [this, e]
        · exact .inr ⟨k, c, e, z.sameBut hs (cne y c e)⟩
    · obtain ⟨w', z⟩ := I.cell y c e
      exact ⟨w', z.sameBut hs (cne y c e)⟩
    · obtain ⟨e, n, ne, nf, d⟩ := I.pin p hp
      exact ⟨(hs.2 p.1 ne).trans e, n, ne, nf, d⟩
  · have hfn : X.fn x = true := by
      rcases hf with z | z
      · exact z
      · rw [z] at hk; cases hk
    obtain ⟨c, hc⟩ := I.ok.has x (.inl hk)
    obtain ⟨w', z⟩ := I.cell x c hc
    refine wpAny_storeName_cell I.ok.kind hk hc z (fun h' hc' hs => ?_)
    obtain ⟨oc, hoc, hocd⟩ := id z
    refine h { s with heap := h' } ⟨I.ok, I.os, I.bare, ⟨fun b o e n hb hx => ?_, fun b o e n hb hx => ?_, I.base.free, fun b o e hx => ?_, I.base.tups, I.base.frzs, I.base.tbls⟩, ⟨m, hn.sameBut hs (Ne.symm (cne x c hc)), fun j y v' e1 e2 e3 => ?_⟩, fun y c' e => ?_, I.free, I.freeC, fun p hp => ?_, tracked ⟨oc, hoc, I.freeC x c hc⟩ hs, by simpa using I.len⟩ ⟨c, hs, .inr hc⟩
    · exact (hs.2 b (Nat.ne_of_lt (Nat.lt_of_lt_of_le (Heap.lt_size e) (I.ok.cab x c hfn hc)))).trans (I.base.keep b o e n hb hx)
    · obtain ⟨sl, e1⟩ := I.base.slot b o e n hb hx
      exact ⟨sl, (hs.2 b (Nat.ne_of_lt (Nat.lt_of_lt_of_le (Heap.lt_size e) (I.ok.cab x c hfn hc)))).trans e1⟩
    · obtain ⟨o', e1⟩ := I.base.there b o e hx
      exact ⟨o', (hs.2 b (Nat.ne_of_lt (Nat.lt_of_lt_of_le (Heap.lt_size e) (I.ok.cab x c hfn hc)))).trans e1⟩
    · by_cases hj : j = i
      · subst hj
        rw [hi] at e1; cases e1
        rw [List.getElem?_set_self hiσ] at e2
        cases e2
        exact ⟨u, r, .inr ⟨.inl hk, c, hc, hc'⟩⟩
      · rw [List.getElem?_set_ne (Ne.symm hj)] at e2
        obtain ⟨u', r', q⟩ := hl j y v' e1 e2 e3
        refine ⟨u', r', ?_⟩
        rcases q with q | ⟨k, c', e, z'⟩
        · exact .inl q
        · refine .inr ⟨k, c', e, z'.sameBut hs ?_⟩
          rintro rfl
          exact hj (nodup_ix hN e1 (I.ok.inj _ _ _ e hc ▸ hi))
    · by_cases hcc : c' = c
      · subst hcc; exact ⟨_, hc'⟩
      · obtain ⟨w2, z2⟩ := I.cell y c' e
        exact ⟨w2, z2.sameBut hs hcc⟩
    · obtain ⟨e, n, ne, nf, d⟩ := I.pin p hp
      refine ⟨(hs.2 p.1 ?_).trans e, n, ne, nf, d⟩
      intro q
      rw [q, hoc] at e
      have q' : oc = p.2 := Option.some.inj e
      exact d w' (by rw [← q']; exact hocd)
theorem store_ok {M : Model} {A : Around} {E : Value → Shared → Prop} {i : Nat} {x : Str} {v : V} {u : Value} {Q : Unit → Shared → Prop} (I : Inv X pins σ H s) (hN : X.N.Nodup) (hi : X.N[i]? = some x) (hx : Loc X.env.scope x) (r : RelV v u)
    (h : ∀ s', Inv X pins (σ.set i (some v)) H s' → Q () s') (hf : X.fn x = true ∨ X.env.scope.names.lookup x = some .local := by first | exact .inl rfl | exact .inr rfl | assumption) : wpAny M A (storeName X.env x u) Q E s :=
  store_ok2 I hN hi hx r (fun s' I' _ => h s' I') hf
theorem Inv.call' {s' : Shared} {ch : List Addr} (I : Inv X pins σ H s) (ho : s'.os = s.os) (u : Un (frs X.stack) ch H H' s.heap s'.heap) (hok : HOk X.prog X.w H' s'.heap) (hg : AllBare s'.gens)
    (hch : ∀ b ∈ ch, (b ∈ X.ex ∨ X.s_0.heap.objs.size ≤ b) ∧ b ≠ X.env.locals ∧ (∀ x c, X.env.cells.lookup x = some c → c ≠ b) ∧ ∀ p ∈ X.pn ++ pins, p.1 ≠ b) : Inv X pins σ H' s' := by
  obtain ⟨h', g', d', t', o'⟩ := s'
  have e : o' = s.os := ho
  subst e
  exact I.call (g' := g') (t' := t') (d' := d') u hok hg hch
end
abbrev XK := Value → Option Addr → Hp → Prop
abbrev St := List (Option V)
abbrev VK := V → Hp → Prop
abbrev TE := St → Hp → VK → Prop
abbrev TT := St → Hp → (Bool → Hp → Prop) → Prop
abbrev TA := St → Hp → (List V → Hp → Prop) → Prop
structure Ends where
  nx : St → Hp → Prop
  rt : VK
  bk : St → Hp → Prop := fun _ _ => False
  ct : St → Hp → Prop := fun _ _ => False
abbrev TS := Ends → St → Hp → Prop
def EP (X : Cx) (pins : List (Addr × Obj)) (σ : St) (Q : VK) (u : Value) (s' : Shared) : Prop := ∃ v H', Inv X pins σ H' s' ∧ RelV v u ∧ Q v H'
def TP (X : Cx) (pins : List (Addr × Obj)) (σ : St) (Q : Bool → Hp → Prop) (b : Bool) (s' : Shared) : Prop := ∃ H', Inv X pins σ H' s' ∧ Q b H'
def AP (X : Cx) (pins : List (Addr × Obj)) (σ : St) (Q : List V → Hp → Prop) (us : List Value) (s' : Shared) : Prop := ∃ vs H', Inv X pins σ H' s' ∧ Vals vs us ∧ Q vs H'
def SP (X : Cx) (pins : List (Addr × Obj)) (D : Ends) (f : Flow) (s' : Shared) : Prop :=
  match f with
  | .next => ∃ σ' H', Inv X pins σ' H' s' ∧ D.nx σ' H'
  | .brk => ∃ σ' H', Inv X pins σ' H' s' ∧ D.bk σ' H'
  | .cont => ∃ σ' H', Inv X pins σ' H' s' ∧ D.ct σ' H'
  | .ret u => ∃ v σ' H', Inv X pins σ' H' s' ∧ RelV v u ∧ D.rt v H'
def PE (X : Cx) (e : Expr) (t : TE) : Prop :=
  ∀ (pins : List (Addr × Obj)) (s : Shared) (σ : St) (H : Hp) (Q : VK), Inv X pins σ H s → t σ H Q → wpAny (model X.prog X.w) X.A (eval e X.env) (EP X pins σ Q) X.xe s
def PT (X : Cx) (e : Expr) (t : TT) : Prop :=
  ∀ (pins : List (Addr × Obj)) (s : Shared) (σ : St) (H : Hp) (Q : Bool → Hp → Prop), Inv X pins σ H s → t σ H Q → wpAny (model X.prog X.w) X.A (isTrue e X.env (eval e X.env)) (TP X pins σ Q) X.xe s
def PW (X : Cx) (e : Expr) (t : TT) : Prop :=
  ∀ (whole : Sem Value) (pins : List (Addr × Obj)) (s : Shared) (σ : St) (H : Hp) (Q : Bool → Hp → Prop), Inv X pins σ H s → t σ H Q → wpAny (model X.prog X.w) X.A (isTrue e X.env whole) (TP X pins σ Q) X.xe s
theorem PW.pt {X : Cx} {e : Expr} {t : TT} (h : PW X e t) : PT X e t := h _
def PA (X : Cx) (es : List Expr) (t : TA) : Prop :=
  ∀ (pos : Pos) (pins : List (Addr × Obj)) (s : Shared) (σ : St) (H : Hp) (Q : List V → Hp → Prop), Inv X pins σ H s → t σ H Q → wpAny (model X.prog X.w) X.A (spliced (backTo pos (starEach es X.env))) (AP X pins σ Q) X.xe s
def PS (X : Cx) (st : Stmt) (t : TS) : Prop :=
  ∀ (pins : List (Addr × Obj)) (s : Shared) (σ : St) (H : Hp) (D : Ends), Inv X pins σ H s → t D σ H → wpAny (model X.prog X.w) X.A (exec st X.env) (SP X pins D) X.xe s
def PSs (X : Cx) (st : List Stmt) (t : TS) : Prop :=
  ∀ (pins : List (Addr × Obj)) (s : Shared) (σ : St) (H : Hp) (D : Ends), Inv X pins σ H s → t D σ H → wpAny (model X.prog X.w) X.A (execs st X.env) (SP X pins D) X.xe s
theorem thn {α : Type} {t : Sem α} {Q Q' : α → Shared → Prop} {M : Model} {A : Around} {E : Value → Shared → Prop} {s : Shared} (h : wpAny M A t Q E s) (hQ : ∀ a s, Q a s → Q' a s) : wpAny M A t Q' E s := wpAny_mono h hQ fun _ _ x => x
end L2
namespace L2
open PySem PySem.Spec PyProof.Rows
section
variable {X : Cx}
def tVar (i : Nat) : TE := fun σ H Q => ∃ v, σ[i]? = some (some v) ∧ Q v H
def tC (v : V) : TE := fun _ H Q => Q v H
theorem pe_var {i : Nat} {x : Str} {pos : Pos} (hN : X.N[i]? = some x) (hv : Vis X.env.scope x) (hd : (x == ("__debug__" : Str)) = false := by decide) (hcd : (x == ("__classdict__" : Str)) = false := by decide) : PE X (.Name x pos) (tVar i) := by
  intro pins s σ H Q I h
  obtain ⟨v, e, h⟩ := h
  obtain ⟨m, hn, hl⟩ := I.loc
  obtain ⟨u, r, l⟩ := hl i x v hN e hv
  have fin : EP X pins σ Q u s := ⟨v, H, I, r, h⟩
  rcases l with ⟨hk, hm⟩ | ⟨hk, c, hc, hcell⟩
  · exact wpAny_Name (wpAny_loadName_local I.ok.kind hk hn hm fin) hd
  · rcases hk with hk | hk
    · exact wpAny_Name (wpAny_loadName_cell I.ok.kind hk hc hcell fin) hd
    · exact wpAny_Name (wpAny_loadName_free I.ok.kind hk hc hcell fin hcd) hd
theorem pe_int {i j pos} : PE X (.Constant (.int i) j pos) (tC (.int i)) := fun _ _ _ H _ I h => wpAny_Constant_int ⟨.int i, H, I.tok _, ⟨_, rfl⟩, h⟩
theorem pe_bl {b j pos} : PE X (.Constant (.bool b) j pos) (tC (.bl b)) := fun _ _ _ H _ I h => Constant_bool ⟨.bl b, H, I, rfl, h⟩
theorem pe_non {j pos} : PE X (.Constant .none j pos) (tC .non) := fun _ _ _ H _ I h => Constant_none ⟨.non, H, I, rfl, h⟩
def Gl (X : Cx) (x : Str) : Prop := X.env.kindOf x = some .globalImplicit
theorem ld_glob {E : Value → Shared → Prop} {pins : List (Addr × Obj)} {s : Shared} {σ : St} {H : Hp} {x : Str} {u : Value} {pos : Pos} {Q : Value → Shared → Prop} (I : Inv X pins σ H s) (hg : Gl X x) (hm : X.mg x = some u) (h : Q u s)
    (hd : (x == ("__debug__" : Str)) = false := by decide) : wpAny (model X.prog X.w) X.A (eval (.Name x pos) X.env) Q E s :=
  Calls.Name_function_global I.ok.kind hg (Calls.loadGlobal_global (by rw [I.ok.glob]; exact I.mod.glob.keeps I.bk) hm h) hd
theorem ld_blt {E : Value → Shared → Prop} {pins : List (Addr × Obj)} {s : Shared} {σ : St} {H : Hp} {x : Str} {u : Value} {pos : Pos} {Q : Value → Shared → Prop} (I : Inv X pins σ H s) (hg : Gl X x) (hm : X.mg x = none) (hv : bootBuiltins x = some u) (h : Q u s)
    (hn : x ≠ "__name__" := by decide) (hd : (x == ("__debug__" : Str)) = false := by decide) : wpAny (model X.prog X.w) X.A (eval (.Name x pos) X.env) Q E s := by
  obtain ⟨mb, h1, h2⟩ := I.mod.blt
  exact Calls.Name_function_global I.ok.kind hg (Calls.loadGlobal_builtin (by rw [I.ok.glob]; exact I.mod.glob.keeps I.bk) hm (by rw [I.ok.blt]; exact h1.keeps I.bk) ((h2 x hn).trans hv) h) hd
theorem pe_glob {x : Str} {v : V} {u : Value} {pos : Pos} (hg : Gl X x) (hm : X.mg x = some u) (r : RelV v u) (hd : (x == ("__debug__" : Str)) = false := by decide) : PE X (.Name x pos) (tC v) :=
  fun _ _ _ H _ I h => ld_glob I hg hm ⟨v, H, I, r, h⟩ hd
variable {a b : Expr} {ta tb : TE} {pos : Pos}
def PC (X : Cx) (op : CmpOp) (a b : Expr) (t : TE) : Prop :=
  ∀ (pins : List (Addr × Obj)) (s : Shared) (σ : St) (H : Hp) (Q : VK), Inv X pins σ H s → t σ H Q →
    wpAny (model X.prog X.w) X.A (eval a X.env) (fun v s₁ => wpAny (model X.prog X.w) X.A (eval b X.env) (fun u s₂ => wpAny (model X.prog X.w) X.A (compareOp op v u) (EP X pins σ Q) X.xe s₂) X.xe s₁) X.xe s
theorem nobehind (b : Expr) {op : CmpOp} (h : op ≠ .In) (h2 : op ≠ .NotIn) : behindInMarks op b = false := by
  have e1 : (op == CmpOp.In) = false := by cases op <;> first | rfl | exact absurd rfl h
  have e2 : (op == CmpOp.NotIn) = false := by cases op <;> first | rfl | exact absurd rfl h2
  cases b <;> simp [behindInMarks, e1, e2]
def tIsN (ta : TE) : TE := fun σ H Q => ta σ H fun x H1 => Q (.bl (decide (x = .non))) H1
def tNotN (ta : TE) : TE := fun σ H Q => ta σ H fun x H1 => Q (.bl (!decide (x = .non))) H1
theorem RelV.none_iff {x : V} {v : Value} (r : RelV x v) : (v == Value.none) = decide (x = .non) := by
  cases x with
  | non => cases r; rfl
  | bl _ => cases r; rfl
  | int _ => obtain ⟨t, rfl⟩ := r; rfl
  | str _ => obtain ⟨t, rfl⟩ := r; rfl
  | byt _ => obtain ⟨t, rfl⟩ := r; rfl
  | flt _ => obtain ⟨t, rfl⟩ := r; rfl
  | ref _ => cases r; rfl
  | ty _ => cases r; rfl
theorem pc_isN {j pos'} (ha : PE X a ta) : PC X .Is a (.Constant .none j pos') (tIsN ta) := by
  intro pins s σ H Q I h
  refine thn (ha pins s σ H _ I h) fun v s1 ⟨x, H1, I1, r1, q1⟩ => ?_
  exact Constant_none (is_none_gen ⟨.bl _, H1, I1, by rw [r1.none_iff]; rfl, q1⟩)
theorem pc_notN {j pos'} (ha : PE X a ta) : PC X .IsNot a (.Constant .none j pos') (tNotN ta) := by
  intro pins s σ H Q I h
  refine thn (ha pins s σ H _ I h) fun v s1 ⟨x, H1, I1, r1, q1⟩ => ?_
  exact Constant_none (isnot_none_gen ⟨.bl _, H1, I1, by rw [r1.none_iff]; rfl, q1⟩)
def tB (t : TE) : TT := fun σ H Q => t σ H fun x H1 => ∃ c, x = .bl c ∧ Q c H1
theorem pt_cmp {op : CmpOp} {t : TE} (h : PC X op a b t) (h1 : behindInMarks op b = false := by first | exact nobehind _ (by decide) (by decide) | rfl) : PT X (.Compare a [op] [b] pos) (tB t) := by
  intro pins s σ H Q I hw
  refine wpAny_isTrue_Compare1 (thn (h pins s σ H _ I hw) fun v s1 h1 => thn h1 fun u s2 h2 => thn h2 fun c s3 ⟨x, H1, I1, r1, q1⟩ => ?_) h1
  obtain ⟨d, rfl, q⟩ := q1
  cases r1
  exact wpAny_truthy_bool ⟨H1, I1, q⟩
theorem pt_val {e : Expr} {t : TE} (h : PE X e t) (he : ∀ whole, isTrue e X.env whole = (do let v ← whole; standAt e.pos; holding [v] (truthy v)) := by intro _; rfl) : PT X e (tB t) := by
  intro pins s σ H Q I hw
  refine isTrue_plain (thn (h pins s σ H _ I hw) fun v s1 ⟨x, H1, I1, r1, q1⟩ => ?_) (he _)
  obtain ⟨d, rfl, q⟩ := q1
  cases r1
  exact wpAny_truthy_bool ⟨H1, I1, q⟩
variable {tA tB' : TT} {rest : List Expr}
def tAnd (t u : TT) : TT := fun σ H Q => t σ H fun c H1 => if c = true then u σ H1 Q else Q false H1
def tOr (t u : TT) : TT := fun σ H Q => t σ H fun c H1 => if c = true then Q true H1 else u σ H1 Q
def tNot (t : TT) : TT := fun σ H Q => t σ H fun c H1 => Q (!c) H1
theorem pw_and1 (ha : PT X a tA) : PW X (.BoolOp .And [a] pos) tA := by
  intro wh pins s σ H Q I h
  refine isTrue_and (thn (ha pins s σ H Q I h) fun c s1 e => ?_)
  cases c with
  | true => exact isTrue_and_nil e
  | false => exact e
theorem pw_or1 (ha : PT X a tA) : PW X (.BoolOp .Or [a] pos) tA := by
  intro wh pins s σ H Q I h
  refine isTrue_or (thn (ha pins s σ H Q I h) fun c s1 e => ?_)
  cases c with
  | false => exact isTrue_or_nil e
  | true => exact e
theorem pw_and (ha : PT X a tA) (hb : PW X (.BoolOp .And (b :: rest) pos) tB') : PW X (.BoolOp .And (a :: b :: rest) pos) (tAnd tA tB') := by
  intro wh pins s σ H Q I h
  refine isTrue_and (thn (ha pins s σ H _ I h) fun c s1 ⟨H1, I1, q1⟩ => ?_)
  cases c with
  | true => exact hb wh pins s1 σ H1 Q I1 q1
  | false => exact ⟨H1, I1, q1⟩
theorem pw_or (ha : PT X a tA) (hb : PW X (.BoolOp .Or (b :: rest) pos) tB') : PW X (.BoolOp .Or (a :: b :: rest) pos) (tOr tA tB') := by
  intro wh pins s σ H Q I h
  refine isTrue_or (thn (ha pins s σ H _ I h) fun c s1 ⟨H1, I1, q1⟩ => ?_)
  cases c with
  | true => exact ⟨H1, I1, q1⟩
  | false => exact hb wh pins s1 σ H1 Q I1 q1
theorem pt_not (ha : PT X a tA) : PT X (.UnaryOp .Not a pos) (tNot tA) := by
  intro pins s σ H Q I h
  exact isTrue_not (ha pins s σ H (fun c H1 => Q (!c) H1) I h)
def tAndV (ta tb : TE) : TE := fun σ H Q => ta σ H fun x H1 => ∃ c, x = .bl c ∧ if c = true then tb σ H1 Q else Q (.bl false) H1
theorem pe_one {op} {t : TE} (h : PE X a t) : PE X (.BoolOp op [a] pos) t := fun pins s σ H Q I hw => BoolOp_one (h pins s σ H Q I hw)
theorem pe_and (ha : PE X a ta) (hb : PE X (.BoolOp .And (b :: rest) pos) tb) : PE X (.BoolOp .And (a :: b :: rest) pos) (tAndV ta tb) := by
  intro pins s σ H Q I h
  refine BoolOp_and (thn (ha pins s σ H _ I h) fun v s1 ⟨x, H1, I1, r1, q1⟩ => ?_)
  obtain ⟨c, rfl, q1⟩ := q1
  cases r1
  refine wpAny_truthy_bool ?_
  cases c with
  | true => exact hb pins s1 σ H1 Q I1 q1
  | false => exact ⟨.bl false, H1, I1, rfl, q1⟩
def tIf (t : TT) (ta tb : TE) : TE := fun σ H Q => t σ H fun c H1 => if c = true then ta σ H1 Q else tb σ H1 Q
theorem pe_ifExp {c : Expr} (hc : PT X c tA) (ha : PE X a ta) (hb : PE X b tb) : PE X (.IfExp c a b pos) (tIf tA ta tb) := by
  intro pins s σ H Q I h
  refine wpAny_IfExp (thn (hc pins s σ H _ I h) fun d s1 ⟨H1, I1, q1⟩ => ?_)
  cases d with
  | true => exact ha pins s1 σ H1 Q I1 q1
  | false => exact hb pins s1 σ H1 Q I1 q1
end
end L2
namespace L2
open PySem PySem.Spec PyProof.Rows
def SqL (K : PySem.W.Frag) (H : Hp) (a : Addr) (xs : List V) : Prop :=
  Rd H a (.lst xs) ∨
    ∃ (o : Obj) (its : Array Value) (n : Nat), K.lookup a = some o ∧ o.cls = .type "list" ∧ o.dict = none ∧ o.data = .seq its n ∧ its.size ≤ sizeLine ∧ Vals xs its.toList
def SqT (K : PySem.W.Frag) (H : Hp) (a : Addr) (xs : List V) : Prop :=
  Rd H a (.tup xs) ∨
    ∃ (o : Obj) (its : Array Value) (n : Nat), K.lookup a = some o ∧ o.cls = .type "tuple" ∧ o.data = .seq its n ∧ its.size ≤ sizeLine ∧ Vals xs its.toList
def absV : Value → Option V
  | .none => some .non
  | .bool b => some (.bl b)
  | .int i _ => some (.int i)
  | .str x _ => some (.str x)
  | .bytes b _ => some (.byt b)
  | .float b _ => some (.flt b)
  | .ref a => some (.ref a)
  | .type n => some (.ty n)
  | _ => none
theorem RelV.abs {x : V} {u : Value} (r : RelV x u) : absV u = some x := by
  cases x with
  | non => cases r; rfl
  | bl _ => cases r; rfl
  | int _ => obtain ⟨t, rfl⟩ := r; rfl
  | str _ => obtain ⟨t, rfl⟩ := r; rfl
  | byt _ => obtain ⟨t, rfl⟩ := r; rfl
  | flt _ => obtain ⟨t, rfl⟩ := r; rfl
  | ref _ => cases r; rfl
  | ty _ => cases r; rfl
theorem RelV.inj {x y : V} {u : Value} (r : RelV x u) (q : RelV y u) : x = y := Option.some.inj (r.abs.symm.trans q.abs)
theorem Vals.inj : ∀ {xs ys : List V} {us : List Value}, Vals xs us → Vals ys us → xs = ys
  | _, _, _, .nil, .nil => rfl
  | _, _, _, .cons r t, .cons r' t' => by rw [r.inj r', Vals.inj t t']
section
variable {X : Cx} {pins : List (Addr × Obj)} {σ : St} {H : Hp} {s : Shared} {a : Addr} {xs ys : List V}
theorem SqL.of {K : PySem.W.Frag} (h : H a = some (.lst xs)) : SqL K H a xs := .inl (.inl h)
theorem SqT.of {K : PySem.W.Frag} (h : H a = some (.tup xs)) : SqT K H a xs := .inl (.inl h)
theorem Inv.list (I : Inv X pins σ H s) (h : SqL X.K H a xs) : ∃ its : List Value, Vals xs its ∧ PlainL s.heap a its.toArray ∧ xs.length ≤ sizeLine := by
  rcases h with h | ⟨o, its, n, hk, hc, hd, hs, hz, r⟩
  · obtain ⟨z, its, n, r, e⟩ := h.ok I.hok
    exact ⟨its, r, ⟨_, n, e, rfl, rfl, rfl⟩, z⟩
  · refine ⟨its.toList, r, ⟨o, n, I.kIn a o hk, hc, hd, by simpa using hs⟩, ?_⟩
    have e := r.length
    simp only [Array.length_toList] at e
    omega
theorem Inv.tuple (I : Inv X pins σ H s) (h : SqT X.K H a xs) : ∃ its : List Value, Vals xs its ∧ IsTup s.heap a its.toArray ∧ xs.length ≤ sizeLine := by
  rcases h with h | ⟨o, its, n, hk, hc, hs, hz, r⟩
  · obtain ⟨z, its, r, p⟩ := h.ok I.hok
    exact ⟨its, r, p, z⟩
  · refine ⟨its.toList, r, ⟨o, I.kIn a o hk, hc, n, by simpa using hs⟩, ?_⟩
    have e := r.length
    simp only [Array.length_toList] at e
    omega
theorem Inv.list_inj (I : Inv X pins σ H s) (h : SqL X.K H a xs) (h' : SqL X.K H a ys) : xs = ys := by
  obtain ⟨its, r, ⟨o, n, e, _, _, d⟩, _⟩ := I.list h
  obtain ⟨its', r', ⟨o', n', e', _, _, d'⟩, _⟩ := I.list h'
  rw [e] at e'; cases e'
  rw [d] at d'
  injection d' with d1 _
  have : its = its' := by simpa using congrArg Array.toList d1
  subst this
  exact r.inj r'
end
abbrev Cx.wish (X : Cx) (E : Value → Shared → Prop) : Cx := { X with xe := E }
abbrev Cx.nox (X : Cx) : Cx := X.wish fun _ _ => False
theorem Cx.Ok.wish {X : Cx} (ok : X.Ok) (E : Value → Shared → Prop) : (X.wish E).Ok :=
  ⟨ok.mod, ok.kind, ok.glob, ok.blt, ok.above, ok.inj, ok.has, ok.cab, ok.hd, ok.frames, ok.stk, ok.exf, ok.bs, ok.bsz, ok.noex, ok.exfs, ok.funs, ok.frf⟩
theorem Cx.Ok.unwish {X : Cx} {E : Value → Shared → Prop} (ok : (X.wish E).Ok) : X.Ok :=
  ⟨ok.mod, ok.kind, ok.glob, ok.blt, ok.above, ok.inj, ok.has, ok.cab, ok.hd, ok.frames, ok.stk, ok.exf, ok.bs, ok.bsz, ok.noex, ok.exfs, ok.funs, ok.frf⟩
section
variable {X : Cx} {pins : List (Addr × Obj)} {σ : St} {H : Hp} {s : Shared} {E : Value → Shared → Prop}
theorem Inv.wish (I : Inv X pins σ H s) (E : Value → Shared → Prop) : Inv (X.wish E) pins σ H s := ⟨I.ok.wish E, I.os, I.bare, I.base, I.loc, I.cell, I.free, I.freeC, I.pin, I.hok, I.len⟩
theorem Inv.unwish (I : Inv (X.wish E) pins σ H s) : Inv X pins σ H s := ⟨I.ok.unwish, I.os, I.bare, I.base, I.loc, I.cell, I.free, I.freeC, I.pin, I.hok, I.len⟩
theorem SP.unwish {D : Ends} {f : Flow} {s' : Shared} (h : SP (X.wish E) pins D f s') : SP X pins D f s' := by
  cases f with
  | next => obtain ⟨σ', H', I, q⟩ := h; exact ⟨σ', H', I.unwish, q⟩
  | brk => obtain ⟨σ', H', I, q⟩ := h; exact ⟨σ', H', I.unwish, q⟩
  | cont => obtain ⟨σ', H', I, q⟩ := h; exact ⟨σ', H', I.unwish, q⟩
  | ret u => obtain ⟨v, σ', H', I, r, q⟩ := h; exact ⟨v, σ', H', I.unwish, r, q⟩
theorem PSs.nox {st : List Stmt} {t : TS} (h : PSs X.nox st t) : PSs X st t := fun pins s σ H D I hw =>
  wpAny_mono (h pins s σ H D (I.wish _) hw) (fun _ _ q => q.unwish) fun _ _ z => False.elim z
end
section
variable {X : Cx} {st : Stmt} {rest : List Stmt} {t u : TS} {e : Expr} {te : TE} {pos : Pos}
def tNext : TS := fun D σ H => D.nx σ H
def tSeq (t u : TS) : TS := fun D σ H => t { D with nx := u D } σ H
theorem pss_nil : PSs X [] tNext := fun _ _ σ H _ I h => wpAny_execs_nil ⟨σ, H, I, h⟩
theorem pss_cons (h1 : PS X st t) (h2 : PSs X rest u) : PSs X (st :: rest) (tSeq t u) := by
  intro pins s σ H D I h
  refine wpAny_execs_cons (thn (h1 pins s σ H { D with nx := u D } I h) fun f s1 q => ?_)
  cases f with
  | next =>
    obtain ⟨σ', H', I', q⟩ := q
    exact h2 pins s1 σ' H' D I' q
  | ret v => exact q
  | brk => exact q
  | cont => exact q
theorem pss_one (h1 : PS X st t) : PSs X [st] t := by
  intro pins s σ H D I h
  refine wpAny_execs_cons (thn (h1 pins s σ H D I h) fun f s1 q => ?_)
  cases f with
  | next => exact wpAny_execs_nil q
  | ret v => exact q
  | brk => exact q
  | cont => exact q
theorem Inv.quiet {pins : List (Addr × Obj)} {σ : St} {H : Hp} {s : Shared} (I : Inv X pins σ H s) : interactive X.env = false := by simp [interactive, I.ok.kind]
def tDrop (te : TE) : TS := fun D σ H => te σ H fun _ H1 => D.nx σ H1
theorem ps_expr (he : PE X e te) (hs : swapsWith e none pos.line X.env = pure false := by rfl) : PS X (.Expr e pos) (tDrop te) := by
  intro pins s σ H D I h
  exact wpAny_Expr_any (thn (he pins s σ H _ I h) fun v s1 ⟨x, H1, I1, r1, q1⟩ => ⟨σ, H1, I1, q1⟩) I.quiet hs
def tRet (te : TE) : TS := fun D σ H => te σ H D.rt
theorem ps_ret (he : PE X e te) : PS X (.Return (some e) pos) (tRet te) := by
  intro pins s σ H D I h
  exact wpAny_Return_some (thn (he pins s σ H _ I h) fun v s1 ⟨x, H1, I1, r1, q1⟩ => ⟨x, σ, H1, I1, r1, q1⟩)
def tIfS (c : TT) (t u : TS) : TS := fun D σ H => c σ H fun b H1 => if b = true then t D σ H1 else u D σ H1
theorem ps_if {c : Expr} {a b : List Stmt} {tc : TT} (hc : PT X c tc) (ha : PSs X a t) (hb : PSs X b u) : PS X (.If c a b pos) (tIfS tc t u) := by
  intro pins s σ H D I h
  refine wpAny_If (thn (hc pins s σ H _ I h) fun d s1 ⟨H1, I1, q1⟩ => ?_)
  cases d with
  | true => exact ha pins s1 σ H1 D I1 q1
  | false => exact hb pins s1 σ H1 D I1 q1
end
abbrev TG := V → St → Hp → (St → Hp → Prop) → Prop
abbrev TGs := List V → St → Hp → (St → Hp → Prop) → Prop
def PG (X : Cx) (target : Expr) (t : TG) : Prop :=
  ∀ (pins : List (Addr × Obj)) (s : Shared) (σ : St) (H : Hp) (v : V) (u : Value) (Q : St → Hp → Prop), Inv X pins σ H s → RelV v u → t v σ H Q →
    wpAny (model X.prog X.w) X.A (assign target X.env u) (fun _ s' => ∃ σ' H', Inv X pins σ' H' s' ∧ Q σ' H') X.xe s
def PGs (X : Cx) (ts : List Expr) (t : TGs) : Prop :=
  ∀ (pins : List (Addr × Obj)) (s : Shared) (σ : St) (H : Hp) (vs : List V) (us : List Value) (Q : St → Hp → Prop), Inv X pins σ H s → Vals vs us → t vs σ H Q →
    wpAny (model X.prog X.w) X.A (assignInOrder ((assignEach ts X.env).map (·.2)) us) (fun _ s' => ∃ σ' H', Inv X pins σ' H' s' ∧ Q σ' H') X.xe s
abbrev TSet := V → V → V → Hp → (Hp → Prop) → Prop
def PSet (X : Cx) (t : TSet) : Prop :=
  ∀ (pins : List (Addr × Obj)) (s : Shared) (σ : St) (H : Hp) (o i v : V) (ov iv u : Value) (Q : Hp → Prop), Inv X pins σ H s → RelV o ov → RelV i iv → RelV v u → t o i v H Q →
    wpAny (model X.prog X.w) X.A (setItem ov iv u) (fun _ s' => ∃ H', Inv X pins σ H' s' ∧ Q H') X.xe s
section
variable {X : Cx} {pos : Pos}
def gName (i : Nat) : TG := fun v σ H Q => Q (σ.set i (some v)) H
theorem pg_name {i : Nat} {x : Str} (hN : X.N.Nodup) (hi : X.N[i]? = some x) (hx : Loc X.env.scope x) (hf : X.fn x = true ∨ X.env.scope.names.lookup x = some .local := by first | exact .inl rfl | exact .inr rfl | assumption) : PG X (.Name x pos) (gName i) := by
  intro pins s σ H v u Q I r h
  exact wpAny_assign_Name (store_ok I hN hi hx r (fun s' I' => ⟨_, H, I', h⟩) hf)
def gNil : TGs := fun vs σ H Q => vs = [] ∧ Q σ H
def gCons (t : TG) (u : TGs) : TGs := fun vs σ H Q => ∃ v r, vs = v :: r ∧ t v σ H fun σ' H' => u r σ' H' Q
theorem pgs_nil : PGs X [] gNil := by
  intro pins s σ H vs us Q I r h
  obtain ⟨e, h⟩ := h
  subst e
  cases r
  exact assignInOrder_nil ⟨σ, H, I, h⟩
theorem pgs_cons {e : Expr} {es : List Expr} {t : TG} {u : TGs} (h1 : PG X e t) (h2 : PGs X es u)
    (hs : (assignEach (e :: es) X.env).map (·.2) = assign e X.env :: (assignEach es X.env).map (·.2) := by rfl) : PGs X (e :: es) (gCons t u) := by
  intro pins s σ H vs us Q I r h
  obtain ⟨v, vr, e1, h⟩ := h
  subst e1
  cases r with
  | cons r rr =>
    rw [hs]
    refine assignInOrder_cons (thn (h1 pins s σ H _ _ _ I r h) fun _ s1 ⟨σ1, H1, I1, q1⟩ => ?_)
    exact h2 pins s1 σ1 H1 _ _ Q I1 rr q1
def gTup (K : PySem.W.Frag) (n : Nat) (t : TGs) : TG := fun v σ H Q => ∃ a xs, v = .ref a ∧ SqT K H a xs ∧ xs.length = n ∧ t xs σ H Q
theorem pg_tup {es : List Expr} {k : Nat} {t : TGs} {n : Nat} (hc : X.calm = true) (h : PGs X es t)
    (hn : (assignEach es X.env).length = n := by rfl) (hst : (assignEach es X.env).findIdx? (·.1) = none := by rfl) : PG X (.Tuple es k pos) (gTup X.K n t) := by
  intro pins s σ H v u Q I r hw
  obtain ⟨a, xs, e1, hq, hl, hw⟩ := hw
  subst e1
  cases r
  obtain ⟨its, rv, ht, hz⟩ := I.tuple hq
  refine assign_Tuple_tuple (I.ok.hd hc) ht (by simp [hn, ← hl, rv.length]) hst fun h' hx => ?_
  have I1 : Inv X pins σ H { s with heap := h' } := I.kept (t' := s.toks) fun b o e => hx b o (Nat.ne_of_lt (Heap.lt_size e)) e
  exact h pins _ σ H xs _ Q I1 (by simpa using rv) hw
def gSub (to ti : TE) (t : TSet) : TG := fun v σ H Q => to σ H fun o H1 => ti σ H1 fun i H2 => t o i v H2 fun H3 => Q σ H3
theorem pg_sub {o i : Expr} {to ti : TE} {t : TSet} (ho : PE X o to) (hi : PE X i ti) (hs : PSet X t)
    (ha : ∀ v, assign (.Subscript o i pos) X.env v = (do
      let ov ← holding [v] (eval o X.env)
      let iv ← holding [v, ov] (eval i X.env)
      standAt pos
      holding [v, ov, iv] (setItem ov iv v)
      release [v, ov, iv] []) := by intro _; rfl) : PG X (.Subscript o i pos) (gSub to ti t) := by
  intro pins s σ H v u Q I r h
  rw [ha]
  refine wpAny_bind (wpAny_holding (thn (ho pins s σ H _ I h) fun ov s1 ⟨x, H1, I1, r1, q1⟩ => ?_))
  refine wpAny_bind (wpAny_holding (thn (hi pins s1 σ H1 _ I1 q1) fun iv s2 ⟨y, H2, I2, r2, q2⟩ => ?_))
  refine wpAny_bind (wpAny_standAt (wpAny_bind (wpAny_holding (thn (hs pins s2 σ H2 x y v ov iv u _ I2 r1 r2 r q2) fun _ s3 ⟨H3, I3, q3⟩ => ?_))))
  exact wpAny_release ⟨σ, H3, I3, q3⟩
def tAsg (te : TE) (g : TG) : TS := fun D σ H => te σ H fun x H1 => g x σ H1 D.nx
theorem ps_asg {tg e : Expr} {te : TE} {g : TG} (he : PE X e te) (hg : PG X tg g) (hs : swapsWithSole [tg] e pos.line X.env = pure false := by rfl) (hw : swappedStores [tg] e X.env = pure none := by rfl)
    (h1 : (assignEach [tg] X.env).map (·.2) = [assign tg X.env] := by rfl) : PS X (.Assign [tg] e pos) (tAsg te g) := by
  intro pins s σ H D I h
  refine wpAny_Assign_stores (thn (he pins s σ H _ I h) fun v s1 ⟨x, H1, I1, r1, q1⟩ => ?_) hs hw
  rw [h1]
  exact thn (hg pins s1 σ H1 x v _ I1 r1 q1) fun _ s2 q => q
theorem ps_set {i : Nat} {x : Str} {e : Expr} {te : TE} {pos' : Pos} (hN : X.N.Nodup) (hi : X.N[i]? = some x) (hx : Loc X.env.scope x) (he : PE X e te) (hs : swapsWith e (some (.Name x pos')) pos.line X.env = pure false := by rfl) (hf : X.fn x = true ∨ X.env.scope.names.lookup x = some .local := by first | exact .inl rfl | exact .inr rfl | assumption) :
    PS X (.Assign [.Name x pos'] e pos) (tAsg te (gName i)) := by
  intro pins s σ H D I h
  refine wpAny_Assign_Name (thn (he pins s σ H _ I h) fun v s1 ⟨y, H1, I1, r1, q1⟩ => ?_) hs
  exact store_ok I1 hN hi hx r1 (fun s2 I2 => ⟨_, H1, I2, q1⟩) hf
end
section
variable {X : Cx} {pos : Pos}
def tWhile (c : TT) (tb : TS) : TS := fun D σ H => ∃ W : Nat → St → Hp → Prop, (∃ m, W m σ H) ∧ ∀ m σ H, W m σ H →
  c σ H fun b H1 => if b = true then ∃ N : St → Hp → Prop, (∀ σ' H', N σ' H' → ∃ m', m' < m ∧ W m' σ' H') ∧ tb { D with nx := N, ct := N, bk := D.nx } σ H1 else D.nx σ H1
theorem ps_while {c : Expr} {body : List Stmt} {tc : TT} {tb : TS} (hp : PassesOwn (model X.prog X.w) X.A X.env X.xe) (hc : PT X c tc) (hb : PSs X body tb) : PS X (.While c body [] pos) (tWhile tc tb) := by
  intro pins s σ H D I h
  obtain ⟨W, ⟨m0, w0⟩, turn⟩ := h
  refine wpAny_While (codeAny_whileLoop (fun n s' => ∃ σ' H', Inv X pins σ' H' s' ∧ W n σ' H') ?_ m0 ⟨σ, H, I, w0⟩)
  rintro n s1 ⟨σ1, H1, I1, w1⟩
  refine wpAny_passesOwn hp (thn (hc pins s1 σ1 H1 _ I1 (turn n σ1 H1 w1)) fun b s2 ⟨H2, I2, q2⟩ => ?_)
  cases b with
  | true =>
    obtain ⟨N, hN, q2⟩ := q2
    rw [if_pos rfl]
    refine wpAny_passesOwn hp (thn (hb pins s2 σ1 H2 _ I2 q2) fun f s3 q3 => ?_)
    cases f with
    | next =>
      obtain ⟨σ3, H3, I3, n3⟩ := q3
      obtain ⟨m', hm, w3⟩ := hN σ3 H3 n3
      exact ⟨m', hm, σ3, H3, I3, w3⟩
    | cont =>
      obtain ⟨σ3, H3, I3, n3⟩ := q3
      obtain ⟨m', hm, w3⟩ := hN σ3 H3 n3
      exact ⟨m', hm, σ3, H3, I3, w3⟩
    | brk => exact q3
    | ret v => exact q3
  | false =>
    rw [if_neg Bool.false_ne_true]
    exact wpAny_execs_nil ⟨σ1, H2, I2, q2⟩
end
structure It where
  go : Nat → Hp → Prop
  yld : Nat → Hp → V → Hp → Prop
  stop : Nat → Hp → Prop
def FpOk (X : Cx) (pins : List (Addr × Obj)) (H : Hp) (b : Addr) : Prop :=
  H b = none ∧ b ≠ X.env.locals ∧ b ∉ X.fs ∧ (b ∈ X.ex ∨ X.s_0.heap.objs.size ≤ b) ∧ (∀ x c, X.env.cells.lookup x = some c → c ≠ b) ∧ ∀ p ∈ X.pn ++ pins, p.1 ≠ b
theorem Inv.fpOk {X : Cx} {pins : List (Addr × Obj)} {σ : St} {H H' : Hp} {s : Shared} {b : Addr} (I : Inv X pins σ H s) (hb : s.heap.objs.size ≤ b) (hn : H' b = none) : FpOk X pins H' b := by
  refine ⟨hn, Nat.ne_of_gt (Nat.lt_of_lt_of_le I.lt hb), I.nofs hb, .inr (Nat.le_trans I.sz hb), fun x c e z => ?_, fun p hp z => ?_⟩
  · obtain ⟨v, q⟩ := I.cell x c e
    exact absurd (Nat.lt_of_lt_of_le q.lt (by rw [z]; exact hb)) (Nat.lt_irrefl _)
  · exact absurd (Nat.lt_of_lt_of_le (Heap.lt_size (I.pin p hp).1) (by rw [z]; exact hb)) (Nat.lt_irrefl _)
structure Turn (P : Program) (w : World) (K : PySem.W.Frag) (tg : Expr) (J : It) (fp : List Addr) (it : Addr) (tn : Nat → Heap → Prop) : Prop where
  mem : it ∈ fp
  obj : ∀ i h, tn i h → ∀ b ∈ fp, ∃ o, h.get? b = some o ∧ ∀ v, o.data ≠ .cell v
  keep : ∀ i h h', tn i h → (∀ b ∈ fp, ∀ o, h.get? b = some o → h'.get? b = some o) → tn i h'
  item : ∀ (X : Cx), X.prog = P → X.w = w → X.K = K → X.calm = true → ∀ (i : Nat) (pins : List (Addr × Obj)) (s : Shared) (σ : St) (H : Hp) (E : Value → Shared → Prop), Inv X pins σ H s → (∀ b ∈ fp, FpOk X pins H b) → tn i s.heap → J.go i H →
    wpAny (model P w) X.A (pyNext (.ref it)) (fun r s1 => ∃ u, r = some u ∧
      wpAny (model P w) X.A (letOwnedTupleGo tg (.ref it) u) (fun _ s2 => ∃ x H', Inv X pins σ H' s2 ∧ RelV x u ∧ J.yld i H x H' ∧ tn (i + 1) s2.heap ∧ ∀ b ∈ fp, H' b = none) E s1) E s
  done : ∀ (X : Cx), X.prog = P → X.w = w → X.K = K → X.calm = true → ∀ (i : Nat) (pins : List (Addr × Obj)) (s : Shared) (σ : St) (H : Hp) (E : Value → Shared → Prop), Inv X pins σ H s → (∀ b ∈ fp, FpOk X pins H b) → tn i s.heap → J.stop i H →
    wpAny (model P w) X.A (pyNext (.ref it)) (fun r s1 => r = none ∧ Inv X pins σ H s1) E s
  self : ∀ (A : Around) (i : Nat) (s : Shared) (Q : Value → Shared → Prop) (E : Value → Shared → Prop), tn i s.heap → Q (.ref it) s → wpAny (model P w) A (pyIter (.ref it)) Q E s
abbrev TI := St → Hp → (It → Hp → Prop) → Prop
def PIE (X : Cx) (pins : List (Addr × Obj)) (σ : St) (tg : Expr) (R : It → Hp → Prop) (itv : Value) (s2 : Shared) : Prop :=
  ∃ (it : Addr) (fp : List Addr) (tn : Nat → Heap → Prop) (J : It) (H' : Hp), itv = .ref it ∧ Inv X pins σ H' s2 ∧ Turn X.prog X.w X.K tg J fp it tn ∧ tn 0 s2.heap ∧ (∀ b ∈ fp, FpOk X pins H' b) ∧ R J H'
def PI (X : Cx) (tg iter : Expr) (wi : TI) : Prop :=
  ∀ (pins : List (Addr × Obj)) (s : Shared) (σ : St) (H : Hp) (R : It → Hp → Prop), Inv X pins σ H s → wi σ H R →
    wpAny (model X.prog X.w) X.A (eval iter X.env) (fun v s1 => wpAny (model X.prog X.w) X.A (pyIter v) (PIE X pins σ tg R) X.xe s1) X.xe s
theorem go_of {M : Model} {A : Around} {E : Value → Shared → Prop} {s : Shared} {tg : Expr} {it : Addr} {u : Value} {o : Obj} {n : String} {vs : Array Value} {Q : Unit → Shared → Prop} (ho : s.heap.get? it = some o) (hc : o.cls = .type n) (hd : o.data = .fields vs)
    (hn : ["enumerate", "zip", "dict_itemiterator", "dict_reverseitemiterator", "odict_iterator", "itertools.zip_longest", "itertools.pairwise"].contains n = false) (hQ : Q () s) : wpAny M A (letOwnedTupleGo tg (.ref it) u) Q E s := by
  unfold letOwnedTupleGo
  cases tg <;> first
    | exact wpAny_pure hQ
    | (cases u <;> first
        | exact wpAny_pure hQ
        | (refine wpAny_bind (wpAny_load ho ?_)
           rw [hc, hd]
           show wpAny M A (if (["enumerate", "zip", "dict_itemiterator", "dict_reverseitemiterator", "odict_iterator", "itertools.zip_longest", "itertools.pairwise"].contains n && vs[0]? == some (rawInt _)) = true then _ else _) Q E s
           rw [if_neg (by intro h; rw [hn, Bool.false_and] at h; cases h)]
           exact wpAny_pure hQ))
def Itl (K : PySem.W.Frag) (a : Addr) : It :=
  ⟨fun i H => ∃ xs x, SqL K H a xs ∧ xs[i]? = some x, fun i H x H' => H' = H ∧ ∀ xs, SqL K H a xs → xs[i]? = some x, fun i H => ∃ xs, SqL K H a xs ∧ xs.length ≤ i⟩
def Itr (lo : Int) (n : Nat) : It := ⟨fun i _ => i < n, fun i H x H' => H' = H ∧ x = .int (lo + i), fun i _ => n ≤ i⟩
theorem turn_list {P : Program} {w : World} {K : PySem.W.Frag} {tg : Expr} (a it : Addr) : Turn P w K tg (Itl K a) [it] it (fun i h => h.IsListIter it a i) where
  mem := by simp
  obj := fun i h st b hb => by
    have e : b = it := by simpa using hb
    subst e
    obtain ⟨o, e, c, d⟩ := st
    exact ⟨o, e, fun v z => by rw [d] at z; cases z⟩
  keep := fun i h h' st k => st.at fun o e => k it (by simp) o e
  item := by
    intro X hP hw hK hc i pins s σ H E I hf st hg
    subst hP hw hK
    obtain ⟨xs, x, hq, hx⟩ := hg
    obtain ⟨its, rv, p, hz⟩ := I.list hq
    obtain ⟨u, hu, ru⟩ := rv.get hx
    obtain ⟨f0, f1, f2, f3, f4, f5⟩ := hf it (by simp)
    refine wpAny_pyNext_list_item st p.isList (x := u) (by simpa using hu) fun h' st' sb => ?_
    have I1 : Inv X pins σ H { s with heap := h' } := I.turned (t' := s.toks) (fun b o hb e => (sb.2 b hb).trans e) f0 f1 f3 f4 f5
    obtain ⟨o, e, c, d⟩ := id st'
    exact ⟨u, rfl, go_of (s := { s with heap := h' }) e c d (by decide) ⟨x, H, I1, ru, ⟨rfl, fun ys hy => by rw [I.list_inj hy hq]; exact hx⟩, st', fun b hb => (hf b hb).1⟩⟩
  done := by
    intro X hP hw hK hc i pins s σ H E I hf st hg
    subst hP hw hK
    obtain ⟨xs, hq, hx⟩ := hg
    obtain ⟨its, rv, p, hz⟩ := I.list hq
    obtain ⟨f0, f1, f2, f3, f4, f5⟩ := hf it (by simp)
    have hl := rv.length
    exact wpAny_pyNext_list_end (I.ok.hd hc) st p.isList (by simp; omega) fun h' eb => ⟨rfl, I.turned (t' := s.toks) (fun b o hb e => eb b o hb e) f0 f1 f3 f4 f5⟩
  self := fun _ _ _ _ _ st h => wpAny_pyIter_listiter st h
theorem turn_range {P : Program} {w : World} {K : PySem.W.Frag} {tg : Expr} (it : Addr) (lo : Int) (n : Nat) : Turn P w K tg (Itr lo n) [it] it (fun i h => IsRangeIter h it (lo + (i : Nat) * 1) ((n : Int) - (i : Nat)) 1) where
  mem := by simp
  obj := fun i h st b hb => by
    have e : b = it := by simpa using hb
    subst e
    exact ⟨_, st, fun v z => by
      have z' : Data.fields _ = Data.cell v := z
      cases z'⟩
  keep := fun i h h' st k => k it (by simp) _ st
  item := by
    intro X hP hw hK hc i pins s σ H E I hf st hg
    subst hP hw hK
    obtain ⟨f0, f1, f2, f3, f4, f5⟩ := hf it (by simp)
    have W := Walks.range (prog := X.prog) (w := X.w) (I.ok.hd hc) it lo 1 n
    refine W.item i s _ _ hg st fun v h' tk hv st' kk => ?_
    obtain ⟨t, rfl⟩ := hv
    have I1 : Inv X pins σ H { s with heap := h', toks := tk } := I.turned (fun b o hb e => kk b o (by simpa using hb) e) f0 f1 f3 f4 f5
    refine ⟨_, rfl, go_of (s := { s with heap := h', toks := tk }) (n := "range_iterator") st' rfl rfl (by decide) ⟨.int (lo + i), H, I1, ⟨t, ?_⟩, ⟨rfl, rfl⟩, st', fun b hb => (hf b hb).1⟩⟩
    rw [Int.mul_one]
  done := by
    intro X hP hw hK hc i pins s σ H E I hf st hg
    subst hP hw hK
    obtain ⟨f0, f1, f2, f3, f4, f5⟩ := hf it (by simp)
    exact wpAny_pyNext_range_end (I.ok.hd hc) st (by have : n ≤ i := hg; omega) fun h' eb => ⟨rfl, I.turned (t' := s.toks) (fun b o hb e => eb b o hb e) f0 f1 f3 f4 f5⟩
  self := fun _ _ _ _ _ st h => wpAny_pyIter_rangeiter st h
end L2
namespace L2
open PySem PySem.Spec PyProof.Rows
section
variable {X : Cx} {tg : Expr}
def iList (K : PySem.W.Frag) (tl : TE) : TI := fun σ H R => tl σ H fun x H1 => ∃ a, x = .ref a ∧ (∃ xs, SqL K H1 a xs) ∧ R (Itl K a) H1
theorem pi_list {l : Expr} {tl : TE} (hl : PE X l tl) : PI X tg l (iList X.K tl) := by
  intro pins s σ H R I h
  refine thn (hl pins s σ H _ I h) fun v s1 ⟨x, H1, I1, r1, q1⟩ => ?_
  obtain ⟨a, e, ⟨xs, hq⟩, q⟩ := q1
  subst e
  cases r1
  obtain ⟨its, rv, p, hz⟩ := I1.list hq
  refine wpAny_pyIter_list p.isList ?_
  refine ⟨s1.heap.objs.size, [s1.heap.objs.size], _, _, H1, rfl, I1.kept (t' := s1.toks) fun b o e => Heap.get?_push_of_some _ e, turn_list a _, ⟨_, Heap.get?_push_size _ rfl, rfl, rfl⟩, fun b hb => ?_, q⟩
  have e : b = s1.heap.objs.size := by simpa using hb
  subst e
  exact I1.fpOk (Nat.le_refl _) (I1.hok.fresh (Nat.le_refl _))
theorem range_it {pins : List (Addr × Obj)} {σ : St} {H : Hp} {s : Shared} {R : It → Hp → Prop} {E : Value → Shared → Prop} {lo hi : Int} {t u v : Tok} {tk : Nat} (I : Inv X pins σ H s) (h1 : -(2 ^ 62) ≤ lo) (h2 : lo < 2 ^ 62) (h3 : -(2 ^ 62) ≤ hi) (h4 : hi < 2 ^ 62)
    (q : R (Itr lo (hi - lo).toNat) H) : wpAny (model X.prog X.w) X.A (pyIter (.ref s.heap.objs.size)) (PIE X pins σ tg R) E { s with heap := s.heap.push { cls := .type "range", data := .fields #[.int lo t, .int hi u, .int 1 v] }, toks := tk } := by
  refine wpAny_pyIter_range (IsRange.new ..) (small_one h1 h2 h3 h4) ?_
  have I1 : Inv X pins σ H { s with heap := s.heap.push { cls := .type "range", data := .fields #[.int lo t, .int hi u, .int 1 v] }, toks := tk } := I.kept fun b o e => Heap.get?_push_of_some _ e
  refine ⟨(s.heap.push { cls := .type "range", data := .fields #[.int lo t, .int hi u, .int 1 v] }).objs.size, [(s.heap.push { cls := .type "range", data := .fields #[.int lo t, .int hi u, .int 1 v] }).objs.size], _, _, H, rfl,
    I1.kept (t' := tk) fun b o e => Heap.get?_push_of_some _ e, turn_range _ lo (hi - lo).toNat, ?_, fun b hb => ?_, q⟩
  · have e1 : lo + ((0 : Nat) : Int) * 1 = lo := by simp
    have e2 : (((hi - lo).toNat : Nat) : Int) - ((0 : Nat) : Int) = Builtin.Range.rangeSize lo hi 1 := by rw [rangeSize_one]; split <;> omega
    show IsRangeIter _ _ (lo + ((0 : Nat) : Int) * 1) ((((hi - lo).toNat : Nat) : Int) - ((0 : Nat) : Int)) 1
    rw [e1, e2]
    exact Heap.get?_push_size _ rfl
  · have e : b = (s.heap.push { cls := .type "range", data := .fields #[.int lo t, .int hi u, .int 1 v] }).objs.size := by simpa using hb
    subst e
    exact I1.fpOk (Nat.le_refl _) (I1.hok.fresh (Nat.le_refl _))
def iRng1 (ta : TA) : TI := fun σ H R => ta σ H fun vs H1 => ∃ j : Int, vs = [.int j] ∧ -(2 ^ 62) ≤ j ∧ j < 2 ^ 62 ∧ R (Itr 0 j.toNat) H1
def iRng2 (ta : TA) : TI := fun σ H R => ta σ H fun vs H1 => ∃ i j : Int, vs = [.int i, .int j] ∧ (-(2 ^ 62) ≤ i ∧ i < 2 ^ 62 ∧ -(2 ^ 62) ≤ j ∧ j < 2 ^ 62) ∧ R (Itr i (j - i).toNat) H1
theorem pi_range1 {a : Expr} {ta : TA} {p pos : Pos} (hg : Gl X "range") (hm : X.mg "range" = none) (ha : PA X [a] ta) (hs : starEach [a] X.env = [(false, eval a X.env)] := by rfl) : PI X tg (.Call (.Name "range" p) [a] [] pos) (iRng1 ta) := by
  intro pins s σ H R I h
  refine Call_ (ld_blt I hg hm boot_range (PyProof.Rows.callWith_type1 (thn (ha pos pins s σ H _ I h) fun us s1 ⟨vs, H1, I1, r1, q1⟩ => ?_) hs rfl))
  obtain ⟨j, e, q1, q2, q⟩ := q1
  subst e
  cases r1 with
  | cons r rr =>
    cases rr
    obtain ⟨t, rfl⟩ := r
    exact call_range_1 (range_it I1 (by omega) (by omega) q1 q2 (by simpa using q))
theorem pi_range2 {a b : Expr} {ta : TA} {p pos : Pos} (hg : Gl X "range") (hm : X.mg "range" = none) (ha : PA X [a, b] ta) (hs : starEach [a, b] X.env = [(false, eval a X.env), (false, eval b X.env)] := by rfl) (hs2 : starEach [b] X.env = [(false, eval b X.env)] := by rfl) :
    PI X tg (.Call (.Name "range" p) [a, b] [] pos) (iRng2 ta) := by
  intro pins s σ H R I h
  refine Call_ (ld_blt I hg hm boot_range (PyProof.Rows.callWith_type1 (thn (ha pos pins s σ H _ I h) fun us s1 ⟨vs, H1, I1, r1, q1⟩ => ?_) (by rw [hs, hs2]) (by rw [hs2]; rfl)))
  obtain ⟨i, j, e, ⟨q1, q2, q3, q4⟩, q⟩ := q1
  subst e
  cases r1 with
  | cons r rr =>
    cases rr with
    | cons r' rr =>
      cases rr
      obtain ⟨t, rfl⟩ := r
      obtain ⟨t', rfl⟩ := r'
      exact call_range_2 (range_it I1 q1 q2 q3 q4 q)
def tFor (wi : TI) (g : TG) (tb : TS) : TS := fun D σ H => wi σ H fun J H1 => ∃ W : Nat → Nat → St → Hp → Prop, (∃ m, W 0 m σ H1) ∧ ∀ i m σ H, W i m σ H →
  (J.stop i H ∧ D.nx σ H) ∨ (J.go i H ∧ ∃ N : St → Hp → Prop, (∀ σ' H', N σ' H' → ∃ m', m' < m ∧ W (i + 1) m' σ' H') ∧ ∀ x H', J.yld i H x H' → g x σ H' fun σ2 H2 => tb { D with nx := N, ct := N, bk := D.nx } σ2 H2)
def pinsAt (fp : List Addr) (h : Heap) : List (Addr × Obj) := fp.filterMap fun b => (h.get? b).map fun o => (b, o)
theorem mem_pinsAt {fp : List Addr} {h : Heap} {b : Addr} {o : Obj} (hb : b ∈ fp) (e : h.get? b = some o) : (b, o) ∈ pinsAt fp h := List.mem_filterMap.mpr ⟨b, hb, by rw [e]; rfl⟩
theorem of_pinsAt {fp : List Addr} {h : Heap} {p : Addr × Obj} (hp : p ∈ pinsAt fp h) : p.1 ∈ fp ∧ h.get? p.1 = some p.2 := by
  obtain ⟨b, hb, e⟩ := List.mem_filterMap.mp hp
  cases q : h.get? b with
  | none => rw [q] at e; cases e
  | some o =>
    rw [q] at e
    have e' : (b, o) = p := Option.some.inj e
    subst e'
    exact ⟨hb, q⟩
theorem Inv.pinned {pins : List (Addr × Obj)} {σ : St} {H : Hp} {s : Shared} {fp : List Addr} (I : Inv X pins σ H s) (hf : ∀ b ∈ fp, FpOk X pins H b) (ho : ∀ b ∈ fp, ∃ o, s.heap.get? b = some o ∧ ∀ v, o.data ≠ .cell v) : Inv X (pins ++ pinsAt fp s.heap) σ H s :=
  I.pins_of fun p hp => (List.mem_append.mp hp).elim (fun z => I.pin p (List.mem_append_right _ z)) fun z => by
    obtain ⟨hb, e⟩ := of_pinsAt z
    obtain ⟨f0, f1, f2, _⟩ := hf p.1 hb
    obtain ⟨o, e', d⟩ := ho p.1 hb
    rw [e] at e'; cases e'
    exact ⟨e, f0, f1, f2, d⟩
theorem Inv.unpinned {pins pl : List (Addr × Obj)} {σ : St} {H : Hp} {s : Shared} (I : Inv X (pins ++ pl) σ H s) : Inv X pins σ H s := I.pins_of fun p hp => I.pin p (List.mem_append_right _ (List.mem_append_left _ hp))
theorem ps_for {iter : Expr} {body : List Stmt} {wi : TI} {g : TG} {tb : TS} {pos : Pos} (hp : PassesOwn (model X.prog X.w) X.A X.env X.xe) (hc : X.calm = true) (hi : PI X tg iter wi) (hg : PG X tg g) (hb : PSs X body tb)
    (hs : ∀ x, foldedSetIterable iter X.env x = pure x := by intro _; rfl) : PS X (.For tg iter body [] pos) (tFor wi g tb) := by
  intro pins s σ H D I h
  refine wpAny_For (thn (hi pins s σ H _ I h) fun v s1 h1 => thn h1 fun itv s2 h2 => ?_) hs
  obtain ⟨it, fp, tn, J, H2, e, I2, T, st2, f2, W, ⟨m0, w0⟩, turn⟩ := h2
  subst e
  -- what stays true of the iterator's objects through the loop
  have stat : ∀ {H' : Hp}, (∀ b ∈ fp, H' b = none) → ∀ b ∈ fp, FpOk X pins H' b := fun hn b hb => ⟨hn b hb, (f2 b hb).2⟩
  refine codeAny_forLoop_any (fun n s' => ∃ i σ' H', Inv X pins σ' H' s' ∧ tn i s'.heap ∧ (∀ b ∈ fp, H' b = none) ∧ W i n σ' H') ?_ m0 ⟨0, σ, H2, I2, st2, fun b hb => (f2 b hb).1, w0⟩
  rintro n s3 ⟨i, σ3, H3, I3, st3, fr3, w3⟩
  rcases turn i n σ3 H3 w3 with ⟨stop, qn⟩ | ⟨go, N, hN, step⟩
  · refine wpAny_passesOwn hp (thn (T.done X rfl rfl rfl hc i pins s3 σ3 H3 X.xe I3 (stat fr3) st3 stop) fun r s4 ⟨hr, I4⟩ => ?_)
    subst hr
    exact wpAny_execs_nil ⟨σ3, H3, I4, qn⟩
  · refine wpAny_passesOwn hp (thn (T.item X rfl rfl rfl hc i pins s3 σ3 H3 X.xe I3 (stat fr3) st3 go) fun r s4 ⟨u, hr, h4⟩ => ?_)
    subst hr
    refine wpAny_passesOwn hp (thn h4 fun _ s5 ⟨x, H5, I5, r5, y5, st5, fr5⟩ => ?_)
    have I5' := I5.pinned (stat fr5) (T.obj _ _ st5)
    refine wpAny_passesOwn hp (thn (hg _ s5 σ3 H5 x u _ I5' r5 (step x H5 y5)) fun _ s6 ⟨σ6, H6, I6, q6⟩ => ?_)
    refine wpAny_passesOwn hp (thn (hb _ s6 σ6 H6 _ I6 q6) fun f s7 q7 => ?_)
    have again : ∀ {σ7 : St} {H7 : Hp}, Inv X (pins ++ pinsAt fp s5.heap) σ7 H7 s7 → N σ7 H7 → ∃ m, m < n ∧ ∃ i σ' H', Inv X pins σ' H' s7 ∧ tn i s7.heap ∧ (∀ b ∈ fp, H' b = none) ∧ W i m σ' H' := fun {σ7 H7} I7 n7 => by
      obtain ⟨m', hm, w7⟩ := hN σ7 H7 n7
      refine ⟨m', hm, i + 1, σ7, H7, I7.unpinned, T.keep _ _ _ st5 fun b hb o e => (I7.pin (b, o) (List.mem_append_right _ (List.mem_append_right _ (mem_pinsAt hb e)))).1, fun b hb => ?_, w7⟩
      obtain ⟨o, e, d⟩ := T.obj _ _ st5 b hb
      exact (I7.pin (b, o) (List.mem_append_right _ (List.mem_append_right _ (mem_pinsAt hb e)))).2.1
    cases f with
    | next => obtain ⟨σ7, H7, I7, n7⟩ := q7; exact again I7 n7
    | cont => obtain ⟨σ7, H7, I7, n7⟩ := q7; exact again I7 n7
    | brk => obtain ⟨σ7, H7, I7, q7⟩ := q7; exact ⟨σ7, H7, I7.unpinned, q7⟩
    | ret v => obtain ⟨x7, σ7, H7, I7, r7, q7⟩ := q7; exact ⟨x7, σ7, H7, I7.unpinned, r7, q7⟩
end
theorem for_list {K : PySem.W.Frag} {a : Addr} {xs : List V} {g : TG} {tb : TS} {D : Ends} {σ : St} {H : Hp} (Pv : Nat → St → Hp → Prop) (h0 : Pv 0 σ H) (hl : ∀ i σ H, i ≤ xs.length → Pv i σ H → SqL K H a xs)
    (hs : ∀ i x σ H, xs[i]? = some x → Pv i σ H → g x σ H fun σ2 H2 => tb { D with nx := Pv (i + 1), ct := Pv (i + 1), bk := D.nx } σ2 H2) (hd : ∀ σ H, Pv xs.length σ H → D.nx σ H) :
    ∃ W : Nat → Nat → St → Hp → Prop, (∃ m, W 0 m σ H) ∧ ∀ i m σ H, W i m σ H →
      ((Itl K a).stop i H ∧ D.nx σ H) ∨ ((Itl K a).go i H ∧ ∃ N : St → Hp → Prop, (∀ σ' H', N σ' H' → ∃ m', m' < m ∧ W (i + 1) m' σ' H') ∧ ∀ x H', (Itl K a).yld i H x H' → g x σ H' fun σ2 H2 => tb { D with nx := N, ct := N, bk := D.nx } σ2 H2) := by
  refine ⟨fun i m σ H => m = xs.length - i ∧ i ≤ xs.length ∧ Pv i σ H, ⟨xs.length, by simp, Nat.zero_le _, h0⟩, ?_⟩
  rintro i m σ H ⟨rfl, hi, p⟩
  have q := hl i σ H hi p
  by_cases hlt : i < xs.length
  · refine .inr ⟨⟨xs, xs[i], q, by simp [hlt]⟩, Pv (i + 1), fun σ' H' p' => ⟨xs.length - (i + 1), by omega, rfl, hlt, p'⟩, fun x H' y => ?_⟩
    obtain ⟨e, y⟩ := y
    subst e
    exact hs i x σ _ (y xs q) p
  · have e : i = xs.length := by omega
    subst e
    exact .inl ⟨⟨xs, q, Nat.le_refl _⟩, hd σ H p⟩
theorem for_range {lo : Int} {n : Nat} {g : TG} {tb : TS} {D : Ends} {σ : St} {H : Hp} (Pv : Nat → St → Hp → Prop) (h0 : Pv 0 σ H)
    (hs : ∀ i σ H, i < n → Pv i σ H → g (.int (lo + i)) σ H fun σ2 H2 => tb { D with nx := Pv (i + 1), ct := Pv (i + 1), bk := D.nx } σ2 H2) (hd : ∀ σ H, Pv n σ H → D.nx σ H) :
    ∃ W : Nat → Nat → St → Hp → Prop, (∃ m, W 0 m σ H) ∧ ∀ i m σ H, W i m σ H →
      ((Itr lo n).stop i H ∧ D.nx σ H) ∨ ((Itr lo n).go i H ∧ ∃ N : St → Hp → Prop, (∀ σ' H', N σ' H' → ∃ m', m' < m ∧ W (i + 1) m' σ' H') ∧ ∀ x H', (Itr lo n).yld i H x H' → g x σ H' fun σ2 H2 => tb { D with nx := N, ct := N, bk := D.nx } σ2 H2) := by
  refine ⟨fun i m σ H => m = n - i ∧ i ≤ n ∧ Pv i σ H, ⟨n, by simp, Nat.zero_le _, h0⟩, ?_⟩
  rintro i m σ H ⟨rfl, hi, p⟩
  by_cases hlt : i < n
  · refine .inr ⟨hlt, Pv (i + 1), fun σ' H' p' => ⟨n - (i + 1), by omega, rfl, hlt, p'⟩, fun x H' y => ?_⟩
    obtain ⟨e, y⟩ := y
    subst e y
    exact hs i σ _ hlt p
  · have e : i = n := by omega
    subst e
    exact .inl ⟨Nat.le_refl _, hd σ H p⟩
theorem while_by {c : TT} {tb : TS} {D : Ends} {σ : St} {H : Hp} (Pv : St → Hp → Prop) (μ : St → Hp → Nat) (h0 : Pv σ H)
    (hs : ∀ σ H, Pv σ H → c σ H fun b H1 => if b = true then tb { D with nx := fun σ' H' => Pv σ' H' ∧ μ σ' H' < μ σ H, ct := fun σ' H' => Pv σ' H' ∧ μ σ' H' < μ σ H, bk := D.nx } σ H1 else D.nx σ H1)
    (mono : ∀ σ H Q Q', (∀ b H1, Q b H1 → Q' b H1) → c σ H Q → c σ H Q') : tWhile c tb D σ H := by
  refine ⟨fun m σ H => m = μ σ H ∧ Pv σ H, ⟨_, rfl, h0⟩, ?_⟩
  rintro m σ H ⟨rfl, p⟩
  refine mono σ H _ _ (fun b H1 q => ?_) (hs σ H p)
  cases b with
  | true => exact ⟨_, fun σ' H' ⟨p', l⟩ => ⟨_, l, rfl, p'⟩, q⟩
  | false => exact q
end L2
namespace L2
open PySem PySem.Spec PyProof.Rows
abbrev R2 := V → V → Hp → VK → Prop
def OpR (X : Cx) (f : Value → Value → Sem Value) (r : R2) : Prop :=
  ∀ (pins : List (Addr × Obj)) (s : Shared) (σ : St) (H : Hp) (x y : V) (v u : Value) (Q : VK), Inv X pins σ H s → RelV x v → RelV y u → r x y H Q →
    wpAny (model X.prog X.w) X.A (f v u) (EP X pins σ Q) X.xe s
def UnR (X : Cx) (f : Value → Sem Value) (r : V → Hp → VK → Prop) : Prop :=
  ∀ (pins : List (Addr × Obj)) (s : Shared) (σ : St) (H : Hp) (x : V) (v : Value) (Q : VK), Inv X pins σ H s → RelV x v → r x H Q →
    wpAny (model X.prog X.w) X.A (f v) (EP X pins σ Q) X.xe s
def CallR (X : Cx) (f : Value) (r : List V → Hp → VK → Prop) : Prop :=
  ∀ (pins : List (Addr × Obj)) (s : Shared) (σ : St) (H : Hp) (xs : List V) (us : List Value) (Q : VK), Inv X pins σ H s → Vals xs us → r xs H Q →
    wpAny (model X.prog X.w) X.A (call f us) (EP X pins σ Q) X.xe s
def tOp (r : R2) (ta tb : TE) : TE := fun σ H Q => ta σ H fun x H1 => tb σ H1 fun y H2 => r x y H2 Q
def tUn (r : V → Hp → VK → Prop) (ta : TE) : TE := fun σ H Q => ta σ H fun x H1 => r x H1 Q
def rI (C : Int → Int → Prop) (g : Int → Int → V) : R2 := fun x y H Q => ∃ i j, x = .int i ∧ y = .int j ∧ C i j ∧ Q (g i j) H
def rI0 (g : Int → Int → V) : R2 := fun x y H Q => ∃ i j, x = .int i ∧ y = .int j ∧ Q (g i j) H
def rU (g : Int → V) : V → Hp → VK → Prop := fun x H Q => ∃ i, x = .int i ∧ Q (g i) H
section
variable {X : Cx} {a b c : Expr} {ta tb tc : TE} {pos : Pos}
theorem binT (ha : PE X a ta) (hb : PE X b tb) {pins : List (Addr × Obj)} {s : Shared} {σ : St} {H : Hp} {R : V → V → Hp → Prop} (I : Inv X pins σ H s)
    (h : ta σ H fun x H1 => tb σ H1 fun y H2 => R x y H2) {Q : Value → Shared → Prop} {f : Value → Value → Sem Value}
    (hf : ∀ v u s2 x y H2, Inv X pins σ H2 s2 → RelV x v → RelV y u → R x y H2 → wpAny (model X.prog X.w) X.A (f v u) Q X.xe s2) :
    wpAny (model X.prog X.w) X.A (eval a X.env) (fun v s₁ => wpAny (model X.prog X.w) X.A (eval b X.env) (fun u s₂ => wpAny (model X.prog X.w) X.A (f v u) Q X.xe s₂) X.xe s₁) X.xe s := by
  refine thn (ha pins s σ H _ I h) fun v s1 ⟨x, H1, I1, r1, q1⟩ => ?_
  refine thn (hb pins s1 σ H1 _ I1 q1) fun u s2 ⟨y, H2, I2, r2, q2⟩ => ?_
  exact hf v u s2 x y H2 I2 r1 r2 q2
theorem pe_op {op : Operator} {r : R2} (ho : OpR X (binaryOp op) r) (ha : PE X a ta) (hb : PE X b tb) : PE X (.BinOp a op b pos) (tOp r ta tb) := by
  intro pins s σ H Q I h
  exact wpAny_BinOp (binT ha hb I h fun v u s2 x y H2 I2 rx ry q => ho pins s2 σ H2 x y v u Q I2 rx ry q)
theorem pe_un {op : UnaryOp} {r : V → Hp → VK → Prop} (ho : UnR X (unaryOp op) r) (ha : PE X a ta) : PE X (.UnaryOp op a pos) (tUn r ta) := by
  intro pins s σ H Q I h
  exact UnaryOp_ (thn (ha pins s σ H _ I h) fun v s1 ⟨x, H1, I1, r1, q1⟩ => ho pins s1 σ H1 x v Q I1 r1 q1)
theorem opI {f : Value → Value → Sem Value} {C : Int → Int → Prop} {g : Int → Int → Int}
    (rule : ∀ (i j : Int) (t u : Tok) (s : Shared) (Q : Value → Shared → Prop) (E : Value → Shared → Prop), C i j → Q (.int (g i j) s.toks) { s with toks := s.toks + 1 } → wpAny (model X.prog X.w) X.A (f (.int i t) (.int j u)) Q E s) :
    OpR X f (rI C fun i j => .int (g i j)) := by
  intro pins s σ H x y v u Q I rx ry h
  obtain ⟨i, j, rfl, rfl, hc, q⟩ := h
  obtain ⟨t, rfl⟩ := rx
  obtain ⟨t', rfl⟩ := ry
  exact rule i j t t' s _ _ hc ⟨.int (g i j), H, I.tok _, ⟨_, rfl⟩, q⟩
theorem opI0 {f : Value → Value → Sem Value} {g : Int → Int → Int}
    (rule : ∀ (i j : Int) (t u : Tok) (s : Shared) (Q : Value → Shared → Prop) (E : Value → Shared → Prop), Q (.int (g i j) s.toks) { s with toks := s.toks + 1 } → wpAny (model X.prog X.w) X.A (f (.int i t) (.int j u)) Q E s) :
    OpR X f (rI0 fun i j => .int (g i j)) := by
  intro pins s σ H x y v u Q I rx ry h
  obtain ⟨i, j, rfl, rfl, q⟩ := h
  obtain ⟨t, rfl⟩ := rx
  obtain ⟨t', rfl⟩ := ry
  exact rule i j t t' s _ _ ⟨.int (g i j), H, I.tok _, ⟨_, rfl⟩, q⟩
theorem opB0 {f : Value → Value → Sem Value} {g : Int → Int → Bool}
    (rule : ∀ (i j : Int) (t u : Tok) (s : Shared) (Q : Value → Shared → Prop) (E : Value → Shared → Prop), Q (.bool (g i j)) s → wpAny (model X.prog X.w) X.A (f (.int i t) (.int j u)) Q E s) :
    OpR X f (rI0 fun i j => .bl (g i j)) := by
  intro pins s σ H x y v u Q I rx ry h
  obtain ⟨i, j, rfl, rfl, q⟩ := h
  obtain ⟨t, rfl⟩ := rx
  obtain ⟨t', rfl⟩ := ry
  exact rule i j t t' s _ _ ⟨.bl (g i j), H, I, rfl, q⟩
theorem op_add : OpR X (binaryOp .Add) (rI0 fun i j => .int (i + j)) := opI0 fun _ _ _ _ _ _ _ q => add_int q
theorem op_sub : OpR X (binaryOp .Sub) (rI0 fun i j => .int (i - j)) := opI0 fun _ _ _ _ _ _ _ q => sub_int q
theorem op_mod : OpR X (binaryOp .Mod) (rI (fun _ j => 0 < j) fun i j => .int (i % j)) := opI fun i j _ _ _ _ _ hc q => by
  have h1 : (0 : Int) < j := hc
  exact mod_int' (by omega) (by rw [Int.fmod_eq_emod_of_nonneg i (by omega)]; exact q)
theorem unI {f : Value → Sem Value} {g : Int → Int}
    (rule : ∀ (i : Int) (t : Tok) (s : Shared) (Q : Value → Shared → Prop) (E : Value → Shared → Prop), Q (.int (g i) s.toks) { s with toks := s.toks + 1 } → wpAny (model X.prog X.w) X.A (f (.int i t)) Q E s) :
    UnR X f (rU fun i => .int (g i)) := by
  intro pins s σ H x v Q I rx h
  obtain ⟨i, rfl, q⟩ := h
  obtain ⟨t, rfl⟩ := rx
  exact rule i t s _ _ ⟨.int (g i), H, I.tok _, ⟨_, rfl⟩, q⟩
theorem un_neg : UnR X (unaryOp .USub) (rU fun i => .int (-i)) := unI fun _ _ _ _ _ q => neg_int q
end
def scal : V → V → Bool
  | .non, .non => true | .non, .int _ => true | .int _, .non => true | .non, .bl _ => true | .bl _, .non => true | .non, .str _ => true | .str _, .non => true
  | .int _, .int _ => true | .bl _, .bl _ => true | .str _, .str _ => true | .byt _, .byt _ => true
  | .int _, .str _ => true | .str _, .int _ => true | .bl _, .str _ => true | .str _, .bl _ => true
  | _, _ => false
def rEq : R2 := fun x y H Q => scal x y = true ∧ Q (.bl (decide (x = y))) H
def rNe : R2 := fun x y H Q => scal x y = true ∧ Q (.bl (!decide (x = y))) H
theorem dec_int {i j : Int} : decide (V.int i = V.int j) = (i == j) := by
  rw [Bool.eq_iff_iff]
  simp
theorem dec_bl {i j : Bool} : decide (V.bl i = V.bl j) = (i == j) := by
  rw [Bool.eq_iff_iff]
  simp
theorem dec_str {i j : Str} : decide (V.str i = V.str j) = (i == j) := by
  rw [Bool.eq_iff_iff]
  simp
theorem dec_byt {i j : Array UInt8} : decide (V.byt i = V.byt j) = (i.toList == j.toList) := by
  rw [Bool.eq_iff_iff]
  cases i
  cases j
  simp
section
variable {X : Cx} {a b c : Expr} {ta tb tc : TE} {pos : Pos}
theorem fin_bl {pins : List (Addr × Obj)} {σ : St} {H : Hp} {s : Shared} {Q : VK} {k k' : Bool} (I : Inv X pins σ H s) (q : Q (.bl k) H) (e : k = k') : EP X pins σ Q (.bool k') s := by
  subst e
  exact ⟨.bl k, H, I, rfl, q⟩
theorem op_eq : OpR X (compareOp .Eq) rEq := by
  intro pins s σ H x y v u Q I rx ry h
  obtain ⟨hs, q⟩ := h
  cases x with
  | non =>
    cases rx
    cases y with
    | non => cases ry; exact PySem.EqNone.eq_none_none (fin_bl I q (by simp))
    | bl j => cases ry; exact PySem.EqNone.eq_none_bool (fin_bl I q (by simp))
    | int j => obtain ⟨t', rfl⟩ := ry; exact PySem.EqNone.eq_none_int (fin_bl I q (by simp))
    | str j => obtain ⟨t', rfl⟩ := ry; exact PySem.EqNone.eq_none_str (fin_bl I q (by simp))
    | _ => exact absurd (show false = true from hs) Bool.false_ne_true
  | bl i =>
    cases rx
    cases y with
    | non => cases ry; exact PySem.EqNone.eq_bool_none (fin_bl I q (by simp))
    | bl j => cases ry; exact eq_bool (fin_bl I q dec_bl)
    | str j => obtain ⟨t', rfl⟩ := ry; exact PySem.EqMixed.eq_bool_str (fin_bl I q (by simp))
    | _ => exact absurd (show false = true from hs) Bool.false_ne_true
  | int i =>
    obtain ⟨t, rfl⟩ := rx
    cases y with
    | non => cases ry; exact PySem.EqNone.eq_int_none (fin_bl I q (by simp))
    | int j => obtain ⟨t', rfl⟩ := ry; exact eq_int (fin_bl I q dec_int)
    | str j => obtain ⟨t', rfl⟩ := ry; exact PySem.EqMixed.eq_int_str (fin_bl I q (by simp))
    | _ => exact absurd (show false = true from hs) Bool.false_ne_true
  | str i =>
    obtain ⟨t, rfl⟩ := rx
    cases y with
    | non => cases ry; exact PySem.EqNone.eq_str_none (fin_bl I q (by simp))
    | bl j => cases ry; exact PySem.EqMixed.eq_str_bool (fin_bl I q (by simp))
    | int j => obtain ⟨t', rfl⟩ := ry; exact PySem.EqMixed.eq_str_int (fin_bl I q (by simp))
    | str j => obtain ⟨t', rfl⟩ := ry; exact eq_str (fin_bl I q dec_str)
    | _ => exact absurd (show false = true from hs) Bool.false_ne_true
  | byt i =>
    obtain ⟨t, rfl⟩ := rx
    cases y with
    | byt j => obtain ⟨t', rfl⟩ := ry; exact PySem.W.eq_bytes (fin_bl I q dec_byt)
    | _ => exact absurd (show false = true from hs) Bool.false_ne_true
  | _ => cases y <;> exact absurd (show false = true from hs) Bool.false_ne_true
theorem op_ne : OpR X (compareOp .NotEq) rNe := by
  intro pins s σ H x y v u Q I rx ry h
  obtain ⟨hs, q⟩ := h
  cases x with
  | non =>
    cases rx
    cases y with
    | non => cases ry; exact PySem.EqNone.ne_none_none (fin_bl I q (by simp))
    | bl j => cases ry; exact PySem.EqNone.ne_none_bool (fin_bl I q (by simp))
    | int j => obtain ⟨t', rfl⟩ := ry; exact PySem.EqNone.ne_none_int (fin_bl I q (by simp))
    | str j => obtain ⟨t', rfl⟩ := ry; exact PySem.EqNone.ne_none_str (fin_bl I q (by simp))
    | _ => exact absurd (show false = true from hs) Bool.false_ne_true
  | bl i =>
    cases rx
    cases y with
    | non => cases ry; exact PySem.EqNone.ne_bool_none (fin_bl I q (by simp))
    | bl j => cases ry; exact ne_bool (fin_bl I q (congrArg not dec_bl))
    | str j => obtain ⟨t', rfl⟩ := ry; exact PySem.EqMixed.ne_bool_str (fin_bl I q (by simp))
    | _ => exact absurd (show false = true from hs) Bool.false_ne_true
  | int i =>
    obtain ⟨t, rfl⟩ := rx
    cases y with
    | non => cases ry; exact PySem.EqNone.ne_int_none (fin_bl I q (by simp))
    | int j => obtain ⟨t', rfl⟩ := ry; exact ne_int (fin_bl I q (congrArg not dec_int))
    | str j => obtain ⟨t', rfl⟩ := ry; exact PySem.EqMixed.ne_int_str (fin_bl I q (by simp))
    | _ => exact absurd (show false = true from hs) Bool.false_ne_true
  | str i =>
    obtain ⟨t, rfl⟩ := rx
    cases y with
    | non => cases ry; exact PySem.EqNone.ne_str_none (fin_bl I q (by simp))
    | bl j => cases ry; exact PySem.EqMixed.ne_str_bool (fin_bl I q (by simp))
    | int j => obtain ⟨t', rfl⟩ := ry; exact PySem.EqMixed.ne_str_int (fin_bl I q (by simp))
    | str j => obtain ⟨t', rfl⟩ := ry; exact ne_str (fin_bl I q (congrArg not dec_str))
    | _ => exact absurd (show false = true from hs) Bool.false_ne_true
  | byt i =>
    obtain ⟨t, rfl⟩ := rx
    cases y with
    | byt j => obtain ⟨t', rfl⟩ := ry; exact PySem.W.ne_bytes (fin_bl I q (congrArg not dec_byt))
    | _ => exact absurd (show false = true from hs) Bool.false_ne_true
  | _ => cases y <;> exact absurd (show false = true from hs) Bool.false_ne_true
theorem op_lt : OpR X (compareOp .Lt) (rI0 fun i j => .bl (decide (i < j))) := opB0 fun _ _ _ _ _ _ _ q => lt_int q
theorem op_le : OpR X (compareOp .LtE) (rI0 fun i j => .bl (decide (i ≤ j))) := opB0 fun _ _ _ _ _ _ _ q => le_int q
theorem op_gt : OpR X (compareOp .Gt) (rI0 fun i j => .bl (decide (j < i))) := opB0 fun _ _ _ _ _ _ _ q => gt_int q
theorem op_ge : OpR X (compareOp .GtE) (rI0 fun i j => .bl (decide (j ≤ i))) := opB0 fun _ _ _ _ _ _ _ q => ge_int q
theorem nomark (b : Expr) {op : CmpOp} (h : op ≠ .In := by decide) (h2 : op ≠ .NotIn := by decide) : behindInMarks op b = false := by
  have e1 : (op == CmpOp.In) = false := by cases op <;> first | rfl | exact absurd rfl h
  have e2 : (op == CmpOp.NotIn) = false := by cases op <;> first | rfl | exact absurd rfl h2
  cases b <;> simp [behindInMarks, e1, e2]
theorem pe_cmpR {op : CmpOp} {r : R2} (ho : OpR X (compareOp op) r) (ha : PE X a ta) (hb : PE X b tb) (hm : behindInMarks op b = false) : PE X (.Compare a [op] [b] pos) (tOp r ta tb) := by
  intro pins s σ H Q I h
  exact wpAny_Compare1 (binT ha hb I h fun v u s2 x y H2 I2 rx ry q => ho pins s2 σ H2 x y v u Q I2 rx ry q) hm
def tTest (t : TE) : TT := fun σ H Q => t σ H fun x H' => ∃ k, x = .bl k ∧ Q k H'
theorem pt_cmpR {op : CmpOp} {r : R2} (ho : OpR X (compareOp op) r) (ha : PE X a ta) (hb : PE X b tb) (hm : behindInMarks op b = false) : PT X (.Compare a [op] [b] pos) (tTest (tOp r ta tb)) := by
  intro pins s σ H Q I h
  refine wpAny_isTrue_Compare1 (thn (ha pins s σ H _ I h) fun v s1 ⟨x, H1, I1, r1, q1⟩ => thn (hb pins s1 σ H1 _ I1 q1) fun u s2 ⟨y, H2, I2, r2, q2⟩ =>
    thn (ho pins s2 σ H2 x y v u _ I2 r1 r2 q2) fun c s3 ⟨z, H3, I3, r3, k, e, q3⟩ => ?_) hm
  subst e
  cases r3
  exact wpAny_truthy_bool ⟨H3, I3, q3⟩
def tChain (r r' : R2) (ta tb tc : TE) : TE := fun σ H Q => ta σ H fun x H1 => tb σ H1 fun y H2 => r x y H2 fun z H3 => ∃ k, z = .bl k ∧
  (if k = true then tc σ H3 fun w' H4 => r' y w' H4 Q else Q (.bl false) H3)
theorem pe_chain {op op' : CmpOp} {r r' : R2} (ho : OpR X (compareOp op) r) (ho' : OpR X (compareOp op') r') (ha : PE X a ta) (hb : PE X b tb) (hc : PE X c tc)
    (hm : lastMarks [op, op'] [b, c] = false := by with_unfolding_all rfl) : PE X (.Compare a [op, op'] [b, c] pos) (tChain r r' ta tb tc) := by
  intro pins s σ H Q I h
  refine Compare_chain (thn (ha pins s σ H _ I h) fun v s1 ⟨x, H1, I1, r1, q1⟩ => chain_link (thn (hb pins s1 σ H1 _ I1 q1) fun u s2 ⟨y, H2, I2, r2, q2⟩ =>
    thn (ho pins s2 σ H2 x y v u _ I2 r1 r2 q2) fun d s3 ⟨z, H3, I3, r3, k, e, q3⟩ => ?_)) hm
  subst e
  cases r3
  refine wpAny_truthy_bool ?_
  cases k with
  | false => exact ite_ff ⟨.bl false, H3, I3, rfl, q3⟩
  | true => exact ite_tt (chain_last (thn (hc pins s3 σ H3 _ I3 q3) fun w' s4 ⟨z', H4, I4, r4, q4⟩ => ho' pins s4 σ H4 y z' u w' Q I4 r2 r4 q4))
theorem pt_chain {op op' : CmpOp} {r r' : R2} (ho : OpR X (compareOp op) r) (ho' : OpR X (compareOp op') r') (ha : PE X a ta) (hb : PE X b tb) (hc : PE X c tc)
    (hm : lastMarks [op, op'] [b, c] = false := by with_unfolding_all rfl) : PT X (.Compare a [op, op'] [b, c] pos) (tTest (tChain r r' ta tb tc)) := by
  intro pins s σ H Q I h
  refine isTrue_chain (thn (ha pins s σ H _ I h) fun v s1 ⟨x, H1, I1, r1, q1⟩ => test_link (thn (hb pins s1 σ H1 _ I1 q1) fun u s2 ⟨y, H2, I2, r2, q2⟩ =>
    thn (ho pins s2 σ H2 x y v u _ I2 r1 r2 q2) fun d s3 ⟨z, H3, I3, r3, k, e, q3⟩ => ?_)) hm
  subst e
  cases r3
  refine wpAny_truthy_bool ?_
  cases k with
  | false =>
    obtain ⟨k', e', q'⟩ := q3
    cases e'
    exact ite_ff ⟨H3, I3, q'⟩
  | true =>
    refine ite_tt (test_last (thn (hc pins s3 σ H3 _ I3 q3) fun w' s4 ⟨z', H4, I4, r4, q4⟩ => thn (ho' pins s4 σ H4 y z' u w' _ I4 r2 r4 q4) fun d' s5 ⟨z2, H5, I5, r5, k2, e2, q5⟩ => ?_))
    subst e2
    cases r5
    exact wpAny_truthy_bool ⟨H5, I5, q5⟩
theorem line63 : (sizeLine : Nat) < 2 ^ 63 := by rw [sizeLine_eq]; decide
theorem vals1 {x : V} {us : List Value} (r : Vals [x] us) : ∃ u, us = [u] ∧ RelV x u := by
  cases r with
  | cons r1 r2 => cases r2; exact ⟨_, rfl, r1⟩
theorem vals2 {x y : V} {us : List Value} (r : Vals [x, y] us) : ∃ u w', us = [u, w'] ∧ RelV x u ∧ RelV y w' := by
  cases r with
  | cons r1 r2 =>
    cases r2 with
    | cons r3 r4 => cases r4; exact ⟨_, _, rfl, r1, r3⟩
theorem call_abs : CallR X (.builtin "abs") (fun xs H Q => ∃ i, xs = [.int i] ∧ Q (.int (if i < 0 then -i else i)) H) := by
  intro pins s σ H xs us Q I r h
  obtain ⟨i, rfl, q⟩ := h
  obtain ⟨u, rfl, t, rfl⟩ := vals1 r
  exact call_abs_int fun u tk => ⟨.int (if i < 0 then -i else i), H, I.tok _, ⟨_, rfl⟩, q⟩
end
end L2
namespace L2
open PySem PySem.Spec PyProof.Rows
structure ObjM (h : Heap) (x dx C : Addr) (mA : Str → Option Value) : Prop where
  obj : h.get? x = some (PySem.W.instObj C dx)
  ns : h.Ns1 dx mA
  ne : dx ≠ x
theorem lookIn_ns {h : Heap} {dx : Addr} {mA : Str → Option Value} (n : h.Ns1 dx mA) : ∃ od, h.get? dx = some od ∧ ∀ name, PySem.W.lookIn name od = some (mA name) := by
  obtain ⟨o, es, ep, ho, hd, hk, _, hm⟩ := n
  refine ⟨o, ho, fun name => ?_⟩
  have e := hm name
  unfold nsFind findBy at e
  rw [← Array.find?_toList] at e
  unfold PySem.W.lookIn
  rw [hd]
  dsimp only
  split
  · rename_i y q
    rw [q] at e
    exact congrArg some e
  · rename_i q
    rw [q] at e
    have a : es.toList.any (·.refKey) = false := by
      rw [List.any_eq_false]
      intro y hy
      obtain ⟨z, t, hkey⟩ := hk y (Array.mem_toList_iff.mp hy)
      simp [DictEntry.refKey, hkey]
    have a' : ¬ es.toList.any (·.refKey) = true := by rw [a]; exact Bool.false_ne_true
    rw [if_neg a']
    exact congrArg some e
theorem ObjM.look {h : Heap} {x dx C : Addr} {mA : Str → Option Value} (I : ObjM h x dx C mA) : ∃ od, PySem.W.InstAt h x (PySem.W.instObj C dx) C (some od) ∧ ∀ name, PySem.W.lookIn name od = some (mA name) :=
  let ⟨od, ho, hl⟩ := lookIn_ns I.ns
  ⟨od, ⟨I.obj, rfl, rfl, ho⟩, hl⟩
section
variable {prog : Program} {w : World} {A : Around} {E : Value → Shared → Prop} {s : Shared} {K : PySem.W.Frag} {x dx C f : Addr} {mA : Str → Option Value} {name : Str} {v : Value}
theorem get_map {expr : Bool} {Q : Value → Shared → Prop} (X : K.In s.heap) (I : ObjM s.heap x dx C mA) (hg : PySem.W.plainGet K C name = true) (hh : PySem.W.hasDictIn K C = true)
    (ha : PySem.W.findIn K (.ref C) name = some none) (hv : mA name = some v) (hv' : PySem.W.handedIn v = true) (h : Q v { s with toks := s.toks + 1 }) :
    wpAny (model prog w) A (getAttr (.ref x) name expr) Q E s := by
  obtain ⟨od, J, hl⟩ := I.look
  exact PySem.W.get_value X J (PySem.W.plainGet_of hg).1 (PySem.W.findObj_own hh ha rfl (by rw [hl, hv])) hv' h
theorem get_meth {pl : Sem Bool} {Q : Value × List Value → Shared → Prop} (X : K.In s.heap) (I : ObjM s.heap x dx C mA) (hg : PySem.W.plainGet K C name = true)
    (hf : PySem.W.findIn K (.ref C) name = some (some (.ref f))) (ht : PySem.W.isFn K (.ref f) = true) (hv : mA name = none) (h : Q (.ref f, [.ref x]) s) :
    wpAny (model prog w) A (getMethod (.ref x) name pl) Q E s := by
  obtain ⟨od, J, hl⟩ := I.look
  exact PySem.W.method_fn X J (PySem.W.plainGet_of hg).1 (PySem.W.plainGet_of hg).2 hf (beq_iff_eq.mp ht) (by show (PySem.W.lookIn name od).map (·.isSome) = some false; rw [hl, hv]; rfl) h
theorem set_map {ns : List Str} {Q : Unit → Shared → Prop} (X : K.In s.heap) (I : ObjM s.heap x dx C mA)
    (hs : PySem.W.findIn K (.ref C) "__setattr__" = some (some (.builtin "object.__setattr__"))) (hp : PySem.W.plainOver K C = true) (ht : PySem.W.takerIn K C name = some none) (hh : PySem.W.hasDictIn K C = true)
    (hw : PySem.Within mA ns) (hsz : ns.length ≤ sizeLine)
    (h : ∀ h', ObjM h' x dx C (fun y => if y = name then some v else mA y) → Heap.SameBut dx s.heap h' → Q () { s with heap := h', toks := s.toks + 2 }) :
    wpAny (model prog w) A (setAttr (.ref x) name v) Q E s := by
  obtain ⟨od, J, hl⟩ := I.look
  refine PySem.W.set_plain X J hs (PySem.W.osa_open (s := { s with toks := s.toks + 1 }) (r := none) X J hp ht fun b => ?_)
  obtain ⟨cd, hc, hd'⟩ := PySem.W.any_some hh
  have hx : s.heap.get? x = some ⟨.ref C, some dx, .plain, #[]⟩ := I.obj
  refine wpAny_bind (wpAny_pure (wpAny_bind (wpAny_bind (wpAny_loadPart hx (wpAny_bind (PySem.W.Looks.here (s := { s with toks := s.toks + 1 }) (PySem.W.looks_clsIn X hc) ?_))))))
  rw [hd']
  refine wpAny_pure (a := some dx) (wpAny_bind (wpAny_pure (wpAny_bind ?_)))
  refine wpAny_nsSet1 (s := { s with toks := s.toks + 1 }) I.ns fun h' hn2 hs2 => ?_
  obtain ⟨oD, esD, epD, hoD, hdD, hcD⟩ := hn2.count (PySem.Within.cons name v hw)
  refine wpAny_bind (wpAny_lookBehind hoD (by rw [hdD]; exact pastItsLine_dict (Nat.le_trans hcD (by rw [List.length_cons]; omega))) ?_)
  exact wpAny_pure (h _ ⟨(hs2.2 _ (Ne.symm I.ne)).trans I.obj, hn2, I.ne⟩ hs2)
theorem make_map {R : Result → Shared → Prop} {vs : List Value} {kw : List (Str × Value)} (X : K.In s.heap) (hm : PySem.W.makesIn K C = true)
    (hi : PySem.W.findIn K (.ref C) "__init__" = some (some (.ref f))) (hf : PySem.W.typeIn K (.ref f) = some (.type "function"))
    (h : codeAny (model prog w) (A.under (.builtin "type.__call__" ⟨.ref C :: vs, kw⟩)) (.call (.ref f) ⟨.ref (s.heap.objs.size + 1) :: vs, kw⟩) (PySem.W.InitBack (s.heap.objs.size + 1) R)
      { s with heap := (s.heap.push PySem.W.emptyDict).push (PySem.W.instObj C s.heap.objs.size) }) :
    codeAny (model prog w) A (.call (.ref C) ⟨vs, kw⟩) R s := by
  obtain ⟨hh, g, d, t, os⟩ := s
  exact PySem.W.make_core (PySem.W.makes_of X hm) (PySem.W.looks_findIn X hi) (fun self => PySem.W.bind_fn X self hf) (.inl rfl) h
end
def putF (f : Str) (v : V) : List (Str × V) → List (Str × V)
  | [] => [(f, v)]
  | (g, x) :: r => if g = f then (g, v) :: r else (g, x) :: putF f v r
theorem lookup_putF (f g : Str) (v : V) : ∀ fs : List (Str × V), (putF f v fs).lookup g = if g = f then some v else fs.lookup g
  | [] => by
    show List.lookup g [(f, v)] = _
    by_cases h : g = f
    · have hb : (g == f) = true := beq_iff_eq.mpr h
      simp only [List.lookup, hb, if_pos h]
    · have hb : (g == f) = false := beq_eq_false_iff_ne.mpr h
      simp only [List.lookup, hb, if_neg h]
  | (k, x) :: r => by
    have ih := lookup_putF f g v r
    rw [show putF f v ((k, x) :: r) = (if k = f then (k, v) :: r else (k, x) :: putF f v r) from rfl]
    by_cases hk : k = f
    · rw [if_pos hk]
      by_cases h : g = k
      · have hb : (g == k) = true := beq_iff_eq.mpr h
        simp only [List.lookup, hb, if_pos (h.trans hk)]
      · have hb : (g == k) = false := beq_eq_false_iff_ne.mpr h
        simp only [List.lookup, hb, if_neg (fun e : g = f => h (e.trans hk.symm))]
    · rw [if_neg hk]
      by_cases h : g = k
      · have hb : (g == k) = true := beq_iff_eq.mpr h
        simp only [List.lookup, hb, if_neg (fun e : g = f => hk (h.symm.trans e))]
      · have hb : (g == k) = false := beq_eq_false_iff_ne.mpr h
        simp only [List.lookup, hb]
        exact ih
theorem keys_putF (f : Str) (v : V) : ∀ fs : List (Str × V), f ∈ (putF f v fs).map (·.1) ∧ ∀ g, g ∈ fs.map (·.1) → g ∈ (putF f v fs).map (·.1)
  | [] => ⟨by simp [putF], fun g h => by simp at h⟩
  | (k, x) :: r => by
    obtain ⟨i1, i2⟩ := keys_putF f v r
    rw [show putF f v ((k, x) :: r) = (if k = f then (k, v) :: r else (k, x) :: putF f v r) from rfl]
    by_cases hk : k = f
    · rw [if_pos hk]
      subst hk
      exact ⟨by simp, fun g h => by simpa using h⟩
    · rw [if_neg hk]
      refine ⟨?_, fun g h => ?_⟩
      · rw [List.map_cons]
        exact List.mem_cons_of_mem _ i1
      · rw [List.map_cons] at h ⊢
        rcases List.mem_cons.mp h with e | e
        · exact List.mem_cons.mpr (.inl e)
        · exact List.mem_cons_of_mem _ (i2 g e)
theorem length_putF (f : Str) (v : V) : ∀ fs : List (Str × V), (putF f v fs).length ≤ fs.length + 1
  | [] => by simp [putF]
  | (k, x) :: r => by
    have ih := length_putF f v r
    rw [show putF f v ((k, x) :: r) = (if k = f then (k, v) :: r else (k, x) :: putF f v r) from rfl]
    by_cases hk : k = f
    · rw [if_pos hk, List.length_cons, List.length_cons]; omega
    · rw [if_neg hk, List.length_cons, List.length_cons]; omega
theorem RelO.some_of {v : V} {o : Option Value} (r : RelO (some v) o) : ∃ u, o = some u ∧ RelV v u := by
  cases o with
  | none => exact (show False from r).elim
  | some u => exact ⟨u, rfl, r⟩
theorem RelO.none_of {o : Option Value} (r : RelO none o) : o = none := by
  cases o with
  | none => rfl
  | some u => exact (show False from r).elim
theorem handed_of {v : V} {u : Value} (r : RelV v u) : PySem.W.handedIn u = true := by
  cases v with
  | non => cases (show u = Value.none from r); rfl
  | bl b => cases (show u = Value.bool b from r); rfl
  | int i => obtain ⟨t, e⟩ := (show ∃ t, u = Value.int i t from r); cases e; rfl
  | str x => obtain ⟨t, e⟩ := (show ∃ t, u = Value.str x t from r); cases e; rfl
  | byt b => obtain ⟨t, e⟩ := (show ∃ t, u = Value.bytes b t from r); cases e; rfl
  | flt b => obtain ⟨t, e⟩ := (show ∃ t, u = Value.float b t from r); cases e; rfl
  | ref a => cases (show u = Value.ref a from r); rfl
  | ty n => cases (show u = Value.type n from r); rfl
section
variable {P : Program} {w : World} {H H' : Hp} {h h' : Heap} {a C dx : Addr} {fs fs' : List (Str × V)}
theorem ins_get (hok : HOk P w H h) (e : H a = some (.ins C dx fs)) : ∃ mA, ObjM h a dx C mA ∧ (∀ f, RelO (fs.lookup f) (mA f)) ∧ PySem.Within mA (fs.map (·.1)) ∧ fs.length ≤ 1000 ∧ H dx = some (.own a) := by
  obtain ⟨d, z, ne, ob, mA, n, r, q⟩ := (show ObjOk P w H h a (.ins C dx fs) from hok a _ e)
  exact ⟨mA, ⟨ob, n, ne⟩, r, q, z, d⟩
end
structure Cls (K : PySem.W.Frag) (C : Addr) : Prop where
  pg : PySem.W.plainGet K C Str.empty = true
  hd : PySem.W.hasDictIn K C = true
  po : PySem.W.plainOver K C = true
  sa : PySem.W.findIn K (.ref C) "__setattr__" = some (some (.builtin "object.__setattr__"))
theorem Cls.get {K : PySem.W.Frag} {C : Addr} (c : Cls K C) (f : Str) : PySem.W.plainGet K C f = true := c.pg
def NoAttr (K : PySem.W.Frag) (C : Addr) (f : Str) : Prop := PySem.W.findIn K (.ref C) f = some none
theorem NoAttr.taker {K : PySem.W.Frag} {C : Addr} {f : Str} (n : NoAttr K C f) : PySem.W.takerIn K C f = some none := by
  unfold PySem.W.takerIn
  rw [show PySem.W.findIn K (.ref C) f = some none from n]
  rfl
structure Meth (K : PySem.W.Frag) (C : Addr) (m : Str) (f : Addr) : Prop where
  at_ : PySem.W.findIn K (.ref C) m = some (some (.ref f))
  fn : PySem.W.isFn K (.ref f) = true
  kp : PySem.W.keepIn K (.ref f) = true
section
variable {X : Cx} {pins : List (Addr × Obj)} {σ : St} {H : Hp} {s : Shared} {a C dx : Addr} {fs : List (Str × V)} {f : Str} {v : V} {A : Around} {E : Value → Shared → Prop}
theorem getattr_ok {b : Bool} {Q : Value → Shared → Prop} (I : Inv X pins σ H s) (e : H a = some (.ins C dx fs)) (c : Cls X.K C) (n : NoAttr X.K C f) (l : fs.lookup f = some v)
    (h : ∀ u s', Inv X pins σ H s' → RelV v u → Q u s') : wpAny (model X.prog X.w) A (getAttr (.ref a) f b) Q E s := by
  obtain ⟨mA, O, r, _, _, _⟩ := ins_get I.hok e
  obtain ⟨u, hu, ru⟩ := RelO.some_of (v := v) (o := mA f) (by rw [← l]; exact r f)
  exact get_map I.kIn O (c.get f) c.hd n hu (handed_of ru) (h u _ (I.tok _) ru)
theorem getmeth_ok {m : Str} {g : Addr} {pl : Sem Bool} {Q : Value × List Value → Shared → Prop} (I : Inv X pins σ H s) (e : H a = some (.ins C dx fs)) (c : Cls X.K C) (k : Meth X.K C m g) (l : fs.lookup m = none)
    (h : Q (.ref g, [.ref a]) s) : wpAny (model X.prog X.w) A (getMethod (.ref a) m pl) Q E s := by
  obtain ⟨mA, O, r, _, _, _⟩ := ins_get I.hok e
  have hn : mA m = none := RelO.none_of (by rw [← l]; exact r m)
  exact get_meth I.kIn O (c.get m) k.at_ k.fn hn h
theorem setattr_ok {y : V} {u : Value} {Q : Unit → Shared → Prop} (I : Inv X pins σ H s) (e : H a = some (.ins C dx fs)) (c : Cls X.K C) (n : NoAttr X.K C f) (hl : fs.length < 1000) (ry : RelV y u)
    (h : ∀ s', Inv X pins σ (upd H a (.ins C dx (putF f y fs))) s' → Q () s') : wpAny (model X.prog X.w) A (setAttr (.ref a) f u) Q E s := by
  obtain ⟨mA, O, r, wi, _, ho⟩ := ins_get I.hok e
  have hz : (fs.map (·.1)).length ≤ sizeLine := by rw [List.length_map, sizeLine_eq]; omega
  refine set_map I.kIn O c.sa c.po n.taker c.hd wi hz fun h' O' sb => h _ ?_
  have hd : ∃ o, h'.get? dx = some o := let ⟨o, _, _, e', _⟩ := O'.ns; ⟨o, e'⟩
  refine I.write (x := a) (e := dx) (by rw [e]; exact True.intro) (.inr ho) (fun b q hb z => (sb.2 b hb).trans z) hd ?_
  refine ⟨by rw [upd_ne O.ne]; exact ho, ?_, O.ne, O'.obj, _, O'.ns, fun g => ?_, fun g hg => ?_⟩
  · have := length_putF f y fs; omega
  · show RelO ((putF f y fs).lookup g) (if g = f then some u else mA g)
    rw [lookup_putF]
    by_cases q : g = f
    · rw [if_pos q, if_pos q]; exact ry
    · rw [if_neg q, if_neg q]; exact r g
  · by_cases q : g = f
    · rw [q]; exact (keys_putF f y fs).1
    · refine (keys_putF f y fs).2 g (wi g fun z => hg ?_)
      show (if g = f then some u else mA g) = none
      rw [if_neg q]; exact z
theorem Inv.made (I : Inv X pins σ H s) : Inv X pins σ (upd (upd H s.heap.objs.size (.own (s.heap.objs.size + 1))) (s.heap.objs.size + 1) (.ins C s.heap.objs.size []))
    { s with heap := (s.heap.push PySem.W.emptyDict).push (PySem.W.instObj C s.heap.objs.size) } := by
  have e1 : (s.heap.push PySem.W.emptyDict).get? s.heap.objs.size = some PySem.W.emptyDict := Heap.get?_push_size s.heap rfl
  have e2 : ((s.heap.push PySem.W.emptyDict).push (PySem.W.instObj C s.heap.objs.size)).get? (s.heap.objs.size + 1) = some (PySem.W.instObj C s.heap.objs.size) := by
    have := Heap.get?_push_size (s.heap.push PySem.W.emptyDict) (o := PySem.W.instObj C s.heap.objs.size) rfl
    rwa [Heap.size_push] at this
  have e3 : (s.heap.push PySem.W.emptyDict).Ns s.heap.objs.size (fun _ => none) := ⟨PySem.W.emptyDict, #[], _, e1, rfl, (fun e he => absurd he (by simp)), fun _ => rfl⟩
  have I1 := I.laid (a := s.heap.objs.size) (o := .own (s.heap.objs.size + 1)) (h' := s.heap.push PySem.W.emptyDict) (t' := s.toks) (fun b u q => Heap.get?_push_of_some _ q) (Nat.le_refl _) ⟨_, e1⟩
  refine I1.laid (a := s.heap.objs.size + 1) (o := .ins C s.heap.objs.size []) (t' := s.toks) (fun b u q => Heap.get?_push_of_some _ q) (Nat.le_of_eq (Heap.size_push _ _)) ?_
  have ne : s.heap.objs.size ≠ s.heap.objs.size + 1 := Nat.ne_of_lt (Nat.lt_succ_self _)
  refine ⟨by rw [upd_ne ne, upd_same], Nat.zero_le _, ne, e2, fun _ => none, (Heap.Ns1.of_empty e3).at fun o q => Heap.get?_push_of_some _ q, fun _ => True.intro, fun y hy => absurd rfl hy⟩
theorem attr_of {prog : Program} {w : World} {env : Env} {e : Expr} {f : Str} {pos : Pos} {s : Shared} {Q : Value → Shared → Prop} (hb : attributeBase e f env (eval e env) = eval e env)
    (h : wpAny (model prog w) A (eval e env) (fun o s₁ => wpAny (model prog w) A (getAttr o f true) Q E s₁) E s) : wpAny (model prog w) A (eval (.Attribute e f pos) env) Q E s :=
  Attribute_any_ h (by rw [arm_eval_Attribute, hb])
end
def tFld (K : PySem.W.Frag) (ta : TE) (f : Str) : TE := fun σ H Q => ta σ H fun x H1 => ∃ a C dx fs v, x = .ref a ∧ H1 a = some (.ins C dx fs) ∧ Cls K C ∧ NoAttr K C f ∧ fs.lookup f = some v ∧ Q v H1
def sFld (K : PySem.W.Frag) (ta tv : TE) (f : Str) : TS := fun D σ H => tv σ H fun y H1 => ta σ H1 fun x H2 => ∃ a C dx fs, x = .ref a ∧ H2 a = some (.ins C dx fs) ∧ Cls K C ∧ NoAttr K C f ∧ fs.length < 1000 ∧
  D.nx σ (upd H2 a (.ins C dx (putF f y fs)))
section
variable {X : Cx} {o e value : Expr} {f : Str} {pos pos' tpos : Pos} {ta tv : TE}
theorem pe_fld (he : PE X e ta) (hb : attributeBase e f X.env (eval e X.env) = eval e X.env) : PE X (.Attribute e f pos) (tFld X.K ta f) := by
  intro pins s σ H Q I h
  refine attr_of hb (thn (he pins s σ H _ I h) fun u s1 ⟨x, H1, I1, rx, a, C, dx, fs, v, ex, ea, c, n, l, q⟩ => ?_)
  subst ex
  obtain rfl : u = Value.ref a := rx
  exact getattr_ok I1 ea c n l fun u' s2 I2 ru => ⟨v, H1, I2, ru, q⟩
theorem ps_fld (ha : PE X o ta) (hv : PE X value tv) (hs : swapsWith value (some (.Attribute o f pos')) pos.line X.env = pure false) : PS X (.Assign [.Attribute o f pos'] value pos) (sFld X.K ta tv f) := by
  intro pins s σ H D I h
  refine plainObj_wpAny_Assign_Attribute (thn (hv pins s σ H _ I h) fun u s1 ⟨y, H1, I1, ry, q⟩ => thn (ha pins s1 σ H1 _ I1 q) fun ov s2 ⟨x, H2, I2, rx, a, C, dx, fs, ex, ea, c, n, l, q2⟩ => ?_) hs
  subst ex
  obtain rfl : ov = Value.ref a := rx
  exact setattr_ok I2 ea c n l ry fun s3 I3 => ⟨σ, _, I3, q2⟩
end
section
variable {X : Cx} {pins : List (Addr × Obj)} {σ : St} {H : Hp} {s : Shared} {A : Around} {E : Value → Shared → Prop} {Q : Value → Shared → Prop} {c : Value} {b : Bool}
end
end L2
namespace L2
open PySem PySem.Spec PyProof.Rows
structure Room (k : Nat) (A : Around) : Prop where
  hd : A.handled = none
  dp : A.depth + 3 * k + 5 < recursionLimit
  un : A.units + 16 * k + 200 < cLine
theorem Room.mono {j k : Nat} {A : Around} (r : Room k A) (h : j ≤ k) : Room j A := ⟨r.hd, by have := r.dp; omega, by have := r.un; omega⟩
theorem Room.deeper {k : Nat} {A : Around} (r : Room (k + 1) A) (env : Env) : Room k (A.deeper env) :=
  ⟨r.hd, by have := r.dp; show A.depth + 1 + 3 * k + 5 < _; omega, by have := r.un; show A.units + 3 + 16 * k + 200 < _; omega⟩
theorem make_depth {A : Around} {C : Addr} {us : List Value} {kw : List (Str × Value)} : (A.under (.builtin "type.__call__" ⟨.ref C :: us, kw⟩)).depth = A.depth + 1 := by
  first | rfl | simp [Around.under, Code.weight, Code.isCreation, Code.isGuard, Code.isCaller, Code.frames, Code.isFrame, guardIds]
theorem make_units {A : Around} {C : Addr} {us : List Value} {kw : List (Str × Value)} : (A.under (.builtin "type.__call__" ⟨.ref C :: us, kw⟩)).units = A.units + 1 := by
  first | rfl | simp [Around.under, Code.cUnits, Code.frames, Code.isFrame]
theorem Room.make {k : Nat} {A : Around} (r : Room (k + 1) A) (C : Addr) (us : List Value) (kw : List (Str × Value)) : Room k (A.under (.builtin "type.__call__" ⟨.ref C :: us, kw⟩)) :=
  ⟨r.hd, by have := r.dp; rw [make_depth]; omega, by have := r.un; rw [make_units]; omega⟩
theorem Room.depth {k : Nat} {A : Around} (r : Room k A) : A.depth < recursionLimit := by have := r.dp; omega
theorem Room.units {k : Nat} {A : Around} (r : Room k A) : A.units + 64 < cLine := by have := r.un; omega
def tNil : TA := fun _ H Q => Q [] H
def tCons (ta : TE) (tr : TA) : TA := fun σ H Q => ta σ H fun x H1 => tr σ H1 fun xs H2 => Q (x :: xs) H2
section
variable {X : Cx} {e : Expr} {es : List Expr} {te : TE} {t : TA} {pos : Pos}
theorem pa_nil : PA X [] tNil := fun _ _ _ _ H Q I h => Calls.spliced_nil ⟨[], H, I, .nil, h⟩
theorem pa_cons (ha : PE X e te) (hr : PA X es t) (hs : starEach (e :: es) X.env = (false, eval e X.env) :: starEach es X.env := by rfl) : PA X (e :: es) (tCons te t) := by
  intro pos pins s σ H Q I h
  rw [hs]
  show wpAny _ _ (spliced ((false, eval e X.env) :: backTo pos (starEach es X.env))) _ _ s
  refine Calls.spliced_cons (thn (ha pins s σ H _ I h) fun u s1 ⟨x, H1, I1, r1, q1⟩ => ?_)
  exact thn (hr pos pins s1 σ H1 _ I1 q1) fun us s2 ⟨xs, H2, I2, r2, q2⟩ => ⟨x :: xs, H2, I2, .cons r1 r2, q2⟩
def tLst (t : TA) : TE := fun σ H Q => t σ H fun xs H1 => xs.length ≤ sizeLine ∧ ∀ p, H1 p = none → Q (.ref p) (upd H1 p (.lst xs))
theorem pe_lst (h : PA X es t) : PE X (.List es pos) (tLst t) := by
  intro pins s σ H Q I hq
  refine wpAny_List_spliced (thn (h pos pins s σ H _ I hq) fun us s1 ⟨xs, H1, I1, r, z, q⟩ => ⟨by rw [← r.length]; exact z, ?_⟩)
  have hf : H1 s1.heap.objs.size = none := I1.hok.fresh (Nat.le_refl _)
  refine ⟨.ref s1.heap.objs.size, upd H1 s1.heap.objs.size (.lst xs), I1.laid (t' := s1.toks) (fun b u e => Heap.get?_push_of_some _ e) (Nat.le_refl _) ?_, rfl, q _ hf⟩
  exact ⟨z, us, 0, r, Heap.get?_push_size _ rfl⟩
end
abbrev Sp := List V → Hp → VK → XK → Prop
abbrev CXT := List Env → Hp → Shared → XK → Value → Shared → Prop
structure Env0 (P : Program) (w : World) (K : PySem.W.Frag) (mg : Str → Option Value) (base : Heap) (A : Around) (outer : List Env) (s : Shared) (H : Hp) : Prop where
  frames : A.frames = some outer
  mod : Mod K mg base
  bs : ∀ b o, base.get? b = some o → s.heap.get? b = some o ∧ H b = none
  bsz : base.objs.size ≤ s.heap.objs.size
  funs : s.heap.FunFrames base outer
  frf : ∀ b ∈ frs outer, H b = none
  hok : HOk P w H s.heap
  bare : AllBare s.gens
def CE (outer : List Env) (P : Program) (w : World) (H : Hp) (s : Shared) (Q : VK) (u : Value) (s' : Shared) : Prop :=
  ∃ v H', s'.os = s.os ∧ AllBare s'.gens ∧ Un (frs outer) [] H H' s.heap s'.heap ∧ HOk P w H' s'.heap ∧ RelV v u ∧ Q v H'
def CR (CX : CXT) (outer : List Env) (P : Program) (w : World) (H : Hp) (s : Shared) (Q : VK) (E : XK) (r : Result) (s' : Shared) : Prop :=
  match r with
  | .ok (.ret u) => CE outer P w H s Q u s'
  | .ok _ => False
  | .error e => CX outer H s E e s'
structure FnOk (P : Program) (w : World) (K : PySem.W.Frag) (mg : Str → Option Value) (base : Heap) (CX : CXT) (k : Nat) (f : Addr) (fd : FuncData) (ps : List Str) (sp : Sp) : Prop where
  len : ∀ vs H Q E, sp vs H Q E → vs.length = ps.length
  run : ∀ (A : Around) (outer : List Env) (s : Shared) (H : Hp) (args : Args) (us : List Value) (vs : List V) (Q : VK) (E : XK), Room k A → Env0 P w K mg base A outer s H → BindsTo s fd args (ps.zip us) → Vals vs us → sp vs H Q E →
    codeAny (model P w) A (.call (.ref f) args) (CR CX outer P w H s Q E) s
theorem Env0.make {P : Program} {w : World} {K : PySem.W.Frag} {mg : Str → Option Value} {base : Heap} {A : Around} {outer : List Env} {s : Shared} {H : Hp} (e : Env0 P w K mg base A outer s H) (C : Addr) (us : List Value) (kw : List (Str × Value)) :
    Env0 P w K mg base (A.under (.builtin "type.__call__" ⟨.ref C :: us, kw⟩)) outer s H := ⟨by first | exact e.frames | (simpa [Around.under, Code.envs, Code.isFrame, pushEnvs] using e.frames), e.mod, e.bs, e.bsz, e.funs, e.frf, e.hok, e.bare⟩
section
variable {X : Cx} {pins : List (Addr × Obj)} {σ : St} {H : Hp} {s s' : Shared}
theorem Inv.env0 (I : Inv X pins σ H s) : Env0 X.prog X.w X.K X.mg X.base X.A X.stack s H :=
  ⟨I.ok.frames, I.ok.mod, I.bs, Nat.le_trans I.ok.bsz I.sz, I.stack, I.stkFree, I.hok, I.bare⟩
theorem Inv.after {Q : VK} {u : Value} (I : Inv X pins σ H s) (h : CE X.stack X.prog X.w H s Q u s') : EP X pins σ Q u s' := by
  obtain ⟨v, H', os, bare, un, hok, r, q⟩ := h
  obtain ⟨hh, g, d, t, os'⟩ := s'
  obtain rfl : os' = s.os := os
  exact ⟨v, H', I.call (h' := hh) (g' := g) (d' := d) (t' := t) (ch := []) un hok bare (fun b z => absurd z (by simp)), r, q⟩
end
def tCall (sp : Sp) (dvs : List V) (E : XK) (t : TA) : TE := fun σ H Q => t σ H fun vs H1 => sp (vs ++ dvs) H1 Q E
def tMeth (C : Addr) (m : Str) (sp : Sp) (dvs : List V) (E : XK) (ta : TE) (t : TA) : TE := fun σ H Q => ta σ H fun x H1 => ∃ a dx fs, x = .ref a ∧ H1 a = some (.ins C dx fs) ∧ fs.lookup m = none ∧
  t σ H1 fun vs H2 => sp (x :: (vs ++ dvs)) H2 Q E
def tMake (C : Addr) (sp : Sp) (dvs : List V) (E : XK) (t : TA) : TE := fun σ H Q => t σ H fun vs H1 => ∀ x dx, H1 x = none → H1 dx = none → dx ≠ x →
  sp (.ref x :: (vs ++ dvs)) (upd (upd H1 dx (.own x)) x (.ins C dx [])) (fun v H2 => v = .non ∧ Q (.ref x) H2) E
def Binds (K : PySem.W.Frag) (fd : FuncData) (ps : List Str) (ds : List Value) : Prop :=
  ∀ (s : Shared) (us : List Value), K.In s.heap → (us ++ ds).length = ps.length → BindsTo s fd ⟨us, []⟩ (ps.zip (us ++ ds))
theorem Binds.all {K : PySem.W.Frag} {fd : FuncData} {ps : List Str} (h : ∀ us : List Value, us.length = ps.length → bindArgs fd ⟨us, []⟩ = pure (ps.zip us)) : Binds K fd ps [] := fun s us _ hl => by
  rw [List.append_nil] at hl ⊢
  exact .of_eq (h us hl)
def Passes (CX : CXT) (X : Cx) (E : XK) : Prop := ∀ (pins : List (Addr × Obj)) (σ : St) (H : Hp) (s : Shared) (e : Value) (s' : Shared), Inv X pins σ H s → CX X.stack H s E e s' → X.xe e s'
section
variable {X : Cx} {CX : CXT} {k : Nat} {f C : Addr} {fd : FuncData} {ps : List Str} {sp : Sp} {dvs : List V} {ds : List Value} {E : XK} {x m : Str} {p pos apos : Pos} {e o : Expr} {es : List Expr} {ta : TE} {t : TA}
theorem run_fn {pins : List (Addr × Obj)} {σ : St} {H : Hp} {s : Shared} {Q : VK} {us : List Value} {vs : List V} (F : FnOk X.prog X.w X.K X.mg X.base CX k f fd ps sp) (hr : Room k X.A) (hb : Binds X.K fd ps ds) (hd : Vals dvs ds) (hx : Passes CX X E)
    (I : Inv X pins σ H s) (r : Vals vs us) (h : sp (vs ++ dvs) H Q E) : wpAny (model X.prog X.w) X.A (call (.ref f) us) (EP X pins σ Q) X.xe s := by
  have r2 : Vals (vs ++ dvs) (us ++ ds) := r.append hd
  have hl : (us ++ ds).length = ps.length := by rw [← r2.length]; exact F.len _ _ _ _ h
  refine wpAny_call (codeAny_mono (F.run X.A X.stack s H ⟨us, []⟩ (us ++ ds) (vs ++ dvs) Q E hr I.env0 (hb s us I.kIn hl) r2 h) fun r s' hq => ?_)
  cases r with
  | error e => exact hx pins σ H s e s' I hq
  | ok fl =>
    cases fl with
    | ret u => exact I.after hq
    | next => exact False.elim hq
    | brk => exact False.elim hq
    | cont => exact False.elim hq
theorem pe_call (F : FnOk X.prog X.w X.K X.mg X.base CX k f fd ps sp) (hr : Room k X.A) (hg : Gl X x) (hm : X.mg x = some (.ref f)) (hk : PySem.W.keepIn X.K (.ref f) = true) (hb : Binds X.K fd ps ds) (hd : Vals dvs ds) (hx : Passes CX X E)
    (ha : PA X (e :: es) t) (hdb : (x == ("__debug__" : Str)) = false := by decide) (he : starEach (e :: es) X.env = (false, eval e X.env) :: starEach es X.env := by rfl) (hpl : (backTo pos (starEach es X.env)).any (·.1) = false := by rfl) :
    PE X (.Call (.Name x p) (e :: es) [] pos) (tCall sp dvs E t) := by
  intro pins s σ H Q I h
  refine wpAny_Call_Name_kw (ld_glob I hg hm ?_ hdb)
  refine PySem.W.callWith_K (h₀ := X.base) I.ok.mod.kin hk (thn (ha pos pins s σ H _ I h) fun us s1 ⟨vs, H1, I1, r, q⟩ => ⟨I1.kIn, ?_⟩) he hpl
  exact run_fn F hr hb hd hx I1 r q
theorem pe_meth {pl : Sem Bool} (he : PE X o ta) (c : Cls X.K C) (hm : Meth X.K C m f) (F : FnOk X.prog X.w X.K X.mg X.base CX k f fd ps sp) (hr : Room k X.A) (hb : Binds X.K fd ps ds) (hd : Vals dvs ds) (hx : Passes CX X E) (ha : PA X (e :: es) t)
    (hst : starEach (e :: es) X.env = (false, eval e X.env) :: starEach es X.env := by rfl) (hpl : (backTo pos (starEach es X.env)).any (·.1) = false := by rfl)
    (ht : eval (.Call (.Attribute o m apos) (e :: es) [] pos) X.env = (do
      let ov ← eval o X.env
      standAt apos.atName
      let (f, first) ← holding [ov] (getMethod ov m pl)
      callWith pos f first (backTo pos (starEach (e :: es) X.env)) (backToKw pos (keywordEach [] X.env))) := by rfl) :
    PE X (.Call (.Attribute o m apos) (e :: es) [] pos) (tMeth C m sp dvs E ta t) := by
  intro pins s σ H Q I h
  refine PySem.W.methodCall_KW (pl := pl) (thn (he pins s σ H _ I h) fun u s1 ⟨x, H1, I1, rx, a, dx, fs, ex, ea, l, q⟩ => ?_) ht
  subst ex
  obtain rfl : u = Value.ref a := rx
  refine getmeth_ok I1 ea c hm l ?_
  refine PySem.W.callWith_K (first := [.ref a]) (h₀ := X.base) I.ok.mod.kin hm.kp (thn (ha pos pins s1 σ H1 _ I1 q) fun us s2 ⟨vs, H2, I2, r, q2⟩ => ⟨I2.kIn, ?_⟩) hst hpl
  exact run_fn (us := .ref a :: us) (vs := .ref a :: vs) F hr hb hd hx I2 (.cons rfl r) q2
theorem pe_meth0 {pl : Sem Bool} (he : PE X o ta) (c : Cls X.K C) (hm : Meth X.K C m f) (F : FnOk X.prog X.w X.K X.mg X.base CX k f fd ps sp) (hr : Room k X.A) (hb : Binds X.K fd ps ds) (hd : Vals dvs ds) (hx : Passes CX X E)
    (ht : eval (.Call (.Attribute o m apos) [] [] pos) X.env = (do
      let ov ← eval o X.env
      standAt apos.atName
      let (f, first) ← holding [ov] (getMethod ov m pl)
      callWith pos f first (backTo pos (starEach [] X.env)) (backToKw pos (keywordEach [] X.env))) := by rfl) :
    PE X (.Call (.Attribute o m apos) [] [] pos) (tMeth C m sp dvs E ta tNil) := by
  intro pins s σ H Q I h
  refine PySem.W.methodCall_KW (pl := pl) (thn (he pins s σ H _ I h) fun u s1 ⟨x, H1, I1, rx, a, dx, fs, ex, ea, l, q⟩ => ?_) ht
  subst ex
  obtain rfl : u = Value.ref a := rx
  refine getmeth_ok I1 ea c hm l ?_
  exact PySem.W.callWith_K0 (first := [.ref a]) I1.kIn hm.kp (run_fn (us := [.ref a]) (vs := [.ref a]) F hr hb hd hx I1 (.cons rfl .nil) q)
structure Mk (K : PySem.W.Frag) (C f : Addr) : Prop where
  makes : PySem.W.makesIn K C = true
  init : PySem.W.findIn K (.ref C) "__init__" = some (some (.ref f))
  fn : PySem.W.isFn K (.ref f) = true
  kp : PySem.W.keepIn K (.ref C) = true
theorem run_make {pins : List (Addr × Obj)} {σ : St} {H : Hp} {s : Shared} {Q : VK} {us : List Value} {vs : List V} (M : Mk X.K C f) (F : FnOk X.prog X.w X.K X.mg X.base CX k f fd ps sp) (hr : Room (k + 1) X.A) (hb : Binds X.K fd ps ds) (hd : Vals dvs ds)
    (hx : Passes CX X E) (I : Inv X pins σ H s) (r : Vals vs us)
    (h : ∀ x dx, H x = none → H dx = none → dx ≠ x → sp (.ref x :: (vs ++ dvs)) (upd (upd H dx (.own x)) x (.ins C dx [])) (fun v H2 => v = .non ∧ Q (.ref x) H2) E) :
    wpAny (model X.prog X.w) X.A (call (.ref C) us) (EP X pins σ Q) X.xe s := by
  have hq := h (s.heap.objs.size + 1) s.heap.objs.size (I.hok.fresh (Nat.le_succ _)) (I.hok.fresh (Nat.le_refl _)) (Nat.ne_of_lt (Nat.lt_succ_self _))
  have I2 := Inv.made (C := C) I
  have r2 : Vals (V.ref (s.heap.objs.size + 1) :: (vs ++ dvs)) (Value.ref (s.heap.objs.size + 1) :: (us ++ ds)) := .cons rfl (r.append hd)
  have hl : (Value.ref (s.heap.objs.size + 1) :: us ++ ds).length = ps.length := by
    have e := r2.length
    rw [F.len _ _ _ _ hq] at e
    exact e.symm
  refine wpAny_call (make_map (f := f) I.kIn M.makes M.init (beq_iff_eq.mp M.fn) (codeAny_mono (F.run _ X.stack _ _ ⟨Value.ref (s.heap.objs.size + 1) :: us, []⟩ (Value.ref (s.heap.objs.size + 1) :: (us ++ ds)) _ _ E (hr.make C us [])
    (I2.env0.make C us []) (hb _ (Value.ref (s.heap.objs.size + 1) :: us) I2.kIn hl) r2 hq) fun r s' hq' => ?_))
  cases r with
  | error e => exact hx pins σ _ _ e s' I2 hq'
  | ok fl =>
    cases fl with
    | ret u =>
      obtain ⟨v, H', I3, rv, ev, q3⟩ := I2.after hq'
      subst ev
      exact ⟨rv, ⟨V.ref (s.heap.objs.size + 1), H', I3, rfl, q3⟩⟩
    | next => exact False.elim hq'
    | brk => exact False.elim hq'
    | cont => exact False.elim hq'
theorem pe_make (M : Mk X.K C f) (F : FnOk X.prog X.w X.K X.mg X.base CX k f fd ps sp) (hr : Room (k + 1) X.A) (hg : Gl X x) (hm : X.mg x = some (.ref C)) (hb : Binds X.K fd ps ds) (hd : Vals dvs ds) (hx : Passes CX X E)
    (ha : PA X (e :: es) t) (hdb : (x == ("__debug__" : Str)) = false := by decide) (he : starEach (e :: es) X.env = (false, eval e X.env) :: starEach es X.env := by rfl) (hpl : (backTo pos (starEach es X.env)).any (·.1) = false := by rfl) :
    PE X (.Call (.Name x p) (e :: es) [] pos) (tMake C sp dvs E t) := by
  intro pins s σ H Q I h
  refine wpAny_Call_Name_kw (ld_glob I hg hm ?_ hdb)
  refine PySem.W.callWith_K (h₀ := X.base) I.ok.mod.kin M.kp (thn (ha pos pins s σ H _ I h) fun us s1 ⟨vs, H1, I1, r, q⟩ => ⟨I1.kIn, ?_⟩) he hpl
  exact run_make M F hr hb hd hx I1 r q
theorem pe_make0 (M : Mk X.K C f) (F : FnOk X.prog X.w X.K X.mg X.base CX k f fd ps sp) (hr : Room (k + 1) X.A) (hg : Gl X x) (hm : X.mg x = some (.ref C)) (hb : Binds X.K fd ps ds) (hd : Vals dvs ds) (hx : Passes CX X E)
    (hdb : (x == ("__debug__" : Str)) = false := by decide) : PE X (.Call (.Name x p) [] [] pos) (tMake C sp dvs E tNil) := by
  intro pins s σ H Q I h
  refine wpAny_Call_Name_kw (ld_glob I hg hm ?_ hdb)
  exact PySem.W.callWith_K0 I.kIn M.kp (run_make (us := []) M F hr hb hd hx I .nil h)
end
section
variable {X : Cx} {CX : CXT} {k : Nat} {f C : Addr} {fd : FuncData} {ps ks : List Str} {sp : Sp} {E : XK} {x m : Str} {p pos apos kpos : Pos} {e o : Expr} {es : List Expr} {kws : List Keyword} {te ta : TE} {t tk : TA} {nm : Option Str}
variable {g : List Value → List Value → List Value} {gV : List V → List V → List V}
end
structure FnScope (N P : List Str) (sc : Scope) : Prop where
  kind : sc.kind = .function
  co : sc.isCoroutine = false
  gen : sc.isGenerator = false
  nd : N.Nodup
  pre : N.take P.length = P
  par : ∀ x ∈ P, sc.names.lookup x = some .local ∨ sc.names.lookup x = some .cell
  nofree : ∀ y ∈ sc.names, y.2 ≠ .free
theorem bindL_out {kindOf : Str → Option NameKind} {x : Str} : ∀ {binds : List (Str × Value)} {m : Str → Option Value}, (∀ v, (x, v) ∉ binds) → bindL kindOf binds m x = m x
  | [], _, _ => rfl
  | (n, v) :: r, m, h => by
    unfold bindL
    rw [bindL_out fun w hw => h w (List.mem_cons_of_mem _ hw)]
    split
    · have : x ≠ n := by rintro rfl; exact h v List.mem_cons_self
      simp [this]
    · rfl
theorem bindC_out {kindOf : Str → Option NameKind} {x : Str} : ∀ {binds : List (Str × Value)} {m : Str → Option Value}, (∀ v, (x, v) ∉ binds) → bindC kindOf binds m x = m x
  | [], _, _ => rfl
  | (n, v) :: r, m, h => by
    unfold bindC
    rw [bindC_out fun w hw => h w (List.mem_cons_of_mem _ hw)]
    split
    · rfl
    · have : x ≠ n := by rintro rfl; exact h v List.mem_cons_self
      simp [this]
theorem bindL_get {kindOf : Str → Option NameKind} {x : Str} {v : Value} : ∀ {P : List Str} {vs : List Value} {i : Nat} {m : Str → Option Value}, P.Nodup → P[i]? = some x → vs[i]? = some v → kindOf x = some .local →
    bindL kindOf (P.zip vs) m x = some v
  | [], _, _, _, _, h, _, _ => by simp at h
  | _ :: _, [], _, _, _, _, h, _ => by simp at h
  | p :: P, w :: vs, 0, m, nd, h1, h2, hk => by
    simp at h1 h2; subst h1; subst h2
    show bindL kindOf ((p, w) :: P.zip vs) m p = _
    unfold bindL
    rw [bindL_out fun v hv => (List.nodup_cons.mp nd).1 (List.of_mem_zip hv).1, if_pos hk]
    simp
  | p :: P, w :: vs, i + 1, m, nd, h1, h2, hk => by
    show bindL kindOf ((p, w) :: P.zip vs) m x = _
    unfold bindL
    exact bindL_get (i := i) (List.nodup_cons.mp nd).2 (by simpa using h1) (by simpa using h2) hk
theorem bindC_get {kindOf : Str → Option NameKind} {x : Str} {v : Value} : ∀ {P : List Str} {vs : List Value} {i : Nat} {m : Str → Option Value}, P.Nodup → P[i]? = some x → vs[i]? = some v → kindOf x ≠ some .local →
    bindC kindOf (P.zip vs) m x = some v
  | [], _, _, _, _, h, _, _ => by simp at h
  | _ :: _, [], _, _, _, _, h, _ => by simp at h
  | p :: P, w :: vs, 0, m, nd, h1, h2, hk => by
    simp at h1 h2; subst h1; subst h2
    show bindC kindOf ((p, w) :: P.zip vs) m p = _
    unfold bindC
    rw [bindC_out fun v hv => (List.nodup_cons.mp nd).1 (List.of_mem_zip hv).1, if_neg hk]
    simp
  | p :: P, w :: vs, i + 1, m, nd, h1, h2, hk => by
    show bindC kindOf ((p, w) :: P.zip vs) m x = _
    unfold bindC
    exact bindC_get (i := i) (List.nodup_cons.mp nd).2 (by simpa using h1) (by simpa using h2) hk
def start (N : List Str) (vs : List V) : St := vs.map some ++ List.replicate (N.length - vs.length) none
def cxOf (CX : CXT) (P : Program) (w : World) (K : PySem.W.Frag) (mg : Str → Option Value) (base : Heap) (N : List Str) (qual : Str) (scope : Scope) (f : Addr) (cd : Value) (A : Around) (outer : List Env) (s : Shared) (H : Hp) (E : XK) : Cx where
  prog := P
  w := w
  K := K
  mg := mg
  base := base
  A := A.deeper (envOfC qual scope s.heap.objs.size f cd)
  N := N
  s_0 := s
  H_0 := H
  env := envOfC qual scope s.heap.objs.size f cd
  outer := outer
  stack := envOfC qual scope s.heap.objs.size f cd :: outer
  ex := []
  calm := true
  fn := fun _ => true
  pn := []
  xe := fun e s' => wpAny (model P w) (A.deeper (envOfC qual scope s.heap.objs.size f cd)) (leaving (envOfC qual scope s.heap.objs.size f cd) e) (fun _ s'' => CX outer H s E e s'') (fun e' s'' => CX outer H s E e' s'') s'
theorem cell_has {sc : Scope} {n : Nat} {x : Str} (h : sc.names.lookup x = some .cell) : ∃ c, (cellsFrom n sc.names []).lookup x = some c := by
  have q := PySem.W.cellsFrom_some sc.names n [] (.inl h)
  exact Option.isSome_iff_exists.mp q
theorem inv_start {CX : CXT} {P : Program} {w : World} {K : PySem.W.Frag} {mg : Str → Option Value} {base : Heap} {N ps : List Str} {qual : Str} {scope : Scope} {f : Addr} {cd : Value} {A : Around} {outer : List Env} {s s1 : Shared} {H : Hp} {E : XK} {us : List Value} {vs : List V}
    (S : FnScope N ps scope) (hd : A.handled = none) (e0 : Env0 P w K mg base A outer s H) (hl : vs.length = ps.length) (r : Vals vs us)
    (x : InCallC s s.heap.objs.size (bindL (envOfC qual scope s.heap.objs.size f cd).kindOf (ps.zip us) fun _ => none) (cellsFrom (s.heap.objs.size + 1) scope.names []) (bindC (envOfC qual scope s.heap.objs.size f cd).kindOf (ps.zip us) fun _ => none) s1) :
    Inv (cxOf CX P w K mg base N qual scope f cd A outer s H E) [] (start N vs) H s1 := by
  have hpl : ps.length ≤ N.length := by have := congrArg List.length S.pre; rw [List.length_take] at this; omega
  obtain ⟨h1, tk, rfl, hk⟩ := x.done
  have noA : ∀ b : Addr, b ∉ (cxOf CX P w K mg base N qual scope f cd A outer s H E).ex := fun b z => absurd (show b ∈ ([] : List Addr) from z) (by simp)
  refine ⟨⟨e0.mod, S.kind, rfl, rfl, Nat.le_refl _, fun y z c h1 h2 => ?_, fun y hy => ?_, fun y c _ h => ?_, fun _ => hd, Around.frames_deeper e0.frames, .inr ⟨rfl, rfl⟩, fun b z => absurd z (noA b), e0.bs, e0.bsz, fun b _ _ => noA b, fun b z => absurd z (noA b), e0.funs, e0.frf⟩,
    rfl, e0.bare, Un.kept hk, ⟨_, x.toInCall.ns, fun i y v h1 h2 h3 => ?_⟩, fun y c h => ⟨_, x.cell y c h⟩, e0.hok.fresh (Nat.le_refl _), fun y c h => ?_, fun p hp => absurd (show p ∈ ([] : List (Addr × Obj)) from hp) (by simp), e0.hok.kept hk, ?_⟩
  · exact name_of_addr x.apart (PySem.mem_of_lookup h1) (PySem.mem_of_lookup h2)
  · have hy : scope.names.lookup y = some .cell ∨ scope.names.lookup y = some .free := hy
    rcases hy with hy | hy
    · exact cell_has hy
    · exact absurd rfl (S.nofree _ (PySem.mem_of_lookup hy))
  · exact Nat.le_of_lt (x.above y c (PySem.mem_of_lookup h))
  · have hi : i < vs.length := by
      unfold start at h2
      by_cases hi : i < vs.length
      · exact hi
      · rw [List.getElem?_append_right (by simpa using hi)] at h2
        rw [List.getElem?_replicate] at h2
        split at h2 <;> cases h2
    have ha : vs[i]? = some v := by
      unfold start at h2
      rw [List.getElem?_append_left (by simpa using hi), List.getElem?_map] at h2
      cases e : vs[i]? with
      | none => rw [e] at h2; cases h2
      | some a => rw [e] at h2; cases h2; rfl
    obtain ⟨u, hu, rv⟩ := r.get ha
    have hp : ps[i]? = some y := by
      rw [← S.pre, List.getElem?_take_of_lt (by omega)]; exact h1
    have ndP : ps.Nodup := by rw [← S.pre]; exact S.nd.sublist (List.take_sublist _ _)
    refine ⟨u, rv, ?_⟩
    rcases S.par y (List.mem_of_getElem? hp) with k | k
    · exact .inl ⟨k, bindL_get ndP hp hu k⟩
    · obtain ⟨c, e⟩ := cell_has (n := s.heap.objs.size + 1) k
      refine .inr ⟨.inl k, c, e, ?_⟩
      have q := x.cell y c e
      rw [bindC_get ndP hp hu (by show scope.names.lookup y ≠ _; rw [k]; decide)] at q
      exact q
  · exact e0.hok.fresh (Nat.le_of_lt (x.above y c (PySem.mem_of_lookup h)))
  · unfold start
    show _ = N.length
    rw [List.length_append, List.length_map, List.length_replicate]
    omega
theorem fn_of {CX : CXT} {P : Program} {w : World} {K : PySem.W.Frag} {mg : Str → Option Value} {base : Heap} {k : Nat} {f : Addr} {name qual : Str} {params : Arguments} {body : List Stmt} {scope : Scope} {dV kV doc pm cdv ct oc : Value} {an od : Option Addr}
    {osl : Array (Option Value)} {N ps : List Str} {sp : Sp} (lk : K.lookup f = some ⟨oc, od, .func (PySem.W.fnOf name qual params body scope dV kV doc pm an cdv ct), osl⟩) (hcd : PySem.W.codeIn K cdv qual = true) (S : FnScope N ps scope)
    (len : ∀ vs H Q E, sp vs H Q E → vs.length = ps.length)
    (hbody : ∀ (A : Around) (outer : List Env) (s : Shared) (H : Hp) (vs : List V) (Q : VK) (E : XK), Room k (A.deeper (envOfC qual scope s.heap.objs.size f cdv)) → sp vs H Q E →
      ∃ t, PSs (cxOf CX P w K mg base N qual scope f cdv A outer s H E) body t ∧ t { nx := fun _ H' => Q .non H', rt := Q } (start N vs) H) :
    FnOk P w K mg base CX (k + 1) f (PySem.W.fnOf name qual params body scope dV kV doc pm an cdv ct) ps sp := by
  refine ⟨len, fun A outer s H args us vs Q E hr e0 hb r hsp => ?_⟩
  have hl := len _ _ _ _ hsp
  have KX : K.In s.heap := e0.mod.kin.keeps fun b o e => (e0.bs b o e).1
  have lim : s.heap.NoLimit := e0.mod.nolimit.keeps fun b o e => (e0.bs b o e).1
  have hkind : ∀ y ∈ ps.zip us, scope.names.lookup y.1 = some .local ∨ (scope.names.lookup y.1 = some .cell ∧ ((cellsFrom (s.heap.objs.size + 1) scope.names []).lookup y.1).isSome = true) := fun ⟨n, v⟩ hy => by
    rcases S.par n (List.of_mem_zip hy).1 with q | q
    · exact .inl q
    · exact .inr ⟨q, PySem.W.cellsFrom_some _ _ _ (.inl q)⟩
  refine codeAny_call_function hr.depth (KX _ _ lk) rfl S.co S.gen rfl (PySem.W.codeRec_of KX hcd) (hb _ _ _ _ ?_)
  refine wpAny_newFunctionEnv_cells S.kind hkind fun env he s1 x => ?_
  subst he
  refine ⟨lim.keeps x.toInCall.keep, codeAny_func ?_⟩
  obtain ⟨t, ht, hq⟩ := hbody A outer s H vs Q E (hr.deeper _) hsp
  have I : Inv (cxOf CX P w K mg base N qual scope f cdv A outer s H E) [] (start N vs) H s1 := inv_start S hr.hd e0 hl r x
  refine wpAny_mono (ht [] s1 (start N vs) H _ I hq) (fun fl s' hs => ?_) fun e s' hs => hs
  have fin : ∀ {σ' : St} {H' : Hp} {v : V} {u : Value}, Inv (cxOf CX P w K mg base N qual scope f cdv A outer s H E) [] σ' H' s' → RelV v u → Q v H' → CE outer P w H s Q u s' :=
    fun {σ' H' v u} J rv q => ⟨v, H', J.os, J.bare, J.base, J.hok, rv, q⟩
  cases fl with
  | ret u =>
    obtain ⟨v, σ', H', J, rv, q⟩ := hs
    exact fin J rv q
  | next =>
    obtain ⟨σ', H', J, q⟩ := hs
    exact fin (v := V.non) (u := Value.none) J rfl q
  | brk =>
    obtain ⟨_, _, _, q⟩ := hs
    exact False.elim q
  | cont =>
    obtain ⟨_, _, _, q⟩ := hs
    exact False.elim q
end L2
namespace L2
open PySem PySem.Spec PyProof.Rows
section
variable {X : Cx} {x : Str} {p pos : Pos} {e : Expr} {es : List Expr} {t : TA} {id T : String} {r : List V → Hp → VK → Prop}
def tCB (r : List V → Hp → VK → Prop) (t : TA) : TE := fun σ H Q => t σ H fun vs H1 => r vs H1 Q
theorem pe_callB (hc : CallR X (.builtin id) r) (hg : Gl X x) (hm : X.mg x = none) (hv : bootBuiltins x = some (.builtin id)) (ha : PA X (e :: es) t) (hn : x ≠ "__name__" := by decide) (hdb : (x == ("__debug__" : Str)) = false := by decide)
    (he : starEach (e :: es) X.env = (false, eval e X.env) :: starEach es X.env := by rfl) (hpl : (backTo pos (starEach es X.env)).any (·.1) = false := by rfl) : PE X (.Call (.Name x p) (e :: es) [] pos) (tCB r t) := by
  intro pins s σ H Q I h
  refine wpAny_Call_Name_kw (ld_blt I hg hm hv ?_ hn hdb)
  exact PyProof.Rows.callWith_builtin1 (thn (ha pos pins s σ H _ I h) fun us s1 ⟨vs, H1, I1, r1, q1⟩ => hc pins s1 σ H1 vs us Q I1 r1 q1) he hpl
theorem pe_callTy (hc : CallR X (.type T) r) (hg : Gl X x) (hm : X.mg x = none) (hv : bootBuiltins x = some (.type T)) (ha : PA X (e :: es) t) (hn : x ≠ "__name__" := by decide) (hdb : (x == ("__debug__" : Str)) = false := by decide)
    (he : starEach (e :: es) X.env = (false, eval e X.env) :: starEach es X.env := by rfl) (hpl : (backTo pos (starEach es X.env)).any (·.1) = false := by rfl) : PE X (.Call (.Name x p) (e :: es) [] pos) (tCB r t) := by
  intro pins s σ H Q I h
  refine wpAny_Call_Name_kw (ld_blt I hg hm hv ?_ hn hdb)
  exact PyProof.Rows.callWith_type1 (thn (ha pos pins s σ H _ I h) fun us s1 ⟨vs, H1, I1, r1, q1⟩ => hc pins s1 σ H1 vs us Q I1 r1 q1) he hpl
end
end L2
namespace HT
open PySem PyProof.Rows
section
open PySem.SeqAt
open PySem.AutoSeq1 (wpAny_loadPart')
open PySem.MeetsSeq PySem.MeetsSeq2 PySem.MeetsSeq3
end
section
variable {prog : Program} {w : World} {A : Around} {E : Value → Shared → Prop} {s : Shared}
def sIx (n d : Nat) : Option Int → Nat
  | none => d
  | some v => if v < 0 then (v + (n : Int)).toNat else min v.toNat n
theorem sIx_none (n d : Nat) : sIx n d none = d := rfl
theorem sIx_nat (n d k : Nat) : sIx n d (some (k : Int)) = min k n := by
  show (if (k : Int) < 0 then ((k : Int) + (n : Int)).toNat else min (k : Int).toNat n) = min k n
  rw [if_neg (by omega), Int.toNat_natCast]
end
end HT
namespace L2
open PySem PySem.Spec PyProof.Rows
abbrev TO := St → Hp → (Option Int → Hp → Prop) → Prop
def PO (X : Cx) (e : Option Expr) (t : TO) : Prop :=
  ∀ (pins : List (Addr × Obj)) (s : Shared) (σ : St) (H : Hp) (Q : Option Int → Hp → Prop), Inv X pins σ H s → t σ H Q →
    wpAny (model X.prog X.w) X.A (evalPart e X.env) (fun u s' => ∃ o H', Inv X pins σ H' s' ∧ IsPart u o ∧ Q o H') X.xe s
def tNoPart : TO := fun _ H Q => Q none H
def tPart (t : TE) : TO := fun σ H Q => t σ H fun x H1 => ∃ i, x = .int i ∧ Q (some i) H1
section
variable {X : Cx} {e : Expr} {te : TE} {lo hi : Option Expr} {tl th : TO} {pos p2 : Pos}
theorem po_none : PO X none tNoPart := by
  intro pins s σ H Q I h
  rw [evalPart_none]
  exact wpAny_pure ⟨none, H, I, .none, h⟩
theorem po_some (h : PE X e te) : PO X (some e) (tPart te) := by
  intro pins s σ H Q I hw
  rw [evalPart_some]
  refine thn (h pins s σ H _ I hw) fun u s1 ⟨x, H1, I1, r1, q1⟩ => ?_
  obtain ⟨i, rfl, q⟩ := q1
  obtain ⟨t, rfl⟩ := r1
  exact ⟨some i, H1, I1, .int i t, q⟩
def SlR (X : Cx) (r : V → Option Int → Option Int → Hp → VK → Prop) : Prop :=
  ∀ (pins : List (Addr × Obj)) (s : Shared) (σ : St) (H : Hp) (x : V) (v vl vu : Value) (lo hi : Option Int) (sl : Addr) (Q : VK), Inv X pins σ H s → RelV x v → s.heap.IsSliceOf sl vl vu .none → IsPart vl lo → IsPart vu hi → r x lo hi H Q →
    ∃ T id, typeLookup (.type T) "__getitem__" = pure (some (.builtin id)) ∧ s.TypeIs v T ∧ wpAny (model X.prog X.w) X.A (getItem v (.ref sl)) (EP X pins σ Q) X.xe s
def tSl (r : V → Option Int → Option Int → Hp → VK → Prop) (te : TE) (tl th : TO) : TE := fun σ H Q => te σ H fun x H1 => tl σ H1 fun l H2 => th σ H2 fun u H3 => r x l u H3 Q
theorem pe_slice {r : V → Option Int → Option Int → Hp → VK → Prop} (hr : SlR X r) (he : PE X e te) (hl : PO X lo tl) (hu : PO X hi th) : PE X (.Subscript e (.Slice lo hi none p2) pos) (tSl r te tl th) := by
  intro pins s σ H Q I h
  refine Subscript_ (thn (he pins s σ H _ I h) fun v s1 ⟨x, H1, I1, r1, q1⟩ => ?_)
  refine wpAny_Slice (thn (hl pins s1 σ H1 _ I1 q1) fun vl s2 ⟨l, H2, I2, pl, q2⟩ => thn (hu pins s2 σ H2 _ I2 q2) fun vu s3 ⟨u, H3, I3, pu, q3⟩ => ?_)
  rw [evalPart_none]
  refine wpAny_pure ?_
  have I4 : Inv X pins σ H3 { s3 with heap := s3.heap.push { cls := .type "slice", data := .fields #[vl, vu, .none] } } := I3.kept (t' := s3.toks) fun b ob q => Heap.get?_push_of_some _ q
  obtain ⟨T, id, hT, ht, hg⟩ := hr pins { s3 with heap := s3.heap.push { cls := .type "slice", data := .fields #[vl, vu, .none] } } σ H3 x v vl vu l u s3.heap.objs.size Q I4 r1 (Heap.IsSliceOf.new ..) pl pu q3
  show wpAny (model X.prog X.w) X.A (subscriptTail e (.Slice lo hi none p2) v (.ref s3.heap.objs.size)) (EP X pins σ Q) X.xe { s3 with heap := s3.heap.push { cls := .type "slice", data := .fields #[vl, vu, .none] } }
  exact tail_any (ops := [.ref s3.heap.objs.size, v]) ht hT hg (by with_unfolding_all rfl)
def cutV (xs : List V) (lo hi : Option Int) : List V := (xs.drop (HT.sIx xs.length 0 lo)).take (HT.sIx xs.length xs.length hi - HT.sIx xs.length 0 lo)
theorem cutV_length (xs : List V) (lo hi : Option Int) : (cutV xs lo hi).length ≤ xs.length := by
  unfold cutV
  rw [List.length_take, List.length_drop]
  omega
end
end L2
namespace L2
open PySem PySem.Spec PyProof.Rows
def ixN (n : Nat) (i : Int) : Option Nat := if 0 ≤ i then (if i < n then some i.toNat else none) else if -(n : Int) ≤ i then some (i + n).toNat else none
def atI {α : Type} (xs : List α) (i : Int) : Option α := (ixN xs.length i).bind fun j => xs[j]?
theorem ixN_seq {n : Nat} {i : Int} {j : Nat} (h : ixN n i = some j) : seqIndex? i n = some j ∧ j < n ∧ -(n : Int) ≤ i ∧ i < n := by
  unfold ixN at h
  by_cases h0 : 0 ≤ i
  · rw [if_pos h0] at h
    by_cases h1 : i < n
    · rw [if_pos h1] at h
      have e : i.toNat = j := Option.some.inj h
      exact ⟨by rw [seqIndex_of h0 h1, e], by omega, by omega, h1⟩
    · rw [if_neg h1] at h; cases h
  · rw [if_neg h0] at h
    by_cases h1 : -(n : Int) ≤ i
    · rw [if_pos h1] at h
      have e : (i + n).toNat = j := Option.some.inj h
      exact ⟨by rw [seqIndex_neg (by omega) h1, e], by omega, h1, by omega⟩
    · rw [if_neg h1] at h; cases h
theorem atI_get {α : Type} {xs : List α} {i : Int} {v : α} (h : atI xs i = some v) : ∃ j, seqIndex? i xs.length = some j ∧ xs[j]? = some v ∧ j < xs.length ∧ -(xs.length : Int) ≤ i ∧ i < xs.length := by
  unfold atI at h
  cases e : ixN xs.length i with
  | none => rw [e] at h; cases h
  | some j =>
    rw [e] at h
    obtain ⟨h1, h2, h3, h4⟩ := ixN_seq e
    exact ⟨j, h1, h, h2, h3, h4⟩
theorem atI_nat {α : Type} {xs : List α} {j : Nat} {v : α} (h : xs[j]? = some v) : atI xs (j : Int) = some v := by
  have hj : j < xs.length := (List.getElem?_eq_some_iff.mp h).1
  have e : ixN xs.length (j : Int) = some j := by
    unfold ixN
    rw [if_pos (by omega), if_pos (by omega)]; simp
  unfold atI; rw [e]; exact h
theorem atI_last {α : Type} (xs : List α) (v : α) : atI (xs ++ [v]) (-1) = some v := by
  have hl : (xs ++ [v]).length = xs.length + 1 := by simp
  have e : ixN (xs ++ [v]).length (-1) = some xs.length := by
    unfold ixN
    rw [hl, if_neg (by decide), if_pos (by omega)]
    congr 1
    omega
  unfold atI
  rw [e]
  show (xs ++ [v])[xs.length]? = some v
  simp
def PlainIx (b : Expr) : Prop := ∀ o i, subscripted b false o i = operate [o, i] (getItem o i)
def IxR (X : Cx) (r : R2) : Prop :=
  ∀ (value slice : Expr) (pins : List (Addr × Obj)) (s : Shared) (σ : St) (H : Hp) (x y : V) (v u : Value) (Q : VK), Inv X pins σ H s → RelV x v → RelV y u → r x y H Q →
    subscripted slice false v u = operate [v, u] (getItem v u) → wpAny (model X.prog X.w) X.A (subscriptTail value slice v u) (EP X pins σ Q) X.xe s
def MtR (X : Cx) (id : String) (r : V → List V → Hp → VK → Prop) : Prop :=
  ∀ (pins : List (Addr × Obj)) (s : Shared) (σ : St) (H : Hp) (x : V) (xs : List V) (v : Value) (us : List Value) (Q : VK), Inv X pins σ H s → RelV x v → Vals xs us → r x xs H Q →
    wpAny (model X.prog X.w) X.A (call (.builtin id) (v :: us)) (EP X pins σ Q) X.xe s
section
variable {X : Cx} {a b : Expr} {ta tb : TE} {pos : Pos}
theorem pe_ix {r : R2} (hr : IxR X r) (ha : PE X a ta) (hb : PE X b tb) (hs : PlainIx b) : PE X (.Subscript a b pos) (tOp r ta tb) := by
  intro pins s σ H Q I h
  exact Subscript_ (binT ha hb I h fun v u s2 x y H2 I2 rx ry q => hr a b pins s2 σ H2 x y v u Q I2 rx ry q (hs _ _))
def rIxL (K : PySem.W.Frag) : R2 := fun x y H Q => ∃ p xs i v, x = .ref p ∧ y = .int i ∧ SqL K H p xs ∧ atI xs i = some v ∧ Q v H
theorem ix_list : IxR X (rIxL X.K) := by
  intro value slice pins s σ H x y v u Q I rx ry h hs
  obtain ⟨p, xs, i, z, rfl, rfl, hq, he, q⟩ := h
  cases rx
  obtain ⟨t, rfl⟩ := ry
  obtain ⟨its, r, pl, hz⟩ := I.list hq
  obtain ⟨j, h1, h2, h3, h4, h5⟩ := atI_get he
  obtain ⟨w, ew, rw'⟩ := r.get h2
  have hl := r.length
  have hn := line63
  have fin : EP X pins σ Q w s := ⟨z, H, I, rw', q⟩
  by_cases h0 : 0 ≤ i
  · have hj : i.toNat = j := by
      rw [seqIndex_of h0 h5] at h1
      exact Option.some.inj h1
    exact item_listR pl.isList h0 (by omega) (by rw [hj]; simpa using ew) fin hs
  · have hj : (i + (its.toArray.size : Int)).toNat = j := by
      rw [seqIndex_neg (by omega) h4] at h1
      rw [List.size_toArray, ← hl]
      exact Option.some.inj h1
    exact subscriptTail_builtinR (x := w) pl.isList.typeIs slot_list_getitem.lookup
      (wpAny_getItem_list_neg (Q := fun r s' => r = w ∧ EP X pins σ Q r s') pl.isList (by omega) (by rw [List.size_toArray] <;> omega) (by omega) (by rw [hj]; simpa using ew) ⟨rfl, fin⟩) hs
theorem mapSeq_set (its : List Value) (n j : Nat) (u : Value) : Obj.mapSeq (·.setIfInBounds j u) { cls := .type "list", data := .seq its.toArray n } = { cls := .type "list", data := .seq (its.set j u).toArray n } := by
  simp [Obj.mapSeq]
theorem Inv.lst {pins : List (Addr × Obj)} {σ : St} {H : Hp} {s : Shared} {p : Addr} {xs : List V} (I : Inv X pins σ H s) (h : H p = some (.lst xs)) :
    ∃ (its : List Value) (n : Nat), Vals xs its ∧ s.heap.get? p = some { cls := .type "list", data := .seq its.toArray n } ∧ xs.length ≤ sizeLine := by
  obtain ⟨z, its, n, r, e⟩ := I.hok p _ h
  exact ⟨its, n, r, e, z⟩
theorem Inv.lstUpd {pins : List (Addr × Obj)} {σ : St} {H : Hp} {s : Shared} {p : Addr} {xs ys : List V} {its its' : List Value} {n n' : Nat} {f : Obj → Obj} (I : Inv X pins σ H s) (h : H p = some (.lst xs))
    (ho : s.heap.get? p = some { cls := .type "list", data := .seq its.toArray n }) (hf : f { cls := .type "list", data := .seq its.toArray n } = { cls := .type "list", data := .seq its'.toArray n' }) (r : Vals ys its') (hz : ys.length ≤ sizeLine) (t : Nat) :
    Inv X pins σ (upd H p (.lst ys)) { s with heap := s.heap.update p f, toks := t } := by
  have e : (s.heap.update p f).get? p = some { cls := .type "list", data := .seq its'.toArray n' } := by
    rw [Heap.get?_update_self f ho (by rw [hf] <;> rfl), hf]
  refine I.write (x := p) (e := p) (by rw [h]; trivial) (.inl rfl) (fun b u hb q => (Heap.get?_update_other _ _ (Ne.symm hb)).trans q) ⟨_, e⟩ ?_
  exact ⟨hz, its', n', r, e⟩
def rSetL : V → V → V → Hp → (Hp → Prop) → Prop := fun o i v H Q => ∃ p xs k j, o = .ref p ∧ i = .int k ∧ H p = some (.lst xs) ∧ ixN xs.length k = some j ∧ Q (upd H p (.lst (xs.set j v)))
theorem set_list : PSet X rSetL := by
  intro pins s σ H o i v ov iv u Q I ro ri rv h
  obtain ⟨p, xs, k, j, rfl, rfl, hp, hj, q⟩ := h
  cases ro
  obtain ⟨t, rfl⟩ := ri
  obtain ⟨its, n, r, ho, hz⟩ := I.lst hp
  obtain ⟨h1, h2, h3, h4⟩ := ixN_seq hj
  have hl := r.length
  have hn := line63
  have I' : Inv X pins σ (upd H p (.lst (xs.set j v))) { s with heap := s.heap.update p (Obj.mapSeq (·.setIfInBounds j u)) } :=
    I.lstUpd hp ho (mapSeq_set its n j u) (r.set rv j) (by rw [List.length_set]; exact hz) s.toks
  by_cases h0 : 0 ≤ k
  · have hk : k.toNat = j := by
      rw [seqIndex_of h0 h4] at h1
      exact Option.some.inj h1
    exact PySem.W.ki_setAt ho h0 (by omega) (by rw [List.size_toArray, ← hl]; exact h4) (by rw [hk]; exact ⟨_, I', q⟩)
  · have hk : (k + (its.toArray.size : Int)).toNat = j := by
      rw [seqIndex_neg (by omega) h3] at h1
      rw [List.size_toArray, ← hl]
      exact Option.some.inj h1
    exact PySem.W.ki_setBack ho (by omega) (by rw [List.size_toArray, ← hl]; exact h3) (by omega) (by rw [hk]; exact ⟨_, I', q⟩)
theorem slice_bounds (lo hi : Option Int) (n : Nat) : (sliceBounds lo hi none n).1 = ((HT.sIx n 0 lo : Nat) : Int) ∧ (sliceBounds lo hi none n).2.1 = ((HT.sIx n n hi : Nat) : Int) ∧ (sliceBounds lo hi none n).2.2 = 1 := by
  refine ⟨?_, ?_, rfl⟩
  · cases lo with
    | none => simp [sliceBounds, HT.sIx]
    | some i =>
      simp only [sliceBounds, HT.sIx, Option.getD_none, show (1 : Int) > 0 by decide, if_true]
      by_cases h : i < 0
      · simp only [h, if_true] <;> omega
      · simp only [h, if_false] <;> omega
  · cases hi with
    | none => simp [sliceBounds, HT.sIx]
    | some i =>
      simp only [sliceBounds, HT.sIx, Option.getD_none, show (1 : Int) > 0 by decide, if_true]
      by_cases h : i < 0
      · simp only [h, if_true] <;> omega
      · simp only [h, if_false] <;> omega
theorem slicePick_cut (its : List Value) (lo hi : Option Int) : slicePick its.toArray lo hi none = ((its.drop (HT.sIx its.length 0 lo)).take (HT.sIx its.length its.length hi - HT.sIx its.length 0 lo)).toArray := by
  obtain ⟨h1, h2, h3⟩ := slice_bounds lo hi its.toArray.size
  unfold slicePick
  rw [h1, h2, h3]
  simp only [sliceRange_one, pick_run, List.size_toArray] <;> rfl
def rSlL (K : PySem.W.Frag) : V → Option Int → Option Int → Hp → VK → Prop := fun x lo hi H Q => ∃ a xs, x = .ref a ∧ SqL K H a xs ∧ ∀ p, H p = none → Q (.ref p) (upd H p (.lst (cutV xs lo hi)))
theorem sl_list : SlR X (rSlL X.K) := by
  intro pins s σ H x v vl vu lo hi sl Q I rx hs pl pu h
  obtain ⟨a, xs, rfl, hx, q⟩ := h
  cases rx
  obtain ⟨its, r, ht, hz⟩ := I.list hx
  have hlen := r.length
  refine ⟨"list", _, slot_list_getitem.lookup, ht.isList.typeIs, ?_⟩
  refine wpAny_getItem_list_slice ht.isList hs pl pu .none (by simp) ?_ (by rw [List.size_toArray] <;> omega)
  rw [slicePick_cut, ← hlen]
  refine ⟨.ref s.heap.objs.size, _, I.laid (t' := s.toks) (o := .lst (cutV xs lo hi)) (fun b ob q => Heap.get?_push_of_some _ q) (Nat.le_refl _) ?_, rfl, q _ (I.hok.fresh (Nat.le_refl _))⟩
  exact ⟨Nat.le_trans (cutV_length xs lo hi) hz, _, 0, (r.drop (HT.sIx xs.length 0 lo)).take (HT.sIx xs.length xs.length hi - HT.sIx xs.length 0 lo), Heap.get?_push_size _ rfl⟩
def flatV : V → Bool
  | .non => true
  | .bl _ => true
  | .int _ => true
  | .str _ => true
  | _ => false
def eqV : V → V → Bool
  | .non, .non => true
  | .bl a, .bl b => a == b
  | .bl a, .int b => (if a then 1 else 0) == b
  | .int a, .bl b => a == (if b then 1 else 0)
  | .int a, .int b => a == b
  | .str a, .str b => a == b
  | _, _ => false
theorem eqAt_V {A : Around} {s : Shared} {y x : V} {u v : Value} (ry : RelV y u) (rx : RelV x v) (fy : flatV y = true) (fx : flatV x = true) : SeqAt.EqAt A s u v (eqV y x) := by
  cases y with
  | non =>
    cases ry
    cases x with
    | non => cases rx; exact SeqAt.EqAt.same _
    | bl b => cases rx; exact SeqAt.EqAt.none_bool b
    | int b => obtain ⟨t, rfl⟩ := rx; exact SeqAt.EqAt.none_int b t
    | str b => obtain ⟨t, rfl⟩ := rx; exact SeqAt.EqAt.none_str b t
    | _ => exact absurd (show false = true from fx) Bool.false_ne_true
  | bl a =>
    cases ry
    cases x with
    | non => cases rx; exact SeqAt.EqAt.bool_none a
    | bl b => cases rx; exact SeqAt.EqAt.bool_bool a b
    | int b => obtain ⟨t, rfl⟩ := rx; exact SeqAt.EqAt.bool_int a b t
    | str b => obtain ⟨t, rfl⟩ := rx; exact SeqAt.EqAt.bool_str a b t
    | _ => exact absurd (show false = true from fx) Bool.false_ne_true
  | int a =>
    obtain ⟨t', rfl⟩ := ry
    cases x with
    | non => cases rx; exact SeqAt.EqAt.int_none a t'
    | bl b => cases rx; exact SeqAt.EqAt.int_bool a t' b
    | int b => obtain ⟨t, rfl⟩ := rx; exact SeqAt.EqAt.int_int a t' b t
    | str b => obtain ⟨t, rfl⟩ := rx; exact SeqAt.EqAt.int_str a t' b t
    | _ => exact absurd (show false = true from fx) Bool.false_ne_true
  | str a =>
    obtain ⟨t', rfl⟩ := ry
    cases x with
    | non => cases rx; exact SeqAt.EqAt.str_none a t'
    | bl b => cases rx; exact SeqAt.EqAt.str_bool a t' b
    | int b => obtain ⟨t, rfl⟩ := rx; exact SeqAt.EqAt.str_int a t' b t
    | str b => obtain ⟨t, rfl⟩ := rx; exact SeqAt.EqAt.str_str a t' b t
    | _ => exact absurd (show false = true from fx) Bool.false_ne_true
  | _ => exact absurd (show false = true from fy) Bool.false_ne_true
def eqU (x : V) (u : Value) : Bool := match u with
  | .none => eqV .non x
  | .bool b => eqV (.bl b) x
  | .int i _ => eqV (.int i) x
  | .str z _ => eqV (.str z) x
  | _ => false
theorem eqU_of {x y : V} {u : Value} (r : RelV y u) (f : flatV y = true) : eqU x u = eqV y x := by
  cases y with
  | non => cases r; rfl
  | bl b => cases r; rfl
  | int i => obtain ⟨t, rfl⟩ := r; rfl
  | str z => obtain ⟨t, rfl⟩ := r; rfl
  | _ => exact absurd (show false = true from f) Bool.false_ne_true
theorem any_eqU {x : V} : ∀ {xs : List V} {us : List Value}, Vals xs us → xs.all flatV = true → us.any (eqU x) = xs.any fun y => eqV y x
  | _, _, .nil, _ => rfl
  | y :: xs, u :: us, .cons r t, f => by
    rw [List.all_cons, Bool.and_eq_true] at f
    rw [List.any_cons, List.any_cons, eqU_of r f.1, any_eqU t f.2]
theorem mem_eqAt {A : Around} {s : Shared} {x : V} {v : Value} (rx : RelV x v) (fx : flatV x = true) : ∀ {xs : List V} {us : List Value}, Vals xs us → xs.all flatV = true → ∀ u ∈ us, SeqAt.EqAt A s u v (eqU x u)
  | _, _, .nil, _ => fun u hu => by cases hu
  | y :: xs, u :: us, .cons r t, f => fun u' hu => by
    rw [List.all_cons, Bool.and_eq_true] at f
    rcases List.mem_cons.mp hu with rfl | hu
    · rw [eqU_of r f.1]; exact eqAt_V r rx f.1 fx
    · exact mem_eqAt rx fx t f.2 u' hu
def inV (x : V) (xs : List V) : Bool := xs.any fun y => eqV y x
def rIn (K : PySem.W.Frag) (neg : Bool) : R2 := fun x y H Q => ∃ p xs, y = .ref p ∧ (SqL K H p xs ∨ SqT K H p xs) ∧ flatV x = true ∧ xs.all flatV = true ∧ Q (.bl (if neg then !inV x xs else inV x xs)) H
theorem op_in_seq : OpR X (compareOp .In) (rIn X.K false) := by
  intro pins s σ H x y v u Q I rx ry h
  obtain ⟨p, xs, rfl, hq, fx, fs, q⟩ := h
  cases ry
  rcases hq with hq | hq
  · obtain ⟨its, r, pl, hz⟩ := I.list hq
    refine SeqAt.in_listAt (eqU x) pl.isList (fun w hw => mem_eqAt rx fx r fs w (by simpa using hw)) ⟨.bl _, H, I, rfl, ?_⟩
    rw [show its.toArray.any (eqU x) = its.any (eqU x) by simp, any_eqU r fs]
    exact q
  · obtain ⟨its, r, pl, hz⟩ := I.tuple hq
    refine SeqAt.in_tupleAt (eqU x) pl (fun w hw => mem_eqAt rx fx r fs w (by simpa using hw)) ⟨.bl _, H, I, rfl, ?_⟩
    rw [show its.toArray.any (eqU x) = its.any (eqU x) by simp, any_eqU r fs]
    exact q
theorem call_len_seq : CallR X (.builtin "len") (fun xs H Q => ∃ p ys, xs = [.ref p] ∧ (SqL X.K H p ys ∨ SqT X.K H p ys) ∧ Q (.int ys.length) H) := by
  intro pins s σ H xs us Q I r h
  obtain ⟨p, ys, rfl, hq, q⟩ := h
  obtain ⟨u, rfl, rx⟩ := vals1 r
  cases rx
  have hn := line63
  rcases hq with hq | hq
  · obtain ⟨its, r', pl, hz⟩ := I.list hq
    have hlen := r'.length
    exact Calls.call_len_list pl.isList (by simp only [List.size_toArray] <;> omega) ⟨.int ys.length, H, I.tok _, ⟨s.toks + 1, by rw [List.size_toArray, hlen]⟩, q⟩
  · obtain ⟨its, r', pl, hz⟩ := I.tuple hq
    have hlen := r'.length
    exact len_tuple pl (by simp only [List.size_toArray] <;> omega) ⟨.int ys.length, H, I.tok _, ⟨s.toks + 1, by rw [List.size_toArray, hlen]⟩, q⟩
theorem call_list_of : CallR X (.type "list") (fun xs H Q => ∃ p ys, xs = [.ref p] ∧ (SqL X.K H p ys ∨ SqT X.K H p ys) ∧ ∀ l, H l = none → Q (.ref l) (upd H l (.lst ys))) := by
  intro pins s σ H xs us Q I r h
  obtain ⟨p, ys, rfl, hq, q⟩ := h
  obtain ⟨u, rfl, rx⟩ := vals1 r
  cases rx
  have fin : ∀ (its : List Value), Vals ys its → ys.length ≤ sizeLine → ∀ (h' : Heap) (c' : Nat), (∀ b o', s.heap.get? b = some o' → h'.get? b = some o') →
      h'.get? s.heap.objs.size = some { cls := .type "list", dict := none, data := .seq its.toArray c', slots := #[] } → EP X pins σ Q (.ref s.heap.objs.size) { s with heap := h' } := fun its r' hz h' c' kp e =>
    ⟨.ref s.heap.objs.size, _, I.laid (t' := s.toks) kp (Nat.le_refl _) (show ObjOk X.prog X.w _ h' _ (.lst ys) from ⟨hz, its, c', r', e⟩), rfl, q _ (I.hok.fresh (Nat.le_refl _))⟩
  rcases hq with hq | hq
  · obtain ⟨its, r', pl, hz⟩ := I.list hq
    have hlen := r'.length
    obtain ⟨o, ho, hc, n, hd⟩ := pl.isList
    exact call_list_seq p (.inl rfl) ho hc hd (fun h' c' kp e => fin its r' hz h' c' kp e) (by simp only [List.size_toArray] <;> omega)
  · obtain ⟨its, r', pl, hz⟩ := I.tuple hq
    have hlen := r'.length
    obtain ⟨o, ho, hc, n, hd⟩ := pl
    exact call_list_seq p (.inr rfl) ho hc hd (fun h' c' kp e => fin its r' hz h' c' kp e) (by simp only [List.size_toArray] <;> omega)
def tyV (K : PySem.W.Frag) (T : String) (x : V) (H : Hp) : Prop := match x with
  | .str _ => T = "str"
  | .int _ => T = "int"
  | .ref p => (T = "list" ∧ ∃ xs, SqL K H p xs) ∨ (T = "tuple" ∧ ∃ o, K.lookup p = some o ∧ o.cls = .type "tuple" ∧ o.dict = none) ∨
      (T = "dict" ∧ ((∃ kvs, H p = some (.dK kvs)) ∨ ∃ kvs, H p = some (.dT kvs))) ∨ (T = "set" ∧ ∃ S n, H p = some (.set S n))
  | _ => False
theorem tyV_is {pins : List (Addr × Obj)} {σ : St} {H : Hp} {s : Shared} {T : String} {x : V} {v : Value} (I : Inv X pins σ H s) (r : RelV x v) (ty : tyV X.K T x H) :
    s.TypeIs v T ∧ ∀ a, v = .ref a → ∃ ob, s.heap.get? a = some ob ∧ ob.dict = none := by
  cases x with
  | str z =>
    obtain ⟨t, rfl⟩ := r
    cases (show T = "str" from ty)
    exact ⟨typeIs_str s z t, fun _ e => nomatch e⟩
  | int i =>
    obtain ⟨t, rfl⟩ := r
    cases (show T = "int" from ty)
    exact ⟨typeIs_int s i t, fun _ e => nomatch e⟩
  | ref p =>
    cases r
    rcases ty with ⟨rfl, xs, hq⟩ | ⟨rfl, o, hk, hc, hd⟩ | ⟨rfl, hk⟩ | ⟨rfl, S, n, hk⟩
    · obtain ⟨its, _, pl, _⟩ := I.list hq
      refine ⟨pl.isList.typeIs, fun a e => ?_⟩
      cases e
      obtain ⟨o, n, e, c, hd, _⟩ := pl
      exact ⟨o, e, hd⟩
    · refine ⟨⟨o, I.kIn p o hk, hc⟩, fun a e => ?_⟩
      cases e
      exact ⟨o, I.kIn _ o hk, hd⟩
    · have z : ∃ o, s.heap.get? p = some o ∧ o.ExactDict := by
        rcases hk with ⟨kvs, hk⟩ | ⟨kvs, hk⟩
        · obtain ⟨_, _, _, _, o, _, _, e, ex, _⟩ := I.hok p _ hk
          exact ⟨o, e, ex⟩
        · obtain ⟨_, _, _, _, o, _, _, e, ex, _⟩ := I.hok p _ hk
          exact ⟨o, e, ex⟩
      obtain ⟨o, e, ex⟩ := z
      refine ⟨⟨o, e, ex.1⟩, fun a e2 => ?_⟩
      cases e2
      exact ⟨o, e, ex.2.1⟩
    · obtain ⟨o, _, _, _, e, ex, _⟩ := I.hok p _ hk
      refine ⟨⟨o, e, ex.1⟩, fun a e2 => ?_⟩
      cases e2
      exact ⟨o, e, ex.2.1⟩
  | _ => exact False.elim ty
def tBM (K : PySem.W.Frag) (T : String) (r : V → List V → Hp → VK → Prop) (to : TE) (t : TA) : TE := fun σ H Q => to σ H fun x H1 => tyV K T x H1 ∧ t σ H1 fun xs H2 => r x xs H2 Q
variable {o e : Expr} {es : List Expr} {to : TE} {t : TA} {name : Str} {apos cpos : Pos} {T id : String} {r : V → List V → Hp → VK → Prop}
theorem pe_bm (pa : PlainAttrs T) (slot : Slot T name id) (hty : typeOf (.builtin id) = pure (.type "method_descriptor")) (hm : MtR X id r) (ho : PE X o to) (ha : PA X (e :: es) t)
    (hbase : attributeBase o name X.env (eval o X.env) = eval o X.env := by rfl)
    (hfew : ((backTo cpos (starEach (e :: es) X.env)).all (fun x => !x.1) && (backToKw cpos (keywordEach [] X.env)).all (fun x => x.1.isSome)
      && decide ((e :: es).length + ([] : List Keyword).length + (if ([] : List Keyword).isEmpty then 0 else 1) < 30)) = true := by rfl)
    (hline : (apos.endLine == cpos.line) = true := by rfl) (hs : starEach (e :: es) X.env = (false, eval e X.env) :: starEach es X.env := by rfl) (hplain : (backTo cpos (starEach es X.env)).any (·.1) = false := by rfl) :
    PE X (.Call (.Attribute o name apos) (e :: es) [] cpos) (tBM X.K T r to t) := by
  intro pins s σ H Q I h
  refine wpAny_Call_method_late hbase hfew hline rfl (thn (ho pins s σ H _ I h) fun v s1 ⟨x, H1, I1, r1, ty, q1⟩ => ?_)
  obtain ⟨h1, h2⟩ := tyV_is I1 r1 ty
  refine ⟨T, id, pa, slot, hty, h1, h2, ?_⟩
  have hA := ha cpos pins s1 σ H1 _ I1 q1
  rw [hs] at hA ⊢
  refine Calls.callWith_builtin (by show (false || (backTo cpos (starEach es X.env)).any (·.1)) = false; rw [hplain] <;> rfl) (Calls.evalArgs_plain ?_)
  exact thn hA fun us s2 ⟨vs, H2, I2, r2, q2⟩ => hm pins s2 σ H2 x vs v us Q I2 r1 r2 q2
/- xs.append(e), list.index on a module's tuple .. are MtR facts of 06m -/
end
end L2
namespace L2
open PySem PySem.Spec PyProof.Rows
def MtM (X : Cx) (id : String) (r : V → List V → Hp → VK → Prop) : Prop :=
  ∀ (pins : List (Addr × Obj)) (s : Shared) (σ : St) (H : Hp) (x : V) (xs : List V) (v : Value) (us : List Value) (Q : VK), Inv X pins σ H s → RelV x v → Vals xs us → r x xs H Q →
    wpAny (model X.prog X.w) X.A (call (.builtin id) (v :: us)) (EP X pins σ Q) X.xe s
theorem Vals.one : ∀ {x : V} {us : List Value}, Vals [x] us → ∃ u, us = [u] ∧ RelV x u
  | _, _, .cons r .nil => ⟨_, rfl, r⟩
theorem Vals.eraseIdx : ∀ {xs : List V} {us : List Value} (i : Nat), Vals xs us → Vals (xs.eraseIdx i) (us.eraseIdx i)
  | _, _, _, .nil => .nil
  | _, _, 0, .cons _ t => t
  | _, _, i + 1, .cons r t => .cons r (Vals.eraseIdx i t)
theorem len_erase {α : Type} : ∀ (l : List α) (i : Nat), (l.eraseIdx i).length ≤ l.length
  | [], _ => Nat.le_refl _
  | _ :: _, 0 => Nat.le_succ _
  | _ :: r, i + 1 => Nat.succ_le_succ (len_erase r i)
section
variable {X : Cx} {pins : List (Addr × Obj)} {σ : St} {H : Hp} {s : Shared} {l b : Addr} {xs ys zs : List V}
theorem Inv.lset {its its' : List Value} {n : Nat} {f : Array Value → Array Value} {t' : Nat} (I : Inv X pins σ H s) (hH : H l = some (.lst xs))
    (e : s.heap.get? l = some { cls := .type "list", data := .seq its.toArray n }) (hf : f its.toArray = its'.toArray) (hv : Vals ys its') (hz : ys.length ≤ sizeLine) :
    Inv X pins σ (upd H l (.lst ys)) { s with heap := s.heap.update l (Obj.mapSeq f), toks := t' } := by
  have q := PySem.IsL.update e f
  rw [hf] at q
  refine I.write (x := l) (e := l) (by rw [hH]; exact trivial) (.inl rfl) (fun b' u hb hu => (Heap.get?_update_other s.heap (Obj.mapSeq f) (Ne.symm hb)).trans hu) ⟨_, q⟩ ?_
  exact ⟨hz, its', _, hv, q⟩
theorem Inv.lnew {its : List Value} {t' : Nat} (I : Inv X pins σ H s) (hv : Vals ys its) (hz : ys.length ≤ sizeLine) :
    Inv X pins σ (upd H s.heap.objs.size (.lst ys)) { s with heap := s.heap.push { cls := .type "list", data := .seq its.toArray }, toks := t' } :=
  I.laid (fun _ _ q => Heap.get?_push_of_some _ q) (Nat.le_refl _) ⟨hz, its, 0, hv, Heap.get?_push_size _ rfl⟩
theorem Inv.fresh (I : Inv X pins σ H s) : H s.heap.objs.size = none := I.hok.fresh (Nat.le_refl _)
theorem Inv.lstM (I : Inv X pins σ H s) (hH : H l = some (.lst xs)) : xs.length ≤ sizeLine ∧ ∃ (its : List Value) (n : Nat), Vals xs its ∧ xs.length = its.length ∧ s.heap.get? l = some { cls := .type "list", data := .seq its.toArray n } := by
  obtain ⟨z, its, n, r, e⟩ := I.hok l _ hH
  exact ⟨z, its, n, r, r.length, e⟩
theorem notLongL {n : Nat} (h : n ≤ sizeLine) : Builtin.List.listTooLong n = false := by
  unfold Builtin.List.listTooLong
  exact decide_eq_false (by omega)
end
section
variable {X : Cx}
def rAppend : V → List V → Hp → VK → Prop := fun x vs H Q => ∃ l xs y, x = .ref l ∧ vs = [y] ∧ H l = some (.lst xs) ∧ xs.length < sizeLine ∧ Q .non (upd H l (.lst (xs ++ [y])))
theorem mt_append : MtM X "list.append" rAppend := by
  intro pins s σ H x vs v us Q I rx rv h
  obtain ⟨l, xs, y, rfl, rfl, hH, hz, q⟩ := h
  cases rx
  obtain ⟨u, rfl, ru⟩ := rv.one
  obtain ⟨z, its, n, r, hl, e⟩ := I.lstM hH
  refine call_meets F.slot_list_append ⟨_, e, rfl⟩ F.entry_list_append (F.args_list_append_2 _ _) (PySem.list_append l its.toArray n u (by rw [List.size_toArray]; omega)) ⟨e, ?_⟩
  refine ⟨.non, _, I.lset (its' := its ++ [u]) hH e (by simp) (r.append (.cons ru .nil)) ?_, rfl, q⟩
  rw [List.length_append, List.length_singleton]
  omega
def rExtend : V → List V → Hp → VK → Prop := fun x vs H Q => ∃ l b xs zs, x = .ref l ∧ vs = [.ref b] ∧ H l = some (.lst xs) ∧ H b = some (.lst zs) ∧ xs.length + zs.length ≤ sizeLine ∧ Q .non (upd H l (.lst (xs ++ zs)))
theorem mt_extend : MtM X "list.extend" rExtend := by
  intro pins s σ H x vs v us Q I rx rv h
  obtain ⟨l, b, xs, zs, rfl, rfl, hH, hB, hz, q⟩ := h
  cases rx
  obtain ⟨u, rfl, ru⟩ := rv.one
  cases ru
  obtain ⟨z, its, n, r, hl, e⟩ := I.lstM hH
  obtain ⟨z2, its2, n2, r2, hl2, e2⟩ := I.lstM hB
  have hsz : its.toArray.size + its2.toArray.size ≤ sizeLine := by rw [List.size_toArray, List.size_toArray]; omega
  have hlong : ¬ (!its.toArray.isEmpty && Builtin.List.listTooLong (its.toArray.size + its2.toArray.size)) = true := by
    rw [notLongL hsz, Bool.and_false]
    exact Bool.false_ne_true
  refine call_meets F.slot_list_extend ⟨_, e, rfl⟩ F.entry_list_extend (F.args_list_extend_2 _ _)
    (AutoSeq1.list_extend_list_list_0 l its.toArray n b its2.toArray n2 hlong (by rw [List.size_toArray]; omega) (by omega)) ⟨e, e2, ?_⟩
  refine ⟨.non, _, I.lset (its' := its ++ its2) hH e (by simp) (r.append r2) ?_, rfl, q⟩
  rw [List.length_append]
  omega
def rPopAt : V → List V → Hp → VK → Prop := fun x vs H Q => ∃ l xs i k y, x = .ref l ∧ vs = [.int i] ∧ H l = some (.lst xs) ∧ -(2 ^ 63) ≤ i ∧ i < 2 ^ 63 ∧ seqIndex? i xs.length = some k ∧ xs[k]? = some y ∧ Q y (upd H l (.lst (xs.eraseIdx k)))
theorem mt_popAt : MtM X "list.pop" rPopAt := by
  intro pins s σ H x vs v us Q I rx rv h
  obtain ⟨l, xs, i, k, y, rfl, rfl, hH, h1, h2, hk, hy, q⟩ := h
  cases rx
  obtain ⟨u, rfl, ru⟩ := rv.one
  obtain ⟨t, rfl⟩ := ru
  obtain ⟨z, its, n, r, hl, e⟩ := I.lstM hH
  obtain ⟨w, hw, rw'⟩ := r.get hy
  refine call_meets F.slot_list_pop ⟨_, e, rfl⟩ F.entry_list_pop (F.args_list_pop_2 _ _)
    (MeetsSeq.list_pop_at l its.toArray n i t k w (fitsIndex_both h1 h2) (by rw [List.size_toArray, ← hl]; exact hk) (by rw [← Array.getElem?_toList]; exact hw) (by rw [List.size_toArray]; omega)) ⟨e, ?_⟩
  refine ⟨y, _, I.lset (its' := its.eraseIdx k) hH e ?_ (r.eraseIdx k) ?_, rw', q⟩
  · show its.toArray.eraseIdxIfInBounds k = (its.eraseIdx k).toArray
    rw [List.eraseIdxIfInBounds_toArray]
  · have := len_erase xs k
    omega
def rCat : R2 := fun x y H Q => ∃ l b xs zs, x = .ref l ∧ y = .ref b ∧ H l = some (.lst xs) ∧ H b = some (.lst zs) ∧ xs.length + zs.length ≤ sizeLine ∧ ∀ p, H p = none → Q (.ref p) (upd H p (.lst (xs ++ zs)))
theorem op_cat : OpR X (binaryOp .Add) rCat := by
  intro pins s σ H x y v u Q I rx ry h
  obtain ⟨l, b, xs, zs, rfl, rfl, hH, hB, hz, q⟩ := h
  cases rx
  cases ry
  obtain ⟨z, its, n, r, hl, e⟩ := I.lstM hH
  obtain ⟨z2, its2, n2, r2, hl2, e2⟩ := I.lstM hB
  refine PySem.P.add_list e e2 ?_ (by rw [List.size_toArray, List.size_toArray]; omega)
  have ea : its.toArray ++ its2.toArray = (its ++ its2).toArray := by simp
  rw [ea]
  exact ⟨.ref _, _, I.lnew (t' := s.toks) (r.append r2) (by rw [List.length_append]; omega), rfl, q _ I.fresh⟩
end
section
variable {prog : Program} {w : World} {A : Around} {E : Value → Shared → Prop} {s : Shared}
set_option maxRecDepth 100000 in
end
section
variable {X : Cx}
end
end L2
namespace L2
open PySem PySem.Spec PyProof.Rows
theorem Vals.ints : ∀ {ns : List Int} {us : List Value}, Vals (ns.map V.int) us → IntsAre us ns
  | [], us, h => by
    rw [List.map_nil] at h
    cases h
    exact IntsAre.nil
  | n :: ns, us, h => by
    rw [List.map_cons] at h
    cases h with
    | cons r t =>
      obtain ⟨k, rfl⟩ := r
      exact IntsAre.cons n k (Vals.ints t)
theorem Vals.bls : ∀ {bs : List Bool} {us : List Value}, Vals (bs.map V.bl) us → us = bs.map Value.bool
  | [], us, h => by
    rw [List.map_nil] at h
    cases h
    rfl
  | b :: bs, us, h => by
    rw [List.map_cons] at h
    cases h with
    | cons r t =>
      cases r
      rw [Vals.bls t, List.map_cons]
theorem Vals.ref1 {a : Addr} {us : List Value} (r : Vals [V.ref a] us) : us = [Value.ref a] := by
  cases r with
  | cons r t =>
    cases t
    cases r
    rfl
section
variable {prog : Program} {w : World} {A : Around} {E : Value → Shared → Prop} {s : Shared} {l : Addr} {its : List Value} {ns : List Int} {Q : Value → Shared → Prop}
theorem sum_raw (hh : A.handled = none) (hl : s.heap.IsList l its.toArray) (hi : IntsAre its ns)
    (h : ∀ h' tk t', (∀ b o, s.heap.get? b = some o → h'.get? b = some o) → Q (.int ns.sum t') { s with heap := h', toks := tk }) : wpAny (model prog w) A (call (.builtin "sum") [.ref l]) Q E s := by
  obtain ⟨xs, e⟩ := hi.allInts.items
  have hn : numsOf (intItems xs).toList = ns := by rw [← e]; exact hi.numsOf
  rw [nums_intItems] at hn
  rw [e] at hl
  refine PySem.sum_intListG hh hl fun h' tk t' hk => ?_
  have := h h' tk t' hk
  rw [preSum_eq, List.take_of_length_le (by simp), hn]; exact this
theorem max_raw (hh : A.handled = none) (hl : s.heap.IsList l its.toArray) (hi : IntsAre its ns) (hne : 0 < ns.length)
    (h : ∀ h' tk M t', (∀ b o, s.heap.get? b = some o → h'.get? b = some o) → M ∈ ns → (∀ a, a ∈ ns → a ≤ M) → Q (.int M t') { s with heap := h', toks := tk }) : wpAny (model prog w) A (call (.builtin "max") [.ref l]) Q E s := by
  obtain ⟨xs, e⟩ := hi.allInts.items
  have hn : numsOf (intItems xs).toList = ns := by rw [← e]; exact hi.numsOf
  rw [nums_intItems] at hn
  subst hn
  rw [e] at hl
  have hsz : 0 < xs.size := by simpa using hne
  refine PySem.max_intList hh hl hsz fun v h' tk hv hk => ?_
  obtain ⟨t, rfl⟩ := intItems_at hv
  obtain ⟨h1, h2⟩ := argBest_gt (numAt xs) (xs.size - 1)
  refine h h' tk _ t hk ?_ fun a ha => ?_
  · rw [numAt_eq]; exact PySem.getD_mem (by rw [List.length_map, Array.length_toList]; omega)
  · obtain ⟨j, hj, rfl⟩ := mem_getD ha
    rw [List.length_map, Array.length_toList] at hj
    rw [← numAt_eq]; exact h2 j (by omega)
theorem min_raw (hh : A.handled = none) (hl : s.heap.IsList l its.toArray) (hi : IntsAre its ns) (hne : 0 < ns.length)
    (h : ∀ h' tk M t', (∀ b o, s.heap.get? b = some o → h'.get? b = some o) → M ∈ ns → (∀ a, a ∈ ns → M ≤ a) → Q (.int M t') { s with heap := h', toks := tk }) : wpAny (model prog w) A (call (.builtin "min") [.ref l]) Q E s := by
  obtain ⟨xs, e⟩ := hi.allInts.items
  have hn : numsOf (intItems xs).toList = ns := by rw [← e]; exact hi.numsOf
  rw [nums_intItems] at hn
  subst hn
  rw [e] at hl
  have hsz : 0 < xs.size := by simpa using hne
  refine PySem.min_intList hh hl hsz fun v h' tk hv hk => ?_
  obtain ⟨t, rfl⟩ := intItems_at hv
  obtain ⟨h1, h2⟩ := argBest_lt (numAt xs) (xs.size - 1)
  refine h h' tk _ t hk ?_ fun a ha => ?_
  · rw [numAt_eq]; exact PySem.getD_mem (by rw [List.length_map, Array.length_toList]; omega)
  · obtain ⟨j, hj, rfl⟩ := mem_getD ha
    rw [List.length_map, Array.length_toList] at hj
    rw [← numAt_eq]; exact h2 j (by omega)
end
section
variable {X : Cx}
def rSum (K : PySem.W.Frag) : List V → Hp → VK → Prop := fun vs H Q => ∃ (a : Addr) (ns : List Int), vs = [V.ref a] ∧ SqL K H a (ns.map V.int) ∧ Q (.int ns.sum) H
def rMax (K : PySem.W.Frag) : List V → Hp → VK → Prop := fun vs H Q => ∃ (a : Addr) (ns : List Int), vs = [V.ref a] ∧ SqL K H a (ns.map V.int) ∧ 0 < ns.length ∧ ∀ m, m ∈ ns → (∀ y, y ∈ ns → y ≤ m) → Q (.int m) H
def rMin (K : PySem.W.Frag) : List V → Hp → VK → Prop := fun vs H Q => ∃ (a : Addr) (ns : List Int), vs = [V.ref a] ∧ SqL K H a (ns.map V.int) ∧ 0 < ns.length ∧ ∀ m, m ∈ ns → (∀ y, y ∈ ns → m ≤ y) → Q (.int m) H
theorem cr_sum (hc : X.calm = true) : CallR X (.builtin "sum") (rSum X.K) := by
  intro pins s σ H vs us Q I r h
  obtain ⟨a, ns, rfl, hs, q⟩ := h
  obtain ⟨its, rv, hl, _⟩ := I.list hs
  rw [Vals.ref1 r]
  exact sum_raw (I.ok.hd hc) hl.isList rv.ints fun h' tk t' hk => ⟨.int _, H, I.kept hk, ⟨_, rfl⟩, q⟩
theorem cr_max (hc : X.calm = true) : CallR X (.builtin "max") (rMax X.K) := by
  intro pins s σ H vs us Q I r h
  obtain ⟨a, ns, rfl, hs, hne, q⟩ := h
  obtain ⟨its, rv, hl, _⟩ := I.list hs
  rw [Vals.ref1 r]
  exact max_raw (I.ok.hd hc) hl.isList rv.ints hne fun h' tk m t' hk h1 h2 => ⟨.int _, H, I.kept hk, ⟨_, rfl⟩, q m h1 h2⟩
theorem cr_min (hc : X.calm = true) : CallR X (.builtin "min") (rMin X.K) := by
  intro pins s σ H vs us Q I r h
  obtain ⟨a, ns, rfl, hs, hne, q⟩ := h
  obtain ⟨its, rv, hl, _⟩ := I.list hs
  rw [Vals.ref1 r]
  exact min_raw (I.ok.hd hc) hl.isList rv.ints hne fun h' tk m t' hk h1 h2 => ⟨.int _, H, I.kept hk, ⟨_, rfl⟩, q m h1 h2⟩
end
section
variable {X : Cx}
end
section
variable {X : Cx}
end
theorem iter_any {prog : Program} {w : World} {A : Around} {E : Value → Shared → Prop} {s : Shared} {l : Addr} {items : Array Value} {Q : Value → Shared → Prop} (hl : s.heap.IsList l items)
    (h : ∀ s₂ : Shared, s₂ = { s with heap := s.heap.push { cls := .type "list_iterator", data := .fields #[.ref l, .int 0 0] } } →
      (s₂.heap.IsListIter s.heap.objs.size l 0 ∧ s₂.heap.IsList l items) → l ≠ s.heap.objs.size → Q (.ref s.heap.objs.size) s₂) : wpAny (model prog w) A (pyIter (.ref l)) Q E s := by
  have hlt : l < s.heap.objs.size := by obtain ⟨_, e, _⟩ := hl; exact Heap.lt_size e
  exact wpAny_pyIter_list hl (h _ rfl ⟨⟨_, Heap.get?_push_size _ rfl, rfl, rfl⟩, hl.push _⟩ (Nat.ne_of_lt hlt))
theorem truth_bools {prog : Program} {w : World} {A : Around} {bs : List Bool} {its : List Value} (e : its = bs.map Value.bool) :
    TruthOf prog w A (fun i v => its.toArray[i]? = some v) (fun i => bs.getD i false) := fun i v s Q E hv hq => by
  have hv' : its[i]? = some v := by simpa using hv
  rw [e, List.getElem?_map] at hv'
  obtain ⟨b, hb, rfl⟩ := Option.map_eq_some_iff.mp hv'
  have hg : bs.getD i false = b := by rw [List.getD_eq_getElem?_getD, hb] <;> rfl
  have hq' : Q (bs.getD i false) s := hq
  rw [hg] at hq'
  exact wpAny_truthy_bool hq'
theorem any_range : ∀ bs : List Bool, (List.range bs.length).any (fun i => bs.getD i false) = bs.any id
  | [] => rfl
  | b :: bs => by
    rw [List.length_cons, List.range_succ_eq_map, List.any_cons, List.any_map, List.any_cons, ← any_range bs]
    all_goals rfl
theorem all_range : ∀ bs : List Bool, (List.range bs.length).all (fun i => bs.getD i false) = bs.all id
  | [] => rfl
  | b :: bs => by
    rw [List.length_cons, List.range_succ_eq_map, List.all_cons, List.all_map, List.all_cons, ← all_range bs]
    all_goals rfl
section
variable {X : Cx}
def rAny (K : PySem.W.Frag) : List V → Hp → VK → Prop := fun vs H Q => ∃ (a : Addr) (bs : List Bool), vs = [V.ref a] ∧ SqL K H a (bs.map V.bl) ∧ Q (.bl (bs.any id)) H
def rAll (K : PySem.W.Frag) : List V → Hp → VK → Prop := fun vs H Q => ∃ (a : Addr) (bs : List Bool), vs = [V.ref a] ∧ SqL K H a (bs.map V.bl) ∧ Q (.bl (bs.all id)) H
theorem cr_any (hc : X.calm = true) : CallR X (.builtin "any") (rAny X.K) := by
  intro pins s σ H vs us Q I r h
  obtain ⟨a, bs, rfl, hs, q⟩ := h
  obtain ⟨its, rv, hl, _⟩ := I.list hs
  rw [Vals.ref1 r]
  have hb := rv.bls
  refine call_any_walk (iter_any hl.isList fun s₂ e2 st hne => ?_)
  subst e2
  refine ⟨_, _, _, _, _, _, _, rfl, Walks.list (A := X.A.in1) (I.ok.hd hc) _ a hne its.toArray, st, truth_bools hb, fun h' tk hk => ?_⟩
  refine ⟨.bl _, H, I.kept fun b o eo => hk b o (fun hmem => ?_) (Heap.get?_push_of_some _ eo), ?_, q⟩
  · rcases List.mem_cons.mp hmem with e1 | hmem
    · exact absurd (e1 ▸ Heap.lt_size eo) (Nat.lt_irrefl _)
    · cases hmem
  · show Value.bool _ = Value.bool _
    rw [← any_range, hb, List.size_toArray, List.length_map]
theorem cr_all (hc : X.calm = true) : CallR X (.builtin "all") (rAll X.K) := by
  intro pins s σ H vs us Q I r h
  obtain ⟨a, bs, rfl, hs, q⟩ := h
  obtain ⟨its, rv, hl, _⟩ := I.list hs
  rw [Vals.ref1 r]
  have hb := rv.bls
  refine call_all_walk (iter_any hl.isList fun s₂ e2 st hne => ?_)
  subst e2
  refine ⟨_, _, _, _, _, _, _, rfl, Walks.list (A := X.A.in1) (I.ok.hd hc) _ a hne its.toArray, st, truth_bools hb, fun h' tk hk => ?_⟩
  refine ⟨.bl _, H, I.kept fun b o eo => hk b o (fun hmem => ?_) (Heap.get?_push_of_some _ eo), ?_, q⟩
  · rcases List.mem_cons.mp hmem with e1 | hmem
    · exact absurd (e1 ▸ Heap.lt_size eo) (Nat.lt_irrefl _)
    · cases hmem
  · show Value.bool _ = Value.bool _
    rw [← all_range, hb, List.size_toArray, List.length_map]
end
mutual
inductive Dp (K : PySem.W.Frag) (H : Hp) : V → PyData → Prop
  | non : Dp K H .non .none
  | bl (b : Bool) : Dp K H (.bl b) (.bool b)
  | int (i : Int) : Dp K H (.int i) (.int i)
  | str (x : Str) : Dp K H (.str x) (.str x)
  | lst {a : Addr} {xs : List V} {ds : List PyData} : SqL K H a xs → DpAll K H xs ds → Dp K H (.ref a) (.list ds)
  | tup {a : Addr} {xs : List V} {ds : List PyData} : SqT K H a xs → DpAll K H xs ds → Dp K H (.ref a) (.tuple ds)
inductive DpAll (K : PySem.W.Frag) (H : Hp) : List V → List PyData → Prop
  | nil : DpAll K H [] []
  | cons {v : V} {vs : List V} {d : PyData} {ds : List PyData} : Dp K H v d → DpAll K H vs ds → DpAll K H (v :: vs) (d :: ds)
end
section
variable {X : Cx} {pins : List (Addr × Obj)} {σ : St} {H : Hp} {s : Shared}
mutual
theorem Dp.reads (I : Inv X pins σ H s) : ∀ (d : PyData) (v : V) (u : Value), Dp X.K H v d → RelV v u → ∃ as, Reads s.heap u d as
  | .none, _, _, h, r => by
    cases h
    cases r
    exact ⟨_, Reads.none⟩
  | .bool b, _, _, h, r => by
    cases h
    cases r
    exact ⟨_, Reads.bool b⟩
  | .int i, _, _, h, r => by
    cases h
    obtain ⟨t, rfl⟩ := r
    exact ⟨_, Reads.int i t⟩
  | .str x, _, _, h, r => by
    cases h
    obtain ⟨t, rfl⟩ := r
    exact ⟨_, Reads.str x t⟩
  | .list ds, _, _, h, r => by
    cases h with
    | lst hs ha =>
      cases r
      obtain ⟨its, rv, ⟨o, n, ho, hc, _, hd⟩, _⟩ := I.list hs
      obtain ⟨as, hr⟩ := Dp.readsAll I ds _ its ha rv
      exact ⟨_, Reads.list ho hc hd hr⟩
  | .tuple ds, _, _, h, r => by
    cases h with
    | tup hs ha =>
      cases r
      obtain ⟨its, rv, ⟨o, ho, hc, n, hd⟩, _⟩ := I.tuple hs
      obtain ⟨as, hr⟩ := Dp.readsAll I ds _ its ha rv
      exact ⟨_, Reads.tuple ho hc hd hr⟩
  | .dict _, _, _, h, _ => by cases h
theorem Dp.readsAll (I : Inv X pins σ H s) : ∀ (ds : List PyData) (vs : List V) (us : List Value), DpAll X.K H vs ds → Vals vs us → ∃ as, ReadsAll s.heap us ds as
  | [], _, _, h, r => by
    cases h
    cases r
    exact ⟨_, ReadsAll.nil⟩
  | d :: ds, _, _, h, r => by
    cases h with
    | cons h1 h2 =>
      cases r with
      | cons r1 r2 =>
        obtain ⟨as, q1⟩ := Dp.reads I d _ _ h1 r1
        obtain ⟨bs, q2⟩ := Dp.readsAll I ds _ _ h2 r2
        exact ⟨_, ReadsAll.cons q1 q2⟩
end
end
section
variable {X : Cx}
def rEqD (K : PySem.W.Frag) : R2 := fun x y H Q => ∃ d e, Dp K H x d ∧ Dp K H y e ∧ SeqAt.shaped d = true ∧ SeqAt.shaped e = true ∧ Q (.bl (PyData.eqv d e)) H
theorem op_eqD (hu : X.A.units + 64 < cLine) : OpR X (compareOp .Eq) (rEqD X.K) := by
  intro pins s σ H x y v u Q I rx ry h
  obtain ⟨d, e, hd, he, sd, se, q⟩ := h
  obtain ⟨as, r1⟩ := Dp.reads I d x v hd rx
  obtain ⟨bs, r2⟩ := Dp.reads I e y u he ry
  exact SeqAt.compareEq_shaped r1 r2 sd se hu ⟨.bl _, H, I, rfl, q⟩
end
end L2
namespace L2
open PySem PySem.Spec PyProof.Rows
abbrev CellAt (h : Heap) (c : Addr) (v : Option Value) : Prop := h.IsCell c v
def relS (scope sc : Scope) : Scope :=
  { scope with names := scope.names.map fun (n, k) => if (k == .free && sc.kind == .function && sc.names.lookup n == some .cell) then (n, .cell) else (n, k) }
def cloFrom (cells : List (Str × Addr)) : List (Str × NameKind) → List (Str × Addr) → List (Str × Addr)
  | [], acc => acc
  | (n, k) :: r, acc => if k == .free then cloFrom cells r ((n, (cells.lookup n).getD 0) :: acc) else cloFrom cells r acc
theorem closure_loop (env : Env) (f : Str × NameKind → List (Str × Addr) → Sem (ForInStep (List (Str × Addr))))
    (hf : ∀ n k c, f (n, k) c = if k == .free then (do let a ← cellOf env n; pure (.yield ((n, a) :: c))) else pure (.yield c)) :
    ∀ (names : List (Str × NameKind)) (acc : List (Str × Addr)), (∀ y ∈ names, y.2 = .free → ∃ c, env.cells.lookup y.1 = some c) → forIn names acc f = pure (cloFrom env.cells names acc)
  | [], acc, _ => by rw [List.forIn_nil]; rfl
  | (n, k) :: r, acc, h => by
    rw [List.forIn_cons, hf]
    have ih := fun acc => closure_loop env f hf r acc fun y hy => h y (List.mem_cons_of_mem _ hy)
    unfold cloFrom
    by_cases hk : (k == NameKind.free) = true
    · rw [if_pos hk, if_pos hk]
      obtain ⟨c, hc⟩ := h (n, k) List.mem_cons_self (by simpa using hk)
      have e : cellOf env n = pure c := by unfold cellOf; rw [hc]
      rw [e]
      have e2 : (env.cells.lookup n).getD 0 = c := by rw [hc]; rfl
      rw [e2]
      exact ih _
    · rw [if_neg hk, if_neg hk]
      exact ih _
theorem closure_ok {scope : Scope} {env : Env} (h : ∀ y ∈ scope.names, y.2 = .free → ∃ c, env.cells.lookup y.1 = some c) : closureFor scope env = pure (cloFrom env.cells scope.names []) := by
  simp only [closureFor]
  rw [closure_loop env _ (fun n k c => rfl) scope.names [] h]
  rfl
theorem mem_lookup {α : Type} : ∀ {l : List (Str × α)} {n : Str} {c : α}, (n, c) ∈ l → ∃ c', l.lookup n = some c'
  | (k, v) :: r, n, c, h => by
    rw [List.lookup_cons]
    cases hb : n == k with
    | true => exact ⟨_, rfl⟩
    | false =>
      rcases List.mem_cons.mp h with e | h
      · cases e; simp at hb
      · exact mem_lookup h
theorem cloFrom_mem {cells : List (Str × Addr)} : ∀ {names : List (Str × NameKind)} {acc : List (Str × Addr)} {n : Str} {c : Addr}, (n, c) ∈ cloFrom cells names acc → (n, c) ∈ acc ∨ ((n, .free) ∈ names ∧ c = (cells.lookup n).getD 0)
  | [], _, _, _, h => .inl h
  | (m, k) :: r, acc, n, c, h => by
    unfold cloFrom at h
    split at h
    · rename_i hk
      have hk : k = .free := by simpa using hk
      rcases cloFrom_mem h with h | ⟨h1, h2⟩
      · rcases List.mem_cons.mp h with e | h
        · cases e; exact .inr ⟨hk ▸ List.mem_cons_self, rfl⟩
        · exact .inl h
      · exact .inr ⟨List.mem_cons_of_mem _ h1, h2⟩
    · rcases cloFrom_mem h with h | ⟨h1, h2⟩
      · exact .inl h
      · exact .inr ⟨List.mem_cons_of_mem _ h1, h2⟩
theorem cloFrom_acc {cells : List (Str × Addr)} : ∀ {names : List (Str × NameKind)} {acc : List (Str × Addr)} {p : Str × Addr}, p ∈ acc → p ∈ cloFrom cells names acc
  | [], _, _, h => h
  | (m, k) :: r, acc, p, h => by
    unfold cloFrom
    split
    · exact cloFrom_acc (List.mem_cons_of_mem _ h)
    · exact cloFrom_acc h
theorem cloFrom_has {cells : List (Str × Addr)} : ∀ {names : List (Str × NameKind)} {acc : List (Str × Addr)} {n : Str}, (n, .free) ∈ names → (n, (cells.lookup n).getD 0) ∈ cloFrom cells names acc
  | (m, k) :: r, acc, n, h => by
    unfold cloFrom
    rcases List.mem_cons.mp h with e | h
    · cases e
      exact cloFrom_acc List.mem_cons_self
    · split
      · exact cloFrom_has h
      · exact cloFrom_has h
theorem cells_mem : ∀ {names : List (Str × NameKind)} {h : Heap} {acc : List (Str × Addr)} {x : Str} {c : Addr}, (x, c) ∈ cellsFrom h.objs.size names acc →
    (x, c) ∈ acc ∨ ((x, .cell) ∈ names ∧ h.objs.size ≤ c ∧ CellAt (pushCells h names) c none)
  | [], _, _, _, _, h => .inl h
  | (n, k) :: r, h, acc, x, c, hm => by
    unfold cellsFrom at hm
    unfold pushCells
    split at hm
    · rename_i hk
      rw [if_pos hk]
      have hk : k = .cell := by simpa using hk
      rw [← Heap.size_push h { cls := .type "cell", data := .cell none }] at hm
      rcases cells_mem hm with hm | ⟨h1, h2, h3⟩
      · rcases List.mem_cons.mp hm with e | hm
        · cases e
          exact .inr ⟨hk ▸ List.mem_cons_self, Nat.le_refl _, _, pushCells_keeps r _ _ _ (Heap.get?_push_size _ rfl), rfl⟩
        · exact .inl hm
      · rw [Heap.size_push] at h2
        exact .inr ⟨List.mem_cons_of_mem _ h1, Nat.le_of_succ_le h2, h3⟩
    · rename_i hk
      rw [if_neg hk]
      rcases cells_mem hm with hm | ⟨h1, h2, h3⟩
      · exact .inl hm
      · exact .inr ⟨List.mem_cons_of_mem _ h1, h2, h3⟩
theorem cells_acc : ∀ {names : List (Str × NameKind)} {n : Nat} {acc : List (Str × Addr)} {p : Str × Addr}, p ∈ acc → p ∈ cellsFrom n names acc
  | [], _, _, _, h => h
  | (m, k) :: r, n, acc, p, h => by
    unfold cellsFrom
    split
    · exact cells_acc (List.mem_cons_of_mem _ h)
    · exact cells_acc h
theorem cells_has : ∀ {names : List (Str × NameKind)} {n : Nat} {acc : List (Str × Addr)} {x : Str}, (x, .cell) ∈ names → ∃ c, (x, c) ∈ cellsFrom n names acc
  | (m, k) :: r, n, acc, x, h => by
    unfold cellsFrom
    rcases List.mem_cons.mp h with e | h
    · cases e
      exact ⟨n, cells_acc List.mem_cons_self⟩
    · split
      · exact cells_has h
      · exact cells_has h
theorem cells_inj : ∀ {names : List (Str × NameKind)} {h : Heap} {acc : List (Str × Addr)} {x y : Str} {c : Addr}, (∀ p ∈ acc, p.2 < h.objs.size) → (∀ x y c, (x, c) ∈ acc → (y, c) ∈ acc → x = y) →
    (x, c) ∈ cellsFrom h.objs.size names acc → (y, c) ∈ cellsFrom h.objs.size names acc → x = y
  | [], _, _, _, _, _, _, hi, h1, h2 => hi _ _ _ h1 h2
  | (n, k) :: r, h, acc, x, y, c, hl, hi, h1, h2 => by
    unfold cellsFrom at h1 h2
    split at h1
    · rename_i hk
      rw [if_pos hk] at h2
      rw [← Heap.size_push h { cls := .type "cell", data := .cell none }] at h1 h2
      refine cells_inj (h := h.push _) (fun p hp => ?_) (fun x y c a b => ?_) h1 h2
      · rw [Heap.size_push]
        rcases List.mem_cons.mp hp with rfl | hp
        · exact Nat.lt_succ_self _
        · exact Nat.lt_succ_of_lt (hl p hp)
      · rcases List.mem_cons.mp a with e | a <;> rcases List.mem_cons.mp b with e' | b
        · cases e; cases e'; rfl
        · cases e; exact absurd (hl _ b) (Nat.lt_irrefl _)
        · cases e'; exact absurd (hl _ a) (Nat.lt_irrefl _)
        · exact hi _ _ _ a b
    · rename_i hk
      rw [if_neg hk] at h2
      exact cells_inj hl hi h1 h2
theorem newEnv_comp {M : Model} {A : Around} {E : Value → Shared → Prop} {s : Shared} {scope : Scope} {globals : Addr} {closure : List (Str × Addr)} {qual : Str} {func : Option Addr} {code : Value} {around : Env} {builtins : Addr} {Q : Env → Shared → Prop}
    (h : Q (newEnv scope s.heap.objs.size globals (cellsFrom (s.heap.objs.size + 1) scope.names closure) qual func code (some around) builtins)
      { s with heap := pushCells (s.heap.push { cls := .type "dict", data := .dict #[] }) scope.names }) :
    wpAny M A (newFunctionEnv scope globals closure [] qual func code (some around) builtins) Q E s := by
  simp only [newFunctionEnv, Option.isSome_some, if_true]
  refine wpAny_bind (wpAny_alloc ?_)
  refine wpAny_bind (wpAny_layCells _ (fun n k c => rfl) scope.names closure _ _ ?_)
  rw [show ({ s with heap := s.heap.push { cls := .type "dict", data := .dict #[] } } : Shared).heap.objs.size = s.heap.objs.size + 1 from Heap.size_push ..]
  rw [List.forIn_nil]
  exact wpAny_bind (wpAny_pure (wpAny_pure h))
theorem lookup_relS {sc : Scope} : ∀ {names : List (Str × NameKind)} {x : Str} {k : NameKind},
    (names.map fun (n, k) => if (k == NameKind.free && sc.kind == .function && sc.names.lookup n == some .cell) then (n, NameKind.cell) else (n, k)).lookup x = some k →
    ∃ k', names.lookup x = some k' ∧ (k = k' ∨ (k' = .free ∧ k = .cell))
  | [], _, _, h => by simp at h
  | (n, k₀) :: r, x, k, h => by
    have ih := @lookup_relS sc r x k
    have h' : List.lookup x ((if (k₀ == NameKind.free && sc.kind == .function && sc.names.lookup n == some .cell) = true then (n, NameKind.cell) else (n, k₀)) :: (r.map _)) = some k := h
    cases hx : x == n with
    | true =>
      simp only [List.lookup_cons, hx]
      by_cases hc : (k₀ == NameKind.free && sc.kind == .function && sc.names.lookup n == some .cell) = true
      · rw [if_pos hc] at h'
        simp only [List.lookup_cons, hx] at h'
        cases h'
        simp only [Bool.and_eq_true, beq_iff_eq] at hc
        exact ⟨k₀, rfl, .inr ⟨hc.1.1, rfl⟩⟩
      · rw [if_neg hc] at h'
        simp only [List.lookup_cons, hx] at h'
        cases h'
        exact ⟨_, rfl, .inl rfl⟩
    | false =>
      simp only [List.lookup_cons, hx]
      by_cases hc : (k₀ == NameKind.free && sc.kind == .function && sc.names.lookup n == some .cell) = true
      · rw [if_pos hc] at h'
        simp only [List.lookup_cons, hx] at h'
        exact ih h'
      · rw [if_neg hc] at h'
        simp only [List.lookup_cons, hx] at h'
        exact ih h'
structure BlkOk (N : List Str) (sc scope : Scope) (own : List (Str × Nat)) : Prop where
  kind : scope.kind = .function
  uniq : ∀ y ∈ scope.names, scope.names.lookup y.1 = some y.2
  ix : ∀ p ∈ own, N[p.2]? = some p.1
  free : ∀ y ∈ scope.names, y.2 = .free → sc.names.lookup y.1 = some .cell ∨ sc.names.lookup y.1 = some .free
  own : ∀ y ∈ scope.names, y.2 = .local ∨ y.2 = .cell → y.1 ∈ own.map (·.1) ∨ y.1 ∉ N
def wipe (σ : St) : List Nat → St
  | [] => σ
  | v :: vs => (wipe σ vs).set v none
theorem wipe_length (σ : St) : ∀ vs : List Nat, (wipe σ vs).length = σ.length
  | [] => rfl
  | v :: vs => by unfold wipe; rw [List.length_set, wipe_length σ vs]
theorem wipe_some {σ : St} {i : Nat} {x : V} : ∀ {vs : List Nat}, (wipe σ vs)[i]? = some (some x) → σ[i]? = some (some x) ∧ i ∉ vs
  | [], h => ⟨h, by simp⟩
  | v :: vs, h => by
    unfold wipe at h
    by_cases hi : v = i
    · subst hi
      by_cases hv : v < (wipe σ vs).length
      · rw [List.getElem?_set_self hv] at h; cases h
      · rw [List.getElem?_eq_none (by simpa using hv)] at h; cases h
    · rw [List.getElem?_set_ne hi] at h
      obtain ⟨h1, h2⟩ := wipe_some h
      exact ⟨h1, by simp only [List.mem_cons, not_or]; exact ⟨fun e => hi e.symm, h2⟩⟩
abbrev Cx.blk (X : Cx) (s : Shared) (H : Hp) (scope : Scope) (cenv : Env) (fp : List Addr) : Cx := { X with s_0 := s, H_0 := H, env := cenv, outer := X.stack, ex := fp, fn := fun x => scope.names.lookup x == some .cell, pn := [], xe := fun _ _ => False }
section
variable {X : Cx} {pins : List (Addr × Obj)} {σ : St} {H : Hp} {s : Shared}
theorem block_start {scope : Scope} {own : List (Str × Nat)} {fp : List Addr} (I : Inv X pins σ H s) (ok : BlkOk X.N X.env.scope scope own) (hN : X.N.Nodup) (hfp : ∀ b ∈ fp, FpOk X pins H b ∧ b < s.heap.objs.size) :
    Inv (X.blk s H scope (compEnvC scope (cellsFrom (s.heap.objs.size + 1) scope.names (cloFrom X.env.cells scope.names [])) s.heap.objs.size X.env) fp) [] (wipe σ (own.map (·.2))) H { s with heap := pushCells (s.heap.push { cls := .type "dict", data := .dict #[] }) scope.names } := by
  have hfree : ∀ y ∈ scope.names, y.2 = .free → ∃ c, X.env.cells.lookup y.1 = some c := fun y hy e => by
    rcases ok.free y hy e with k | k
    · exact I.ok.has _ (.inl k)
    · exact I.ok.has _ (.inr k)
  generalize hcenv : compEnvC scope (cellsFrom (s.heap.objs.size + 1) scope.names (cloFrom X.env.cells scope.names [])) s.heap.objs.size X.env = cenv
  have kp : ∀ b o, s.heap.get? b = some o → (pushCells (s.heap.push { cls := .type "dict", data := .dict #[] }) scope.names).get? b = some o := fun b o e => pushCells_keeps _ _ _ _ (Heap.get?_push_of_some _ e)
  have hL : cenv.locals = s.heap.objs.size := by rw [← hcenv]; rfl
  have hcl : cenv.cells = cellsFrom (s.heap.objs.size + 1) scope.names (cloFrom X.env.cells scope.names []) := by rw [← hcenv]; rfl
  have hsc : cenv.scope = relS scope X.env.scope := by rw [← hcenv]; rfl
  rw [← Heap.size_push s.heap { cls := .type "dict", data := .dict #[] }] at hcl
  have cm : ∀ {y c}, (y, c) ∈ cloFrom X.env.cells scope.names [] → X.env.cells.lookup y = some c ∧ c < s.heap.objs.size := fun {y c} hm => by
    rcases cloFrom_mem hm with hm | ⟨h1, rfl⟩
    · cases hm
    · obtain ⟨c, hc⟩ := hfree _ h1 rfl
      rw [hc]
      obtain ⟨w, z⟩ := I.cell _ _ hc
      exact ⟨rfl, z.lt⟩
  have mem : ∀ {y c}, cenv.cells.lookup y = some c → (X.env.cells.lookup y = some c ∧ c < s.heap.objs.size) ∨ (s.heap.objs.size + 1 ≤ c ∧ CellAt (pushCells (s.heap.push { cls := .type "dict", data := .dict #[] }) scope.names) c none) := fun {y c} e => by
    rw [hcl] at e
    rcases cells_mem (PySem.mem_of_lookup e) with hm | ⟨_, h2, h3⟩
    · exact .inl (cm hm)
    · rw [Heap.size_push] at h2; exact .inr ⟨h2, h3⟩
  have look : ∀ {y}, scope.names.lookup y = some .free → ∃ c, cenv.cells.lookup y = some c ∧ X.env.cells.lookup y = some c := fun {y} hl => by
    have hy : (y, NameKind.free) ∈ scope.names := PySem.mem_of_lookup hl
    obtain ⟨c', e'⟩ := mem_lookup (cells_acc (names := scope.names) (n := (s.heap.push { cls := .type "dict", data := .dict #[] }).objs.size) (cloFrom_has (cells := X.env.cells) (acc := []) hy))
    rw [← hcl] at e'
    refine ⟨c', e', ?_⟩
    rw [hcl] at e'
    rcases cells_mem (PySem.mem_of_lookup e') with hm | ⟨h1, _, _⟩
    · exact (cm hm).1
    · have := ok.uniq _ h1
      rw [hl] at this; cases this
  have okB : (X.blk s H scope cenv fp).Ok := by
    refine ⟨I.ok.mod, by show cenv.scope.kind = _; rw [hsc]; exact ok.kind, by show cenv.globals = _; rw [← hcenv]; exact I.ok.glob, by show cenv.builtins = _; rw [← hcenv]; exact I.ok.blt, by show s.heap.objs.size ≤ cenv.locals; rw [hL]; exact Nat.le_refl _,
      fun y z c e1 e2 => ?_, fun y hy => ?_, fun y c z e => ?_, I.ok.hd, I.ok.frames, .inl rfl, fun b hb => ⟨?_, fun y c e z => ?_⟩, I.bs, Nat.le_trans I.ok.bsz I.sz, fun b o e hb => ?_, fun b hb z => ?_, I.stack, I.stkFree⟩
    · have e1 : cenv.cells.lookup y = some c := e1
      have e2 : cenv.cells.lookup z = some c := e2
      rw [hcl] at e1 e2
      refine cells_inj (fun p hp => ?_) (fun y z c a b => I.ok.inj y z c (cm a).1 (cm b).1) (PySem.mem_of_lookup e1) (PySem.mem_of_lookup e2)
      rw [Heap.size_push]
      exact Nat.lt_succ_of_lt (cm (y := p.1) (c := p.2) hp).2
    · show ∃ c, cenv.cells.lookup y = some c
      have key : ∀ k, cenv.kindOf y = some k → (k = .cell ∨ k = .free) → ∃ c, cenv.cells.lookup y = some c := fun k hk hk' => by
        unfold Env.kindOf at hk
        rw [hsc] at hk
        obtain ⟨k', e, r⟩ := lookup_relS hk
        have : k' = .cell ∨ k' = .free := by
          rcases r with rfl | ⟨rfl, _⟩
          · exact hk'
          · exact .inr rfl
        rcases this with rfl | rfl
        · obtain ⟨c, hm⟩ := cells_has (n := (s.heap.push { cls := .type "dict", data := .dict #[] }).objs.size) (acc := cloFrom X.env.cells scope.names []) (PySem.mem_of_lookup e)
          obtain ⟨c', e'⟩ := mem_lookup hm
          exact ⟨c', by rw [hcl]; exact e'⟩
        · obtain ⟨c, h1, _⟩ := look e
          exact ⟨c, h1⟩
      rcases hy with hy | hy
      · exact key _ hy (.inl rfl)
      · exact key _ hy (.inr rfl)
    · have z : (scope.names.lookup y == some NameKind.cell) = true := z
      have z : scope.names.lookup y = some .cell := by simpa using z
      have e : cenv.cells.lookup y = some c := e
      rw [hcl] at e
      rcases cells_mem (PySem.mem_of_lookup e) with hm | ⟨_, h2, _⟩
      · rcases cloFrom_mem hm with hm | ⟨h1, _⟩
        · cases hm
        · have q := ok.uniq _ h1
          rw [z] at q; cases q
      · rw [Heap.size_push] at h2
        exact Nat.le_of_succ_le h2
    · show b ≠ cenv.locals
      rw [hL]; exact Nat.ne_of_lt (hfp b hb).2
    · have e : cenv.cells.lookup y = some c := e
      rcases mem e with ⟨h1, _⟩ | ⟨h1, _⟩
      · exact (hfp b hb).1.2.2.2.2.1 y c h1 z
      · have h2 : s.heap.objs.size + 1 ≤ b := by rw [← z]; exact h1
        exact absurd (Nat.lt_of_lt_of_le (hfp b hb).2 (Nat.le_of_succ_le h2)) (Nat.lt_irrefl _)
    · rcases (hfp b hb).1.2.2.2.1 with z | z
      · exact I.ok.noex b o e z
      · exact absurd (Nat.lt_of_lt_of_le (Heap.lt_size e) (Nat.le_trans I.ok.bsz z)) (Nat.lt_irrefl _)
    · rcases List.mem_cons.mp (I.stkSub b z) with z | z
      · exact (hfp b hb).1.2.1 z
      · exact (hfp b hb).1.2.2.1 z
  refine ⟨okB, rfl, I.bare, Un.kept kp, ⟨fun _ => none, ?_, fun i y av e1 e2 e3 => ?_⟩, fun y c e => ?_, ?_, fun y c e => ?_, fun p hp => ?_, I.hok.kept kp, by rw [wipe_length]; exact I.len⟩
  · show Heap.Ns _ cenv.locals _
    rw [hL]
    exact Heap.Ns.keeps (Heap.Ns.new ..) fun b o e => pushCells_keeps _ _ _ _ e
  · obtain ⟨e2, hne⟩ := wipe_some e2
    have hfr : scope.names.lookup y = some .free ∧ (cenv.kindOf y = some .cell ∨ cenv.kindOf y = some .free) := by
      have key : ∀ k, cenv.scope.names.lookup y = some k → k = .local ∨ k = .cell ∨ k = .free → scope.names.lookup y = some .free ∧ (cenv.kindOf y = some .cell ∨ cenv.kindOf y = some .free) := fun k hk hk' => by
        have hk0 := hk
        rw [hsc] at hk
        obtain ⟨k', e, r⟩ := lookup_relS hk
        have no : ¬ (k' = .local ∨ k' = .cell) := fun hh => by
          rcases ok.own _ (PySem.mem_of_lookup e) hh with e' | e'
          · obtain ⟨p, hp, hpy⟩ := List.mem_map.mp e'
            have e3 := ok.ix p hp
            have : p.1 = y := hpy
            rw [this] at e3
            exact hne (List.mem_map.mpr ⟨p, hp, nodup_ix hN e3 e1⟩)
          · exact e' (List.mem_of_getElem? e1)
        rcases r with rfl | ⟨rfl, rfl⟩
        · rcases hk' with rfl | rfl | rfl
          · exact absurd (.inl rfl) no
          · exact absurd (.inr rfl) no
          · exact ⟨e, .inr hk0⟩
        · exact ⟨e, .inl hk0⟩
      have e3 : Vis cenv.scope y := e3
      rcases e3 with e3 | e3 | e3
      · exact key _ e3 (.inl rfl)
      · exact key _ e3 (.inr (.inl rfl))
      · exact key _ e3 (.inr (.inr rfl))
    obtain ⟨m, hn, hl⟩ := I.loc
    have hvis : Vis X.env.scope y := (ok.free _ (PySem.mem_of_lookup hfr.1) rfl).elim (fun k => .inr (.inl k)) (fun k => .inr (.inr k))
    obtain ⟨w, r, q⟩ := hl i y av e1 e2 hvis
    refine ⟨w, r, .inr ⟨hfr.2, ?_⟩⟩
    obtain ⟨c, h1, h2⟩ := look hfr.1
    rcases q with ⟨k, _⟩ | ⟨_, c', e', z⟩
    · have k : X.env.scope.names.lookup y = some .local := k
      rcases ok.free _ (PySem.mem_of_lookup hfr.1) rfl with k' | k' <;> rw [show X.env.scope.names.lookup y = _ from k'] at k <;> cases k
    · rw [h2] at e'; cases e'
      exact ⟨c, h1, z.keeps kp⟩
  · have e : cenv.cells.lookup y = some c := e
    rcases mem e with ⟨h1, _⟩ | ⟨_, z⟩
    · obtain ⟨w, z⟩ := I.cell y c h1
      exact ⟨w, z.keeps kp⟩
    · exact ⟨_, z⟩
  · show H cenv.locals = none
    rw [hL]; exact I.hok.fresh (Nat.le_refl _)
  · have e : cenv.cells.lookup y = some c := e
    rcases mem e with ⟨h1, _⟩ | ⟨h1, _⟩
    · exact I.freeC y c h1
    · exact I.hok.fresh (Nat.le_of_succ_le h1)
  · exact absurd (show p ∈ ([] : List (Addr × Obj)) ++ [] from hp) (by simp)
theorem app_ok {E : Value → Shared → Prop} {D : Addr} {xs : List V} {y : V} {v : Value} {Q : Value → Shared → Prop} (I : Inv X pins σ H s) (hD : H D = some (.lst xs)) (hz : xs.length < sizeLine) (r : RelV y v)
    (h : ∀ s', Inv X pins σ (upd H D (.lst (xs ++ [y]))) s' → Q .none s') : wpAny (model X.prog X.w) X.A (call (.builtin "list.append") [.ref D, v]) Q E s := by
  obtain ⟨hz', its, n, ri, e⟩ := I.hok D _ hD
  have hl := ri.length
  refine append_at (hsz := by rw [List.size_toArray]; omega) e fun h' sb ho' => ?_
  refine h { s with heap := h' } (I.write (t' := s.toks) (by rw [hD]; trivial) (.inl rfl) (fun b u hb q => (sb.2 b hb).trans q) ⟨_, ho'⟩ ⟨by rw [List.length_append]; exact hz, its ++ [v], n + 1, ri.append (.cons r .nil), ?_⟩)
  rw [ho']
  simp
def PTs (X : Cx) (ifs : List Expr) (t : TT) : Prop :=
  ∀ (pins : List (Addr × Obj)) (s : Shared) (σ : St) (H : Hp) (Q : Bool → Hp → Prop), Inv X pins σ H s → t σ H Q →
    wpAny (model X.prog X.w) X.A (forIn ifs true fun c r => if r = true then do let ok ← isTrue c X.env (eval c X.env); pure (ForInStep.yield ok) else pure (ForInStep.yield r)) (TP X pins σ Q) X.xe s
def tYes : TT := fun _ H Q => Q true H
theorem pts_nil : PTs X [] tYes := fun _ _ _ H _ I h => wpAny_tests_nil ⟨H, I, h⟩
theorem pts_one {c : Expr} {t : TT} (h : PT X c t) : PTs X [c] t := fun pins s σ H Q I hw => wpAny_tests_one (h pins s σ H Q I hw)
end
theorem thnF {α : Type} {t : Sem α} {Q Q' : α → Shared → Prop} {M : Model} {A : Around} {E : Value → Shared → Prop} {s : Shared} (h : wpAny M A t Q (fun _ _ => False) s) (hQ : ∀ a s, Q a s → Q' a s) : wpAny M A t Q' E s := wpAny_mono h hQ fun _ _ z => False.elim z
theorem compLoop_any {prog : Program} {w : World} {A : Around} {R : Result → Shared → Prop} {s : Shared} {elt target iter : Expr} {ifs : List Expr} {scope : Scope} {pos : Pos} {it acc : Value} {env : Env} (I : Nat → Shared → Prop)
    (turn : ∀ n s, I n s → wpAny (model prog w) A (pyNext it) (fun r s₁ => match r with
      | none => R (.ok .next) s₁
      | some v => wpAny (model prog w) A (letOwnedTupleGo target it v) (fun _ s₁' => wpAny (model prog w) A (assign target env v) (fun _ s₂ =>
          wpAny (model prog w) A (forIn ifs true fun c r => if r = true then do let ok ← isTrue c env (eval c env); pure (ForInStep.yield ok) else pure (ForInStep.yield r)) (fun ok s₃ =>
            if ok = true then wpAny (model prog w) A (eval elt env) (fun x s₄ =>
              wpAny (model prog w) A (call (.builtin "list.append") [acc, x]) (fun _ s₅ => ∃ m, m < n ∧ I m s₅) (notedBy (model prog w) A env fun e s' => R (.error e) s') s₄) (notedBy (model prog w) A env fun e s' => R (.error e) s') s₃
            else ∃ m, m < n ∧ I m s₃) (notedBy (model prog w) A env fun e s' => R (.error e) s') s₂) (notedBy (model prog w) A env fun e s' => R (.error e) s') s₁') (notedBy (model prog w) A env fun e s' => R (.error e) s') s₁) (notedBy (model prog w) A env fun e s' => R (.error e) s') s)
    (n : Nat) (h : I n s) :
    codeAny (model prog w) A (.compLoop (.ListComp elt [⟨target, iter, ifs, 0⟩] scope pos) 0 it acc env) R s := by
  refine codeAny_loop rfl I (fun n s hI => ?_) n h
  show wpAny _ A ((compTurn (.ListComp elt [⟨target, iter, ifs, 0⟩] scope pos) 0 it acc env).onRaise (fun x => do noteFrame x env; theTreesLotGoes x)) _ _ s
  refine wpAny_noted ?_
  rw [compTurn_list]
  refine wpAny_bind (wpAny_standAt (wpAny_bind (wpAny_mono (turn n s hI) (fun r s₁ h₁ => ?_) fun _ _ h' => h')))
  cases r with
  | none => exact wpAny_pure h₁
  | some v =>
    refine wpAny_bind (wpAny_mono h₁ (fun _ s₁' h₁' => ?_) fun _ _ h' => h')
    refine wpAny_bind (wpAny_mono h₁' (fun _ s₂ h₂ => wpAny_bind (wpAny_mono h₂ (fun ok s₃ h₃ => ?_) fun _ _ h' => h')) fun _ _ h' => h')
    cases ok with
    | false => exact wpAny_pure ⟨rfl, h₃⟩
    | true =>
      exact wpAny_bind (wpAny_bind (wpAny_mono h₃ (fun x s₄ h₄ => wpAny_bind (wpAny_mono h₄ (fun _ s₅ h₅ => wpAny_pure (wpAny_pure ⟨rfl, h₅⟩)) fun _ _ h' => h')) fun _ _ h' => h'))
section
variable {X : Cx}
def tLc (wi : TI) (g : TG) (tt : TT) (te : TE) (vs : List Nat) : TE := fun σ H Q => wi σ H fun J H1 => ∀ D, H1 D = none → ∃ W : Nat → Nat → Hp → Prop, (∃ m, W 0 m (upd H1 D (.lst []))) ∧ ∀ i m H, W i m H →
  (J.stop i H ∧ Q (.ref D) H) ∨ (J.go i H ∧ ∃ Nx : Hp → Prop, (∀ H', Nx H' → ∃ m', m' < m ∧ W (i + 1) m' H') ∧ ∀ x H', J.yld i H x H' → g x (wipe σ vs) H' fun σ2 H2 => wipe σ2 vs = wipe σ vs ∧ tt σ2 H2 fun b H3 =>
    if b = true then te σ2 H3 fun y H4 => ∃ acc, H4 D = some (.lst acc) ∧ acc.length < sizeLine ∧ Nx (upd H4 D (.lst (acc ++ [y]))) else Nx H3)
theorem lc_core {pins : List (Addr × Obj)} {s : Shared} {σ : St} {H : Hp} {Q : VK} {elt tg iter : Expr} {ifs : List Expr} {scope : Scope} {own : List (Str × Nat)} {pos pos' : Pos} {wi : TI} {g : TG} {tt : TT} {te : TE} {use : Option (Value → Sem Unit)} {Qf : Value → Shared → Prop}
    (hc : X.calm = true) (hN : X.N.Nodup) (I : Inv X pins σ H s) (hi : PI X tg iter wi) (ok : BlkOk X.N X.env.scope scope own)
    (hg : ∀ (s : Shared) (H : Hp) (C : Addr) (cl : List (Str × Addr)) (fp : List Addr), PG (X.blk s H scope (compEnvC scope cl C X.env) fp) tg g) (ht : ∀ (s : Shared) (H : Hp) (C : Addr) (cl : List (Str × Addr)) (fp : List Addr), PTs (X.blk s H scope (compEnvC scope cl C X.env) fp) ifs tt)
    (he : ∀ (s : Shared) (H : Hp) (C : Addr) (cl : List (Str × Addr)) (fp : List Addr), PE (X.blk s H scope (compEnvC scope cl C X.env) fp) elt te) (hs : ∀ x, foldedSetIterable iter X.env x = pure x)
    (h : tLc wi g tt te (own.map (·.2)) σ H Q)
    (hRR : ∀ D C s' m H', Inv X pins σ H' s' → Q (.ref D) H' → s'.heap.Ns C m → FpOk X pins H' C → compPost (model X.prog X.w) X.A X.xe use Qf (.ref D) C (.ok .next) s') :
    wpAny (model X.prog X.w) X.A (comprehension (.ListComp elt [⟨tg, iter, ifs, 0⟩] scope pos) scope X.env pos' (newList []) false (eval iter X.env) use) Qf X.xe s := by
  have hfree : ∀ y ∈ scope.names, y.2 = .free → ∃ c, X.env.cells.lookup y.1 = some c := fun y hy e => by
    rcases ok.free y hy e with k | k
    · exact I.ok.has _ (.inl k)
    · exact I.ok.has _ (.inr k)
  refine wpAny_comprehension_free (use := use) rfl hs (closure_ok hfree) ok.kind (fun y hy e => by rw [ok.uniq y hy, e])
    (thn (hi pins s σ H _ I h) fun xv s1 hx => thn hx fun itv s2 h2 => ?_)
  obtain ⟨it, fp, tn, J, H2, e, I2, T, st2, f2, q⟩ := h2
  subst e
  refine wpAny_newObj_type (newEnv_comp ?_) (by show 0 ≤ sizeLine; decide)
  generalize hD : s2.heap.objs.size = D
  have hDn : H2 D = none := I2.hok.fresh (Nat.le_of_eq hD)
  obtain ⟨W, ⟨m0, w0⟩, turn⟩ := q D hDn
  -- the new list
  generalize hs3 : ({ s2 with heap := s2.heap.push { cls := .type "list", data := .seq ([] : List Value).toArray } } : Shared) = s3
  have I3 : Inv X pins σ (upd H2 D (.lst [])) s3 := by
    rw [← hs3]
    refine I2.laid (t' := s2.toks) (fun b o e => Heap.get?_push_of_some _ e) (Nat.le_of_eq hD) ⟨Nat.zero_le _, [], 0, .nil, ?_⟩
    rw [← hD]
    exact Heap.get?_push_size _ rfl
  have h3 : s3.heap = s2.heap.push { cls := .type "list", data := .seq ([] : List Value).toArray } := by rw [← hs3]
  have sz : ∀ b ∈ fp, b < s2.heap.objs.size := fun b hb => by
    obtain ⟨o, e, _⟩ := T.obj _ _ st2 b hb
    exact Heap.lt_size e
  have f3 : ∀ b ∈ fp, FpOk X pins (upd H2 D (.lst [])) b ∧ b < s3.heap.objs.size := fun b hb => by
    have hlt := sz b hb
    refine ⟨⟨?_, (f2 b hb).2⟩, by rw [h3, Heap.size_push]; exact Nat.lt_succ_of_lt hlt⟩
    rw [upd_ne (by rw [← hD]; exact Nat.ne_of_lt hlt)]
    exact (f2 b hb).1
  have st3 : tn 0 s3.heap := T.keep _ _ _ st2 fun b _ o e => by rw [h3]; exact Heap.get?_push_of_some _ e
  have I4 := block_start I3 ok hN f3
  have pg := hg s3 (upd H2 D (.lst [])) s3.heap.objs.size (cellsFrom (s3.heap.objs.size + 1) scope.names (cloFrom X.env.cells scope.names [])) fp
  have pt := ht s3 (upd H2 D (.lst [])) s3.heap.objs.size (cellsFrom (s3.heap.objs.size + 1) scope.names (cloFrom X.env.cells scope.names [])) fp
  have pe := he s3 (upd H2 D (.lst [])) s3.heap.objs.size (cellsFrom (s3.heap.objs.size + 1) scope.names (cloFrom X.env.cells scope.names [])) fp
  show codeAny _ _ (.compStart (.ListComp elt [⟨tg, iter, ifs, 0⟩] scope pos) 0 (.ref it) (.ref D) (compEnvC scope (cellsFrom (s3.heap.objs.size + 1) scope.names (cloFrom X.env.cells scope.names [])) s3.heap.objs.size X.env)) (compPost (model X.prog X.w) X.A X.xe use Qf (.ref D) s3.heap.objs.size) { s3 with heap := pushCells (s3.heap.push { cls := .type "dict", data := .dict #[] }) scope.names }
  have nfp : ∀ b ∈ fp, (upd H2 D (.lst [])) b = none := fun b hb => (f3 b hb).1.1
  generalize hce : compEnvC scope (cellsFrom (s3.heap.objs.size + 1) scope.names (cloFrom X.env.cells scope.names [])) s3.heap.objs.size X.env = ce at I4 pg pt pe ⊢
  have cL : ce.locals = s3.heap.objs.size := by subst hce; rfl
  generalize hH3 : upd H2 D (.lst []) = H3 at I3 I4 pg pt pe w0 nfp f3
  generalize hs4 : ({ s3 with heap := pushCells (s3.heap.push { cls := .type "dict", data := .dict #[] }) scope.names } : Shared) = s4 at I4 ⊢
  have st4 : tn 0 s4.heap := T.keep _ _ _ st3 fun b _ o e => by rw [← hs4]; exact pushCells_keeps _ _ _ _ (Heap.get?_push_of_some _ e)
  have stat : ∀ {σ' : St} {H' : Hp} {s' : Shared}, Inv (X.blk s3 H3 scope ce fp) [] σ' H' s' → (∀ b ∈ fp, H' b = none) → ∀ b ∈ fp, FpOk (X.blk s3 H3 scope ce fp) [] H' b := fun {σ' H' s'} I' hn b hb =>
    ⟨hn b hb, (I'.ok.exf b hb).1, I'.ok.exfs b hb, .inl hb, fun x c e => (I'.ok.exf b hb).2 x c e, fun p hp => absurd (show p ∈ ([] : List (Addr × Obj)) ++ [] from hp) (by simp)⟩
  have loop : codeAny (model X.prog X.w) X.A (.compLoop (.ListComp elt [⟨tg, iter, ifs, 0⟩] scope pos) 0 (.ref it) (.ref D) ce) (compPost (model X.prog X.w) X.A X.xe use Qf (.ref D) s3.heap.objs.size) s4 := by
    refine compLoop_any (fun n s' => ∃ i H', Inv (X.blk s3 H3 scope ce fp) [] (wipe σ (own.map (·.2))) H' s' ∧ tn i s'.heap ∧ (∀ b ∈ fp, H' b = none) ∧ W i n H') ?_ m0 ⟨0, H3, I4, st4, nfp, w0⟩
    rintro n s5 ⟨i, H5, I5, st5, n5, w5⟩
    rcases turn i n H5 w5 with ⟨stop, qq⟩ | ⟨go, Nx, hNx, step⟩
    · have td := T.done (X.blk s3 H3 scope ce fp) rfl rfl rfl hc i [] s5 _ H5 (fun _ _ => False) I5 (stat I5 n5) st5 stop
      refine thnF td fun r s6 ⟨hr, I6⟩ => ?_
      subst hr
      -- back in the def's context
      have I7 : Inv X pins σ H5 s6 := I3.call' (ch := fp) I6.os I6.base I6.hok I6.bare fun b hb => ⟨(f3 b hb).1.2.2.2.1, (f3 b hb).1.2.1, (f3 b hb).1.2.2.2.2.1, (f3 b hb).1.2.2.2.2.2⟩
      have nC : H5 s3.heap.objs.size = none := by
        have z : H5 ce.locals = none := I6.free
        rw [cL] at z
        exact z
      obtain ⟨m, hn, _⟩ := I6.loc
      have hn : s6.heap.Ns ce.locals m := hn
      rw [cL] at hn
      exact hRR D s3.heap.objs.size s6 m H5 I7 qq hn (I3.fpOk (Nat.le_refl _) nC)
    · have ti := T.item (X.blk s3 H3 scope ce fp) rfl rfl rfl hc i [] s5 _ H5 (fun _ _ => False) I5 (stat I5 n5) st5 go
      refine thnF ti fun r s6 ⟨u, hr, h6⟩ => ?_
      subst hr
      refine thnF h6 fun _ s7 ⟨x, H7, I7, r7, y7, st7, n7⟩ => ?_
      have I7' := I7.pinned (stat I7 n7) (T.obj _ _ st7)
      refine thnF (pg _ s7 _ H7 x u _ I7' r7 (step x H7 y7)) fun _ s8 ⟨σ8, H8, I8, hw8, q8⟩ => ?_
      refine thnF (pt _ s8 σ8 H8 _ I8 q8) fun b s9 ⟨H9, I9, q9⟩ => ?_
      -- the turn's end
      have fin : ∀ {s' : Shared} {H' : Hp}, Inv (X.blk s3 H3 scope ce fp) ([] ++ pinsAt fp s7.heap) σ8 H' s' → Nx H' → ∃ m, m < n ∧ ∃ i H', Inv (X.blk s3 H3 scope ce fp) [] (wipe σ (own.map (·.2))) H' s' ∧ tn i s'.heap ∧ (∀ b ∈ fp, H' b = none) ∧ W i m H' := fun {s' H'} I' nx => by
        obtain ⟨m', hm, w'⟩ := hNx H' nx
        have pin' : ∀ b ∈ fp, ∀ o, s7.heap.get? b = some o → s'.heap.get? b = some o ∧ H' b = none := fun b hb o e =>
          let z := I'.pin (b, o) (List.mem_append_right _ (List.mem_append_right _ (mem_pinsAt hb e)))
          ⟨z.1, z.2.1⟩
        have hl : (wipe σ (own.map (·.2))).length = σ8.length := by rw [← hw8, wipe_length]
        refine ⟨m', hm, i + 1, H', (I'.unpinned (pins := [])).weak hl (fun j v e => ?_), T.keep _ _ _ st7 fun b hb o e => (pin' b hb o e).1, fun b hb => ?_, w'⟩
        · rw [← hw8] at e
          exact (wipe_some e).1
        · obtain ⟨o, e, _⟩ := T.obj _ _ st7 b hb
          exact (pin' b hb o e).2
      cases b with
      | false =>
        simp only [Bool.false_eq_true, if_false] at q9 ⊢
        exact fin I9 q9
      | true =>
        simp only [if_true] at q9 ⊢
        refine thnF (pe _ s9 σ8 H9 _ I9 q9) fun z s10 ⟨yv, H10, I10, r10, acc, hD10, hz10, nx⟩ => ?_
        exact app_ok (X := X.blk s3 H3 scope ce fp) I10 hD10 hz10 r10 fun s11 I11 => fin I11 nx
  exact codeAny_compStart_list loop (T.self X.A 0 _ _ _ st4 loop)
theorem pe_lc {elt tg iter : Expr} {ifs : List Expr} {scope : Scope} {own : List (Str × Nat)} {pos : Pos} {wi : TI} {g : TG} {tt : TT} {te : TE} (hc : X.calm = true) (hN : X.N.Nodup) (hi : PI X tg iter wi) (ok : BlkOk X.N X.env.scope scope own)
    (hg : ∀ (s : Shared) (H : Hp) (C : Addr) (cl : List (Str × Addr)) (fp : List Addr), PG (X.blk s H scope (compEnvC scope cl C X.env) fp) tg g) (ht : ∀ (s : Shared) (H : Hp) (C : Addr) (cl : List (Str × Addr)) (fp : List Addr), PTs (X.blk s H scope (compEnvC scope cl C X.env) fp) ifs tt)
    (he : ∀ (s : Shared) (H : Hp) (C : Addr) (cl : List (Str × Addr)) (fp : List Addr), PE (X.blk s H scope (compEnvC scope cl C X.env) fp) elt te) (hs : ∀ x, foldedSetIterable iter X.env x = pure x := by intro _; rfl) :
    PE X (.ListComp elt [⟨tg, iter, ifs, 0⟩] scope pos) (tLc wi g tt te (own.map (·.2))) := by
  intro pins s σ H Q I h
  rw [eval_ListComp]
  refine lc_core hc hN I hi ok hg ht he hs h fun D C s' m H' I' q hn f => ⟨m, hn, fun h'' sb => ?_⟩
  obtain ⟨f0, f1, f2, f3, f4, f5⟩ := f
  exact ⟨.ref D, H', I'.turned (t' := s'.toks) (fun b o hb e => (sb.2 b hb).trans e) f0 f1 f3 f4 f5, rfl, q⟩
theorem ps_setLc {i : Nat} {y : Str} {py : Pos} {elt tg iter : Expr} {ifs : List Expr} {scope : Scope} {own : List (Str × Nat)} {pos spos : Pos} {wi : TI} {g : TG} {tt : TT} {te : TE} (hc : X.calm = true) (hN : X.N.Nodup) (hy : X.N[i]? = some y) (hyl : X.env.scope.names.lookup y = some .local)
    (hsw : swapsWith (.ListComp elt [⟨tg, iter, ifs, 0⟩] scope pos) (some (.Name y py)) spos.line X.env = pure true) (hi : PI X tg iter wi) (ok : BlkOk X.N X.env.scope scope own)
    (hg : ∀ (s : Shared) (H : Hp) (C : Addr) (cl : List (Str × Addr)) (fp : List Addr), PG (X.blk s H scope (compEnvC scope cl C X.env) fp) tg g) (ht : ∀ (s : Shared) (H : Hp) (C : Addr) (cl : List (Str × Addr)) (fp : List Addr), PTs (X.blk s H scope (compEnvC scope cl C X.env) fp) ifs tt)
    (he : ∀ (s : Shared) (H : Hp) (C : Addr) (cl : List (Str × Addr)) (fp : List Addr), PE (X.blk s H scope (compEnvC scope cl C X.env) fp) elt te) (hs : ∀ x, foldedSetIterable iter X.env x = pure x := by intro _; rfl) :
    PS X (.Assign [.Name y py] (.ListComp elt [⟨tg, iter, ifs, 0⟩] scope pos) spos) (tAsg (tLc wi g tt te (own.map (·.2))) (gName i)) := by
  intro pins s σ H D I h
  rw [exec_Assign_Name_used _ _ _ _ hsw]
  refine wpAny_bind (wpAny_standAt (wpAny_bind ?_))
  show wpAny _ X.A (do let _ ← comprehension (.ListComp elt [⟨tg, iter, ifs, 0⟩] scope pos) scope X.env (firstIterPos [⟨tg, iter, ifs, 0⟩] pos) (newList []) false (eval iter X.env) (some (assign (.Name y py) X.env))) _ _ s
  have h : tLc wi g tt te (own.map (·.2)) σ H (fun x H1 => gName i x σ H1 D.nx) := h
  refine wpAny_bind (thn (lc_core (Qf := fun _ s' => SP X pins D .next s') hc hN I hi ok hg ht he hs h fun L C s' m H' I' q hn f => ?_) fun _ s' hq => wpAny_pure (wpAny_pure hq))
  show wpAny _ _ (assign (.Name y py) X.env (.ref L)) _ _ _
  refine wpAny_assign_Name (store_ok2 (v := V.ref L) I' hN hy (.inl hyl) rfl (fun s2 I2 ⟨a, sb, ha⟩ => ?_) (.inr hyl))
  obtain ⟨f0, f1, f2, f3, f4, f5⟩ := f
  have haC : C ≠ a := by
    rcases ha with z | z
    · rw [z]; exact f1
    · exact fun e => f4 y a z e.symm
  refine ⟨m, hn.sameBut sb haC, fun h3 sb3 => ?_⟩
  exact ⟨_, H', I2.turned (t' := s2.toks) (fun b o hb e => (sb3.2 b hb).trans e) f0 f1 f3 f4 f5, q⟩
theorem sw_true {elt : Expr} {gs : List Comprehension} {scope : Scope} {pos py : Pos} {y : Str} {l : Nat} {env : Env} (hk : env.scope.kind = .function) (hy : env.scope.names.lookup y = some .local) (hl : (py.line == pos.line) = true)
    (ha : (scope.names.any fun (n, k) => n == y && (k == .local || k == .cell)) = false) : swapsWith (.ListComp elt gs scope pos) (some (.Name y py)) l env = pure true := by
  have ky : env.kindOf y = some .local := hy
  have hb : env.blockKind = .function := by unfold Env.blockKind; rw [hk]; rfl
  unfold swapsWith
  simp only [hb, ky, ha, Expr.pos, hl]
  rfl
end
def blkC (N : List Str) (sc scope : Scope) (own : List (Str × Nat)) : Bool :=
  (match scope.kind with | .function => true | _ => false) && (scope.names.all fun y => decide (scope.names.lookup y.1 = some y.2)) && (own.all fun p => decide (N[p.2]? = some p.1)) &&
    (scope.names.all fun y => match y.2 with
      | .free => (match sc.names.lookup y.1 with | some .cell => true | some .free => true | _ => false)
      | .local => decide (y.1 ∈ own.map (·.1)) || decide (y.1 ∉ N)
      | .cell => decide (y.1 ∈ own.map (·.1)) || decide (y.1 ∉ N)
      | _ => true)
theorem blkOk_by {N : List Str} {sc scope : Scope} {own : List (Str × Nat)} (h : blkC N sc scope own = true) : BlkOk N sc scope own := by
  unfold blkC at h
  simp only [Bool.and_eq_true, List.all_eq_true, decide_eq_true_eq] at h
  obtain ⟨⟨⟨h1, h2⟩, h3⟩, h4⟩ := h
  refine ⟨?_, h2, h3, fun y hy e => ?_, fun y hy e => ?_⟩
  · split at h1
    · assumption
    · cases h1
  · have q := h4 y hy
    simp only [e] at q
    split at q <;> first | exact .inl (by assumption) | exact .inr (by assumption) | cases q
  · have q := h4 y hy
    rcases e with e | e <;> (simp only [e, Bool.or_eq_true, decide_eq_true_eq] at q; exact q)
end L2
namespace L2
open PySem PySem.Spec PyProof.Rows
section
variable {prog : Program} {w : World} {A : Around} {R : Result → Shared → Prop} {s : Shared} {elt t0 i0 t1 i1 : Expr} {ifs0 ifs1 : List Expr} {scope : Scope} {pos : Pos} {it acc : Value} {env : Env}
end
section
variable {X : Cx}
end
end L2
namespace L2
open PySem PySem.Spec PyProof.Rows
section
variable {κ : Type} [DecidableEq κ]
def valV (kvs : List (κ × V)) (k : κ) : Option V := (kvs.find? fun kv => decide (kv.1 = k)).map (·.2)
def putK (kvs : List (κ × V)) (k : κ) (v : V) : List (κ × V) :=
  if (kvs.any fun kv => decide (kv.1 = k)) = true then kvs.map (fun kv => if kv.1 = k then (kv.1, v) else kv) else kvs ++ [(k, v)]
theorem valV_pos {p : κ × V} {r : List (κ × V)} {k : κ} (e : p.1 = k) : valV (p :: r) k = some p.2 := by simp [valV, List.find?_cons, e]
theorem valV_neg {p : κ × V} {r : List (κ × V)} {k : κ} (e : ¬ p.1 = k) : valV (p :: r) k = valV r k := by simp [valV, List.find?_cons, e]
theorem valV_any (k : κ) : ∀ kvs : List (κ × V), (kvs.any fun kv => decide (kv.1 = k)) = (valV kvs k).isSome
  | [] => rfl
  | p :: r => by
    rw [List.any_cons]
    by_cases e : p.1 = k
    · simp only [valV_pos e, decide_eq_true e, Bool.true_or, Option.isSome_some]
    · rw [valV_neg e, decide_eq_false e, Bool.false_or]; exact valV_any k r
theorem length_putK (kvs : List (κ × V)) (k : κ) (v : V) : (putK kvs k v).length ≤ kvs.length + 1 := by
  unfold putK
  split
  · rw [List.length_map]; omega
  · rw [List.length_append, List.length_cons, List.length_nil]; omega
theorem RelO.isSome_eq {o : Option V} {u : Option Value} (r : RelO o u) : o.isSome = u.isSome := by
  cases o with
  | none => cases u with
    | none => rfl
    | some _ => exact (show False from r).elim
  | some _ => cases u with
    | none => exact (show False from r).elim
    | some _ => rfl
theorem KV.any {kvs : List (κ × V)} {vs : List (κ × Value)} (r : KV kvs vs) (k : κ) : (kvs.any fun kv => decide (kv.1 = k)) = vs.any fun kv => decide (kv.1 = k) := by
  unfold KV at r
  induction r with
  | nil => rfl
  | cons h t ih => rw [List.any_cons, List.any_cons, ih, h.1]
theorem KV.repl {kvs : List (κ × V)} {vs : List (κ × Value)} (r : KV kvs vs) (k : κ) {y : V} {u : Value} (ry : RelV y u) :
    KV (kvs.map fun kv => if kv.1 = k then (kv.1, y) else kv) (vs.map fun kv => if kv.1 = k then (kv.1, u) else kv) := by
  unfold KV at r ⊢
  induction r with
  | nil => exact .nil
  | @cons p q ps qs h t ih =>
    rw [List.map_cons, List.map_cons]
    refine .cons ?_ ih
    obtain ⟨h1, h2⟩ := h
    by_cases e : p.1 = k
    · rw [if_pos e, if_pos (h1.symm.trans e)]; exact ⟨h1, ry⟩
    · rw [if_neg e, if_neg (fun z => e (h1.trans z))]; exact ⟨h1, h2⟩
theorem KV.put {kvs : List (κ × V)} {vs : List (κ × Value)} (r : KV kvs vs) (k : κ) {y : V} {u : Value} (ry : RelV y u) : KV (putK kvs k y) (stored vs k u) := by
  unfold putK stored
  rw [r.any k]
  by_cases e : (vs.any fun kv => decide (kv.1 = k)) = true
  · rw [if_pos e, if_pos e]; exact r.repl k ry
  · rw [if_neg e, if_neg e]; exact Paired.snoc r ⟨rfl, ry⟩
theorem KV.length {kvs : List (κ × V)} {vs : List (κ × Value)} (r : KV kvs vs) : kvs.length = vs.length := Paired.length r
end
theorem kV_is {P : Program} {w : World} {k : Key} {u : Value} (r : RelV (kV k) u) : (mixKind P w).is k u = true := by
  cases k with
  | inl i => obtain ⟨t, e⟩ := (show ∃ t, u = Value.int i t from r); subst e; exact mixKind_int P w i t
  | inr x => obtain ⟨t, e⟩ := (show ∃ t, u = Value.str x t from r); subst e; exact mixKind_str P w x t
theorem items_are {P : Program} {w : World} : ∀ {ks : List Key} {us : List Value}, Vals (ks.map kV) us → ItemsAre (mixKind P w) ks us
  | [], _, r => by rw [List.map_nil] at r; cases r; exact .nil
  | k :: ks, _, r => by
    rw [List.map_cons] at r
    cases r with
    | cons h t => exact .cons (kV_is h) (items_are t)
abbrev KT (H : Hp) : List (List Key × V) → List (List Key × Addr × Value) → Prop := Paired fun p q => p.1 = q.1 ∧ H q.2.1 = some (.tup (p.1.map kV)) ∧ RelV p.2 q.2.2
theorem KT.val {H : Hp} {kvs : List (List Key × V)} {xs : List (List Key × Addr × Value)} (r : KT H kvs xs) (k : List Key) : RelO (valV kvs k) ((atKey xs k).map (·.2)) := by
  induction r with
  | nil => exact True.intro
  | @cons p q ps qs h t ih =>
    obtain ⟨h1, _, h2⟩ := h
    by_cases e : p.1 = k
    · have e' : q.1 = k := h1.symm.trans e
      have b : atKey (q :: qs) k = some q.2 := by simp [atKey, List.find?_cons, e']
      rw [valV_pos e, b]; exact h2
    · have e' : ¬ q.1 = k := fun z => e (h1.trans z)
      have b : atKey (q :: qs) k = atKey qs k := by simp [atKey, List.find?_cons, e']
      rw [valV_neg e, b]; exact ih
theorem KT.repl {H : Hp} {kvs : List (List Key × V)} {xs : List (List Key × Addr × Value)} (r : KT H kvs xs) (k : List Key) {y : V} {u : Value} (ry : RelV y u) :
    KT H (kvs.map fun kv => if kv.1 = k then (kv.1, y) else kv) (xs.map (putAt k u)) := by
  induction r with
  | nil => exact .nil
  | @cons p q ps qs h t ih =>
    rw [List.map_cons, List.map_cons]
    refine .cons ?_ ih
    obtain ⟨h1, h2, h3⟩ := h
    unfold putAt
    by_cases e : p.1 = k
    · rw [if_pos e, if_pos (h1.symm.trans e)]; exact ⟨h1, h2, ry⟩
    · rw [if_neg e, if_neg (fun z => e (h1.trans z))]; exact ⟨h1, h2, h3⟩
theorem KT.put {H : Hp} {kvs : List (List Key × V)} {xs : List (List Key × Addr × Value)} (r : KT H kvs xs) (k : List Key) {b : Addr} {y : V} {u : Value} (hb : H b = some (.tup (k.map kV))) (ry : RelV y u) :
    KT H (putK kvs k y) (storedH xs k b u) := by
  have e : (kvs.any fun kv => decide (kv.1 = k)) = (atKey xs k).isSome := by
    rw [valV_any, (r.val k).isSome_eq, Option.isSome_map]
  unfold putK storedH
  rw [e]
  by_cases q : (atKey xs k).isSome = true
  · rw [if_pos q, if_pos q]; exact r.repl k ry
  · rw [if_neg q, if_neg q]; exact Paired.snoc r ⟨rfl, hb, ry⟩
theorem KT.keeps {H H' : Hp} {kvs : List (List Key × V)} {xs : List (List Key × Addr × Value)} (r : KT H kvs xs) (ht : ∀ b ys, H b = some (.tup ys) → H' b = some (.tup ys)) : KT H' kvs xs :=
  Paired.mapP r fun _ _ z => ⟨z.1, ht _ _ z.2.1, z.2.2⟩
section
variable {P : Program} {w : World} {H : Hp} {h : Heap} {a : Addr}
theorem rd_of {u : HO} (ok : HOk P w H h) (e : Rd H a u) : ObjOk P w H h a u := e.ok ok
theorem dk_rd {kvs : List (Key × V)} (ok : HOk P w H h) (e : Rd H a (.dK kvs)) : kvs.length ≤ sizeLine ∧ (a == sysModules) = false ∧ ∃ vs, KV kvs vs ∧ h.DictOf (mixKind P w) a vs :=
  show ObjOk P w H h a (.dK kvs) from rd_of ok e
theorem dk_of {kvs : List (Key × V)} (ok : HOk P w H h) (e : H a = some (.dK kvs)) : kvs.length ≤ sizeLine ∧ (a == sysModules) = false ∧ ∃ vs, KV kvs vs ∧ h.DictOf (mixKind P w) a vs := dk_rd ok (.inl e)
theorem key_of {ks : List Key} (ok : HOk P w H h) (e : H a = some (.tup (ks.map kV))) : (tupleKind (mixKind P w)).is h ks a := by
  obtain ⟨_, its, r, o, h1, h2, n, h3⟩ := (show ObjOk P w H h a (.tup (ks.map kV)) from ok a _ e)
  exact ⟨o, its.toArray, n, h1, h2, h3, by simpa using items_are r⟩
theorem dt_rd {kvs : List (List Key × V)} (ok : HOk P w H h) (e : Rd H a (.dT kvs)) : kvs.length ≤ sizeLine ∧ (a == sysModules) = false ∧
    ∃ xs, KT H kvs xs ∧ h.DictOfH (tupleKind (mixKind P w)) a xs := by
  obtain ⟨z, y, xs, r, o, es, ep, h1, h2, h3, h4, h5⟩ := (show ObjOk P w H h a (.dT kvs) from rd_of ok e)
  refine ⟨z, y, xs, r, o, es, ep, h1, h2, h3, h4, fun x hx => ?_, h5⟩
  have all : ∀ {l : List (List Key × V)} {m : List (List Key × Addr × Value)}, KT H l m → ∀ x ∈ m, (tupleKind (mixKind P w)).is h x.1 x.2.1 := by
    intro l m q
    induction q with
    | nil => intro x hx; exact nomatch hx
    | @cons p q ps qs hq t ih =>
      intro x hx
      rcases List.mem_cons.mp hx with e | hx
      · subst e
        exact key_of ok (by rw [← hq.1]; exact hq.2.1)
      · exact ih x hx
  exact all r x hx
theorem dt_of {kvs : List (List Key × V)} (ok : HOk P w H h) (e : H a = some (.dT kvs)) : kvs.length ≤ sizeLine ∧ (a == sysModules) = false ∧
    ∃ xs, KT H kvs xs ∧ h.DictOfH (tupleKind (mixKind P w)) a xs := dt_rd ok (.inl e)
end
def DPut (H : Hp) (a : Addr) (y v : V) (H' : Hp) : Prop :=
  (∃ kvs k, H a = some (.dK kvs) ∧ y = kV k ∧ kvs.length < sizeLine ∧ H' = upd H a (.dK (putK kvs k v))) ∨
  ∃ kvs k b, H a = some (.dT kvs) ∧ y = .ref b ∧ H b = some (.tup (k.map kV)) ∧ kvs.length < sizeLine ∧ H' = upd H a (.dT (putK kvs k v))
theorem DPut.k {H : Hp} {a : Addr} {kvs : List (Key × V)} {k : Key} {v : V} (e : H a = some (.dK kvs)) (hl : kvs.length < sizeLine) : DPut H a (kV k) v (upd H a (.dK (putK kvs k v))) := .inl ⟨kvs, k, e, rfl, hl, rfl⟩
section
variable {X : Cx} {pins : List (Addr × Obj)} {σ : St} {H : Hp} {s : Shared} {a : Addr} {y v : V} {u r : Value} {o : Option V} {A : Around} {E : Value → Shared → Prop}
theorem Inv.big (I : Inv X pins σ H s) : sysModules < s.heap.objs.size := by
  have h : mainGlobals < s.heap.objs.size := (I.mod.glob.keeps I.bk).lt
  exact Nat.lt_trans (by decide) h
theorem d_write {h' : Heap} {t' : Nat} {ob : HO} (I : Inv X pins σ H s) (mu : Mut (H a)) (hs : Heap.SameBut a s.heap h') (he : ∃ q, h'.get? a = some q) (new : ObjOk X.prog X.w (upd H a ob) h' a ob) :
    Inv X pins σ (upd H a ob) { s with heap := h', toks := t' } :=
  I.write (x := a) (e := a) mu (.inl rfl) (fun b q hb z => (hs.2 b hb).trans z) he new
theorem dk_new {P : Program} {w : World} {H' : Hp} {h' : Heap} {kvs : List (Key × V)} {vs : List (Key × Value)} (z : kvs.length ≤ sizeLine) (hd : (a == sysModules) = false) (rel : KV kvs vs) (dd : h'.DictOf (mixKind P w) a vs) :
    ObjOk P w H' h' a (.dK kvs) := ⟨z, hd, vs, rel, dd⟩
theorem d_setItem {H' : Hp} {Q : Unit → Shared → Prop} (hu : A.units + 1 < cLine) (I : Inv X pins σ H s) (g : DPut H a y v H') (ry : RelV y u) (rv : RelV v r) (h : ∀ s', Inv X pins σ H' s' → Q () s') :
    wpAny (model X.prog X.w) A (setItem (.ref a) u r) Q E s := by
  rcases g with ⟨kvs, k, e, ey, l, eH⟩ | ⟨kvs, k, b, e, ey, eb, l, eH⟩
  · subst ey eH
    obtain ⟨z, hd, vs, rel, dd⟩ := dk_of I.hok e
    have hz : vs.length ≤ sizeLine := by rw [← rel.length]; exact z
    have hl : (putK kvs k v).length ≤ sizeLine := by have := length_putK kvs k v; omega
    refine wpAny_setItem_pairs (hsz := hz) (kV_is ry) dd fun h' dd' hs => h _ ?_
    have he : ∃ q, h'.get? a = some q := let ⟨q, _, _, hq, _⟩ := dd'; ⟨q, hq⟩
    exact d_write I (by rw [e]; exact True.intro) hs he (dk_new hl hd (rel.put k rv) dd')
  · subst ey eH
    cases (show u = Value.ref b from ry)
    obtain ⟨z, hd, xs, rel, dd⟩ := dt_of I.hok e
    have hz : xs.length ≤ sizeLine := by rw [← Paired.length rel]; exact z
    have hl : (putK kvs k v).length ≤ sizeLine := by have := length_putK kvs k v; omega
    refine wpAny_setItem_heap (hsz := hz) (tupleKind_room_in1 hu) (key_of I.hok eb) dd fun h' dd' hs => h _ ?_
    obtain ⟨q, es, ep, hq, h2, h3, h4, _, h5⟩ := dd'
    refine d_write I (by rw [e]; exact True.intro) hs ⟨q, hq⟩ ⟨hl, hd, _, (rel.put k eb rv).keeps fun c ys ec => ?_, q, es, ep, hq, h2, h3, h4, h5⟩
    rw [upd_ne (ne_of ec e (fun z => nomatch z))]
    exact ec
end
section
variable {X : Cx} {pins : List (Addr × Obj)} {σ : St} {H : Hp} {s : Shared} {a : Addr} {kvs : List (Key × V)} {k : Key} {u : Value} {A : Around} {E : Value → Shared → Prop}
end
def sDPut (td ty tv : TE) : TS := fun D σ H => tv σ H fun v H1 => td σ H1 fun x H2 => ty σ H2 fun y H3 => ∃ a H4, x = .ref a ∧ DPut H3 a y v H4 ∧ D.nx σ H4
section
variable {X : Cx} {o i e value : Expr} {pos pos' tpos : Pos} {td ty tv : TE}
theorem ps_dput (hu : X.A.units + 1 < cLine) (ho : PE X o td) (hi : PE X i ty) (hv : PE X value tv) (hs : swapsWith value (some (.Subscript o i pos')) pos.line X.env = pure false) :
    PS X (.Assign [.Subscript o i pos'] value pos) (sDPut td ty tv) := by
  intro pins s σ H D I h
  refine wpAny_Assign_Subscript (thn (hv pins s σ H _ I h) fun r s1 ⟨v, H1, I1, rv, q1⟩ => thn (ho pins s1 σ H1 _ I1 q1) fun u s2 ⟨x, H2, I2, rx, q2⟩ => thn (hi pins s2 σ H2 _ I2 q2) fun iv s3 ⟨y, H3, I3, ry, a, H4, ex, g, q3⟩ => ?_) hs
  subst ex
  obtain rfl : u = Value.ref a := rx
  exact d_setItem hu I3 g ry rv fun s4 I4 => ⟨σ, H4, I4, q3⟩
end
theorem dk_empty {P : Program} {w : World} {H : Hp} (h : Heap) (hb : sysModules < h.objs.size) : ObjOk P w H (h.push { cls := .type "dict", data := .dict #[] }) h.objs.size (.dK []) :=
  ⟨Nat.zero_le _, beq_eq_false_iff_ne.mpr (Ne.symm (Nat.ne_of_lt hb)), [], .nil, Heap.DictOf.new h⟩
def tDNewK : TE := fun _ H Q => ∀ p, H p = none → Q (.ref p) (upd H p (.dK []))
section
variable {X : Cx} {pos : Pos}
theorem pe_dnewK : PE X (.Dict [] [] pos) tDNewK := fun pins s σ H Q I h =>
  wpAny_Dict_empty ⟨.ref s.heap.objs.size, _, I.laid (a := s.heap.objs.size) (o := .dK []) (t' := s.toks) (fun _ _ q => Heap.get?_push_of_some _ q) (Nat.le_refl _) (dk_empty s.heap I.big), rfl, h _ (I.hok.fresh (Nat.le_refl _))⟩
end
section
variable {X : Cx} {pins : List (Addr × Obj)} {σ : St} {H : Hp} {s : Shared} {a : Addr} {y d : V} {u r : Value} {o : Option V} {A : Around} {E : Value → Shared → Prop}
end
section
variable {X : Cx} {o e f : Expr} {apos cpos : Pos} {td ty tx : TE}
end
section
variable {X : Cx} {pins : List (Addr × Obj)} {σ : St} {H : Hp} {s : Shared} {a : Addr} {kvs : List (Key × V)} {A : Around} {E : Value → Shared → Prop}
end
section
variable {X : Cx} {pins : List (Addr × Obj)} {σ : St} {H : Hp} {s : Shared} {a : Addr} {y : V} {u : Value} {A : Around} {E : Value → Shared → Prop}
end
end L2
namespace L2
open PySem PySem.Spec PyProof.Rows
section
variable {prog : Program} {w : World} {A : Around} {E : Value → Shared → Prop}
end
section
variable {X : Cx}
end
end L2
namespace L2
open PySem PySem.Spec PyProof.Rows
section
variable {X : Cx} {pins : List (Addr × Obj)} {σ : St} {H : Hp} {s : Shared} {h' : Heap}
theorem Inv.turnedL {t' : Nat} {ch : List Addr} (I : Inv X pins σ H s) (k : ∀ b o, b ∉ ch → s.heap.get? b = some o → h'.get? b = some o) (hf : ∀ b ∈ ch, FpOk X pins H b) : Inv X pins σ H { s with heap := h', toks := t' } := by
  have nit : ∀ b u, H b = some u → b ∉ ch := fun b u e z => by
    have q := (hf b z).1
    rw [q] at e; cases e
  refine I.step (g' := s.gens) (d' := s.drawn) (ch := ch) (fun b hb => ⟨(hf b hb).2.2.2.1, (hf b hb).2.1, (hf b hb).2.2.2.2.1, (hf b hb).2.2.2.2.2⟩) (fun b o _ _ hc e _ => k b o hc e) (fun b o _ _ hc e _ => ⟨o.slots, k b o hc e⟩)
    (fun _ _ _ _ n => n) (fun b o hc e => ⟨o, k b o hc e⟩) (fun _ _ e => e) (fun _ _ _ e => e) (fun b ps e => ⟨#[], by rw [e]; simp⟩) (fun m hm => ?_) (fun b u e => ?_) I.bare
  · obtain ⟨o, es, ep, ho, r⟩ := hm
    exact ⟨o, es, ep, k _ o (fun z => (hf _ z).2.1 rfl) ho, r⟩
  · refine (I.hok b u e).stay (fun c v hc q => k c v ?_ q) (fun _ q => q) fun _ _ q => q
    rcases hc with z | z
    · rw [z]; exact nit b u e
    · exact nit c _ z
theorem Inv.turnedNew {t' : Nat} {ch : List Addr} {T : Addr} {ob : HO} (I : Inv X pins σ H s) (k : ∀ b o, b ∉ ch → s.heap.get? b = some o → h'.get? b = some o) (hf : ∀ b ∈ ch, FpOk X pins H b) (hT : s.heap.objs.size ≤ T)
    (new : ObjOk X.prog X.w (upd H T ob) h' T ob) : Inv X pins σ (upd H T ob) { s with heap := h', toks := t' } := by
  have hn : H T = none := I.hok.fresh hT
  have nit : ∀ b u, H b = some u → b ∉ ch := fun b u e z => by
    have q := (hf b z).1
    rw [q] at e; cases e
  refine I.step (g' := s.gens) (d' := s.drawn) (ch := ch) (fun b hb => ⟨(hf b hb).2.2.2.1, (hf b hb).2.1, (hf b hb).2.2.2.2.1, (hf b hb).2.2.2.2.2⟩) (fun b o _ _ hc e _ => k b o hc e) (fun b o _ _ hc e _ => ⟨o.slots, k b o hc e⟩)
    (fun b o _ e n => ?_) (fun b o hc e => ⟨o, k b o hc e⟩) (fun b xs e => ?_) (fun b o u e => ?_) (fun b ps e => ⟨#[], ?_⟩) (fun m hm => ?_) (fun b u e => ?_) I.bare
  · rw [upd_ne (Nat.ne_of_lt (Nat.lt_of_lt_of_le (Heap.lt_size e) hT))]; exact n
  · rw [upd_ne (ne_of_none e hn)]; exact e
  · rw [upd_ne (ne_of_none e hn)]; exact e
  · rw [upd_ne (ne_of_none e hn), e]; simp
  · obtain ⟨o, es, ep, ho, r⟩ := hm
    exact ⟨o, es, ep, k _ o (fun z => (hf _ z).2.1 rfl) ho, r⟩
  · by_cases hb : b = T
    · subst hb
      rw [upd_same] at e
      cases e
      exact new
    · rw [upd_ne hb] at e
      refine (I.hok b u e).stay (fun c v hc q => k c v ?_ q) (fun c q => by rw [upd_ne (ne_of_none q hn)]; exact q) fun c xs q => by rw [upd_ne (ne_of_none q hn)]; exact q
      rcases hc with z | z
      · rw [z]; exact nit b u e
      · exact nit c _ z
theorem Inv.lock {d : Addr} {u : HO} (I : Inv X pins σ H s) (h : H d = some u) (mu : Mut (some u)) : ∃ od, Inv X pins σ (upd H d (.frz od u)) s := by
  have x := I.hok d u h
  have ex : ∃ od, s.heap.get? d = some od := by
    cases u with
    | lst xs => obtain ⟨_, _, _, _, e⟩ := x; exact ⟨_, e⟩
    | dK kvs => obtain ⟨_, _, _, _, o, _, _, e, _⟩ := x; exact ⟨o, e⟩
    | dT kvs => obtain ⟨_, _, _, _, o, _, _, e, _⟩ := x; exact ⟨o, e⟩
    | set S n => obtain ⟨o, _, _, _, e, _⟩ := x; exact ⟨o, e⟩
    | ins C dx fs => obtain ⟨_, _, _, e, _⟩ := x; exact ⟨_, e⟩
    | ext φ => obtain ⟨_, ⟨_, e⟩, _⟩ := x; exact ⟨_, e⟩
    | _ => exact False.elim mu
  obtain ⟨od, e⟩ := ex
  have new : ObjOk X.prog X.w (upd H d (.frz od u)) s.heap d (.frz od u) := by
    refine ⟨e, x.stay (fun b v _ q => q) (fun b q => ?_) fun b xs q => ?_⟩
    · rw [upd_ne (fun z => by rw [z, h] at q; cases q; exact mu)]; exact q
    · rw [upd_ne (fun z => by rw [z, h] at q; cases q; exact mu)]; exact q
  exact ⟨od, I.write (x := d) (e := d) (t' := s.toks) (h' := s.heap) (by rw [h]; exact mu) (.inl rfl) (fun b v _ q => q) ⟨od, e⟩ new⟩
theorem Inv.nofrz {d : Addr} {u : HO} (I : Inv X pins σ H s) (h : H d = some u) (mu : Mut (some u)) : ∀ o' u', X.H_0 d ≠ some (.frz o' u') := fun o' u' e => by
  have q := I.base.frzs d o' u' e
  rw [h] at q
  cases q
  exact mu
theorem Inv.unlock {d : Addr} {od : Obj} {u : HO} (I : Inv X pins σ H s) (h : H d = some (.frz od u)) (hn : ∀ o' u', X.H_0 d ≠ some (.frz o' u')) : Inv X pins σ (upd H d u) s := by
  have neH : ∀ b o, H b = some o → (∀ o' u', o ≠ .frz o' u') → b ≠ d := fun b o e hne z => by
    rw [z, h] at e
    cases e
    exact hne _ _ rfl
  have neN : ∀ b, H b = none → b ≠ d := fun b e z => by rw [z, h] at e; cases e
  refine ⟨I.ok, I.os, I.bare, ⟨I.base.keep, I.base.slot, fun b o e n hx => ?_, I.base.there, fun b xs e => ?_, fun b o x e => ?_, fun b ps e => ?_⟩, I.loc, I.cell, ?_, fun x c e => ?_, fun p hp => ?_, fun b o e => ?_, I.len⟩
  · rw [upd_ne (neN b (I.base.free b o e n hx))]; exact I.base.free b o e n hx
  · have q := I.base.tups b xs e
    rw [upd_ne (neH b _ q (fun _ _ z => nomatch z))]; exact q
  · have q := I.base.frzs b o x e
    rw [upd_ne (fun z => by rw [z] at e; exact hn _ _ e)]; exact q
  · obtain ⟨m, q⟩ := I.base.tbls b ps e
    exact ⟨m, by rw [upd_ne (neH b _ q (fun _ _ z => nomatch z))]; exact q⟩
  · rw [upd_ne (neN _ I.free)]; exact I.free
  · rw [upd_ne (neN c (I.freeC x c e))]; exact I.freeC x c e
  · obtain ⟨e, n, r⟩ := I.pin p hp
    exact ⟨e, by rw [upd_ne (neN _ n)]; exact n, r⟩
  · by_cases hb : b = d
    · rw [hb, upd_same] at e
      cases e
      rw [hb]
      obtain ⟨_, x⟩ := I.hok d _ h
      exact x.stay (fun c v _ q => q) (fun c q => by rw [upd_ne (neH c _ q (fun _ _ z => nomatch z))]; exact q) fun c xs q => by rw [upd_ne (neH c _ q (fun _ _ z => nomatch z))]; exact q
    · rw [upd_ne hb] at e
      exact (I.hok b o e).stay (fun c v _ q => q) (fun c q => by rw [upd_ne (neH c _ q (fun _ _ z => nomatch z))]; exact q) fun c xs q => by rw [upd_ne (neH c _ q (fun _ _ z => nomatch z))]; exact q
end
def tLock (t : TS) : TS := fun D σ H => ∃ d u, H d = some u ∧ Mut (some u) ∧ ∀ od, t ⟨fun σ' H' => H' d = some (.frz od u) ∧ D.nx σ' (upd H' d u), fun v H' => H' d = some (.frz od u) ∧ D.rt v (upd H' d u), fun σ' H' => H' d = some (.frz od u) ∧ D.bk σ' (upd H' d u), fun σ' H' => H' d = some (.frz od u) ∧ D.ct σ' (upd H' d u)⟩ σ (upd H d (.frz od u))
section
variable {X : Cx}
theorem ps_lock {st : Stmt} {t : TS} (h : PS X st t) : PS X st (tLock t) := by
  intro pins s σ H D I hw
  obtain ⟨d, u, hd, mu, hw⟩ := hw
  obtain ⟨od, I1⟩ := I.lock hd mu
  refine thn (h pins s σ _ _ I1 (hw od)) fun f s1 q => ?_
  cases f with
  | next => obtain ⟨σ', H', I2, e, q⟩ := q; exact ⟨σ', _, I2.unlock e (I.nofrz hd mu), q⟩
  | brk => obtain ⟨σ', H', I2, e, q⟩ := q; exact ⟨σ', _, I2.unlock e (I.nofrz hd mu), q⟩
  | cont => obtain ⟨σ', H', I2, e, q⟩ := q; exact ⟨σ', _, I2.unlock e (I.nofrz hd mu), q⟩
  | ret v => obtain ⟨x, σ', H', I2, r, e, q⟩ := q; exact ⟨x, σ', _, I2.unlock e (I.nofrz hd mu), r, q⟩
theorem pi_one {tg : Expr} {pins : List (Addr × Obj)} {σ : St} {H : Hp} {s : Shared} {R : It → Hp → Prop} {J : It} {tn : Nat → Heap → Prop} {tk : Nat} (I : Inv X pins σ H s) (o : Obj)
    (T : Turn X.prog X.w X.K tg J [s.heap.objs.size] s.heap.objs.size tn) (st : tn 0 (s.heap.push o)) (q : R J H) : PIE X pins σ tg R (.ref s.heap.objs.size) { s with heap := s.heap.push o, toks := tk } := by
  refine ⟨s.heap.objs.size, [s.heap.objs.size], tn, J, H, rfl, I.kept fun b ob e => Heap.get?_push_of_some _ e, T, st, fun b hb => ?_, q⟩
  have e : b = s.heap.objs.size := by simpa using hb
  subst e
  exact I.fpOk (Nat.le_refl _) (I.hok.fresh (Nat.le_refl _))
end
section
variable {X : Cx} {tg : Expr}
end
section
variable {X : Cx} {tg : Expr}
end
section
variable {prog : Program} {w : World} {A : Around} {E : Value → Shared → Prop} {s : Shared}
end
theorem kv_get {κ : Type} {kvs : List (κ × V)} {vs : List (κ × Value)} (h : KV kvs vs) : ∀ {i : Nat} {k : κ} {v : V}, kvs[i]? = some (k, v) → ∃ u, vs[i]? = some (k, u) ∧ RelV v u := by
  unfold KV at h
  induction h with
  | nil => intro i k v e; simp at e
  | @cons a b l₁ l₂ r t ih =>
    intro i k v e
    cases i with
    | zero =>
      simp only [List.getElem?_cons_zero, Option.some.injEq] at e
      subst e
      refine ⟨b.2, ?_, r.2⟩
      simp only [List.getElem?_cons_zero]
      exact congrArg some (Prod.ext r.1.symm rfl)
    | succ j =>
      simp only [List.getElem?_cons_succ] at e ⊢
      exact ih e
theorem relV_key {k : Key} {u : Value} (h : keyIs k u = true) : RelV (kV k) u := by
  rcases keyIs_shape h with ⟨i, t, rfl, rfl⟩ | ⟨x, t, rfl, rfl⟩
  · exact ⟨t, rfl⟩
  · exact ⟨t, rfl⟩
section
variable {X : Cx} {pins : List (Addr × Obj)} {σ : St} {H : Hp} {s : Shared} {d : Addr} {o : Obj}
theorem Inv.frzK {kvs : List (Key × V)} (I : Inv X pins σ H s) (h : H d = some (.frz o (.dK kvs))) :
    (d == sysModules) = false ∧ s.heap.get? d = some o ∧ o.ExactDict ∧ ∃ (es : Array DictEntry) (ep : Nat) (vs : List (Key × Value)), o.data = .dict es ep ∧ es.size = kvs.length ∧ KV kvs vs ∧ s.heap.DictAt (mixKind X.prog X.w) d vs ep := by
  obtain ⟨hd, z, hs, vs, kv, o', es, ep, ho, hx, hdt, r⟩ := I.hok d _ h
  rw [hd] at ho
  cases ho
  refine ⟨hs, hd, hx, es, ep, vs, hdt, ?_, kv, o, es, hd, hx, hdt, r⟩
  have l1 := r.2.1.length
  have l2 : kvs.length = vs.length := Paired.length kv
  rw [Array.length_toList] at l1
  omega
end
def Iti (d : Addr) (o : Obj) (kvs : List (Key × V)) : It :=
  ⟨fun i H => H d = some (.frz o (.dK kvs)) ∧ i < kvs.length, fun i H x H' => ∃ T k v, kvs[i]? = some (k, v) ∧ x = .ref T ∧ H T = none ∧ H' = upd H T (.tup [kV k, v]), fun i H => H d = some (.frz o (.dK kvs)) ∧ kvs.length ≤ i⟩
theorem dict_ep {o : Obj} {es es' : Array DictEntry} {ep ep' : Nat} (h : o.data = .dict es ep) (h' : o.data = .dict es' ep') : es' = es ∧ ep' = ep := by
  rw [h] at h'
  cases h'
  exact ⟨rfl, rfl⟩
section
variable {P : Program} {w : World} {K : PySem.W.Frag} {tg : Expr} {d : Addr} {o : Obj} {es : Array DictEntry} {ep : Nat}
theorem turn_items {kvs : List (Key × V)} {elts : List Expr} {kk : Nat} {tpos : Pos} (it : Addr) (hod : o.data = .dict es ep) :
    Turn P w K (.Tuple elts kk tpos) (Iti d o kvs) [it] it (fun i h => ∃ ok ov, IsItemIter h it d i kvs.length ep ok ov) where
  mem := by simp
  obj := fun i h st b hb => by
    have e : b = it := by simpa using hb
    subst e
    obtain ⟨ok, ov, e⟩ := st
    exact ⟨_, e, fun v z => nomatch z⟩
  keep := fun i h h' st k => let ⟨ok, ov, e⟩ := st; ⟨ok, ov, k it (by simp) _ e⟩
  item := by
    intro X hP hw hK hc i pins s σ H E I hf st hg
    subst hP hw hK
    obtain ⟨hd, hi⟩ := hg
    obtain ⟨hs, hgd, hx, es', ep', vs, hdt, hsz, kv, hm⟩ := I.frzK hd
    obtain ⟨rfl, rfl⟩ := dict_ep hod hdt
    obtain ⟨⟨k, v⟩, hkv⟩ : ∃ p, kvs[i]? = some p := ⟨kvs[i], List.getElem?_eq_getElem hi⟩
    obtain ⟨u, hu, ru⟩ := kv_get kv hkv
    have hl : kvs.length = vs.length := Paired.length kv
    obtain ⟨ok, ov, he⟩ := st
    rw [hl] at he
    have hlt : it < s.heap.objs.size := Heap.lt_size he
    refine wpAny_pyNext_items_item he hm hu fun key h' hkey ho hT hz hk => ?_
    refine ⟨_, rfl, wpAny_letOwnedTupleGo_items (s := { s with heap := h' }) ho fun h'' he' sb => ?_⟩
    have hT2 : h''.get? s.heap.objs.size = some { cls := .type "tuple", data := .seq #[key, u] } := (sb.2 _ (Nat.ne_of_gt hlt)).trans hT
    have new : ObjOk X.prog X.w (upd H s.heap.objs.size (.tup [kV k, v])) h'' s.heap.objs.size (.tup [kV k, v]) :=
      ⟨by show 2 ≤ sizeLine; decide, [key, u], .cons (relV_key (show keyIs k key = true from hkey)) (.cons ru .nil), ⟨_, hT2, rfl, _, rfl⟩⟩
    have I1 : Inv X pins σ (upd H s.heap.objs.size (.tup [kV k, v])) { s with heap := h'' } :=
      I.turnedNew (t' := s.toks) (ch := [it]) (fun b ob hb e => (sb.2 b (by simpa using hb)).trans (hk b ob (by simpa using hb) e)) hf (Nat.le_refl _) new
    refine ⟨.ref s.heap.objs.size, _, I1, rfl, ⟨_, k, v, hkv, rfl, I.hok.fresh (Nat.le_refl _), rfl⟩, ⟨key, u, ?_⟩, fun b hb => ?_⟩
    · rw [hl]; exact he'
    · have e : b = it := by simpa using hb
      rw [e, upd_ne (Nat.ne_of_lt hlt)]
      exact (hf it (by simp)).1
  done := by
    intro X hP hw hK hc i pins s σ H E I hf st hg
    subst hP hw hK
    obtain ⟨hd, hi⟩ := hg
    obtain ⟨f0, f1, f2, f3, f4, f5⟩ := hf it (by simp)
    obtain ⟨hs, hgd, hx, es', ep', vs, hdt, hsz, kv, hm⟩ := I.frzK hd
    obtain ⟨rfl, rfl⟩ := dict_ep hod hdt
    have hl : kvs.length = vs.length := Paired.length kv
    obtain ⟨ok, ov, he⟩ := st
    rw [hl] at he
    exact wpAny_pyNext_items_end (I.ok.hd hc) he hm (List.getElem?_eq_none (by omega)) fun h' eb => ⟨rfl, I.turned (t' := s.toks) (fun b ob hb e => eb b ob hb e) f0 f1 f3 f4 f5⟩
  self := fun A i s Q E st h => let ⟨_, _, e⟩ := st; PySem.W.kcp_self e h
end
def iItems (td : TE) : TI := fun σ H R => td σ H fun x H1 => ∃ d o kvs, x = .ref d ∧ H1 d = some (.frz o (.dK kvs)) ∧ R (Iti d o kvs) H1
section
variable {X : Cx} {tg e : Expr} {td : TE} {apos cpos : Pos}
theorem pi_items {elts : List Expr} {kk : Nat} {tpos : Pos} (he : PE X e td) (hbase : attributeBase e "items" X.env (eval e X.env) = eval e X.env := by rfl) (hline : (apos.endLine == cpos.line) = true := by rfl) :
    PI X (.Tuple elts kk tpos) (.Call (.Attribute e "items" apos) [] [] cpos) (iItems td) := by
  intro pins s σ H R I h
  refine wpAny_Call_method (T := "dict") (id := "dict.items") hbase rfl hline F.plainAttrs_dict F.slot_dict_items F.type_dict_items (thn (he pins s σ H _ I h) fun u s1 ⟨x, H1, I1, rx, d, o, kvs, ex, hd, q⟩ => ?_)
  subst ex
  obtain rfl : u = Value.ref d := rx
  obtain ⟨hs, hgd, hx, es, ep, vs, hdt, hsz, kv, hm⟩ := I1.frzK hd
  have hl : kvs.length = vs.length := Paired.length kv
  refine ⟨hm.dictOf.typeIs, hm.dictOf.mapOf.noDict, ?_⟩
  have I2 : Inv X pins σ H1 { s1 with heap := s1.heap.push { cls := .type "dict_items", data := .fields #[.ref d] } } := I1.kept (t' := s1.toks) fun b ob q => Heap.get?_push_of_some _ q
  have fin : wpAny (model X.prog X.w) X.A (pyIter (.ref s1.heap.objs.size)) (PIE X pins σ (.Tuple elts kk tpos) R) X.xe { s1 with heap := s1.heap.push { cls := .type "dict_items", data := .fields #[.ref d] } } := by
    refine wpAny_pyIter_items (d := d) (knd := mixKind X.prog X.w) ⟨_, Heap.get?_push_size _ rfl, rfl, rfl⟩ (hm.push _) (pi_one (tk := s1.toks) I2 _ (turn_items _ hdt) ⟨.none, .none, ?_⟩ q)
    rw [hl]
    exact Heap.get?_push_size _ rfl
  show wpAny _ _ (callWith cpos (.builtin "dict.items") [.ref d] [] []) _ X.xe s1
  exact method_meetsIn F.slot_dict_items F.entry_dict_items rfl (PySem.evalArgs_none ⟨rfl, hm.dictOf.typeIs, F.args_dict_items_1 _, _, meets_dict_items (mixKind X.prog X.w) d hs, ⟨vs, hm.dictOf⟩, fin⟩)
end
def Ite (K : PySem.W.Frag) (a : Addr) : It :=
  ⟨fun i H => ∃ (xs : List V) (x : V), SqL K H a xs ∧ xs[i]? = some x, fun i H v H' => ∃ T x, v = .ref T ∧ H T = none ∧ H' = upd H T (.tup [.int (i : Nat), x]) ∧ ∀ xs, SqL K H a xs → xs[i]? = some x, fun i H => ∃ xs : List V, SqL K H a xs ∧ xs.length ≤ i⟩
theorem turn_enum {P : Program} {w : World} {K : PySem.W.Frag} {elts : List Expr} {kk : Nat} {tpos : Pos} (a e it : Addr) :
    Turn P w K (.Tuple elts kk tpos) (Ite K a) [e, it] e (fun i h => (∃ old, IsEnum h e it ((i : Nat) : Int) old) ∧ h.IsListIter it a i ∧ e ≠ it) where
  mem := by simp
  obj := fun i h st b hb => by
    obtain ⟨⟨old, he⟩, ⟨o, ho, hc, hd⟩, _⟩ := st
    have e' : b = e ∨ b = it := by simpa using hb
    rcases e' with z | z
    · rw [z]; exact ⟨_, he, fun v q => nomatch q⟩
    · rw [z]; exact ⟨o, ho, fun v q => by rw [hd] at q; cases q⟩
  keep := fun i h h' st k => let ⟨⟨old, he⟩, hi, hne⟩ := st; ⟨⟨old, k e (by simp) _ he⟩, hi.at fun o q => k it (by simp) o q, hne⟩
  item := by
    intro X hP hw hK hc i pins s σ H E I hf st hg
    subst hP hw hK
    obtain ⟨⟨old, he⟩, hit, hne⟩ := st
    obtain ⟨xs, x, hq, hx⟩ := hg
    obtain ⟨its, rv, p, hz⟩ := I.list hq
    obtain ⟨u, hu, ru⟩ := rv.get hx
    have hel : e < s.heap.objs.size := Heap.lt_size he
    have hil : it < s.heap.objs.size := by obtain ⟨_, q, _⟩ := hit; exact Heap.lt_size q
    refine wpAny_pyNext_enum_item he hit p.isList (x := u) (by simpa using hu) hne fun h' ho hit' hT hsz hk => ?_
    refine ⟨_, rfl, wpAny_letOwnedTupleGo_enum (s := { s with heap := h', toks := s.toks + 1 }) ho fun h'' he' sb => ?_⟩
    have hT2 : h''.get? s.heap.objs.size = some { cls := .type "tuple", data := .seq #[.int i s.toks, u] } := (sb.2 _ (Nat.ne_of_gt hel)).trans hT
    have new : ObjOk X.prog X.w (upd H s.heap.objs.size (.tup [.int (i : Nat), x])) h'' s.heap.objs.size (.tup [.int (i : Nat), x]) :=
      ⟨by show 2 ≤ sizeLine; decide, [.int i s.toks, u], .cons ⟨_, rfl⟩ (.cons ru .nil), ⟨_, hT2, rfl, _, rfl⟩⟩
    have I1 : Inv X pins σ (upd H s.heap.objs.size (.tup [.int (i : Nat), x])) { s with heap := h'', toks := s.toks + 1 } :=
      I.turnedNew (ch := [e, it]) (fun b ob hb q => (sb.2 b (fun z => hb (by simp [z]))).trans (hk b ob (fun z => hb (by simp [z])) (fun z => hb (by simp [z])) q)) hf (Nat.le_refl _) new
    refine ⟨.ref s.heap.objs.size, _, I1, rfl, ⟨_, x, rfl, I.hok.fresh (Nat.le_refl _), rfl, fun ys hy => by rw [I.list_inj hy hq]; exact hx⟩, ⟨⟨u, ?_⟩, hit'.at fun o q => (sb.2 it (Ne.symm hne)).trans q, hne⟩, fun b hb => ?_⟩
    · have e1 : ((i + 1 : Nat) : Int) = (i : Int) + 1 := by omega
      rw [e1]; exact he'
    · have hb' : b < s.heap.objs.size := by
        have e' : b = e ∨ b = it := by simpa using hb
        rcases e' with z | z
        · rw [z]; exact hel
        · rw [z]; exact hil
      rw [upd_ne (Nat.ne_of_lt hb')]
      exact (hf b hb).1
  done := by
    intro X hP hw hK hc i pins s σ H E I hf st hg
    subst hP hw hK
    obtain ⟨⟨old, he⟩, hit, hne⟩ := st
    obtain ⟨xs, hq, hx⟩ := hg
    obtain ⟨its, rv, p, hz⟩ := I.list hq
    obtain ⟨f0, f1, f2, f3, f4, f5⟩ := hf it (by simp)
    have hl := rv.length
    exact wpAny_pyNext_enum_end (I.ok.hd hc) he hit p.isList (by simp; omega) fun h' eb => ⟨rfl, I.turned (t' := s.toks) (fun b o hb q => eb b o hb q) f0 f1 f3 f4 f5⟩
  self := fun A i s Q E st h => let ⟨⟨_, he⟩, _⟩ := st; wpAny_pyIter_enum he h
def iEnum (K : PySem.W.Frag) (ta : TA) : TI := fun σ H R => ta σ H fun vs H1 => ∃ a xs, vs = [.ref a] ∧ SqL K H1 a xs ∧ R (Ite K a) H1
theorem pi_enum {X : Cx} {e : Expr} {ta : TA} {p pos tpos : Pos} {elts : List Expr} {kk : Nat} (hg : Gl X "enumerate") (hm : X.mg "enumerate" = none) (ha : PA X [e] ta) (hs : starEach [e] X.env = [(false, eval e X.env)] := by rfl) :
    PI X (.Tuple elts kk tpos) (.Call (.Name "enumerate" p) [e] [] pos) (iEnum X.K ta) := by
  intro pins s σ H R I h
  refine Call_ (ld_blt I hg hm boot_enumerate (PyProof.Rows.callWith_type1 (thn (ha pos pins s σ H _ I h) fun us s1 ⟨vs, H1, I1, r1, q1⟩ => ?_) hs rfl))
  obtain ⟨a, xs, ex, hq, q⟩ := q1
  subst ex
  cases r1 with
  | cons r rr =>
    cases rr
    cases r
    obtain ⟨its, rv, p', hz⟩ := I1.list hq
    refine call_enumerate_list p'.isList fun h' he hit hsz hk => wpAny_pyIter_enum he ?_
    have I2 : Inv X pins σ H1 { s1 with heap := h' } := I1.kept (t' := s1.toks) hk
    refine ⟨s1.heap.objs.size + 1, [s1.heap.objs.size + 1, s1.heap.objs.size], _, _, H1, rfl, I2, turn_enum a (s1.heap.objs.size + 1) s1.heap.objs.size, ⟨⟨.none, he⟩, hit, Nat.succ_ne_self _⟩, fun b hb => ?_, q⟩
    have e' : b = s1.heap.objs.size + 1 ∨ b = s1.heap.objs.size := by simpa using hb
    have hle : s1.heap.objs.size ≤ b := by
      rcases e' with z | z
      · rw [z]; exact Nat.le_add_right _ _
      · rw [z]; exact Nat.le_refl _
    exact I1.fpOk hle (I1.hok.fresh hle)
theorem boot_zip5 : bootBuiltins "zip" = some (.type "zip") := by decide +kernel
def Itz (K : PySem.W.Frag) (a b : Addr) : It :=
  ⟨fun i H => ∃ (xs ys : List V) (x y : V), SqL K H a xs ∧ SqL K H b ys ∧ xs[i]? = some x ∧ ys[i]? = some y,
    fun i H v H' => ∃ T x y, v = .ref T ∧ H T = none ∧ H' = upd H T (.tup [x, y]) ∧ (∀ xs, SqL K H a xs → xs[i]? = some x) ∧ ∀ ys, SqL K H b ys → ys[i]? = some y,
    fun i H => ∃ xs ys : List V, SqL K H a xs ∧ SqL K H b ys ∧ (xs.length ≤ i ∨ ys.length ≤ i)⟩
theorem turn_zip {P : Program} {w : World} {K : PySem.W.Frag} {elts : List Expr} {kk : Nat} {tpos : Pos} {a b z TI TO i1 i2 : Addr} (D : ZipApart z TI TO i1 i2 a b) :
    Turn P w K (.Tuple elts kk tpos) (Itz K a b) [z, TI, TO, i1, i2] z (fun i h => IsZip h z TI TO .none ∧ IsPair h TI (.ref i1) (.ref i2) ∧ (∃ x y, IsPair h TO x y) ∧ h.IsListIter i1 a i ∧ h.IsListIter i2 b i) where
  mem := by simp
  obj := fun i h st c hc => by
    obtain ⟨hz, hTI, ⟨x, y, hTO⟩, ⟨o1, e1, _, d1⟩, ⟨o2, e2, _, d2⟩⟩ := st
    have e' : c = z ∨ c = TI ∨ c = TO ∨ c = i1 ∨ c = i2 := by simpa using hc
    rcases e' with q | q | q | q | q
    · rw [q]; exact ⟨_, hz, fun v q => nomatch q⟩
    · rw [q]; exact ⟨_, hTI, fun v q => nomatch q⟩
    · rw [q]; exact ⟨_, hTO, fun v q => nomatch q⟩
    · rw [q]; exact ⟨o1, e1, fun v q => by rw [d1] at q; cases q⟩
    · rw [q]; exact ⟨o2, e2, fun v q => by rw [d2] at q; cases q⟩
  keep := fun i h h' st k => by
    obtain ⟨hz, hTI, ⟨x, y, hTO⟩, h1, h2⟩ := st
    exact ⟨k z (by simp) _ hz, k TI (by simp) _ hTI, ⟨x, y, k TO (by simp) _ hTO⟩, h1.at fun o q => k i1 (by simp) o q, h2.at fun o q => k i2 (by simp) o q⟩
  item := by
    intro X hP hw hK hc i pins s σ H E I hf st hg
    subst hP hw hK
    obtain ⟨hz, hTI, ⟨x0, y0, hTO⟩, h1, h2⟩ := st
    obtain ⟨xs, ys, x, y, hqx, hqy, hx, hy⟩ := hg
    obtain ⟨its, rv, p, _⟩ := I.list hqx
    obtain ⟨its2, rv2, p2, _⟩ := I.list hqy
    obtain ⟨u, hu, ru⟩ := rv.get hx
    obtain ⟨u2, hu2, ru2⟩ := rv2.get hy
    have hzl : z < s.heap.objs.size := Heap.lt_size hz
    refine wpAny_pyNext_zip_item D hz hTI hTO h1 h2 p.isList p2.isList (x := u) (y := u2) (by simpa using hu) (by simpa using hu2) fun h' z' TO' h1' h2' hT hsz hk => ?_
    refine ⟨_, rfl, wpAny_letOwnedTupleGo_zip (s := { s with heap := h' }) z' fun h'' z'' sb => ?_⟩
    have hT2 : h''.get? s.heap.objs.size = some { cls := .type "tuple", data := .seq #[u, u2] } := (sb.2 _ (Nat.ne_of_gt hzl)).trans hT
    have new : ObjOk X.prog X.w (upd H s.heap.objs.size (.tup [x, y])) h'' s.heap.objs.size (.tup [x, y]) :=
      ⟨by show 2 ≤ sizeLine; decide, [u, u2], .cons ru (.cons ru2 .nil), ⟨_, hT2, rfl, _, rfl⟩⟩
    have I1 : Inv X pins σ (upd H s.heap.objs.size (.tup [x, y])) { s with heap := h'' } :=
      I.turnedNew (t' := s.toks) (ch := [z, TI, TO, i1, i2]) (fun c o hb q => (sb.2 c (fun q' => hb (by simp [q']))).trans (hk c o (fun q' => hb (by simp [q'])) (fun q' => hb (by simp [q'])) (fun q' => hb (by simp [q'])) (fun q' => hb (by simp [q'])) q)) hf (Nat.le_refl _) new
    refine ⟨.ref s.heap.objs.size, _, I1, rfl, ⟨_, x, y, rfl, I.hok.fresh (Nat.le_refl _), rfl, fun l hl => by rw [I.list_inj hl hqx]; exact hx, fun l hl => by rw [I.list_inj hl hqy]; exact hy⟩, ⟨z'', ?_, ⟨u, u2, ?_⟩, ?_, ?_⟩, fun c hcm => ?_⟩
    · exact (sb.2 _ D.TIz).trans (hk _ _ D.TIz D.TITO D.TIi1 D.TIi2 hTI)
    · exact (sb.2 _ D.TOz).trans TO'
    · exact h1'.at fun o q => (sb.2 _ D.i1z).trans q
    · exact h2'.at fun o q => (sb.2 _ D.i2z).trans q
    · have hlt : c < s.heap.objs.size := by
        have e' : c = z ∨ c = TI ∨ c = TO ∨ c = i1 ∨ c = i2 := by simpa using hcm
        rcases e' with q | q | q | q | q
        · rw [q]; exact hzl
        · rw [q]; exact Heap.lt_size hTI
        · rw [q]; exact Heap.lt_size hTO
        · rw [q]; obtain ⟨_, e1, _⟩ := h1; exact Heap.lt_size e1
        · rw [q]; obtain ⟨_, e2, _⟩ := h2; exact Heap.lt_size e2
      rw [upd_ne (Nat.ne_of_lt hlt)]
      exact (hf c hcm).1
  done := by
    intro X hP hw hK hc i pins s σ H E I hf st hg
    subst hP hw hK
    obtain ⟨hz, hTI, ⟨x0, y0, hTO⟩, h1, h2⟩ := st
    obtain ⟨xs, ys, hqx, hqy, hend⟩ := hg
    obtain ⟨its, rv, p, _⟩ := I.list hqx
    obtain ⟨its2, rv2, p2, _⟩ := I.list hqy
    have l1 := rv.length
    have l2 := rv2.length
    have he : its.toArray[i]? = none ∨ its2.toArray[i]? = none := by
      rcases hend with q | q
      · exact .inl (by simp; omega)
      · exact .inr (by simp; omega)
    exact wpAny_pyNext_zip_end (I.ok.hd hc) D hz hTI hTO h1 h2 p.isList p2.isList he fun h' hk => ⟨rfl, I.turnedL (t' := s.toks) (ch := [z, TI, TO, i1, i2]) (fun c o hb q =>
      hk c o (fun q' => hb (by simp [q'])) (fun q' => hb (by simp [q'])) (fun q' => hb (by simp [q'])) (fun q' => hb (by simp [q'])) q) hf⟩
  self := fun A i s Q E st h => wpAny_pyIter_zip st.1 h
def iZip (K : PySem.W.Frag) (ta : TA) : TI := fun σ H R => ta σ H fun vs H1 => ∃ a b xs ys, vs = [.ref a, .ref b] ∧ SqL K H1 a xs ∧ SqL K H1 b ys ∧ R (Itz K a b) H1
theorem pi_zip {X : Cx} {e e2 : Expr} {ta : TA} {p pos tpos : Pos} {elts : List Expr} {kk : Nat} (hg : Gl X "zip") (hm : X.mg "zip" = none) (ha : PA X [e, e2] ta)
    (hs : starEach [e, e2] X.env = (false, eval e X.env) :: starEach [e2] X.env := by rfl) (hpl : (backTo pos (starEach [e2] X.env)).any (·.1) = false := by rfl) :
    PI X (.Tuple elts kk tpos) (.Call (.Name "zip" p) [e, e2] [] pos) (iZip X.K ta) := by
  intro pins s σ H R I h
  refine Call_ (ld_blt I hg hm boot_zip5 (PyProof.Rows.callWith_type1 (thn (ha pos pins s σ H _ I h) fun us s1 ⟨vs, H1, I1, r1, q1⟩ => ?_) hs hpl))
  obtain ⟨a, b, xs, ys, ex, hqx, hqy, q⟩ := q1
  subst ex
  cases r1 with
  | cons r rr =>
    cases rr with
    | cons r' rr =>
      cases rr
      cases r
      cases r'
      obtain ⟨its, rv, p1, _⟩ := I1.list hqx
      obtain ⟨its2, rv2, p2, _⟩ := I1.list hqy
      have la : a < s1.heap.objs.size := p1.lt
      have lb : b < s1.heap.objs.size := p2.lt
      refine call_zip_2 p1.isList p2.isList fun h' hz hTI hTO h1 h2 hsz hk => wpAny_pyIter_zip hz ?_
      have I2 : Inv X pins σ H1 { s1 with heap := h' } := I1.kept (t' := s1.toks) hk
      refine ⟨s1.heap.objs.size + 4, [s1.heap.objs.size + 4, s1.heap.objs.size + 2, s1.heap.objs.size + 3, s1.heap.objs.size, s1.heap.objs.size + 1], _, _, H1, rfl, I2, turn_zip (PySem.W.ktu_apart s1.heap.objs.size a b la lb), ⟨hz, hTI, ⟨_, _, hTO⟩, h1, h2⟩, fun c hcm => ?_, q⟩
      have e' : c = s1.heap.objs.size + 4 ∨ c = s1.heap.objs.size + 2 ∨ c = s1.heap.objs.size + 3 ∨ c = s1.heap.objs.size ∨ c = s1.heap.objs.size + 1 := by simpa using hcm
      have hle : s1.heap.objs.size ≤ c := by
        rcases e' with z | z | z | z | z
        · rw [z]; exact Nat.le_add_right _ _
        · rw [z]; exact Nat.le_add_right _ _
        · rw [z]; exact Nat.le_add_right _ _
        · rw [z]; exact Nat.le_refl _
        · rw [z]; exact Nat.le_add_right _ _
      exact I1.fpOk hle (I1.hok.fresh hle)
end L2
section 
namespace Bits
open PySem PyProof.Rows
end Bits
end 
section 
namespace TL
open PySem PySem.Builtin PySem.Builtin.Str PySem.StrLaws
end TL
end 
namespace L2
open PySem PySem.Spec PyProof.Rows
section
variable {X : Cx} {pins : List (Addr × Obj)} {σ : St} {H : Hp} {s : Shared} {Q : VK}
end
section
variable {X : Cx}
end
section
variable {X : Cx} {o e : Expr} {to te : TE}
end
end L2
namespace L2
open PySem PySem.Spec PyProof.Rows
section
variable {X : Cx}
end
end L2
namespace Att
open PySem PySem.W PySem.Calls PyProof.Rows
section
variable {prog : Program} {w : World} {A : Around} {E : Value → Shared → Prop} {s : Shared} {K : Frag}
end
end Att
namespace L2
open PySem PySem.Spec PyProof.Rows
end L2
namespace L2
open PySem PySem.Spec PyProof.Rows
end L2
/- THE LAST THEOREM (shape; LID, My.* are yours):
   My.Adr: a structure of the addresses that your layer names (classes, functions); My.Txt K t: a structure (Prop) of the equations over K;
   My.txt_mk : {K} {implicit addresses ..} (e1 : nsIn K mainGlobals "law" = some (some (.ref f))) (e2 : K.lookup f = some ⟨oc, od, .func (fnOf "law" "law" params body scope dV kV doc pm an cdv ct), sl⟩) (e3 : codeIn K cdv "law" = true) .. : ∃ t, My.Txt K t
set_option maxRecDepth 100000 in
set_option maxHeartbeats 0 in
(the tactic k_is has no namespace: write k_is) -/
namespace L2
open PySem PySem.Spec PyProof.Rows
def inClass (s : Stmt) (j : Nat) : Stmt := match s with
  | .ClassDef _ _ _ body _ _ _ _ _ _ _ => body.getD j (.Pass ⟨0, 0, 0, 0⟩)
  | _ => .Pass ⟨0, 0, 0, 0⟩
def defArgs (s : Stmt) : Arguments := match s with
  | .FunctionDef _ a _ _ _ _ _ _ _ _ => a
  | _ => { posonlyargs := [], args := [], vararg := none, kwonlyargs := [], kw_defaults := [], kwarg := none, defaults := [] }
def defBody (s : Stmt) : List Stmt := match s with
  | .FunctionDef _ _ b _ _ _ _ _ _ _ => b
  | _ => []
def defScope (s : Stmt) : Scope := match s with
  | .FunctionDef _ _ _ _ _ _ sc _ _ _ => sc
  | _ => { kind := .function, names := [], isGenerator := false, isCoroutine := false }
abbrev CX0 : CXT := fun _ _ _ _ _ _ => False
abbrev E0 : XK := fun _ _ _ => False
theorem pass0 {X : Cx} : Passes CX0 X E0 := fun _ _ _ _ _ _ _ h => h.elim
structure Fun (K : PySem.W.Frag) (x qual : Str) (st : Stmt) (f : Addr) (fd : FuncData) : Prop where
  ex : ∃ (oc : Value) (od : Option Addr) (kV doc pm : Value) (an : Option Addr) (cdv ct : Value) (osl : Array (Option Value)),
    fd = PySem.W.fnOf x qual (defArgs st) (defBody st) (defScope st) .none kV doc pm an cdv ct ∧ K.lookup f = some ⟨oc, od, .func fd, osl⟩ ∧ PySem.W.codeIn K cdv qual = true
  kp : PySem.W.keepIn K (.ref f) = true
section
variable {P : Program} {w : World} {K : PySem.W.Frag} {mg : Str → Option Value} {base : Heap}
theorem Fun.ok {x qual : Str} {st : Stmt} {f : Addr} {fd : FuncData} {N ps : List Str} {k : Nat} {sp : Sp} (F : Fun K x qual st f fd) (S : FnScope N ps (defScope st)) (len : ∀ vs H Q E, sp vs H Q E → vs.length = ps.length)
    (hbody : ∀ (cdv : Value) (A : Around) (outer : List Env) (s : Shared) (H : Hp) (vs : List V) (Q : VK) (E : XK), Room k (A.deeper (envOfC qual (defScope st) s.heap.objs.size f cdv)) → sp vs H Q E →
      ∃ t, PSs (cxOf CX0 P w K mg base N qual (defScope st) f cdv A outer s H E).nox (defBody st) t ∧ t { nx := fun _ H' => Q .non H', rt := Q } (start N vs) H) : FnOk P w K mg base CX0 (k + 1) f fd ps sp := by
  obtain ⟨oc, od, kV, doc, pm, an, cdv, ct, osl, rfl, lk, hcd⟩ := F.ex
  refine fn_of lk hcd S len fun A outer s H vs Q E hr hsp => ?_
  obtain ⟨t, h, q⟩ := hbody cdv A outer s H vs Q E hr hsp
  exact ⟨t, h.nox, q⟩
theorem Fun.binds {x qual : Str} {st : Stmt} {f : Addr} {fd : FuncData} {ps : List Str} (F : Fun K x qual st f fd)
    (h : ∀ (kV doc pm : Value) (an : Option Addr) (cdv ct : Value) (us : List Value), us.length = ps.length → bindArgs (PySem.W.fnOf x qual (defArgs st) (defBody st) (defScope st) .none kV doc pm an cdv ct) ⟨us, []⟩ = pure (ps.zip us)) : Binds K fd ps [] := by
  obtain ⟨oc, od, kV, doc, pm, an, cdv, ct, osl, rfl, lk, hcd⟩ := F.ex
  exact .all (h kV doc pm an cdv ct)
theorem fun_mk {x qual : Str} {st : Stmt} {f : Addr} {oc : Value} {od an : Option Addr} {osl : Array (Option Value)} {kV doc pm cdv ct : Value} (l : K.lookup f = some ⟨oc, od, .func (PySem.W.fnOf x qual (defArgs st) (defBody st) (defScope st) .none kV doc pm an cdv ct), osl⟩)
    (c : PySem.W.codeIn K cdv qual = true) (k : PySem.W.keepIn K (.ref f) = true) : Fun K x qual st f (PySem.W.fnOf x qual (defArgs st) (defBody st) (defScope st) .none kV doc pm an cdv ct) := ⟨⟨oc, od, kV, doc, pm, an, cdv, ct, osl, rfl, l, c⟩, k⟩
end
theorem hu_of {A : Around} {k : Nat} (hr : Room k A) : A.units + 1 < cLine := Nat.lt_of_le_of_lt (Nat.add_le_add_left (by decide : 1 ≤ 64) _) hr.units
theorem small1000 {n : Nat} (h : n ≤ 1000) : n < sizeLine := Nat.lt_of_le_of_lt h (by decide)
section
variable {X : Cx}
theorem pv (i : Nat) {x : Str} {pos : Pos} (hN : X.N[i]? = some x := by rfl) (hv : Vis X.env.scope x := by first | exact Or.inl rfl | exact Or.inr (Or.inl rfl) | exact Or.inr (Or.inr rfl)) (hd : (x == ("__debug__" : Str)) = false := by decide)
    (hcd : (x == ("__classdict__" : Str)) = false := by decide) : PE X (.Name x pos) (tVar i) := pe_var hN hv hd hcd
end
theorem iteF {A B : Prop} (h : B) : if false = true then A else B := by
  rw [if_neg Bool.false_ne_true]
  exact h
theorem iteT {A B : Prop} (h : A) : if true = true then A else B := by
  rw [if_pos rfl]
  exact h
theorem ite2 {c A B : Prop} [Decidable c] (h1 : c → A) (h2 : ¬ c → B) : if c then A else B := by
  by_cases h : c
  · rw [if_pos h]
    exact h1 h
  · rw [if_neg h]
    exact h2 h
def Same (H H' : Hp) : Prop := ∀ b o, H b = some o → H' b = some o
theorem Same.refl (H : Hp) : Same H H := fun _ _ h => h
theorem Same.trans {H H1 H2 : Hp} (a : Same H H1) (b : Same H1 H2) : Same H H2 := fun c o h => b c o (a c o h)
theorem Same.free {H H' : Hp} (e : Same H H') {l : Addr} (h : H' l = Option.none) : H l = Option.none := by
  cases q : H l with
  | none => rfl
  | some o =>
    rw [e l o q] at h
    cases h
theorem Same.seq {K : PySem.W.Frag} {H H' : Hp} {a : Addr} {xs : List V} (e : Same H H') (h : SqL K H a xs) : SqL K H' a xs := by
  rcases h with (h | ⟨o, h⟩) | h
  · exact .inl (.inl (e _ _ h))
  · exact .inl (.inr ⟨o, e _ _ h⟩)
  · exact .inr h
section
variable {κ : Type} [DecidableEq κ]
end
theorem at_of {xs : List V} {z : Int} {j : Nat} {v : V} (e : z = (j : Int)) (h : xs[j]? = some v) : atI xs z = some v := by
  rw [e]
  exact atI_nat h
theorem Same.made {H H1 : Hp} {x dx C : Addr} (nx : H x = Option.none) (nd : H dx = Option.none) (k : ∀ b o, (upd (upd H dx (.own x)) x (.ins C dx [])) b = some o → b ≠ x → H1 b = some o) : Same H H1 := fun b o e =>
  k b o (by rw [upd_ne (ne_of_none e nx), upd_ne (ne_of_none e nd)]; exact e) (ne_of_none e nx)
end L2
end
section
set_option Elab.async false
set_option linter.all false
set_option maxRecDepth 100000
namespace Cw
open PySem PySem.Spec PyProof.Rows L2
def Few (n : Nat) (i : Int) : Prop := i.natAbs < 2 ^ n
theorem few_bits {n : Nat} {i : Int} (h : Few n i) : Builtin.Int.intBits i ≤ n := by
  unfold Builtin.Int.intBits
  split
  · exact Nat.zero_le _
  · rename_i h0
    have hn : i.natAbs ≠ 0 := by
      intro e
      apply h0
      have : i = 0 := by omega
      rw [this]; rfl
    have := (Nat.log2_lt hn).mpr h
    omega
theorem few_log {n : Nat} {i : Int} (h : Few n i) (hn : 0 < n) : i.natAbs.log2 < n := by
  by_cases h0 : i.natAbs = 0
  · rw [h0]
    show Nat.log2 0 < n
    rw [Nat.log2_zero]; exact hn
  · exact (Nat.log2_lt h0).mpr h
def BMul (i j : Int) : Prop := Few 8000 i ∧ Few 8000 j
theorem BMul.ok {i j : Int} (h : BMul i j) : IntMulOk i j := by
  unfold IntMulOk
  have h1 := few_bits h.1
  have h2 := few_bits h.2
  have : Builtin.Int.intTooBig ((Builtin.Int.intBits i + Builtin.Int.intBits j : Nat) : Int) = false := by
    unfold Builtin.Int.intTooBig
    apply decide_eq_false
    have : (16000 : Int) < bitsLine := by decide
    omega
  intro q
  simp only [Bool.and_eq_true] at q
  have q2 := q.2
  have e : Builtin.Int.intTooBig ((Builtin.Int.intBits i : Int) + (Builtin.Int.intBits j : Int)) = false := this
  rw [e] at q2
  cases q2
section
variable {X : Cx}
theorem op_mulB : OpR X (binaryOp .Mult) (rI BMul fun i j => .int (i * j)) := opI fun _ _ _ _ _ _ _ hc q => mul_int q hc.ok
def BDiv (_ j : Int) : Prop := j ≠ 0 ∧ Few 8000 j
theorem op_fdivB : OpR X (binaryOp .FloorDiv) (rI BDiv fun i j => .int (i.fdiv j)) := opI fun _ _ _ _ _ _ _ hc q => floordiv_int hc.1 q (.inl (PyProof.noPylong_of_log2 (Nat.lt_trans (few_log hc.2 (by decide)) (by decide))))
end
theorem pmap {α β : Type} {F G : α → β → Prop} (f : ∀ a b, F a b → G a b) : ∀ {l1 : List α} {l2 : List β}, Paired F l1 l2 → Paired G l1 l2
  | _, _, .nil => .nil
  | _, _, .cons h t => .cons (f _ _ h) (pmap f t)
theorem same_upd {H : Hp} {p : Addr} {o : HO} (h : H p = none) : Same H (upd H p o) := fun b u e => by
  rw [upd_ne (ne_of_none e h)]; exact e
theorem same_upd' {H H' : Hp} {p : Addr} {o : HO} (s : Same H H') (h : H p = none) : Same H (upd H' p o) := fun b u e => by
  rw [upd_ne (ne_of_none e h)]; exact s b u e
abbrev LI (K : PySem.W.Frag) (H : Hp) (a : Addr) (ns : List Int) : Prop := SqL K H a (ns.map V.int)
def LL (K : PySem.W.Frag) (H : Hp) (a : Addr) (W : List (List Int)) : Prop := ∃ rs : List Addr, SqL K H a (rs.map V.ref) ∧ Paired (fun w r => LI K H r w) W rs
theorem LL.same {K : PySem.W.Frag} {H H' : Hp} {a : Addr} {W : List (List Int)} (s : Same H H') (h : LL K H a W) : LL K H' a W := by
  obtain ⟨rs, h1, h2⟩ := h
  exact ⟨rs, s.seq h1, pmap (fun _ _ q => s.seq q) h2⟩
structure Sq {α : Type} (J : It) (H1 : Hp) (xs : List α) (Y : α → V → Hp → Prop) : Prop where
  go : ∀ i H, Same H1 H → i < xs.length → J.go i H
  stop : ∀ H, Same H1 H → J.stop xs.length H
  yld : ∀ i H x H' a, Same H1 H → xs[i]? = some a → J.yld i H x H' → Same H H' ∧ Y a x H'
theorem sq_list {K : PySem.W.Frag} {H1 : Hp} {a : Addr} {xs : List V} (h : SqL K H1 a xs) : Sq (Itl K a) H1 xs (fun v x _ => x = v) where
  go := fun i H s hi => ⟨xs, xs[i], s.seq h, List.getElem?_eq_getElem hi⟩
  stop := fun H s => ⟨xs, s.seq h, Nat.le_refl _⟩
  yld := fun i H x H' v s hv y => by
    obtain ⟨e, y⟩ := y
    subst e
    have := y xs (s.seq h)
    rw [hv] at this
    exact ⟨Same.refl _, (Option.some.inj this).symm⟩
theorem sq_range {H1 : Hp} {lo : Int} {n : Nat} : Sq (Itr lo n) H1 (List.range n) (fun k x _ => x = .int (lo + (k : Nat))) where
  go := fun i H _ hi => by
    have : i < n := by simpa using hi
    exact this
  stop := fun H _ => by
    show n ≤ (List.range n).length
    simp
  yld := fun i H x H' v _ hv y => by
    obtain ⟨e, y⟩ := y
    subst e
    have hi : i < n := by
      have := (List.getElem?_eq_some_iff.mp hv).1
      simpa using this
    rw [List.getElem?_range hi] at hv
    have : i = v := Option.some.inj hv
    subst this
    exact ⟨Same.refl _, y⟩
theorem sq_zip {K : PySem.W.Frag} {H1 : Hp} {a b : Addr} {xs ys : List V} (ha : SqL K H1 a xs) (hb : SqL K H1 b ys) : Sq (Itz K a b) H1 (xs.zip ys) (fun p x H => ∃ T, x = .ref T ∧ H T = some (.tup [p.1, p.2])) where
  go := fun i H s hi => by
    rw [List.length_zip] at hi
    have h1 : i < xs.length := Nat.lt_of_lt_of_le hi (Nat.min_le_left _ _)
    have h2 : i < ys.length := Nat.lt_of_lt_of_le hi (Nat.min_le_right _ _)
    exact ⟨xs, ys, xs[i], ys[i], s.seq ha, s.seq hb, List.getElem?_eq_getElem h1, List.getElem?_eq_getElem h2⟩
  stop := fun H s => by
    refine ⟨xs, ys, s.seq ha, s.seq hb, ?_⟩
    rw [List.length_zip]
    rcases Nat.le_total xs.length ys.length with h | h
    · exact .inl (by rw [Nat.min_eq_left h]; exact Nat.le_refl _)
    · exact .inr (by rw [Nat.min_eq_right h]; exact Nat.le_refl _)
  yld := fun i H x H' p s hp y => by
    obtain ⟨T, u, v, e1, hT, e2, h1, h2⟩ := y
    subst e1 e2
    have hu := h1 xs (s.seq ha)
    have hv := h2 ys (s.seq hb)
    have := List.getElem?_zip_eq_some.mp hp
    rw [hu, hv] at this
    have e1 := Option.some.inj this.1
    have e2 := Option.some.inj this.2
    subst e1 e2
    exact ⟨same_upd hT, T, rfl, upd_same⟩
theorem sq_enum {K : PySem.W.Frag} {H1 : Hp} {a : Addr} {xs : List V} (ha : SqL K H1 a xs) : Sq (Ite K a) H1 ((List.range xs.length).zip xs) (fun p x H => ∃ T, x = .ref T ∧ H T = some (.tup [.int (p.1 : Nat), p.2])) where
  go := fun i H s hi => by
    have h1 : i < xs.length := by simpa using hi
    exact ⟨xs, xs[i], s.seq ha, List.getElem?_eq_getElem h1⟩
  stop := fun H s => ⟨xs, s.seq ha, by simp⟩
  yld := fun i H x H' p s hp y => by
    obtain ⟨T, u, e1, hT, e2, h1⟩ := y
    subst e1 e2
    have hu := h1 xs (s.seq ha)
    have q := List.getElem?_zip_eq_some.mp hp
    have hi : i < xs.length := (List.getElem?_eq_some_iff.mp hu).1
    rw [hu, List.getElem?_range hi] at q
    have e1 := Option.some.inj q.1
    have e2 := Option.some.inj q.2
    refine ⟨same_upd hT, T, rfl, ?_⟩
    rw [← e1, ← e2]
    exact upd_same
theorem sq_ints {K : PySem.W.Frag} {H1 : Hp} {a : Addr} {ns : List Int} (h : LI K H1 a ns) : Sq (Itl K a) H1 ns (fun z x _ => x = .int z) where
  go := fun i H s hi => (sq_list h).go i H s (by simpa using hi)
  stop := fun H s => by
    have := (sq_list h).stop H s
    rwa [List.length_map] at this
  yld := fun i H x H' z s hz y => (sq_list h).yld i H x H' (.int z) s (by rw [List.getElem?_map, hz]; rfl) y
theorem zip_map {α β γ δ : Type} (f : α → γ) (g : β → δ) : ∀ (l : List α) (m : List β), (l.map f).zip (m.map g) = (l.zip m).map fun p => (f p.1, g p.2)
  | [], _ => by simp
  | _ :: _, [] => by simp
  | a :: l, b :: m => by simp [zip_map f g l m]
theorem sq_zipI {K : PySem.W.Frag} {H1 : Hp} {a b : Addr} {xs ys : List Int} (ha : LI K H1 a xs) (hb : LI K H1 b ys) : Sq (Itz K a b) H1 (xs.zip ys) (fun p x H => ∃ T, x = .ref T ∧ H T = some (.tup [.int p.1, .int p.2])) where
  go := fun i H s hi => (sq_zip ha hb).go i H s (by rw [zip_map, List.length_map]; exact hi)
  stop := fun H s => by
    have := (sq_zip ha hb).stop H s
    rwa [zip_map, List.length_map] at this
  yld := fun i H x H' p s hp y => (sq_zip ha hb).yld i H x H' (.int p.1, .int p.2) s (by rw [zip_map, List.getElem?_map, hp]; rfl) y
theorem paired_at {α β : Type} {F : α → β → Prop} : ∀ {l1 : List α} {l2 : List β}, Paired F l1 l2 → ∀ (i : Nat) (a : α), l1[i]? = some a → ∃ b, l2[i]? = some b ∧ F a b
  | _, _, .nil, i, a, h => by simp at h
  | _, _, .cons h t, 0, a, e => by
    have e1 := Option.some.inj e
    subst e1
    exact ⟨_, rfl, h⟩
  | _, _, .cons h t, i + 1, a, e => paired_at t i a e
theorem sq_rows {K : PySem.W.Frag} {H1 : Hp} {a : Addr} {rs : List Addr} {W : List (List Int)} (h : SqL K H1 a (rs.map V.ref)) (hp : Paired (fun w r => LI K H1 r w) W rs) : Sq (Itl K a) H1 W (fun w x H => ∃ r, x = .ref r ∧ LI K H r w) where
  go := fun i H s hi => (sq_list h).go i H s (by rw [List.length_map, ← Paired.length hp]; exact hi)
  stop := fun H s => by
    have := (sq_list h).stop H s
    rwa [List.length_map, ← Paired.length hp] at this
  yld := fun i H x H' w s hw y => by
    obtain ⟨r, hr, hl⟩ := paired_at hp i w hw
    obtain ⟨s2, e⟩ := (sq_list h).yld i H x H' (.ref r) s (by rw [List.getElem?_map, hr]; rfl) y
    exact ⟨s2, r, e, (s.trans s2).seq hl⟩
theorem LL.sq {K : PySem.W.Frag} {H1 : Hp} {a : Addr} {W : List (List Int)} (h : LL K H1 a W) : Sq (Itl K a) H1 W (fun w x H => ∃ r, x = .ref r ∧ LI K H r w) := by
  obtain ⟨rs, h1, h2⟩ := h
  exact sq_rows h1 h2
theorem LL.ex {K : PySem.W.Frag} {H1 : Hp} {a : Addr} {W : List (List Int)} (h : LL K H1 a W) : ∃ xs, SqL K H1 a xs ∧ xs.length = W.length := by
  obtain ⟨rs, h1, h2⟩ := h
  exact ⟨_, h1, by rw [List.length_map]; exact (Paired.length h2).symm⟩
theorem LL.at {K : PySem.W.Frag} {H1 : Hp} {a : Addr} {W : List (List Int)} (h : LL K H1 a W) {i : Nat} (hi : i < W.length) : ∃ (xs : List V) (r : Addr), SqL K H1 a xs ∧ atI xs (i : Int) = some (.ref r) ∧ LI K H1 r (W.getD i []) := by
  obtain ⟨rs, h1, h2⟩ := h
  obtain ⟨r, hr, hl⟩ := paired_at h2 i W[i] (List.getElem?_eq_getElem hi)
  refine ⟨_, r, h1, atI_nat (by rw [List.getElem?_map, hr]; rfl), ?_⟩
  rw [List.getD_eq_getElem?_getD, List.getElem?_eq_getElem hi]
  exact hl
theorem ints_at {ns : List Int} {i : Nat} (hi : i < ns.length) : atI (ns.map V.int) (i : Int) = some (.int (ns.getD i 0)) := by
  apply atI_nat
  rw [List.getElem?_map, List.getD_eq_getElem?_getD, List.getElem?_eq_getElem hi]
  rfl
theorem lc_vals {α : Type} {J : It} {H1 : Hp} {xs : List α} {Y : α → V → Hp → Prop} (S : Sq J H1 xs Y) {g : TG} {tt : TT} {te : TE} {vs : List Nat} {σ : L2.St} {D : Addr} (hD : H1 D = none) (p : α → Bool) (f : α → V) (hz : xs.length ≤ sizeLine)
    {Qd : Hp → Prop}
    (el : ∀ a ∈ xs, ∀ x H (R : VK) (N : Hp → Prop), Same H1 H → Y a x H → (p a = true → ∀ H4, Same H H4 → R (f a) H4) → (p a = false → ∀ H3, Same H H3 → N H3) →
      g x (wipe σ vs) H fun σ2 H2 => wipe σ2 vs = wipe σ vs ∧ tt σ2 H2 fun b H3 => if b = true then te σ2 H3 R else N H3)
    (hd : ∀ H, Same H1 H → H D = some (.lst ((xs.filter p).map f)) → Qd H) :
    ∃ W : Nat → Nat → Hp → Prop, (∃ m, W 0 m (upd H1 D (.lst []))) ∧ ∀ i m H, W i m H →
      (J.stop i H ∧ Qd H) ∨ (J.go i H ∧ ∃ Nx : Hp → Prop, (∀ H', Nx H' → ∃ m', m' < m ∧ W (i + 1) m' H') ∧ ∀ x H', J.yld i H x H' → g x (wipe σ vs) H' fun σ2 H2 => wipe σ2 vs = wipe σ vs ∧ tt σ2 H2 fun b H3 =>
        if b = true then te σ2 H3 fun y H4 => ∃ acc, H4 D = some (.lst acc) ∧ acc.length < sizeLine ∧ Nx (upd H4 D (.lst (acc ++ [y]))) else Nx H3) := by
  let Pv : Nat → Hp → Prop := fun i H => Same H1 H ∧ H D = some (.lst (((xs.take i).filter p).map f))
  refine ⟨fun i m H => m = xs.length - i ∧ i ≤ xs.length ∧ Pv i H, ⟨xs.length, by simp, Nat.zero_le _, same_upd hD, by simp [upd_same]⟩, ?_⟩
  rintro i m H ⟨rfl, hi, s1, hDH⟩
  by_cases hlt : i < xs.length
  · refine .inr ⟨S.go i H s1 hlt, Pv (i + 1), fun H' q => ⟨xs.length - (i + 1), by omega, rfl, hlt, q⟩, fun x H' y => ?_⟩
    have ha : xs[i]? = some xs[i] := List.getElem?_eq_getElem hlt
    obtain ⟨s2, hY⟩ := S.yld i H x H' xs[i] s1 ha y
    have s12 := s1.trans s2
    have et : xs.take (i + 1) = xs.take i ++ [xs[i]] := by
      rw [List.take_add_one, ha]; rfl
    refine el xs[i] (List.getElem_mem hlt) x H' _ _ s12 hY ?_ ?_
    · intro eb H4 s4
      have hD4 := s4 _ _ (s2 _ _ hDH)
      refine ⟨_, hD4, ?_, same_upd' (s12.trans s4) hD, ?_⟩
      · rw [List.length_map]
        refine Nat.lt_of_le_of_lt (List.length_filter_le _ _) ?_
        rw [List.length_take]
        omega
      · rw [upd_same, et, List.filter_append, List.filter_cons, eb, if_pos rfl, List.filter_nil, List.map_append]
        rfl
    · intro eb H3 q3
      refine ⟨s12.trans q3, ?_⟩
      rw [et, List.filter_append, List.filter_cons, eb, if_neg Bool.false_ne_true, List.filter_nil, List.append_nil]
      exact q3 _ _ (s2 _ _ hDH)
  · have e : i = xs.length := by omega
    subst e
    refine .inl ⟨S.stop H s1, hd H s1 ?_⟩
    rw [List.take_length] at hDH
    exact hDH
theorem lc_map {α : Type} {J : It} {H1 : Hp} {xs : List α} {Y : α → V → Hp → Prop} (S : Sq J H1 xs Y) {g : TG} {te : TE} {vs : List Nat} {σ : L2.St} {D : Addr} (hD : H1 D = none) (f : α → V) (hz : xs.length ≤ sizeLine)
    {Qd : Hp → Prop}
    (el : ∀ a ∈ xs, ∀ x H (R : VK), Same H1 H → Y a x H → (∀ H4, Same H H4 → R (f a) H4) → g x (wipe σ vs) H fun σ2 H2 => wipe σ2 vs = wipe σ vs ∧ te σ2 H2 R)
    (gm : ∀ x σ H Q Q', (∀ σ' H', Q σ' H' → Q' σ' H') → g x σ H Q → g x σ H Q')
    (hd : ∀ H, Same H1 H → H D = some (.lst (xs.map f)) → Qd H) :
    ∃ W : Nat → Nat → Hp → Prop, (∃ m, W 0 m (upd H1 D (.lst []))) ∧ ∀ i m H, W i m H →
      (J.stop i H ∧ Qd H) ∨ (J.go i H ∧ ∃ Nx : Hp → Prop, (∀ H', Nx H' → ∃ m', m' < m ∧ W (i + 1) m' H') ∧ ∀ x H', J.yld i H x H' → g x (wipe σ vs) H' fun σ2 H2 => wipe σ2 vs = wipe σ vs ∧ tYes σ2 H2 fun b H3 =>
        if b = true then te σ2 H3 fun y H4 => ∃ acc, H4 D = some (.lst acc) ∧ acc.length < sizeLine ∧ Nx (upd H4 D (.lst (acc ++ [y]))) else Nx H3) := by
  refine lc_vals S hD (fun _ => true) f hz (fun a ha x H R N s y k _ => ?_) (fun H s h => hd H s (by rw [h, List.filter_eq_self.mpr (fun _ _ => rfl)]))
  exact gm _ _ _ _ _ (fun σ2 H2 q => ⟨q.1, by simpa [tYes] using q.2⟩) (el a ha x H R s y (k rfl))
theorem lc_lists {α : Type} {J : It} {H1 : Hp} {xs : List α} {Y : α → V → Hp → Prop} (S : Sq J H1 xs Y) {g : TG} {te : TE} {vs : List Nat} {σ : L2.St} {D : Addr} (hD : H1 D = none) (f : α → List V) (hz : xs.length ≤ sizeLine)
    {Qd : Hp → Prop}
    (el : ∀ a ∈ xs, ∀ x H (R : VK), Same H1 H → Y a x H → (∀ H4 r, H r = none → H4 r = some (.lst (f a)) → Same H H4 → R (.ref r) H4) → g x (wipe σ vs) H fun σ2 H2 => wipe σ2 vs = wipe σ vs ∧ te σ2 H2 R)
    (gm : ∀ x σ H Q Q', (∀ σ' H', Q σ' H' → Q' σ' H') → g x σ H Q → g x σ H Q')
    (hd : ∀ H (rs : List Addr), Same H1 H → H D = some (.lst (rs.map V.ref)) → Paired (fun a r => H r = some (.lst (f a))) xs rs → (∀ r ∈ rs, H1 r = none ∧ r ≠ D) → Qd H) :
    ∃ W : Nat → Nat → Hp → Prop, (∃ m, W 0 m (upd H1 D (.lst []))) ∧ ∀ i m H, W i m H →
      (J.stop i H ∧ Qd H) ∨ (J.go i H ∧ ∃ Nx : Hp → Prop, (∀ H', Nx H' → ∃ m', m' < m ∧ W (i + 1) m' H') ∧ ∀ x H', J.yld i H x H' → g x (wipe σ vs) H' fun σ2 H2 => wipe σ2 vs = wipe σ vs ∧ tYes σ2 H2 fun b H3 =>
        if b = true then te σ2 H3 fun y H4 => ∃ acc, H4 D = some (.lst acc) ∧ acc.length < sizeLine ∧ Nx (upd H4 D (.lst (acc ++ [y]))) else Nx H3) := by
  let Pv : Nat → Hp → Prop := fun i H => Same H1 H ∧ ∃ rs : List Addr, H D = some (.lst (rs.map V.ref)) ∧ Paired (fun a r => H r = some (.lst (f a))) (xs.take i) rs ∧ ∀ r ∈ rs, H1 r = none ∧ r ≠ D
  refine ⟨fun i m H => m = xs.length - i ∧ i ≤ xs.length ∧ Pv i H, ⟨xs.length, by simp, Nat.zero_le _, same_upd hD, [], by simp [upd_same], .nil, fun r hr => by simp at hr⟩, ?_⟩
  rintro i m H ⟨rfl, hi, s1, rs, hDH, hp, hr⟩
  by_cases hlt : i < xs.length
  · refine .inr ⟨S.go i H s1 hlt, Pv (i + 1), fun H' q => ⟨xs.length - (i + 1), by omega, rfl, hlt, q⟩, fun x H' y => ?_⟩
    have ha : xs[i]? = some xs[i] := List.getElem?_eq_getElem hlt
    obtain ⟨s2, hY⟩ := S.yld i H x H' xs[i] s1 ha y
    have s12 := s1.trans s2
    have et : xs.take (i + 1) = xs.take i ++ [xs[i]] := by
      rw [List.take_add_one, ha]; rfl
    refine gm _ _ _ _ _ (fun σ2 H2 q => ⟨q.1, by simp only [tYes, if_true]; exact q.2⟩) (el xs[i] (List.getElem_mem hlt) x H' _ s12 hY ?_)
    intro H4 r hrn hr4 s4
    have hD4 := s4 _ _ (s2 _ _ hDH)
    have hlen : (xs.take i).length = rs.length := Paired.length hp
    have hrD : r ≠ D := fun e => by
      subst e
      have := s2 _ _ hDH
      rw [hrn] at this
      cases this
    refine ⟨_, hD4, ?_, same_upd' (s12.trans s4) hD, rs ++ [r], ?_, ?_, ?_⟩
    · rw [List.length_map, ← hlen, List.length_take]
      omega
    · rw [upd_same, List.map_append]
      rfl
    · rw [et]
      have : ∀ (l1 : List α) (l2 : List Addr), Paired (fun a r => H r = some (.lst (f a))) l1 l2 → (∀ r ∈ l2, H1 r = none ∧ r ≠ D) → Paired (fun a r' => upd H4 D (.lst (rs.map V.ref ++ [V.ref r])) r' = some (.lst (f a))) l1 l2 := by
        intro l1 l2 q
        induction q with
        | nil => intro _; exact .nil
        | cons h t ih =>
          intro hh
          refine .cons ?_ (ih fun r hr => hh r (List.Mem.tail _ hr))
          rw [upd_ne (hh _ (List.Mem.head _)).2]
          exact s4 _ _ (s2 _ _ h)
      refine (this _ _ hp hr).snoc ?_
      rw [upd_ne hrD]; exact hr4
    · intro r' hr'
      rcases List.mem_append.mp hr' with q | q
      · exact hr r' q
      · have : r' = r := by simpa using q
        subst this
        refine ⟨?_, hrD⟩
        cases e1 : H1 r' with
        | none => rfl
        | some o =>
          have := s12 _ _ e1
          rw [hrn] at this
          cases this
  · have e : i = xs.length := by omega
    subst e
    rw [List.take_length] at hp
    exact .inl ⟨S.stop H s1, hd H rs s1 hDH hp hr⟩
section
variable {X : Cx} {K : PySem.W.Frag}
theorem ixL (h : X.K = K) : IxR X (rIxL K) := h ▸ ix_list
theorem slL (h : X.K = K) : SlR X (rSlL K) := h ▸ sl_list
theorem crAny (h : X.K = K) (hc : X.calm = true) : CallR X (.builtin "any") (rAny K) := h ▸ cr_any hc
theorem crAll (h : X.K = K) (hc : X.calm = true) : CallR X (.builtin "all") (rAll K) := h ▸ cr_all hc
theorem crSum (h : X.K = K) (hc : X.calm = true) : CallR X (.builtin "sum") (rSum K) := h ▸ cr_sum hc
theorem crMax (h : X.K = K) (hc : X.calm = true) : CallR X (.builtin "max") (rMax K) := h ▸ cr_max hc
theorem crMin (h : X.K = K) (hc : X.calm = true) : CallR X (.builtin "min") (rMin K) := h ▸ cr_min hc
def rLen (K : PySem.W.Frag) : List V → Hp → VK → Prop := fun xs H Q => ∃ p ys, xs = [.ref p] ∧ SqL K H p ys ∧ Q (.int ys.length) H
theorem crLen (h : X.K = K) : CallR X (.builtin "len") (rLen K) := by
  subst h
  intro pins s σ H xs us Q I r q
  obtain ⟨p, ys, e, hs, q⟩ := q
  exact call_len_seq pins s σ H xs us Q I r ⟨p, ys, e, .inl hs, q⟩
def rList (K : PySem.W.Frag) : List V → Hp → VK → Prop := fun xs H Q => ∃ p ys, xs = [.ref p] ∧ SqL K H p ys ∧ ∀ l, H l = none → Q (.ref l) (upd H l (.lst ys))
theorem crList (h : X.K = K) : CallR X (.type "list") (rList K) := by
  subst h
  intro pins s σ H xs us Q I r q
  obtain ⟨p, ys, e, hs, q⟩ := q
  exact call_list_of pins s σ H xs us Q I r ⟨p, ys, e, .inl hs, q⟩
theorem piL (h : X.K = K) {tg l : Expr} {tl : TE} (hl : PE X l tl) : PI X tg l (iList K tl) := h ▸ pi_list hl
theorem piZ (h : X.K = K) {e e2 : Expr} {ta : TA} {p pos tpos : Pos} {elts : List Expr} {kk : Nat} (hm : X.mg "zip" = none) (ha : PA X [e, e2] ta) (hg : Gl X "zip" := by rfl)
    (hs : starEach [e, e2] X.env = (false, eval e X.env) :: starEach [e2] X.env := by rfl) (hpl : (backTo pos (starEach [e2] X.env)).any (·.1) = false := by rfl) :
    PI X (.Tuple elts kk tpos) (.Call (.Name "zip" p) [e, e2] [] pos) (iZip K ta) := h ▸ pi_zip hg hm ha hs hpl
theorem piE (h : X.K = K) {e : Expr} {ta : TA} {p pos tpos : Pos} {elts : List Expr} {kk : Nat} (hm : X.mg "enumerate" = none) (ha : PA X [e] ta) (hg : Gl X "enumerate" := by rfl) (hs : starEach [e] X.env = [(false, eval e X.env)] := by rfl) :
    PI X (.Tuple elts kk tpos) (.Call (.Name "enumerate" p) [e] [] pos) (iEnum K ta) := h ▸ pi_enum hg hm ha hs
theorem pgT (h : X.K = K) {pos : Pos} {es : List Expr} {k : Nat} {t : TGs} {n : Nat} (hc : X.calm = true) (ht : PGs X es t)
    (hn : (assignEach es X.env).length = n := by rfl) (hst : (assignEach es X.env).findIdx? (·.1) = none := by rfl) : PG X (.Tuple es k pos) (gTup K n t) := h ▸ pg_tup hc ht hn hst
theorem pe_globI {x : Str} {i : Int} {t : Tok} {pos : Pos} (hm : X.mg x = some (.int i t)) (hg : Gl X x := by rfl) (hd : (x == ("__debug__" : Str)) = false := by decide) : PE X (.Name x pos) (tC (.int i)) := pe_glob hg hm ⟨t, rfl⟩ hd
end
theorem gm_pair {K : PySem.W.Frag} {i j : Nat} : ∀ x σ H (Q Q' : L2.St → Hp → Prop), (∀ σ' H', Q σ' H' → Q' σ' H') → gTup K 2 (gCons (gName i) (gCons (gName j) gNil)) x σ H Q → gTup K 2 (gCons (gName i) (gCons (gName j) gNil)) x σ H Q' := by
  rintro x σ H Q Q' h ⟨a, xs, e, hs, hl, v, r, e1, v2, r2, e2, e3, q⟩
  exact ⟨a, xs, e, hs, hl, v, r, e1, v2, r2, e2, e3, h _ _ q⟩
theorem gm_name {i : Nat} : ∀ x σ H (Q Q' : L2.St → Hp → Prop), (∀ σ' H', Q σ' H' → Q' σ' H') → gName i x σ H Q → gName i x σ H Q' := fun _ _ _ _ _ h q => h _ _ q
end Cw
end
section
set_option Elab.async false
set_option linter.all false
set_option maxRecDepth 100000
namespace Cw
open PySem PySem.Spec PyProof.Rows L2
section
variable {X : Cx}
def rInsert : V → List V → Hp → VK → Prop := fun x vs H Q => ∃ l xs k y, x = .ref l ∧ vs = [.int (k : Nat), y] ∧ H l = some (.lst xs) ∧ k ≤ xs.length ∧ xs.length < 1000 ∧ Q .non (upd H l (.lst (xs.take k ++ y :: xs.drop k)))
theorem vals_two {xs : List V} {us : List Value} {i : Int} {y : V} (r : Vals [V.int i, y] us) : ∃ t u, us = [Value.int i t, u] ∧ RelV y u := by
  obtain ⟨u, w', e, r1, r2⟩ := vals2 r
  obtain ⟨t, rfl⟩ := r1
  exact ⟨t, w', e, r2⟩
theorem mt_insert : MtR X "list.insert" rInsert := by
  intro pins s σ H x vs v us Q I rx rv h
  obtain ⟨l, xs, k, y, rfl, rfl, hH, hk, hz, q⟩ := h
  cases rx
  obtain ⟨t, u, rfl, ru⟩ := vals_two (xs := []) rv
  obtain ⟨z, its, n, r, hl, e⟩ := I.lstM hH
  have hsz : its.toArray.size ≤ sizeLine := by
    rw [List.size_toArray]
    exact Nat.le_of_lt (small1000 (by omega))
  have hneg : ¬ ((k : Int) < 0) := by omega
  have hmin : min ((k : Int)).toNat its.toArray.size = k := by
    rw [List.size_toArray]
    omega
  have hfit : ¬ (!Builtin.List.listFitsIndex ((k : Nat) : Int)) = true := by
    have : Builtin.List.listFitsIndex ((k : Nat) : Int) = true := by
      unfold Builtin.List.listFitsIndex
      simp only [Bool.and_eq_true, decide_eq_true_eq]
      omega
    rw [this]
    exact fun q => nomatch q
  have hv : Vals (xs.take k ++ y :: xs.drop k) (its.take k ++ u :: its.drop k) := (r.take k).append (.cons ru (r.drop k))
  have hzz : (xs.take k ++ y :: xs.drop k).length ≤ sizeLine := by
    rw [List.length_append, List.length_cons, List.length_take, List.length_drop]
    have : (1000 : Nat) < sizeLine := small1000 (Nat.le_refl _)
    omega
  have hf : (fun xs : Array Value => have j := if (k : Int) < 0 then ((k : Int) + (xs.size : Int)).toNat else min ((k : Int)).toNat xs.size; (xs.extract 0 j).push u ++ xs.extract j) its.toArray = (its.take k ++ u :: its.drop k).toArray := by
    dsimp only
    rw [if_neg hneg, hmin]
    simp
    exact List.take_of_length_le (by rw [List.length_drop]; exact Nat.le_refl _)
  have I2 := I.lset (t' := s.toks) (f := fun xs : Array Value => have j := if (k : Int) < 0 then ((k : Int) + (xs.size : Int)).toNat else min ((k : Int)).toNat xs.size; (xs.extract 0 j).push u ++ xs.extract j) hH e hf hv hzz
  generalize ((k : Nat) : Int) = kk at *
  exact call_meets F.slot_list_insert ⟨_, e, rfl⟩ F.entry_list_insert (F.args_list_insert_3 (.ref l) (.int kk t) u) (AutoSeq1.list_insert_list_int_val_1 l its.toArray n kk t u hfit hsz) ⟨e, ⟨.non, _, I2, rfl, q⟩⟩
def rRange1 : List V → Hp → VK → Prop := fun xs H Q => ∃ j : Nat, xs = [.int j] ∧ ∀ p, H p = none → Q (.ref p) (upd H p (.rng 0 j))
theorem crRange1 : CallR X (.type "range") rRange1 := by
  intro pins s σ H xs us Q I r h
  obtain ⟨j, rfl, q⟩ := h
  obtain ⟨u, rfl, ru⟩ := vals1 r
  obtain ⟨t, rfl⟩ := ru
  refine call_range_1 ?_
  exact ⟨.ref s.heap.objs.size, _, I.laid (o := .rng 0 j) (fun b o e => Heap.get?_push_of_some _ e) (Nat.le_refl _) ⟨_, _, _, Heap.get?_push_size _ rfl⟩, rfl, q _ I.fresh⟩
def rListR : List V → Hp → VK → Prop := fun xs H Q => ∃ (p : Addr) (n : Nat), xs = [.ref p] ∧ H p = some (.rng 0 n) ∧ n ≤ 1000 ∧ ∀ l, H l = none → Q (.ref l) (upd H l (.lst ((List.range n).map fun (k : Nat) => V.int k)))
theorem vals_range : ∀ (l : List Value) (n a : Nat), l.length = n → (∀ j v, l[j]? = some v → ∃ t, v = Value.int ((a + j : Nat) : Int) t) → Vals ((List.range' a n).map fun (k : Nat) => V.int k) l
  | [], n, a, h, _ => by
    have : n = 0 := by simpa using h.symm
    subst this
    exact .nil
  | v :: l, n, a, h, hv => by
    cases n with
    | zero => simp at h
    | succ n =>
      rw [List.range'_succ, List.map_cons]
      refine .cons ?_ (vals_range l n (a + 1) (by simpa using h) fun j u e => ?_)
      · obtain ⟨t, e⟩ := hv 0 v rfl
        exact ⟨t, e⟩
      · obtain ⟨t, e2⟩ := hv (j + 1) u (by simpa using e)
        refine ⟨t, ?_⟩
        rw [e2]
        congr 2
        omega
theorem crListR (hc : X.calm = true) : CallR X (.type "list") rListR := by
  intro pins s σ H xs us Q I r h
  obtain ⟨p, n, rfl, hp, hn, q⟩ := h
  obtain ⟨u, rfl, ru⟩ := vals1 r
  cases ru
  obtain ⟨t, u, v, e⟩ := I.hok p _ hp
  refine call_list_range (n := n) (I.ok.hd hc) e (small_one (by omega) (by omega) (by omega) (by omega)) (by rw [rangeSize_one]; split <;> omega) (by omega) ?_
  intro h' tk acc' c' hk ha hi
  obtain ⟨h1, h2⟩ := hi
  refine ⟨.ref s.heap.objs.size, upd H s.heap.objs.size (.lst ((List.range n).map fun (k : Nat) => V.int k)), I.laid hk (Nat.le_refl _) ⟨by rw [List.length_map, List.length_range]; exact Nat.le_of_lt (small1000 hn), acc'.toList, c', ?_, ?_⟩, rfl, q _ I.fresh⟩
  · rw [List.range_eq_range']
    refine vals_range acc'.toList n 0 (by rw [Array.length_toList]; exact h1) fun j u e => ?_
    obtain ⟨t, e2⟩ := h2 j u (by rw [← Array.getElem?_toList]; exact e)
    refine ⟨t, ?_⟩
    rw [e2]
    congr 1
    omega
  · rw [ha]
end
end Cw
end
section
set_option Elab.async false
set_option linter.all false
set_option maxRecDepth 100000
namespace Cw
open PySem PySem.Spec PyProof.Rows L2
section
variable {X : Cx} {K : PySem.W.Frag}
theorem opIn (h : X.K = K) : OpR X (compareOp .In) (rIn K false) := h ▸ op_in_seq
theorem opEqD (h : X.K = K) (hu : X.A.units + 64 < cLine) : OpR X (compareOp .Eq) (rEqD K) := h ▸ op_eqD hu
def tLk (td : TE) : TE := fun σ H Q => td σ H fun x H1 => ∃ d u, x = .ref d ∧ H1 d = some u ∧ Mut (some u) ∧ ∀ od, Q x (upd H1 d (.frz od u))
theorem pe_lk {e : Expr} {td : TE} (he : PE X e td) : PE X e (tLk td) := by
  intro pins s σ H Q I h
  refine thn (he pins s σ H _ I h) fun v s1 ⟨x, H1, I1, rx, d, u, ex, hd, mu, q⟩ => ?_
  obtain ⟨od, I2⟩ := I1.lock hd mu
  exact ⟨x, _, I2, rx, q od⟩
theorem vals_keys : ∀ (kvs : List (Key × V)) (vs : List (Key × Value)) (l : List Value), KV kvs vs → l.length = kvs.length → (∀ (j : Nat) (v : Value), l[j]? = some v → ∃ k x, vs[j]? = some (k, x) ∧ keyIs k v = true) → Vals (kvs.map fun kv => kV kv.1) l
  | _, _, [], .nil, _, _ => .nil
  | _, _, v :: l, .nil, h, _ => by simp at h
  | _, _, [], .cons _ _, h, _ => by simp at h
  | _, _, v :: l, .cons (a := kv) (b := x) h1 t, h, hv => by
    refine .cons ?_ (vals_keys _ _ l t (by simpa using h) fun j u e => ?_)
    · obtain ⟨k, y, e1, e2⟩ := hv 0 v rfl
      have e3 := Option.some.inj e1
      show RelV (kV kv.1) v
      rw [h1.1, e3]
      exact relV_key e2
    · obtain ⟨k, y, e1, e2⟩ := hv (j + 1) u (by simpa using e)
      exact ⟨k, y, by simpa using e1, e2⟩
def rListD : List V → Hp → VK → Prop := fun xs H Q => ∃ p kvs, xs = [.ref p] ∧ H p = some (.dK kvs) ∧ kvs.length ≤ 1000 ∧ ∀ l, H l = none → Q (.ref l) (upd H l (.lst (kvs.map fun kv => kV kv.1)))
theorem crListD (hc : X.calm = true) : CallR X (.type "list") rListD := by
  intro pins s σ H xs us Q I r h
  obtain ⟨p, kvs, rfl, hp, hn, q⟩ := h
  obtain ⟨u, rfl, rx⟩ := vals1 r
  cases rx
  obtain ⟨hz, hs, vs, kv, hd⟩ := dk_of I.hok hp
  obtain ⟨o, es, ep, r1⟩ := hd
  have hl : kvs.length = vs.length := Paired.length kv
  refine PySem.W.kdl_call (PySem.W.kdl_dict (knd := mixKind X.prog X.w) (kvs := vs) (ep := ep) hs) (I.ok.hd hc) ⟨o, es, r1⟩ (by omega) ?_
  intro h' tk acc' c' hk ha hi
  obtain ⟨h1, h2⟩ := hi
  refine ⟨.ref s.heap.objs.size, upd H s.heap.objs.size (.lst (kvs.map fun kv => kV kv.1)), I.laid hk (Nat.le_refl _) ⟨by rw [List.length_map]; exact hz, acc'.toList, c', ?_, ?_⟩, rfl, q _ I.fresh⟩
  · exact vals_keys kvs vs acc'.toList kv (by rw [Array.length_toList, h1, hl]) fun j u e => h2 j u (by rw [← Array.getElem?_toList]; exact e)
  · rw [ha]
end
end Cw
end
section
set_option linter.all false
namespace Cw
open Vbecam
def F (r : Rat) : Frac := (r.num, (r.den : Int))
theorem F_inj {x y : Rat} (h : F x = F y) : x = y := by
 have h1 := congrArg Prod.fst h
 have h2 := congrArg Prod.snd h
 simp only [F] at h1 h2
 exact Rat.ext h1 (by omega)
theorem F_iff {x y : Rat} : F x = F y ↔ x = y := ⟨F_inj, fun h => by rw [h]⟩
theorem num_den (x : Rat) : (x.num : Rat) / ((x.den : Int) : Rat) = x := by
 rw [← Rat.divInt_eq_div]; exact Rat.num_divInt_den x
theorem frac_eq (a b : Int) : frac a b = F ((a : Rat) / (b : Rat)) := by
 rw [← Rat.divInt_eq_div]
 unfold frac F
 rw [Rat.num_divInt, Rat.den_divInt]
 have hg : (b.gcd a : Nat) = Nat.gcd a.natAbs b.natAbs := by
  rw [Int.gcd, Nat.gcd_comm]
 by_cases hb : b = 0
 ·subst hb; simp
 ·rw [if_neg hb, if_neg hb, hg]
  have e2 : ((b.natAbs / Nat.gcd a.natAbs b.natAbs : Nat) : Int) = (b.natAbs : Int) / ((Nat.gcd a.natAbs b.natAbs : Nat) : Int) := Int.natCast_ediv _ _
  by_cases hn : b < 0
  ·rw [if_pos hn, e2]
   have e3 : (b.natAbs : Int) = -b := by omega
   rw [e3, Int.sign_eq_neg_one_of_neg hn]
   simp
  ·rw [if_neg hn, e2]
   have e3 : (b.natAbs : Int) = b := by omega
   rw [e3, Int.sign_eq_one_of_pos (by omega)]
   simp
theorem den_ne (x : Rat) : ((x.den : Int) : Rat) ≠ 0 := by
 have := x.den_nz
 intro h
 have h2 : ((x.den : Int)) = 0 := by exact_mod_cast h
 omega
theorem plus_F (x y : Rat) : plus (F x) (F y) = F (x + y) := by
 unfold plus
 rw [frac_eq]
 congr 1
 simp only [F]
 have hx := num_den x
 have hy := num_den y
 have h1 := den_ne x
 have h2 := den_ne y
 rw [Rat.intCast_add, Rat.intCast_mul, Rat.intCast_mul, Rat.intCast_mul]
 conv => rhs; rw [← hx, ← hy]
 generalize (x.num : Rat) = a at *
 generalize (y.num : Rat) = b at *
 generalize ((x.den : Int) : Rat) = c at *
 generalize ((y.den : Int) : Rat) = d at *
 grind
theorem minus_F (x y : Rat) : minus (F x) (F y) = F (x - y) := by
 unfold minus
 rw [frac_eq]
 congr 1
 simp only [F]
 have hx := num_den x
 have hy := num_den y
 have h1 := den_ne x
 have h2 := den_ne y
 rw [Rat.intCast_sub, Rat.intCast_mul, Rat.intCast_mul, Rat.intCast_mul]
 conv => rhs; rw [← hx, ← hy]
 generalize (x.num : Rat) = a at *
 generalize (y.num : Rat) = b at *
 generalize ((x.den : Int) : Rat) = c at *
 generalize ((y.den : Int) : Rat) = d at *
 grind
theorem times_F (x y : Rat) : times (F x) (F y) = F (x * y) := by
 unfold times
 rw [frac_eq]
 congr 1
 simp only [F]
 have hx := num_den x
 have hy := num_den y
 have h1 := den_ne x
 have h2 := den_ne y
 rw [Rat.intCast_mul, Rat.intCast_mul]
 conv => rhs; rw [← hx, ← hy]
 generalize (x.num : Rat) = a at *
 generalize (y.num : Rat) = b at *
 generalize ((x.den : Int) : Rat) = c at *
 generalize ((y.den : Int) : Rat) = d at *
 grind
theorem divide_F (x y : Rat) : divide (F x) (F y) = F (x / y) := by
 unfold divide
 rw [frac_eq]
 congr 1
 simp only [F]
 have hx := num_den x
 have hy := num_den y
 have h1 := den_ne x
 have h2 := den_ne y
 rw [Rat.intCast_mul, Rat.intCast_mul]
 conv => rhs; rw [← hx, ← hy]
 generalize (x.num : Rat) = a at *
 generalize (y.num : Rat) = b at *
 generalize ((x.den : Int) : Rat) = c at *
 generalize ((y.den : Int) : Rat) = d at *
 by_cases hb : b = 0
 ·subst hb; simp [Rat.div_def]
 ·grind
theorem whole_F (n : Int) : Vbecam.whole n = F (n : Rat) := by
 unfold Vbecam.whole F
 simp
theorem zero_F : ((0, 1) : Frac) = F 0 := rfl
theorem lessF_F (x y : Rat) : lessF (F x) (F y) = decide (x < y) := by
 unfold lessF F
 rw [decide_eq_decide, Rat.lt_iff]
theorem positive_F (x : Rat) : positive (F x) = decide (0 < x) := by
 unfold positive F
 rw [decide_eq_decide, Rat.lt_iff]
 simp
theorem fst_F (x : Rat) : (F x).1 = 0 ↔ x = 0 := Rat.num_eq_zero
theorem sumF_go (l : List Rat) (a : Rat) : (l.map F).foldl plus (F a) = F (l.foldl (· + ·) a) := by
 induction l generalizing a with
 | nil => rfl
 | cons x l ih => simp only [List.map_cons, List.foldl_cons, plus_F, ih]
theorem foldl_add (l : List Rat) (a : Rat) : l.foldl (· + ·) a = a + l.sum := by
 induction l generalizing a with
 | nil => simp [Rat.add_zero]
 | cons x l ih => simp only [List.foldl_cons, List.sum_cons, ih]; grind
theorem sumF_F (l : List Rat) : sumF (l.map F) = F l.sum := by
 unfold sumF
 rw [zero_F, sumF_go, foldl_add]; congr 1; grind
theorem beqF (x y : Rat) : (F x == F y) = decide (x = y) := by
 rw [Bool.eq_iff_iff]; simp [F_iff]
end Cw
end
section
set_option linter.all false
namespace Cw
open Vbecam
theorem getD_F (l : List Rat) (i : Nat) : (l.map F).getD i (0, 1) = F (l.getD i 0) := by
 rw [zero_F]
 simp only [List.getD_eq_getElem?_getD, List.getElem?_map]
 cases l[i]? <;> rfl
theorem getDD_F (l : List (List Rat)) (i : Nat) : (l.map (List.map F)).getD i [] = (l.getD i []).map F := by
 simp only [List.getD_eq_getElem?_getD, List.getElem?_map]
 cases l[i]? <;> rfl
theorem headD_F (l : List Rat) : (l.map F).headD (0, 1) = F (l.headD 0) := by
 cases l <;> rfl
def sharesR (w : List Int) : List Rat := w.map fun (v : Int) => (v : Rat) / ((w.sum : Int) : Rat)
theorem foldl_addI (l : List Int) (a : Int) : l.foldl (fun a b => a + b) a = a + l.sum := by
 induction l generalizing a with
 | nil => simp
 | cons x l ih => simp only [List.foldl_cons, List.sum_cons, ih]; omega
theorem mixture_F (w : List Int) : mixture w = (sharesR w).map F := by
 unfold mixture sharesR
 simp only [foldl_addI, Int.zero_add, List.map_map]
 apply List.map_congr_left
 intro v _
 simp only [frac_eq, Function.comp]
theorem shareOf_F (q : List Rat) (i : Nat) : shareOf (q.map F) i = F (q.getD i 0) := getD_F q i
def againstR (s : State) (q : List Rat) (i : Nat) : Rat := (s.all.map fun j => (win s i j : Rat) * q.getD j 0).sum
def valueR (s : State) (p q : List Rat) : Rat := (s.all.map fun i => p.getD i 0 * againstR s q i).sum
theorem against_F (s : State) (q : List Rat) (i : Nat) : against s (q.map F) i = F (againstR s q i) := by
 unfold against againstR
 rw [← sumF_F, List.map_map]
 congr 1
 apply List.map_congr_left
 intro j _
 simp only [whole_F, shareOf_F, times_F, Function.comp]
theorem value_F (s : State) (p q : List Rat) : value s (p.map F) (q.map F) = F (valueR s p q) := by
 unfold value valueR
 rw [← sumF_F, List.map_map]
 congr 1
 apply List.map_congr_left
 intro j _
 simp only [against_F, shareOf_F, times_F, Function.comp]
def greatestR (l : List Rat) : Rat := l.foldl (fun a b => if a < b then b else a) (l.headD 0)
theorem greatest_go (l : List Rat) (a : Rat) : (l.map F).foldl (fun a b => if lessF a b = true then b else a) (F a) = F (l.foldl (fun a b => if a < b then b else a) a) := by
 induction l generalizing a with
 | nil => rfl
 | cons x l ih =>
  simp only [List.map_cons, List.foldl_cons, lessF_F, decide_eq_true_eq]
  rw [← ih]
  congr 1
  split <;> rfl
theorem greatest_F (l : List Rat) : greatest (l.map F) = F (greatestR l) := by
 unfold greatest greatestR
 rw [headD_F, greatest_go]
def bestR (s : State) (q : List Rat) : Rat := greatestR (s.all.map fun i => againstR s q i)
theorem best_F (s : State) (q : List Rat) : bestValue s (q.map F) = F (bestR s q) := by
 unfold bestValue bestR
 rw [← greatest_F, List.map_map]
 congr 1
 apply List.map_congr_left
 intro j _
 simp only [against_F, Function.comp]
def repliesR (s : State) (q : List Rat) : List Nat := s.all.filter fun i => decide (againstR s q i = bestR s q)
theorem replies_F (s : State) (q : List Rat) : replies s (q.map F) = repliesR s q := by
 unfold replies repliesR
 apply List.filter_congr
 intro i _
 rw [against_F, best_F, beqF]
def supportR (s : State) (p : List Rat) : List Nat := s.all.filter fun i => decide (0 < p.getD i 0)
theorem support_F (s : State) (p : List Rat) : supportOf s (p.map F) = supportR s p := by
 unfold supportOf supportR
 apply List.filter_congr
 intro i _
 rw [shareOf_F, positive_F]
def isRestR (s : State) (p : List Rat) : Bool := (supportR s p).all fun i => (repliesR s p).contains i
theorem isRest_F (s : State) (p : List Rat) : isRest s (p.map F) = isRestR s p := by
 unfold isRest isRestR
 rw [support_F, replies_F]
def clearedR (c : Nat) (u r : List Rat) : List Rat := (List.range r.length).map fun i => r.getD i 0 - r.getD c 0 * u.getD i 0
theorem cleared_F (c : Nat) (u r : List Rat) : cleared c (u.map F) (r.map F) = (clearedR c u r).map F := by
 unfold cleared clearedR
 simp only [List.length_map, List.map_map]
 apply List.map_congr_left
 intro i _
 simp only [getD_F, times_F, minus_F, Function.comp]
def solvingR (c : Nat) : Nat → List (List Rat) → List (List Rat) → List (List Rat)
 | 0, done, _ => done
 | f + 1, done, rest => match rest.findIdx? fun r => decide (r.getD c 0 ≠ 0) with
  | none => done
  | some i =>
   let r := rest.getD i []
   let u := r.map fun x => x / r.getD c 0
   solvingR (c + 1) f (done.map (clearedR c u) ++ [u]) ((rest.eraseIdx i).map (clearedR c u))
theorem map_eraseIdx {α β : Type} (f : α → β) : ∀ (l : List α) (i : Nat), (l.map f).eraseIdx i = (l.eraseIdx i).map f
 | [], _ => rfl
 | _ :: _, 0 => rfl
 | a :: l, i + 1 => by simp only [List.map_cons, List.eraseIdx_cons_succ, map_eraseIdx f l i]
theorem solving_F (f : Nat) : ∀ (c : Nat) (done rest : List (List Rat)), solving c f (done.map (List.map F)) (rest.map (List.map F)) = (solvingR c f done rest).map (List.map F) := by
 induction f with
 | zero => intro c done rest; rfl
 | succ f ih =>
  intro c done rest
  unfold solving solvingR
  have e : (rest.map (List.map F)).findIdx? (fun r => (r.getD c (0, 1)).1 != 0) = rest.findIdx? fun r => decide (r.getD c 0 ≠ 0) := by
   rw [List.findIdx?_map]
   congr 1
   funext r
   simp only [Function.comp, getD_F]
   rw [Bool.eq_iff_iff]
   simp only [bne_iff_ne, ne_eq, fst_F, decide_eq_true_eq]
  rw [e]
  cases rest.findIdx? fun r => decide (r.getD c 0 ≠ 0) with
  | none => rfl
  | some i =>
   dsimp only
   rw [← ih]
   simp only [getDD_F, getD_F, List.map_map, map_eraseIdx, List.map_append, List.map_cons, List.map_nil]
   have ed : ∀ r : List Rat, (r.map fun x => divide (F x) (F ((rest.getD i []).getD c 0))) = (r.map fun x => x / (rest.getD i []).getD c 0).map F := by
    intro r
    rw [List.map_map]
    apply List.map_congr_left
    intro x _
    simp only [divide_F, Function.comp]
   have e1 : (List.map ((fun x => divide x (F ((rest.getD i []).getD c 0))) ∘ F) (rest.getD i [])) = ((rest.getD i []).map fun x => x / (rest.getD i []).getD c 0).map F := ed _
   rw [e1]
   have e2 : ∀ l : List (List Rat), (l.map (cleared c (((rest.getD i []).map fun x => x / (rest.getD i []).getD c 0).map F) ∘ List.map F)) = l.map (List.map F ∘ clearedR c ((rest.getD i []).map fun x => x / (rest.getD i []).getD c 0)) := by
    intro l
    apply List.map_congr_left
    intro r _
    simp only [Function.comp, cleared_F]
   rw [e2, e2]
   congr 1
   simp only [List.map_map]
def solvedR (n : Nat) (rows : List (List Rat)) : Option (List Rat) :=
 let d := solvingR 0 n [] rows
 if d.length = n then some (d.map fun r => r.getD n 0) else none
theorem solved_F (n : Nat) (rows : List (List Rat)) : solved n (rows.map (List.map F)) = (solvedR n rows).map (List.map F) := by
 unfold solved solvedR
 have e := solving_F n 0 [] rows
 rw [List.map_nil] at e
 simp only [e, List.length_map]
 split
 ·simp only [Option.map_some, List.map_map]
  congr 1
  apply List.map_congr_left
  intro r _
  simp only [Function.comp, getD_F]
 ·rfl
def equationsR (s : State) (l : List Nat) : List (List Rat) :=
 (l.map fun i => (l.map fun j => (win s i j : Rat)) ++ [-1, 0]) ++ [(l.map fun _ => 1) ++ [0, 1]]
def balancedR (s : State) (l : List Nat) : Option (List Rat) := solvedR (l.length + 1) (equationsR s l)
theorem balanced_F (s : State) (l : List Nat) : balanced s l = (balancedR s l).map (List.map F) := by
 unfold balanced balancedR
 rw [← solved_F]
 congr 1
 unfold equationsR
 simp only [List.map_append, List.map_map, List.map_cons, List.map_nil]
 congr 1
 ·apply List.map_congr_left
  intro i _
  simp only [Function.comp, List.map_append, List.map_map, List.map_cons, List.map_nil]
  congr 1
def spreadR (s : State) (l : List Nat) (v : List Rat) : List Rat := s.all.map fun i => match l.findIdx? fun j => j == i with
 | none => 0
 | some k => v.getD k 0
theorem spread_F (s : State) (l : List Nat) (v : List Rat) : spreadOut s l (v.map F) = (spreadR s l v).map F := by
 unfold spreadOut spreadR
 rw [List.map_map]
 apply List.map_congr_left
 intro i _
 simp only [Function.comp]
 cases l.findIdx? fun j => j == i with
 | none => rfl
 | some k => exact getD_F v k
def equilibriumR (s : State) (l : List Nat) : Option (List Rat) := match balancedR s l with
 | none => none
 | some v => if ((List.range l.length).all fun k => decide (0 < v.getD k 0)) && isRestR s (spreadR s l v) then some (spreadR s l v) else none
theorem equilibrium_F (s : State) (l : List Nat) : equilibrium s l = (equilibriumR s l).map (List.map F) := by
 unfold equilibrium equilibriumR
 rw [balanced_F]
 cases balancedR s l with
 | none => rfl
 | some v =>
  simp only [Option.map_some, spread_F, isRest_F, getD_F, positive_F]
  split <;> rfl
theorem singular_F (s : State) (l : List Nat) : singular s l = (balancedR s l).isNone := by
 unfold singular
 rw [balanced_F]
 cases balancedR s l <;> rfl
end Cw
end
section
set_option linter.all false
namespace Cw
abbrev Rw := Nat → Rat
def alt (f : Rw → List Rw → Rat) : List Rw → Rat
 | [] => 0
 | r :: l => f r l - alt (fun x m => f x (r :: m)) l
def dt : List Nat → List Rw → Rat
 | [], [] => 1
 | [], _ :: _ => 0
 | c :: S, rows => alt (fun r m => r c * dt S m) rows
theorem alt_congr {f g : Rw → List Rw → Rat} (h : ∀ r m, f r m = g r m) : ∀ l, alt f l = alt g l := by
 intro l
 have : f = g := by funext r m; exact h r m
 rw [this]
theorem alt_lin (k : Rat) : ∀ (l : List Rw) (f g : Rw → List Rw → Rat), alt (fun r m => f r m + k * g r m) l = alt f l + k * alt g l := by
 intro l
 induction l with
 | nil => intro f g; simp only [alt]; grind
 | cons r l ih =>
  intro f g
  simp only [alt]
  rw [ih (fun x m => f x (r :: m)) (fun x m => g x (r :: m))]
  grind
theorem alt_zero : ∀ (l : List Rw) (f : Rw → List Rw → Rat), (∀ r m, f r m = 0) → alt f l = 0 := by
 intro l
 induction l with
 | nil => intro f _; rfl
 | cons r l ih =>
  intro f h
  simp only [alt]
  rw [h, ih _ (fun x m => h x (r :: m))]
  grind
def lin (k : Rat) (a b : Rw) : Rw := fun j => a j + k * b j
theorem alt_row (k : Rat) (a b : Rw) : ∀ (pre post : List Rw) (f : Rw → List Rw → Rat),
  (∀ m, f (lin k a b) m = f a m + k * f b m) → (∀ y p q, f y (p ++ lin k a b :: q) = f y (p ++ a :: q) + k * f y (p ++ b :: q)) →
  alt f (pre ++ lin k a b :: post) = alt f (pre ++ a :: post) + k * alt f (pre ++ b :: post) := by
 intro pre
 induction pre with
 | nil =>
  intro post f h1 h2
  simp only [List.nil_append, alt]
  rw [h1, alt_congr (f := fun x m => f x (lin k a b :: m)) (g := fun x m => f x (a :: m) + k * f x (b :: m)) (fun r m => h2 r [] m), alt_lin]
  grind
 | cons r pre ih =>
  intro post f h1 h2
  simp only [List.cons_append, alt]
  rw [h2, ih post (fun x m => f x (r :: m)) (fun m => h1 (r :: m)) (fun y p q => h2 y (r :: p) q)]
  grind
theorem dt_row (k : Rat) (a b : Rw) : ∀ (S : List Nat) (pre post : List Rw), dt S (pre ++ lin k a b :: post) = dt S (pre ++ a :: post) + k * dt S (pre ++ b :: post) := by
 intro S
 induction S with
 | nil =>
  intro pre post
  cases pre <;> simp only [List.nil_append, List.cons_append, dt] <;> grind
 | cons c S ih =>
  intro pre post
  simp only [dt]
  refine alt_row k a b pre post _ ?_ ?_
  ·intro m; simp only [lin]; grind
  ·intro y p q; rw [ih]; grind
theorem alt_adj (a : Rw) : ∀ (pre post : List Rw) (f : Rw → List Rw → Rat), (∀ y p q, f y (p ++ a :: a :: q) = 0) → alt f (pre ++ a :: a :: post) = 0 := by
 intro pre
 induction pre with
 | nil =>
  intro post f h
  simp only [List.nil_append, alt]
  rw [alt_zero post (fun x m => f x (a :: a :: m)) (fun r m => h r [] m)]
  grind
 | cons r pre ih =>
  intro post f h
  simp only [List.cons_append, alt]
  rw [h, ih post _ (fun y p q => h y (r :: p) q)]
  grind
theorem dt_adj (a : Rw) : ∀ (S : List Nat) (pre post : List Rw), dt S (pre ++ a :: a :: post) = 0 := by
 intro S
 induction S with
 | nil => intro pre post; cases pre <;> rfl
 | cons c S ih =>
  intro pre post
  simp only [dt]
  exact alt_adj a pre post _ (fun y p q => by rw [ih]; grind)
theorem dt_swap (S : List Nat) (pre post : List Rw) (a b : Rw) : dt S (pre ++ a :: b :: post) = - dt S (pre ++ b :: a :: post) := by
 have h0 := dt_adj (lin 1 a b) S pre post
 have h1 := dt_row 1 a b S pre (lin 1 a b :: post)
 have h2 := dt_row 1 a b S (pre ++ [a]) post
 have h3 := dt_row 1 a b S (pre ++ [b]) post
 simp only [List.append_assoc, List.cons_append, List.nil_append] at h2 h3
 have h4 := dt_adj a S pre post
 have h5 := dt_adj b S pre post
 grind
theorem dt_eq (S : List Nat) (a : Rw) : ∀ (mid pre post : List Rw), dt S (pre ++ a :: (mid ++ a :: post)) = 0 := by
 intro mid
 induction mid with
 | nil => intro pre post; exact dt_adj a S pre post
 | cons m mid ih =>
  intro pre post
  have h := ih (pre ++ [m]) post
  simp only [List.append_assoc, List.cons_append, List.nil_append] at h
  rw [List.cons_append, dt_swap, h]
  grind
def zrow : Rw := fun _ => 0
theorem dt_zrow (S : List Nat) (pre post : List Rw) : dt S (pre ++ zrow :: post) = 0 := by
 have h := dt_row 1 zrow zrow S pre post
 have e : lin 1 zrow zrow = zrow := by funext j; simp only [lin, zrow]; grind
 rw [e] at h
 grind
theorem dt_scale (S : List Nat) (k : Rat) (u : Rw) (pre post : List Rw) : dt S (pre ++ (fun j => k * u j) :: post) = k * dt S (pre ++ u :: post) := by
 have h := dt_row k zrow u S pre post
 have e : lin k zrow u = fun j => k * u j := by funext j; simp only [lin, zrow]; grind
 rw [e, dt_zrow] at h
 grind
theorem dt_clear_behind (S : List Nat) (u : Rw) (k : Rw → Rat) : ∀ (M pre Q : List Rw), dt S (pre ++ u :: (Q ++ M.map fun r => lin (k r) r u)) = dt S (pre ++ u :: (Q ++ M)) := by
 intro M
 induction M with
 | nil => intro pre Q; rfl
 | cons r M ih =>
  intro pre Q
  have h := dt_row (k r) r u S (pre ++ u :: Q) (M.map fun r => lin (k r) r u)
  have h2 := ih pre (Q ++ [r])
  simp only [List.append_assoc, List.cons_append, List.nil_append] at h h2
  rw [dt_eq] at h
  rw [List.map_cons, h, h2]
  grind
theorem dt_clear_ahead (S : List Nat) (u : Rw) (k : Rw → Rat) : ∀ (L P post : List Rw), dt S (P ++ ((L.map fun r => lin (k r) r u) ++ u :: post)) = dt S (P ++ (L ++ u :: post)) := by
 intro L
 induction L with
 | nil => intro P post; rfl
 | cons r L ih =>
  intro P post
  have h := dt_row (k r) r u S P ((L.map fun r => lin (k r) r u) ++ u :: post)
  have h2 := ih (P ++ [r]) post
  have h3 := dt_eq S u (L.map fun r => lin (k r) r u) P post
  simp only [List.append_assoc, List.cons_append, List.nil_append] at h h2
  rw [h3] at h
  rw [List.map_cons, List.cons_append, h, h2]
  simp only [List.cons_append]
  grind
theorem dt_move (S : List Nat) (x : Rw) : ∀ (M L : List Rw), ∃ e : Int, (e = 1 ∨ e = -1) ∧ dt S (L ++ x :: M) = (e : Rat) * dt S (L ++ (M ++ [x])) := by
 intro M
 induction M with
 | nil => intro L; exact ⟨1, .inl rfl, by simp only [List.nil_append]; grind⟩
 | cons m M ih =>
  intro L
  obtain ⟨e, he, h⟩ := ih (L ++ [m])
  simp only [List.append_assoc, List.cons_append, List.nil_append] at h
  refine ⟨-e, by omega, ?_⟩
  rw [dt_swap, h, List.cons_append]
  rw [Rat.intCast_neg]
  grind
theorem alt_head (f : Rw → List Rw → Rat) (r : Rw) (l : List Rw) (h : ∀ x ∈ l, ∀ m, f x m = 0) : alt f (r :: l) = f r l := by
 have go : ∀ (l : List Rw) (f : Rw → List Rw → Rat), (∀ x ∈ l, ∀ m, f x m = 0) → alt f l = 0 := by
  intro l
  induction l with
  | nil => intro f _; rfl
  | cons y l ih =>
   intro f h
   simp only [alt]
   rw [h y (List.Mem.head _), ih _ (fun x hx m => h x (List.Mem.tail _ hx) (y :: m))]
   grind
 simp only [alt]
 rw [go l _ (fun x hx m => h x hx (r :: m))]
 grind
theorem dt_head (c : Nat) (S : List Nat) (r : Rw) (l : List Rw) (h1 : r c = 1) (h : ∀ x ∈ l, x c = 0) : dt (c :: S) (r :: l) = dt S l := by
 simp only [dt]
 rw [alt_head _ _ _ (fun x hx m => by rw [h x hx]; grind), h1]
 grind
theorem dt_units (j : Nat) (k : Rw) : ∀ (cs : List Nat) (rows : List Rw), rows.length = cs.length → (∀ (a b : Nat) (r : Rw) (c : Nat), rows[a]? = some r → cs[b]? = some c → r c = if a = b then 1 else 0) → (∀ c ∈ cs, k c = 0) → dt (cs ++ [j]) (rows ++ [k]) = k j := by
 intro cs
 induction cs with
 | nil =>
  intro rows hl _ _
  have : rows = [] := List.eq_nil_of_length_eq_zero hl
  subst this
  simp only [List.nil_append, dt, alt]
  grind
 | cons c cs ih =>
  intro rows hl hu hk
  cases rows with
  | nil => simp at hl
  | cons r rows =>
   rw [List.cons_append, List.cons_append, dt_head]
   ·refine ih rows (by simpa using hl) ?_ (fun x hx => hk x (List.Mem.tail _ hx))
    intro a b r' c' h1 h2
    have := hu (a + 1) (b + 1) r' c' (by simpa using h1) (by simpa using h2)
    simpa using this
   ·have := hu 0 0 r c rfl rfl
    simpa using this
   ·intro x hx
    rcases List.mem_append.mp hx with h | h
    ·obtain ⟨a, ha⟩ := List.mem_iff_getElem?.mp h
     have := hu (a + 1) 0 x c (by simpa using ha) rfl
     simpa using this
    ·have : x = k := by simpa using h
     subst this
     exact hk c (List.Mem.head _)
def Wh (x : Rat) : Prop := ∃ n : Int, x = (n : Rat)
theorem Wh.int (n : Int) : Wh (n : Rat) := ⟨n, rfl⟩
theorem Wh.zero : Wh 0 := ⟨0, rfl⟩
theorem Wh.one : Wh 1 := ⟨1, rfl⟩
theorem Wh.sub {x y : Rat} : Wh x → Wh y → Wh (x - y)
 | ⟨a, ha⟩, ⟨b, hb⟩ => ⟨a - b, by rw [ha, hb, Rat.intCast_sub]⟩
theorem Wh.mul {x y : Rat} : Wh x → Wh y → Wh (x * y)
 | ⟨a, ha⟩, ⟨b, hb⟩ => ⟨a * b, by rw [ha, hb, Rat.intCast_mul]⟩
theorem Wh.neg {x : Rat} : Wh x → Wh (-x)
 | ⟨a, ha⟩ => ⟨-a, by rw [ha, Rat.intCast_neg]⟩
def WhR (r : Rw) : Prop := ∀ j, Wh (r j)
theorem alt_wh : ∀ (l : List Rw) (f : Rw → List Rw → Rat), (∀ r ∈ l, WhR r) → (∀ r m, WhR r → (∀ x ∈ m, WhR x) → Wh (f r m)) → Wh (alt f l) := by
 intro l
 induction l with
 | nil => intro f _ _; exact Wh.zero
 | cons r l ih =>
  intro f h1 h2
  have hr := h1 r (List.Mem.head _)
  have hl : ∀ x ∈ l, WhR x := fun x hx => h1 x (List.Mem.tail _ hx)
  simp only [alt]
  refine Wh.sub (h2 r l hr hl) (ih _ hl fun x m hx hm => h2 x (r :: m) hx ?_)
  intro y hy
  rcases List.mem_cons.mp hy with h | h
  ·rw [h]; exact hr
  ·exact hm y h
theorem dt_wh : ∀ (S : List Nat) (rows : List Rw), (∀ r ∈ rows, WhR r) → Wh (dt S rows) := by
 intro S
 induction S with
 | nil =>
  intro rows _
  cases rows
  ·exact Wh.one
  ·exact Wh.zero
 | cons c S ih =>
  intro rows h
  simp only [dt]
  exact alt_wh rows _ h fun r m hr hm => Wh.mul (hr c) (ih m hm)
end Cw
end
section
set_option linter.all false
namespace Cw
abbrev clr (c : Nat) (u r : Rw) : Rw := lin (-(r c)) r u
structure BI (c : Nat) (d : Rat) (done doneA : List Rw) (rest : List (Rw × Rw)) : Prop where
 len : done.length = c
 lenA : doneA.length = c
 unit : ∀ (a : Nat) (r : Rw), done[a]? = some r → ∀ b, b < c → r b = if a = b then 1 else 0
 zero : ∀ x ∈ rest, ∀ b, b < c → x.1 b = 0
 nz : d ≠ 0
 whA : ∀ r ∈ doneA, WhR r
 whR : ∀ x ∈ rest, WhR x.2
 rel : ∀ (K : List (Rw × Rw)), (∀ x ∈ K, x ∈ rest) → ∀ S, dt S (doneA ++ K.map (·.2)) = d * dt S (done ++ K.map (·.1))
theorem BI.init (rows : List Rw) (h : ∀ r ∈ rows, WhR r) : BI 0 1 [] [] (rows.map fun r => (r, r)) where
 len := rfl
 lenA := rfl
 unit := fun a r e => by simp at e
 zero := fun x _ b hb => by omega
 nz := by grind
 whA := fun r hr => by simp at hr
 whR := fun x hx => by
  obtain ⟨r, hr, rfl⟩ := List.mem_map.mp hx
  exact h r hr
 rel := fun K hK S => by
  have e : K.map (·.2) = K.map (·.1) := by
   apply List.map_congr_left
   intro x hx
   obtain ⟨r, hr, rfl⟩ := List.mem_map.mp (hK x hx)
   rfl
  rw [e]
  grind
theorem lift_list {α β : Type} (g : α → β) (P : α → Prop) : ∀ (K : List β), (∀ x ∈ K, ∃ y, P y ∧ g y = x) → ∃ K0 : List α, (∀ y ∈ K0, P y) ∧ K0.map g = K := by
 intro K
 induction K with
 | nil => intro _; exact ⟨[], fun y hy => by simp at hy, rfl⟩
 | cons x K ih =>
  intro h
  obtain ⟨y, hy, e⟩ := h x (List.Mem.head _)
  obtain ⟨K0, h0, e0⟩ := ih fun z hz => h z (List.Mem.tail _ hz)
  refine ⟨y :: K0, ?_, by rw [List.map_cons, e, e0]⟩
  intro z hz
  rcases List.mem_cons.mp hz with h1 | h1
  ·rw [h1]; exact hy
  ·exact h0 z h1
theorem BI.step {c : Nat} {d : Rat} {done doneA : List Rw} {rest : List (Rw × Rw)} (I : BI c d done doneA rest) {i : Nat} {p pA : Rw} (hi : rest[i]? = some (p, pA)) (hp : p c ≠ 0)
  {u : Rw} (hu : ∀ j, u j = p j / p c) :
  BI (c + 1) (d * p c) (done.map (clr c u) ++ [u]) (doneA ++ [pA]) ((rest.eraseIdx i).map fun x => (clr c u x.1, x.2)) := by
 have hm : (p, pA) ∈ rest := List.mem_of_getElem? hi
 have huc : u c = 1 := by rw [hu]; grind
 have hpz : ∀ b, b < c → p b = 0 := fun b hb => I.zero _ hm b hb
 have hpu : p = fun j => p c * u j := by funext j; rw [hu]; grind
 refine ⟨?_, ?_, ?_, ?_, ?_, ?_, ?_, ?_⟩
 ·rw [List.length_append, List.length_map, I.len]; rfl
 ·rw [List.length_append, I.lenA]; rfl
 ·intro a r e b hb
  by_cases ha : a < c
  ·rw [List.getElem?_append_left (by rw [List.length_map, I.len]; exact ha), List.getElem?_map] at e
   cases e1 : done[a]? with
   | none => rw [e1] at e; simp at e
   | some r0 =>
    rw [e1] at e
    have e2 : clr c u r0 = r := by simpa using e
    subst e2
    simp only [clr, lin]
    by_cases hbc : b = c
    ·subst hbc
     rw [huc, if_neg (by omega)]
     grind
    ·have hz : u b = 0 := by
      rw [hu, hpz b (by omega)]
      grind
     rw [hz, I.unit a r0 e1 b (by omega)]
     grind
  ·by_cases hac : a = c
   ·subst hac
    have e' : some u = some r := by
     rw [← e, List.getElem?_append_right (by rw [List.length_map, I.len]; omega), List.length_map, I.len]
     simp
    have e2 : u = r := Option.some.inj e'
    subst e2
    by_cases hbc : b = a
    ·subst hbc; rw [if_pos rfl]; exact huc
    ·rw [if_neg (by omega), hu, hpz b (by omega)]
     grind
   ·rw [List.getElem?_eq_none (by rw [List.length_append, List.length_map, I.len]; simp; omega)] at e
    cases e
 ·intro x hx b hb
  obtain ⟨y, hy, rfl⟩ := List.mem_map.mp hx
  have hy2 : y ∈ rest := List.mem_of_mem_eraseIdx hy
  simp only [clr, lin]
  by_cases hbc : b = c
  ·subst hbc; rw [huc]; grind
  ·have hz : u b = 0 := by
    rw [hu, hpz b (by omega)]
    grind
   rw [hz, I.zero y hy2 b (by omega)]
   grind
 ·intro h
  rcases Rat.mul_eq_zero.mp h with h | h
  ·exact I.nz h
  ·exact hp h
 ·intro r hr
  rcases List.mem_append.mp hr with h | h
  ·exact I.whA r h
  ·have : r = pA := by simpa using h
   rw [this]; exact I.whR _ hm
 ·intro x hx
  obtain ⟨y, hy, rfl⟩ := List.mem_map.mp hx
  exact I.whR y (List.mem_of_mem_eraseIdx hy)
 ·intro K hK S
  obtain ⟨K0, h0, rfl⟩ := lift_list (fun x : Rw × Rw => (clr c u x.1, x.2)) (fun y => y ∈ rest) K (fun x hx => by
   obtain ⟨y, hy, e⟩ := List.mem_map.mp (hK x hx)
   exact ⟨y, List.mem_of_mem_eraseIdx hy, e⟩)
  have h := I.rel ((p, pA) :: K0) (fun x hx => by
   rcases List.mem_cons.mp hx with h | h
   ·rw [h]; exact hm
   ·exact h0 x h) S
  have e1 : (K0.map fun x : Rw × Rw => (clr c u x.1, x.2)).map (·.2) = K0.map (·.2) := by rw [List.map_map]; rfl
  have e2 : (K0.map fun x : Rw × Rw => (clr c u x.1, x.2)).map (·.1) = (K0.map (·.1)).map fun r => lin (-(r c)) r u := by
   rw [List.map_map, List.map_map]; rfl
  rw [e1, e2]
  have h2 := dt_clear_ahead S u (fun r => -(r c)) done [] ((K0.map (·.1)).map fun r => lin (-(r c)) r u)
  have h3 := dt_clear_behind S u (fun r => -(r c)) (K0.map (·.1)) done []
  have h4 := dt_scale S (p c) u done (K0.map (·.1))
  rw [← hpu] at h4
  simp only [List.append_assoc, List.cons_append, List.nil_append, List.map_cons] at h h2 h3 h4 ⊢
  have h5 : dt S (done.map (clr c u) ++ u :: (K0.map (·.1)).map fun r => lin (-(r c)) r u) = dt S (done ++ u :: K0.map (·.1)) := h2.trans h3
  rw [h, h4, h5]
  grind
theorem BI.wh_rest {c : Nat} {d : Rat} {done doneA : List Rw} {rest : List (Rw × Rw)} (I : BI c d done doneA rest) {x : Rw × Rw} (hx : x ∈ rest) (j : Nat) : Wh (d * x.1 j) := by
 have h := I.rel [x] (fun y hy => by
  have : y = x := by simpa using hy
  rw [this]; exact hx) (List.range c ++ [j])
 have e : dt (List.range c ++ [j]) (done ++ [x.1]) = x.1 j := by
  refine dt_units j x.1 (List.range c) done (by rw [I.len, List.length_range]) ?_ (fun b hb => I.zero x hx b (List.mem_range.mp hb))
  intro a b r k h1 h2
  have hb : b < c := by
   have := (List.getElem?_eq_some_iff.mp h2).1
   simpa using this
  rw [List.getElem?_range hb] at h2
  have : b = k := Option.some.inj h2
  subst this
  exact I.unit a r h1 b hb
 simp only [List.map_cons, List.map_nil] at h
 rw [e] at h
 rw [← h]
 refine dt_wh _ _ fun r hr => ?_
 rcases List.mem_append.mp hr with q | q
 ·exact I.whA r q
 ·have : r = x.2 := by simpa using q
  rw [this]; exact I.whR x hx
theorem eraseIdx_get {α : Type} : ∀ (l : List α) (a k : Nat), (l.eraseIdx a)[k]? = l[if k < a then k else k + 1]? := by
 intro l a k
 rw [List.getElem?_eraseIdx]
 split <;> rfl
theorem split_at {α : Type} : ∀ (l : List α) (a : Nat) (r : α), l[a]? = some r → l = l.take a ++ r :: l.drop (a + 1) := by
 intro l
 induction l with
 | nil => intro a r h; simp at h
 | cons x l ih =>
  intro a r h
  cases a with
  | zero => simp at h; subst h; simp
  | succ a =>
   have := ih a r (by simpa using h)
   simp only [List.take_succ_cons, List.drop_succ_cons, List.cons_append]
   rw [← this]
theorem BI.wh_done {c : Nat} {d : Rat} {done doneA : List Rw} {rest : List (Rw × Rw)} (I : BI c d done doneA rest) {a : Nat} {r : Rw} (hr : done[a]? = some r) (j : Nat) : Wh (d * r j) := by
 have hac : a < c := by
  have := (List.getElem?_eq_some_iff.mp hr).1
  rw [I.len] at this
  exact this
 have h := I.rel [] (fun y hy => by simp at hy) ((List.range c).eraseIdx a ++ [j])
 simp only [List.map_nil, List.append_nil] at h
 obtain ⟨e, he, h2⟩ := dt_move ((List.range c).eraseIdx a ++ [j]) r (done.drop (a + 1)) (done.take a)
 have hs := split_at done a r hr
 rw [← hs] at h2
 have e3 : done.take a ++ (done.drop (a + 1) ++ [r]) = done.eraseIdx a ++ [r] := by
  rw [List.eraseIdx_eq_take_drop_succ, List.append_assoc]
 have h4 : dt ((List.range c).eraseIdx a ++ [j]) (done.eraseIdx a ++ [r]) = r j := by
  refine dt_units j r _ _ ?_ ?_ ?_
  ·rw [List.length_eraseIdx, List.length_eraseIdx, I.len, List.length_range]
  ·intro x y q k h1 h2
   rw [eraseIdx_get] at h1 h2
   have hy : (if y < a then y else y + 1) < c := by
    have := (List.getElem?_eq_some_iff.mp h2).1
    simpa using this
   rw [List.getElem?_range hy] at h2
   have ek := Option.some.inj h2
   have hu := I.unit _ q h1 k (by omega)
   rw [hu, ← ek]
   by_cases hxy : x = y
   ·subst hxy; rw [if_pos rfl, if_pos rfl]
   ·rw [if_neg hxy, if_neg]
    split <;> split <;> omega
  ·intro k hk
   obtain ⟨y, hy⟩ := List.mem_iff_getElem?.mp hk
   rw [eraseIdx_get] at hy
   have hy' : (if y < a then y else y + 1) < c := by
    have := (List.getElem?_eq_some_iff.mp hy).1
    simpa using this
   rw [List.getElem?_range hy'] at hy
   have ek := Option.some.inj hy
   rw [I.unit a r hr k (by omega), if_neg]
   rw [← ek]
   split <;> omega
 rw [e3, h4] at h2
 rw [h2] at h
 have hw : Wh (dt ((List.range c).eraseIdx a ++ [j]) doneA) := dt_wh _ _ I.whA
 rw [h] at hw
 rcases he with he | he
 ·subst he
  have : d * (((1 : Int) : Rat) * r j) = d * r j := by grind
  rw [this] at hw
  exact hw
 ·subst he
  have : d * (((-1 : Int) : Rat) * r j) = -(d * r j) := by grind
  rw [this] at hw
  have := hw.neg
  have e5 : - -(d * r j) = d * r j := by grind
  rw [e5] at this
  exact this
end Cw
end
section
set_option linter.all false
namespace Cw
open Vbecam
def fnR (r : List Rat) : Rw := fun j => r.getD j 0
def fnI (r : List Int) : Rw := fun j => ((r.getD j 0 : Int) : Rat)
def ratRow (r : List Int) : List Rat := r.map fun (x : Int) => (x : Rat)
theorem fn_ratRow (r : List Int) : fnR (ratRow r) = fnI r := by
 funext j
 simp only [fnR, fnI, ratRow, List.getD_eq_getElem?_getD, List.getElem?_map]
 cases r[j]? <;> rfl
theorem fnI_wh (r : List Int) : WhR (fnI r) := fun j => Wh.int _
def clearI (pivot : List Int) (c : Nat) (before : Int) (row : List Int) : List Int :=
 List.zipWith (fun mine its => (pivot.getD c 0 * mine - row.getD c 0 * its).fdiv before) row pivot
def usableI (c : Nat) (rows : List (List Int)) : List Nat := (List.range' c (rows.length - c)).filter fun k => decide ((rows.getD k []).getD c 0 ≠ 0)
def solveGo : Nat → Nat → Int → List (List Int) → Option (List (List Int) × Int)
 | 0, _, before, rows => some (rows, before)
 | f + 1, c, before, rows => match usableI c rows with
  | [] => none
  | k :: _ => solveGo f (c + 1) ((rows.getD k []).getD c 0) (((rows.eraseIdx k).map (clearI (rows.getD k []) c before)).insertIdx c (rows.getD k []))
def signI (b : Int) : Int := if b > 0 then 1 else -1
def solveI (n : Nat) (rows : List (List Int)) : Option (List Int) := match solveGo n 0 1 rows with
 | none => none
 | some (rows, before) => some (rows.map fun r => signI before * r.getD n 0)
theorem clearI_len (pivot : List Int) (c : Nat) (before : Int) (row : List Int) (w : Nat) (h1 : pivot.length = w) (h2 : row.length = w) : (clearI pivot c before row).length = w := by
 simp only [clearI, List.length_zipWith, h1, h2, Nat.min_self]
theorem clearI_get (pivot : List Int) (c : Nat) (before : Int) (row : List Int) (h : pivot.length = row.length) (j : Nat) : (clearI pivot c before row).getD j 0 = (pivot.getD c 0 * row.getD j 0 - row.getD c 0 * pivot.getD j 0).fdiv before := by
 simp only [clearI, List.getD_eq_getElem?_getD, List.getElem?_zipWith]
 by_cases hj : j < row.length
 ·rw [List.getElem?_eq_getElem hj, List.getElem?_eq_getElem (by omega)]
  rfl
 ·rw [List.getElem?_eq_none (l := row) (by omega), List.getElem?_eq_none (l := pivot) (by omega)]
  simp
theorem fnR_cleared (c : Nat) (u r : List Rat) (h : u.length = r.length) : fnR (clearedR c u r) = clr c (fnR u) (fnR r) := by
 funext j
 simp only [fnR, clearedR, clr, lin, List.getD_eq_getElem?_getD, List.getElem?_map]
 by_cases hj : j < r.length
 ·rw [List.getElem?_range hj]
  simp only [Option.map_some, Option.getD_some]
  grind
 ·rw [List.getElem?_eq_none (l := List.range r.length) (i := j) (by simpa using hj), List.getElem?_eq_none (l := r) (i := j) (by omega), List.getElem?_eq_none (l := u) (i := j) (by omega)]
  simp only [Option.map_none, Option.getD_none]
  grind
theorem clearedR_len (c : Nat) (u r : List Rat) : (clearedR c u r).length = r.length := by
 simp only [clearedR, List.length_map, List.length_range]
structure Side (w c : Nat) (before : Int) (rows : List (List Int)) (done rest : List (List Rat)) : Prop where
 bi : ∃ doneA restA, restA.length = rest.length ∧ BI c (before : Rat) (done.map fnR) doneA ((rest.map fnR).zip restA)
 wd : ∀ r ∈ done, r.length = w
 wr : ∀ r ∈ rest, r.length = w
 wi : ∀ r ∈ rows, r.length = w
 same : rows.map fnI = (done ++ rest).map fun r => fun j => (before : Rat) * fnR r j
theorem Side.clen {w c before rows done rest} (S : Side w c before rows done rest) : done.length = c := by
 obtain ⟨_, _, _, I⟩ := S.bi
 have := I.len
 rwa [List.length_map] at this
theorem Side.len {w c before rows done rest} (S : Side w c before rows done rest) : rows.length = c + rest.length := by
 have h := congrArg List.length S.same
 simp only [List.length_map, List.length_append, S.clen] at h
 exact h
theorem Side.nz {w c before rows done rest} (S : Side w c before rows done rest) : before ≠ 0 := by
 obtain ⟨_, _, _, I⟩ := S.bi
 intro h
 apply I.nz
 rw [h]; rfl
theorem side_init (w : Nat) (rows : List (List Int)) (h : ∀ r ∈ rows, r.length = w) : Side w 0 1 rows [] (rows.map ratRow) where
 bi := by
  refine ⟨[], rows.map fnI, by simp, ?_⟩
  have h1 := BI.init (rows.map fnI) (fun r hr => by
   obtain ⟨x, _, rfl⟩ := List.mem_map.mp hr
   exact fnI_wh x)
  have e1 : ((rows.map ratRow).map fnR) = rows.map fnI := by
   rw [List.map_map]
   apply List.map_congr_left
   intro r _
   simp only [Function.comp, fn_ratRow]
  have e2 : ∀ l : List Rw, l.zip l = l.map fun r => (r, r) := by
   intro l
   induction l with
   | nil => rfl
   | cons x l ih => simp only [List.zip_cons_cons, List.map_cons, ih]
  rw [e1, e2]
  exact h1
 wd := fun r hr => by simp at hr
 wr := fun r hr => by
  obtain ⟨x, hx, rfl⟩ := List.mem_map.mp hr
  simp only [ratRow, List.length_map]
  exact h x hx
 wi := h
 same := by
  rw [List.nil_append, List.map_map]
  apply List.map_congr_left
  intro r _
  funext j
  simp only [Function.comp, fn_ratRow]
  have : ((1 : Int) : Rat) = 1 := rfl
  rw [this]
  grind
theorem Side.at {w c before rows done rest} (S : Side w c before rows done rest) (k : Nat) (hk : k < rest.length) (j : Nat) : (((rows.getD (c + k) []).getD j 0 : Int) : Rat) = (before : Rat) * (rest.getD k []).getD j 0 := by
 have h := congrArg (fun l => l[c + k]?) S.same
 simp only [List.getElem?_map] at h
 have hl := S.len
 rw [List.getElem?_append_right (by rw [S.clen]; omega), S.clen] at h
 have e : c + k - c = k := by omega
 rw [e, List.getElem?_eq_getElem (by omega), List.getElem?_eq_getElem hk] at h
 simp only [Option.map_some, Option.some.injEq] at h
 have h2 := congrFun h j
 simp only [fnI, fnR] at h2
 simp only [List.getD_eq_getElem?_getD (l := rows), List.getD_eq_getElem?_getD (l := rest)]
 rw [List.getElem?_eq_getElem (by omega), List.getElem?_eq_getElem hk]
 exact h2
theorem cast_zero {a : Int} : ((a : Int) : Rat) = 0 ↔ a = 0 := by
 constructor
 ·intro h; exact_mod_cast h
 ·intro h; rw [h]; rfl
theorem find_usable (p : Nat → Bool) : ∀ (n c : Nat) , (List.range' c n).filter p = [] ∧ (∀ k, k < n → p (c + k) = false) ∨ ∃ k rest, (List.range' c n).filter p = (c + k) :: rest ∧ k < n ∧ p (c + k) = true ∧ ∀ m, m < k → p (c + m) = false := by
 intro n
 induction n with
 | zero => intro c; exact .inl ⟨rfl, fun k hk => by omega⟩
 | succ n ih =>
  intro c
  rw [List.range'_succ]
  by_cases hc : p c = true
  ·refine .inr ⟨0, (List.range' (c + 1) n).filter p, ?_, by omega, hc, fun m hm => by omega⟩
   rw [List.filter_cons_of_pos hc]
   rfl
  ·rw [List.filter_cons_of_neg hc]
   rcases ih (c + 1) with ⟨h1, h2⟩ | ⟨k, rest, h1, h2, h3, h4⟩
   ·refine .inl ⟨h1, fun k hk => ?_⟩
    cases k with
    | zero => simpa using hc
    | succ k =>
     have := h2 k (by omega)
     have e : c + 1 + k = c + (k + 1) := by omega
     rwa [e] at this
   ·have e : ∀ m, c + 1 + m = c + (m + 1) := fun m => by omega
    rw [e] at h1 h3
    refine .inr ⟨k + 1, rest, h1, by omega, h3, fun m hm => ?_⟩
    cases m with
    | zero => simpa using hc
    | succ m =>
     have := h4 m (by omega)
     rwa [e] at this
theorem findIdx_none {α : Type} (q : α → Bool) (d : α) (l : List α) (h : ∀ k, k < l.length → q (l.getD k d) = false) : l.findIdx? q = none := by
 rw [List.findIdx?_eq_none_iff]
 intro x hx
 obtain ⟨k, hk⟩ := List.mem_iff_getElem?.mp hx
 have hl := (List.getElem?_eq_some_iff.mp hk).1
 have := h k hl
 simp only [List.getD_eq_getElem?_getD, hk, Option.getD_some] at this
 exact this
theorem findIdx_some {α : Type} (q : α → Bool) (d : α) (l : List α) (k : Nat) (hk : k < l.length) (h : q (l.getD k d) = true) (hm : ∀ m, m < k → q (l.getD m d) = false) : l.findIdx? q = some k := by
 rw [List.findIdx?_eq_some_iff_getElem]
 refine ⟨hk, ?_, ?_⟩
 ·simp only [List.getD_eq_getElem?_getD, List.getElem?_eq_getElem hk, Option.getD_some] at h
  exact h
 ·intro m hmk
  have := hm m hmk
  simp only [List.getD_eq_getElem?_getD, List.getElem?_eq_getElem (show m < l.length by omega), Option.getD_some] at this
  rw [this]
  simp
theorem eraseIdx_app {α : Type} (a b : List α) (k : Nat) : (a ++ b).eraseIdx (a.length + k) = a ++ b.eraseIdx k := by
 rw [List.eraseIdx_append_of_length_le (by omega)]
 congr 2
 omega
theorem insertIdx_app {α : Type} (x : α) : ∀ (a b : List α), (a ++ b).insertIdx a.length x = a ++ x :: b
 | [], b => by simp
 | y :: a, b => by
  simp only [List.cons_append, List.length_cons, List.insertIdx_succ_cons, insertIdx_app x a b]
theorem zip_eraseIdx {α β : Type} : ∀ (a : List α) (b : List β) (k : Nat), (a.zip b).eraseIdx k = (a.eraseIdx k).zip (b.eraseIdx k)
 | [], b, k => by simp
 | x :: a, [], k => by
  cases k <;> simp
 | x :: a, y :: b, 0 => rfl
 | x :: a, y :: b, k + 1 => by simp only [List.zip_cons_cons, List.eraseIdx_cons_succ, zip_eraseIdx a b k]
theorem fdiv_of {a b m : Int} (hb : b ≠ 0) (h : (a : Rat) = (b : Rat) * (m : Rat)) : a.fdiv b = m := by
 have h2 : a = b * m := by exact_mod_cast h
 rw [h2, Int.mul_fdiv_cancel_left _ hb]
theorem Side.step {w c before rows done rest} (S : Side w c before rows done rest) {k : Nat} (hk : k < rest.length) (hp : (rest.getD k []).getD c 0 ≠ 0) :
  Side w (c + 1) ((rows.getD (c + k) []).getD c 0) (((rows.eraseIdx (c + k)).map (clearI (rows.getD (c + k) []) c before)).insertIdx c (rows.getD (c + k) []))
   (done.map (clearedR c ((rest.getD k []).map fun x => x / (rest.getD k []).getD c 0)) ++ [(rest.getD k []).map fun x => x / (rest.getD k []).getD c 0])
   ((rest.eraseIdx k).map (clearedR c ((rest.getD k []).map fun x => x / (rest.getD k []).getD c 0))) := by
 obtain ⟨doneA, restA, hlA, I⟩ := S.bi
 have hS := S.at k hk
 have hlen := S.len
 generalize hPI : rows.getD (c + k) [] = P at *
 generalize hpR : rest.getD k [] = p at *
 generalize hu : (p.map fun x => x / p.getD c 0) = u at *
 have hpm : p ∈ rest := by
  rw [← hpR, List.getD_eq_getElem?_getD, List.getElem?_eq_getElem hk]
  exact List.getElem_mem hk
 have hPm : P ∈ rows := by
  rw [← hPI, List.getD_eq_getElem?_getD, List.getElem?_eq_getElem (by omega)]
  exact List.getElem_mem _
 have hpw : p.length = w := S.wr p hpm
 have huw : u.length = w := by rw [← hu, List.length_map]; exact hpw
 have hPw : P.length = w := S.wi P hPm
 have huf : ∀ j, fnR u j = fnR p j / fnR p c := by
  intro j
  rw [← hu]
  simp only [fnR, List.getD_eq_getElem?_getD, List.getElem?_map]
  cases p[j]? with
  | none => simp only [Option.map_none, Option.getD_none]; grind
  | some x => simp only [Option.map_some, Option.getD_some]
 have hkA : k < restA.length := by omega
 have hzip : ((rest.map fnR).zip restA)[k]? = some (fnR p, restA[k]) := by
  rw [List.getElem?_zip_eq_some]
  refine ⟨?_, List.getElem?_eq_getElem hkA⟩
  rw [List.getElem?_map, List.getElem?_eq_getElem hk]
  have : rest[k] = p := by
   rw [← hpR, List.getD_eq_getElem?_getD, List.getElem?_eq_getElem hk]; rfl
  rw [this]; rfl
 have J := I.step hzip (show fnR p c ≠ 0 from hp) huf
 have hd : (before : Rat) * fnR p c = ((P.getD c 0 : Int) : Rat) := (hS c).symm
 rw [hd] at J
 have hPc : P.getD c 0 ≠ 0 := by
  intro h
  have := hS c
  rw [h] at this
  have h0 : (before : Rat) * p.getD c 0 = 0 := this.symm
  rcases Rat.mul_eq_zero.mp h0 with h1 | h1
  ·exact S.nz (cast_zero.mp h1)
  ·exact hp h1
 have ed : (done.map (clearedR c u) ++ [u]).map fnR = (done.map fnR).map (clr c (fnR u)) ++ [fnR u] := by
  rw [List.map_append, List.map_map, List.map_map]
  congr 1
  apply List.map_congr_left
  intro r hr
  simp only [Function.comp]
  exact fnR_cleared c u r (by rw [huw, S.wd r hr])
 have er : ((rest.eraseIdx k).map (clearedR c u)).map fnR = ((rest.map fnR).eraseIdx k).map (clr c (fnR u)) := by
  rw [map_eraseIdx, List.map_map, List.map_map]
  apply List.map_congr_left
  intro r hr
  simp only [Function.comp]
  exact fnR_cleared c u r (by rw [huw, S.wr r (List.mem_of_mem_eraseIdx hr)])
 have ez : ((((rest.map fnR).zip restA).eraseIdx k).map fun x => (clr c (fnR u) x.1, x.2)) = (((rest.eraseIdx k).map (clearedR c u)).map fnR).zip (restA.eraseIdx k) := by
  rw [er, zip_eraseIdx]
  generalize (rest.map fnR).eraseIdx k = a
  generalize restA.eraseIdx k = b
  induction a generalizing b with
  | nil => rfl
  | cons x a ih =>
   cases b with
   | nil => rfl
   | cons y b => simp only [List.zip_cons_cons, List.map_cons, ih]
 rw [ez, ← ed] at J
 refine ⟨⟨doneA ++ [restA[k]], restA.eraseIdx k, ?_, J⟩, ?_, ?_, ?_, ?_⟩
 ·rw [List.length_map, List.length_eraseIdx, List.length_eraseIdx, hlA]
 ·intro r hr
  rcases List.mem_append.mp hr with h | h
  ·obtain ⟨x, hx, rfl⟩ := List.mem_map.mp h
   rw [clearedR_len, S.wd x hx]
  ·have : r = u := by simpa using h
   rw [this]; exact huw
 ·intro r hr
  obtain ⟨x, hx, rfl⟩ := List.mem_map.mp hr
  rw [clearedR_len, S.wr x (List.mem_of_mem_eraseIdx hx)]
 ·intro r hr
  rw [List.mem_insertIdx (by rw [List.length_map, List.length_eraseIdx_of_lt (by omega)]; omega)] at hr
  rcases hr with h | h
  ·rw [h]; exact hPw
  ·obtain ⟨x, hx, rfl⟩ := List.mem_map.mp h
   exact clearI_len _ _ _ _ w hPw (S.wi x (List.mem_of_mem_eraseIdx hx))
 ·-- every row is the new pivot times the specification's
  have key : ∀ (R : List Int) (r : List Rat), R.length = w → r.length = w → fnI R = (fun j => (before : Rat) * fnR r j) → (∀ j, Wh (((P.getD c 0 : Int) : Rat) * fnR (clearedR c u r) j)) →
    fnI (clearI P c before R) = fun j => ((P.getD c 0 : Int) : Rat) * fnR (clearedR c u r) j := by
   intro R r hR hr hRr hW
   funext j
   obtain ⟨m, hm⟩ := hW j
   simp only [fnI]
   rw [clearI_get P c before R (by omega) j, hm]
   congr 1
   apply fdiv_of S.nz
   rw [Rat.intCast_sub, Rat.intCast_mul, Rat.intCast_mul, ← hm, fnR_cleared c u r (by omega)]
   have h1 := congrFun hRr j
   have h2 := congrFun hRr c
   have h3 := hS j
   have h4 := hS c
   have h5 := huf j
   simp only [fnI] at h1 h2
   simp only [clr, lin]
   rw [h1, h2, h3, h4, h5]
   have h6 : fnR p c ≠ 0 := hp
   show (before : Rat) * fnR p c * ((before : Rat) * fnR r j) - (before : Rat) * fnR r c * ((before : Rat) * fnR p j) = (before : Rat) * ((before : Rat) * fnR p c * (fnR r j + -fnR r c * (fnR p j / fnR p c)))
   generalize fnR p c = a at *
   generalize fnR p j = b at *
   generalize fnR r c = e at *
   generalize fnR r j = g at *
   generalize (before : Rat) = q at *
   grind
  have hsame := S.same
  have hrows : ((rows.eraseIdx (c + k)).map (clearI P c before)).map fnI = ((done ++ rest.eraseIdx k).map (clearedR c u)).map fun r => fun j => ((P.getD c 0 : Int) : Rat) * fnR r j := by
   have h1 : (rows.eraseIdx (c + k)).map fnI = (done ++ rest.eraseIdx k).map fun r => fun j => (before : Rat) * fnR r j := by
    rw [← map_eraseIdx, hsame, map_eraseIdx]
    congr 1
    have := eraseIdx_app done rest k
    rw [S.clen] at this
    exact this
   apply List.ext_getElem?
   intro m
   have h2 := congrArg (fun l => l[m]?) h1
   simp only [List.getElem?_map] at h2 ⊢
   cases eR : (rows.eraseIdx (c + k))[m]? with
   | none =>
    rw [eR] at h2
    cases er2 : (done ++ rest.eraseIdx k)[m]? with
    | none => rfl
    | some r => rw [er2] at h2; cases h2
   | some R =>
    rw [eR] at h2
    cases er2 : (done ++ rest.eraseIdx k)[m]? with
    | none => rw [er2] at h2; cases h2
    | some r =>
     rw [er2] at h2
     simp only [Option.map_some, Option.some.injEq] at h2 ⊢
     have hRm : R ∈ rows := List.mem_of_mem_eraseIdx (List.mem_of_getElem? eR)
     have hrm := List.mem_of_getElem? er2
     have hrw : r.length = w := by
      rcases List.mem_append.mp hrm with h | h
      ·exact S.wd r h
      ·exact S.wr r (List.mem_of_mem_eraseIdx h)
     refine key R r (S.wi R hRm) hrw h2 ?_
     rcases List.mem_append.mp hrm with h | h
     ·obtain ⟨a, ha⟩ := List.mem_iff_getElem?.mp h
      have hac : a < done.length := (List.getElem?_eq_some_iff.mp ha).1
      refine fun j => J.wh_done (a := a) ?_ j
      rw [List.getElem?_map, List.getElem?_append_left (by rw [List.length_map]; exact hac), List.getElem?_map, ha]
      rfl
     ·obtain ⟨a, ha⟩ := List.mem_iff_getElem?.mp h
      have hac : a < (rest.eraseIdx k).length := (List.getElem?_eq_some_iff.mp ha).1
      have hA : a < (restA.eraseIdx k).length := by
       rw [List.length_eraseIdx] at hac ⊢
       rw [hlA]; exact hac
      refine fun j => J.wh_rest (x := (fnR (clearedR c u r), (restA.eraseIdx k)[a])) ?_ j
      apply List.mem_of_getElem? (i := a)
      rw [List.getElem?_zip_eq_some]
      refine ⟨?_, List.getElem?_eq_getElem hA⟩
      rw [List.getElem?_map, List.getElem?_map, ha]
      rfl
  have hP : fnI P = fun j => ((P.getD c 0 : Int) : Rat) * fnR u j := by
   funext j
   rw [huf j]
   have h3 := hS j
   have h4 := hS c
   simp only [fnI]
   rw [h3, h4]
   have h6 : fnR p c ≠ 0 := hp
   show (before : Rat) * fnR p j = (before : Rat) * fnR p c * (fnR p j / fnR p c)
   generalize fnR p c = a at *
   grind
  have hsp : (rows.eraseIdx (c + k)).map (clearI P c before) = ((rows.eraseIdx (c + k)).map (clearI P c before)).take c ++ ((rows.eraseIdx (c + k)).map (clearI P c before)).drop c := (List.take_append_drop c _).symm
  have hlen2 : (((rows.eraseIdx (c + k)).map (clearI P c before)).take c).length = c := by
   rw [List.length_take, List.length_map, List.length_eraseIdx_of_lt (by omega)]
   omega
  have hins := insertIdx_app P (((rows.eraseIdx (c + k)).map (clearI P c before)).take c) (((rows.eraseIdx (c + k)).map (clearI P c before)).drop c)
  rw [hlen2, ← hsp] at hins
  rw [hins, List.map_append, List.map_cons, List.map_take, List.map_drop, hrows, hP]
  have hdl : ((done.map (clearedR c u)).map fun r => fun j => ((P.getD c 0 : Int) : Rat) * fnR r j).length = c := by
   rw [List.length_map, List.length_map, S.clen]
  rw [List.map_append, List.map_append, List.take_left' hdl, List.drop_left' hdl]
  simp only [List.map_append, List.append_assoc, List.map_cons, List.map_nil, List.cons_append, List.nil_append]
end Cw
end
section
set_option linter.all false
namespace Cw
open Vbecam
theorem usable_find {w c before rows done rest} (S : Side w c before rows done rest) :
  (usableI c rows = [] ∧ (rest.findIdx? fun r => decide (r.getD c 0 ≠ 0)) = none) ∨
  ∃ k l, usableI c rows = (c + k) :: l ∧ k < rest.length ∧ (rest.getD k []).getD c 0 ≠ 0 ∧ (rest.findIdx? fun r => decide (r.getD c 0 ≠ 0)) = some k := by
 have hl := S.len
 have e : rows.length - c = rest.length := by omega
 have hq : ∀ k, k < rest.length → decide ((rows.getD (c + k) []).getD c 0 ≠ 0) = decide ((rest.getD k []).getD c 0 ≠ 0) := by
  intro k hk
  have h := S.at k hk c
  rw [decide_eq_decide]
  constructor
  ·intro h1 h2
   apply h1
   rw [h2] at h
   have : (((rows.getD (c + k) []).getD c 0 : Int) : Rat) = 0 := by rw [h]; grind
   exact cast_zero.mp this
  ·intro h1 h2
   apply h1
   rw [h2] at h
   have h3 : (before : Rat) * (rest.getD k []).getD c 0 = 0 := h.symm
   rcases Rat.mul_eq_zero.mp h3 with h4 | h4
   ·exact absurd (cast_zero.mp h4) S.nz
   ·exact h4
 unfold usableI
 rw [e]
 rcases find_usable (fun k => decide ((rows.getD k []).getD c 0 ≠ 0)) rest.length c with ⟨h1, h2⟩ | ⟨k, l, h1, h2, h3, h4⟩
 ·refine .inl ⟨h1, findIdx_none _ [] rest fun k hk => ?_⟩
  rw [← hq k hk]; exact h2 k hk
 ·refine .inr ⟨k, l, h1, h2, ?_, findIdx_some _ [] rest k h2 ?_ fun m hm => ?_⟩
  ·have := hq k h2
   rw [h3] at this
   exact of_decide_eq_true this.symm
  ·rw [← hq k h2]; exact h3
  ·rw [← hq m (by omega)]; exact h4 m hm
theorem solvingR_len (f : Nat) : ∀ c done rest, (solvingR c f done rest).length ≤ done.length + f := by
 induction f with
 | zero => intro c done rest; simp [solvingR]
 | succ f ih =>
  intro c done rest
  unfold solvingR
  cases rest.findIdx? fun r => decide (r.getD c 0 ≠ 0) with
  | none => simp only; omega
  | some i =>
   dsimp only
   refine Nat.le_trans (ih _ _ _) ?_
   simp only [List.length_append, List.length_map, List.length_cons, List.length_nil]
   omega
theorem solveGo_spec (f : Nat) : ∀ {w c : Nat} {before : Int} {rows : List (List Int)} {done rest : List (List Rat)}, Side w c before rows done rest →
  match solveGo f c before rows with
  | none => (solvingR c f done rest).length < c + f
  | some (rows', b') => ∃ rest', Side w (c + f) b' rows' (solvingR c f done rest) rest' := by
 induction f with
 | zero =>
  intro w c before rows done rest S
  exact ⟨rest, S⟩
 | succ f ih =>
  intro w c before rows done rest S
  unfold solveGo solvingR
  rcases usable_find S with ⟨h1, h2⟩ | ⟨k, l, h1, h2, h3, h4⟩
  ·rw [h1, h2]
   dsimp only
   rw [S.clen]; omega
  ·rw [h1, h4]
   dsimp only
   have S2 := S.step h2 h3
   have := ih S2
   have e : c + (f + 1) = c + 1 + f := by omega
   rw [e]
   exact this
theorem solveI_spec (n : Nat) (rows : List (List Int)) (hn : rows.length = n) (hw : ∀ r ∈ rows, r.length = n + 1) :
  match solveI n rows with
  | none => solvedR n (rows.map ratRow) = none
  | some sol => ∃ (v : List Rat) (den : Int), solvedR n (rows.map ratRow) = some v ∧ v.length = n ∧ sol.length = n ∧ 0 < den ∧ ∀ i, ((sol.getD i 0 : Int) : Rat) = (den : Rat) * v.getD i 0 := by
 have S := side_init (n + 1) rows hw
 have h := solveGo_spec n S
 unfold solveI solvedR
 cases e : solveGo n 0 1 rows with
 | none =>
  rw [e] at h
  dsimp only at h ⊢
  rw [if_neg (by omega)]
 | some x =>
  obtain ⟨rows', b⟩ := x
  rw [e] at h
  dsimp only at h ⊢
  obtain ⟨rest', S'⟩ := h
  have hl : (solvingR 0 n [] (rows.map ratRow)).length = n := by
   have := S'.clen
   omega
  have hlr : rows'.length = n + rest'.length := by
   have := S'.len
   omega
  have hrl : rest'.length = 0 := by
   have : ∀ (f : Nat) {w c : Nat} {before : Int} {rows : List (List Int)} {done rest : List (List Rat)} {rows' : List (List Int)} {b' : Int}, Side w c before rows done rest → solveGo f c before rows = some (rows', b') → rows'.length = rows.length := by
    intro f
    induction f with
    | zero =>
     intro w c before rows done rest rows' b' S e
     simp only [solveGo, Option.some.injEq, Prod.mk.injEq] at e
     rw [← e.1]
    | succ f ih =>
     intro w c before rows done rest rows' b' S e
     unfold solveGo at e
     rcases usable_find S with ⟨h1, h2⟩ | ⟨k, l, h1, h2, h3, h4⟩
     ·rw [h1] at e; cases e
     ·rw [h1] at e
      dsimp only at e
      have hl := S.len
      have := ih (S.step h2 h3) e
      rw [this, List.length_insertIdx, List.length_map, List.length_eraseIdx_of_lt (by omega), if_pos (by omega)]
      omega
   have := this n S e
   omega
  have hr0 : rest' = [] := List.eq_nil_of_length_eq_zero hrl
  subst hr0
  rw [if_pos hl]
  refine ⟨_, signI b * b, rfl, by rw [List.length_map]; exact hl, by rw [List.length_map]; omega, ?_, ?_⟩
  ·have hb := S'.nz
   unfold signI
   split <;> omega
  ·intro i
   have hs := congrArg (fun l => l[i]?) S'.same
   simp only [List.getElem?_map, List.append_nil] at hs
   simp only [List.getD_eq_getElem?_getD, List.getElem?_map]
   cases e1 : rows'[i]? with
   | none =>
    rw [e1] at hs
    cases e2 : (solvingR 0 n [] (rows.map ratRow))[i]? with
    | none => simp
    | some r => rw [e2] at hs; cases hs
   | some R =>
    rw [e1] at hs
    cases e2 : (solvingR 0 n [] (rows.map ratRow))[i]? with
    | none => rw [e2] at hs; cases hs
    | some r =>
     rw [e2] at hs
     simp only [Option.map_some, Option.some.injEq] at hs
     have h1 := congrFun hs n
     simp only [fnI, fnR, List.getD_eq_getElem?_getD] at h1
     simp only [Option.map_some, Option.getD_some]
     rw [Rat.intCast_mul, Rat.intCast_mul, h1]
     grind
end Cw
end
section
set_option linter.all false
namespace Cw
open Vbecam
structure StOk (s : State) (W : List (List Int)) : Prop where
 n : s.n = W.length
 row : ∀ r ∈ W, r.length = s.n
 wins : s.wins = W.flatten
 pos : 1 ≤ s.n
 four : s.n ≤ 4
theorem getD_mem {α : Type} {l : List α} {i : Nat} (d : α) (h : i < l.length) : l.getD i d ∈ l := by
 rw [List.getD_eq_getElem?_getD, List.getElem?_eq_getElem h]
 exact List.getElem_mem h
theorem flatten_getD (n : Nat) : ∀ (W : List (List Int)) (i j : Nat), (∀ r ∈ W, r.length = n) → i < W.length → j < n → W.flatten.getD (i * n + j) 0 = (W.getD i []).getD j 0 := by
 intro W
 induction W with
 | nil => intro i j _ h; simp at h
 | cons r W ih =>
  intro i j hr hi hj
  have h0 : r.length = n := hr r (List.Mem.head _)
  rw [List.flatten_cons]
  cases i with
  | zero =>
   simp only [Nat.zero_mul, Nat.zero_add, List.getD_eq_getElem?_getD, List.getElem?_cons_zero, Option.getD_some]
   rw [List.getElem?_append_left (by omega)]
  | succ i =>
   have := ih i j (fun x hx => hr x (List.Mem.tail _ hx)) (by simpa using hi) hj
   simp only [List.getD_eq_getElem?_getD, List.getElem?_cons_succ] at this ⊢
   rw [← this, List.getElem?_append_right (by rw [h0, Nat.add_mul]; omega)]
   congr 2
   rw [h0, Nat.add_mul]; omega
theorem StOk.win {s W} (h : StOk s W) {i j : Nat} (hi : i < s.n) (hj : j < s.n) : win s i j = (W.getD i []).getD j 0 := by
 unfold Vbecam.win
 rw [h.wins]
 exact flatten_getD s.n W i j h.row (by rw [← h.n]; exact hi) hj
def frI (a b : Int) : List Int := [a.fdiv (Nat.gcd a.natAbs b.natAbs : Nat), b.fdiv (Nat.gcd a.natAbs b.natAbs : Nat)]
def two (x : Rat) : List Int := [x.num, (x.den : Int)]
theorem shown_F (l : List Rat) : shown (l.map F) = l.flatMap two := by
 unfold shown
 rw [List.flatMap_map]
 rfl
theorem frI_two {a b : Int} (hb : 0 < b) : frI a b = two ((a : Rat) / (b : Rat)) := by
 have h := frac_eq a b
 unfold frac at h
 rw [if_neg (by omega)] at h
 dsimp only at h
 rw [if_neg (by omega)] at h
 have h1 := congrArg Prod.fst h
 have h2 := congrArg Prod.snd h
 simp only [F] at h1 h2
 unfold frI two
 rw [← h1, ← h2, Int.fdiv_eq_ediv_of_nonneg _ (Int.natCast_nonneg _), Int.fdiv_eq_ediv_of_nonneg _ (Int.natCast_nonneg _)]
def wsum (a b : List Int) : Int := (List.zipWith (fun x y => x * y) a b).sum
theorem zdiv (t : Rat) : 0 / t = 0 := by grind
theorem sum_div (l : List Nat) (f : Nat → Rat) (t : Rat) : (l.map fun j => f j / t).sum = (l.map f).sum / t := by
 induction l with
 | nil => simp [zdiv]
 | cons x l ih => simp only [List.map_cons, List.sum_cons, ih]; grind
theorem sum_mul (l : List Nat) (f : Nat → Rat) (t : Rat) : (l.map fun j => t * f j).sum = t * (l.map f).sum := by
 induction l with
 | nil => simp [Rat.mul_zero]
 | cons x l ih => simp only [List.map_cons, List.sum_cons, ih]; grind
theorem sum_cast (l : List Nat) (f : Nat → Int) : (l.map fun j => ((f j : Int) : Rat)).sum = (((l.map f).sum : Int) : Rat) := by
 induction l with
 | nil => rfl
 | cons x l ih => simp only [List.map_cons, List.sum_cons, ih, Rat.intCast_add]
theorem range_zip (n : Nat) (a b : List Int) (ha : a.length = n) (hb : b.length = n) : (List.range n).map (fun j => a.getD j 0 * b.getD j 0) = List.zipWith (fun x y => x * y) a b := by
 apply List.ext_getElem?
 intro i
 simp only [List.getElem?_map, List.getElem?_zipWith, List.getD_eq_getElem?_getD]
 by_cases h : i < n
 ·rw [List.getElem?_range h, Option.map_some, List.getElem?_eq_getElem (show i < a.length by omega), List.getElem?_eq_getElem (show i < b.length by omega)]
  rfl
 ·rw [List.getElem?_eq_none (l := List.range n) (by simpa using h), List.getElem?_eq_none (l := a) (by omega)]
  rfl
theorem wsum_range (n : Nat) (a b : List Int) (ha : a.length = n) (hb : b.length = n) : wsum a b = ((List.range n).map (fun j => a.getD j 0 * b.getD j 0)).sum := by
 rw [range_zip n a b ha hb]; rfl
theorem sharesR_get (w : List Int) (j : Nat) : (sharesR w).getD j 0 = ((w.getD j 0 : Int) : Rat) / ((w.sum : Int) : Rat) := by
 simp only [sharesR, List.getD_eq_getElem?_getD, List.getElem?_map]
 cases w[j]? with
 | none => simp [zdiv]
 | some x => simp
def wonM (W : List (List Int)) (w : List Int) : List Int := W.map fun r => wsum r w
theorem wonM_get {s W} (h : StOk s W) (w : List Int) {i : Nat} (hi : i < s.n) : (wonM W w).getD i 0 = wsum (W.getD i []) w := by
 have hi' : i < W.length := by rw [← h.n]; exact hi
 simp only [wonM, List.getD_eq_getElem?_getD, List.getElem?_map]
 rw [List.getElem?_eq_getElem hi']
 rfl
theorem wonM_len {s W} (h : StOk s W) (w : List Int) : (wonM W w).length = s.n := by
 rw [wonM, List.length_map, h.n]
theorem against_scaled {s W} (h : StOk s W) {q : List Rat} {w : List Int} {t : Rat} (hw : w.length = s.n) (hq : ∀ j, q.getD j 0 = ((w.getD j 0 : Int) : Rat) / t) {i : Nat} (hi : i < s.n) :
  againstR s q i = (((wonM W w).getD i 0 : Int) : Rat) / t := by
 rw [wonM_get h w hi]
 unfold againstR State.all
 have hrow : (W.getD i []).length = s.n := h.row _ (getD_mem [] (by rw [← h.n]; exact hi))
 rw [wsum_range s.n _ _ hrow hw, ← sum_cast, ← sum_div]
 congr 1
 apply List.map_congr_left
 intro j hj
 rw [hq, h.win hi (List.mem_range.mp hj), Rat.intCast_mul]
 grind
theorem value_scaled {s W} (h : StOk s W) {p q : List Rat} {v w : List Int} {t u : Rat} (hv : v.length = s.n) (hw : w.length = s.n) (hp : ∀ j, p.getD j 0 = ((v.getD j 0 : Int) : Rat) / t) (hq : ∀ j, q.getD j 0 = ((w.getD j 0 : Int) : Rat) / u) :
  valueR s p q = ((wsum (wonM W w) v : Int) : Rat) / (t * u) := by
 unfold valueR State.all
 rw [wsum_range s.n _ _ (wonM_len h w) hv, ← sum_cast, ← sum_div]
 congr 1
 apply List.map_congr_left
 intro i hi
 rw [hp, against_scaled h hw hq (List.mem_range.mp hi), Rat.intCast_mul]
 grind
def areWeights (n : Nat) (w : List Int) : Bool := decide (w.length = n) && (w.all (fun v => decide (0 ≤ v) && decide (v ≤ 1000)) && decide (0 < w.sum))
theorem sum_nonneg : ∀ (w : List Int), (∀ v ∈ w, 0 ≤ v) → 0 ≤ w.sum
 | [], _ => by simp
 | x :: l, h => by
  have h1 := h x (List.Mem.head _)
  have h2 := sum_nonneg l fun v hv => h v (List.Mem.tail _ hv)
  rw [List.sum_cons]; omega
theorem sum_pos_iff : ∀ (w : List Int), (∀ v ∈ w, 0 ≤ v) → (0 < w.sum ↔ ∃ v ∈ w, 0 < v)
 | [], _ => by simp
 | x :: l, h => by
  have h1 := h x (List.Mem.head _)
  have h2 := sum_nonneg l fun v hv => h v (List.Mem.tail _ hv)
  have h3 := sum_pos_iff l fun v hv => h v (List.Mem.tail _ hv)
  rw [List.sum_cons]
  constructor
  ·intro q
   by_cases hx : 0 < x
   ·exact ⟨x, List.Mem.head _, hx⟩
   ·obtain ⟨v, hv, hp⟩ := h3.mp (by omega)
    exact ⟨v, List.Mem.tail _ hv, hp⟩
  ·rintro ⟨v, hv, hp⟩
   rcases List.mem_cons.mp hv with e | hm
   ·subst e; omega
   ·have := h3.mpr ⟨v, hm, hp⟩
    omega
theorem areWeights_eq (s : State) (w : List Int) : areWeights s.n w = mixtureIn s w := by
 unfold areWeights mixtureIn
 by_cases hr : (w.all fun v => within v 0 1000) = true
 ·have hr2 : (w.all (fun v => decide (0 ≤ v) && decide (v ≤ 1000))) = true := hr
  rw [hr, hr2]
  have hnn : ∀ v ∈ w, 0 ≤ v := fun v hv => by
   have := List.all_eq_true.mp hr v hv
   simp only [within, Bool.and_eq_true, decide_eq_true_eq] at this
   exact this.1
  have : decide (0 < w.sum) = w.any fun v => decide (0 < v) := by
   rw [Bool.eq_iff_iff, decide_eq_true_eq, sum_pos_iff w hnn, List.any_eq_true]
   simp only [decide_eq_true_eq]
  rw [this]
  rfl
 ·have hr2 : (w.all fun v => within v 0 1000) = false := by simpa using hr
  have hr3 : (w.all (fun v => decide (0 ≤ v) && decide (v ≤ 1000))) = false := hr2
  rw [hr2, hr3]
  simp
theorem weights_of {n : Nat} {w : List Int} (h : areWeights n w = true) : w.length = n ∧ (∀ v ∈ w, 0 ≤ v ∧ v ≤ 1000) ∧ 0 < w.sum := by
 unfold areWeights at h
 simp only [Bool.and_eq_true, decide_eq_true_eq, List.all_eq_true] at h
 exact ⟨h.1, h.2.1, h.2.2⟩
def valueM (W : List (List Int)) (p q : List Int) : List Int := if areWeights W.length p && areWeights W.length q then 0 :: frI (wsum (wonM W q) p) (p.sum * q.sum) else [-1]
theorem value_ok {s W} (h : StOk s W) (p q : List Int) : (if inRange s (.value p q) = false then (s, [-1]) else act s (.value p q)) = (s, valueM W p q) := by
 unfold valueM
 rw [← h.n, areWeights_eq, areWeights_eq]
 have e : inRange s (.value p q) = (mixtureIn s p && mixtureIn s q) := rfl
 rw [e]
 cases hb : (mixtureIn s p && mixtureIn s q) with
 | false => rfl
 | true =>
  rw [Bool.and_eq_true] at hb
  obtain ⟨hp1, hp2, hp3⟩ := weights_of ((areWeights_eq s p).trans hb.1)
  obtain ⟨hq1, hq2, hq3⟩ := weights_of ((areWeights_eq s q).trans hb.2)
  have hpq : 0 < p.sum * q.sum := Int.mul_pos hp3 hq3
  rw [frI_two hpq]
  show (s, 0 :: shown [Vbecam.value s (mixture p) (mixture q)]) = _
  rw [mixture_F, mixture_F, value_F, value_scaled h hp1 hq1 (sharesR_get p) (sharesR_get q), Rat.intCast_mul]
  rfl
end Cw
end
section
set_option linter.all false
namespace Cw
open Vbecam
def dot (x : Nat → Rat) (m : Nat) (r : Rw) : Rat := ((List.range m).map fun j => r j * x j).sum
theorem sum_add (l : List Nat) (f g : Nat → Rat) : (l.map fun j => f j + g j).sum = (l.map f).sum + (l.map g).sum := by
 induction l with
 | nil => simp [Rat.add_zero]
 | cons x l ih => simp only [List.map_cons, List.sum_cons, ih]; grind
theorem dot_lin (x : Nat → Rat) (m : Nat) (k : Rat) (a b : Rw) : dot x m (lin k a b) = dot x m a + k * dot x m b := by
 unfold dot
 rw [← sum_mul, ← sum_add]
 congr 1
 apply List.map_congr_left
 intro j _
 simp only [lin]
 grind
theorem fnR_pivot (c : Nat) (p : List Rat) (hp : p.getD c 0 ≠ 0) : fnR p = lin (p.getD c 0) zrow (fnR (p.map fun x => x / p.getD c 0)) := by
 funext j
 simp only [fnR, lin, zrow, List.getD_eq_getElem?_getD (i := j), List.getElem?_map]
 cases p[j]? with
 | none => simp only [Option.map_none, Option.getD_none]; grind
 | some x => simp only [Option.map_some, Option.getD_some]; grind
theorem dot_zrow (x : Nat → Rat) (m : Nat) : dot x m zrow = 0 := by
 have h := dot_lin x m 1 zrow zrow
 have e : lin 1 zrow zrow = zrow := by funext j; simp only [lin, zrow]; grind
 rw [e] at h
 grind
theorem mem_or_eraseIdx {α : Type} {l : List α} {i : Nat} {x : α} (d : α) (h : x ∈ l) : x = l.getD i d ∨ x ∈ l.eraseIdx i := by
 obtain ⟨k, hk⟩ := List.mem_iff_getElem?.mp h
 by_cases e : k = i
 ·left
  subst e
  rw [List.getD_eq_getElem?_getD, hk]; rfl
 ·right
  apply List.mem_iff_getElem?.mpr
  by_cases h2 : k < i
  ·exact ⟨k, by rw [List.getElem?_eraseIdx, if_pos h2]; exact hk⟩
  ·refine ⟨k - 1, ?_⟩
   rw [List.getElem?_eraseIdx, if_neg (by omega)]
   rw [← hk]
   congr 1
   omega
theorem solving_kill (x : Nat → Rat) (m w f : Nat) : ∀ (c : Nat) (done rest : List (List Rat)), rest.length = f → (∀ r ∈ done, r.length = w) → (∀ r ∈ rest, r.length = w) → (solvingR c f done rest).length = done.length + f →
  (∀ r ∈ solvingR c f done rest, dot x m (fnR r) = 0) → ∀ r ∈ done ++ rest, dot x m (fnR r) = 0 := by
 induction f with
 | zero =>
  intro c done rest hl _ _ _ hk r hr
  have : rest = [] := List.eq_nil_of_length_eq_zero hl
  subst this
  rw [List.append_nil] at hr
  exact hk r hr
 | succ f ih =>
  intro c done rest hl hwd hwr hlen hk r hr
  unfold solvingR at hlen hk
  cases e : rest.findIdx? fun r => decide (r.getD c 0 ≠ 0) with
  | none =>
   rw [e] at hlen
   dsimp only at hlen
   omega
  | some i =>
   rw [e] at hlen hk
   dsimp only at hlen hk
   obtain ⟨hi, hp, _⟩ := List.findIdx?_eq_some_iff_getElem.mp e
   have hpe : rest.getD i [] = rest[i] := by rw [List.getD_eq_getElem?_getD, List.getElem?_eq_getElem hi]; rfl
   rw [← hpe] at hp
   have hp' : (rest.getD i []).getD c 0 ≠ 0 := of_decide_eq_true hp
   have hpm : rest.getD i [] ∈ rest := by rw [hpe]; exact List.getElem_mem hi
   have hpw := hwr _ hpm
   generalize rest.getD i [] = p at *
   have hfp := fnR_pivot c p hp'
   have huw : (p.map fun x => x / p.getD c 0).length = w := by rw [List.length_map]; exact hpw
   generalize (p.map fun x => x / p.getD c 0) = u at *
   have h := ih (c + 1) (done.map (clearedR c u) ++ [u]) ((rest.eraseIdx i).map (clearedR c u)) (by rw [List.length_map, List.length_eraseIdx_of_lt hi]; omega)
    (by
     intro r hr
     rcases List.mem_append.mp hr with h | h
     ·obtain ⟨y, hy, rfl⟩ := List.mem_map.mp h
      rw [clearedR_len]; exact hwd y hy
     ·have : r = u := by simpa using h
      rw [this]; exact huw)
    (by
     intro r hr
     obtain ⟨y, hy, rfl⟩ := List.mem_map.mp hr
     rw [clearedR_len]; exact hwr y (List.mem_of_mem_eraseIdx hy))
    (by rw [hlen, List.length_append, List.length_map]; simp; omega) hk
   have hu : dot x m (fnR u) = 0 := h u (by simp)
   have hcl : ∀ y : List Rat, y.length = w → dot x m (fnR (clearedR c u y)) = 0 → dot x m (fnR y) = 0 := by
    intro y hy h2
    rw [fnR_cleared c u y (by omega), dot_lin, hu] at h2
    grind
   rcases List.mem_append.mp hr with h1 | h1
   ·exact hcl r (hwd r h1) (h _ (List.mem_append_left _ (List.mem_append_left _ (List.mem_map_of_mem h1))))
   ·rcases mem_or_eraseIdx (i := i) ([] : List Rat) h1 with h2 | h2
    ·have : r = p := by
      rw [h2, hpe, List.getD_eq_getElem?_getD, List.getElem?_eq_getElem hi]; rfl
     rw [this, hfp, dot_lin, hu, dot_zrow]
     grind
    ·exact hcl r (hwr r h1) (h _ (List.mem_append_right _ (List.mem_map_of_mem h2)))
theorem solved_sound (n : Nat) (rows : List (List Int)) (hn : rows.length = n) (hw : ∀ r ∈ rows, r.length = n + 1) {v : List Rat} (hv : solvedR n (rows.map ratRow) = some v) :
  v.length = n ∧ ∀ R ∈ rows, ((List.range n).map fun j => ((R.getD j 0 : Int) : Rat) * v.getD j 0).sum = ((R.getD n 0 : Int) : Rat) := by
 have S := side_init (n + 1) rows hw
 have h := solveGo_spec n S
 have hl : (solvingR 0 n [] (rows.map ratRow)).length = n := by
  unfold solvedR at hv
  dsimp only at hv
  split at hv
  ·assumption
  ·cases hv
 have hv2 : v = (solvingR 0 n [] (rows.map ratRow)).map fun r => r.getD n 0 := by
  unfold solvedR at hv
  dsimp only at hv
  rw [if_pos hl] at hv
  exact (Option.some.inj hv).symm
 have hvl : v.length = n := by rw [hv2, List.length_map]; exact hl
 refine ⟨hvl, ?_⟩
 cases e : solveGo n 0 1 rows with
 | none =>
  rw [e] at h
  dsimp only at h
  omega
 | some x =>
  obtain ⟨rows', b⟩ := x
  rw [e] at h
  dsimp only at h
  obtain ⟨rest', S'⟩ := h
  obtain ⟨_, _, _, I⟩ := S'.bi
  have hkill := solving_kill (fun j => if j < n then v.getD j 0 else -1) (n + 1) (n + 1) n 0 [] (rows.map ratRow) (by rw [List.length_map]; exact hn) (fun r hr => by simp at hr) (fun r hr => S.wr r hr) (by rw [hl]; simp) ?_
  ·intro R hR
   have hd := hkill (ratRow R) (List.mem_append_right _ (List.mem_map_of_mem hR))
   unfold dot at hd
   rw [fn_ratRow, List.range_succ, List.map_append, List.sum_append] at hd
   simp only [List.map_cons, List.map_nil, List.sum_cons, List.sum_nil] at hd
   rw [if_neg (by omega)] at hd
   have e1 : ((List.range n).map fun j => fnI R j * if j < n then v.getD j 0 else -1) = (List.range n).map fun j => ((R.getD j 0 : Int) : Rat) * v.getD j 0 := by
    apply List.map_congr_left
    intro j hj
    rw [if_pos (List.mem_range.mp hj)]
    rfl
   rw [e1] at hd
   simp only [fnI] at hd
   grind
  ·intro r hr
   obtain ⟨a, ha⟩ := List.mem_iff_getElem?.mp hr
   have hla : a < n := by
    have := (List.getElem?_eq_some_iff.mp ha).1
    omega
   have hu := I.unit a (fnR r) (by rw [List.getElem?_map, ha]; rfl)
   have hva : v.getD a 0 = r.getD n 0 := by
    rw [hv2, List.getD_eq_getElem?_getD, List.getElem?_map, ha]; rfl
   unfold dot
   rw [List.range_succ, List.map_append, List.sum_append]
   simp only [List.map_cons, List.map_nil, List.sum_cons, List.sum_nil]
   rw [if_neg (by omega)]
   have e1 : ((List.range n).map fun j => fnR r j * if j < n then v.getD j 0 else -1) = (List.range n).map fun j => if a = j then v.getD a 0 else 0 := by
    apply List.map_congr_left
    intro j hj
    rw [if_pos (List.mem_range.mp hj), hu j (by have := List.mem_range.mp hj; omega)]
    by_cases q : a = j
    ·subst q; rw [if_pos rfl, if_pos rfl]; grind
    ·rw [if_neg q, if_neg q]; grind
   have e2 : ∀ m, a < m → ((List.range m).map fun j => if a = j then v.getD a 0 else 0).sum = v.getD a 0 := by
    intro m
    induction m with
    | zero => intro h; omega
    | succ m ih =>
     intro hm
     rw [List.range_succ, List.map_append, List.sum_append]
     simp only [List.map_cons, List.map_nil, List.sum_cons, List.sum_nil]
     by_cases q : a = m
     ·subst q
      rw [if_pos rfl]
      have : ((List.range a).map fun j => if a = j then v.getD a 0 else 0) = (List.range a).map fun j => 0 * (0 : Rat) := by
       apply List.map_congr_left
       intro j hj
       rw [if_neg (by have := List.mem_range.mp hj; omega)]
       grind
      rw [this, sum_mul]
      grind
     ·rw [ih (by omega), if_neg q]
      grind
   rw [e1, e2 n hla, hva]
   simp only [fnR]
   grind
end Cw
end
section
set_option linter.all false
namespace Cw
open Vbecam
theorem greatest_le (l : List Rat) : ∀ (a : Rat), a ≤ l.foldl (fun a b => if a < b then b else a) a ∧ (∀ x ∈ l, x ≤ l.foldl (fun a b => if a < b then b else a) a) ∧ (l.foldl (fun a b => if a < b then b else a) a = a ∨ l.foldl (fun a b => if a < b then b else a) a ∈ l) := by
 induction l with
 | nil => intro a; exact ⟨Rat.le_refl, fun x hx => by simp at hx, .inl rfl⟩
 | cons y l ih =>
  intro a
  rw [List.foldl_cons]
  obtain ⟨h1, h2, h3⟩ := ih (if a < y then y else a)
  generalize l.foldl (fun a b => if a < b then b else a) (if a < y then y else a) = g at *
  have ha : a ≤ if a < y then y else a := by split <;> grind
  have hy : y ≤ if a < y then y else a := by split <;> grind
  refine ⟨Rat.le_trans ha h1, ?_, ?_⟩
  ·intro x hx
   rcases List.mem_cons.mp hx with e | hm
   ·rw [e]; exact Rat.le_trans hy h1
   ·exact h2 x hm
  ·rcases h3 with e | hm
   ·rw [e]
    split
    ·exact .inr (List.Mem.head _)
    ·exact .inl rfl
   ·exact .inr (List.Mem.tail _ hm)
theorem greatestR_eq {l : List Rat} {m : Rat} (hm : m ∈ l) (hu : ∀ x ∈ l, x ≤ m) : greatestR l = m := by
 unfold greatestR
 cases l with
 | nil => simp at hm
 | cons a l =>
  obtain ⟨h1, h2, h3⟩ := greatest_le (a :: l) ((a :: l).headD 0)
  have h4 := h2 m hm
  generalize (a :: l).foldl (fun a b => if a < b then b else a) ((a :: l).headD 0) = g at *
  have h5 : g ≤ m := by
   rcases h3 with e | h
   ·rw [e]; exact hu a (List.Mem.head _)
   ·exact hu g h
  exact Rat.le_antisymm h5 h4
theorem div_le {a b : Int} {t : Rat} (ht : 0 < t) : (a : Rat) / t ≤ (b : Rat) / t ↔ a ≤ b := by
 have key : ∀ x y : Int, (x : Rat) / t < (y : Rat) / t ↔ x < y := by
  intro x y
  rw [Rat.div_lt_iff ht]
  have : (y : Rat) / t * t = y := by grind
  rw [this]
  exact Rat.intCast_lt_intCast
 have h := key b a
 rw [← Rat.not_lt, h]
 omega
theorem div_inj {a b : Int} {t : Rat} (ht : 0 < t) : (a : Rat) / t = (b : Rat) / t ↔ a = b := by
 constructor
 ·intro h
  have h1 := (div_le (a := a) (b := b) ht).mp (by rw [h]; exact Rat.le_refl)
  have h2 := (div_le (a := b) (b := a) ht).mp (by rw [h]; exact Rat.le_refl)
  omega
 ·intro h; rw [h]
theorem div_pos {a : Int} {t : Rat} (ht : 0 < t) : 0 < (a : Rat) / t ↔ 0 < a := by
 have h := div_le (a := a) (b := 0) ht
 have e : ((0 : Int) : Rat) / t = 0 := zdiv t
 rw [e] at h
 constructor
 ·intro q
  have : ¬ a ≤ 0 := fun h0 => Rat.not_lt.mpr (h.mpr h0) q
  omega
 ·intro q
  have : ¬ ((a : Rat) / t ≤ 0) := fun h0 => by have := h.mp h0; omega
  exact Rat.not_le.mp this
theorem best_scaled {s W} (h : StOk s W) {q : List Rat} {w : List Int} {t : Rat} (ht : 0 < t) (hw : w.length = s.n) (hq : ∀ j, q.getD j 0 = ((w.getD j 0 : Int) : Rat) / t) {m : Int} (hm : m ∈ wonM W w) (hu : ∀ y ∈ wonM W w, y ≤ m) :
  bestR s q = (m : Rat) / t := by
 unfold bestR
 apply greatestR_eq
 ·obtain ⟨i, hi⟩ := List.mem_iff_getElem?.mp hm
  have hil : i < s.n := by
   have := (List.getElem?_eq_some_iff.mp hi).1
   rwa [wonM_len h] at this
  apply List.mem_map.mpr
  refine ⟨i, List.mem_range.mpr hil, ?_⟩
  rw [against_scaled h hw hq hil, List.getD_eq_getElem?_getD, hi]
  rfl
 ·intro x hx
  obtain ⟨i, hi, rfl⟩ := List.mem_map.mp hx
  have hil : i < s.n := List.mem_range.mp hi
  rw [against_scaled h hw hq hil, div_le ht]
  exact hu _ (getD_mem 0 (by rw [wonM_len h]; exact hil))
theorem replies_scaled {s W} (h : StOk s W) {q : List Rat} {w : List Int} {t : Rat} (ht : 0 < t) (hw : w.length = s.n) (hq : ∀ j, q.getD j 0 = ((w.getD j 0 : Int) : Rat) / t) {m : Int} (hm : m ∈ wonM W w) (hu : ∀ y ∈ wonM W w, y ≤ m) :
  repliesR s q = (List.range s.n).filter fun i => decide ((wonM W w).getD i 0 = m) := by
 unfold repliesR State.all
 apply List.filter_congr
 intro i hi
 rw [best_scaled h ht hw hq hm hu, against_scaled h hw hq (List.mem_range.mp hi), decide_eq_decide]
 exact div_inj ht
def bestM (W : List (List Int)) (q : List Int) (m : Int) : List Nat := (List.range W.length).filter fun i => decide ((wonM W q).getD i 0 = m)
def repliesM (W : List (List Int)) (q : List Int) (m : Int) : List Int := 0 :: (frI m q.sum ++ ((bestM W q m).length : Int) :: (bestM W q m).map fun (i : Nat) => (i : Int))
theorem cast_pos {a : Int} (h : 0 < a) : (0 : Rat) < (a : Rat) := by exact_mod_cast h
theorem replies_ok {s W} (h : StOk s W) (q : List Int) (hq : areWeights W.length q = true) {m : Int} (hm : m ∈ wonM W q) (hu : ∀ y ∈ wonM W q, y ≤ m) :
  act s (.replies q) = (s, repliesM W q m) := by
 rw [← h.n] at hq
 obtain ⟨hq1, hq2, hq3⟩ := weights_of hq
 unfold repliesM bestM
 rw [frI_two hq3, ← h.n]
 show (s, 0 :: (shown [bestValue s (mixture q)] ++ counted (Vbecam.replies s (mixture q)))) = _
 rw [mixture_F, best_F, replies_F, best_scaled h (cast_pos hq3) hq1 (sharesR_get q) hm hu, replies_scaled h (cast_pos hq3) hq1 (sharesR_get q) hm hu]
 rfl
def beatsM (W : List (List Int)) (l : List Nat) (i j : Nat) : Bool := l.all fun k => decide ((W.getD j []).getD k 0 < (W.getD i []).getD k 0)
def unbeatenM (W : List (List Int)) (l : List Nat) : List Nat := l.filter fun j => !(l.any fun i => beatsM W l i j)
theorem kept_one {s W} (h : StOk s W) (l : List Nat) (hl : ∀ i ∈ l, i < s.n) : kept s 1 l = unbeatenM W l := by
 show (l.filter fun j => !(l.any fun i => beats s l i j)) = _
 unfold unbeatenM
 apply List.filter_congr
 intro j hj
 congr 1
 rw [Bool.eq_iff_iff, List.any_eq_true, List.any_eq_true]
 have e : ∀ i ∈ l, beats s l i j = beatsM W l i j := by
  intro i hi
  unfold beats beatsM
  rw [Bool.eq_iff_iff, List.all_eq_true, List.all_eq_true]
  constructor
  ·intro q k hk
   have := q k hk
   rwa [h.win (hl j hj) (hl k hk), h.win (hl i hi) (hl k hk)] at this
  ·intro q k hk
   have := q k hk
   rwa [h.win (hl j hj) (hl k hk), h.win (hl i hi) (hl k hk)]
 constructor
 ·rintro ⟨i, hi, q⟩; exact ⟨i, hi, by rw [← e i hi]; exact q⟩
 ·rintro ⟨i, hi, q⟩; exact ⟨i, hi, by rw [e i hi]; exact q⟩
theorem kept_add (s : State) (a b : Nat) : ∀ l, kept s (a + b) l = kept s b (kept s a l) := by
 induction a with
 | zero => intro l; rw [Nat.zero_add]; rfl
 | succ a ih => intro l; rw [Nat.succ_add]; show kept s (a + b) _ = _; rw [ih]; rfl
theorem kept_fix (s : State) (l : List Nat) (h : kept s 1 l = l) : ∀ m, kept s m l = l := by
 intro m
 induction m with
 | zero => rfl
 | succ m ih => rw [kept_add, ih, h]
theorem unbeaten_sub (W : List (List Int)) (l : List Nat) : (unbeatenM W l).length ≤ l.length := List.length_filter_le _ _
theorem unbeaten_fix (W : List (List Int)) (l : List Nat) (h : l.length ≤ (unbeatenM W l).length) : unbeatenM W l = l := by
 have h1 : (unbeatenM W l).length = l.length := Nat.le_antisymm (unbeaten_sub W l) h
 unfold unbeatenM at h1 ⊢
 exact List.filter_eq_self.mpr (fun a ha => by
  have := List.length_filter_eq_length_iff.mp h1
  exact this a ha)
structure Surv (s : State) (W : List (List Int)) (there : List Nat) : Prop where
 at_ : ∃ m, there = kept s m s.all ∧ there.length + m ≤ s.n
 lt : ∀ i ∈ there, i < s.n
theorem surv_start (s : State) (W : List (List Int)) : Surv s W (List.range s.n) where
 at_ := ⟨0, rfl, by simp⟩
 lt := fun i hi => List.mem_range.mp hi
theorem surv_turn {s W there} (h : StOk s W) (S : Surv s W there) (hl : (unbeatenM W there).length < there.length) : Surv s W (unbeatenM W there) where
 at_ := by
  obtain ⟨m, e, hm⟩ := S.at_
  refine ⟨m + 1, ?_, by omega⟩
  rw [kept_add, ← e, kept_one h there S.lt]
 lt := fun i hi => S.lt i ((List.mem_filter.mp hi).1)
theorem surv_end {s W there} (h : StOk s W) (S : Surv s W there) (hl : ¬ (unbeatenM W there).length < there.length) : act s .survivors = (s, ((unbeatenM W there).length : Int) :: (unbeatenM W there).map fun (i : Nat) => (i : Int)) := by
 have e1 := unbeaten_fix W there (by omega)
 obtain ⟨m, e, hm⟩ := S.at_
 have e2 : kept s 1 there = there := by rw [kept_one h there S.lt, e1]
 show (s, counted (Vbecam.survivors s)) = _
 have e3 : Vbecam.survivors s = there := by
  unfold Vbecam.survivors
  have hn : s.n = m + (s.n - m) := by omega
  have e4 := kept_add s m (s.n - m) s.all
  rw [← hn, ← e, kept_fix s there e2] at e4
  exact e4
 rw [e3, e1]
 rfl
theorem told_ok {s W} (h : StOk s W) : act s .told = (s, (W.length : Int) :: W.flatten) := by
 show (s, (s.n : Int) :: s.wins) = _
 rw [h.n, h.wins]
def chunks (n : Nat) (w : List Int) : List (List Int) := (List.range n).map fun i => (w.drop (i * n)).take n
theorem chunks_flat (k n : Nat) : ∀ (w : List Int), w.length = k * n → ((List.range k).map fun i => (w.drop (i * n)).take n).flatten = w := by
 induction k with
 | zero => intro w h; simp at h; subst h; rfl
 | succ k ih =>
  intro w h
  rw [List.range_succ_eq_map, List.map_cons, List.flatten_cons, List.map_map]
  have e := ih (w.drop n) (by rw [List.length_drop, h, Nat.succ_mul]; omega)
  have e2 : (List.map ((fun i => (w.drop (i * n)).take n) ∘ Nat.succ) (List.range k)) = (List.range k).map fun i => ((w.drop n).drop (i * n)).take n := by
   apply List.map_congr_left
   intro i _
   simp only [Function.comp, List.drop_drop]
   congr 2
   rw [Nat.succ_mul]; omega
  rw [e2, e]
  simp
theorem contest_ok (n : Nat) (w : List Int) (h1 : 1 ≤ n) (h4 : n ≤ 4) (hl : w.length = n * n) : StOk { n := n, wins := w } (chunks n w) where
 n := by simp [chunks]
 row := by
  intro r hr
  obtain ⟨i, hi, rfl⟩ := List.mem_map.mp hr
  have := List.mem_range.mp hi
  rw [List.length_take, List.length_drop, hl]
  show min n (n * n - i * n) = n
  have h2 : n ≤ n * n - i * n := by
   rw [← Nat.mul_sub_right_distrib]
   exact Nat.le_mul_of_pos_left n (by omega)
  omega
 wins := (chunks_flat n n w hl).symm
 pos := h1
 four := h4
end Cw
end
section
set_option linter.all false
namespace Cw
open Vbecam
def eqsI (W : List (List Int)) (S : List Nat) : List (List Int) :=
 (S.map fun i => (S.map fun j => (W.getD i []).getD j 0) ++ [-1, 0]) ++ [(S.map fun _ => 1) ++ [0, 1]]
structure SetOk (n : Nat) (S : List Nat) : Prop where
 ne : 0 < S.length
 nd : S.Nodup
 lt : ∀ i ∈ S, i < n
theorem eqs_rat {s W} (h : StOk s W) {S : List Nat} (hS : ∀ i ∈ S, i < s.n) : equationsR s S = (eqsI W S).map ratRow := by
 unfold equationsR eqsI
 rw [List.map_append, List.map_map]
 congr 1
 ·apply List.map_congr_left
  intro i hi
  simp only [Function.comp, ratRow, List.map_append, List.map_map]
  congr 1
  apply List.map_congr_left
  intro j hj
  simp only [Function.comp]
  rw [h.win (hS i hi) (hS j hj)]
 ·simp only [List.map_cons, List.map_nil, ratRow, List.map_append, List.map_map]
  congr 1
theorem eqs_len (W : List (List Int)) (S : List Nat) : (eqsI W S).length = S.length + 1 := by simp [eqsI]
theorem eqs_row (W : List (List Int)) (S : List Nat) : ∀ r ∈ eqsI W S, r.length = S.length + 1 + 1 := by
 intro r hr
 unfold eqsI at hr
 rcases List.mem_append.mp hr with h | h
 ·obtain ⟨i, _, rfl⟩ := List.mem_map.mp h
  simp
 ·have := List.mem_singleton.mp h
  rw [this]; simp
def weightsM (n : Nat) (S : List Nat) (sol : List Int) : List Int := (S.zip sol).foldl (fun w p => w.set p.1 p.2) (List.replicate n 0)
theorem fold_len : ∀ (l : List (Nat × Int)) (w : List Int), (l.foldl (fun w p => w.set p.1 p.2) w).length = w.length := by
 intro l
 induction l with
 | nil => intro w; rfl
 | cons x l ih => intro w; rw [List.foldl_cons, ih, List.length_set]
theorem weightsM_len (n : Nat) (S : List Nat) (sol : List Int) : (weightsM n S sol).length = n := by
 unfold weightsM; rw [fold_len, List.length_replicate]
theorem getD_set (w : List Int) (i j : Nat) (x : Int) (hi : i < w.length) : (w.set i x).getD j 0 = if i = j then x else w.getD j 0 := by
 simp only [List.getD_eq_getElem?_getD, List.getElem?_set]
 by_cases e : i = j
 ·subst e; rw [if_pos rfl, if_pos hi, if_pos rfl]; rfl
 ·rw [if_neg e, if_neg e]
theorem fold_get (j : Nat) : ∀ (S : List Nat) (sol w : List Int), S.Nodup → S.length ≤ sol.length → (∀ i ∈ S, i < w.length) →
  ((S.zip sol).foldl (fun w p => w.set p.1 p.2) w).getD j 0 = match S.findIdx? (fun k => k == j) with | none => w.getD j 0 | some k => sol.getD k 0 := by
 intro S
 induction S with
 | nil => intro sol w _ _ _; rfl
 | cons i S ih =>
  intro sol w hn hl hi
  cases sol with
  | nil => simp at hl
  | cons x sol =>
   rw [List.zip_cons_cons, List.foldl_cons, List.findIdx?_cons]
   have hn2 := List.nodup_cons.mp hn
   have hi1 : i < w.length := hi i (List.Mem.head _)
   rw [ih sol _ hn2.2 (by simpa using hl) (fun k hk => by rw [List.length_set]; exact hi k (List.Mem.tail _ hk))]
   by_cases e : i = j
   ·subst e
    have h0 : S.findIdx? (fun k => k == i) = none := by
     rw [List.findIdx?_eq_none_iff]
     intro k hk
     simp only [beq_eq_false_iff_ne]
     intro e; subst e
     exact hn2.1 hk
    rw [h0]
    simp only [beq_self_eq_true, if_true]
    rw [getD_set _ _ _ _ hi1, if_pos rfl]
    rfl
   ·have e2 : (i == j) = false := by simpa using e
    rw [e2]
    cases S.findIdx? (fun k => k == j) with
    | none =>
     simp only [Option.map_none]
     rw [getD_set _ _ _ _ hi1, if_neg e]
     rfl
    | some k =>
     simp only [Option.map_some]
     rfl
theorem weightsM_get {n : Nat} {S : List Nat} (h : SetOk n S) {sol : List Int} (hl : S.length ≤ sol.length) (j : Nat) :
  (weightsM n S sol).getD j 0 = match S.findIdx? (fun k => k == j) with | none => 0 | some k => sol.getD k 0 := by
 unfold weightsM
 rw [fold_get j S sol _ h.nd hl (fun i hi => by rw [List.length_replicate]; exact h.lt i hi)]
 have : (List.replicate n (0 : Int)).getD j 0 = 0 := by
  rw [List.getD_eq_getElem?_getD, List.getElem?_replicate]
  split <;> rfl
 rw [this]
theorem spread_get {s : State} {S : List Nat} (h : SetOk s.n S) (v : List Rat) (j : Nat) : (spreadR s S v).getD j 0 = match S.findIdx? (fun k => k == j) with | none => 0 | some k => v.getD k 0 := by
 unfold spreadR State.all
 simp only [List.getD_eq_getElem?_getD, List.getElem?_map]
 by_cases hj : j < s.n
 ·rw [List.getElem?_range hj]
  simp only [Option.map_some, Option.getD_some]
  all_goals rfl
 ·rw [List.getElem?_eq_none (l := List.range s.n) (by simpa using hj)]
  have h0 : S.findIdx? (fun k => k == j) = none := by
   rw [List.findIdx?_eq_none_iff]
   intro k hk
   have := h.lt k hk
   simp only [beq_eq_false_iff_ne]
   omega
  rw [h0]
  rfl
def zs (f : Nat → Int) (S : List Nat) (sol : List Int) : Int := (List.zipWith (fun i x => f i * x) S sol).sum
theorem wsum_set (a w : List Int) (i : Nat) (x : Int) (hl : a.length = w.length) (hi : i < w.length) (h0 : w.getD i 0 = 0) : wsum a (w.set i x) = wsum a w + a.getD i 0 * x := by
 unfold wsum
 induction w generalizing a i with
 | nil => simp at hi
 | cons y w ih =>
  cases a with
  | nil => simp at hl
  | cons b a =>
   cases i with
   | zero =>
    have hy : y = 0 := by simpa using h0
    subst hy
    simp only [List.set_cons_zero, List.zipWith_cons_cons, List.sum_cons, List.getD_cons_zero]
    grind
   | succ i =>
    simp only [List.set_cons_succ, List.zipWith_cons_cons, List.sum_cons, List.getD_cons_succ]
    rw [ih a i (by simpa using hl) (by simpa using hi) (by simpa using h0)]
    omega
theorem fold_wsum (a : List Int) : ∀ (S : List Nat) (sol w : List Int), S.Nodup → S.length ≤ sol.length → a.length = w.length → (∀ i ∈ S, i < w.length ∧ w.getD i 0 = 0) →
  wsum a ((S.zip sol).foldl (fun w p => w.set p.1 p.2) w) = wsum a w + zs (fun i => a.getD i 0) S sol := by
 intro S
 induction S with
 | nil => intro sol w _ _ _ _; simp [zs]
 | cons i S ih =>
  intro sol w hn hl ha hi
  cases sol with
  | nil => simp at hl
  | cons x sol =>
   have hn2 := List.nodup_cons.mp hn
   obtain ⟨hi1, hi2⟩ := hi i (List.Mem.head _)
   rw [List.zip_cons_cons, List.foldl_cons, ih sol _ hn2.2 (by simpa using hl) (by rw [List.length_set]; exact ha)
    (fun k hk => by
     refine ⟨by rw [List.length_set]; exact (hi k (List.Mem.tail _ hk)).1, ?_⟩
     rw [getD_set _ _ _ _ hi1, if_neg (fun e => hn2.1 (by rw [e]; exact hk))]
     exact (hi k (List.Mem.tail _ hk)).2), wsum_set a w i x ha hi1 hi2]
   simp only [zs, List.zipWith_cons_cons, List.sum_cons]
   omega
theorem wsum_zero (n : Nat) : ∀ (a : List Int), wsum a (List.replicate n 0) = 0 := by
 induction n with
 | zero => intro a; simp [wsum]
 | succ n ih =>
  intro a
  cases a with
  | nil => simp [wsum]
  | cons b a =>
   have := ih a
   simp only [wsum, List.replicate_succ, List.zipWith_cons_cons, List.sum_cons] at this ⊢
   rw [this]; omega
theorem wsum_weights {n : Nat} {S : List Nat} (h : SetOk n S) {sol : List Int} (hl : S.length ≤ sol.length) (a : List Int) (ha : a.length = n) : wsum a (weightsM n S sol) = zs (fun i => a.getD i 0) S sol := by
 unfold weightsM
 rw [fold_wsum a S sol _ h.nd hl (by rw [List.length_replicate]; exact ha) (fun i hi => ⟨by rw [List.length_replicate]; exact h.lt i hi, by
  rw [List.getD_eq_getElem?_getD, List.getElem?_replicate]
  split <;> rfl⟩), wsum_zero]
 omega
theorem sum_wsum : ∀ (w : List Int), w.sum = wsum (List.replicate w.length 1) w := by
 intro w
 induction w with
 | nil => rfl
 | cons x w ih =>
  simp only [wsum] at ih ⊢
  rw [List.length_cons, List.replicate_succ, List.zipWith_cons_cons, List.sum_cons, List.sum_cons, ← ih]
  omega
theorem zs_range (f : Nat → Int) : ∀ (S : List Nat) (sol : List Int), S.length ≤ sol.length → zs f S sol = ((List.range S.length).map fun k => f (S.getD k 0) * sol.getD k 0).sum := by
 intro S
 induction S with
 | nil => intro sol _; simp [zs]
 | cons i S ih =>
  intro sol hl
  cases sol with
  | nil => simp at hl
  | cons x sol =>
   have := ih sol (by simpa using hl)
   simp only [zs, List.zipWith_cons_cons, List.sum_cons, List.length_cons, List.range_succ_eq_map, List.map_cons, List.map_map] at this ⊢
   rw [this]
   rfl
structure Lev (s : State) (W : List (List Int)) (S : List Nat) (sol : List Int) (v : List Rat) (den : Int) : Prop where
 bal : balancedR s S = some v
 len : sol.length = S.length + 1
 pos : 0 < den
 at_ : ∀ i, ((sol.getD i 0 : Int) : Rat) = (den : Rat) * v.getD i 0
 sum : (weightsM s.n S sol).sum = den
 won : ∀ i ∈ S, (wonM W (weightsM s.n S sol)).getD i 0 = sol.getD S.length 0
theorem row_at (S : List Nat) (f : Nat → Int) (x y : Int) : (∀ k, k < S.length → ((S.map f) ++ [x, y]).getD k 0 = f (S.getD k 0)) ∧ ((S.map f) ++ [x, y]).getD S.length 0 = x ∧ ((S.map f) ++ [x, y]).getD (S.length + 1) 0 = y := by
 refine ⟨?_, ?_, ?_⟩
 ·intro k hk
  simp only [List.getD_eq_getElem?_getD]
  rw [List.getElem?_append_left (by rw [List.length_map]; exact hk), List.getElem?_map, List.getElem?_eq_getElem hk]
  rfl
 ·rw [List.getD_eq_getElem?_getD, List.getElem?_append_right (by rw [List.length_map]; omega), List.length_map]
  simp
 ·rw [List.getD_eq_getElem?_getD, List.getElem?_append_right (by rw [List.length_map]; omega), List.length_map]
  have : S.length + 1 - S.length = 1 := by omega
  rw [this]; rfl
theorem zs_scaled (f : Nat → Int) (S : List Nat) (sol : List Int) (v : List Rat) (den : Int) (hl : S.length ≤ sol.length) (h : ∀ i, ((sol.getD i 0 : Int) : Rat) = (den : Rat) * v.getD i 0) :
  ((zs f S sol : Int) : Rat) = (den : Rat) * ((List.range S.length).map fun k => ((f (S.getD k 0) : Int) : Rat) * v.getD k 0).sum := by
 rw [zs_range f S sol hl, ← sum_cast, ← sum_mul]
 congr 1
 apply List.map_congr_left
 intro k _
 rw [Rat.intCast_mul, h]
 grind
theorem level_ok {s W} (h : StOk s W) {S : List Nat} (hS : SetOk s.n S) :
  match solveI (S.length + 1) (eqsI W S) with
  | none => balancedR s S = none
  | some sol => ∃ v den, Lev s W S sol v den := by
 have h1 := solveI_spec (S.length + 1) (eqsI W S) (eqs_len W S) (eqs_row W S)
 cases e : solveI (S.length + 1) (eqsI W S) with
 | none =>
  rw [e] at h1
  dsimp only at h1 ⊢
  unfold balancedR
  rw [eqs_rat h hS.lt]
  exact h1
 | some sol =>
  rw [e] at h1
  dsimp only at h1 ⊢
  obtain ⟨v, den, hv, hvl, hsl, hden, hat⟩ := h1
  obtain ⟨_, hsound⟩ := solved_sound (S.length + 1) (eqsI W S) (eqs_len W S) (eqs_row W S) hv
  have hb : balancedR s S = some v := by
   unfold balancedR
   rw [eqs_rat h hS.lt]; exact hv
  have hd0 : (den : Rat) ≠ 0 := fun q => by have := cast_zero.mp q; omega
  have split : ∀ (f : Nat → Int) (x y : Int), (S.map f ++ [x, y]) ∈ eqsI W S → ((List.range S.length).map fun k => ((f (S.getD k 0) : Int) : Rat) * v.getD k 0).sum + (x : Rat) * v.getD S.length 0 = (y : Rat) := by
   intro f x y hm
   have hq := hsound _ hm
   obtain ⟨r1, r2, r3⟩ := row_at S f x y
   rw [List.range_succ, List.map_append, List.sum_append, r3] at hq
   simp only [List.map_cons, List.map_nil, List.sum_cons, List.sum_nil] at hq
   rw [r2] at hq
   have e1 : ((List.range S.length).map fun j => (((S.map f ++ [x, y]).getD j 0 : Int) : Rat) * v.getD j 0) = (List.range S.length).map fun k => ((f (S.getD k 0) : Int) : Rat) * v.getD k 0 := by
    apply List.map_congr_left
    intro k hk
    rw [r1 k (List.mem_range.mp hk)]
   rw [e1] at hq
   grind
  refine ⟨v, den, hb, hsl, hden, hat, ?_, ?_⟩
  ·rw [sum_wsum, weightsM_len, wsum_weights hS (by omega) _ (by simp)]
   have hz := zs_scaled (fun i => (List.replicate s.n (1 : Int)).getD i 0) S sol v den (by omega) hat
   have h2 := split (fun _ => 1) 0 1 (List.mem_append_right _ (List.mem_singleton.mpr rfl))
   have e2 : ((List.range S.length).map fun k => (((List.replicate s.n (1 : Int)).getD (S.getD k 0) 0 : Int) : Rat) * v.getD k 0) = (List.range S.length).map fun k => (((1 : Int)) : Rat) * v.getD k 0 := by
    apply List.map_congr_left
    intro k hk
    have hlt := hS.lt (S.getD k 0) (getD_mem 0 (List.mem_range.mp hk))
    congr 2
    rw [List.getD_eq_getElem?_getD, List.getElem?_replicate, if_pos hlt]
    rfl
   rw [e2] at hz
   have h3 : (((0 : Int)) : Rat) * v.getD S.length 0 = 0 := by
    have : ((0 : Int) : Rat) = 0 := rfl
    rw [this]; grind
   rw [h3] at h2
   have h4 : ((List.range S.length).map fun k => (((1 : Int)) : Rat) * v.getD k 0).sum = 1 := by
    have : ((1 : Int) : Rat) = 1 := rfl
    rw [this] at h2 ⊢
    grind
   rw [h4] at hz
   have h5 : ((zs (fun i => (List.replicate s.n (1 : Int)).getD i 0) S sol : Int) : Rat) = (den : Rat) := by rw [hz]; grind
   exact_mod_cast h5
  ·intro i hi
   have hin := hS.lt i hi
   rw [wonM_get h _ hin, wsum_weights hS (by omega) _ (h.row _ (getD_mem [] (by rw [← h.n]; exact hin)))]
   have hz := zs_scaled (fun j => (W.getD i []).getD j 0) S sol v den (by omega) hat
   have h2 := split (fun j => (W.getD i []).getD j 0) (-1) 0 (List.mem_append_left _ (List.mem_map.mpr ⟨i, hi, rfl⟩))
   have h3 : ((List.range S.length).map fun k => (((W.getD i []).getD (S.getD k 0) 0 : Int) : Rat) * v.getD k 0).sum = v.getD S.length 0 := by
    have e0 : ((0 : Int) : Rat) = 0 := rfl
    have e1 : ((-1 : Int) : Rat) = -1 := rfl
    rw [e0, e1] at h2
    grind
   rw [h3, ← hat] at hz
   exact_mod_cast hz
end Cw
end
section
set_option linter.all false
namespace Cw
open Vbecam
theorem findIdx_nodup {S : List Nat} (hn : S.Nodup) {k : Nat} (hk : k < S.length) : S.findIdx? (fun x => x == S.getD k 0) = some k := by
 refine findIdx_some _ 0 S k hk (by simp) ?_
 intro m hm
 simp only [beq_eq_false_iff_ne, ne_eq]
 intro e
 have h1 : S[m]? = some (S.getD k 0) := by
  rw [← e, List.getD_eq_getElem?_getD, List.getElem?_eq_getElem (show m < S.length by omega)]; rfl
 have h2 : S[k]? = some (S.getD k 0) := by
  rw [List.getD_eq_getElem?_getD, List.getElem?_eq_getElem hk]; rfl
 have := (List.getElem?_inj (show m < S.length by omega) hn).mp (h1.trans h2.symm)
 omega
theorem findIdx_notin {S : List Nat} {j : Nat} (h : j ∉ S) : S.findIdx? (fun x => x == j) = none := by
 rw [List.findIdx?_eq_none_iff]
 intro k hk
 simp only [beq_eq_false_iff_ne]
 intro e; subst e; exact h hk
theorem mul_pos_left {a b : Rat} (ha : 0 < a) : 0 < a * b ↔ 0 < b := Rat.mul_pos_iff_of_pos_left ha
theorem Lev.share {s W S sol v den} (L : Lev s W S sol v den) (hS : SetOk s.n S) (j : Nat) : (spreadR s S v).getD j 0 = (((weightsM s.n S sol).getD j 0 : Int) : Rat) / (den : Rat) := by
 have hd0 : (den : Rat) ≠ 0 := fun q => by have := cast_zero.mp q; have := L.pos; omega
 rw [spread_get hS, weightsM_get hS (by rw [L.len]; omega)]
 cases S.findIdx? (fun k => k == j) with
 | none =>
  dsimp only
  have : ((0 : Int) : Rat) = 0 := rfl
  rw [this, zdiv]
 | some k =>
  dsimp only
  rw [L.at_]
  grind
theorem Lev.wset {s W S sol v den} (L : Lev s W S sol v den) (hS : SetOk s.n S) {k : Nat} (hk : k < S.length) : (weightsM s.n S sol).getD (S.getD k 0) 0 = sol.getD k 0 := by
 rw [weightsM_get hS (by rw [L.len]; omega), findIdx_nodup hS.nd hk]
theorem Lev.wout {s W S sol v den} (L : Lev s W S sol v den) (hS : SetOk s.n S) {j : Nat} (h : j ∉ S) : (weightsM s.n S sol).getD j 0 = 0 := by
 rw [weightsM_get hS (by rw [L.len]; omega), findIdx_notin h]
theorem Lev.vpos {s W S sol v den} (L : Lev s W S sol v den) (k : Nat) : 0 < v.getD k 0 ↔ 0 < sol.getD k 0 := by
 have h := L.at_ k
 have hd := cast_pos L.pos
 rw [← mul_pos_left hd, ← h]
 exact Rat.intCast_pos
def restM (W : List (List Int)) (S : List Nat) (w : List Int) (m : Int) : Bool := (S.all fun i => decide (0 < w.getD i 0)) && decide ((wonM W w).getD (S.getD 0 0) 0 = m)
theorem Lev.eq {s W S sol v den} (h : StOk s W) (hS : SetOk s.n S) (L : Lev s W S sol v den) {m : Int} (hm : m ∈ wonM W (weightsM s.n S sol)) (hu : ∀ y ∈ wonM W (weightsM s.n S sol), y ≤ m) :
  equilibriumR s S = if restM W S (weightsM s.n S sol) m then some (spreadR s S v) else none := by
 unfold equilibriumR
 rw [L.bal]
 dsimp only
 congr 1
 have e1 : ((List.range S.length).all fun k => decide (0 < v.getD k 0)) = S.all fun i => decide (0 < (weightsM s.n S sol).getD i 0) := by
  rw [Bool.eq_iff_iff, List.all_eq_true, List.all_eq_true]
  constructor
  ·intro q i hi
   obtain ⟨k, hk⟩ := List.mem_iff_getElem?.mp hi
   have hkl := (List.getElem?_eq_some_iff.mp hk).1
   have := q k (List.mem_range.mpr hkl)
   rw [decide_eq_true_eq] at this ⊢
   have e : S.getD k 0 = i := by rw [List.getD_eq_getElem?_getD, hk]; rfl
   rw [← e, L.wset hS hkl, ← L.vpos]
   exact this
  ·intro q k hk
   have hkl := List.mem_range.mp hk
   have := q (S.getD k 0) (getD_mem 0 hkl)
   rw [decide_eq_true_eq] at this ⊢
   rw [L.wset hS hkl, ← L.vpos] at this
   exact this
 unfold restM
 rw [e1]
 cases hp : S.all fun i => decide (0 < (weightsM s.n S sol).getD i 0) with
 | false => rfl
 | true =>
  rw [Bool.true_and, Bool.true_and]
  have hd := cast_pos L.pos
  have hrep := replies_scaled h hd (weightsM_len s.n S sol) (L.share hS) hm hu
  unfold isRestR
  rw [hrep]
  have hsup : ∀ i, i ∈ supportR s (spreadR s S v) ↔ i ∈ S := by
   intro i
   unfold supportR State.all
   rw [List.mem_filter, List.mem_range, decide_eq_true_eq, L.share hS, div_pos hd]
   constructor
   ·rintro ⟨_, q⟩
    by_cases hi : i ∈ S
    ·exact hi
    ·rw [L.wout hS hi] at q; omega
   ·intro hi
    refine ⟨hS.lt i hi, ?_⟩
    have := List.all_eq_true.mp hp i hi
    exact of_decide_eq_true this
  have h0 : S.getD 0 0 ∈ S := getD_mem 0 hS.ne
  have key : (∀ i ∈ supportR s (spreadR s S v), (((List.range s.n).filter fun i => decide ((wonM W (weightsM s.n S sol)).getD i 0 = m)).contains i) = true) ↔ (wonM W (weightsM s.n S sol)).getD (S.getD 0 0) 0 = m := by
   constructor
   ·intro q
    have := q _ ((hsup _).mpr h0)
    rw [List.contains_iff_mem, List.mem_filter, decide_eq_true_eq] at this
    exact this.2
   ·intro q i hi
    have hi2 := (hsup i).mp hi
    rw [List.contains_iff_mem, List.mem_filter, decide_eq_true_eq, L.won i hi2, ← L.won _ h0]
    exact ⟨List.mem_range.mpr (hS.lt i hi2), q⟩
  apply propext
  rw [List.all_eq_true, key, decide_eq_true_eq]
def supportM (W : List (List Int)) (S : List Nat) (w : List Int) (m : Int) : List Int := if restM W S w m then 1 :: ((w.flatMap fun x => frI x w.sum) ++ frI m w.sum) else [0]
theorem flat_congr {α : Type} (l : List α) (f g : α → List Int) (h : ∀ x ∈ l, f x = g x) : l.flatMap f = l.flatMap g := by
 induction l with
 | nil => rfl
 | cons x l ih => rw [List.flatMap_cons, List.flatMap_cons, h x (List.Mem.head _), ih fun y hy => h y (List.Mem.tail _ hy)]
theorem list_of_getD {l : List Rat} {n : Nat} (hl : l.length = n) : l = (List.range n).map fun i => l.getD i 0 := by
 apply List.ext_getElem?
 intro i
 rw [List.getElem?_map]
 by_cases h : i < n
 ·rw [List.getElem?_range h, List.getElem?_eq_getElem (by omega), Option.map_some, List.getD_eq_getElem?_getD, List.getElem?_eq_getElem (by omega)]
  rfl
 ·rw [List.getElem?_eq_none (l := l) (by omega), List.getElem?_eq_none (l := List.range n) (by simpa using h)]
  rfl
theorem listI_of_getD {l : List Int} {n : Nat} (hl : l.length = n) : l = (List.range n).map fun i => l.getD i 0 := by
 apply List.ext_getElem?
 intro i
 rw [List.getElem?_map]
 by_cases h : i < n
 ·rw [List.getElem?_range h, List.getElem?_eq_getElem (by omega), Option.map_some, List.getD_eq_getElem?_getD, List.getElem?_eq_getElem (by omega)]
  rfl
 ·rw [List.getElem?_eq_none (l := l) (by omega), List.getElem?_eq_none (l := List.range n) (by simpa using h)]
  rfl
theorem Lev.list {s W S sol v den} (L : Lev s W S sol v den) (hS : SetOk s.n S) : spreadR s S v = (weightsM s.n S sol).map fun (x : Int) => (x : Rat) / (den : Rat) := by
 have hl : (spreadR s S v).length = s.n := by simp [spreadR, State.all]
 rw [list_of_getD hl, listI_of_getD (weightsM_len s.n S sol), List.map_map]
 apply List.map_congr_left
 intro j _
 rw [L.share hS]
 simp only [Function.comp]
theorem support_some {s W S sol v den} (h : StOk s W) (hS : SetOk s.n S) (L : Lev s W S sol v den) {m : Int} (hm : m ∈ wonM W (weightsM s.n S sol)) (hu : ∀ y ∈ wonM W (weightsM s.n S sol), y ≤ m)
  (l : List Int) (hl : nats l = S) : act s (.support l) = (s, supportM W S (weightsM s.n S sol) m) := by
 show (if singular s (nats l) = true then (s, [-5]) else (s, match equilibrium s (nats l) with | none => [0] | some p => 1 :: (shown p ++ shown [Vbecam.value s p p]))) = _
 rw [hl, singular_F, L.bal, equilibrium_F, L.eq h hS hm hu]
 unfold supportM
 cases hr : restM W S (weightsM s.n S sol) m with
 | false => rfl
 | true =>
  simp only [Option.isNone_some, Bool.false_eq_true, if_false, if_true, Option.map_some]
  have hw : 0 < (weightsM s.n S sol).sum := by rw [L.sum]; exact L.pos
  rw [shown_F, value_F]
  have hval : valueR s (spreadR s S v) (spreadR s S v) = (m : Rat) / (den : Rat) := by
   rw [value_scaled h (weightsM_len s.n S sol) (weightsM_len s.n S sol) (L.share hS) (L.share hS)]
   have e : wsum (wonM W (weightsM s.n S sol)) (weightsM s.n S sol) = m * den := by
    rw [← L.sum, sum_wsum, weightsM_len, wsum_range s.n _ _ (wonM_len h _) (weightsM_len _ _ _), wsum_range s.n _ _ (by simp) (weightsM_len _ _ _)]
    have : ∀ l : List Nat, (∀ j ∈ l, j < s.n) → (l.map fun j => (wonM W (weightsM s.n S sol)).getD j 0 * (weightsM s.n S sol).getD j 0).sum = m * (l.map fun j => (List.replicate s.n (1 : Int)).getD j 0 * (weightsM s.n S sol).getD j 0).sum := by
     intro l
     induction l with
     | nil => intro _; simp
     | cons j l ih =>
      intro hl
      have hj := hl j (List.Mem.head _)
      have e1 : (List.replicate s.n (1 : Int)).getD j 0 = 1 := by
       rw [List.getD_eq_getElem?_getD, List.getElem?_replicate, if_pos hj]; rfl
      simp only [List.map_cons, List.sum_cons]
      rw [ih fun x hx => hl x (List.Mem.tail _ hx), e1]
      have e2 : (wonM W (weightsM s.n S sol)).getD j 0 * (weightsM s.n S sol).getD j 0 = m * (weightsM s.n S sol).getD j 0 := by
       by_cases hjS : j ∈ S
       ·unfold restM at hr
        rw [Bool.and_eq_true, decide_eq_true_eq] at hr
        rw [L.won j hjS, ← L.won _ (getD_mem 0 hS.ne), hr.2]
       ·rw [L.wout hS hjS]; simp
      rw [e2, Int.one_mul, Int.mul_add]
    exact this (List.range s.n) fun j hj => List.mem_range.mp hj
   rw [e, Rat.intCast_mul]
   have hd0 : (den : Rat) ≠ 0 := fun q => by have := cast_zero.mp q; have := L.pos; omega
   grind
  rw [hval, L.list hS, List.flatMap_map]
  congr 2
  congr 1
  ·apply flat_congr
   intro x _
   rw [frI_two hw, L.sum]
  ·rw [frI_two hw, L.sum]
   rfl
theorem support_none {s S} (hb : balancedR s S = none) (l : List Int) (hl : nats l = S) : act s (.support l) = (s, [-5]) := by
 show (if singular s (nats l) = true then (s, [-5]) else _) = _
 rw [hl, singular_F, hb]
 rfl
theorem upward_pair : ∀ (l : List Int), upward l = true ↔ l.Pairwise (· < ·)
 | [] => by simp [upward]
 | [a] => by simp [upward]
 | a :: b :: l => by
  have ih := upward_pair (b :: l)
  unfold upward
  rw [Bool.and_eq_true, decide_eq_true_eq, ih]
  constructor
  ·rintro ⟨h1, h2⟩
   refine List.pairwise_cons.mpr ⟨?_, h2⟩
   intro x hx
   rcases List.mem_cons.mp hx with e | hm
   ·rw [e]; exact h1
   ·have := (List.pairwise_cons.mp h2).1 x hm
    omega
  ·intro h
   have := List.pairwise_cons.mp h
   exact ⟨this.1 b (List.Mem.head _), this.2⟩
def allSets : Nat → List (List Nat)
 | 0 => [[]]
 | n + 1 => allSets n ++ (allSets n).map fun x => x ++ [n]
theorem members_all (s : State) (h : s.n ≤ 4) : ∀ k, k < 2 ^ s.n → membersOf s k = (allSets s.n).getD k [] := by
 unfold membersOf State.all MASK
 generalize s.n = n at *
 match n, h with
 | 0, _ => decide
 | 1, _ => decide
 | 2, _ => decide
 | 3, _ => decide
 | 4, _ => decide
theorem allSets_ok (n : Nat) (h : n ≤ 4) : (allSets n).length = 2 ^ n ∧ ∀ k, 0 < k → k < 2 ^ n → SetOk n ((allSets n).getD k []) := by
 have key : (allSets n).length = 2 ^ n ∧ ∀ k, k < 2 ^ n → 0 < k → 0 < ((allSets n).getD k []).length ∧ ((allSets n).getD k []).Nodup ∧ ∀ i ∈ ((allSets n).getD k []), i < n := by
  match n, h with
  | 0, _ => decide
  | 1, _ => decide
  | 2, _ => decide
  | 3, _ => decide
  | 4, _ => decide
 exact ⟨key.1, fun k h0 hk => let ⟨a, b, c⟩ := key.2 k hk h0; ⟨a, b, c⟩⟩
theorem masks_eq (s : State) : masks s = List.range' 1 (2 ^ s.n - 1) := by
 unfold masks MASK
 rw [List.range'_eq_map_range]
 apply List.map_congr_left
 intro a _
 omega
theorem equilibria_ok {s W} (h : StOk s W) : act s .equilibria =
  (s, (let m := (List.range' 1 (2 ^ s.n - 1)).filter fun k => (equilibriumR s ((allSets s.n).getD k [])).isSome
    let d := (List.range' 1 (2 ^ s.n - 1)).filter fun k => (balancedR s ((allSets s.n).getD k [])).isNone
    counted m ++ counted d)) := by
 show (s, (let m := (masks s).filter fun k => (equilibrium s (membersOf s k)).isSome
      let d := (masks s).filter fun k => singular s (membersOf s k)
      counted m ++ counted d)) = _
 rw [masks_eq]
 have hlt : ∀ k ∈ List.range' 1 (2 ^ s.n - 1), k < 2 ^ s.n := by
  intro k hk
  have := List.mem_range'_1.mp hk
  omega
 have e1 : ((List.range' 1 (2 ^ s.n - 1)).filter fun k => (equilibrium s (membersOf s k)).isSome) = (List.range' 1 (2 ^ s.n - 1)).filter fun k => (equilibriumR s ((allSets s.n).getD k [])).isSome := by
  apply List.filter_congr
  intro k hk
  rw [members_all s h.four k (hlt k hk), equilibrium_F]
  cases equilibriumR s ((allSets s.n).getD k []) <;> rfl
 have e2 : ((List.range' 1 (2 ^ s.n - 1)).filter fun k => singular s (membersOf s k)) = (List.range' 1 (2 ^ s.n - 1)).filter fun k => (balancedR s ((allSets s.n).getD k [])).isNone := by
  apply List.filter_congr
  intro k hk
  rw [members_all s h.four k (hlt k hk), singular_F]
 rw [e1, e2]
end Cw
end
section
set_option linter.all false
namespace Cw
open Vbecam
def bearsR (s : State) (p q : List Rat) : Rat :=
 let a := valueR s p p - valueR s q p
 let c := valueR s p q - valueR s q q
 if a < 0 then 0 else if a = 0 then (if 0 < c then 1 else 0) else if c < 0 then a / (a - c) else 1
theorem bears_F (s : State) (p q : List Rat) : Vbecam.bears s (p.map F) (q.map F) = F (bearsR s p q) := by
 unfold Vbecam.bears bearsR
 simp only [value_F, minus_F, zero_F, lessF_F, positive_F, divide_F, decide_eq_true_eq, fst_F]
 split
 ·rfl
 ·split
  ·split <;> rfl
  ·split <;> rfl
theorem mixture_beq (p q : List Rat) : ((p.map F) == (q.map F)) = decide (p = q) := by
 rw [Bool.eq_iff_iff, beq_iff_eq, decide_eq_true_eq]
 constructor
 ·intro h
  have : ∀ (a b : List Rat), a.map F = b.map F → a = b := by
   intro a
   induction a with
   | nil => intro b h; cases b with
    | nil => rfl
    | cons _ _ => simp at h
   | cons x a ih => intro b h; cases b with
    | nil => simp at h
    | cons y b =>
     simp only [List.map_cons, List.cons.injEq] at h
     rw [F_inj h.1, ih b h.2]
  exact this p q h
 ·intro h; rw [h]
def grownR (s : State) (p : List Rat) : List Rat := s.all.map fun i => p.getD i 0 * againstR s p i / valueR s p p
theorem grown_F (s : State) (p : List Rat) : grown s (p.map F) = (grownR s p).map F := by
 unfold grown grownR
 rw [List.map_map]
 apply List.map_congr_left
 intro i _
 simp only [value_F, shareOf_F, against_F, times_F, divide_F, Function.comp]
def grownOftenR (s : State) : Nat → List Rat → Option (List Rat)
 | 0, p => some p
 | t + 1, p => if 0 < valueR s p p then grownOftenR s t (grownR s p) else none
theorem grownOften_F (s : State) (t : Nat) : ∀ p, grownOften s t (p.map F) = (grownOftenR s t p).map (List.map F) := by
 induction t with
 | zero => intro p; rfl
 | succ t ih =>
  intro p
  unfold grownOften grownOftenR
  rw [value_F, positive_F, grown_F, ih]
  simp only [decide_eq_true_eq]
  split <;> rfl
def formI (s : State) (m i j : Nat) : Int := (win s m j + win s i m - win s i j - win s m m) + (win s m i + win s j m - win s j i - win s m m)
theorem form_F (s : State) (m i j : Nat) : form s m i j = F ((formI s m i j : Int) : Rat) := by
 unfold form
 rw [whole_F]; rfl
def reducedR : Nat → List (List Rat) → Option (List (List Rat))
 | 0, a => some a
 | k + 1, a => match a with
  | [] => none
  | r :: l => if 0 < r.headD 0 then
   reducedR k (l.map fun x => (List.range (r.length - 1)).map fun j => x.getD (j + 1) 0 - x.headD 0 * r.getD (j + 1) 0 / r.headD 0) else none
theorem reduced_F (k : Nat) : ∀ a : List (List Rat), reduced k (a.map (List.map F)) = (reducedR k a).map (List.map (List.map F)) := by
 induction k with
 | zero => intro a; rfl
 | succ k ih =>
  intro a
  cases a with
  | nil => rfl
  | cons r l =>
   unfold reducedR
   show (if positive ((r.map F).headD (0, 1)) = false then none else _) = _
   rw [headD_F, positive_F]
   dsimp only
   by_cases h : 0 < r.headD 0
   ·rw [if_pos h]
    simp only [h, decide_true, Bool.true_eq_false, if_false]
    rw [← ih]
    congr 1
    rw [List.map_map, List.map_map]
    apply List.map_congr_left
    intro x _
    simp only [Function.comp, List.length_map, List.map_map]
    apply List.map_congr_left
    intro j _
    simp only [Function.comp, getD_F, headD_F, times_F, divide_F, minus_F]
   ·rw [if_neg h]
    simp only [h, decide_false, if_true]
    rfl
def detR : Nat → List (List Rat) → Rat
 | 0, _ => 1
 | n + 1, a => match a with
  | [] => 1
  | r :: l => ((List.range r.length).map fun j => (if j % 2 = 0 then 1 else -1) * r.getD j 0 * detR n (l.map fun x => x.eraseIdx j)).sum
theorem det_F (n : Nat) : ∀ a : List (List Rat), det n (a.map (List.map F)) = F (detR n a) := by
 induction n with
 | zero => intro a; rfl
 | succ n ih =>
  intro a
  cases a with
  | nil => rfl
  | cons r l =>
   unfold detR
   show sumF ((List.range (r.map F).length).map fun j => times (times (if j % 2 = 0 then (1, 1) else (-1, 1)) ((r.map F).getD j (0, 1))) (det n ((l.map (List.map F)).map fun x => x.eraseIdx j))) = _
   rw [← sumF_F, List.map_map, List.length_map]
   congr 1
   apply List.map_congr_left
   intro j _
   have e : ((l.map (List.map F)).map fun x => x.eraseIdx j) = (l.map fun x => x.eraseIdx j).map (List.map F) := by
    rw [List.map_map, List.map_map]
    apply List.map_congr_left
    intro x _
    simp only [Function.comp, map_eraseIdx]
   have e2 : (if j % 2 = 0 then ((1, 1) : Frac) else (-1, 1)) = F (if j % 2 = 0 then 1 else -1) := by
    split <;> rfl
   rw [e, ih, e2]
   simp only [Function.comp, getD_F, times_F]
def lastCofR (a : List (List Rat)) : List Rat := (List.range a.length).map fun j => (if (a.length - 1 + j) % 2 = 0 then 1 else -1) * detR a.length (a.dropLast.map fun x => x.eraseIdx j)
theorem lastCof_F (a : List (List Rat)) : lastCofactors (a.map (List.map F)) = (lastCofR a).map F := by
 unfold lastCofactors lastCofR
 rw [List.map_map, List.length_map]
 apply List.map_congr_left
 intro j _
 have e : ((a.map (List.map F)).dropLast.map fun x => x.eraseIdx j) = (a.dropLast.map fun x => x.eraseIdx j).map (List.map F) := by
  rw [← List.map_dropLast, List.map_map, List.map_map]
  apply List.map_congr_left
  intro x _
  simp only [Function.comp, map_eraseIdx]
 have e2 : (if (a.length - 1 + j) % 2 = 0 then ((1, 1) : Frac) else (-1, 1)) = F (if (a.length - 1 + j) % 2 = 0 then 1 else -1) := by
  split <;> rfl
 rw [e, det_F, e2]
 simp only [Function.comp, times_F]
def pickedR (a : List (List Rat)) (l : List Nat) : List (List Rat) := l.map fun i => l.map fun j => (a.getD i []).getD j 0
theorem picked_F (a : List (List Rat)) (l : List Nat) : picked (a.map (List.map F)) l = (pickedR a l).map (List.map F) := by
 unfold picked pickedR
 rw [List.map_map]
 apply List.map_congr_left
 intro i _
 simp only [Function.comp, List.map_map, getDD_F]
 apply List.map_congr_left
 intro j _
 simp only [Function.comp, getD_F]
def copR (a : List (List Rat)) : Bool := ((sublists (List.range a.length)).filter fun l => !l.isEmpty).all fun l =>
 !((lastCofR (pickedR a l)).all fun x => decide (0 < x)) || decide (0 < detR (pickedR a l).length (pickedR a l))
theorem cop_F (a : List (List Rat)) : copositive (a.map (List.map F)) = copR a := by
 unfold copositive copR
 rw [List.length_map]
 congr 1
 funext l
 simp only [picked_F, lastCof_F, det_F, positive_F, List.length_map, List.all_map]
 congr 2
 congr 1
 funext x
 simp only [Function.comp, positive_F]
def formRows (s : State) (p : List Rat) : List (List Rat) :=
 let l := ((supportR s p).filter fun i => i != (supportR s p).headD 0) ++ (repliesR s p).filter fun i => !(supportR s p).contains i
 l.map fun i => l.map fun j => ((formI s ((supportR s p).headD 0) i j : Int) : Rat)
def stableR (s : State) (p : List Rat) : Bool :=
 if isRestR s p = false then false else match reducedR ((supportR s p).length - 1) (formRows s p) with
  | none => false
  | some a => copR a
theorem stable_F (s : State) (p : List Rat) : Vbecam.stable s (p.map F) = stableR s p := by
 unfold Vbecam.stable stableR formRows
 rw [isRest_F, support_F, replies_F]
 split
 ·rfl
 ·have e : ∀ l : List Nat, (l.map fun i => l.map fun j => form s ((supportR s p).headD 0) i j) = (l.map fun i => l.map fun j => ((formI s ((supportR s p).headD 0) i j : Int) : Rat)).map (List.map F) := by
   intro l
   rw [List.map_map]
   apply List.map_congr_left
   intro i _
   simp only [Function.comp, List.map_map]
   apply List.map_congr_left
   intro j _
   simp only [Function.comp, form_F]
  dsimp only
  rw [e, reduced_F]
  cases reducedR _ _ with
  | none => rfl
  | some a => exact cop_F a
end Cw
end
section
set_option linter.all false
namespace Cw
open Vbecam
theorem sqn (x : Rat) : 0 ≤ x * x := by
 rcases Rat.le_total (a := 0) (b := x) with h | h
 ·exact Rat.mul_nonneg h h
 ·have := Rat.mul_nonneg (show 0 ≤ -x by grind) (show 0 ≤ -x by grind)
  grind
theorem sqp {x : Rat} (h : x ≠ 0) : 0 < x * x := by
 have h1 := sqn x
 rcases Rat.le_iff_lt_or_eq.mp h1 with q | q
 ·exact q
 ·rcases Rat.mul_eq_zero.mp q.symm with e | e <;> exact absurd e h
theorem pos_of_mul {a b : Rat} (ha : 0 < a) (h : 0 < a * b) : 0 < b := (Rat.mul_pos_iff_of_pos_left ha).mp h
theorem nonpos_of_mul {a b : Rat} (ha : 0 < a) (h : a * b ≤ 0) : b ≤ 0 := by
 rcases Rat.le_total (a := b) (b := 0) with q | q
 ·exact q
 ·rcases Rat.le_iff_lt_or_eq.mp q with p | p
  ·have := Rat.mul_pos ha p
   grind
  ·grind
theorem np {a b : Rat} (ha : a < 0) (hb : b < 0) : 0 < a * b := by
 have := Rat.mul_pos (show 0 < -a by grind) (show 0 < -b by grind)
 grind
def K2 (a d b : Rat) : Prop := 0 < a ∧ 0 < b ∧ (d < 0 → 0 < a * b - d * d)
theorem K2.form {a d b : Rat} (k : K2 a d b) {x y : Rat} (hx : 0 ≤ x) (hy : 0 ≤ y) (h : x ≠ 0 ∨ y ≠ 0) : 0 < a * x * x + 2 * d * x * y + b * y * y := by
 obtain ⟨ha, hb, hd⟩ := k
 by_cases d0 : 0 ≤ d
 ·have h2 := Rat.mul_nonneg d0 (Rat.mul_nonneg hx hy)
  have h1 := Rat.mul_nonneg (Rat.le_of_lt ha) (sqn x)
  have h3 := Rat.mul_nonneg (Rat.le_of_lt hb) (sqn y)
  rcases h with h | h
  ·have := Rat.mul_pos ha (sqp h)
   grind
  ·have := Rat.mul_pos hb (sqp h)
   grind
 ·have hd' := hd (Rat.not_le.mp d0)
  apply pos_of_mul ha
  by_cases y0 : y = 0
  ·subst y0
   have hx0 : x ≠ 0 := by
    rcases h with h | h
    ·exact h
    ·exact absurd rfl h
   have := Rat.mul_pos ha (Rat.mul_pos ha (sqp hx0))
   grind
  ·have h1 := sqn (a * x + d * y)
   have h2 := Rat.mul_pos hd' (sqp y0)
   grind
theorem K2.of {a d b : Rat} (h : ∀ x y : Rat, 0 ≤ x → 0 ≤ y → (x ≠ 0 ∨ y ≠ 0) → 0 < a * x * x + 2 * d * x * y + b * y * y) : K2 a d b := by
 have ha := h 1 0 (by grind) (by grind) (.inl (by grind))
 have hb := h 0 1 (by grind) (by grind) (.inr (by grind))
 have ha' : 0 < a := by grind
 refine ⟨ha', by grind, fun hd => ?_⟩
 have := h (-d) a (by grind) (by grind) (.inr (by grind))
 apply pos_of_mul ha'
 grind
def Q3 (a b c d e f x y z : Rat) : Rat := a * x * x + b * y * y + c * z * z + 2 * d * x * y + 2 * e * x * z + 2 * f * y * z
def det3 (a b c d e f : Rat) : Rat := a * (b * c - f * f) - d * (d * c - f * e) + e * (d * f - b * e)
def K3 (a b c d e f : Rat) : Prop := K2 a d b ∧ K2 a e c ∧ K2 b f c ∧ (0 < d * f - b * e → 0 < d * e - a * f → 0 < a * b - d * d → 0 < det3 a b c d e f)
theorem corner {a b c d e f x y z : Rat} (ha : 0 < a) (hx : 0 < x) (hy : 0 < y) (hz : 0 < z) (hd : d < 0) (he : e < 0) (h1 : 0 < a * b - d * d) (h2 : 0 < a * c - e * e) (hq : Q3 a b c d e f x y z ≤ 0) :
  0 < d * e - a * f ∧ 0 < d * f - b * e ∧ 0 < e * f - c * d ∧ det3 a b c d e f ≤ 0 := by
 unfold Q3 at hq
 have g : (a * b - d * d) * y * y + 2 * (a * f - d * e) * y * z + (a * c - e * e) * z * z ≤ 0 := by
  have s := sqn (a * x + d * y + e * z)
  have m := Rat.mul_nonneg (Rat.le_of_lt ha) (show 0 ≤ -(a * x * x + b * y * y + c * z * z + 2 * d * x * y + 2 * e * x * z + 2 * f * y * z) by grind)
  grind
 have hM : a * f - d * e < 0 := by
  rcases Rat.le_total (a := 0) (b := a * f - d * e) with q | q
  ·have p1 := Rat.mul_pos h1 (Rat.mul_pos hy hy)
   have p2 := Rat.mul_pos h2 (Rat.mul_pos hz hz)
   have p3 := Rat.mul_nonneg q (Rat.mul_nonneg (Rat.le_of_lt hy) (Rat.le_of_lt hz))
   grind
  ·rcases Rat.le_iff_lt_or_eq.mp q with p | p
   ·exact p
   ·have p1 := Rat.mul_pos h1 (Rat.mul_pos hy hy)
    have p2 := Rat.mul_pos h2 (Rat.mul_pos hz hz)
    rw [p] at g
    generalize a * b - d * d = u at *
    generalize a * c - e * e = v at *
    grind
 have hde := np hd hM
 have hee := np he hM
 have hneg1 := Rat.mul_pos (show 0 < -e by grind) h1
 have hneg2 := Rat.mul_pos (show 0 < -d by grind) h2
 refine ⟨by grind, ?_, ?_, ?_⟩
 ·apply pos_of_mul ha
  grind
 ·apply pos_of_mul ha
  grind
 ·have s := sqn ((a * b - d * d) * y + (a * f - d * e) * z)
  have m := Rat.mul_nonneg (Rat.le_of_lt h1) (show 0 ≤ -((a * b - d * d) * y * y + 2 * (a * f - d * e) * y * z + (a * c - e * e) * z * z) by grind)
  have t : a * (z * z) * det3 a b c d e f ≤ 0 := by
   unfold det3
   grind
  exact nonpos_of_mul (Rat.mul_pos ha (Rat.mul_pos hz hz)) t
theorem K3.form {a b c d e f : Rat} (k : K3 a b c d e f) {x y z : Rat} (hx : 0 ≤ x) (hy : 0 ≤ y) (hz : 0 ≤ z) (h : x ≠ 0 ∨ y ≠ 0 ∨ z ≠ 0) : 0 < Q3 a b c d e f x y z := by
 obtain ⟨k1, k2, k3, k4⟩ := k
 by_cases x0 : x = 0
 ·subst x0
  have := k3.form hy hz (by rcases h with h | h; exact absurd rfl h; exact h)
  unfold Q3; grind
 by_cases y0 : y = 0
 ·subst y0
  have := k2.form hx hz (.inl x0)
  unfold Q3; grind
 by_cases z0 : z = 0
 ·subst z0
  have := k1.form hx hy (.inl x0)
  unfold Q3; grind
 have hx' : 0 < x := by grind
 have hy' : 0 < y := by grind
 have hz' : 0 < z := by grind
 by_cases hq : Q3 a b c d e f x y z ≤ 0
 ·exfalso
  have f1 := k1.form hx hy (.inl x0)
  have f2 := k2.form hx hz (.inl x0)
  have f3 := k3.form hy hz (.inl y0)
  have ha := k1.1
  have hb := k1.2.1
  have hc := k2.2.1
  have cz := Rat.mul_pos hc (Rat.mul_pos hz' hz')
  have by' := Rat.mul_pos hb (Rat.mul_pos hy' hy')
  have ax := Rat.mul_pos ha (Rat.mul_pos hx' hx')
  have l1 : e * x + f * y < 0 := by
   have t : z * -(e * x + f * y) > 0 := by unfold Q3 at hq; grind
   have := pos_of_mul hz' t
   grind
  have l2 : d * x + f * z < 0 := by
   have t : y * -(d * x + f * z) > 0 := by unfold Q3 at hq; grind
   have := pos_of_mul hy' t
   grind
  have l3 : d * y + e * z < 0 := by
   have t : x * -(d * y + e * z) > 0 := by unfold Q3 at hq; grind
   have := pos_of_mul hx' t
   grind
  by_cases hd : d < 0
  ·have C33 := k1.2.2 hd
   by_cases he : e < 0
   ·obtain ⟨c1, c2, _, c4⟩ := corner ha hx' hy' hz' hd he C33 (k2.2.2 he) hq
    have := k4 c2 c1 C33
    grind
   ·have hf : f < 0 := by
     rcases Rat.le_total (a := 0) (b := f) with q | q
     ·have p1 := Rat.mul_nonneg (Rat.not_lt.mp he) hx
      have p2 := Rat.mul_nonneg q hy
      grind
     ·have p1 := Rat.mul_nonneg (Rat.not_lt.mp he) hx
      rcases Rat.le_iff_lt_or_eq.mp q with p | p
      ·exact p
      ·subst p; grind
    have hq2 : Q3 b a c d f e y x z ≤ 0 := by unfold Q3 at hq ⊢; grind
    obtain ⟨c1, c2, _, c4⟩ := corner hb hy' hx' hz' hd hf (by grind) (k3.2.2 hf) hq2
    have := k4 (by grind) (by grind) C33
    have c5 : det3 b a c d f e = det3 a b c d e f := by unfold det3; grind
    grind
  ·have hd0 := Rat.not_lt.mp hd
   have he : e < 0 := by
    rcases Rat.le_total (a := 0) (b := e) with q | q
    ·have p1 := Rat.mul_nonneg hd0 hy
     have p2 := Rat.mul_nonneg q hz
     grind
    ·have p1 := Rat.mul_nonneg hd0 hy
     rcases Rat.le_iff_lt_or_eq.mp q with p | p
     ·exact p
     ·subst p; grind
   have hf : f < 0 := by
    rcases Rat.le_total (a := 0) (b := f) with q | q
    ·have p1 := Rat.mul_nonneg hd0 hx
     have p2 := Rat.mul_nonneg q hz
     grind
    ·have p1 := Rat.mul_nonneg hd0 hx
     rcases Rat.le_iff_lt_or_eq.mp q with p | p
     ·exact p
     ·subst p; grind
   have P := k2.2.2 he
   have R := k3.2.2 hf
   have hq2 : Q3 c a b e f d z x y ≤ 0 := by unfold Q3 at hq ⊢; grind
   obtain ⟨c1, c2, c3, c4⟩ := corner hc hz' hx' hy' he hf (by grind) (by grind) hq2
   have c5 : det3 c a b e f d = det3 a b c d e f := by unfold det3; grind
   have C33 : 0 < a * b - d * d := by
    have e1 : 0 < e * f - c * d := by grind
    have e2 : 0 < e * f + c * d := by
     have p1 := np he hf
     have p2 := Rat.mul_nonneg (Rat.le_of_lt hc) hd0
     grind
    have p3 := Rat.mul_pos e1 e2
    have p4 := Rat.mul_pos P (Rat.mul_pos hb hc)
    have p5 := Rat.mul_nonneg (sqn e) (Rat.le_of_lt R)
    apply pos_of_mul (Rat.mul_pos hc hc)
    grind
   have := k4 (by grind) (by grind) C33
   grind
 ·exact Rat.not_le.mp hq
theorem K3.of {a b c d e f : Rat} (h : ∀ x y z : Rat, 0 ≤ x → 0 ≤ y → 0 ≤ z → (x ≠ 0 ∨ y ≠ 0 ∨ z ≠ 0) → 0 < Q3 a b c d e f x y z) : K3 a b c d e f := by
 refine ⟨K2.of fun x y hx hy q => ?_, K2.of fun x z hx hz q => ?_, K2.of fun y z hy hz q => ?_, fun c1 c2 c3 => ?_⟩
 ·have := h x y 0 hx hy (by grind) (by rcases q with q | q; exact .inl q; exact .inr (.inl q))
  unfold Q3 at this; grind
 ·have := h x 0 z hx (by grind) hz (by rcases q with q | q; exact .inl q; exact .inr (.inr q))
  unfold Q3 at this; grind
 ·have := h 0 y z (by grind) hy hz (.inr q)
  unfold Q3 at this; grind
 ·have := h _ _ _ (Rat.le_of_lt c1) (Rat.le_of_lt c2) (Rat.le_of_lt c3) (.inr (.inr (by grind)))
  apply pos_of_mul c3
  unfold Q3 at this
  unfold det3
  grind
end Cw
end
section
set_option linter.all false
namespace Cw
open Vbecam
theorem det1 (n : Nat) (a : Rat) : detR (n + 1) [[a]] = a := by
 show (1 : Rat) * a * detR n [] + 0 = a
 have : detR n [] = 1 := by cases n <;> rfl
 rw [this]; grind
theorem det2 (n : Nat) (a b c d : Rat) : detR (n + 2) [[a, b], [c, d]] = a * d - b * c := by
 show (1 : Rat) * a * detR (n + 1) [[d]] + ((-1) * b * detR (n + 1) [[c]] + 0) = _
 rw [det1, det1]; grind
theorem det3_eq (a b c d e f g h i : Rat) : detR 3 [[a, b, c], [d, e, f], [g, h, i]] = a * (e * i - f * h) - b * (d * i - f * g) + c * (d * h - e * g) := by
 unfold detR
 simp [List.range_succ, det2 0]
 grind
theorem cof1 (a : Rat) : lastCofR [[a]] = [1] := by
 simp [lastCofR, List.range_succ, detR]
theorem cof2 (a b c d : Rat) : lastCofR [[a, b], [c, d]] = [-b, a] := by
 simp [lastCofR, List.range_succ, det1 1]
 grind
theorem cof3 (a b c d e f g h i : Rat) : lastCofR [[a, b, c], [d, e, f], [g, h, i]] = [b * f - c * e, c * d - a * f, a * e - b * d] := by
 simp [lastCofR, List.range_succ, det2 1]
 grind
def okSub (b : List (List Rat)) : Bool := !((lastCofR b).all fun x => decide (0 < x)) || decide (0 < detR b.length b)
theorem ok1 (a : Rat) : okSub [[a]] = decide (0 < a) := by
 unfold okSub
 rw [cof1]
 show (!(([1] : List Rat).all fun x => decide (0 < x)) || decide (0 < detR 1 [[a]])) = _
 rw [det1]
 have : (([1] : List Rat).all fun x => decide (0 < x)) = true := by decide
 rw [this]; rfl
theorem ok2 (a b d : Rat) (ha : 0 < a) : okSub [[a, d], [d, b]] = true ↔ (d < 0 → 0 < a * b - d * d) := by
 unfold okSub
 rw [cof2]
 show (!(([-d, a] : List Rat).all fun x => decide (0 < x)) || decide (0 < detR 2 [[a, d], [d, b]])) = true ↔ _
 rw [det2]
 simp only [List.all_cons, List.all_nil, Bool.and_true, Bool.or_eq_true, Bool.not_eq_true', Bool.and_eq_false_iff, decide_eq_false_iff_not, decide_eq_true_eq]
 constructor
 ·intro h hd
  rcases h with (h | h) | h
  ·exact absurd (show 0 < -d by grind) h
  ·exact absurd ha h
  ·exact h
 ·intro h
  by_cases hd : d < 0
  ·exact .inr (h hd)
  ·exact .inl (.inl (by grind))
theorem ok3 (a b c d e f : Rat) : okSub [[a, d, e], [d, b, f], [e, f, c]] = true ↔ (0 < d * f - b * e → 0 < d * e - a * f → 0 < a * b - d * d → 0 < det3 a b c d e f) := by
 unfold okSub
 rw [cof3]
 show (!(([d * f - e * b, e * d - a * f, a * b - d * d] : List Rat).all fun x => decide (0 < x)) || decide (0 < detR 3 [[a, d, e], [d, b, f], [e, f, c]])) = true ↔ _
 rw [det3_eq]
 have e1 : d * f - e * b = d * f - b * e := by grind
 have e2 : e * d - a * f = d * e - a * f := by grind
 have e3 : a * (b * c - f * f) - d * (d * c - f * e) + e * (d * f - b * e) = det3 a b c d e f := rfl
 rw [e1, e2, e3]
 simp only [List.all_cons, List.all_nil, Bool.and_true, Bool.or_eq_true, Bool.not_eq_true', Bool.and_eq_false_iff, decide_eq_false_iff_not, decide_eq_true_eq]
 constructor
 ·intro h h1 h2 h3
  rcases h with (h | h | h) | h
  ·exact absurd h1 h
  ·exact absurd h2 h
  ·exact absurd h3 h
  ·exact h
 ·intro h
  by_cases h1 : 0 < d * f - b * e
  ·by_cases h2 : 0 < d * e - a * f
   ·by_cases h3 : 0 < a * b - d * d
    ·exact .inr (h h1 h2 h3)
    ·exact .inl (.inr (.inr h3))
   ·exact .inl (.inr (.inl h2))
  ·exact .inl (.inl h1)
theorem cop1 (a : Rat) : copR [[a]] = decide (0 < a) := by
 show ([[0]] : List (List Nat)).all (fun l => okSub (pickedR [[a]] l)) = _
 show (okSub [[a]] && true) = _
 rw [ok1, Bool.and_true]
theorem cop2 (a b d : Rat) : copR [[a, d], [d, b]] = true ↔ K2 a d b := by
 show ([[0, 1], [0], [1]] : List (List Nat)).all (fun l => okSub (pickedR [[a, d], [d, b]] l)) = true ↔ _
 show (okSub [[a, d], [d, b]] && (okSub [[a]] && (okSub [[b]] && true))) = true ↔ _
 rw [ok1, ok1, Bool.and_eq_true, Bool.and_eq_true, Bool.and_true, decide_eq_true_eq, decide_eq_true_eq]
 constructor
 ·rintro ⟨h1, h2, h3⟩; exact ⟨h2, h3, (ok2 a b d h2).mp h1⟩
 ·rintro ⟨h2, h3, h1⟩; exact ⟨(ok2 a b d h2).mpr h1, h2, h3⟩
theorem cop3 (a b c d e f : Rat) : copR [[a, d, e], [d, b, f], [e, f, c]] = true ↔ K3 a b c d e f := by
 show ([[0, 1, 2], [0, 1], [0, 2], [0], [1, 2], [1], [2]] : List (List Nat)).all (fun l => okSub (pickedR [[a, d, e], [d, b, f], [e, f, c]] l)) = true ↔ _
 show (okSub [[a, d, e], [d, b, f], [e, f, c]] && (okSub [[a, d], [d, b]] && (okSub [[a, e], [e, c]] && (okSub [[a]] && (okSub [[b, f], [f, c]] && (okSub [[b]] && (okSub [[c]] && true))))))) = true ↔ _
 simp only [Bool.and_eq_true, ok1, decide_eq_true_eq, ok3]
 constructor
 ·rintro ⟨h1, h2, h3, h4, h5, h6, h7, _⟩
  exact ⟨⟨h4, h6, (ok2 a b d h4).mp h2⟩, ⟨h4, h7, (ok2 a c e h4).mp h3⟩, ⟨h6, h7, (ok2 b c f h6).mp h5⟩, h1⟩
 ·rintro ⟨⟨h4, h6, h2⟩, ⟨_, h7, h3⟩, ⟨_, _, h5⟩, h1⟩
  exact ⟨h1, (ok2 a b d h4).mpr h2, (ok2 a c e h4).mpr h3, h4, (ok2 b c f h6).mpr h5, h6, h7, trivial⟩
def yes (k : Nat) (a : List (List Rat)) : Bool := match reducedR k a with
 | none => false
 | some a => copR a
theorem yes_zero (a : List (List Rat)) : yes 0 a = copR a := rfl
theorem yes1 (a : Rat) : yes 1 [[a]] = decide (0 < a) := by
 unfold yes
 show (match (if 0 < a then reducedR 0 [] else none) with | none => false | some a => copR a) = _
 by_cases h : 0 < a
 ·rw [if_pos h, decide_eq_true h]; rfl
 ·rw [if_neg h, decide_eq_false h]
theorem yes2 (k : Nat) (a b c d : Rat) : yes (k + 1) [[a, b], [c, d]] = if 0 < a then yes k [[d - c * b / a]] else false := by
 unfold yes
 show (match (if 0 < a then reducedR k [[d - c * b / a]] else none) with | none => false | some a => copR a) = _
 by_cases h : 0 < a
 ·rw [if_pos h, if_pos h]
 ·rw [if_neg h, if_neg h]
theorem yes3 (k : Nat) (a b c d e f g h i : Rat) : yes (k + 1) [[a, b, c], [d, e, f], [g, h, i]] = if 0 < a then yes k [[e - d * b / a, f - d * c / a], [h - g * b / a, i - g * c / a]] else false := by
 unfold yes
 show (match (if 0 < a then reducedR k [[e - d * b / a, f - d * c / a], [h - g * b / a, i - g * c / a]] else none) with | none => false | some a => copR a) = _
 by_cases h : 0 < a
 ·rw [if_pos h, if_pos h]
 ·rw [if_neg h, if_neg h]
theorem sem1 (k : Nat) (hk : k ≤ 1) (a : Rat) : yes k [[a]] = true ↔ ∀ x : Rat, (k ≤ 0 → 0 ≤ x) → x ≠ 0 → 0 < a * x * x := by
 have e : yes k [[a]] = decide (0 < a) := by
  match k, hk with
  | 0, _ => exact cop1 a
  | 1, _ => exact yes1 a
 rw [e, decide_eq_true_eq]
 constructor
 ·intro h x _ hx
  have := Rat.mul_pos h (sqp hx)
  grind
 ·intro h
  have := h 1 (fun _ => by grind) (by grind)
  grind
theorem sem2 (k : Nat) (hk : k ≤ 2) (a b d : Rat) : yes k [[a, d], [d, b]] = true ↔ ∀ x y : Rat, (k ≤ 0 → 0 ≤ x) → (k ≤ 1 → 0 ≤ y) → (x ≠ 0 ∨ y ≠ 0) → 0 < a * x * x + 2 * d * x * y + b * y * y := by
 cases k with
 | zero =>
  rw [yes_zero, cop2]
  constructor
  ·intro h x y hx hy q; exact h.form (hx (by omega)) (hy (by omega)) q
  ·intro h; exact K2.of fun x y hx hy q => h x y (fun _ => hx) (fun _ => hy) q
 | succ k =>
  rw [yes2]
  by_cases ha : 0 < a
  ·rw [if_pos ha, sem1 k (by omega)]
   constructor
   ·intro h x y _ hy q
    by_cases y0 : y = 0
    ·subst y0
     have hx : x ≠ 0 := by rcases q with q | q; exact q; exact absurd rfl q
     have := Rat.mul_pos ha (sqp hx)
     grind
    ·have h1 := h y (fun hk => hy (by omega)) y0
     have h2 := sqn (a * x + d * y)
     apply pos_of_mul ha
     have h3 := Rat.mul_pos ha h1
     have h4 : a * ((b - d * d / a) * y * y) = (a * b - d * d) * y * y := by grind
     rw [h4] at h3
     grind
   ·intro h y hy y0
    have := h (-(d * y / a)) y (fun q => by omega) (fun q => hy (by omega)) (.inr y0)
    have h4 : (b - d * d / a) * y * y = a * -(d * y / a) * -(d * y / a) + 2 * d * -(d * y / a) * y + b * y * y := by grind
    rw [h4]; exact this
  ·rw [if_neg ha]
   constructor
   ·intro h; cases h
   ·intro h
    have := h 1 0 (fun q => by omega) (fun _ => by grind) (.inl (by grind))
    exact absurd (show 0 < a by grind) ha
theorem sem3 (k : Nat) (hk : k ≤ 3) (a b c d e f : Rat) : yes k [[a, d, e], [d, b, f], [e, f, c]] = true ↔ ∀ x y z : Rat, (k ≤ 0 → 0 ≤ x) → (k ≤ 1 → 0 ≤ y) → (k ≤ 2 → 0 ≤ z) → (x ≠ 0 ∨ y ≠ 0 ∨ z ≠ 0) → 0 < Q3 a b c d e f x y z := by
 cases k with
 | zero =>
  rw [yes_zero, cop3]
  constructor
  ·intro h x y z hx hy hz q; exact h.form (hx (by omega)) (hy (by omega)) (hz (by omega)) q
  ·intro h; exact K3.of fun x y z hx hy hz q => h x y z (fun _ => hx) (fun _ => hy) (fun _ => hz) q
 | succ k =>
  rw [yes3]
  by_cases ha : 0 < a
  ·have e1 : f - d * e / a = f - e * d / a := by grind
   rw [if_pos ha, e1, sem2 k (by omega)]
   constructor
   ·intro h x y z _ hy hz q
    unfold Q3
    by_cases yz : y = 0 ∧ z = 0
    ·obtain ⟨y0, z0⟩ := yz
     subst y0; subst z0
     have hx : x ≠ 0 := by
      rcases q with q | q | q
      ·exact q
      ·exact absurd rfl q
      ·exact absurd rfl q
     have := Rat.mul_pos ha (sqp hx)
     grind
    ·have h1 := h y z (fun hk => hy (by omega)) (fun hk => hz (by omega)) (by
      by_cases y0 : y = 0
      ·exact .inr fun z0 => yz ⟨y0, z0⟩
      ·exact .inl y0)
     have h2 := sqn (a * x + d * y + e * z)
     apply pos_of_mul ha
     have h3 := Rat.mul_pos ha h1
     have h4 : a * ((b - d * d / a) * y * y + 2 * (f - e * d / a) * y * z + (c - e * e / a) * z * z) = (a * b - d * d) * y * y + 2 * (a * f - e * d) * y * z + (a * c - e * e) * z * z := by grind
     rw [h4] at h3
     grind
   ·intro h y z hy hz q
    have := h (-((d * y + e * z) / a)) y z (fun q => by omega) (fun q => hy (by omega)) (fun q => hz (by omega)) (.inr q)
    unfold Q3 at this
    have h4 : (b - d * d / a) * y * y + 2 * (f - e * d / a) * y * z + (c - e * e / a) * z * z = a * -((d * y + e * z) / a) * -((d * y + e * z) / a) + b * y * y + c * z * z + 2 * d * -((d * y + e * z) / a) * y + 2 * e * -((d * y + e * z) / a) * z + 2 * f * y * z := by grind
    rw [h4]; exact this
  ·rw [if_neg ha]
   constructor
   ·intro h; cases h
   ·intro h
    have := h 1 0 0 (fun q => by omega) (fun _ => by grind) (fun _ => by grind) (.inl (by grind))
    unfold Q3 at this
    exact absurd (show 0 < a by grind) ha
end Cw
end
section
set_option linter.all false
namespace Cw
open Vbecam
theorem sum_ite (n a : Nat) (c : Rat) (h : a < n) : ((List.range n).map fun i => if i = a then c else 0).sum = c := by
 induction n with
 | zero => omega
 | succ n ih =>
  rw [List.range_succ, List.map_append, List.sum_append]
  simp only [List.map_cons, List.map_nil, List.sum_cons, List.sum_nil]
  by_cases q : a = n
  ·subst q
   rw [if_pos rfl]
   have : ((List.range a).map fun i => if i = a then c else 0) = (List.range a).map fun i => 0 * (0 : Rat) := by
    apply List.map_congr_left
    intro i hi
    rw [if_neg (by have := List.mem_range.mp hi; omega)]
    grind
   rw [this, sum_mul]
   grind
  ·rw [ih (by omega), if_neg (fun e => q e.symm)]
   grind
theorem sum_on (n : Nat) : ∀ (L : List Nat) (g : Nat → Rat), L.Nodup → (∀ i ∈ L, i < n) → (∀ i, i < n → i ∉ L → g i = 0) → ((List.range n).map g).sum = (L.map g).sum := by
 intro L
 induction L with
 | nil =>
  intro g _ _ h0
  have : (List.range n).map g = (List.range n).map fun i => 0 * (0 : Rat) := by
   apply List.map_congr_left
   intro i hi
   rw [h0 i (List.mem_range.mp hi) (by simp)]
   grind
  rw [this, sum_mul]
  simp [Rat.zero_mul]
 | cons a L ih =>
  intro g hn hlt h0
  have h1 := List.nodup_cons.mp hn
  have ha := hlt a (List.Mem.head _)
  have e : (List.range n).map g = (List.range n).map fun i => (if i = a then g a else 0) + (if i = a then 0 else g i) := by
   apply List.map_congr_left
   intro i _
   by_cases q : i = a
   ·subst q; rw [if_pos rfl, if_pos rfl]; grind
   ·rw [if_neg q, if_neg q]; grind
  rw [e, sum_add, sum_ite n a _ ha, ih (fun i => if i = a then 0 else g i) h1.2 (fun i hi => hlt i (List.Mem.tail _ hi)) ?_, List.map_cons, List.sum_cons]
  ·congr 2
   apply List.map_congr_left
   intro i hi
   rw [if_neg (fun q => h1.1 (by rw [← q]; exact hi))]
  ·intro i hi hni
   by_cases q : i = a
   ·rw [if_pos q]
   ·rw [if_neg q]
    exact h0 i hi (by simp [q, hni])
theorem suml_add (l : List Nat) (f g : Nat → Rat) : (l.map fun j => f j + g j).sum = (l.map f).sum + (l.map g).sum := sum_add l f g
end Cw
end
section
set_option linter.all false
namespace Cw
open Vbecam
theorem sm_swap (g : Nat → Nat → Rat) : ∀ (l k : List Nat), (l.map fun i => (k.map fun j => g i j).sum).sum = (k.map fun j => (l.map fun i => g i j).sum).sum := by
 intro l
 induction l with
 | nil =>
  intro k
  have : (k.map fun j => (([] : List Nat).map fun i => g i j).sum) = k.map fun j => 0 * (0 : Rat) := by
   apply List.map_congr_left
   intro j _
   simp [Rat.zero_mul]
  rw [this, sum_mul]
  simp [Rat.zero_mul]
 | cons a l ih =>
  intro k
  simp only [List.map_cons, List.sum_cons]
  rw [ih k, ← sum_add]
theorem sm_congr (l : List Nat) (f g : Nat → Rat) (h : ∀ i ∈ l, f i = g i) : (l.map f).sum = (l.map g).sum := by
 congr 1
 exact List.map_congr_left h
theorem card_le (n : Nat) (L : List Nat) (hn : L.Nodup) (hl : ∀ i ∈ L, i < n) : L.length ≤ n := by
 have h := sum_on n L (fun i => if i ∈ L then 1 else 0) hn hl (fun i _ hi => if_neg hi)
 have e1 : (L.map fun i => if i ∈ L then (1 : Rat) else 0) = L.map fun _ => 1 := by
  apply List.map_congr_left
  intro i hi
  rw [if_pos hi]
 have e2 : ∀ l : List Nat, (l.map fun _ => (1 : Rat)).sum = (l.length : Rat) := by
  intro l
  induction l with
  | nil => rfl
  | cons x l ih =>
   simp only [List.map_cons, List.sum_cons, List.length_cons, ih, Rat.natCast_add]
   have : ((1 : Nat) : Rat) = 1 := rfl
   rw [this]; grind
 have e3 : ∀ l : List Nat, (l.map fun i => if i ∈ L then (1 : Rat) else 0).sum ≤ (l.length : Rat) := by
  intro l
  induction l with
  | nil => exact Rat.le_refl
  | cons x l ih =>
   simp only [List.map_cons, List.sum_cons, List.length_cons, Rat.natCast_add]
   have : ((1 : Nat) : Rat) = 1 := rfl
   rw [this]
   split <;> grind
 have h3 := e3 (List.range n)
 rw [h, e1, e2, List.length_range] at h3
 exact Rat.natCast_le_natCast.mp h3
end Cw
end
section
set_option linter.all false
namespace Cw
open Vbecam
theorem fnC (c : Nat) (u r : List Rat) (h : u.length = r.length) (j : Nat) : (clearedR c u r).getD j 0 = r.getD j 0 - r.getD c 0 * u.getD j 0 := by
 unfold clearedR
 rw [List.getD_eq_getElem?_getD, List.getElem?_map]
 by_cases hj : j < r.length
 ·rw [List.getElem?_range hj]; rfl
 ·rw [List.getElem?_eq_none (by simpa using hj)]
  rw [List.getD_eq_getElem?_getD (l := r) (i := j), List.getElem?_eq_none (by omega), List.getD_eq_getElem?_getD (l := u) (i := j), List.getElem?_eq_none (by omega)]
  simp only [Option.map_none, Option.getD_none]
  grind
theorem dot_two (x : Nat → Rat) (m : Nat) (r : Rw) (a b : Nat) (ha : a < m) (hb : b < m) (hab : a ≠ b) (h : ∀ j, j < m → j ≠ a → j ≠ b → r j * x j = 0) : dot x m r = r a * x a + r b * x b := by
 unfold dot
 rw [sum_on m [a, b] (fun j => r j * x j) (by simp [hab]) (by simp [ha, hb]) (fun i hi hn => by simp at hn; exact h i hi hn.1 hn.2)]
 simp only [List.map_cons, List.map_nil, List.sum_cons, List.sum_nil]
 grind
theorem dot_none (x : Nat → Rat) (m : Nat) (r : Rw) (h : ∀ j, j < m → r j * x j = 0) : dot x m r = 0 := by
 unfold dot
 rw [sum_on m [] (fun j => r j * x j) (by simp) (by simp) (fun i hi _ => h i hi)]
 rfl
theorem solving_stuck (m w f : Nat) : ∀ (c : Nat) (done rest : List (List Rat)), rest.length = f → done.length = c → (∀ r ∈ done, r.length = w) → (∀ r ∈ rest, r.length = w) → m = c + f → m < w →
  (∀ i j, i < c → j < c → (done.getD i []).getD j 0 = if i = j then 1 else 0) → (∀ r ∈ rest, ∀ j, j < c → r.getD j 0 = 0) → (solvingR c f done rest).length < c + f →
  ∃ x : Nat → Rat, (∃ j, j < m ∧ x j ≠ 0) ∧ ∀ r ∈ done ++ rest, dot x m (fnR r) = 0 := by
 induction f with
 | zero =>
  intro c done rest _ hd _ _ _ _ _ _ h
  unfold solvingR at h
  omega
 | succ f ih =>
  intro c done rest hl hd hwd hwr hm hmw hun hze hlen
  unfold solvingR at hlen
  cases e : rest.findIdx? fun r => decide (r.getD c 0 ≠ 0) with
  | none =>
   have hall := List.findIdx?_eq_none_iff.mp e
   refine ⟨fun j => if j < c then -(done.getD j []).getD c 0 else if j = c then 1 else 0, ⟨c, by omega, by simp⟩, ?_⟩
   intro r hr
   rcases List.mem_append.mp hr with hr | hr
   ·obtain ⟨k, hk⟩ := List.mem_iff_getElem?.mp hr
    have hkc : k < c := by rw [← hd]; exact (List.getElem?_eq_some_iff.mp hk).1
    have hrk : r = done.getD k [] := by rw [List.getD_eq_getElem?_getD, hk]; rfl
    rw [dot_two _ m _ k c (by omega) (by omega) (by omega)]
    ·simp only [fnR, if_pos hkc, Nat.lt_irrefl, if_false, if_true]
     rw [hrk, hun k k hkc hkc, if_pos rfl]
     grind
    ·intro j hj h1 h2
     simp only [fnR]
     by_cases hjc : j < c
     ·rw [hrk, hun k j hkc hjc, if_neg (fun z => h1 z.symm)]
      grind
     ·rw [if_neg hjc, if_neg h2]
      grind
   ·refine dot_none _ m _ fun j hj => ?_
    simp only [fnR]
    by_cases hjc : j < c
    ·rw [hze r hr j hjc]; grind
    ·by_cases hj2 : j = c
     ·have := hall r hr
      have h0 : r.getD c 0 = 0 := by simpa using this
      rw [hj2, h0]; grind
     ·rw [if_neg hjc, if_neg hj2]; grind
  | some i =>
   rw [e] at hlen
   dsimp only at hlen
   obtain ⟨hi, hp, _⟩ := List.findIdx?_eq_some_iff_getElem.mp e
   have hpe : rest.getD i [] = rest[i] := by rw [List.getD_eq_getElem?_getD, List.getElem?_eq_getElem hi]; rfl
   rw [← hpe] at hp
   have hp' : (rest.getD i []).getD c 0 ≠ 0 := of_decide_eq_true hp
   have hpm : rest.getD i [] ∈ rest := by rw [hpe]; exact List.getElem_mem hi
   have hpw := hwr _ hpm
   have hpz := hze _ hpm
   generalize rest.getD i [] = p at *
   have hfp := fnR_pivot c p hp'
   have huw : (p.map fun x => x / p.getD c 0).length = w := by rw [List.length_map]; exact hpw
   have hu1 : (p.map fun x => x / p.getD c 0).getD c 0 = 1 := by
    rw [List.getD_eq_getElem?_getD, List.getElem?_map, List.getElem?_eq_getElem (show c < p.length by omega)]
    simp only [Option.map_some, Option.getD_some]
    have : p[c]'(by omega) = p.getD c 0 := by rw [List.getD_eq_getElem?_getD, List.getElem?_eq_getElem (show c < p.length by omega)]; rfl
    rw [this]
    grind
   have hu0 : ∀ j, j < c → (p.map fun x => x / p.getD c 0).getD j 0 = 0 := by
    intro j hj
    rw [List.getD_eq_getElem?_getD, List.getElem?_map, List.getElem?_eq_getElem (show j < p.length by omega)]
    simp only [Option.map_some, Option.getD_some]
    have : p[j]'(by omega) = p.getD j 0 := by rw [List.getD_eq_getElem?_getD, List.getElem?_eq_getElem (show j < p.length by omega)]; rfl
    rw [this, hpz j hj]
    grind
   generalize (p.map fun x => x / p.getD c 0) = u at *
   have h := ih (c + 1) (done.map (clearedR c u) ++ [u]) ((rest.eraseIdx i).map (clearedR c u)) (by rw [List.length_map, List.length_eraseIdx_of_lt hi]; omega) (by rw [List.length_append, List.length_map]; simp; exact hd)
    (by
     intro r hr
     rcases List.mem_append.mp hr with h | h
     ·obtain ⟨y, hy, rfl⟩ := List.mem_map.mp h
      rw [clearedR_len]; exact hwd y hy
     ·have : r = u := by simpa using h
      rw [this]; exact huw)
    (by
     intro r hr
     obtain ⟨y, hy, rfl⟩ := List.mem_map.mp hr
     rw [clearedR_len]; exact hwr y (List.mem_of_mem_eraseIdx hy))
    (by omega) hmw
    (by
     intro a b ha hb
     by_cases hac : a < c
     ·have hal : a < done.length := by omega
      have e1 : (done.map (clearedR c u) ++ [u]).getD a [] = clearedR c u (done.getD a []) := by
       rw [List.getD_eq_getElem?_getD, List.getElem?_append_left (by simpa using hal), List.getElem?_map, List.getD_eq_getElem?_getD, List.getElem?_eq_getElem hal]
       rfl
      rw [e1, fnC c u _ (by rw [huw, hwd _ (getD_mem [] hal)])]
      by_cases hbc : b < c
      ·rw [hun a b hac hbc, hu0 b hbc]; grind
      ·have : b = c := by omega
       rw [this, hu1, if_neg (by omega)]; grind
     ·have hac2 : a = done.length := by omega
      have e1 : (done.map (clearedR c u) ++ [u]).getD a [] = u := by
       rw [List.getD_eq_getElem?_getD, List.getElem?_append_right (by simp; omega)]
       simp [hac2]
      rw [e1]
      by_cases hbc : b < c
      ·rw [hu0 b hbc, if_neg (by omega)]
      ·have : b = c := by omega
       rw [this, hu1, if_pos (by omega)])
    (by
     intro r hr j hj
     obtain ⟨y, hy, rfl⟩ := List.mem_map.mp hr
     have hym := List.mem_of_mem_eraseIdx hy
     rw [fnC c u y (by rw [huw, hwr y hym])]
     by_cases hjc : j < c
     ·rw [hze y hym j hjc, hu0 j hjc]; grind
     ·have : j = c := by omega
      rw [this, hu1]; grind)
    (by omega)
   obtain ⟨x, hx, hk⟩ := h
   refine ⟨x, hx, ?_⟩
   have hu : dot x m (fnR u) = 0 := hk u (by simp)
   have hcl : ∀ y : List Rat, y.length = w → dot x m (fnR (clearedR c u y)) = 0 → dot x m (fnR y) = 0 := by
    intro y hy h2
    rw [fnR_cleared c u y (by omega), dot_lin, hu] at h2
    grind
   intro r hr
   rcases List.mem_append.mp hr with h1 | h1
   ·exact hcl r (hwd r h1) (hk _ (List.mem_append_left _ (List.mem_append_left _ (List.mem_map_of_mem h1))))
   ·rcases mem_or_eraseIdx (i := i) ([] : List Rat) h1 with h2 | h2
    ·have : r = p := by
      rw [h2, hpe, List.getD_eq_getElem?_getD, List.getElem?_eq_getElem hi]; rfl
     rw [this, hfp, dot_lin, hu, dot_zrow]
     grind
    ·exact hcl r (hwr r h1) (hk _ (List.mem_append_right _ (List.mem_map_of_mem h2)))
theorem singular_kernel (n : Nat) (rows : List (List Int)) (hn : rows.length = n) (hw : ∀ r ∈ rows, r.length = n + 1) (h : solvedR n (rows.map ratRow) = none) :
  ∃ x : Nat → Rat, (∃ j, j < n ∧ x j ≠ 0) ∧ ∀ R ∈ rows, ((List.range n).map fun j => ((R.getD j 0 : Int) : Rat) * x j).sum = 0 := by
 have hl : (solvingR 0 n [] (rows.map ratRow)).length < n := by
  unfold solvedR at h
  dsimp only at h
  split at h
  ·cases h
  ·rename_i h2
   have := solvingR_len n 0 [] (rows.map ratRow)
   simp at this
   omega
 obtain ⟨x, hx, hk⟩ := solving_stuck n (n + 1) n 0 [] (rows.map ratRow) (by simpa using hn) rfl (by simp) (by
  intro r hr
  obtain ⟨R, hR, rfl⟩ := List.mem_map.mp hr
  rw [ratRow, List.length_map]; exact hw R hR) (by omega) (by omega) (by intro i j hi; omega) (by intro r _ j hj; omega) (by omega)
 refine ⟨x, hx, fun R hR => ?_⟩
 have := hk (ratRow R) (by simp; exact ⟨R, hR, rfl⟩)
 unfold dot at this
 rw [fn_ratRow] at this
 exact this
end Cw
end
section
set_option linter.all false
namespace Cw
open Vbecam
def sm (S : List Nat) (g : Nat → Rat) : Rat := (S.map g).sum
def app (S : List Nat) (f : Nat → Nat → Rat) (y : Nat → Rat) (i : Nat) : Rat := sm S fun j => f i j * y j
def bil (S : List Nat) (f : Nat → Nat → Rat) (x y : Nat → Rat) : Rat := sm S fun i => x i * app S f y i
theorem sm_cons (a : Nat) (S : List Nat) (g : Nat → Rat) : sm (a :: S) g = g a + sm S g := rfl
theorem smc {S : List Nat} {f g : Nat → Rat} (h : ∀ i ∈ S, f i = g i) : sm S f = sm S g := sm_congr S f g h
theorem sma (S : List Nat) (f g : Nat → Rat) : sm S (fun i => f i + g i) = sm S f + sm S g := suml_add S f g
theorem smm (S : List Nat) (f : Nat → Rat) (t : Rat) : sm S (fun i => t * f i) = t * sm S f := sum_mul S f t
theorem sm_zero {S : List Nat} {f : Nat → Rat} (h : ∀ i ∈ S, f i = 0) : sm S f = 0 := by
 induction S with
 | nil => rfl
 | cons a S ih => rw [sm_cons, h a (List.Mem.head _), ih fun i hi => h i (List.Mem.tail _ hi)]; grind
theorem sm_nonneg {S : List Nat} {f : Nat → Rat} (h : ∀ i ∈ S, 0 ≤ f i) : 0 ≤ sm S f := by
 induction S with
 | nil => exact Rat.le_refl
 | cons a S ih =>
  have h1 := h a (List.Mem.head _)
  have h2 := ih fun i hi => h i (List.Mem.tail _ hi)
  rw [sm_cons]
  grind
theorem sm_pos {S : List Nat} {f : Nat → Rat} (h : ∀ i ∈ S, 0 ≤ f i) (hp : ∃ i ∈ S, f i ≠ 0) : 0 < sm S f := by
 induction S with
 | nil => obtain ⟨i, hi, _⟩ := hp; simp at hi
 | cons a S ih =>
  have h1 := h a (List.Mem.head _)
  have h2 := sm_nonneg fun i hi => h i (List.Mem.tail _ hi)
  rw [sm_cons]
  by_cases ha : f a = 0
  ·have h3 := ih (fun i hi => h i (List.Mem.tail _ hi)) (by
    obtain ⟨i, hi, hn⟩ := hp
    rcases List.mem_cons.mp hi with rfl | hi
    ·exact absurd ha hn
    ·exact ⟨i, hi, hn⟩)
   grind
  ·grind
theorem app_lin (S : List Nat) (f : Nat → Nat → Rat) (x y : Nat → Rat) (t : Rat) (i : Nat) : app S f (fun j => x j + t * y j) i = app S f x i + t * app S f y i := by
 unfold app
 rw [← smm, ← sma]
 exact smc fun j _ => by grind
theorem bil_r (S : List Nat) (f : Nat → Nat → Rat) (x y z : Nat → Rat) (t : Rat) : bil S f x (fun j => y j + t * z j) = bil S f x y + t * bil S f x z := by
 unfold bil
 rw [← smm, ← sma]
 refine smc fun i _ => ?_
 rw [app_lin]
 grind
theorem bil_l (S : List Nat) (f : Nat → Nat → Rat) (x y z : Nat → Rat) (t : Rat) : bil S f (fun j => y j + t * z j) x = bil S f y x + t * bil S f z x := by
 unfold bil
 rw [← smm, ← sma]
 exact smc fun i _ => by grind
theorem bil_sym (S : List Nat) (f : Nat → Nat → Rat) (hf : ∀ i j, f i j = f j i) (x y : Nat → Rat) : bil S f x y = bil S f y x := by
 have e : ∀ u v : Nat → Rat, bil S f u v = (S.map fun i => (S.map fun j => u i * (f i j * v j)).sum).sum := by
  intro u v
  unfold bil
  refine smc fun i _ => ?_
  show u i * (S.map fun j => f i j * v j).sum = _
  rw [← sum_mul]
 rw [e, e, sm_swap]
 refine smc fun j _ => smc fun i _ => ?_
 rw [hf i j]
 grind
theorem quad (S : List Nat) (f : Nat → Nat → Rat) (hf : ∀ i j, f i j = f j i) (x d : Nat → Rat) (t : Rat) :
  bil S f (fun j => x j + t * d j) (fun j => x j + t * d j) = bil S f x x + 2 * t * bil S f x d + t * t * bil S f d d := by
 rw [bil_r, bil_l, bil_l, bil_sym S f hf d x]
 grind
theorem bil_level (S : List Nat) (f : Nat → Nat → Rat) (x d : Nat → Rat) (u : Rat) (h : ∀ i ∈ S, app S f d i = u) : bil S f x d = u * sm S x := by
 unfold bil
 rw [← smm]
 refine smc fun i hi => ?_
 rw [h i hi]
 grind
theorem edge (S : List Nat) (x d : Nat → Rat) (hx : ∀ i ∈ S, 0 < x i) (hd : ∃ i ∈ S, d i < 0) : ∃ t : Rat, 0 < t ∧ (∀ i ∈ S, 0 ≤ x i + t * d i) ∧ ∃ i ∈ S, x i + t * d i = 0 := by
 induction S with
 | nil => obtain ⟨i, hi, _⟩ := hd; simp at hi
 | cons a S ih =>
  have hxa := hx a (List.Mem.head _)
  have one : ∀ T : Rat, 0 < T → d a < 0 → x a + T * d a < 0 → (∀ i ∈ S, 0 ≤ x i + T * d i) → ∃ t : Rat, 0 < t ∧ (∀ i ∈ a :: S, 0 ≤ x i + t * d i) ∧ ∃ i ∈ a :: S, x i + t * d i = 0 := by
   intro T hT hda hTa hTs
   have hnd : 0 < -d a := by grind
   have e0 : x a / -d a * d a = - x a := by grind
   have ht : 0 < x a / -d a := by
    rw [Rat.div_def]
    exact Rat.mul_pos hxa (Rat.inv_pos.mpr hnd)
   have htT : x a / -d a ≤ T := by
    rcases Rat.le_total (a := x a / -d a) (b := T) with h | h
    ·exact h
    ·have h5 : 0 ≤ (x a / -d a - T) * -d a := Rat.mul_nonneg (by grind) (by grind)
     have h6 : (x a / -d a - T) * -d a = x a + T * d a := by grind
     grind
   refine ⟨x a / -d a, ht, fun i hi => ?_, a, List.Mem.head _, by rw [e0]; grind⟩
   rcases List.mem_cons.mp hi with rfl | hi
   ·rw [e0]; grind
   ·have hxi := hx i (List.Mem.tail _ hi)
    have hTi := hTs i hi
    by_cases hdi : 0 ≤ d i
    ·have := Rat.mul_nonneg (Rat.le_of_lt ht) hdi
     grind
    ·have h5 : 0 ≤ (T - x a / -d a) * -d i := Rat.mul_nonneg (by grind) (by grind)
     grind
  by_cases hS : ∃ i ∈ S, d i < 0
  ·obtain ⟨t, h1, h2, j, hj, h3⟩ := ih (fun i hi => hx i (List.Mem.tail _ hi)) hS
   by_cases ha : 0 ≤ x a + t * d a
   ·exact ⟨t, h1, fun i hi => by
     rcases List.mem_cons.mp hi with rfl | hi
     ·exact ha
     ·exact h2 i hi, j, List.Mem.tail _ hj, h3⟩
   ·have hda : d a < 0 := by
     apply Classical.byContradiction
     intro h
     have := Rat.mul_nonneg (Rat.le_of_lt h1) (show 0 ≤ d a by grind)
     grind
    exact one t h1 hda (by grind) h2
  ·have hda : d a < 0 := by
    obtain ⟨i, hi, h⟩ := hd
    rcases List.mem_cons.mp hi with rfl | hi
    ·exact h
    ·exact absurd ⟨i, hi, h⟩ hS
   have hnn : ∀ i ∈ S, 0 ≤ d i := fun i hi => by
    apply Classical.byContradiction
    intro h
    exact hS ⟨i, hi, by grind⟩
   have hnd : 0 < -d a := by grind
   have e0 : (x a / -d a) * d a = -x a := by grind
   have ht : 0 < x a / -d a := by
    rw [Rat.div_def]
    exact Rat.mul_pos hxa (Rat.inv_pos.mpr hnd)
   refine one (x a / -d a + 1) (by grind) hda ?_ ?_
   ·have : (x a / -d a + 1) * d a = -x a + d a := by grind
    rw [this]; grind
   ·intro i hi
    have := Rat.mul_nonneg (show 0 ≤ x a / -d a + 1 by grind) (hnn i hi)
    have := hx i (List.Mem.tail _ hi)
    grind
theorem some_neg (S : List Nat) (d : Nat → Rat) (hs : sm S d = 0) (hd : ∃ i ∈ S, d i ≠ 0) : ∃ i ∈ S, d i < 0 := by
 apply Classical.byContradiction
 intro h
 have h2 : ∀ i ∈ S, 0 ≤ d i := fun i hi => by
  apply Classical.byContradiction
  intro z
  exact h ⟨i, hi, by grind⟩
 have := sm_pos h2 hd
 grind
def Face (f : Nat → Nat → Rat) (T : List Nat) : Prop :=
 (∃ (d : Nat → Rat) (u : Rat), ((∃ i ∈ T, d i ≠ 0) ∨ u ≠ 0) ∧ sm T d = 0 ∧ ∀ i ∈ T, app T f d i = u) ∨
 (∃ (w : Nat → Rat) (v : Rat), sm T w = 1 ∧ (∀ i ∈ T, app T f w i = v) ∧ ¬ ((∀ i ∈ T, 0 ≤ w i) ∧ v ≤ 0))
theorem sm_erase {S : List Nat} {a : Nat} {g : Nat → Rat} (hn : S.Nodup) (ha : a ∈ S) : sm S g = g a + sm (S.erase a) g := by
 induction S with
 | nil => simp at ha
 | cons b S ih =>
  by_cases e : b = a
  ·subst e
   rw [List.erase_cons_head, sm_cons]
  ·have ha' : a ∈ S := by
    rcases List.mem_cons.mp ha with h | h
    ·exact absurd h.symm e
    ·exact h
   rw [List.erase_cons_tail (by simpa using e), sm_cons, sm_cons, ih (List.nodup_cons.mp hn).2 ha']
   grind
theorem bil_erase {S : List Nat} {a : Nat} {f : Nat → Nat → Rat} {x : Nat → Rat} (hn : S.Nodup) (ha : a ∈ S) (hx : x a = 0) : bil (S.erase a) f x x = bil S f x x := by
 have e1 : ∀ i, app S f x i = app (S.erase a) f x i := by
  intro i
  unfold app
  rw [sm_erase hn ha, hx]
  grind
 unfold bil
 rw [sm_erase (g := fun i => x i * app S f x i) hn ha, hx]
 have : sm (S.erase a) (fun i => x i * app S f x i) = sm (S.erase a) (fun i => x i * app (S.erase a) f x i) := smc fun i _ => by rw [e1]
 rw [this]
 grind
theorem faces (f : Nat → Nat → Rat) (hf : ∀ i j, f i j = f j i) (n : Nat) : ∀ S : List Nat, S.length = n → S.Nodup → (∀ T : List Nat, T.Sublist S → T ≠ [] → Face f T) →
  ∀ x : Nat → Rat, (∀ i ∈ S, 0 ≤ x i) → (∃ i ∈ S, x i ≠ 0) → 0 < bil S f x x := by
 induction n with
 | zero =>
  intro S hl _ _ x _ hx
  rw [List.eq_nil_of_length_eq_zero hl] at hx
  obtain ⟨i, hi, _⟩ := hx
  simp at hi
 | succ n ih =>
  intro S hl hn hF x hx hne
  have out : ∀ y : Nat → Rat, (∀ i ∈ S, 0 ≤ y i) → (∃ i ∈ S, y i = 0) → 0 < sm S y → ¬ bil S f y y ≤ 0 := by
   intro y hy ⟨a, ha, hya⟩ hs hb
   have h1 := ih (S.erase a) (by rw [List.length_erase_of_mem ha]; omega) (hn.erase a) (fun T hT => hF T (hT.trans List.erase_sublist)) y (fun i hi => hy i (List.mem_of_mem_erase hi)) (by
    apply Classical.byContradiction
    intro h
    have : sm (S.erase a) y = 0 := sm_zero fun i hi => by
     apply Classical.byContradiction
     intro z
     exact h ⟨i, hi, z⟩
    rw [sm_erase hn ha, hya, this] at hs
    grind)
   rw [bil_erase hn ha hya] at h1
   grind
  have hsx : 0 < sm S x := sm_pos hx hne
  apply Classical.byContradiction
  intro hlow
  have hq : bil S f x x ≤ 0 := by grind
  by_cases hz : ∃ i ∈ S, x i = 0
  ·exact out x hx hz hsx hq
  have hxp : ∀ i ∈ S, 0 < x i := fun i hi => by
   have h1 := hx i hi
   have h2 : x i ≠ 0 := fun e => hz ⟨i, hi, e⟩
   grind
  have hS : S ≠ [] := fun e => by rw [e] at hl; simp at hl
  have walk : ∀ d : Nat → Rat, sm S d = 0 → (∃ i ∈ S, d i < 0) → ∃ t : Rat, 0 < t ∧ (∀ i ∈ S, 0 ≤ x i + t * d i) ∧ ¬ bil S f x x + 2 * t * bil S f x d + t * t * bil S f d d ≤ 0 := by
   intro d hd0 hdn
   obtain ⟨t, ht, h1, h2⟩ := edge S x d hxp hdn
   refine ⟨t, ht, h1, ?_⟩
   rw [← quad S f hf]
   refine out _ h1 h2 ?_
   rw [sma, smm, hd0]
   grind
  rcases hF S (List.Sublist.refl S) hS with ⟨d, u, hdu, hd0, hdl⟩ | ⟨w, v, hw1, hwl, hwn⟩
  ·-- singular
   have hdne : ∃ i ∈ S, d i ≠ 0 := by
    rcases hdu with h | h
    ·exact h
    ·apply Classical.byContradiction
     intro hno
     have hz0 : ∀ i ∈ S, d i = 0 := fun i hi => by
      apply Classical.byContradiction
      intro z
      exact hno ⟨i, hi, z⟩
     obtain ⟨a, ha⟩ := List.exists_mem_of_ne_nil S hS
     apply h
     rw [← hdl a ha]
     unfold app
     exact sm_zero fun j hj => by rw [hz0 j hj]; grind
   have key : ∀ (e : Nat → Rat) (r : Rat), sm S e = 0 → (∃ i ∈ S, e i ≠ 0) → (∀ i ∈ S, app S f e i = r) → r ≤ 0 → False := by
    intro e r he0 hene hel hr
    obtain ⟨t, ht, _, h2⟩ := walk e he0 (some_neg S e he0 hene)
    apply h2
    rw [bil_level S f x e r hel, bil_level S f e e r hel, he0]
    have h3 : 0 ≤ t * sm S x * (-r) := Rat.mul_nonneg (Rat.mul_nonneg (Rat.le_of_lt ht) (Rat.le_of_lt hsx)) (by grind)
    grind
   by_cases hu : u ≤ 0
   ·exact key d u hd0 hdne hdl hu
   ·refine key (fun i => -1 * d i) (-1 * u) ?_ ?_ ?_ (by grind)
    ·rw [smm, hd0]; grind
    ·obtain ⟨i, hi, h⟩ := hdne
     exact ⟨i, hi, by grind⟩
    ·intro i hi
     have := app_lin S f (fun _ => 0) d (-1) i
     have e0 : app S f (fun _ => 0) i = 0 := by unfold app; exact sm_zero fun j _ => by grind
     rw [e0, hdl i hi] at this
     have e2 : app S f (fun i => -1 * d i) i = app S f (fun j => 0 + -1 * d j) i := by
      unfold app
      exact smc fun j _ => by grind
     rw [e2, this]
     grind
  ·-- one level point
   have hB : ∀ y, bil S f y w = v * sm S y := fun y => bil_level S f y w v hwl
   have e1 : bil S f x x = bil S f (fun j => x j + -sm S x * w j) (fun j => x j + -sm S x * w j) + sm S x * sm S x * v := by
    rw [quad S f hf, hB x, hB w, hw1]
    grind
   have hdx : bil S f x (fun j => x j + -sm S x * w j) = bil S f (fun j => x j + -sm S x * w j) (fun j => x j + -sm S x * w j) := by
    rw [bil_r, quad S f hf, hB x, hB w, hw1]
    grind
   have hd0 : sm S (fun j => x j + -sm S x * w j) = 0 := by
    rw [sma, smm, hw1]
    grind
   have hss : 0 < sm S x * sm S x := Rat.mul_pos hsx hsx
   by_cases hdz : ∀ i ∈ S, x i + -sm S x * w i = 0
   ·-- x is the level point itself
    apply hwn
    have hbd : bil S f (fun j => x j + -sm S x * w j) (fun j => x j + -sm S x * w j) = 0 := by
     unfold bil
     exact sm_zero fun i hi => by show (x i + -sm S x * w i) * _ = 0; rw [hdz i hi]; exact Rat.zero_mul _
    rw [hbd] at e1
    constructor
    ·intro i hi
     have h1 := hdz i hi
     have h2 := hxp i hi
     apply Classical.byContradiction
     intro z
     have := Rat.mul_pos hsx (show 0 < -w i by grind)
     grind
    ·exact nonpos_of_mul hss (by grind)
   ·have hdne : ∃ i ∈ S, x i + -sm S x * w i ≠ 0 := by
     apply Classical.byContradiction
     intro z
     apply hdz
     intro i hi
     apply Classical.byContradiction
     intro y
     exact z ⟨i, hi, y⟩
    by_cases hv : v ≤ 0
    ·-- some share of the level point is below 0: go towards it
     have hwneg : ∃ i ∈ S, w i < 0 := by
      apply Classical.byContradiction
      intro z
      apply hwn
      refine ⟨fun i hi => ?_, hv⟩
      apply Classical.byContradiction
      intro y
      exact z ⟨i, hi, by grind⟩
     obtain ⟨a, ha, hwa⟩ := hwneg
     have hda : 0 < x a + -sm S x * w a := by
      have h1 := hxp a ha
      have h2 := Rat.mul_pos hsx (show 0 < -w a by grind)
      grind
     obtain ⟨t, ht, h1, h2⟩ := walk (fun i => -1 * (x i + -sm S x * w i)) (by rw [smm, hd0]; grind) ⟨a, ha, by grind⟩
     have ht1 : t < 1 := by
      apply Classical.byContradiction
      intro z
      have h3 := h1 a ha
      have h4 : 0 ≤ (t - 1) * (x a + -sm S x * w a) := Rat.mul_nonneg (by grind) (Rat.le_of_lt hda)
      have h5 := Rat.mul_pos hsx (show 0 < -w a by grind)
      grind
     apply h2
     have f1 : bil S f x (fun i => -1 * (x i + -sm S x * w i)) = -1 * bil S f x (fun j => x j + -sm S x * w j) := by
      have := bil_r S f x (fun _ => 0) (fun j => x j + -sm S x * w j) (-1)
      have e0 : bil S f x (fun _ => 0) = 0 := by
       unfold bil app
       exact sm_zero fun i _ => by rw [sm_zero fun j _ => by grind]; grind
      have e2 : bil S f x (fun i => -1 * (x i + -sm S x * w i)) = bil S f x (fun j => 0 + -1 * (x j + -sm S x * w j)) := congrArg (bil S f x) (funext fun j => (Rat.zero_add _).symm)
      rw [e2, this, e0]
      grind
     have f2 : bil S f (fun i => -1 * (x i + -sm S x * w i)) (fun i => -1 * (x i + -sm S x * w i)) = bil S f (fun j => x j + -sm S x * w j) (fun j => x j + -sm S x * w j) := by
      unfold bil app
      refine smc fun i _ => ?_
      have : sm S (fun j => f i j * (-1 * (x j + -sm S x * w j))) = -1 * sm S (fun j => f i j * (x j + -sm S x * w j)) := by
       rw [← smm]
       exact smc fun j _ => by grind
      rw [this]
      grind
     rw [f1, f2, hdx, e1]
     generalize bil S f (fun j => x j + -sm S x * w j) (fun j => x j + -sm S x * w j) = D at *
     rw [e1] at hq
     have g1 : 0 ≤ sm S x * sm S x * (-v) := Rat.mul_nonneg (Rat.le_of_lt hss) (by grind)
     have g2 : 0 ≤ (1 - t) * (1 - t) := sqn (1 - t)
     have g3 : 0 ≤ t * (2 - t) := Rat.mul_nonneg (Rat.le_of_lt ht) (by grind)
     by_cases hD : 0 ≤ D
     ·have g4 : 0 ≤ t * (2 - t) * D := Rat.mul_nonneg g3 hD
      grind
     ·have g4 : 0 ≤ (1 - t) * (1 - t) * (-D) := Rat.mul_nonneg g2 (by grind)
      grind
    ·-- the level point is above 0: go away from it
     obtain ⟨t, ht, h1, h2⟩ := walk (fun i => x i + -sm S x * w i) hd0 (some_neg S _ hd0 hdne)
     apply h2
     rw [hdx, e1]
     generalize bil S f (fun j => x j + -sm S x * w j) (fun j => x j + -sm S x * w j) = D at *
     rw [e1] at hq
     have g1 : 0 < sm S x * sm S x * v := Rat.mul_pos hss (by grind)
     have g2 : 0 ≤ (2 * t + t * t) * (-D) := Rat.mul_nonneg (by have := Rat.mul_pos ht ht; grind) (by grind)
     grind
end Cw
end
section
set_option Elab.async false
set_option linter.all false
set_option maxRecDepth 100000
namespace Cw
open PySem PySem.Spec PyProof.Rows L2
def topSt (i : Nat) : Stmt := PySem.Challenge.pw_contestways_s01_answers.main.body.getD i (.Pass ⟨0, 0, 0, 0⟩)
abbrev s_greatest_divisor : Stmt := topSt 16
abbrev s_fraction : Stmt := topSt 17
abbrev s_mixture : Stmt := topSt 18
abbrev s_are_within : Stmt := topSt 19
abbrev s_are_weights : Stmt := topSt 20
abbrev s_are_strategies : Stmt := topSt 21
abbrev s_weighted_sum : Stmt := topSt 22
abbrev s_won_against : Stmt := topSt 23
abbrev s_best_replies : Stmt := topSt 24
abbrev s_cleared : Stmt := topSt 25
abbrev s_solve : Stmt := topSt 26
abbrev s_level_equations : Stmt := topSt 27
abbrev s_level_weights : Stmt := topSt 28
abbrev s_is_at_rest : Stmt := topSt 29
abbrev s_all_sets : Stmt := topSt 30
abbrev s_resting_sets : Stmt := topSt 31
abbrev s_loss_form : Stmt := topSt 32
abbrev s_is_above_zero : Stmt := topSt 33
abbrev s_is_stable : Stmt := topSt 34
abbrev s_lead : Stmt := topSt 35
abbrev s_beats : Stmt := topSt 36
abbrev s_unbeaten : Stmt := topSt 37
abbrev s_answer_contest : Stmt := topSt 38
abbrev s_answer_told : Stmt := topSt 39
abbrev s_answer_value : Stmt := topSt 40
abbrev s_answer_replies : Stmt := topSt 41
abbrev s_answer_survivors : Stmt := topSt 42
abbrev s_answer_support : Stmt := topSt 43
abbrev s_answer_equilibria : Stmt := topSt 44
abbrev s_answer_stable : Stmt := topSt 45
abbrev s_answer_stables : Stmt := topSt 46
abbrev s_answer_bears : Stmt := topSt 47
abbrev s_answer_grow : Stmt := topSt 48
abbrev s_take_grown : Stmt := topSt 49
abbrev s_answer_shift : Stmt := topSt 50
abbrev s_answer_scale : Stmt := topSt 51
abbrev s_answer_sub : Stmt := topSt 52
abbrev s_answer_asking : Stmt := topSt 53
abbrev s_answer_next : Stmt := topSt 54
abbrev s_answers : Stmt := topSt 55
abbrev s_Contest_init : Stmt := inClass (topSt 14) 0
abbrev s_Reader_init : Stmt := inClass (topSt 15) 0
abbrev s_Reader_is_done : Stmt := inClass (topSt 15) 1
abbrev s_Reader_take_number : Stmt := inClass (topSt 15) 2
abbrev s_Reader_take_row : Stmt := inClass (topSt 15) 3
def Dn (K : PySem.W.Frag) (mg : Str → Option Value) (x : Str) (st : Stmt) (ps : List Str) : Prop := ∃ f fd, Fun K x x st f fd ∧ mg x = some (.ref f) ∧ Binds K fd ps []
def Cal (P : Program) (w : World) (K : PySem.W.Frag) (mg : Str → Option Value) (base : Heap) (x : Str) (k : Nat) (ps : List Str) (sp : Sp) : Prop :=
 ∃ f fd, FnOk P w K mg base CX0 k f fd ps sp ∧ mg x = some (.ref f) ∧ PySem.W.keepIn K (.ref f) = true ∧ Binds K fd ps []
section
variable {P : Program} {w : World} {K : PySem.W.Frag} {mg : Str → Option Value} {base : Heap}
theorem cal_of {x : Str} {st : Stmt} {N ps : List Str} {k : Nat} {sp : Sp} (d : Dn K mg x st ps) (S : FnScope N ps (defScope st)) (len : ∀ vs H Q E, sp vs H Q E → vs.length = ps.length)
  (hbody : ∀ (f : Addr) (cdv : Value) (A : Around) (outer : List Env) (s : Shared) (H : Hp) (vs : List V) (Q : VK) (E : XK), Room k (A.deeper (envOfC x (defScope st) s.heap.objs.size f cdv)) → sp vs H Q E →
   ∃ t, PSs (cxOf CX0 P w K mg base N x (defScope st) f cdv A outer s H E).nox (defBody st) t ∧ t { nx := fun _ H' => Q .non H', rt := Q } (start N vs) H) : Cal P w K mg base x (k + 1) ps sp := by
 obtain ⟨f, fd, F, hm, hb⟩ := d
 exact ⟨f, fd, F.ok S len (fun cdv A outer s H vs Q E => hbody f cdv A outer s H vs Q E), hm, F.kp, hb⟩
end
section
variable {X : Cx} {x : Str} {k : Nat} {ps : List Str} {sp : Sp} {p pos : Pos} {e : Expr} {es : List Expr} {t : TA}
theorem pe_cal (c : Cal X.prog X.w X.K X.mg X.base x k ps sp) (hr : Room k X.A) (ha : PA X (e :: es) t) (hg : Gl X x := by rfl) (hdb : (x == ("__debug__" : Str)) = false := by decide)
  (he : starEach (e :: es) X.env = (false, eval e X.env) :: starEach es X.env := by rfl) (hpl : (backTo pos (starEach es X.env)).any (·.1) = false := by rfl) :
  PE X (.Call (.Name x p) (e :: es) [] pos) (tCall sp [] E0 t) := by
 obtain ⟨f, fd, F, hm, kp, hb⟩ := c
 exact pe_call F hr hg hm kp hb .nil pass0 ha hdb he hpl
end
structure Txt (K : PySem.W.Frag) (mg : Str → Option Value) : Prop where
 b_abs : mg "abs" = none
 b_all : mg "all" = none
 b_any : mg "any" = none
 b_enumerate : mg "enumerate" = none
 b_len : mg "len" = none
 b_list : mg "list" = none
 b_max : mg "max" = none
 b_min : mg "min" = none
 b_range : mg "range" = none
 b_sum : mg "sum" = none
 b_zip : mg "zip" = none
 k_MOST_STRATEGIES : ∃ t, mg "MOST_STRATEGIES" = some (.int (4) t)
 k_MOST_WIN : ∃ t, mg "MOST_WIN" = some (.int (1000) t)
 k_MOST_WEIGHT : ∃ t, mg "MOST_WEIGHT" = some (.int (1000) t)
 k_MOST_TIMES : ∃ t, mg "MOST_TIMES" = some (.int (5) t)
 k_MOST_SHIFT : ∃ t, mg "MOST_SHIFT" = some (.int (1000) t)
 k_MOST_FACTOR : ∃ t, mg "MOST_FACTOR" = some (.int (100) t)
 k_MOST_GROWN_WIN : ∃ t, mg "MOST_GROWN_WIN" = some (.int (1000000) t)
 k_OUT_OF_RANGE : ∃ t, mg "OUT_OF_RANGE" = some (.int (-1) t)
 k_SINGULAR : ∃ t, mg "SINGULAR" = some (.int (-5) t)
 k_SAME_MIXTURE : ∃ t, mg "SAME_MIXTURE" = some (.int (-6) t)
 k_WIN_BELOW_ZERO : ∃ t, mg "WIN_BELOW_ZERO" = some (.int (-7) t)
 k_NOTHING_WON : ∃ t, mg "NOTHING_WON" = some (.int (-8) t)
 k_WIN_TOO_FAR : ∃ t, mg "WIN_TOO_FAR" = some (.int (-9) t)
 d_greatest_divisor : Dn K mg "greatest_divisor" s_greatest_divisor ["a", "b"]
 d_fraction : Dn K mg "fraction" s_fraction ["numerator", "denominator"]
 d_mixture : Dn K mg "mixture" s_mixture ["weights"]
 d_are_within : Dn K mg "are_within" s_are_within ["numbers", "least", "most"]
 d_are_weights : Dn K mg "are_weights" s_are_weights ["weights", "n"]
 d_are_strategies : Dn K mg "are_strategies" s_are_strategies ["strategies", "n"]
 d_weighted_sum : Dn K mg "weighted_sum" s_weighted_sum ["numbers", "weights"]
 d_won_against : Dn K mg "won_against" s_won_against ["wins", "weights"]
 d_best_replies : Dn K mg "best_replies" s_best_replies ["wins", "weights"]
 d_cleared : Dn K mg "cleared" s_cleared ["row", "pivot", "column", "before"]
 d_solve : Dn K mg "solve" s_solve ["equations"]
 d_level_equations : Dn K mg "level_equations" s_level_equations ["wins", "strategies"]
 d_level_weights : Dn K mg "level_weights" s_level_weights ["wins", "strategies"]
 d_is_at_rest : Dn K mg "is_at_rest" s_is_at_rest ["wins", "strategies", "weights"]
 d_all_sets : Dn K mg "all_sets" s_all_sets ["n"]
 d_resting_sets : Dn K mg "resting_sets" s_resting_sets ["wins"]
 d_loss_form : Dn K mg "loss_form" s_loss_form ["wins", "base", "others"]
 d_is_above_zero : Dn K mg "is_above_zero" s_is_above_zero ["form"]
 d_is_stable : Dn K mg "is_stable" s_is_stable ["wins", "p"]
 d_lead : Dn K mg "lead" s_lead ["p", "q", "won"]
 d_beats : Dn K mg "beats" s_beats ["wins", "there", "i", "j"]
 d_unbeaten : Dn K mg "unbeaten" s_unbeaten ["wins", "there"]
 d_answer_contest : Dn K mg "answer_contest" s_answer_contest ["contest", "n", "wins"]
 d_answer_told : Dn K mg "answer_told" s_answer_told ["wins"]
 d_answer_value : Dn K mg "answer_value" s_answer_value ["wins", "p", "q"]
 d_answer_replies : Dn K mg "answer_replies" s_answer_replies ["wins", "q"]
 d_answer_survivors : Dn K mg "answer_survivors" s_answer_survivors ["wins"]
 d_answer_support : Dn K mg "answer_support" s_answer_support ["wins", "strategies"]
 d_answer_equilibria : Dn K mg "answer_equilibria" s_answer_equilibria ["wins"]
 d_answer_stable : Dn K mg "answer_stable" s_answer_stable ["wins", "p"]
 d_answer_stables : Dn K mg "answer_stables" s_answer_stables ["wins"]
 d_answer_bears : Dn K mg "answer_bears" s_answer_bears ["wins", "p", "q"]
 d_answer_grow : Dn K mg "answer_grow" s_answer_grow ["wins", "t", "p"]
 d_take_grown : Dn K mg "take_grown" s_take_grown ["contest", "wins"]
 d_answer_shift : Dn K mg "answer_shift" s_answer_shift ["contest", "b"]
 d_answer_scale : Dn K mg "answer_scale" s_answer_scale ["contest", "k"]
 d_answer_sub : Dn K mg "answer_sub" s_answer_sub ["contest", "strategies"]
 d_answer_asking : Dn K mg "answer_asking" s_answer_asking ["wins", "call", "reader"]
 d_answer_next : Dn K mg "answer_next" s_answer_next ["contest", "reader"]
 d_answers : Dn K mg "answers" s_answers ["calls"]
section
variable {P : Program} {w : World} {K : PySem.W.Frag} {mg : Str → Option Value} {base : Heap}
def sp_greatest_divisor : Sp := fun vs H Q _ => ∃ a b : Nat, vs = [.int a, .int b] ∧ Q (.int (Nat.gcd a b)) H
theorem sc_greatest_divisor : FnScope ["a", "b", "rest"] ["a", "b"] (defScope s_greatest_divisor) := ⟨rfl, rfl, rfl, by decide +kernel, rfl, by decide +kernel, by decide +kernel⟩
theorem c_greatest_divisor (T : Txt K mg) : Cal P w K mg base "greatest_divisor" 1 ["a", "b"] sp_greatest_divisor := by
 refine cal_of T.d_greatest_divisor sc_greatest_divisor (fun vs H Q E h => ?_) (fun f cdv A outer s H vs Q E hr h => ?_)
 ·obtain ⟨a, b, rfl, _⟩ := h
  rfl
 ·obtain ⟨a, b, rfl, k⟩ := h
  refine ⟨_, (pss_cons (ps_while PassesOwn.never (pt_cmpR op_ne (pv 1) pe_int (nomark _)) (pss_cons (ps_set (i := 2) sc_greatest_divisor.nd rfl (by first | exact Or.inl rfl | exact Or.inr rfl) (pe_op op_mod (pv 0) (pv 1)))
   (pss_cons (ps_set (i := 0) sc_greatest_divisor.nd rfl (by first | exact Or.inl rfl | exact Or.inr rfl) (pv 1))
   (pss_one (ps_set (i := 1) sc_greatest_divisor.nd rfl (by first | exact Or.inl rfl | exact Or.inr rfl) (pv 2))))))
   (pss_one (ps_ret (pv 0)))), ?_⟩
  refine while_by (fun σ H' => H' = H ∧ ∃ (c d : Nat) (r : Option V), σ = [some (.int c), some (.int d), r] ∧ Nat.gcd c d = Nat.gcd a b) (fun σ _ => match σ with | [_, some (.int d), _] => d.toNat | _ => 0) ⟨rfl, a, b, none, rfl, rfl⟩ ?_ ?_
  ·rintro σ H' ⟨rfl, c, d, r, rfl, hg⟩
   refine ⟨_, rfl, rfl, _, rfl, ?_⟩
   refine ite2 (fun hd => ?_) (fun hd => ?_)
   ·have hd' : d ≠ 0 := by
     intro e
     subst e
     exact absurd hd (by decide)
    refine ⟨_, rfl, _, rfl, _, _, rfl, rfl, by omega, _, rfl, _, rfl, ?_⟩
    refine ⟨⟨rfl, d, c % d, some (.int ((c : Int) % d)), ?_, ?_⟩, ?_⟩
    ·rfl
    ·rw [← hg, Nat.gcd_comm c d, Nat.gcd_rec d c, Nat.gcd_comm]
    ·show (((c : Int) % (d : Int))).toNat < ((d : Int)).toNat
     have := Nat.mod_lt c (show d > 0 by omega)
     omega
   ·have hd' : d = 0 := by
     apply Classical.byContradiction
     intro e
     apply hd
     have : (V.int (d : Int)) ≠ V.int 0 := fun q => e (by have := V.int.inj q; omega)
     simp [this]
    subst hd'
    refine ⟨_, rfl, ?_⟩
    rw [Nat.gcd_zero_right] at hg
    rw [hg]
    exact k
  ·rintro σ H Q Q' hq ⟨v, h1, h2, c, e, q⟩
   exact ⟨v, h1, h2, c, e, hq _ _ q⟩
def sp_fraction : Sp := fun vs H Q _ => ∃ a b : Int, vs = [.int a, .int b] ∧ 0 < b ∧ Few 8000 b ∧ ∀ r, H r = none → Q (.ref r) (upd H r (.lst ((frI a b).map V.int)))
theorem sc_fraction : FnScope ["numerator", "denominator", "divisor"] ["numerator", "denominator"] (defScope s_fraction) := ⟨rfl, rfl, rfl, by decide +kernel, rfl, by decide +kernel, by decide +kernel⟩
theorem c_fraction (T : Txt K mg) : Cal P w K mg base "fraction" 2 ["numerator", "denominator"] sp_fraction := by
 have c_greatest_divisor := c_greatest_divisor (P := P) (w := w) (base := base) T
 refine cal_of T.d_fraction sc_fraction (fun vs H Q E h => ?_) (fun f cdv A outer s H vs Q E hr h => ?_)
 ·obtain ⟨a, b, rfl, _⟩ := h
  rfl
 ·obtain ⟨a, b, rfl, hb, hf, k⟩ := h
  refine ⟨_, (pss_cons (ps_set (i := 2) sc_fraction.nd rfl (by first | exact Or.inl rfl | exact Or.inr rfl) (pe_cal c_greatest_divisor (hr.mono (by decide)) (pa_cons (pe_callB call_abs rfl T.b_abs (by decide +kernel) (pa_cons (pv 0) pa_nil)) (pa_cons (pv 1) pa_nil))))
   (pss_one (ps_ret (pe_lst (pa_cons (pe_op op_fdivB (pv 0) (pv 2)) (pa_cons (pe_op op_fdivB (pv 1) (pv 2)) pa_nil)))))), ?_⟩
  have hg : 0 < Nat.gcd a.natAbs b.natAbs := Nat.gcd_pos_of_pos_right _ (by omega)
  have hle : Nat.gcd a.natAbs b.natAbs ≤ b.natAbs := Nat.gcd_le_right _ (by omega)
  have hd : BDiv a ((Nat.gcd a.natAbs b.natAbs : Nat) : Int) := ⟨by omega, by
   unfold Few at hf ⊢
   refine Nat.lt_of_le_of_lt ?_ hf
   omega⟩
  refine ⟨_, rfl, a, rfl, _, rfl, a.natAbs, b.natAbs, ?_, _, rfl, _, rfl, _, _, rfl, rfl, hd, _, rfl, _, rfl, _, _, rfl, rfl, hd, (by show 2 ≤ sizeLine; decide), k⟩
  show [V.int _, V.int b] = _
  congr 1
  ·congr 1
   split <;> omega
  ·congr 2
   omega
def sp_are_within (K : PySem.W.Frag) : Sp := fun vs H Q _ => ∃ (a : Addr) (ns : List Int) (l m : Int), vs = [.ref a, .int l, .int m] ∧ LI K H a ns ∧ ns.length ≤ 16000 ∧
 ∀ H', Same H H' → Q (.bl (ns.all fun x => decide (l ≤ x) && decide (x ≤ m))) H'
theorem sc_are_within : FnScope ["numbers", "least", "most", "number"] ["numbers", "least", "most"] (defScope s_are_within) := ⟨rfl, rfl, rfl, by decide +kernel, rfl, by decide +kernel, by decide +kernel⟩
theorem c_are_within (T : Txt K mg) : Cal P w K mg base "are_within" 1 ["numbers", "least", "most"] (sp_are_within K) := by
 refine cal_of T.d_are_within sc_are_within (fun vs H Q E h => ?_) (fun f cdv A outer s H vs Q E hr h => ?_)
 ·obtain ⟨a, ns, l, m, rfl, _⟩ := h
  rfl
 ·obtain ⟨a, ns, l, m, rfl, ha, hz, k⟩ := h
  refine ⟨_, (pss_one (ps_ret (pe_callB (crAll (K := K) rfl rfl) rfl T.b_all (by decide +kernel) (pa_cons (pe_lc rfl sc_are_within.nd (piL (K := K) rfl (pv 0)) (blkOk_by (own := [("number", 3)]) rfl) (fun _ _ _ _ _ => (pg_name (i := 3) sc_are_within.nd rfl (by first | exact Or.inl rfl | exact Or.inr rfl))) (fun _ _ _ _ _ => pts_nil) (fun _ _ _ _ _ => (pe_chain op_le op_le (pv 1) (pv 3) (pv 2)))) pa_nil)))), ?_⟩
  refine ⟨_, rfl, a, rfl, ⟨_, ha⟩, fun D hD => ?_⟩
  refine lc_map (sq_ints ha) hD (fun x => .bl (decide (l ≤ x) && decide (x ≤ m))) (Nat.le_trans hz (by decide)) ?_ gm_name ?_
  ·rintro z _ x H' R s1 rfl kR
   refine ⟨rfl, _, rfl, _, rfl, _, _, rfl, rfl, _, rfl, ite2 (fun h1 => ?_) (fun h1 => ?_)⟩
   ·refine ⟨_, rfl, _, _, rfl, rfl, ?_⟩
    have := kR H' (Same.refl _)
    rwa [h1, Bool.true_and] at this
   ·have := kR H' (Same.refl _)
    have h1' : decide (l ≤ z) = false := by simpa using h1
    rwa [h1', Bool.false_and] at this
  ·intro H' s1 hD'
   refine ⟨D, ns.map fun x => decide (l ≤ x) && decide (x ≤ m), rfl, SqL.of ?_, ?_⟩
   ·rw [hD', List.map_map]
    rfl
   ·have := k H' s1
    rwa [List.all_map]
def sp_are_weights (K : PySem.W.Frag) : Sp := fun vs H Q _ => ∃ (a : Addr) (ns : List Int) (n : Nat), vs = [.ref a, .int n] ∧ LI K H a ns ∧ ns.length ≤ 16000 ∧ ∀ H', Same H H' → Q (.bl (areWeights n ns)) H'
theorem sc_are_weights : FnScope ["weights", "n"] ["weights", "n"] (defScope s_are_weights) := ⟨rfl, rfl, rfl, by decide +kernel, rfl, by decide +kernel, by decide +kernel⟩
theorem c_are_weights (T : Txt K mg) : Cal P w K mg base "are_weights" 2 ["weights", "n"] (sp_are_weights K) := by
 have c_are_within := c_are_within (P := P) (w := w) (base := base) T
 obtain ⟨t_MOST_WEIGHT, h_MOST_WEIGHT⟩ := T.k_MOST_WEIGHT
 refine cal_of T.d_are_weights sc_are_weights (fun vs H Q E h => ?_) (fun f cdv A outer s H vs Q E hr h => ?_)
 ·obtain ⟨a, ns, n, rfl, _⟩ := h
  rfl
 ·obtain ⟨a, ns, n, rfl, ha, hz, k⟩ := h
  refine ⟨_, (pss_one (ps_ret (pe_and (pe_cmpR op_eq (pe_callB (crLen (K := K) rfl) rfl T.b_len (by decide +kernel) (pa_cons (pv 0) pa_nil)) (pv 1) (nomark _)) (pe_and (pe_cal c_are_within (hr.mono (by decide)) (pa_cons (pv 0) (pa_cons pe_int (pa_cons (pe_globI h_MOST_WEIGHT) pa_nil)))) (pe_one (pe_cmpR op_gt (pe_callB (crSum (K := K) rfl rfl) rfl T.b_sum (by decide +kernel) (pa_cons (pv 0) pa_nil)) pe_int (nomark _))))))), ?_⟩
  refine ⟨_, rfl, a, _, rfl, ha, _, rfl, rfl, _, rfl, ite2 (fun h1 => ?_) (fun h1 => ?_)⟩
  ·have e1 : ns.length = n := by
    have := V.int.inj (of_decide_eq_true h1)
    rw [List.length_map] at this
    omega
   refine ⟨_, rfl, a, ns, 0, 1000, rfl, ha, hz, fun H1 s1 => ⟨_, rfl, ite2 (fun h2 => ?_) (fun h2 => ?_)⟩⟩
   ·refine ⟨_, rfl, a, ns, rfl, s1.seq ha, _, _, rfl, rfl, ?_⟩
    have := k H1 s1
    unfold areWeights at this
    rwa [decide_eq_true e1, h2, Bool.true_and, Bool.true_and] at this
   ·have := k H1 s1
    unfold areWeights at this
    have h2' : (ns.all fun x => decide (0 ≤ x) && decide (x ≤ 1000)) = false := by simpa using h2
    rwa [decide_eq_true e1, h2', Bool.true_and, Bool.false_and] at this
  ·have e1 : ¬ ns.length = n := by
    intro e
    apply h1
    rw [List.length_map, e]
    simp
   have := k H (Same.refl _)
   unfold areWeights at this
   rw [decide_eq_false e1, Bool.false_and] at this
   exact this
def areStrategies (n : Nat) (l : List Int) : Bool := decide (0 < l.length) && ((l.all fun x => decide (0 ≤ x) && decide (x ≤ (n : Int) - 1)) && ((List.range (l.length - 1)).all fun k => decide (l.getD k 0 < l.getD (k + 1) 0)))
def sp_are_strategies (K : PySem.W.Frag) : Sp := fun vs H Q _ => ∃ (a : Addr) (ns : List Int) (n : Nat), vs = [.ref a, .int n] ∧ LI K H a ns ∧ ns.length ≤ 16000 ∧ ∀ H', Same H H' → Q (.bl (areStrategies n ns)) H'
theorem sc_are_strategies : FnScope ["strategies", "n", "k"] ["strategies", "n"] (defScope s_are_strategies) := ⟨rfl, rfl, rfl, by decide +kernel, rfl, by decide +kernel, by decide +kernel⟩
theorem c_are_strategies (T : Txt K mg) : Cal P w K mg base "are_strategies" 2 ["strategies", "n"] (sp_are_strategies K) := by
 have c_are_within := c_are_within (P := P) (w := w) (base := base) T
 refine cal_of T.d_are_strategies sc_are_strategies (fun vs H Q E h => ?_) (fun f cdv A outer s H vs Q E hr h => ?_)
 ·obtain ⟨a, ns, n, rfl, _⟩ := h
  rfl
 ·obtain ⟨a, ns, n, rfl, ha, hz, k⟩ := h
  refine ⟨_, (pss_cons (ps_if (PW.pt (pw_or (pt_cmpR op_eq (pe_callB (crLen (K := K) rfl) rfl T.b_len (by decide +kernel) (pa_cons (pv 0) pa_nil)) pe_int (nomark _)) (pw_or1 (pt_not (pt_val (pe_cal c_are_within (hr.mono (by decide)) (pa_cons (pv 0) (pa_cons pe_int (pa_cons (pe_op op_sub (pv 1) pe_int) pa_nil))))))))) (pss_one (ps_ret pe_bl)) pss_nil)
   (pss_one (ps_ret (pe_callB (crAll (K := K) rfl rfl) rfl T.b_all (by decide +kernel) (pa_cons (pe_lc rfl sc_are_strategies.nd (pi_range2 rfl T.b_range (pa_cons pe_int (pa_cons (pe_callB (crLen (K := K) rfl) rfl T.b_len (by decide +kernel) (pa_cons (pv 0) pa_nil)) pa_nil))) (blkOk_by (own := [("k", 2)]) rfl) (fun _ _ _ _ _ => (pg_name (i := 2) sc_are_strategies.nd rfl (by first | exact Or.inl rfl | exact Or.inr rfl))) (fun _ _ _ _ _ => pts_nil) (fun _ _ _ _ _ => (pe_cmpR op_lt (pe_ix (ixL (K := K) rfl) (pv 0) (pe_op op_sub (pv 2) pe_int) (fun _ _ => rfl)) (pe_ix (ixL (K := K) rfl) (pv 0) (pv 2) (fun _ _ => rfl)) (nomark _)))) pa_nil))))), ?_⟩
  refine ⟨_, rfl, a, _, rfl, ha, rfl, _, rfl, ite2 (fun h1 => ?_) (fun h1 => ?_)⟩
  ·have e1 : ns.length = 0 := by
    have := V.int.inj (of_decide_eq_true h1)
    rw [List.length_map] at this
    omega
   refine iteT ?_
   have := k H (Same.refl _)
   unfold areStrategies at this
   rwa [decide_eq_false (by omega), Bool.false_and] at this
  ·have e1 : 0 < ns.length := by
    apply Nat.pos_of_ne_zero
    intro e
    apply h1
    rw [List.length_map, e]
    simp
   refine ⟨_, rfl, _, rfl, _, _, rfl, rfl, a, ns, 0, (n : Int) - 1, rfl, ha, hz, fun H1 s1 => ⟨_, rfl, ite2 (fun h2 => ?_) (fun h2 => ?_)⟩⟩
   ·have h2' : (ns.all fun x => decide (0 ≤ x) && decide (x ≤ (n : Int) - 1)) = false := by simpa using h2
    have := k H1 s1
    unfold areStrategies at this
    rwa [h2', Bool.false_and, Bool.and_false] at this
   ·have h2' : (ns.all fun x => decide (0 ≤ x) && decide (x ≤ (n : Int) - 1)) = true := by simpa using h2
    refine ⟨_, rfl, a, _, rfl, s1.seq ha, 1, _, rfl, ?_, fun D hD => ?_⟩
    ·rw [List.length_map]
     omega
    have el : (((ns.map V.int).length : Int) - 1).toNat = ns.length - 1 := by rw [List.length_map]; omega
    rw [el]
    refine lc_map sq_range hD (fun k => .bl (decide (ns.getD k 0 < ns.getD (k + 1) 0))) (by rw [List.length_range]; exact Nat.le_trans (Nat.le_trans (Nat.sub_le _ _) hz) (by decide)) ?_ gm_name ?_
    ·rintro i hi x H' R s2 rfl kR
     have hi' := List.mem_range.mp hi
     have hl := (s1.trans s2).seq ha
     refine ⟨rfl, _, rfl, _, rfl, _, _, rfl, rfl, a, _, _, _, rfl, rfl, hl, at_of (j := i) (by omega) (by rw [List.getElem?_map, List.getElem?_eq_getElem (show i < ns.length by omega)]; rfl), _, rfl, _, rfl, a, _, _, _, rfl, rfl, hl, at_of (j := i + 1) (by omega) (by rw [List.getElem?_map, List.getElem?_eq_getElem (show i + 1 < ns.length by omega)]; rfl), _, _, rfl, rfl, ?_⟩
     have := kR H' (Same.refl _)
     simp only [List.getD_eq_getElem?_getD, List.getElem?_eq_getElem (show i < ns.length by omega), List.getElem?_eq_getElem (show i + 1 < ns.length by omega), Option.getD_some] at this
     exact this
    ·intro H' s2 hD'
     refine ⟨D, (List.range (ns.length - 1)).map fun k => decide (ns.getD k 0 < ns.getD (k + 1) 0), rfl, SqL.of ?_, ?_⟩
     ·rw [hD', List.map_map]
      rfl
     ·have := k H' (s1.trans s2)
      unfold areStrategies at this
      rw [decide_eq_true e1, h2', Bool.true_and, Bool.true_and] at this
      rwa [List.all_map]
end
end Cw
end
section
set_option Elab.async false
set_option linter.all false
set_option maxRecDepth 100000
namespace Cw
open PySem PySem.Spec PyProof.Rows L2
def RetL (Q : VK) (H : Hp) (ns : List Int) : Prop := ∀ H' r, Same H H' → H r = none → H' r = some (.lst (ns.map V.int)) → Q (.ref r) H'
theorem zip_with {α β γ : Type} (f : α → β → γ) : ∀ (l : List α) (m : List β), List.zipWith f l m = (l.zip m).map fun p => f p.1 p.2
 | [], _ => by simp
 | _ :: _, [] => by simp
 | a :: l, b :: m => by simp [zip_with f l m]
theorem le_line {n : Nat} (h : n ≤ 1000) : n ≤ sizeLine := Nat.le_of_lt (small1000 h)
section
variable {P : Program} {w : World} {K : PySem.W.Frag} {mg : Str → Option Value} {base : Heap}
def sp_weighted_sum (K : PySem.W.Frag) : Sp := fun vs H Q _ => ∃ (a b : Addr) (xs ys : List Int), vs = [.ref a, .ref b] ∧ LI K H a xs ∧ LI K H b ys ∧ (∀ x ∈ xs, Few 8000 x) ∧ (∀ y ∈ ys, Few 8000 y) ∧ xs.length ≤ 1000 ∧ ∀ H', Same H H' → Q (.int (wsum xs ys)) H'
theorem sc_weighted_sum : FnScope ["numbers", "weights", "number", "weight"] ["numbers", "weights"] (defScope s_weighted_sum) := ⟨rfl, rfl, rfl, by decide +kernel, rfl, by decide +kernel, by decide +kernel⟩
theorem c_weighted_sum (T : Txt K mg) : Cal P w K mg base "weighted_sum" 1 ["numbers", "weights"] (sp_weighted_sum K) := by
 refine cal_of T.d_weighted_sum sc_weighted_sum (fun vs H Q E h => ?_) (fun f cdv A outer s H vs Q E hr h => ?_)
 ·obtain ⟨a, b, xs, ys, rfl, _⟩ := h
  rfl
 ·obtain ⟨a, b, xs, ys, rfl, ha, hb, hx, hy, hl, k⟩ := h
  refine ⟨_, (pss_one (ps_ret (pe_callB (crSum (K := K) rfl rfl) rfl T.b_sum (by decide +kernel) (pa_cons (pe_lc rfl sc_weighted_sum.nd (piZ (K := K) rfl T.b_zip (pa_cons (pv 0) (pa_cons (pv 1) pa_nil))) (blkOk_by (own := [("number", 2), ("weight", 3)]) rfl) (fun _ _ _ _ _ => (pgT (K := K) (n := 2) rfl rfl (pgs_cons (pg_name (i := 2) sc_weighted_sum.nd rfl (by first | exact Or.inl rfl | exact Or.inr rfl)) (pgs_cons (pg_name (i := 3) sc_weighted_sum.nd rfl (by first | exact Or.inl rfl | exact Or.inr rfl)) pgs_nil)))) (fun _ _ _ _ _ => pts_nil) (fun _ _ _ _ _ => (pe_op op_mulB (pv 2) (pv 3)))) pa_nil)))), ?_⟩
  refine ⟨_, rfl, _, rfl, a, b, _, _, rfl, ha, hb, fun D hD => ?_⟩
  refine lc_map (sq_zipI ha hb) hD (fun p => .int (p.1 * p.2)) (Nat.le_trans (by rw [List.length_zip]; exact Nat.min_le_left _ _) (le_line hl)) ?_ gm_pair ?_
  ·rintro ⟨x, y⟩ hp _ H' R s1 ⟨t, rfl, ht⟩ kR
   have hm := List.of_mem_zip hp
   exact ⟨t, _, rfl, SqT.of ht, rfl, _, _, rfl, _, _, rfl, rfl, rfl, _, rfl, _, rfl, _, _, rfl, rfl, ⟨hx x hm.1, hy y hm.2⟩, kR H' (Same.refl _)⟩
  ·intro H' s1 hD'
   refine ⟨D, (xs.zip ys).map fun p => p.1 * p.2, rfl, SqL.of ?_, ?_⟩
   ·rw [hD', List.map_map]
    rfl
   ·have := k H' s1
    unfold wsum at this
    rwa [zip_with] at this
def sp_won_against (K : PySem.W.Frag) : Sp := fun vs H Q _ => ∃ (a b : Addr) (W : List (List Int)) (ys : List Int), vs = [.ref a, .ref b] ∧ LL K H a W ∧ LI K H b ys ∧ (∀ r ∈ W, r.length ≤ 1000 ∧ ∀ x ∈ r, Few 8000 x) ∧ (∀ y ∈ ys, Few 8000 y) ∧ W.length ≤ 1000 ∧ RetL Q H (wonM W ys)
theorem sc_won_against : FnScope ["wins", "weights", "row"] ["wins", "weights"] (defScope s_won_against) := ⟨rfl, rfl, rfl, by decide +kernel, rfl, by decide +kernel, by decide +kernel⟩
theorem c_won_against (T : Txt K mg) : Cal P w K mg base "won_against" 2 ["wins", "weights"] (sp_won_against K) := by
 have c_weighted_sum := c_weighted_sum (P := P) (w := w) (base := base) T
 refine cal_of T.d_won_against sc_won_against (fun vs H Q E h => ?_) (fun f cdv A outer s H vs Q E hr h => ?_)
 ·obtain ⟨a, b, W, ys, rfl, _⟩ := h
  rfl
 ·obtain ⟨a, b, W, ys, rfl, ha, hb, hx, hy, hl, k⟩ := h
  refine ⟨_, (pss_one (ps_ret (pe_lc rfl sc_won_against.nd (piL (K := K) rfl (pv 0)) (blkOk_by (own := [("row", 2)]) rfl) (fun _ _ _ _ _ => (pg_name (i := 2) sc_won_against.nd rfl (by first | exact Or.inl rfl | exact Or.inr rfl))) (fun _ _ _ _ _ => pts_nil) (fun _ _ _ _ _ => (pe_cal c_weighted_sum (hr.mono (by decide)) (pa_cons (pv 2) (pa_cons (pv 1) pa_nil))))))), ?_⟩
  obtain ⟨xs, hxs, _⟩ := ha.ex
  refine ⟨_, rfl, a, rfl, ⟨_, hxs⟩, fun D hD => ?_⟩
  refine lc_map ha.sq hD (fun r => .int (wsum r ys)) (le_line hl) ?_ gm_name ?_
  ·rintro r hr2 _ H' R s1 ⟨q, rfl, hq⟩ kR
   exact ⟨rfl, _, rfl, _, rfl, q, b, r, ys, rfl, hq, s1.seq hb, (hx r hr2).2, hy, (hx r hr2).1, fun H2 s2 => kR H2 s2⟩
  ·intro H' s1 hD'
   refine k H' D s1 hD ?_
   rw [hD', wonM, List.map_map]
   rfl
end
end Cw
end
section
set_option Elab.async false
set_option linter.all false
set_option maxRecDepth 100000
namespace Cw
open PySem PySem.Spec PyProof.Rows L2
theorem ints_of {ns : List Int} {i : Nat} {y : V} (h : (ns.map V.int)[i]? = some y) : ∃ z, ns[i]? = some z ∧ y = V.int z := by
 rw [List.getElem?_map] at h
 cases e : ns[i]? with
 | none => rw [e] at h; cases h
 | some z => rw [e] at h; exact ⟨z, rfl, (Option.some.inj h).symm⟩
theorem take_snoc {α : Type} {l : List α} {i : Nat} {x : α} (h : l[i]? = some x) : l.take (i + 1) = l.take i ++ [x] := by
 rw [List.take_add_one, h]; rfl
theorem few_mono {n m : Nat} {x : Int} (h : Few n x) (hm : n ≤ m) : Few m x := Nat.lt_of_lt_of_le h (Nat.pow_le_pow_right (by decide) hm)
theorem few_mul {n m : Nat} {x y : Int} (h : Few n x) (g : Few m y) : Few (n + m) (x * y) := by
 unfold Few at *
 rw [Int.natAbs_mul, Nat.pow_add]
 exact Nat.mul_lt_mul'' h g
theorem few_add {n : Nat} {x y : Int} (h : Few n x) (g : Few n y) : Few (n + 1) (x + y) := by
 unfold Few at *
 rw [Nat.pow_succ]
 omega
theorem few_sub {n : Nat} {x y : Int} (h : Few n x) (g : Few n y) : Few (n + 1) (x - y) := by
 unfold Few at *
 rw [Nat.pow_succ]
 omega
theorem few_fdiv {n : Nat} {x y : Int} (h : Few n x) : Few n (x.fdiv y) := Nat.lt_of_le_of_lt (Int.natAbs_fdiv_le_natAbs x y) h
theorem few_sum {n : Nat} : ∀ (l : List Int), (∀ x ∈ l, Few n x) → l.sum.natAbs ≤ l.length * (2 ^ n - 1)
 | [], _ => by simp
 | x :: l, h => by
  have h1 := few_sum l fun y hy => h y (List.Mem.tail _ hy)
  have h2 : x.natAbs < 2 ^ n := h x (List.Mem.head _)
  rw [List.sum_cons, List.length_cons, Nat.succ_mul]
  omega
theorem few_sumk {n k : Nat} {l : List Int} (h : ∀ x ∈ l, Few n x) (hk : l.length ≤ 2 ^ k) : Few (n + k) l.sum := by
 have h1 := few_sum l h
 unfold Few
 have h2 : l.length * (2 ^ n - 1) ≤ 2 ^ k * (2 ^ n - 1) := Nat.mul_le_mul_right _ hk
 have h3 : 2 ^ k * (2 ^ n - 1) < 2 ^ (n + k) := by
  rw [Nat.pow_add, Nat.mul_comm (2 ^ n)]
  exact Nat.mul_lt_mul_of_pos_left (by have := Nat.two_pow_pos n; omega) (Nat.two_pow_pos k)
 omega
theorem few_wsum {n m k : Nat} {a b : List Int} (ha : ∀ x ∈ a, Few n x) (hb : ∀ x ∈ b, Few m x) (hk : a.length ≤ 2 ^ k) : Few (n + m + k) (wsum a b) := by
 unfold wsum
 refine few_sumk (fun x hx => ?_) (by rw [List.length_zipWith]; exact Nat.le_trans (Nat.min_le_left _ _) hk)
 rw [zip_with] at hx
 obtain ⟨p, hp, rfl⟩ := List.mem_map.mp hx
 have := List.of_mem_zip hp
 exact few_mul (ha _ this.1) (hb _ this.2)
theorem few_zero {n : Nat} : Few n 0 := by unfold Few; exact Nat.two_pow_pos n
theorem few_lit {n : Nat} {x : Int} (k : Nat) (h : x.natAbs < 2 ^ k) (hk : k ≤ n) : Few n x := few_mono (n := k) h hk
theorem few_getD {n : Nat} {l : List Int} (h : ∀ x ∈ l, Few n x) (i : Nat) : Few n (l.getD i 0) := by
 by_cases hi : i < l.length
 ·exact h _ (getD_mem 0 hi)
 ·rw [List.getD_eq_getElem?_getD, List.getElem?_eq_none (by omega)]
  exact few_zero
theorem decV {a b : Int} (h : decide (V.int a = V.int b) = true) : decide (a = b) = true := decide_eq_true (V.int.inj (of_decide_eq_true h))
theorem decVn {a b : Int} (h : ¬ decide (V.int a = V.int b) = true) : decide (a = b) = false := by
 apply decide_eq_false
 intro e
 apply h
 rw [e]
 simp
def maxL (l : List Int) : Int := l.foldl max (l.headD 0)
theorem max_go : ∀ (l : List Int) (a : Int), a ≤ l.foldl max a ∧ (∀ y ∈ l, y ≤ l.foldl max a) ∧ (l.foldl max a = a ∨ l.foldl max a ∈ l)
 | [], a => ⟨Int.le_refl _, by simp, .inl rfl⟩
 | x :: l, a => by
  obtain ⟨h1, h2, h3⟩ := max_go l (max a x)
  refine ⟨by simp only [List.foldl_cons]; omega, fun y hy => ?_, ?_⟩
  ·rcases List.mem_cons.mp hy with rfl | hy
   ·simp only [List.foldl_cons]; omega
   ·exact h2 y hy
  ·simp only [List.foldl_cons]
   rcases h3 with h3 | h3
   ·by_cases h : x ≤ a
    ·left; rw [h3]; omega
    ·right; rw [h3]; rw [show max a x = x by omega]; exact List.Mem.head _
   ·exact .inr (List.Mem.tail _ h3)
theorem maxL_mem {l : List Int} (h : 0 < l.length) : maxL l ∈ l := by
 unfold maxL
 rcases (max_go l (l.headD 0)).2.2 with e | e
 ·rw [e]
  cases l with
  | nil => simp at h
  | cons x l => exact List.Mem.head _
 ·exact e
theorem maxL_le {l : List Int} : ∀ y ∈ l, y ≤ maxL l := (max_go l (l.headD 0)).2.1
theorem maxL_eq {l : List Int} {m : Int} (h1 : m ∈ l) (h2 : ∀ y ∈ l, y ≤ m) : maxL l = m := by
 have a := maxL_le m h1
 have b := h2 _ (maxL_mem (List.length_pos_of_mem h1))
 omega
def bestP (W : List (List Int)) (w : List Int) : List Nat := bestM W w (maxL (wonM W w))
abbrev nI (l : List Nat) : List Int := l.map fun (i : Nat) => (i : Int)
theorem sq_enumI {K : PySem.W.Frag} {H1 : Hp} {a : Addr} {xs : List Int} (ha : LI K H1 a xs) : Sq (Ite K a) H1 ((List.range xs.length).zip xs) (fun p x H => ∃ T, x = .ref T ∧ H T = some (.tup [.int (p.1 : Nat), .int p.2])) where
 go := fun i H s hi => (sq_enum ha).go i H s (by simpa using hi)
 stop := fun H s => by
  have := (sq_enum ha).stop H s
  simpa using this
 yld := fun i H x H' p s hp y => (sq_enum ha).yld i H x H' (p.1, .int p.2) s (by
  have q := List.getElem?_zip_eq_some.mp hp
  rw [List.getElem?_zip_eq_some, List.length_map, List.getElem?_map, q.2]
  exact ⟨q.1, rfl⟩) y
theorem enum_filter (ns : List Int) (p : Int → Bool) : ((List.range ns.length).zip ns).filter (fun q => p q.2) = ((List.range ns.length).filter fun i => p (ns.getD i 0)).map fun i => (i, ns.getD i 0) := by
 have e : (List.range ns.length).zip ns = (List.range ns.length).map fun i => (i, ns.getD i 0) := by
  apply List.ext_getElem?
  intro i
  by_cases hi : i < ns.length
  ·have h1 : (List.range ns.length)[i]? = some i := List.getElem?_range hi
   have h2 : ((List.range ns.length).zip ns)[i]? = some (i, ns.getD i 0) := List.getElem?_zip_eq_some.mpr ⟨h1, by rw [List.getD_eq_getElem?_getD, List.getElem?_eq_getElem hi]; rfl⟩
   rw [h2, List.getElem?_map, h1]
   rfl
  ·rw [List.getElem?_eq_none (by simp; omega), List.getElem?_eq_none (by simp; omega)]
 rw [e, List.filter_map]
 rfl
section
variable {P : Program} {w : World} {K : PySem.W.Frag} {mg : Str → Option Value} {base : Heap}
structure Mat (n b : Nat) (W : List (List Int)) : Prop where
 len : W.length ≤ n
 row : ∀ r ∈ W, r.length ≤ n
 few : ∀ r ∈ W, ∀ x ∈ r, Few b x
def sp_best_replies (K : PySem.W.Frag) : Sp := fun vs H Q _ => ∃ (a b : Addr) (W : List (List Int)) (ys : List Int), vs = [.ref a, .ref b] ∧ LL K H a W ∧ LI K H b ys ∧ Mat 1000 8000 W ∧ (∀ y ∈ ys, Few 8000 y) ∧ RetL Q H (nI (bestP W ys))
theorem sc_best_replies : FnScope ["wins", "weights", "won", "i", "number"] ["wins", "weights"] (defScope s_best_replies) := ⟨rfl, rfl, rfl, by decide +kernel, rfl, by decide +kernel, by decide +kernel⟩
theorem c_best_replies (T : Txt K mg) : Cal P w K mg base "best_replies" 3 ["wins", "weights"] (sp_best_replies K) := by
 have c_won_against := c_won_against (P := P) (w := w) (base := base) T
 refine cal_of T.d_best_replies sc_best_replies (fun vs H Q E h => ?_) (fun f cdv A outer s H vs Q E hr h => ?_)
 ·obtain ⟨a, b, W, ys, rfl, _⟩ := h
  rfl
 ·obtain ⟨a, b, W, ys, rfl, ha, hb, hW, hy, k⟩ := h
  refine ⟨_, (pss_cons (ps_set (i := 2) sc_best_replies.nd rfl (by first | exact Or.inl rfl | exact Or.inr rfl) (pe_cal c_won_against (hr.mono (by decide)) (pa_cons (pv 0) (pa_cons (pv 1) pa_nil))))
   (pss_one (ps_ret (pe_lc rfl sc_best_replies.nd (piE (K := K) rfl T.b_enumerate (pa_cons (pv 2) pa_nil)) (blkOk_by (own := [("i", 3), ("number", 4)]) rfl) (fun _ _ _ _ _ => (pgT (K := K) (n := 2) rfl rfl (pgs_cons (pg_name (i := 3) sc_best_replies.nd rfl (by first | exact Or.inl rfl | exact Or.inr rfl)) (pgs_cons (pg_name (i := 4) sc_best_replies.nd rfl (by first | exact Or.inl rfl | exact Or.inr rfl)) pgs_nil)))) (fun _ _ _ _ _ => (pts_one (pt_cmpR op_eq (pv 4) (pe_callB (crMax (K := K) rfl rfl) rfl T.b_max (by decide +kernel) (pa_cons (pv 2) pa_nil)) (nomark _)))) (fun _ _ _ _ _ => (pv 3)))))), ?_⟩
  refine ⟨_, rfl, _, rfl, a, b, W, ys, rfl, ha, hb, fun r hr2 => ⟨hW.row r hr2, hW.few r hr2⟩, hy, hW.len, fun H1 c s1 hc0 hc => ?_⟩
  have hlen : (wonM W ys).length = W.length := by rw [wonM, List.length_map]
  refine ⟨_, rfl, c, _, rfl, SqL.of hc, fun D hD => ?_⟩
  refine lc_vals (sq_enumI (SqL.of hc)) hD (fun p => decide (p.2 = maxL (wonM W ys))) (fun p => .int (p.1 : Nat)) ?_ ?_ ?_
  ·rw [List.length_zip, List.length_range, Nat.min_self, hlen]
   exact le_line hW.len
  ·rintro ⟨i, z⟩ hp _ H' R N s2 ⟨t, rfl, ht⟩ kR kN
   have hz : z ∈ wonM W ys := (List.of_mem_zip hp).2
   refine ⟨t, _, rfl, SqT.of ht, rfl, _, _, rfl, _, _, rfl, rfl, rfl, _, rfl, _, rfl, c, wonM W ys, rfl, s2.seq (SqL.of hc), List.length_pos_of_mem hz, fun m hm hu => ?_⟩
   have em := maxL_eq hm hu
   refine ⟨rfl, _, rfl, ite2 (fun h1 => ⟨_, rfl, kR ?_ H' (Same.refl _)⟩) (fun h1 => kN ?_ H' (Same.refl _))⟩
   ·rw [em]; exact decV h1
   ·rw [em]; exact decVn h1
  ·intro H2 s2 hD'
   refine k H2 D (s1.trans s2) (s1.free hD) ?_
   rw [hD', enum_filter (wonM W ys) fun z => decide (z = maxL (wonM W ys)), List.map_map, List.map_map]
   unfold bestP bestM
   rw [hlen]
   rfl
def mixI (ws : List Int) : List Int := ws.flatMap fun x => frI x ws.sum
def sp_mixture (K : PySem.W.Frag) : Sp := fun vs H Q _ => ∃ (a : Addr) (ws : List Int), vs = [.ref a] ∧ LI K H a ws ∧ 0 < ws.sum ∧ Few 8000 ws.sum ∧ ws.length ≤ 1000 ∧ RetL Q H (mixI ws)
theorem sc_mixture : FnScope ["weights", "told", "weight"] ["weights"] (defScope s_mixture) := ⟨rfl, rfl, rfl, by decide +kernel, rfl, by decide +kernel, by decide +kernel⟩
theorem c_mixture (T : Txt K mg) : Cal P w K mg base "mixture" 3 ["weights"] (sp_mixture K) := by
 have c_fraction := c_fraction (P := P) (w := w) (base := base) T
 refine cal_of T.d_mixture sc_mixture (fun vs H Q E h => ?_) (fun f cdv A outer s H vs Q E hr h => ?_)
 ·obtain ⟨a, ws, rfl, _⟩ := h
  rfl
 ·obtain ⟨a, ws, rfl, ha, hp, hf, hl, k⟩ := h
  refine ⟨_, (pss_cons (ps_set (i := 1) sc_mixture.nd rfl (by first | exact Or.inl rfl | exact Or.inr rfl) (pe_lst pa_nil))
   (pss_cons (ps_for PassesOwn.never rfl (piL (K := K) rfl (pv 0)) (pg_name (i := 2) sc_mixture.nd rfl (by first | exact Or.inl rfl | exact Or.inr rfl)) (pss_one (ps_expr (pe_bm PySem.F.plainAttrs_list PySem.F.slot_list_extend PySem.F.type_list_extend mt_extend (pv 1) (pa_cons (pe_cal c_fraction (hr.mono (by decide)) (pa_cons (pv 2) (pa_cons (pe_callB (crSum (K := K) rfl rfl) rfl T.b_sum (by decide +kernel) (pa_cons (pv 0) pa_nil)) pa_nil))) pa_nil)))))
   (pss_one (ps_ret (pv 1))))), ?_⟩
  refine ⟨Nat.zero_le _, fun l hl0 => ?_⟩
  have s0 : Same H (upd H l (.lst [])) := same_upd hl0
  refine ⟨_, rfl, a, rfl, ⟨_, s0.seq ha⟩, for_list (K := K) (a := a) (xs := ws.map V.int) (fun i σ H' => ∃ v : Option V, σ = [some (.ref a), some (.ref l), v] ∧ Same H H' ∧ H' l = some (.lst (((ws.take i).flatMap fun x => frI x ws.sum).map V.int)))
   ⟨none, rfl, s0, upd_same⟩ (fun i σ H' _ ⟨_, _, s5, _⟩ => s5.seq ha) ?_ ?_⟩
  ·rintro i y σ H' hi ⟨v, rfl, s5, hl5⟩
   obtain ⟨z, hz, rfl⟩ := ints_of hi
   refine ⟨_, rfl, .inl ⟨rfl, _, SqL.of hl5⟩, _, rfl, _, rfl, a, ws, rfl, s5.seq ha, z, ws.sum, rfl, hp, hf, fun r hr5 => ⟨l, r, _, _, rfl, rfl, same_upd hr5 _ _ hl5, upd_same, ?_, ?_⟩⟩
   ·have h2 : (((ws.take i).flatMap fun x => frI x ws.sum)).length ≤ 2 * (ws.take i).length := by
     generalize ws.take i = t
     induction t with
     | nil => simp
     | cons x t ih => rw [List.flatMap_cons, List.length_append, List.length_cons]; have : (frI x ws.sum).length = 2 := rfl; omega
    have h3 : (ws.take i).length ≤ 1000 := by rw [List.length_take]; omega
    rw [List.length_map, List.length_map]
    have : (frI z ws.sum).length = 2 := rfl
    have : (2500 : Nat) ≤ sizeLine := by decide
    omega
   ·refine ⟨some (.int z), rfl, ?_, ?_⟩
    ·exact same_upd' (same_upd' s5 (s5.free hr5)) hl0
    ·rw [upd_same, take_snoc hz, List.flatMap_append, List.map_append]
     simp
  ·rintro σ H' ⟨v, rfl, s5, hl5⟩
   refine ⟨_, rfl, k H' l s5 hl0 ?_⟩
   rw [hl5, List.length_map, List.take_length]
   rfl
end
end Cw
end
section
set_option Elab.async false
set_option linter.all false
set_option maxRecDepth 100000
namespace Cw
open PySem PySem.Spec PyProof.Rows L2
def LO (H : Hp) (a : Addr) (W : List (List Int)) : Prop := ∃ rs : List Addr, H a = some (.lst (rs.map V.ref)) ∧ Paired (fun w r => H r = some (.lst (w.map V.int))) W rs
theorem LO.ll {K : PySem.W.Frag} {H : Hp} {a : Addr} {W : List (List Int)} (h : LO H a W) : LL K H a W := by
 obtain ⟨rs, h1, h2⟩ := h
 exact ⟨rs, SqL.of h1, pmap (fun _ _ q => SqL.of q) h2⟩
theorem LO.same {H H' : Hp} {a : Addr} {W : List (List Int)} (s : Same H H') (h : LO H a W) : LO H' a W := by
 obtain ⟨rs, h1, h2⟩ := h
 exact ⟨rs, s _ _ h1, pmap (fun _ _ q => s _ _ q) h2⟩
theorem p_erase {α β : Type} {F : α → β → Prop} : ∀ {l1 : List α} {l2 : List β} (k : Nat), Paired F l1 l2 → Paired F (l1.eraseIdx k) (l2.eraseIdx k)
 | _, _, _, .nil => .nil
 | _, _, 0, .cons h t => t
 | _, _, k + 1, .cons h t => .cons h (p_erase k t)
theorem p_ins {α β : Type} {F : α → β → Prop} {a : α} {b : β} (h : F a b) : ∀ {l1 : List α} {l2 : List β} (k : Nat), k ≤ l1.length → Paired F l1 l2 → Paired F (l1.insertIdx k a) (l2.take k ++ b :: l2.drop k)
 | _, _, 0, _, t => by simpa using Paired.cons h t
 | _, _, k + 1, hk, .nil => by simp at hk
 | _, _, k + 1, hk, .cons h2 t => by
  have := p_ins h k (by simpa using hk) t
  simpa using Paired.cons h2 this
theorem p_get {α β : Type} {F : α → β → Prop} {l1 : List α} {l2 : List β} (t : Paired F l1 l2) (d : α) {k : Nat} (hk : k < l1.length) : ∃ b, l2[k]? = some b ∧ F (l1.getD k d) b := by
 obtain ⟨b, h1, h2⟩ := paired_at t k l1[k] (List.getElem?_eq_getElem hk)
 refine ⟨b, h1, ?_⟩
 rw [List.getD_eq_getElem?_getD, List.getElem?_eq_getElem hk]
 exact h2
theorem usable_range (c m : Nat) (p : Nat → Bool) : (((List.range m).filter fun k => p (c + k)).map fun k => c + k) = (List.range' c m).filter p := by
 rw [List.range'_eq_map_range, List.filter_map]
 rfl
def grB (B : Nat) : Nat → Nat
 | 0 => B
 | c + 1 => 2 * grB B c + 1
theorem grB_le {i : Nat} (h : i ≤ 5) : grB 200 i ≤ 8000 := by
 have : i = 0 ∨ i = 1 ∨ i = 2 ∨ i = 3 ∨ i = 4 ∨ i = 5 := by omega
 rcases this with rfl | rfl | rfl | rfl | rfl | rfl <;> decide
theorem clear_few {b c : Nat} {pivot row : List Int} {d : Int} (hp : ∀ x ∈ pivot, Few b x) (hr : ∀ x ∈ row, Few b x) : ∀ x ∈ clearI pivot c d row, Few (2 * b + 1) x := by
 intro x hx
 rw [clearI, zip_with] at hx
 obtain ⟨q, hq, rfl⟩ := List.mem_map.mp hx
 have := List.of_mem_zip hq
 refine few_fdiv (few_sub (n := 2 * b) ?_ ?_)
 ·have := few_mul (few_getD hp c) (hr _ this.1)
  exact few_mono this (by omega)
 ·have := few_mul (few_getD hr c) (hp _ this.2)
  exact few_mono this (by omega)
theorem mem_insertIdx' {α : Type} {l : List α} {k : Nat} {a x : α} (h : x ∈ l.insertIdx k a) : x = a ∨ x ∈ l := by
 induction l generalizing k with
 | nil => cases k with
  | zero => simp at h; exact .inl h
  | succ k => simp at h
 | cons y l ih => cases k with
  | zero => simpa using h
  | succ k =>
   rw [List.insertIdx_succ_cons] at h
   rcases List.mem_cons.mp h with h | h
   ·exact .inr (by rw [h]; exact List.Mem.head _)
   ·rcases ih h with h | h
    ·exact .inl h
    ·exact .inr (List.Mem.tail _ h)
structure Elim (n b : Nat) (before : Int) (rows : List (List Int)) : Prop where
 len : rows.length = n
 row : ∀ r ∈ rows, r.length = n + 1
 few : ∀ r ∈ rows, ∀ x ∈ r, Few b x
 nz : before ≠ 0
 fb : Few b before
theorem Elim.turn {n b : Nat} {before : Int} {rows : List (List Int)} (E : Elim n b before rows) {c k : Nat} (hc : c < n) (hk : k < n) (hp : (rows.getD k []).getD c 0 ≠ 0) :
  Elim n (2 * b + 1) ((rows.getD k []).getD c 0) (((rows.eraseIdx k).map (clearI (rows.getD k []) c before)).insertIdx c (rows.getD k [])) := by
 have hm : rows.getD k [] ∈ rows := getD_mem [] (by rw [E.len]; exact hk)
 refine ⟨?_, ?_, ?_, hp, ?_⟩
 ·rw [List.length_insertIdx, List.length_map, List.length_eraseIdx, E.len, if_pos hk, if_pos (by omega)]
  omega
 ·intro r hr
  rcases mem_insertIdx' hr with rfl | hr
  ·exact E.row _ hm
  ·obtain ⟨q, hq, rfl⟩ := List.mem_map.mp hr
   exact clearI_len _ _ _ _ _ (E.row _ hm) (E.row _ (List.mem_of_mem_eraseIdx hq))
 ·intro r hr
  rcases mem_insertIdx' hr with rfl | hr
  ·exact fun x hx => few_mono (E.few _ hm x hx) (by omega)
  ·obtain ⟨q, hq, rfl⟩ := List.mem_map.mp hr
   exact clear_few (E.few _ hm) (E.few _ (List.mem_of_mem_eraseIdx hq))
 ·exact few_mono (few_getD (E.few _ hm) c) (by omega)
theorem usable_head {c n k : Nat} {rows : List (List Int)} {l : List Nat} (hl : rows.length = n) (h : usableI c rows = k :: l) : c ≤ k ∧ k < n ∧ (rows.getD k []).getD c 0 ≠ 0 := by
 have hm : k ∈ usableI c rows := by rw [h]; exact List.Mem.head _
 unfold usableI at hm
 obtain ⟨h1, h2⟩ := List.mem_filter.mp hm
 have h3 := List.mem_range'_1.mp h1
 exact ⟨h3.1, by omega, of_decide_eq_true h2⟩
theorem solveGo_few (f : Nat) : ∀ {n b c : Nat} {before : Int} {rows rows' : List (List Int)} {before' : Int}, Elim n b before rows → c + f ≤ n → solveGo f c before rows = some (rows', before') → Elim n (grB b f) before' rows' := by
 induction f with
 | zero =>
  intro n b c before rows rows' before' E _ h
  have := Option.some.inj h
  cases this
  exact E
 | succ f ih =>
  intro n b c before rows rows' before' E hcf h
  unfold solveGo at h
  cases e : usableI c rows with
  | nil => rw [e] at h; cases h
  | cons k l =>
   rw [e] at h
   dsimp only at h
   obtain ⟨h1, h2, h3⟩ := usable_head E.len e
   have := ih (E.turn (by omega) h2 h3) (by omega) h
   have e2 : grB (2 * b + 1) f = grB b (f + 1) := by
    clear this ih h h1 h2 h3 e E hcf
    induction f with
    | zero => rfl
    | succ f ih => unfold grB; rw [ih]
   rwa [e2] at this
theorem solveI_few {n : Nat} {rows : List (List Int)} {sol : List Int} (hn : n ≤ 5) (hl : rows.length = n) (hr : ∀ r ∈ rows, r.length = n + 1) (hf : ∀ r ∈ rows, ∀ x ∈ r, Few 200 x) (h : solveI n rows = some sol) : ∀ x ∈ sol, Few 6500 x := by
 unfold solveI at h
 cases e : solveGo n 0 1 rows with
 | none => rw [e] at h; cases h
 | some q =>
  obtain ⟨rows', b'⟩ := q
  rw [e] at h
  have E := solveGo_few n (n := n) (b := 200) ⟨hl, hr, hf, by decide, few_lit 1 (by decide) (by decide)⟩ (by omega) e
  have hs := Option.some.inj h
  subst hs
  intro x hx
  obtain ⟨r, hr2, rfl⟩ := List.mem_map.mp hx
  have h1 := few_getD (E.few r hr2) n
  have h2 : grB 200 n ≤ 6450 := by
   have : n = 0 ∨ n = 1 ∨ n = 2 ∨ n = 3 ∨ n = 4 ∨ n = 5 := by omega
   rcases this with rfl | rfl | rfl | rfl | rfl | rfl <;> decide
  have h3 : Few 1 (signI b') := by
   unfold signI Few
   split <;> decide
  exact few_mono (few_mul h3 h1) (by omega)
theorem seqIx {k n : Nat} (h : k < n) : seqIndex? (k : Int) n = some k := by
 have := seqIndex_of (k := (k : Int)) (n := n) (by omega) (by omega)
 rw [this]
 rfl
theorem p_map {α β γ : Type} {F : γ → β → Prop} {g : α → γ} : ∀ {l1 : List α} {l2 : List β}, Paired (fun a b => F (g a) b) l1 l2 → Paired F (l1.map g) l2
 | _, _, .nil => .nil
 | _, _, .cons h t => .cons h (p_map t)
theorem p_mem {α β : Type} {F : α → β → Prop} {G : β → Prop} : ∀ {l1 : List α} {l2 : List β}, Paired F l1 l2 → (∀ b ∈ l2, G b) → Paired (fun a b => F a b ∧ G b) l1 l2
 | _, _, .nil, _ => .nil
 | _, _, .cons h t, g => .cons ⟨h, g _ (List.Mem.head _)⟩ (p_mem t fun b hb => g b (List.Mem.tail _ hb))
theorem last_at {r : List Int} {n : Nat} (h : r.length = n + 1) : atI (r.map V.int) (-1) = some (.int (r.getD n 0)) := by
 have e : r = r.take n ++ [r.getD n 0] := by
  have h1 : r[n]? = some (r.getD n 0) := by
   rw [List.getD_eq_getElem?_getD, List.getElem?_eq_getElem (show n < r.length by omega)]; rfl
  rw [← take_snoc h1, List.take_of_length_le (by omega)]
 conv => lhs; rw [e, List.map_append]
 exact atI_last _ _
section
variable {P : Program} {w : World} {K : PySem.W.Frag} {mg : Str → Option Value} {base : Heap}
def sp_cleared (K : PySem.W.Frag) : Sp := fun vs H Q _ => ∃ (a b : Addr) (row pivot : List Int) (c : Nat) (d : Int), vs = [.ref a, .ref b, .int c, .int d] ∧ LI K H a row ∧ LI K H b pivot ∧ c < row.length ∧ c < pivot.length ∧ row.length ≤ 1000 ∧
 (∀ x ∈ row, Few 8000 x) ∧ (∀ x ∈ pivot, Few 8000 x) ∧ d ≠ 0 ∧ Few 8000 d ∧ RetL Q H (clearI pivot c d row)
theorem sc_cleared : FnScope ["row", "pivot", "column", "before", "mine", "its"] ["row", "pivot", "column", "before"] (defScope s_cleared) := ⟨rfl, rfl, rfl, by decide +kernel, rfl, by decide +kernel, by decide +kernel⟩
theorem c_cleared (T : Txt K mg) : Cal P w K mg base "cleared" 1 ["row", "pivot", "column", "before"] (sp_cleared K) := by
 refine cal_of T.d_cleared sc_cleared (fun vs H Q E h => ?_) (fun f cdv A outer s H vs Q E hr h => ?_)
 ·obtain ⟨a, b, row, pivot, c, d, rfl, _⟩ := h
  rfl
 ·obtain ⟨a, b, row, pivot, c, d, rfl, ha, hb, hc1, hc2, hl, fr, fp, hd, fd, k⟩ := h
  refine ⟨_, (pss_one (ps_ret (pe_lc rfl sc_cleared.nd (piZ (K := K) rfl T.b_zip (pa_cons (pv 0) (pa_cons (pv 1) pa_nil))) (blkOk_by (own := [("mine", 4), ("its", 5)]) rfl) (fun _ _ _ _ _ => (pgT (K := K) (n := 2) rfl rfl (pgs_cons (pg_name (i := 4) sc_cleared.nd rfl (by first | exact Or.inl rfl | exact Or.inr rfl)) (pgs_cons (pg_name (i := 5) sc_cleared.nd rfl (by first | exact Or.inl rfl | exact Or.inr rfl)) pgs_nil)))) (fun _ _ _ _ _ => pts_nil) (fun _ _ _ _ _ => (pe_op op_fdivB (pe_op op_sub (pe_op op_mulB (pe_ix (ixL (K := K) rfl) (pv 1) (pv 2) (fun _ _ => rfl)) (pv 4)) (pe_op op_mulB (pe_ix (ixL (K := K) rfl) (pv 0) (pv 2) (fun _ _ => rfl)) (pv 5))) (pv 3)))))), ?_⟩
  refine ⟨_, rfl, _, rfl, a, b, _, _, rfl, ha, hb, fun D hD => ?_⟩
  refine lc_map (sq_zipI ha hb) hD (fun p => .int ((pivot.getD c 0 * p.1 - row.getD c 0 * p.2).fdiv d)) (Nat.le_trans (by rw [List.length_zip]; exact Nat.min_le_left _ _) (le_line hl)) ?_ gm_pair ?_
  ·rintro ⟨x, y⟩ hp _ H' R s1 ⟨t, rfl, ht⟩ kR
   have hm := List.of_mem_zip hp
   refine ⟨t, _, rfl, SqT.of ht, rfl, _, _, rfl, _, _, rfl, rfl, rfl, ?_⟩
   refine ⟨_, rfl, _, rfl, b, _, _, _, rfl, rfl, s1.seq hb, ints_at hc2, _, rfl, _, _, rfl, rfl, ⟨few_getD fp c, fr x hm.1⟩, ?_⟩
   refine ⟨_, rfl, _, rfl, a, _, _, _, rfl, rfl, s1.seq ha, ints_at hc1, _, rfl, _, _, rfl, rfl, ⟨few_getD fr c, fp y hm.2⟩, _, _, rfl, rfl, _, rfl, _, _, rfl, rfl, ⟨hd, fd⟩, kR H' (Same.refl _)⟩
  ·intro H' s1 hD'
   refine k H' D s1 hD ?_
   rw [hD', clearI, zip_with, List.map_map]
   rfl
def sp_solve : Sp := fun vs H Q _ => ∃ (a : Addr) (R : List (List Int)) (n : Nat), vs = [.ref a] ∧ LO H a R ∧ R.length = n ∧ n ≤ 5 ∧ (∀ r ∈ R, r.length = n + 1) ∧ (∀ r ∈ R, ∀ x ∈ r, Few 200 x) ∧
 (solveI n R = none → ∀ H', Same H H' → Q .non H') ∧ ∀ sol, solveI n R = some sol → RetL Q H sol
theorem sc_solve : FnScope ["equations", "rows", "before", "column", "usable", "k", "pivot", "row", "sign"] ["equations"] (defScope s_solve) := ⟨rfl, rfl, rfl, by decide +kernel, rfl, by decide +kernel, by decide +kernel⟩
theorem c_solve (T : Txt K mg) : Cal P w K mg base "solve" 2 ["equations"] sp_solve := by
 have c_cleared := c_cleared (P := P) (w := w) (base := base) T
 refine cal_of T.d_solve sc_solve (fun vs H Q E h => ?_) (fun f cdv A outer s H vs Q E hr h => ?_)
 ·obtain ⟨a, R, n, rfl, _⟩ := h
  rfl
 ·obtain ⟨a, R, n, rfl, ⟨rs, ha, hp⟩, hl, hn, hrow, hfew, kn, ks⟩ := h
  have hrl : rs.length = n := by rw [← Paired.length hp]; exact hl
  refine ⟨_, (pss_cons (ps_set (i := 1) sc_solve.nd rfl (by first | exact Or.inl rfl | exact Or.inr rfl) (pe_callTy (crList (K := K) rfl) rfl T.b_list (by decide +kernel) (pa_cons (pv 0) pa_nil)))
   (pss_cons (ps_set (i := 2) sc_solve.nd rfl (by first | exact Or.inl rfl | exact Or.inr rfl) pe_int)
   (pss_cons (ps_for PassesOwn.never rfl (pi_range1 rfl T.b_range (pa_cons (pe_callB (crLen (K := K) rfl) rfl T.b_len (by decide +kernel) (pa_cons (pv 0) pa_nil)) pa_nil)) (pg_name (i := 3) sc_solve.nd rfl (by first | exact Or.inl rfl | exact Or.inr rfl)) (pss_cons (ps_setLc (i := 4) rfl sc_solve.nd rfl rfl (sw_true rfl rfl rfl (by decide +kernel)) (pi_range2 rfl T.b_range (pa_cons (pv 3) (pa_cons (pe_callB (crLen (K := K) rfl) rfl T.b_len (by decide +kernel) (pa_cons (pv 1) pa_nil)) pa_nil))) (blkOk_by (own := [("k", 5)]) rfl) (fun _ _ _ _ _ => (pg_name (i := 5) sc_solve.nd rfl (by first | exact Or.inl rfl | exact Or.inr rfl))) (fun _ _ _ _ _ => (pts_one (pt_cmpR op_ne (pe_ix (ixL (K := K) rfl) (pe_ix (ixL (K := K) rfl) (pv 1) (pv 5) (fun _ _ => rfl)) (pv 3) (fun _ _ => rfl)) pe_int (nomark _)))) (fun _ _ _ _ _ => (pv 5)))
   (pss_cons (ps_if (pt_cmpR op_eq (pe_callB (crLen (K := K) rfl) rfl T.b_len (by decide +kernel) (pa_cons (pv 4) pa_nil)) pe_int (nomark _)) (pss_one (ps_ret pe_non)) pss_nil)
   (pss_cons (ps_set (i := 6) sc_solve.nd rfl (by first | exact Or.inl rfl | exact Or.inr rfl) (pe_bm PySem.F.plainAttrs_list PySem.F.slot_list_pop PySem.F.type_list_pop mt_popAt (pv 1) (pa_cons (pe_ix (ixL (K := K) rfl) (pv 4) pe_int (fun _ _ => rfl)) pa_nil)))
   (pss_cons (ps_set (i := 1) sc_solve.nd rfl (by first | exact Or.inl rfl | exact Or.inr rfl) (pe_lc rfl sc_solve.nd (piL (K := K) rfl (pv 1)) (blkOk_by (own := [("row", 7)]) rfl) (fun _ _ _ _ _ => (pg_name (i := 7) sc_solve.nd rfl (by first | exact Or.inl rfl | exact Or.inr rfl))) (fun _ _ _ _ _ => pts_nil) (fun _ _ _ _ _ => (pe_cal c_cleared (hr.mono (by decide)) (pa_cons (pv 7) (pa_cons (pv 6) (pa_cons (pv 3) (pa_cons (pv 2) pa_nil))))))))
   (pss_cons (ps_expr (pe_bm PySem.F.plainAttrs_list PySem.F.slot_list_insert PySem.F.type_list_insert mt_insert (pv 1) (pa_cons (pv 3) (pa_cons (pv 6) pa_nil))))
   (pss_one (ps_set (i := 2) sc_solve.nd rfl (by first | exact Or.inl rfl | exact Or.inr rfl) (pe_ix (ixL (K := K) rfl) (pv 6) (pv 3) (fun _ _ => rfl))))))))))
   (pss_cons (ps_set (i := 8) sc_solve.nd rfl (by first | exact Or.inl rfl | exact Or.inr rfl) (pe_ifExp (pt_cmpR op_gt (pv 2) pe_int (nomark _)) pe_int (pe_un un_neg pe_int)))
   (pss_one (ps_ret (pe_lc rfl sc_solve.nd (piL (K := K) rfl (pv 1)) (blkOk_by (own := [("row", 7)]) rfl) (fun _ _ _ _ _ => (pg_name (i := 7) sc_solve.nd rfl (by first | exact Or.inl rfl | exact Or.inr rfl))) (fun _ _ _ _ _ => pts_nil) (fun _ _ _ _ _ => (pe_op op_mulB (pv 8) (pe_ix (ixL (K := K) rfl) (pv 7) (pe_un un_neg pe_int) (fun _ _ => rfl))))))))))), ?_⟩
  refine ⟨_, rfl, a, _, rfl, SqL.of ha, fun l hl0 => ?_⟩
  refine ⟨_, rfl, a, _, rfl, SqL.of (same_upd hl0 _ _ ha), _, rfl, ?_, ?_, ?_⟩
  ·rw [List.length_map, hrl]; omega
  ·rw [List.length_map, hrl]; omega
  ·rw [List.length_map, hrl, show ((n : Nat) : Int).toNat = n by omega]
   refine for_range (lo := 0) (n := n) (fun i σ H' => ∃ (l : Addr) (b : Int) (rows : List (List Int)) (rs : List Addr) (v3 v4 v6 : Option V), σ = [some (.ref a), some (.ref l), some (.int b), v3, v4, none, v6, none, none] ∧ Same H H' ∧ H l = none ∧
    H' l = some (.lst (rs.map V.ref)) ∧ Paired (fun w r => H' r = some (.lst (w.map V.int)) ∧ r ≠ l) rows rs ∧ solveGo n 0 1 R = solveGo (n - i) i b rows ∧ Elim n (grB 200 i) b rows) ?_ ?_ ?_
   ·refine ⟨l, 1, R, rs, none, none, none, rfl, same_upd hl0, hl0, upd_same, ?_, rfl, hl, hrow, hfew, by decide, few_lit 1 (by decide) (by decide)⟩
    exact pmap (fun w r q => ⟨same_upd hl0 _ _ q, ne_of_none q hl0⟩) hp
   ·rintro i σ H1 hi ⟨l, b, rows, rs, v3, v4, v6, rfl, s1, hl0', hl1, hp1, hgo, El⟩
    have hrl1 : rs.length = n := by rw [← Paired.length hp1]; exact El.len
    have hg8 : grB 200 i ≤ 8000 := grB_le (by omega)
    rw [show (0 : Int) + (i : Int) = (i : Int) by omega]
    refine ⟨_, rfl, _, rfl, l, _, rfl, SqL.of hl1, _, _, rfl, ⟨by omega, by omega, by rw [List.length_map, hrl1]; omega, by rw [List.length_map, hrl1]; omega⟩, fun D hD => ?_⟩
    rw [List.length_map, hrl1, show (((n : Nat) : Int) - (i : Int)).toNat = n - i by omega]
    refine lc_vals (sq_range (lo := (i : Int)) (n := n - i)) hD (fun k => decide ((rows.getD (i + k) []).getD i 0 ≠ 0)) (fun k => .int ((i + k : Nat) : Int)) (by rw [List.length_range]; exact le_line (by omega)) ?_ ?_
    ·rintro j hj _ H2 S N s2 rfl kR kN
     have hj' := List.mem_range.mp hj
     obtain ⟨q, hq1, hq2, hq3⟩ := p_get hp1 [] (k := i + j) (by rw [El.len]; omega)
     have hrow1 : (rows.getD (i + j) []).length = n + 1 := El.row _ (getD_mem [] (by rw [El.len]; omega))
     refine ⟨rfl, _, rfl, _, rfl, l, _, _, _, rfl, rfl, SqL.of (s2 _ _ hl1), at_of (j := i + j) (by omega) (by rw [List.getElem?_map, hq1]; rfl), _, rfl, q, _, _, _, rfl, rfl, SqL.of (s2 _ _ hq2), ints_at (show i < (rows.getD (i + j) []).length by omega), rfl, _, rfl, ?_⟩
     refine ite2 (fun h1 => ⟨_, rfl, ?_⟩) (fun h1 => ?_)
     ·have := kR (by simpa using h1) H2 (Same.refl _)
      rwa [show ((i + j : Nat) : Int) = (i : Int) + (j : Nat) by omega] at this
     ·exact kN (by simpa using h1) H2 (Same.refl _)
    ·intro H2 s2 hD2
     have hus : H2 D = some (.lst ((nI (usableI i rows)).map V.int)) := by
      rw [hD2, usableI, El.len, ← usable_range i (n - i), List.map_map, List.map_map]
      rfl
     have en : n - i = (n - (i + 1)) + 1 := by omega
     refine ⟨_, rfl, D, _, rfl, SqL.of hus, rfl, _, rfl, ite2 (fun h1 => ?_) (fun h1 => ?_)⟩
     ·have e1 : usableI i rows = [] := by
       apply List.eq_nil_of_length_eq_zero
       have := V.int.inj (of_decide_eq_true h1)
       rw [List.length_map, List.length_map] at this
       omega
      refine kn ?_ H2 (s1.trans s2)
      unfold solveI
      rw [hgo, en]
      unfold solveGo
      rw [e1]
     ·cases e1 : usableI i rows with
      | nil =>
       exfalso
       apply h1
       rw [e1]
       rfl
      | cons k0 us =>
       obtain ⟨hk1, hk2, hk3⟩ := usable_head El.len e1
       obtain ⟨q, hq1, hq2, hq3⟩ := p_get hp1 [] (k := k0) (by rw [El.len]; omega)
       have hl2 := s2 _ _ hl1
       have hq2' := s2 _ _ hq2
       have hmem : rows.getD k0 [] ∈ rows := getD_mem [] (by rw [El.len]; exact hk2)
       have hrowk : (rows.getD k0 []).length = n + 1 := El.row _ hmem
       rw [e1] at hus
       refine ⟨_, rfl, .inl ⟨rfl, _, SqL.of hl2⟩, _, rfl, D, _, _, _, rfl, rfl, SqL.of hus, ints_at (i := 0) (by simp), l, _, _, k0, .ref q, rfl, rfl, hl2, ?_, ?_, seqIx (by rw [List.length_map, hrl1]; exact hk2), by rw [List.getElem?_map, hq1]; rfl, ?_⟩
       ·show -(2 ^ 63) ≤ (k0 : Int)
        omega
       ·show (k0 : Int) < 2 ^ 63
        omega
       rw [map_eraseIdx]
       have s3 : Same H (upd H2 l (.lst ((rs.eraseIdx k0).map V.ref))) := same_upd' (s1.trans s2) hl0'
       have hp3 : Paired (fun w r => upd H2 l (.lst ((rs.eraseIdx k0).map V.ref)) r = some (.lst (w.map V.int))) (rows.eraseIdx k0) (rs.eraseIdx k0) :=
        p_erase k0 (pmap (fun w r q => by rw [upd_ne q.2]; exact s2 _ _ q.1) hp1)
       have hq4 : upd H2 l (.lst ((rs.eraseIdx k0).map V.ref)) q = some (.lst ((rows.getD k0 []).map V.int)) := by
        rw [upd_ne hq3]; exact hq2'
       have hl4 : upd H2 l (.lst ((rs.eraseIdx k0).map V.ref)) l = some (.lst ((rs.eraseIdx k0).map V.ref)) := upd_same
       generalize upd H2 l (.lst ((rs.eraseIdx k0).map V.ref)) = H3 at s3 hp3 hq4 hl4
       refine ⟨_, rfl, l, rfl, ⟨_, SqL.of hl4⟩, fun D2 hD2 => ?_⟩
       refine lc_lists (sq_rows (K := K) (SqL.of hl4) (pmap (fun _ _ q => SqL.of q) hp3)) hD2 (fun r => (clearI (rows.getD k0 []) i b r).map V.int) ?_ ?_ gm_name ?_
       ·rw [List.length_eraseIdx, El.len, if_pos hk2]
        exact le_line (by omega)
       ·rintro r hr5 _ H4 S s4 ⟨p, rfl, hpr⟩ kR
        have hrm := List.mem_of_mem_eraseIdx hr5
        have hrl := El.row r hrm
        refine ⟨rfl, _, rfl, _, rfl, _, rfl, _, rfl, p, q, r, rows.getD k0 [], i, b, rfl, hpr, SqL.of (s4 _ _ hq4), by omega, by omega, by omega, fun x hx => few_mono (El.few r hrm x hx) hg8, fun x hx => few_mono (El.few _ hmem x hx) hg8, El.nz, few_mono El.fb hg8, ?_⟩
        exact fun H5 r5 s5 h5 h6 => kR H5 r5 h5 h6 s5
       ·intro H4 rs2 s4 hD4 hp4 hnew
        have hlen2 : rs2.length = n - 1 := by
         rw [← Paired.length hp4, List.length_eraseIdx, El.len, if_pos hk2]
        have hq5 := s4 _ _ hq4
        have hqD : q ≠ D2 := ne_of_none hq4 hD2
        refine ⟨_, rfl, .inl ⟨rfl, _, SqL.of hD4⟩, _, rfl, _, rfl, D2, _, i, .ref q, rfl, rfl, hD4, by rw [List.length_map]; omega, by rw [List.length_map]; omega, ?_⟩
        refine ⟨_, rfl, _, rfl, q, _, _, _, rfl, rfl, SqL.of (by rw [upd_ne hqD]; exact hq5), ints_at (show i < (rows.getD k0 []).length by omega), ?_⟩
        refine ⟨D2, _, _, rs2.take i ++ q :: rs2.drop i, _, _, _, rfl, ?_, s3.free hD2, ?_, ?_, ?_, El.turn hi hk2 hk3⟩
        ·exact same_upd' (s3.trans s4) (s3.free hD2)
        ·rw [upd_same, List.map_append, List.map_cons, List.map_take, List.map_drop]
        ·refine p_ins ⟨by rw [upd_ne hqD]; exact hq5, hqD⟩ i (by rw [List.length_map, Paired.length hp4]; omega) ?_
         refine p_map (pmap (fun w r q => ?_) (p_mem hp4 hnew))
         rw [upd_ne q.2.2]
         exact ⟨q.1, q.2.2⟩
        ·rw [hgo, en]
         conv => lhs; unfold solveGo
         rw [e1]
   ·rintro σ H1 ⟨l, b, rows, rs, v3, v4, v6, rfl, s1, hl0', hl1, hp1, hgo, El⟩
    rw [Nat.sub_self] at hgo
    have hso : solveI n R = some (rows.map fun r => signI b * r.getD n 0) := by
     unfold solveI
     rw [hgo]
     rfl
    have fin : ∀ sg : Int, sg = signI b → tRet (tLc (iList K (tVar 1)) (gName 7) tYes (tOp (rI BMul fun i j => V.int (i * j)) (tVar 8) (tOp (rIxL K) (tVar 7) (tUn (rU fun i => V.int (-i)) (tC (V.int 1)))))
      (List.map (fun x => x.snd) [(Str.ofString "row", 7)])) { nx := fun _ H' => Q .non H', rt := Q } [some (.ref a), some (.ref l), some (.int b), v3, v4, none, v6, none, some (.int sg)] H1 := by
     intro sg hsg
     refine ⟨_, rfl, l, rfl, ⟨_, SqL.of hl1⟩, fun D hD => ?_⟩
     refine lc_map (sq_rows (K := K) (SqL.of hl1) (pmap (fun _ _ q => SqL.of q.1) hp1)) hD (fun r => .int (signI b * r.getD n 0)) (by rw [El.len]; exact le_line (by omega)) ?_ gm_name ?_
     ·rintro r hr5 _ H4 S s4 ⟨p, rfl, hpr⟩ kR
      refine ⟨rfl, _, rfl, _, rfl, _, rfl, p, _, _, _, rfl, rfl, hpr, last_at (El.row r hr5), _, _, rfl, rfl, ⟨?_, ?_⟩, ?_⟩
      ·rw [hsg]
       unfold signI
       split <;> exact few_lit 1 (by decide) (by decide)
      ·exact few_mono (few_getD (El.few r hr5) n) (grB_le hn)
      ·rw [hsg]
       exact kR H4 (Same.refl _)
     ·intro H2 s2 hD2
      refine ks _ hso H2 D (s1.trans s2) (s1.free hD) ?_
      rw [hD2, List.map_map]
      rfl
    refine ⟨_, rfl, _, _, rfl, rfl, _, rfl, ite2 (fun h1 => ?_) (fun h1 => ?_)⟩
    ·refine fin 1 ?_
     unfold signI
     rw [if_pos (of_decide_eq_true h1)]
    ·refine ⟨_, rfl, ?_⟩
     refine fin (-1) ?_
     unfold signI
     rw [if_neg (fun q => h1 (decide_eq_true q))]
end
end Cw
end
section
set_option Elab.async false
set_option linter.all false
set_option maxRecDepth 100000
namespace Cw
open PySem PySem.Spec PyProof.Rows L2
theorem sq_nats {K : PySem.W.Frag} {H1 : Hp} {a : Addr} {S : List Nat} (h : LI K H1 a (nI S)) : Sq (Itl K a) H1 S (fun i x _ => x = .int (i : Nat)) where
 go := fun i H s hi => (sq_ints h).go i H s (by simpa using hi)
 stop := fun H s => by
  have := (sq_ints h).stop H s
  rwa [List.length_map] at this
 yld := fun i H x H' z s hz y => (sq_ints h).yld i H x H' (z : Int) s (by rw [List.getElem?_map, hz]; rfl) y
theorem for_sq {α : Type} {J : It} {H1 : Hp} {xs : List α} {Y : α → V → Hp → Prop} (S : Sq J H1 xs Y) {g : TG} {tb : TS} {D : Ends} {σ : L2.St} {H : Hp} (Pv : Nat → L2.St → Hp → Prop) (h0 : Pv 0 σ H) (hl : ∀ i σ H, Pv i σ H → Same H1 H)
  (hs : ∀ i a x σ H H', xs[i]? = some a → Pv i σ H → Same H H' → Y a x H' → g x σ H' fun σ2 H2 => tb { D with nx := Pv (i + 1), ct := Pv (i + 1), bk := D.nx } σ2 H2) (hd : ∀ σ H, Pv xs.length σ H → D.nx σ H) :
  ∃ W : Nat → Nat → L2.St → Hp → Prop, (∃ m, W 0 m σ H) ∧ ∀ i m σ H, W i m σ H →
   (J.stop i H ∧ D.nx σ H) ∨ (J.go i H ∧ ∃ N : L2.St → Hp → Prop, (∀ σ' H', N σ' H' → ∃ m', m' < m ∧ W (i + 1) m' σ' H') ∧ ∀ x H', J.yld i H x H' → g x σ H' fun σ2 H2 => tb { D with nx := N, ct := N, bk := D.nx } σ2 H2) := by
 refine ⟨fun i m σ H => m = xs.length - i ∧ i ≤ xs.length ∧ Pv i σ H, ⟨xs.length, by simp, Nat.zero_le _, h0⟩, ?_⟩
 rintro i m σ H ⟨rfl, hi, p⟩
 have s1 := hl i σ H p
 by_cases hlt : i < xs.length
 ·have ha : xs[i]? = some xs[i] := List.getElem?_eq_getElem hlt
  refine .inr ⟨S.go i H s1 hlt, Pv (i + 1), fun σ' H' q => ⟨xs.length - (i + 1), by omega, rfl, hlt, q⟩, fun x H' y => ?_⟩
  obtain ⟨s2, hY⟩ := S.yld i H x H' xs[i] s1 ha y
  exact hs i xs[i] x σ H H' ha p s2 hY
 ·have e : i = xs.length := by omega
  subst e
  exact .inl ⟨S.stop H s1, hd σ H p⟩
theorem sq_zipN {K : PySem.W.Frag} {H1 : Hp} {a b : Addr} {xs : List Nat} {ys : List Int} (ha : LI K H1 a (nI xs)) (hb : LI K H1 b ys) : Sq (Itz K a b) H1 (xs.zip ys) (fun p x H => ∃ T, x = .ref T ∧ H T = some (.tup [.int (p.1 : Nat), .int p.2])) where
 go := fun i H s hi => (sq_zipI ha hb).go i H s (by simpa using hi)
 stop := fun H s => by
  have := (sq_zipI ha hb).stop H s
  simpa using this
 yld := fun i H x H' p s hp y => (sq_zipI ha hb).yld i H x H' ((p.1 : Int), p.2) s (by
  have q := List.getElem?_zip_eq_some.mp hp
  rw [List.getElem?_zip_eq_some, List.getElem?_map, q.1]
  exact ⟨rfl, q.2⟩) y
theorem ixN_nat {n j : Nat} (h : j < n) : ixN n (j : Int) = some j := by
 unfold ixN
 rw [if_pos (by omega), if_pos (by omega)]
 rfl
section
variable {P : Program} {w : World} {K : PySem.W.Frag} {mg : Str → Option Value} {base : Heap}
def sp_level_equations (K : PySem.W.Frag) : Sp := fun vs H Q _ => ∃ (a b : Addr) (W : List (List Int)) (S : List Nat), vs = [.ref a, .ref b] ∧ LL K H a W ∧ LI K H b (nI S) ∧ (∀ i ∈ S, i < W.length) ∧ (∀ r ∈ W, r.length = W.length) ∧ S.length ≤ 900 ∧
 ∀ H' r, Same H H' → H r = none → LO H' r (eqsI W S) → Q (.ref r) H'
theorem sc_level_equations : FnScope ["wins", "strategies", "equations", "j", "i"] ["wins", "strategies"] (defScope s_level_equations) := ⟨rfl, rfl, rfl, by decide +kernel, rfl, by decide +kernel, by decide +kernel⟩
theorem c_level_equations (T : Txt K mg) : Cal P w K mg base "level_equations" 1 ["wins", "strategies"] (sp_level_equations K) := by
 refine cal_of T.d_level_equations sc_level_equations (fun vs H Q E h => ?_) (fun f cdv A outer s H vs Q E hr h => ?_)
 ·obtain ⟨a, b, W, S, rfl, _⟩ := h
  rfl
 ·obtain ⟨a, b, W, S, rfl, ha, hb, hS, hrow, hl, k⟩ := h
  refine ⟨_, (pss_cons (ps_setLc (i := 2) rfl sc_level_equations.nd rfl rfl (sw_true rfl rfl rfl (by decide +kernel)) (piL (K := K) rfl (pv 1)) (blkOk_by (own := [("i", 4)]) rfl) (fun _ _ _ _ _ => (pg_name (i := 4) sc_level_equations.nd rfl (by first | exact Or.inl rfl | exact Or.inr rfl))) (fun _ _ _ _ _ => pts_nil) (fun _ _ _ _ _ => (pe_op op_cat (pe_lc rfl sc_level_equations.nd (piL (K := K) rfl (pv 1)) (blkOk_by (own := [("j", 3)]) rfl) (fun _ _ _ _ _ => (pg_name (i := 3) sc_level_equations.nd rfl (by first | exact Or.inl rfl | exact Or.inr rfl))) (fun _ _ _ _ _ => pts_nil) (fun _ _ _ _ _ => (pe_ix (ixL (K := K) rfl) (pe_ix (ixL (K := K) rfl) (pv 0) (pv 4) (fun _ _ => rfl)) (pv 3) (fun _ _ => rfl)))) (pe_lst (pa_cons (pe_un un_neg pe_int) (pa_cons pe_int pa_nil))))))
   (pss_cons (ps_expr (pe_bm PySem.F.plainAttrs_list PySem.F.slot_list_append PySem.F.type_list_append mt_append (pv 2) (pa_cons (pe_op op_cat (pe_lc rfl sc_level_equations.nd (piL (K := K) rfl (pv 1)) (blkOk_by (own := [("j", 3)]) rfl) (fun _ _ _ _ _ => (pg_name (i := 3) sc_level_equations.nd rfl (by first | exact Or.inl rfl | exact Or.inr rfl))) (fun _ _ _ _ _ => pts_nil) (fun _ _ _ _ _ => pe_int)) (pe_lst (pa_cons pe_int (pa_cons pe_int pa_nil)))) pa_nil)))
   (pss_one (ps_ret (pv 2))))), ?_⟩
  refine ⟨_, rfl, b, rfl, ⟨_, hb⟩, fun D hD => ?_⟩
  refine lc_lists (sq_nats hb) hD (fun i => ((S.map fun j => (W.getD i []).getD j 0) ++ [-1, 0]).map V.int) (le_line (by omega)) ?_ gm_name ?_
  ·rintro i hi _ H1 R s1 rfl kR
   have hiW := hS i hi
   have hri : (W.getD i []).length = W.length := hrow _ (getD_mem [] hiW)
   refine ⟨rfl, _, rfl, b, rfl, ⟨_, s1.seq hb⟩, fun D2 hD2 => ?_⟩
   refine lc_map (sq_nats (s1.seq hb)) hD2 (fun j => .int ((W.getD i []).getD j 0)) (le_line (by omega)) ?_ gm_name ?_
   ·rintro j hj _ H2 R2 s2 rfl kR2
    obtain ⟨xs, q, hx, hat, hq⟩ := (ha.same (s1.trans s2)).at hiW
    exact ⟨rfl, _, rfl, _, rfl, a, _, _, _, rfl, rfl, hx, hat, _, rfl, q, _, _, _, rfl, rfl, hq, ints_at (by rw [hri]; exact hS j hj), kR2 H2 (Same.refl _)⟩
   ·intro H2 s2 hD2'
    refine ⟨_, rfl, by show 2 ≤ sizeLine; decide, fun t ht => ⟨D2, t, _, _, rfl, rfl, same_upd ht _ _ hD2', upd_same, ?_, fun p hp => ?_⟩⟩
    ·rw [List.length_map]
     have : (1000 : Nat) ≤ sizeLine := by decide
     show S.length + 2 ≤ sizeLine
     omega
    ·have st : Same H2 (upd H2 t (.lst [.int (-1), .int 0])) := same_upd ht
     have hp1 : H1 p = none := (s2.trans st).free hp
     refine kR _ p hp1 ?_ ((s2.trans st).trans (same_upd hp))
     rw [upd_same, List.map_append, List.map_map]
     rfl
  ·intro H1 rs s1 hD1 hp1 hnew
   refine ⟨_, rfl, .inl ⟨rfl, _, SqL.of hD1⟩, ?_⟩
   refine ⟨_, rfl, b, rfl, ⟨_, s1.seq hb⟩, fun D2 hD2 => ?_⟩
   refine lc_map (sq_nats (s1.seq hb)) hD2 (fun j => .int 1) (le_line (by omega)) ?_ gm_name ?_
   ·rintro j hj _ H2 R2 s2 rfl kR2
    exact ⟨rfl, kR2 H2 (Same.refl _)⟩
   ·intro H2 s2 hD2'
    refine ⟨by show 2 ≤ sizeLine; decide, fun t ht => ⟨D2, t, _, _, rfl, rfl, same_upd ht _ _ hD2', upd_same, ?_, fun p hp => ?_⟩⟩
    ·rw [List.length_map]
     have : (1000 : Nat) ≤ sizeLine := by decide
     show S.length + 2 ≤ sizeLine
     omega
    ·have st : Same H2 (upd H2 t (.lst [.int 0, .int 1])) := same_upd ht
     have s3 : Same H1 _ := (s2.trans st).trans (same_upd (o := .lst ((S.map fun j => V.int 1) ++ [.int 0, .int 1])) hp)
     have hDp : p ≠ D := fun e => by
      subst e
      rw [(s2.trans st) _ _ hD1] at hp
      cases hp
     refine ⟨D, _, .ref p, rfl, rfl, s3 _ _ hD1, ?_, _, rfl, ?_⟩
     ·rw [List.length_map, ← Paired.length hp1]
      have : (1000 : Nat) ≤ sizeLine := by decide
      omega
     ·refine k _ D ?_ hD ⟨rs ++ [p], ?_, ?_⟩
      ·exact same_upd' (s1.trans s3) hD
      ·rw [upd_same, List.map_append]
       rfl
      ·unfold eqsI
       refine Paired.snoc ?_ ?_
       ·refine p_map (pmap (fun i r q => ?_) (p_mem hp1 hnew))
        rw [upd_ne q.2.2]
        exact s3 _ _ q.1
       ·rw [upd_ne hDp, upd_same, List.map_append, List.map_map]
        rfl
structure Sqr (n b : Nat) (W : List (List Int)) : Prop where
 len : W.length ≤ n
 row : ∀ r ∈ W, r.length = W.length
 few : ∀ r ∈ W, ∀ x ∈ r, Few b x
theorem eqs_few {W : List (List Int)} {S : List Nat} {b : Nat} (hb : 1 ≤ b) (hf : ∀ r ∈ W, ∀ x ∈ r, Few b x) : ∀ r ∈ eqsI W S, ∀ x ∈ r, Few b x := by
 intro r hr x hx
 have one : ∀ y : Int, y.natAbs < 2 ^ 1 → Few b y := fun y hy => few_lit 1 hy hb
 unfold eqsI at hr
 rcases List.mem_append.mp hr with hr | hr
 ·obtain ⟨i, hi, rfl⟩ := List.mem_map.mp hr
  rcases List.mem_append.mp hx with hx | hx
  ·obtain ⟨j, hj, rfl⟩ := List.mem_map.mp hx
   by_cases h : i < W.length
   ·exact few_getD (hf _ (getD_mem [] h)) j
   ·rw [show W.getD i [] = [] by rw [List.getD_eq_getElem?_getD, List.getElem?_eq_none (by omega)]; rfl]
    exact few_getD (l := []) (by simp) j
  ·simp at hx
   rcases hx with rfl | rfl <;> exact one _ (by decide)
 ·simp at hr
  subst hr
  rcases List.mem_append.mp hx with hx | hx
  ·obtain ⟨j, hj, rfl⟩ := List.mem_map.mp hx
   exact one _ (by decide)
  ·simp at hx
   rcases hx with rfl | rfl <;> exact one _ (by decide)
def levelW (W : List (List Int)) (S : List Nat) : Option (List Int) := (solveI (S.length + 1) (eqsI W S)).map (weightsM W.length S)
def sp_level_weights (K : PySem.W.Frag) : Sp := fun vs H Q _ => ∃ (a b : Addr) (W : List (List Int)) (S : List Nat), vs = [.ref a, .ref b] ∧ LL K H a W ∧ LI K H b (nI S) ∧ (∀ i ∈ S, i < W.length) ∧ Sqr 4 200 W ∧ S.length ≤ 4 ∧
 (levelW W S = none → ∀ H', Same H H' → Q .non H') ∧ ∀ ws, levelW W S = some ws → RetL Q H ws
theorem sc_level_weights : FnScope ["wins", "strategies", "solution", "weights", "row", "strategy", "weight"] ["wins", "strategies"] (defScope s_level_weights) := ⟨rfl, rfl, rfl, by decide +kernel, rfl, by decide +kernel, by decide +kernel⟩
theorem c_level_weights (T : Txt K mg) : Cal P w K mg base "level_weights" 3 ["wins", "strategies"] (sp_level_weights K) := by
 have c_level_equations := c_level_equations (P := P) (w := w) (base := base) T
 have c_solve := c_solve (P := P) (w := w) (base := base) T
 refine cal_of T.d_level_weights sc_level_weights (fun vs H Q E h => ?_) (fun f cdv A outer s H vs Q E hr h => ?_)
 ·obtain ⟨a, b, W, S, rfl, _⟩ := h
  rfl
 ·obtain ⟨a, b, W, S, rfl, ha, hb, hS, hW, hl, kn, ks⟩ := h
  refine ⟨_, (pss_cons (ps_set (i := 2) sc_level_weights.nd rfl (by first | exact Or.inl rfl | exact Or.inr rfl) (pe_cal c_solve (hr.mono (by decide)) (pa_cons (pe_cal c_level_equations (hr.mono (by decide)) (pa_cons (pv 0) (pa_cons (pv 1) pa_nil))) pa_nil)))
   (pss_cons (ps_if (pt_cmp (pc_isN (pv 2))) (pss_one (ps_ret pe_non)) pss_nil)
   (pss_cons (ps_setLc (i := 3) rfl sc_level_weights.nd rfl rfl (sw_true rfl rfl rfl (by decide +kernel)) (piL (K := K) rfl (pv 0)) (blkOk_by (own := [("row", 4)]) rfl) (fun _ _ _ _ _ => (pg_name (i := 4) sc_level_weights.nd rfl (by first | exact Or.inl rfl | exact Or.inr rfl))) (fun _ _ _ _ _ => pts_nil) (fun _ _ _ _ _ => pe_int))
   (pss_cons (ps_for PassesOwn.never rfl (piZ (K := K) rfl T.b_zip (pa_cons (pv 1) (pa_cons (pv 2) pa_nil))) (pgT (K := K) (n := 2) rfl rfl (pgs_cons (pg_name (i := 5) sc_level_weights.nd rfl (by first | exact Or.inl rfl | exact Or.inr rfl)) (pgs_cons (pg_name (i := 6) sc_level_weights.nd rfl (by first | exact Or.inl rfl | exact Or.inr rfl)) pgs_nil))) (pss_one (ps_asg (pv 6) (pg_sub (pv 3) (pv 5) set_list))))
   (pss_one (ps_ret (pv 3))))))), ?_⟩
  refine ⟨_, rfl, _, rfl, a, b, W, S, rfl, ha, hb, hS, hW.row, by omega, fun H1 r s1 hr0 hr1 => ?_⟩
  refine ⟨r, _, S.length + 1, rfl, hr1, eqs_len W S, by omega, eqs_row W S, eqs_few (by decide) hW.few, fun hn H2 s2 => ?_, fun sol hs H2 c s2 hc0 hc => ?_⟩
  ·refine ⟨_, rfl, _, rfl, ?_⟩
   refine iteT ?_
   exact kn (by unfold levelW; rw [hn]; rfl) H2 (s1.trans s2)
  ·have hlv : levelW W S = some (weightsM W.length S sol) := by unfold levelW; rw [hs]; rfl
   refine ⟨_, rfl, _, rfl, ?_⟩
   refine iteF ?_
   have s12 := s1.trans s2
   obtain ⟨xs, hxs, hxl⟩ := (ha.same s12).ex
   refine ⟨_, rfl, a, rfl, ⟨_, hxs⟩, fun D hD => ?_⟩
   refine lc_map (ha.same s12).sq hD (fun _ => .int 0) (le_line (by have := hW.len; omega)) ?_ gm_name ?_
   ·rintro r hr2 _ H3 R s3 ⟨q, rfl, hq⟩ kR
    exact ⟨rfl, kR H3 (Same.refl _)⟩
   ·intro H3 s3 hD3
    have hzip := sq_zipN (K := K) (s12.seq hb) (SqL.of hc)
    refine ⟨_, rfl, _, rfl, b, c, _, _, rfl, (s12.trans s3).seq hb, SqL.of (s3 _ _ hc), for_sq hzip (fun i σ H' => ∃ v5 v6 : Option V, σ = [some (.ref a), some (.ref b), some (.ref c), some (.ref D), none, v5, v6] ∧ Same H2 H' ∧
     H' D = some (.lst ((((S.zip sol).take i).foldl (fun w p => w.set p.1 p.2) (List.replicate W.length 0)).map V.int))) ?_ ?_ ?_ ?_⟩
    ·refine ⟨none, none, rfl, s3, ?_⟩
     rw [hD3, List.take_zero, List.foldl_nil, List.map_replicate]
     exact congrArg (fun l => some (HO.lst l)) List.map_const'
    ·rintro i σ H' ⟨_, _, _, s4, _⟩
     exact s4
    ·rintro i ⟨j, z⟩ _ σ H4 H5 hi ⟨v5, v6, rfl, s4, hD4⟩ s5 ⟨t, rfl, ht⟩
     have hj : j < W.length := hS j (List.of_mem_zip (List.mem_of_getElem? hi)).1
     refine ⟨t, _, rfl, SqT.of ht, rfl, _, _, rfl, _, _, rfl, rfl, ?_⟩
     refine ⟨_, rfl, _, rfl, _, rfl, D, _, _, j, rfl, rfl, s5 _ _ hD4, ixN_nat ?_, ?_⟩
     ·rw [List.length_map, fold_len, List.length_replicate]
      exact hj
     ·refine ⟨_, _, rfl, same_upd' (s4.trans s5) hD, ?_⟩
      rw [upd_same, take_snoc hi, List.foldl_append, List.foldl_cons, List.foldl_nil, List.map_set]
    ·rintro σ H4 ⟨v5, v6, rfl, s4, hD4⟩
     refine ⟨_, rfl, ks _ hlv H4 D (s12.trans s4) (s12.free hD) ?_⟩
     rw [hD4, List.take_length]
     rfl
def restP (W : List (List Int)) (S : List Nat) (ws : List Int) : Bool := S.all fun i => decide (0 < ws.getD i 0) && (bestP W ws).contains i
def sp_is_at_rest (K : PySem.W.Frag) : Sp := fun vs H Q _ => ∃ (a b c : Addr) (W : List (List Int)) (S : List Nat) (ws : List Int), vs = [.ref a, .ref b, .ref c] ∧ LL K H a W ∧ LI K H b (nI S) ∧ LI K H c ws ∧ (∀ i ∈ S, i < ws.length) ∧ Mat 1000 8000 W ∧ (∀ y ∈ ws, Few 8000 y) ∧ S.length ≤ 1000 ∧
 ∀ H', Same H H' → Q (.bl (restP W S ws)) H'
theorem inV_nats (i : Nat) (l : List Nat) : inV (.int i) ((nI l).map V.int) = l.contains i := by
 unfold inV
 rw [Bool.eq_iff_iff, List.any_eq_true, List.contains_iff_mem]
 constructor
 ·rintro ⟨y, hy, e⟩
  rw [List.map_map] at hy
  obtain ⟨j, hj, rfl⟩ := List.mem_map.mp hy
  have e2 : ((j : Int) == (i : Int)) = true := e
  have : j = i := by have := eq_of_beq e2; omega
  rw [← this]; exact hj
 ·intro h
  refine ⟨.int i, ?_, ?_⟩
  ·rw [List.map_map]; exact List.mem_map.mpr ⟨i, h, rfl⟩
  ·show ((i : Int) == (i : Int)) = true
   exact beq_self_eq_true _
theorem flat_ints (l : List Int) : (l.map V.int).all flatV = true := by
 rw [List.all_map]
 exact List.all_eq_true.mpr fun _ _ => rfl
theorem sc_is_at_rest : FnScope ["wins", "strategies", "weights", "best", "i"] ["wins", "strategies", "weights"] (defScope s_is_at_rest) := ⟨rfl, rfl, rfl, by decide +kernel, rfl, by decide +kernel, by decide +kernel⟩
theorem c_is_at_rest (T : Txt K mg) : Cal P w K mg base "is_at_rest" 4 ["wins", "strategies", "weights"] (sp_is_at_rest K) := by
 have c_best_replies := c_best_replies (P := P) (w := w) (base := base) T
 refine cal_of T.d_is_at_rest sc_is_at_rest (fun vs H Q E h => ?_) (fun f cdv A outer s H vs Q E hr h => ?_)
 ·obtain ⟨a, b, c, W, S, ws, rfl, _⟩ := h
  rfl
 ·obtain ⟨a, b, c, W, S, ws, rfl, ha, hb, hc, hS, hW, hf, hl, k⟩ := h
  refine ⟨_, (pss_cons (ps_set (i := 3) sc_is_at_rest.nd rfl (by first | exact Or.inl rfl | exact Or.inr rfl) (pe_cal c_best_replies (hr.mono (by decide)) (pa_cons (pv 0) (pa_cons (pv 2) pa_nil))))
   (pss_one (ps_ret (pe_callB (crAll (K := K) rfl rfl) rfl T.b_all (by decide +kernel) (pa_cons (pe_lc rfl sc_is_at_rest.nd (piL (K := K) rfl (pv 1)) (blkOk_by (own := [("i", 4)]) rfl) (fun _ _ _ _ _ => (pg_name (i := 4) sc_is_at_rest.nd rfl (by first | exact Or.inl rfl | exact Or.inr rfl))) (fun _ _ _ _ _ => pts_nil) (fun _ _ _ _ _ => (pe_and (pe_cmpR op_gt (pe_ix (ixL (K := K) rfl) (pv 2) (pv 4) (fun _ _ => rfl)) pe_int (nomark _)) (pe_one (pe_cmpR (opIn (K := K) rfl) (pv 4) (pv 3) rfl))))) pa_nil))))), ?_⟩
  refine ⟨_, rfl, _, rfl, a, c, W, ws, rfl, ha, hc, hW, hf, fun H1 r s1 hr0 hr1 => ?_⟩
  refine ⟨_, rfl, b, rfl, ⟨_, s1.seq hb⟩, fun D hD => ?_⟩
  refine lc_map (sq_nats (s1.seq hb)) hD (fun i => .bl (decide (0 < ws.getD i 0) && (bestP W ws).contains i)) (le_line hl) ?_ gm_name ?_
  ·rintro i hi _ H2 R s2 rfl kR
   refine ⟨rfl, _, rfl, _, rfl, c, _, _, _, rfl, rfl, (s1.trans s2).seq hc, ints_at (hS i hi), _, _, rfl, rfl, _, rfl, ite2 (fun h1 => ?_) (fun h1 => ?_)⟩
   ·refine ⟨_, rfl, _, rfl, r, _, rfl, .inl (SqL.of (s2 _ _ hr1)), rfl, flat_ints _, ?_⟩
    have := kR H2 (Same.refl _)
    rw [h1, Bool.true_and, ← inV_nats] at this
    exact this
   ·have := kR H2 (Same.refl _)
    have h1' : decide (0 < ws.getD i 0) = false := by simpa using h1
    rw [h1', Bool.false_and] at this
    exact this
  ·intro H2 s2 hD2
   refine ⟨D, S.map fun i => decide (0 < ws.getD i 0) && (bestP W ws).contains i, rfl, SqL.of ?_, ?_⟩
   ·rw [hD2, List.map_map]
    rfl
   ·have := k H2 (s1.trans s2)
    unfold restP at this
    rw [List.all_map]
    exact this
def allSetsG : Nat → List (List Nat)
 | 0 => [[]]
 | n + 1 => allSetsG n ++ (allSetsG n).map fun l => l ++ [n]
def sp_all_sets : Sp := fun vs H Q _ => ∃ n : Nat, vs = [.int n] ∧ n ≤ 4 ∧ ∀ H' r, Same H H' → H r = none → LO H' r ((allSetsG n).map nI) → Q (.ref r) H'
theorem allG_len (n : Nat) : (allSetsG n).length = 2 ^ n := by
 induction n with
 | zero => rfl
 | succ n ih => unfold allSetsG; rw [List.length_append, List.length_map, ih, Nat.pow_succ]; omega
theorem allG_short (n : Nat) : ∀ S ∈ allSetsG n, S.length ≤ n := by
 induction n with
 | zero => intro S h; simp [allSetsG] at h; subst h; exact Nat.le_refl _
 | succ n ih =>
  intro S h
  unfold allSetsG at h
  rcases List.mem_append.mp h with h | h
  ·exact Nat.le_succ_of_le (ih S h)
  ·obtain ⟨l, hl, rfl⟩ := List.mem_map.mp h
   have := ih l hl
   rw [List.length_append]
   simp
   exact this
theorem sq_own {K : PySem.W.Frag} {H1 : Hp} {a : Addr} {rs : List Addr} {W : List (List Int)} (h : H1 a = some (.lst (rs.map V.ref))) (hp : Paired (fun w r => H1 r = some (.lst (w.map V.int))) W rs) : Sq (Itl K a) H1 W (fun w x H => ∃ r, x = .ref r ∧ H r = some (.lst (w.map V.int))) where
 go := fun i H s hi => (sq_list (SqL.of h)).go i H s (by rw [List.length_map, ← Paired.length hp]; exact hi)
 stop := fun H s => by
  have := (sq_list (K := K) (SqL.of h)).stop H s
  rwa [List.length_map, ← Paired.length hp] at this
 yld := fun i H x H' w s hw y => by
  obtain ⟨r, hr, hl⟩ := paired_at hp i w hw
  obtain ⟨s2, e⟩ := (sq_list (SqL.of h)).yld i H x H' (.ref r) s (by rw [List.getElem?_map, hr]; rfl) y
  exact ⟨s2, r, e, s2 _ _ (s _ _ hl)⟩
theorem p_app {α β : Type} {F : α → β → Prop} : ∀ {l1 l3 : List α} {l2 l4 : List β}, Paired F l1 l2 → Paired F l3 l4 → Paired F (l1 ++ l3) (l2 ++ l4)
 | _, _, _, _, .nil, t => t
 | _, _, _, _, .cons h u, t => .cons h (p_app u t)
theorem sc_all_sets : FnScope ["n", "sets", "strategy", "smaller"] ["n"] (defScope s_all_sets) := ⟨rfl, rfl, rfl, by decide +kernel, rfl, by decide +kernel, by decide +kernel⟩
theorem c_all_sets (T : Txt K mg) : Cal P w K mg base "all_sets" 1 ["n"] sp_all_sets := by
 refine cal_of T.d_all_sets sc_all_sets (fun vs H Q E h => ?_) (fun f cdv A outer s H vs Q E hr h => ?_)
 ·obtain ⟨n, rfl, _⟩ := h
  rfl
 ·obtain ⟨n, rfl, hn, k⟩ := h
  refine ⟨_, (pss_cons (ps_set (i := 1) sc_all_sets.nd rfl (by first | exact Or.inl rfl | exact Or.inr rfl) (pe_lst (pa_cons (pe_lst pa_nil) pa_nil)))
   (pss_cons (ps_for PassesOwn.never rfl (pi_range1 rfl T.b_range (pa_cons (pv 0) pa_nil)) (pg_name (i := 2) sc_all_sets.nd rfl (by first | exact Or.inl rfl | exact Or.inr rfl)) (pss_one (ps_set (i := 1) sc_all_sets.nd rfl (by first | exact Or.inl rfl | exact Or.inr rfl) (pe_op op_cat (pv 1) (pe_lc rfl sc_all_sets.nd (piL (K := K) rfl (pv 1)) (blkOk_by (own := [("smaller", 3)]) rfl) (fun _ _ _ _ _ => (pg_name (i := 3) sc_all_sets.nd rfl (by first | exact Or.inl rfl | exact Or.inr rfl))) (fun _ _ _ _ _ => pts_nil) (fun _ _ _ _ _ => (pe_op op_cat (pv 3) (pe_lst (pa_cons (pv 2) pa_nil)))))))))
   (pss_one (ps_ret (pv 1))))), ?_⟩
  refine ⟨Nat.zero_le _, fun e0 he0 => ⟨by show 1 ≤ sizeLine; decide, fun l0 hl0 => ?_⟩⟩
  have s0 := (same_upd (o := .lst []) he0).trans (same_upd (o := .lst [.ref e0]) hl0)
  refine ⟨_, rfl, _, rfl, by omega, by omega, ?_⟩
  rw [show ((n : Nat) : Int).toNat = n by omega]
  refine for_range (lo := 0) (n := n) (fun i σ H' => ∃ (l : Addr) (v2 : Option V), σ = [some (.int n), some (.ref l), v2, none] ∧ Same H H' ∧ H l = none ∧ LO H' l ((allSetsG i).map nI)) ?_ ?_ ?_
  ·refine ⟨l0, none, rfl, s0, (same_upd (o := .lst []) he0).free hl0, [e0], upd_same, .cons ?_ .nil⟩
   exact same_upd hl0 _ _ upd_same
  ·rintro i σ H1 hi ⟨l, v2, rfl, s1, hl, rs, hl1, hp1⟩
   rw [show (0 : Int) + (i : Int) = (i : Int) by omega]
   have hz : rs.length = 2 ^ i := by rw [← Paired.length hp1, List.length_map, allG_len]
   have hz2 : 2 ^ i ≤ 16 := by
    have : i = 0 ∨ i = 1 ∨ i = 2 ∨ i = 3 := by omega
    rcases this with rfl | rfl | rfl | rfl <;> decide
   refine ⟨_, rfl, _, rfl, l, rfl, ⟨_, SqL.of hl1⟩, fun D hD => ?_⟩
   refine lc_lists (sq_own (K := K) hl1 hp1) hD (fun r => (r ++ [(i : Int)]).map V.int) (by rw [List.length_map, allG_len]; exact le_line (by omega)) ?_ gm_name ?_
   ·rintro r hr2 _ H2 R s2 ⟨q, rfl, hq⟩ kR
    refine ⟨rfl, _, rfl, _, rfl, by show 1 ≤ sizeLine; decide, fun t ht => ⟨q, t, _, _, rfl, rfl, same_upd ht _ _ hq, upd_same, ?_, fun p hp => ?_⟩⟩
    ·obtain ⟨S, hS, rfl⟩ := List.mem_map.mp hr2
     have h1 := allG_short i S hS
     rw [List.length_map, List.length_map]
     have : (1000 : Nat) ≤ sizeLine := by decide
     show S.length + 1 ≤ sizeLine
     omega
    ·have st : Same H2 (upd H2 t (.lst [.int (i : Int)])) := same_upd ht
     refine kR _ p (st.free hp) ?_ (st.trans (same_upd hp))
     rw [upd_same, List.map_append]
     rfl
   ·intro H2 rs2 s2 hD2 hp2 hnew
    have hlD : l ≠ D := ne_of_none hl1 hD
    refine ⟨l, D, _, _, rfl, rfl, s2 _ _ hl1, hD2, ?_, fun p hp => ?_⟩
    ·rw [List.length_map, List.length_map, ← Paired.length hp2, List.length_map, allG_len, hz]
     have : (1000 : Nat) ≤ sizeLine := by decide
     omega
    ·refine ⟨p, _, rfl, (s1.trans s2).trans (same_upd hp), (s1.trans s2).free hp, rs ++ rs2, ?_, ?_⟩
     ·rw [upd_same, List.map_append]
     ·have sp := same_upd (o := .lst (rs.map V.ref ++ rs2.map V.ref)) hp
      unfold allSetsG
      rw [List.map_append]
      refine p_app (pmap (fun _ _ q => sp _ _ (s2 _ _ q)) hp1) ?_
      have e : (List.map (fun l => l ++ [i]) (allSetsG i)).map nI = ((allSetsG i).map nI).map fun r => r ++ [(i : Int)] := by
       rw [List.map_map, List.map_map]
       apply List.map_congr_left
       intro l _
       simp [nI]
      rw [e]
      exact p_map (pmap (fun _ _ q => sp _ _ q) hp2)
  ·rintro σ H1 ⟨l, v2, rfl, s1, hl, hlo⟩
   exact ⟨_, rfl, k H1 l s1 hl hlo⟩
end
end Cw
end
section
set_option Elab.async false
set_option linter.all false
set_option maxRecDepth 100000
namespace Cw
open PySem PySem.Spec PyProof.Rows L2
def cut (H : Hp) (d : Addr) : Hp := fun b => if b = d then none else H b
theorem cut_same {H : Hp} {d : Addr} : Same (cut H d) H := fun b o e => by
 unfold cut at e
 split at e
 ·cases e
 ·exact e
theorem cut_of {H H' : Hp} {d : Addr} (h : H d = none) (s : Same H H') : Same H (cut H' d) := fun b o e => by
 unfold cut
 rw [if_neg (ne_of_none e h)]
 exact s b o e
theorem cut_at {H : Hp} {d b : Addr} {o : HO} (h : H b = some o) (hb : b ≠ d) : cut H d b = some o := by
 unfold cut
 rw [if_neg hb]
 exact h
theorem cut_none {H : Hp} {d : Addr} : cut H d d = none := if_pos rfl
theorem LO.cut {H : Hp} {a d : Addr} {W : List (List Int)} {kvs : List (Key × V)} (h : LO H a W) (hd : H d = some (.dK kvs)) : LO (cut H d) a W := by
 obtain ⟨rs, h1, h2⟩ := h
 exact ⟨rs, cut_at h1 (ne_of h1 hd (by intro z; cases z)), pmap (fun _ _ q => cut_at q (ne_of q hd (by intro z; cases z))) h2⟩
theorem sq_enumL {K : PySem.W.Frag} {H1 : Hp} {a : Addr} {W : List (List Int)} (ha : LL K H1 a W) : Sq (Ite K a) H1 ((List.range W.length).zip W) (fun p x H => ∃ T q, x = .ref T ∧ H T = some (.tup [.int (p.1 : Nat), .ref q]) ∧ LI K H q p.2) := by
 obtain ⟨rs, h1, h2⟩ := ha
 have hl : rs.length = W.length := (Paired.length h2).symm
 refine ⟨fun i H s hi => (sq_enum h1).go i H s (by simpa [hl] using hi), fun H s => ?_, fun i H x H' p s hp y => ?_⟩
 ·have := (sq_enum (K := K) h1).stop H s
  simpa [hl] using this
 ·have q := List.getElem?_zip_eq_some.mp hp
  obtain ⟨r, hr, hq⟩ := paired_at h2 i p.2 q.2
  have := (sq_enum h1).yld i H x H' (p.1, .ref r) s (by
   rw [List.getElem?_zip_eq_some, List.length_map, List.getElem?_map, hr, hl]
   exact ⟨q.1, rfl⟩) y
  obtain ⟨s2, T, e, hT⟩ := this
  exact ⟨s2, T, r, e, hT, (s.trans s2).seq hq⟩
theorem allG_lt (n : Nat) : ∀ S ∈ allSetsG n, ∀ i ∈ S, i < n := by
 induction n with
 | zero => intro S h; simp [allSetsG] at h; subst h; intro i hi; simp at hi
 | succ n ih =>
  intro S h
  unfold allSetsG at h
  rcases List.mem_append.mp h with h | h
  ·exact fun i hi => Nat.lt_succ_of_lt (ih S h i hi)
  ·obtain ⟨l, hl, rfl⟩ := List.mem_map.mp h
   intro i hi
   rcases List.mem_append.mp hi with hi | hi
   ·exact Nat.lt_succ_of_lt (ih l hl i hi)
   ·simp at hi; omega
def restOf (W : List (List Int)) (S : List Nat) : Option (List Int) := match levelW W S with
 | none => none
 | some ws => if restP W S ws = true then some ws else none
def restL (W : List (List Int)) (l : List (Nat × List Nat)) : List (Nat × List Int) := l.filterMap fun p => (restOf W p.2).map fun ws => (p.1, ws)
def restingM (W : List (List Int)) : List (Nat × List Int) := restL W ((List.range (2 ^ W.length)).zip (allSetsG W.length))
def kvsOf (L : List (Nat × List Int)) (rs : List Addr) : List (Key × V) := List.zipWith (fun p r => ((Sum.inl (p.1 : Int) : Key), V.ref r)) L rs
theorem kvs_snoc : ∀ (L : List (Nat × List Int)) (rs : List Addr) (p : Nat × List Int) (r : Addr), L.length = rs.length → kvsOf (L ++ [p]) (rs ++ [r]) = kvsOf L rs ++ [(Sum.inl (p.1 : Int), .ref r)]
 | [], [], _, _, _ => rfl
 | [], _ :: _, _, _, h => by simp at h
 | _ :: _, [], _, _, h => by simp at h
 | q :: L, x :: rs, p, r, h => by
  have := kvs_snoc L rs p r (by simpa using h)
  unfold kvsOf at this ⊢
  rw [List.cons_append, List.cons_append, List.zipWith_cons_cons, this]
  rfl
theorem kvs_len (L : List (Nat × List Int)) (rs : List Addr) : (kvsOf L rs).length ≤ L.length := by
 unfold kvsOf
 rw [List.length_zipWith]
 exact Nat.min_le_left _ _
theorem kvs_key {L : List (Nat × List Int)} {rs : List Addr} {kv : Key × V} (h : kv ∈ kvsOf L rs) : ∃ p ∈ L, kv.1 = Sum.inl (p.1 : Int) := by
 unfold kvsOf at h
 rw [zip_with] at h
 obtain ⟨q, hq, rfl⟩ := List.mem_map.mp h
 exact ⟨q.1, (List.of_mem_zip hq).1, rfl⟩
theorem putK_new {L : List (Nat × List Int)} {rs : List Addr} {i : Nat} {v : V} (h : ∀ p ∈ L, p.1 < i) : putK (kvsOf L rs) (Sum.inl (i : Int)) v = kvsOf L rs ++ [(Sum.inl (i : Int), v)] := by
 unfold putK
 rw [if_neg]
 intro e
 obtain ⟨kv, hk, e⟩ := List.any_eq_true.mp e
 obtain ⟨p, hp, e2⟩ := kvs_key hk
 have := of_decide_eq_true e
 rw [e2] at this
 have := Sum.inl.inj this
 have := h p hp
 omega
theorem restL_lt (W : List (List Int)) (l : List (Nat × List Nat)) (i : Nat) (h : ∀ p ∈ l, p.1 < i) : ∀ p ∈ restL W l, p.1 < i := by
 intro p hp
 unfold restL at hp
 obtain ⟨q, hq, e⟩ := List.mem_filterMap.mp hp
 cases e2 : restOf W q.2 with
 | none => rw [e2] at e; cases e
 | some ws => rw [e2] at e; cases e; exact h q hq
theorem restL_snoc (W : List (List Int)) (l : List (Nat × List Nat)) (p : Nat × List Nat) : restL W (l ++ [p]) = restL W l ++ (match restOf W p.2 with | none => [] | some ws => [(p.1, ws)]) := by
 unfold restL
 rw [List.filterMap_append]
 congr 1
 cases e : restOf W p.2 with
 | none => simp [e]
 | some ws => simp [e]
theorem zip_take_lt {α : Type} {n : Nat} {l : List α} {i : Nat} : ∀ p ∈ ((List.range n).zip l).take i, p.1 < i := by
 intro p hp
 obtain ⟨j, hj⟩ := List.mem_iff_getElem?.mp hp
 have hji : j < i := by
  have := (List.getElem?_eq_some_iff.mp hj).1
  rw [List.length_take] at this
  omega
 rw [List.getElem?_take_of_lt hji] at hj
 have q := (List.getElem?_zip_eq_some.mp hj).1
 have := (List.getElem?_eq_some_iff.mp q)
 obtain ⟨h1, h2⟩ := this
 rw [List.getElem_range] at h2
 omega
theorem level_few {W : List (List Int)} {S : List Nat} {ws : List Int} (hW : Sqr 4 200 W) (hl : S.length ≤ 4) (h : levelW W S = some ws) : ws.length = W.length ∧ ∀ x ∈ ws, Few 6500 x := by
 unfold levelW at h
 cases e : solveI (S.length + 1) (eqsI W S) with
 | none => rw [e] at h; cases h
 | some sol =>
  rw [e] at h
  have := Option.some.inj h
  subst this
  refine ⟨weightsM_len _ _ _, ?_⟩
  have hf := solveI_few (by omega) (eqs_len W S) (eqs_row W S) (eqs_few (by decide) hW.few) e
  unfold weightsM
  have : ∀ (l : List (Nat × Int)) (w : List Int), (∀ p ∈ l, Few 6500 p.2) → (∀ x ∈ w, Few 6500 x) → ∀ x ∈ l.foldl (fun w p => w.set p.1 p.2) w, Few 6500 x := by
   intro l
   induction l with
   | nil => intro w _ h x hx; exact h x hx
   | cons p l ih =>
    intro w h1 h2
    refine ih _ (fun q hq => h1 q (List.Mem.tail _ hq)) fun x hx => ?_
    rcases List.mem_or_eq_of_mem_set hx with hx | rfl
    ·exact h2 x hx
    ·exact h1 p (List.Mem.head _)
  refine this _ _ (fun p hp => hf _ (List.of_mem_zip hp).2) fun x hx => ?_
  rw [List.eq_of_mem_replicate hx]
  exact few_zero
section
variable {P : Program} {w : World} {K : PySem.W.Frag} {mg : Str → Option Value} {base : Heap}
theorem Sqr.mat {W : List (List Int)} (h : Sqr 4 200 W) : Mat 1000 8000 W := ⟨Nat.le_trans h.len (by decide), fun r hr => by rw [h.row r hr]; exact Nat.le_trans h.len (by decide), fun r hr x hx => few_mono (h.few r hr x hx) (by decide)⟩
def sp_resting_sets (K : PySem.W.Frag) : Sp := fun vs H Q _ => ∃ (a : Addr) (W : List (List Int)), vs = [.ref a] ∧ LL K H a W ∧ Sqr 4 200 W ∧
 ∀ H' d rs, Same H H' → H d = none → H' d = some (.dK (kvsOf (restingM W) rs)) → Paired (fun p r => H' r = some (.lst (p.2.map V.int))) (restingM W) rs → Q (.ref d) H'
theorem sc_resting_sets : FnScope ["wins", "resting", "number", "strategies", "weights"] ["wins"] (defScope s_resting_sets) := ⟨rfl, rfl, rfl, by decide +kernel, rfl, by decide +kernel, by decide +kernel⟩
theorem c_resting_sets (T : Txt K mg) : Cal P w K mg base "resting_sets" 5 ["wins"] (sp_resting_sets K) := by
 have c_all_sets := c_all_sets (P := P) (w := w) (base := base) T
 have c_level_weights := c_level_weights (P := P) (w := w) (base := base) T
 have c_is_at_rest := c_is_at_rest (P := P) (w := w) (base := base) T
 refine cal_of T.d_resting_sets sc_resting_sets (fun vs H Q E h => ?_) (fun f cdv A outer s H vs Q E hr h => ?_)
 ·obtain ⟨a, W, rfl, _⟩ := h
  rfl
 ·obtain ⟨a, W, rfl, ha, hW, k⟩ := h
  refine ⟨_, (pss_cons (ps_set (i := 1) sc_resting_sets.nd rfl (by first | exact Or.inl rfl | exact Or.inr rfl) pe_dnewK)
   (pss_cons (ps_for PassesOwn.never rfl (piE (K := K) rfl T.b_enumerate (pa_cons (pe_cal c_all_sets (hr.mono (by decide)) (pa_cons (pe_callB (crLen (K := K) rfl) rfl T.b_len (by decide +kernel) (pa_cons (pv 0) pa_nil)) pa_nil)) pa_nil)) (pgT (K := K) (n := 2) rfl rfl (pgs_cons (pg_name (i := 2) sc_resting_sets.nd rfl (by first | exact Or.inl rfl | exact Or.inr rfl)) (pgs_cons (pg_name (i := 3) sc_resting_sets.nd rfl (by first | exact Or.inl rfl | exact Or.inr rfl)) pgs_nil))) (pss_cons (ps_set (i := 4) sc_resting_sets.nd rfl (by first | exact Or.inl rfl | exact Or.inr rfl) (pe_cal c_level_weights (hr.mono (by decide)) (pa_cons (pv 0) (pa_cons (pv 3) pa_nil))))
   (pss_one (ps_if (PW.pt (pw_and (pt_cmp (pc_notN (pv 4))) (pw_and1 (pt_val (pe_cal c_is_at_rest (hr.mono (by decide)) (pa_cons (pv 0) (pa_cons (pv 3) (pa_cons (pv 4) pa_nil)))))))) (pss_one (ps_dput (hu_of hr) (pv 1) (pv 2) (pv 4) rfl)) pss_nil))))
   (pss_one (ps_ret (pv 1))))), ?_⟩
  intro d hd
  have s0 := same_upd (o := .dK []) hd
  obtain ⟨xs, hxs, hxl⟩ := (ha.same s0).ex
  refine ⟨_, rfl, a, _, rfl, hxs, W.length, by rw [hxl]; rfl, hW.len, fun H1 r s1 hr0 hr1 => ?_⟩
  have hd1 : H1 d = some (.dK []) := s1 _ _ upd_same
  have sc : Same H (cut H1 d) := cut_of hd (s0.trans s1)
  have hlc := (hr1.cut hd1).ll (K := K)
  obtain ⟨ys, hys, hyl⟩ := (hr1.ll (K := K)).ex
  refine ⟨r, _, rfl, hys, for_sq (sq_enumL hlc) (fun i σ H' => ∃ (v2 v3 v4 : Option V) (rs : List Addr), σ = [some (.ref a), some (.ref d), v2, v3, v4] ∧ Same (cut H1 d) H' ∧
   H' d = some (.dK (kvsOf (restL W (((List.range (2 ^ W.length)).zip (allSetsG W.length)).take i)) rs)) ∧ Paired (fun p r => H' r = some (.lst (p.2.map V.int))) (restL W (((List.range (2 ^ W.length)).zip (allSetsG W.length)).take i)) rs) ?_ ?_ ?_ ?_⟩
  ·exact ⟨none, none, none, [], rfl, cut_same, hd1, .nil⟩
  ·rintro i σ H' ⟨_, _, _, _, _, s2, _⟩
   exact s2
  ·rintro i ⟨j, S'⟩ _ σ H2 H3 hi ⟨v2, v3, v4, rs, rfl, s2, hd2, hp2⟩ s3 ⟨t, q, rfl, ht, hq⟩
   have hz := List.getElem?_zip_eq_some.mp hi
   rw [List.length_map, allG_len] at hz
   obtain ⟨hz1, hz2⟩ := hz
   rw [List.getElem?_map] at hz2
   obtain ⟨S, hS1, hS2⟩ := Option.map_eq_some_iff.mp hz2
   dsimp only at hS2 hz1 hq
   subst hS2
   have hij : j = i := by
    obtain ⟨h1, h2⟩ := List.getElem?_eq_some_iff.mp hz1
    rw [List.getElem_range] at h2
    exact h2.symm
   subst hij
   have hmem : S ∈ allSetsG W.length := List.mem_of_getElem? hS1
   have hlt := allG_lt _ S hmem
   have hsh := allG_short _ S hmem
   have hi2 : ((List.range (2 ^ W.length)).zip (allSetsG W.length))[j]? = some (j, S) := List.getElem?_zip_eq_some.mpr ⟨hz1, hS1⟩
   have s13 : Same (cut H1 d) H3 := s2.trans s3
   have sH3 : Same H H3 := sc.trans s13
   have hlen4 := hW.len
   have hLL : (restL W (((List.range (2 ^ W.length)).zip (allSetsG W.length)).take j)).length = rs.length := Paired.length hp2
   have nonext : restOf W S = none → ∀ (u4 : Option V) H', Same H3 H' → ∃ (v2 v3 v4 : Option V) (rs : List Addr), [some (V.ref a), some (V.ref d), some (V.int (j : Int)), some (V.ref q), u4] = [some (.ref a), some (.ref d), v2, v3, v4] ∧ Same (cut H1 d) H' ∧
     H' d = some (.dK (kvsOf (restL W (((List.range (2 ^ W.length)).zip (allSetsG W.length)).take (j + 1))) rs)) ∧ Paired (fun p r => H' r = some (.lst (p.2.map V.int))) (restL W (((List.range (2 ^ W.length)).zip (allSetsG W.length)).take (j + 1))) rs := by
    intro e u4 H' s4
    refine ⟨_, _, _, rs, rfl, s13.trans s4, ?_, ?_⟩
    ·rw [take_snoc hi2, restL_snoc, e, List.append_nil]
     exact s4 _ _ (s3 _ _ hd2)
    ·rw [take_snoc hi2, restL_snoc, e, List.append_nil]
     exact pmap (fun _ _ q => s4 _ _ (s3 _ _ q)) hp2
   refine ⟨t, _, rfl, SqT.of ht, rfl, _, _, rfl, _, _, rfl, rfl, ?_⟩
   refine ⟨_, rfl, _, rfl, a, q, W, S, rfl, ha.same sH3, hq, hlt, hW, Nat.le_trans hsh hlen4, fun hn H4 s4 => ?_, fun ws hws H4 c s4 hc0 hc => ?_⟩
   ·refine ⟨_, rfl, _, rfl, iteF ?_⟩
    refine iteF ?_
    exact nonext (by unfold restOf; rw [hn]) _ H4 s4
   ·refine ⟨_, rfl, _, rfl, iteT ?_⟩
    obtain ⟨hwl, hwf⟩ := level_few hW (Nat.le_trans hsh hlen4) hws
    have s34 : Same H H4 := sH3.trans s4
    refine ⟨_, rfl, _, rfl, _, rfl, a, q, c, W, S, ws, rfl, ha.same s34, s4.seq hq, SqL.of hc, fun i hi => by rw [hwl]; exact hlt i hi, hW.mat, fun y hy => few_mono (hwf y hy) (by decide), by omega, fun H5 s5 => ?_⟩
    refine ⟨_, rfl, ite2 (fun h1 => ?_) (fun h1 => ?_)⟩
    ·have hd5 := (s4.trans s5) _ _ (s3 _ _ hd2)
     have hc5 := s5 _ _ hc
     have hcd : c ≠ d := ne_of hc5 hd5 (by intro z; cases z)
     have hr : restOf W S = some ws := by unfold restOf; rw [hws]; dsimp only; rw [if_pos h1]
     have hlts := restL_lt W (((List.range (2 ^ W.length)).zip (allSetsG W.length)).take j) j zip_take_lt
     refine ⟨_, rfl, _, rfl, _, rfl, d, _, rfl, DPut.k (k := Sum.inl (j : Int)) hd5 ?_, ?_⟩
     ·refine Nat.lt_of_le_of_lt (kvs_len _ _) ?_
      have h2 : (restL W (((List.range (2 ^ W.length)).zip (allSetsG W.length)).take j)).length ≤ 16 := by
       unfold restL
       refine Nat.le_trans (List.length_filterMap_le _ _) ?_
       rw [List.length_take, List.length_zip, List.length_range, allG_len]
       have : 2 ^ W.length ≤ 2 ^ 4 := Nat.pow_le_pow_right (by decide) hlen4
       omega
      have : (1000 : Nat) ≤ sizeLine := by decide
      omega
     ·rw [putK_new hlts]
      refine ⟨_, _, _, rs ++ [c], rfl, ?_, ?_, ?_⟩
      ·exact same_upd' ((s13.trans s4).trans s5) cut_none
      ·rw [take_snoc hi2, restL_snoc, hr, upd_same]
       dsimp only
       rw [kvs_snoc _ _ _ _ hLL]
      ·rw [take_snoc hi2, restL_snoc, hr]
       dsimp only
       refine Paired.snoc (pmap (fun p r q => ?_) hp2) ?_
       ·have q5 := (s4.trans s5) _ _ (s3 _ _ q)
        rw [upd_ne (ne_of q5 hd5 (by intro z; cases z))]
        exact q5
       ·rw [upd_ne hcd]
        exact hc5
    ·exact nonext (by unfold restOf; rw [hws]; dsimp only; rw [if_neg h1]) _ H5 (s4.trans s5)
  ·rintro σ H2 ⟨v2, v3, v4, rs, rfl, s2, hd2, hp2⟩
   have e : (((List.range (2 ^ W.length)).zip (allSetsG W.length)).take ((List.range ((allSetsG W.length).map nI).length).zip ((allSetsG W.length).map nI)).length) = (List.range (2 ^ W.length)).zip (allSetsG W.length) := by
    apply List.take_of_length_le
    rw [List.length_zip, List.length_zip, List.length_range, List.length_range, List.length_map, allG_len]
    exact Nat.le_refl _
   rw [e] at hd2 hp2
   exact ⟨_, rfl, k H2 d rs (sc.trans s2) hd hd2 hp2⟩
end
end Cw
end
section
set_option Elab.async false
set_option linter.all false
set_option maxRecDepth 100000
namespace Cw
open PySem PySem.Spec PyProof.Rows L2
def gW (W : List (List Int)) (i j : Nat) : Int := (W.getD i []).getD j 0
def bothI (W : List (List Int)) (i j : Nat) : Int := gW W i j + gW W j i
def lossI (W : List (List Int)) (m i j : Nat) : Int := bothI W i m + bothI W m j - bothI W i j - bothI W m m
def lossM (W : List (List Int)) (m : Nat) (l : List Nat) : List (List Int) := l.map fun i => l.map fun j => lossI W m i j
section
variable {P : Program} {w : World} {K : PySem.W.Frag} {mg : Str → Option Value} {base : Heap}
theorem LL.at2 {K : PySem.W.Frag} {H1 : Hp} {a : Addr} {W : List (List Int)} (h : LL K H1 a W) {i j : Nat} (hi : i < W.length) (hj : j < (W.getD i []).length) : ∃ (xs : List V) (r : Addr), SqL K H1 a xs ∧ atI xs (i : Int) = some (.ref r) ∧ LI K H1 r (W.getD i []) ∧ atI ((W.getD i []).map V.int) (j : Int) = some (.int (gW W i j)) := by
 obtain ⟨xs, r, h1, h2, h3⟩ := h.at hi
 exact ⟨xs, r, h1, h2, h3, ints_at hj⟩
theorem range_getD {α : Type} (f : Nat → α) (d : α) {n i : Nat} (h : i < n) : ((List.range n).map f).getD i d = f i := by
 rw [List.getD_eq_getElem?_getD, List.getElem?_map, List.getElem?_range h]
 rfl
def sp_loss_form (K : PySem.W.Frag) : Sp := fun vs H Q _ => ∃ (a b : Addr) (W : List (List Int)) (m : Nat) (l : List Nat), vs = [.ref a, .int m, .ref b] ∧ LL K H a W ∧ LI K H b (nI l) ∧ W.length ≤ 1000 ∧ (∀ r ∈ W, r.length = W.length) ∧ m < W.length ∧ (∀ i ∈ l, i < W.length) ∧ l.length ≤ 1000 ∧
 ∀ H' r, Same H H' → H r = none → LO H' r (lossM W m l) → Q (.ref r) H'
theorem sc_loss_form : FnScope ["wins", "base", "others", "both", "j", "i"] ["wins", "base", "others"] (defScope s_loss_form) := ⟨rfl, rfl, rfl, by decide +kernel, rfl, by decide +kernel, by decide +kernel⟩
theorem c_loss_form (T : Txt K mg) : Cal P w K mg base "loss_form" 1 ["wins", "base", "others"] (sp_loss_form K) := by
 refine cal_of T.d_loss_form sc_loss_form (fun vs H Q E h => ?_) (fun f cdv A outer s H vs Q E hr h => ?_)
 ·obtain ⟨a, b, W, m, l, rfl, _⟩ := h
  rfl
 ·obtain ⟨a, b, W, m, l, rfl, ha, hb, hn, hrow, hm, hl, hll, k⟩ := h
  refine ⟨_, (pss_cons (ps_set (i := 3) sc_loss_form.nd rfl (by first | exact Or.inl rfl | exact Or.inr rfl) (pe_lc rfl sc_loss_form.nd (pi_range1 rfl T.b_range (pa_cons (pe_callB (crLen (K := K) rfl) rfl T.b_len (by decide +kernel) (pa_cons (pv 0) pa_nil)) pa_nil)) (blkOk_by (own := [("i", 5)]) rfl) (fun _ _ _ _ _ => (pg_name (i := 5) sc_loss_form.nd rfl (by first | exact Or.inl rfl | exact Or.inr rfl))) (fun _ _ _ _ _ => pts_nil) (fun _ _ _ _ _ => (pe_lc rfl sc_loss_form.nd (pi_range1 rfl T.b_range (pa_cons (pe_callB (crLen (K := K) rfl) rfl T.b_len (by decide +kernel) (pa_cons (pv 0) pa_nil)) pa_nil)) (blkOk_by (own := [("j", 4)]) rfl) (fun _ _ _ _ _ => (pg_name (i := 4) sc_loss_form.nd rfl (by first | exact Or.inl rfl | exact Or.inr rfl))) (fun _ _ _ _ _ => pts_nil) (fun _ _ _ _ _ => (pe_op op_add (pe_ix (ixL (K := K) rfl) (pe_ix (ixL (K := K) rfl) (pv 0) (pv 5) (fun _ _ => rfl)) (pv 4) (fun _ _ => rfl)) (pe_ix (ixL (K := K) rfl) (pe_ix (ixL (K := K) rfl) (pv 0) (pv 4) (fun _ _ => rfl)) (pv 5) (fun _ _ => rfl))))))))
   (pss_one (ps_ret (pe_lc rfl sc_loss_form.nd (piL (K := K) rfl (pv 2)) (blkOk_by (own := [("i", 5)]) rfl) (fun _ _ _ _ _ => (pg_name (i := 5) sc_loss_form.nd rfl (by first | exact Or.inl rfl | exact Or.inr rfl))) (fun _ _ _ _ _ => pts_nil) (fun _ _ _ _ _ => (pe_lc rfl sc_loss_form.nd (piL (K := K) rfl (pv 2)) (blkOk_by (own := [("j", 4)]) rfl) (fun _ _ _ _ _ => (pg_name (i := 4) sc_loss_form.nd rfl (by first | exact Or.inl rfl | exact Or.inr rfl))) (fun _ _ _ _ _ => pts_nil) (fun _ _ _ _ _ => (pe_op op_sub (pe_op op_sub (pe_op op_add (pe_ix (ixL (K := K) rfl) (pe_ix (ixL (K := K) rfl) (pv 3) (pv 5) (fun _ _ => rfl)) (pv 1) (fun _ _ => rfl)) (pe_ix (ixL (K := K) rfl) (pe_ix (ixL (K := K) rfl) (pv 3) (pv 1) (fun _ _ => rfl)) (pv 4) (fun _ _ => rfl))) (pe_ix (ixL (K := K) rfl) (pe_ix (ixL (K := K) rfl) (pv 3) (pv 5) (fun _ _ => rfl)) (pv 4) (fun _ _ => rfl))) (pe_ix (ixL (K := K) rfl) (pe_ix (ixL (K := K) rfl) (pv 3) (pv 1) (fun _ _ => rfl)) (pv 1) (fun _ _ => rfl)))))))))), ?_⟩
  have hro : ∀ {i : Nat}, i < W.length → (W.getD i []).length = W.length := fun hi => hrow _ (getD_mem [] hi)
  obtain ⟨xs, hxs, hxl⟩ := ha.ex
  refine ⟨_, rfl, a, _, rfl, hxs, _, rfl, by rw [hxl]; omega, by rw [hxl]; omega, fun D hD => ?_⟩
  rw [hxl, show ((W.length : Nat) : Int).toNat = W.length by omega]
  refine lc_lists (sq_range (lo := 0) (n := W.length)) hD (fun i => ((List.range W.length).map fun j => bothI W i j).map V.int) (by rw [List.length_range]; exact le_line hn) ?_ gm_name ?_
  ·rintro i hi _ H1 R s1 rfl kR
   have hi' := List.mem_range.mp hi
   obtain ⟨xs1, hxs1, hxl1⟩ := (ha.same s1).ex
   rw [show (0 : Int) + (i : Int) = (i : Int) by omega]
   refine ⟨rfl, _, rfl, a, _, rfl, hxs1, _, rfl, by rw [hxl1]; omega, by rw [hxl1]; omega, fun D2 hD2 => ?_⟩
   rw [hxl1, show ((W.length : Nat) : Int).toNat = W.length by omega]
   refine lc_map (sq_range (lo := 0) (n := W.length)) hD2 (fun j => .int (bothI W i j)) (by rw [List.length_range]; exact le_line hn) ?_ gm_name ?_
   ·rintro j hj _ H2 R2 s2 rfl kR2
    have hj' := List.mem_range.mp hj
    rw [show (0 : Int) + (j : Int) = (j : Int) by omega]
    obtain ⟨x1, r1, p1, p2, p3, p4⟩ := (ha.same (s1.trans s2)).at2 hi' (show j < _ by rw [hro hi']; exact hj')
    obtain ⟨x2, r2, q1, q2, q3, q4⟩ := (ha.same (s1.trans s2)).at2 hj' (show i < _ by rw [hro hj']; exact hi')
    exact ⟨rfl, _, rfl, _, rfl, a, _, _, _, rfl, rfl, p1, p2, _, rfl, r1, _, _, _, rfl, rfl, p3, p4, _, rfl, _, rfl, a, _, _, _, rfl, rfl, q1, q2, _, rfl, r2, _, _, _, rfl, rfl, q3, q4, _, _, rfl, rfl, kR2 H2 (Same.refl _)⟩
   ·intro H2 s2 hD2'
    refine kR H2 D2 hD2 ?_ s2
    rw [hD2', List.map_map]
    rfl
  ·intro H1 rs s1 hD1 hp1 hnew
   have hbo : LL K H1 D ((List.range W.length).map fun i => (List.range W.length).map fun j => bothI W i j) := ⟨rs, SqL.of hD1, p_map (pmap (fun _ _ q => SqL.of q) hp1)⟩
   have at3 : ∀ {H2 : Hp} {i j : Nat}, Same H1 H2 → i < W.length → j < W.length → ∃ (xs : List V) (r : Addr) (row : List Int), SqL K H2 D xs ∧ atI xs (i : Int) = some (.ref r) ∧ LI K H2 r row ∧ atI (row.map V.int) (j : Int) = some (.int (bothI W i j)) := by
    intro H2 i j s2 hi hj
    have e : ((List.range W.length).map fun i => (List.range W.length).map fun j => bothI W i j).getD i [] = (List.range W.length).map fun j => bothI W i j := range_getD _ [] hi
    obtain ⟨xs, r, h1, h2, h3, h4⟩ := (hbo.same s2).at2 (i := i) (j := j) (by simpa using hi) (by rw [e]; simpa using hj)
    refine ⟨xs, r, _, h1, h2, h3, ?_⟩
    rw [h4, gW, e, range_getD _ 0 hj]
   refine ⟨_, rfl, b, rfl, ⟨_, s1.seq hb⟩, fun D2 hD2 => ?_⟩
   refine lc_lists (sq_nats (s1.seq hb)) hD2 (fun i => (l.map fun j => lossI W m i j).map V.int) (le_line hll) ?_ gm_name ?_
   ·rintro i hi _ H2 R s2 rfl kR
    have hi' := hl i hi
    refine ⟨rfl, _, rfl, b, rfl, ⟨_, (s1.trans s2).seq hb⟩, fun D3 hD3 => ?_⟩
    refine lc_map (sq_nats ((s1.trans s2).seq hb)) hD3 (fun j => .int (lossI W m i j)) (le_line hll) ?_ gm_name ?_
    ·rintro j hj _ H3 R3 s3 rfl kR3
     have hj' := hl j hj
     obtain ⟨x1, r1, o1, a1, b1, c1, d1⟩ := at3 (s2.trans s3) hi' hm
     obtain ⟨x2, r2, o2, a2, b2, c2, d2⟩ := at3 (s2.trans s3) hm hj'
     obtain ⟨x3, r3, o3, a3, b3, c3, d3⟩ := at3 (s2.trans s3) hi' hj'
     obtain ⟨x4, r4, o4, a4, b4, c4, d4⟩ := at3 (s2.trans s3) hm hm
     refine ⟨rfl, _, rfl, _, rfl, D, _, _, _, rfl, rfl, a1, b1, _, rfl, r1, _, _, _, rfl, rfl, c1, d1, ?_⟩
     refine ⟨_, rfl, _, rfl, D, _, _, _, rfl, rfl, a2, b2, _, rfl, r2, _, _, _, rfl, rfl, c2, d2, _, _, rfl, rfl, ?_⟩
     refine ⟨_, rfl, _, rfl, D, _, _, _, rfl, rfl, a3, b3, _, rfl, r3, _, _, _, rfl, rfl, c3, d3, _, _, rfl, rfl, ?_⟩
     exact ⟨_, rfl, _, rfl, D, _, _, _, rfl, rfl, a4, b4, _, rfl, r4, _, _, _, rfl, rfl, c4, d4, _, _, rfl, rfl, kR3 H3 (Same.refl _)⟩
    ·intro H3 s3 hD3'
     refine kR H3 D3 hD3 ?_ s3
     rw [hD3', List.map_map]
     rfl
   ·intro H2 rs2 s2 hD2' hp2 hnew2
    refine k H2 D2 (s1.trans s2) (s1.free hD2) ⟨rs2, hD2', ?_⟩
    unfold lossM
    exact p_map hp2
def badSet (F : List (List Int)) (S : List Nat) : Bool := match levelW F S with
 | none => false
 | some ws => (ws.all fun x => decide (0 ≤ x)) && decide (wsum (wonM F ws) ws ≤ 0)
def aboveM (F : List (List Int)) : Bool := !((allSetsG F.length).any fun S => badSet F S)
def sp_is_above_zero (K : PySem.W.Frag) : Sp := fun vs H Q _ => ∃ (a : Addr) (F : List (List Int)), vs = [.ref a] ∧ LL K H a F ∧ Sqr 4 200 F ∧ ∀ H', Same H H' → Q (.bl (aboveM F)) H'
theorem level_empty : levelW [] [] = none := by decide
theorem sc_is_above_zero : FnScope ["form", "strategies", "weights"] ["form"] (defScope s_is_above_zero) := ⟨rfl, rfl, rfl, by decide +kernel, rfl, by decide +kernel, by decide +kernel⟩
theorem c_is_above_zero (T : Txt K mg) : Cal P w K mg base "is_above_zero" 4 ["form"] (sp_is_above_zero K) := by
 have c_all_sets := c_all_sets (P := P) (w := w) (base := base) T
 have c_level_weights := c_level_weights (P := P) (w := w) (base := base) T
 have c_won_against := c_won_against (P := P) (w := w) (base := base) T
 have c_weighted_sum := c_weighted_sum (P := P) (w := w) (base := base) T
 refine cal_of T.d_is_above_zero sc_is_above_zero (fun vs H Q E h => ?_) (fun f cdv A outer s H vs Q E hr h => ?_)
 ·obtain ⟨a, F, rfl, _⟩ := h
  rfl
 ·obtain ⟨a, F, rfl, ha, hF, k⟩ := h
  refine ⟨_, (pss_cons (ps_for PassesOwn.never rfl (piL (K := K) rfl (pe_cal c_all_sets (hr.mono (by decide)) (pa_cons (pe_callB (crLen (K := K) rfl) rfl T.b_len (by decide +kernel) (pa_cons (pv 0) pa_nil)) pa_nil))) (pg_name (i := 1) sc_is_above_zero.nd rfl (by first | exact Or.inl rfl | exact Or.inr rfl)) (pss_cons (ps_set (i := 2) sc_is_above_zero.nd rfl (by first | exact Or.inl rfl | exact Or.inr rfl) (pe_cal c_level_weights (hr.mono (by decide)) (pa_cons (pv 0) (pa_cons (pv 1) pa_nil))))
   (pss_one (ps_if (PW.pt (pw_and (pt_cmp (pc_notN (pv 2))) (pw_and (pt_cmpR op_ge (pe_callB (crMin (K := K) rfl rfl) rfl T.b_min (by decide +kernel) (pa_cons (pv 2) pa_nil)) pe_int (nomark _)) (pw_and1 (pt_cmpR op_le (pe_cal c_weighted_sum (hr.mono (by decide)) (pa_cons (pe_cal c_won_against (hr.mono (by decide)) (pa_cons (pv 0) (pa_cons (pv 2) pa_nil))) (pa_cons (pv 2) pa_nil))) pe_int (nomark _)))))) (pss_one (ps_ret pe_bl)) pss_nil))))
   (pss_one (ps_ret pe_bl))), ?_⟩
  obtain ⟨xs, hxs, hxl⟩ := ha.ex
  refine ⟨_, rfl, a, _, rfl, hxs, F.length, by rw [hxl]; rfl, hF.len, fun H1 r s1 hr0 hr1 => ?_⟩
  obtain ⟨ys, hys, hyl⟩ := (hr1.ll (K := K)).ex
  refine ⟨r, rfl, ⟨_, hys⟩, for_sq (hr1.ll (K := K)).sq (fun i σ H' => ∃ (v1 v2 : Option V), σ = [some (.ref a), v1, v2] ∧ Same H1 H' ∧ ∀ S ∈ (allSetsG F.length).take i, badSet F S = false) ?_ ?_ ?_ ?_⟩
  ·exact ⟨none, none, rfl, Same.refl _, by simp⟩
  ·rintro i σ H' ⟨_, _, _, s2, _⟩
   exact s2
  ·rintro i S' _ σ H2 H3 hi ⟨v1, v2, rfl, s2, hg⟩ s3 ⟨q, rfl, hq⟩
   rw [List.getElem?_map] at hi
   obtain ⟨S, hS1, hS2⟩ := Option.map_eq_some_iff.mp hi
   subst hS2
   have hmem : S ∈ allSetsG F.length := List.mem_of_getElem? hS1
   have hlt := allG_lt _ S hmem
   have hsh := allG_short _ S hmem
   have hlen4 := hF.len
   have s03 : Same H H3 := s1.trans (s2.trans s3)
   have go : badSet F S = false → ∀ T ∈ (allSetsG F.length).take (i + 1), badSet F T = false := by
    intro hb T hT
    rw [take_snoc hS1] at hT
    rcases List.mem_append.mp hT with hT | hT
    ·exact hg T hT
    ·simp at hT; rw [hT]; exact hb
   refine ⟨_, rfl, _, rfl, a, q, F, S, rfl, ha.same s03, hq, hlt, hF, Nat.le_trans hsh hlen4, fun hn H4 s4 => ?_, fun ws hws H4 c s4 hc0 hc => ?_⟩
   ·refine ⟨_, rfl, _, rfl, iteF ?_⟩
    refine iteF ?_
    exact ⟨_, _, rfl, (s2.trans s3).trans s4, go (by unfold badSet; rw [hn])⟩
   ·refine ⟨_, rfl, _, rfl, iteT ?_⟩
    obtain ⟨hwl, hwf⟩ := level_few hF (Nat.le_trans hsh hlen4) hws
    have hpos : 0 < F.length := by
     apply Nat.pos_of_ne_zero
     intro e
     have eF : F = [] := List.eq_nil_of_length_eq_zero e
     subst eF
     have hS : S = [] := by simpa [allSetsG] using hmem
     subst hS
     rw [level_empty] at hws
     cases hws
    refine ⟨_, rfl, c, ws, rfl, SqL.of hc, by omega, fun m hm1 hm2 => ?_⟩
    refine ⟨_, _, rfl, rfl, _, rfl, ?_⟩
    have hall : (ws.all fun x => decide (0 ≤ x)) = decide (0 ≤ m) := by
     rw [Bool.eq_iff_iff, List.all_eq_true, decide_eq_true_iff]
     constructor
     ·intro h; exact of_decide_eq_true (h m hm1)
     ·intro h y hy; have := hm2 y hy; exact decide_eq_true (by omega)
    have s04 : Same H H4 := s03.trans s4
    refine ite2 (fun h1 => ?_) (fun h1 => ?_)
    ·have hm : (0 ≤ m) := of_decide_eq_true h1
     refine ⟨_, rfl, _, rfl, a, c, F, ws, rfl, ha.same s04, SqL.of hc, fun r hr2 => ⟨hF.mat.row r hr2, hF.mat.few r hr2⟩, fun y hy => few_mono (hwf y hy) (by decide), hF.mat.len, fun H5 u s5 hu0 hu => ?_⟩
     have hwonf : ∀ x ∈ wonM F ws, Few 8000 x := by
      intro x hx
      unfold wonM at hx
      obtain ⟨r, hr2, rfl⟩ := List.mem_map.mp hx
      exact few_mono (few_wsum (k := 2) (hF.few r hr2) hwf (by rw [hF.row r hr2]; omega)) (by decide)
     refine ⟨_, rfl, u, c, _, ws, rfl, SqL.of hu, SqL.of (s5 _ _ hc), hwonf, fun y hy => few_mono (hwf y hy) (by decide), by rw [wonM, List.length_map]; omega, fun H6 s6 => ?_⟩
     refine ⟨_, _, rfl, rfl, _, rfl, ite2 (fun h2 => ?_) (fun h2 => ?_)⟩
     ·have eb : badSet F S = true := by
       unfold badSet
       rw [hws]
       dsimp only
       rw [hall, h2, decide_eq_true hm]
       rfl
      have e : aboveM F = false := by
       unfold aboveM
       rw [Bool.not_eq_false', List.any_eq_true]
       exact ⟨S, hmem, eb⟩
      have := k H6 ((s04.trans s5).trans s6)
      rw [e] at this
      exact this
     ·refine ⟨_, _, rfl, (((s2.trans s3).trans s4).trans s5).trans s6, go ?_⟩
      unfold badSet
      rw [hws]
      dsimp only
      rw [show decide (wsum (wonM F ws) ws ≤ 0) = false by simpa using h2, Bool.and_false]
    ·refine iteF ?_
     refine ⟨_, _, rfl, (s2.trans s3).trans s4, go ?_⟩
     unfold badSet
     rw [hws]
     dsimp only
     rw [hall, show decide (0 ≤ m) = false by simpa using h1, Bool.false_and]
  ·rintro σ H2 ⟨v1, v2, rfl, s2, hg⟩
   have e : aboveM F = true := by
    unfold aboveM
    rw [List.length_map, List.take_length] at hg
    rw [Bool.not_eq_true', List.any_eq_false]
    intro S hS
    rw [hg S hS]
    decide
   have := k H2 (s1.trans s2)
   rw [e] at this
   exact this
end
end Cw
end
section
set_option Elab.async false
set_option linter.all false
set_option maxRecDepth 100000
namespace Cw
open PySem PySem.Spec PyProof.Rows L2
theorem cut_tail (xs : List V) : cutV xs (some 1) none = xs.tail := by
 unfold cutV
 have e : HT.sIx xs.length 0 (some 1) = min 1 xs.length := HT.sIx_nat xs.length 0 1
 rw [e, HT.sIx_none]
 cases xs with
 | nil => rfl
 | cons x xs =>
  rw [List.length_cons, show min 1 (xs.length + 1) = 1 by omega]
  simp
def insideM (p : List Int) : List Nat := (List.range p.length).filter fun i => decide (0 < p.getD i 0)
def outsideM (W : List (List Int)) (p : List Int) : List Nat := (bestP W p).filter fun i => decide (p.getD i 0 = 0)
def redOne (F : List (List Int)) : List (List Int) := F.tail.map fun r => (clearI (F.getD 0 []) 0 1 r).tail
def redM : Nat → List (List Int) → Bool
 | 0, F => aboveM F
 | k + 1, F => if gW F 0 0 ≤ 0 then false else redM k (redOne F)
def stableP (W : List (List Int)) (p : List Int) : Bool := restP W (insideM p) p && redM ((insideM p).length - 1) (lossM W ((insideM p).getD 0 0) ((insideM p).tail ++ outsideM W p))
theorem best_lt {W : List (List Int)} {p : List Int} : ∀ i ∈ bestP W p, i < W.length := by
 intro i hi
 unfold bestP bestM at hi
 exact List.mem_range.mp (List.mem_filter.mp hi).1
theorem inside_lt {p : List Int} : ∀ i ∈ insideM p, i < p.length := fun i hi => List.mem_range.mp (List.mem_filter.mp hi).1
theorem nodup_len {l : List Nat} {n : Nat} (h : l.Nodup) (hl : ∀ i ∈ l, i < n) : l.length ≤ n := card_le n l h hl
theorem stable_nodup (W : List (List Int)) (p : List Int) : (insideM p ++ outsideM W p).Nodup := by
 rw [List.nodup_append]
 refine ⟨List.nodup_range.filter _, (List.nodup_range.filter _).filter _, ?_⟩
 rintro a ha b hb rfl
 have h1 := of_decide_eq_true (List.mem_filter.mp ha).2
 have h2 := of_decide_eq_true (List.mem_filter.mp hb).2
 omega
theorem others_ok {W : List (List Int)} {p : List Int} (hp : p.length = W.length) : (∀ i ∈ (insideM p).tail ++ outsideM W p, i < W.length) ∧ ((insideM p).tail ++ outsideM W p).length + min 1 (insideM p).length ≤ W.length := by
 have h : ∀ i ∈ insideM p ++ outsideM W p, i < W.length := by
  intro i hi
  rcases List.mem_append.mp hi with hi | hi
  ·rw [← hp]; exact inside_lt i hi
  ·exact best_lt i (List.mem_filter.mp hi).1
 have h2 := nodup_len (stable_nodup W p) h
 constructor
 ·intro i hi
  apply h
  rcases List.mem_append.mp hi with hi | hi
  ·exact List.mem_append_left _ (List.mem_of_mem_tail hi)
  ·exact List.mem_append_right _ hi
 ·rw [List.length_append] at h2 ⊢
  rw [List.length_tail]
  omega
structure Frm (n b : Nat) (F : List (List Int)) : Prop where
 len : F.length = n
 row : ∀ r ∈ F, r.length = n
 few : ∀ r ∈ F, ∀ x ∈ r, Few b x
theorem few_gW {b : Nat} {W : List (List Int)} (h : ∀ r ∈ W, ∀ x ∈ r, Few b x) (i j : Nat) : Few b (gW W i j) := by
 unfold gW
 by_cases hi : i < W.length
 ·exact few_getD (h _ (getD_mem [] hi)) j
 ·rw [show W.getD i [] = [] by rw [List.getD_eq_getElem?_getD, List.getElem?_eq_none (by omega)]; rfl]
  exact few_getD (l := []) (by simp) j
theorem Frm.loss {W : List (List Int)} (h : ∀ r ∈ W, ∀ x ∈ r, Few 20 x) (m : Nat) (l : List Nat) : Frm l.length 24 (lossM W m l) where
 len := by simp [lossM]
 row := by
  intro r hr
  obtain ⟨i, _, rfl⟩ := List.mem_map.mp hr
  simp
 few := by
  intro r hr x hx
  obtain ⟨i, _, rfl⟩ := List.mem_map.mp hr
  obtain ⟨j, _, rfl⟩ := List.mem_map.mp hx
  have b : ∀ i j, Few 21 (bothI W i j) := fun i j => few_add (few_gW h i j) (few_gW h j i)
  exact few_sub (few_sub (few_add (b i m) (b m j)) (few_mono (b i j) (by decide))) (few_mono (b m m) (by decide))
theorem Frm.red {n b : Nat} {F : List (List Int)} (h : Frm (n + 1) b F) : Frm n (2 * b + 1) (redOne F) where
 len := by unfold redOne; rw [List.length_map, List.length_tail, h.len]; omega
 row := by
  intro r hr
  obtain ⟨q, hq, rfl⟩ := List.mem_map.mp hr
  rw [List.length_tail, clearI_len _ _ _ _ (n + 1) (h.row _ (getD_mem [] (by rw [h.len]; omega))) (h.row q (List.mem_of_mem_tail hq))]
  omega
 few := by
  intro r hr x hx
  obtain ⟨q, hq, rfl⟩ := List.mem_map.mp hr
  exact clear_few (h.few _ (getD_mem [] (by rw [h.len]; omega))) (h.few q (List.mem_of_mem_tail hq)) x (List.mem_of_mem_tail hx)
theorem grB_le2 {i : Nat} (h : i ≤ 3) : grB 24 i ≤ 200 := by
 have : i = 0 ∨ i = 1 ∨ i = 2 ∨ i = 3 := by omega
 rcases this with rfl | rfl | rfl | rfl <;> decide
theorem nI_getD (l : List Nat) {i : Nat} (h : i < l.length) : (nI l).getD i 0 = ((l.getD i 0 : Nat) : Int) := by
 rw [List.getD_eq_getElem?_getD, List.getElem?_map, List.getElem?_eq_getElem h, List.getD_eq_getElem?_getD, List.getElem?_eq_getElem h]
 rfl
theorem p_tail {α β : Type} {F : α → β → Prop} : ∀ {l1 : List α} {l2 : List β}, Paired F l1 l2 → Paired F l1.tail l2.tail
 | _, _, .nil => .nil
 | _, _, .cons h t => t
section
variable {P : Program} {w : World} {K : PySem.W.Frag} {mg : Str → Option Value} {base : Heap}
def sp_is_stable (K : PySem.W.Frag) : Sp := fun vs H Q _ => ∃ (a b : Addr) (W : List (List Int)) (p : List Int), vs = [.ref a, .ref b] ∧ LL K H a W ∧ LI K H b p ∧ Sqr 4 20 W ∧ p.length = W.length ∧ (∀ x ∈ p, Few 8000 x) ∧ 0 < (insideM p).length ∧ ∀ H', Same H H' → Q (.bl (stableP W p)) H'
theorem sc_is_stable : FnScope ["wins", "p", "inside", "i", "weight", "outside", "form", "strategy", "row"] ["wins", "p"] (defScope s_is_stable) := ⟨rfl, rfl, rfl, by decide +kernel, rfl, by decide +kernel, by decide +kernel⟩
theorem c_is_stable (T : Txt K mg) : Cal P w K mg base "is_stable" 5 ["wins", "p"] (sp_is_stable K) := by
 have c_is_at_rest := c_is_at_rest (P := P) (w := w) (base := base) T
 have c_best_replies := c_best_replies (P := P) (w := w) (base := base) T
 have c_loss_form := c_loss_form (P := P) (w := w) (base := base) T
 have c_cleared := c_cleared (P := P) (w := w) (base := base) T
 have c_is_above_zero := c_is_above_zero (P := P) (w := w) (base := base) T
 refine cal_of T.d_is_stable sc_is_stable (fun vs H Q E h => ?_) (fun f cdv A outer s H vs Q E hr h => ?_)
 ·obtain ⟨a, b, W, p, rfl, _⟩ := h
  rfl
 ·obtain ⟨a, b, W, p, rfl, ha, hb, hW, hpl, hpf, hin, k⟩ := h
  refine ⟨_, (pss_cons (ps_setLc (i := 2) rfl sc_is_stable.nd rfl rfl (sw_true rfl rfl rfl (by decide +kernel)) (piE (K := K) rfl T.b_enumerate (pa_cons (pv 1) pa_nil)) (blkOk_by (own := [("i", 3), ("weight", 4)]) rfl) (fun _ _ _ _ _ => (pgT (K := K) (n := 2) rfl rfl (pgs_cons (pg_name (i := 3) sc_is_stable.nd rfl (by first | exact Or.inl rfl | exact Or.inr rfl)) (pgs_cons (pg_name (i := 4) sc_is_stable.nd rfl (by first | exact Or.inl rfl | exact Or.inr rfl)) pgs_nil)))) (fun _ _ _ _ _ => (pts_one (pt_cmpR op_gt (pv 4) pe_int (nomark _)))) (fun _ _ _ _ _ => (pv 3)))
   (pss_cons (ps_if (pt_not (pt_val (pe_cal c_is_at_rest (hr.mono (by decide)) (pa_cons (pv 0) (pa_cons (pv 2) (pa_cons (pv 1) pa_nil)))))) (pss_one (ps_ret pe_bl)) pss_nil)
   (pss_cons (ps_setLc (i := 5) rfl sc_is_stable.nd rfl rfl (sw_true rfl rfl rfl (by decide +kernel)) (piL (K := K) rfl (pe_cal c_best_replies (hr.mono (by decide)) (pa_cons (pv 0) (pa_cons (pv 1) pa_nil)))) (blkOk_by (own := [("i", 3)]) rfl) (fun _ _ _ _ _ => (pg_name (i := 3) sc_is_stable.nd rfl (by first | exact Or.inl rfl | exact Or.inr rfl))) (fun _ _ _ _ _ => (pts_one (pt_cmpR op_eq (pe_ix (ixL (K := K) rfl) (pv 1) (pv 3) (fun _ _ => rfl)) pe_int (nomark _)))) (fun _ _ _ _ _ => (pv 3)))
   (pss_cons (ps_set (i := 6) sc_is_stable.nd rfl (by first | exact Or.inl rfl | exact Or.inr rfl) (pe_cal c_loss_form (hr.mono (by decide)) (pa_cons (pv 0) (pa_cons (pe_ix (ixL (K := K) rfl) (pv 2) pe_int (fun _ _ => rfl)) (pa_cons (pe_op op_cat (pe_slice (slL (K := K) rfl) (pv 2) (po_some pe_int) po_none) (pv 5)) pa_nil)))))
   (pss_cons (ps_for PassesOwn.never rfl (piL (K := K) rfl (pe_slice (slL (K := K) rfl) (pv 2) (po_some pe_int) po_none)) (pg_name (i := 7) sc_is_stable.nd rfl (by first | exact Or.inl rfl | exact Or.inr rfl)) (pss_cons (ps_if (pt_cmpR op_le (pe_ix (ixL (K := K) rfl) (pe_ix (ixL (K := K) rfl) (pv 6) pe_int (fun _ _ => rfl)) pe_int (fun _ _ => rfl)) pe_int (nomark _)) (pss_one (ps_ret pe_bl)) pss_nil)
   (pss_one (ps_set (i := 6) sc_is_stable.nd rfl (by first | exact Or.inl rfl | exact Or.inr rfl) (pe_lc rfl sc_is_stable.nd (piL (K := K) rfl (pe_slice (slL (K := K) rfl) (pv 6) (po_some pe_int) po_none)) (blkOk_by (own := [("row", 8)]) rfl) (fun _ _ _ _ _ => (pg_name (i := 8) sc_is_stable.nd rfl (by first | exact Or.inl rfl | exact Or.inr rfl))) (fun _ _ _ _ _ => pts_nil) (fun _ _ _ _ _ => (pe_slice (slL (K := K) rfl) (pe_cal c_cleared (hr.mono (by decide)) (pa_cons (pv 8) (pa_cons (pe_ix (ixL (K := K) rfl) (pv 6) pe_int (fun _ _ => rfl)) (pa_cons pe_int (pa_cons pe_int pa_nil))))) (po_some pe_int) po_none)))))))
   (pss_one (ps_ret (pe_cal c_is_above_zero (hr.mono (by decide)) (pa_cons (pv 6) pa_nil))))))))), ?_⟩
  have hlen4 := hW.len
  have hM : Mat 1000 8000 W := ⟨by omega, fun r hr => by rw [hW.row r hr]; omega, fun r hr x hx => few_mono (hW.few r hr x hx) (by decide)⟩
  obtain ⟨ho1, ho2⟩ := others_ok (W := W) hpl
  have hinl : (insideM p).length ≤ 4 := by
   have := nodup_len (l := insideM p) (List.nodup_range.filter _) inside_lt
   omega
  refine ⟨_, rfl, b, _, rfl, hb, fun D hD => ?_⟩
  refine lc_vals (sq_enumI hb) hD (fun q => decide (0 < q.2)) (fun q => .int (q.1 : Nat)) (by rw [List.length_zip, List.length_range, Nat.min_self, hpl]; exact le_line (by omega)) ?_ ?_
  ·rintro ⟨i, z⟩ hp _ H' R N s2 ⟨t, rfl, ht⟩ kR kN
   refine ⟨t, _, rfl, SqT.of ht, rfl, _, _, rfl, _, _, rfl, rfl, rfl, _, rfl, _, _, rfl, rfl, _, rfl, ite2 (fun h1 => ⟨_, rfl, kR h1 H' (Same.refl _)⟩) (fun h1 => kN (by simpa using h1) H' (Same.refl _))⟩
  ·intro H1 s1 hD1
   have hD1' : H1 D = some (.lst ((nI (insideM p)).map V.int)) := by
    rw [hD1, enum_filter p fun z => decide (0 < z), List.map_map, List.map_map]
    rfl
   have hiD : LI K H1 D (nI (insideM p)) := SqL.of hD1'
   refine ⟨_, rfl, _, rfl, _, rfl, a, D, b, W, insideM p, p, rfl, ha.same s1, hiD, s1.seq hb, inside_lt, hM, hpf, by omega, fun H2 s2 => ?_⟩
   refine ⟨_, rfl, ite2 (fun h1 => ?_) (fun h1 => ?_)⟩
   ·have e : stableP W p = false := by
     unfold stableP
     rw [show restP W (insideM p) p = false by simpa using h1, Bool.false_and]
    have := k H2 (s1.trans s2)
    rw [e] at this
    exact this
   have hrest : restP W (insideM p) p = true := by simpa using h1
   have es : stableP W p = redM ((insideM p).length - 1) (lossM W ((insideM p).getD 0 0) ((insideM p).tail ++ outsideM W p)) := by
    unfold stableP
    rw [hrest, Bool.true_and]
   rw [es] at k
   have s02 := s1.trans s2
   refine ⟨_, rfl, _, rfl, a, b, W, p, rfl, ha.same s02, s02.seq hb, hM, hpf, fun H3 r s3 hr0 hr1 => ?_⟩
   have s03 := s02.trans s3
   refine ⟨r, rfl, ⟨_, SqL.of hr1⟩, fun D2 hD2 => ?_⟩
   have hbl : (bestP W p).length ≤ 4 := Nat.le_trans (nodup_len (List.nodup_range.filter _) best_lt) hlen4
   refine lc_vals (sq_nats (K := K) (SqL.of hr1)) hD2 (fun i => decide (p.getD i 0 = 0)) (fun i => .int (i : Nat)) (le_line (by omega)) ?_ ?_
   ·rintro i hi _ H4 R N s4 rfl kR kN
    have hi' := best_lt i hi
    refine ⟨rfl, _, rfl, _, rfl, b, _, _, _, rfl, rfl, (s03.trans s4).seq hb, ints_at (by rw [hpl]; exact hi'), rfl, _, rfl, ite2 (fun h1 => ⟨_, rfl, kR (decV h1) H4 (Same.refl _)⟩) (fun h1 => kN (decVn h1) H4 (Same.refl _))⟩
   ·intro H4 s4 hD4
    have hD4' : H4 D2 = some (.lst ((nI (outsideM W p)).map V.int)) := by
     rw [hD4, List.map_map]
     rfl
    have hDi := s4 _ _ (s3 _ _ (s2 _ _ hD1'))
    refine ⟨_, rfl, _, rfl, D, _, _, _, rfl, rfl, SqL.of hDi, ints_at (i := 0) (by rw [List.length_map]; omega), ?_⟩
    refine ⟨_, rfl, _, rfl, D, _, rfl, SqL.of hDi, fun p1 hp1 => ?_⟩
    rw [cut_tail]
    refine ⟨_, rfl, p1, D2, _, _, rfl, rfl, upd_same, same_upd hp1 _ _ hD4', ?_, fun p2 hp2 => ?_⟩
    ·rw [List.length_tail, List.length_map, List.length_map, List.length_map, List.length_map]
     have h5 : (outsideM W p).length ≤ 4 := Nat.le_trans (List.length_filter_le _ _) hbl
     have : (1000 : Nat) ≤ sizeLine := by decide
     omega
    have s45 := (same_upd (o := .lst (((nI (insideM p)).map V.int).tail)) hp1).trans (same_upd (o := .lst (((nI (insideM p)).map V.int).tail ++ (nI (outsideM W p)).map V.int)) hp2)
    have hp2' : LI K (upd (upd H4 p1 (.lst (((nI (insideM p)).map V.int).tail))) p2 (.lst (((nI (insideM p)).map V.int).tail ++ (nI (outsideM W p)).map V.int))) p2 (nI ((insideM p).tail ++ outsideM W p)) := by
     refine SqL.of ?_
     rw [upd_same, ← List.map_tail, ← List.map_tail]
     simp only [nI, List.map_append]
    generalize upd (upd H4 p1 (.lst (((nI (insideM p)).map V.int).tail))) p2 (.lst (((nI (insideM p)).map V.int).tail ++ (nI (outsideM W p)).map V.int)) = H5 at s45 hp2'
    have s05 := (s03.trans s4).trans s45
    have hm0 : (insideM p).getD 0 0 < W.length := by rw [← hpl]; exact inside_lt _ (getD_mem 0 hin)
    refine ⟨a, p2, W, (insideM p).getD 0 0, _, ?_, ha.same s05, hp2', by omega, hW.row, hm0, ho1, by omega, fun H6 fr s6 hfr0 hfr => ?_⟩
    ·rw [nI_getD _ hin]
     rfl
    have s06 := s05.trans s6
    have hDi6 := s6 _ _ (s45 _ _ hDi)
    refine ⟨_, rfl, _, rfl, D, _, rfl, SqL.of hDi6, fun p3 hp3 => ?_⟩
    rw [cut_tail]
    have s67 := same_upd (o := .lst (((nI (insideM p)).map V.int).tail)) hp3
    have hp3' : LI K (upd H6 p3 (.lst (((nI (insideM p)).map V.int).tail))) p3 (nI (insideM p).tail) := by
     refine SqL.of ?_
     rw [upd_same, ← List.map_tail, ← List.map_tail]
    generalize upd H6 p3 (.lst (((nI (insideM p)).map V.int).tail)) = H7 at s67 hp3'
    have s07 := s06.trans s67
    have htl : (insideM p).tail.length = (insideM p).length - 1 := List.length_tail
    have hLl : (insideM p).length - 1 ≤ ((insideM p).tail ++ outsideM W p).length := by rw [List.length_append, htl]; omega
    refine ⟨p3, rfl, ⟨_, hp3'⟩, for_sq (sq_nats hp3') (fun i σ H' => ∃ (fr : Addr) (v7 : Option V) (F : List (List Int)), σ = [some (.ref a), some (.ref b), some (.ref D), none, none, some (.ref D2), some (.ref fr), v7, none] ∧ Same H7 H' ∧ LO H' fr F ∧
     Frm (((insideM p).tail ++ outsideM W p).length - i) (grB 24 i) F ∧ redM ((insideM p).length - 1) (lossM W ((insideM p).getD 0 0) ((insideM p).tail ++ outsideM W p)) = redM ((insideM p).length - 1 - i) F) ?_ ?_ ?_ ?_⟩
    ·exact ⟨fr, none, _, rfl, Same.refl _, hfr.same s67, Frm.loss hW.few _ _, rfl⟩
    ·rintro i σ H' ⟨_, _, _, _, s8, _⟩
     exact s8
    ·rintro i st _ σ H8 H9 hi ⟨fr, v7, F, rfl, s8, hF0, hFr, hred⟩ s9 rfl
     have hik : i < (insideM p).length - 1 := by rw [← htl]; exact (List.getElem?_eq_some_iff.mp hi).1
     have hF9 := hF0.same s9
     obtain ⟨n', hn'⟩ : ∃ n', ((insideM p).tail ++ outsideM W p).length - i = n' + 1 := ⟨((insideM p).tail ++ outsideM W p).length - i - 1, by omega⟩
     rw [hn'] at hFr
     have hF0l : 0 < F.length := by rw [hFr.len]; omega
     have hrow0 : (F.getD 0 []).length = n' + 1 := hFr.row _ (getD_mem [] hF0l)
     have hn4 : n' + 1 ≤ 4 := by omega
     obtain ⟨x1, r1, a1, b1, c1, d1⟩ := (hF9.ll (K := K)).at2 (i := 0) (j := 0) hF0l (by omega)
     refine ⟨_, rfl, fr, _, _, _, rfl, rfl, a1, b1, r1, _, _, _, rfl, rfl, c1, d1, _, _, rfl, rfl, _, rfl, ite2 (fun h2 => ?_) (fun h2 => ?_)⟩
     ·have e : redM ((insideM p).length - 1) (lossM W ((insideM p).getD 0 0) ((insideM p).tail ++ outsideM W p)) = false := by
       rw [hred, show (insideM p).length - 1 - i = ((insideM p).length - 1 - (i + 1)) + 1 by omega]
       unfold redM
       rw [if_pos (of_decide_eq_true h2)]
      have := k H9 (s07.trans (s8.trans s9))
      rw [e] at this
      exact this
     ·obtain ⟨rs, hfl, hfp⟩ := hF9
      refine ⟨_, rfl, _, rfl, fr, _, rfl, SqL.of hfl, fun p4 hp4 => ?_⟩
      rw [cut_tail, ← List.map_tail]
      have s10 := same_upd (o := .lst (rs.tail.map V.ref)) hp4
      have hp4' : upd H9 p4 (.lst (rs.tail.map V.ref)) p4 = some (.lst (rs.tail.map V.ref)) := upd_same
      generalize upd H9 p4 (.lst (rs.tail.map V.ref)) = H10 at s10 hp4'
      have hft : Paired (fun w r => H10 r = some (.lst (w.map V.int))) F.tail rs.tail := p_tail (pmap (fun _ _ q => s10 _ _ q) hfp)
      have hF10 : LO H10 fr F := ⟨rs, s10 _ _ hfl, pmap (fun _ _ q => s10 _ _ q) hfp⟩
      refine ⟨p4, rfl, ⟨_, SqL.of hp4'⟩, fun D3 hD3 => ?_⟩
      have hgr : grB 24 i ≤ 8000 := Nat.le_trans (grB_le2 (by omega)) (by decide)
      refine lc_lists (sq_own (K := K) hp4' hft) hD3 (fun r => ((clearI (F.getD 0 []) 0 1 r).tail).map V.int) (by rw [List.length_tail, hFr.len]; exact le_line (by omega)) ?_ gm_name ?_
      ·rintro r hr2 _ H11 R s11 ⟨q, rfl, hq⟩ kR
       have hrm := List.mem_of_mem_tail hr2
       obtain ⟨x2, r2, a2, b2, c2⟩ := ((hF10.same s11).ll (K := K)).at (i := 0) hF0l
       refine ⟨rfl, _, rfl, _, rfl, fr, _, _, _, rfl, rfl, a2, b2, ?_⟩
       refine ⟨q, r2, r, F.getD 0 [], 0, 1, rfl, SqL.of hq, c2, by rw [hFr.row r hrm]; omega, by omega, by rw [hFr.row r hrm]; omega, fun x hx => few_mono (hFr.few r hrm x hx) hgr, fun x hx => few_mono (hFr.few _ (getD_mem [] hF0l) x hx) hgr, by decide, few_lit 1 (by decide) (by decide), fun H12 u s12 hu0 hu => ?_⟩
       refine ⟨_, rfl, u, _, rfl, SqL.of hu, fun p5 hp5 => ?_⟩
       rw [cut_tail, ← List.map_tail]
       exact kR _ p5 (s12.free hp5) upd_same (s12.trans (same_upd hp5))
      ·intro H11 rs2 s11 hD11 hp11 hnew
       refine ⟨D3, _, redOne F, rfl, (((s8.trans s9).trans s10).trans s11), ⟨rs2, hD11, p_map hp11⟩, ?_, ?_⟩
       ·have := hFr.red
        rw [show ((insideM p).tail ++ outsideM W p).length - (i + 1) = n' by omega]
        exact this
       ·rw [hred, show (insideM p).length - 1 - i = ((insideM p).length - 1 - (i + 1)) + 1 by omega]
        conv => lhs; unfold redM
        rw [if_neg (fun q => h2 (decide_eq_true q))]
    ·rintro σ H8 ⟨fr, v7, F, rfl, s8, hF0, hFr, hred⟩
     rw [htl] at hFr hred
     refine ⟨_, rfl, fr, F, rfl, hF0.ll, ⟨by rw [hFr.len]; omega, fun r hr => by rw [hFr.row r hr, hFr.len], fun r hr x hx => few_mono (hFr.few r hr x hx) (grB_le2 (by omega))⟩, fun H9 s9 => ?_⟩
     have := k H9 (s07.trans (s8.trans s9))
     rw [hred, Nat.sub_self] at this
     exact this
end
end Cw
end
section
set_option Elab.async false
set_option linter.all false
set_option maxRecDepth 100000
namespace Cw
open PySem PySem.Spec PyProof.Rows L2
theorem line1 : 1 ≤ sizeLine := by decide
theorem line1000 : (1000 : Nat) ≤ sizeLine := by decide
theorem RetL.fin {Q : VK} {H H1 : Hp} {ns : List Int} {l : List V} (k : RetL Q H ns) (s : Same H H1) (e : l = ns.map V.int) : ∀ p, H1 p = none → Q (.ref p) (upd H1 p (.lst l)) := fun p hp =>
 k _ p (s.trans (same_upd hp)) (s.free hp) (by rw [upd_same, e])
theorem few_weights {n : Nat} {ws : List Int} (h : areWeights n ws = true) : ∀ x ∈ ws, Few 10 x := by
 intro x hx
 have := (weights_of h).2.1 x hx
 unfold Few
 omega
theorem few_wsumW {n : Nat} {ws : List Int} (h : areWeights n ws = true) (hn : n ≤ 4) : Few 12 ws.sum := by
 have h1 := few_sumk (k := 2) (few_weights h) (by rw [(weights_of h).1]; omega)
 exact h1
section
variable {P : Program} {w : World} {K : PySem.W.Frag} {mg : Str → Option Value} {base : Heap}
def leadM (p q won : List Int) : Int := wsum won p * q.sum - wsum won q * p.sum
def sp_lead (K : PySem.W.Frag) : Sp := fun vs H Q _ => ∃ (a b c : Addr) (p q won : List Int), vs = [.ref a, .ref b, .ref c] ∧ LI K H a p ∧ LI K H b q ∧ LI K H c won ∧ (∀ x ∈ p, Few 12 x) ∧ (∀ x ∈ q, Few 12 x) ∧ (∀ x ∈ won, Few 100 x) ∧ won.length ≤ 4 ∧ Few 12 p.sum ∧ Few 12 q.sum ∧
 ∀ H', Same H H' → Q (.int (leadM p q won)) H'
theorem sc_lead : FnScope ["p", "q", "won"] ["p", "q", "won"] (defScope s_lead) := ⟨rfl, rfl, rfl, by decide +kernel, rfl, by decide +kernel, by decide +kernel⟩
theorem c_lead (T : Txt K mg) : Cal P w K mg base "lead" 2 ["p", "q", "won"] (sp_lead K) := by
 have c_weighted_sum := c_weighted_sum (P := P) (w := w) (base := base) T
 refine cal_of T.d_lead sc_lead (fun vs H Q E h => ?_) (fun f cdv A outer s H vs Q E hr h => ?_)
 ·obtain ⟨a, b, c, p, q, won, rfl, _⟩ := h
  rfl
 ·obtain ⟨a, b, c, p, q, won, rfl, ha, hb, hc, fp, fq, fw, hl, sp, sq, k⟩ := h
  refine ⟨_, (pss_one (ps_ret (pe_op op_sub (pe_op op_mulB (pe_cal c_weighted_sum (hr.mono (by decide)) (pa_cons (pv 2) (pa_cons (pv 0) pa_nil))) (pe_callB (crSum (K := K) rfl rfl) rfl T.b_sum (by decide +kernel) (pa_cons (pv 1) pa_nil))) (pe_op op_mulB (pe_cal c_weighted_sum (hr.mono (by decide)) (pa_cons (pv 2) (pa_cons (pv 1) pa_nil))) (pe_callB (crSum (K := K) rfl rfl) rfl T.b_sum (by decide +kernel) (pa_cons (pv 0) pa_nil)))))), ?_⟩
  have f8 : ∀ {n : Nat} {l : List Int}, n ≤ 8000 → (∀ x ∈ l, Few n x) → ∀ x ∈ l, Few 8000 x := fun hn h x hx => few_mono (h x hx) hn
  refine ⟨_, rfl, _, rfl, c, a, won, p, rfl, hc, ha, f8 (by decide) fw, f8 (by decide) fp, by omega, fun H1 s1 => ?_⟩
  refine ⟨_, rfl, b, q, rfl, s1.seq hb, _, _, rfl, rfl, ⟨few_mono (few_wsum (k := 2) fw fp hl) (by decide), few_mono sq (by decide)⟩, ?_⟩
  refine ⟨_, rfl, _, rfl, c, b, won, q, rfl, s1.seq hc, s1.seq hb, f8 (by decide) fw, f8 (by decide) fq, by omega, fun H2 s2 => ?_⟩
  exact ⟨_, rfl, a, p, rfl, (s1.trans s2).seq ha, _, _, rfl, rfl, ⟨few_mono (few_wsum (k := 2) fw fq hl) (by decide), few_mono sp (by decide)⟩, _, _, rfl, rfl, k H2 (s1.trans s2)⟩
def sp_beats (K : PySem.W.Frag) : Sp := fun vs H Q _ => ∃ (a b : Addr) (W : List (List Int)) (l : List Nat) (i j : Nat), vs = [.ref a, .ref b, .int i, .int j] ∧ LL K H a W ∧ LI K H b (nI l) ∧ (∀ r ∈ W, r.length = W.length) ∧ i < W.length ∧ j < W.length ∧ (∀ k ∈ l, k < W.length) ∧ l.length ≤ 1000 ∧
 ∀ H', Same H H' → Q (.bl (beatsM W l i j)) H'
theorem sc_beats : FnScope ["wins", "there", "i", "j", "k"] ["wins", "there", "i", "j"] (defScope s_beats) := ⟨rfl, rfl, rfl, by decide +kernel, rfl, by decide +kernel, by decide +kernel⟩
theorem c_beats (T : Txt K mg) : Cal P w K mg base "beats" 1 ["wins", "there", "i", "j"] (sp_beats K) := by
 refine cal_of T.d_beats sc_beats (fun vs H Q E h => ?_) (fun f cdv A outer s H vs Q E hr h => ?_)
 ·obtain ⟨a, b, W, l, i, j, rfl, _⟩ := h
  rfl
 ·obtain ⟨a, b, W, l, i, j, rfl, ha, hb, hrow, hi, hj, hk, hl, k⟩ := h
  refine ⟨_, (pss_one (ps_ret (pe_callB (crAll (K := K) rfl rfl) rfl T.b_all (by decide +kernel) (pa_cons (pe_lc rfl sc_beats.nd (piL (K := K) rfl (pv 1)) (blkOk_by (own := [("k", 4)]) rfl) (fun _ _ _ _ _ => (pg_name (i := 4) sc_beats.nd rfl (by first | exact Or.inl rfl | exact Or.inr rfl))) (fun _ _ _ _ _ => pts_nil) (fun _ _ _ _ _ => (pe_cmpR op_gt (pe_ix (ixL (K := K) rfl) (pe_ix (ixL (K := K) rfl) (pv 0) (pv 2) (fun _ _ => rfl)) (pv 4) (fun _ _ => rfl)) (pe_ix (ixL (K := K) rfl) (pe_ix (ixL (K := K) rfl) (pv 0) (pv 3) (fun _ _ => rfl)) (pv 4) (fun _ _ => rfl)) (nomark _)))) pa_nil)))), ?_⟩
  have hro : ∀ {i : Nat}, i < W.length → (W.getD i []).length = W.length := fun hi => hrow _ (getD_mem [] hi)
  refine ⟨_, rfl, b, rfl, ⟨_, hb⟩, fun D hD => ?_⟩
  refine lc_map (sq_nats hb) hD (fun c => .bl (decide (gW W j c < gW W i c))) (le_line hl) ?_ gm_name ?_
  ·rintro c hc _ H1 R s1 rfl kR
   obtain ⟨x1, r1, a1, b1, c1, d1⟩ := (ha.same s1).at2 hi (show c < _ by rw [hro hi]; exact hk c hc)
   obtain ⟨x2, r2, a2, b2, c2, d2⟩ := (ha.same s1).at2 hj (show c < _ by rw [hro hj]; exact hk c hc)
   exact ⟨rfl, _, rfl, _, rfl, a, _, _, _, rfl, rfl, a1, b1, _, rfl, r1, _, _, _, rfl, rfl, c1, d1, _, rfl, _, rfl, a, _, _, _, rfl, rfl, a2, b2, _, rfl, r2, _, _, _, rfl, rfl, c2, d2, _, _, rfl, rfl, kR H1 (Same.refl _)⟩
  ·intro H1 s1 hD1
   refine ⟨D, l.map fun c => decide (gW W j c < gW W i c), rfl, SqL.of (by rw [hD1, List.map_map]; rfl), ?_⟩
   have := k H1 s1
   rw [List.all_map]
   exact this
def sp_unbeaten (K : PySem.W.Frag) : Sp := fun vs H Q _ => ∃ (a b : Addr) (W : List (List Int)) (l : List Nat), vs = [.ref a, .ref b] ∧ LL K H a W ∧ LI K H b (nI l) ∧ (∀ r ∈ W, r.length = W.length) ∧ (∀ k ∈ l, k < W.length) ∧ l.length ≤ 1000 ∧ RetL Q H (nI (unbeatenM W l))
theorem sc_unbeaten : FnScope ["wins", "there", "j", "i"] ["wins", "there"] (defScope s_unbeaten) := ⟨rfl, rfl, rfl, by decide +kernel, rfl, by decide +kernel, by decide +kernel⟩
theorem c_unbeaten (T : Txt K mg) : Cal P w K mg base "unbeaten" 2 ["wins", "there"] (sp_unbeaten K) := by
 have c_beats := c_beats (P := P) (w := w) (base := base) T
 refine cal_of T.d_unbeaten sc_unbeaten (fun vs H Q E h => ?_) (fun f cdv A outer s H vs Q E hr h => ?_)
 ·obtain ⟨a, b, W, l, rfl, _⟩ := h
  rfl
 ·obtain ⟨a, b, W, l, rfl, ha, hb, hrow, hk, hl, k⟩ := h
  refine ⟨_, (pss_one (ps_ret (pe_lc rfl sc_unbeaten.nd (piL (K := K) rfl (pv 1)) (blkOk_by (own := [("j", 2)]) rfl) (fun _ _ _ _ _ => (pg_name (i := 2) sc_unbeaten.nd rfl (by first | exact Or.inl rfl | exact Or.inr rfl))) (fun _ _ _ _ _ => (pts_one (pt_not (pt_val (pe_callB (crAny (K := K) rfl rfl) rfl T.b_any (by decide +kernel) (pa_cons (pe_lc rfl sc_unbeaten.nd (piL (K := K) rfl (pv 1)) (blkOk_by (own := [("i", 3)]) rfl) (fun _ _ _ _ _ => (pg_name (i := 3) sc_unbeaten.nd rfl (by first | exact Or.inl rfl | exact Or.inr rfl))) (fun _ _ _ _ _ => pts_nil) (fun _ _ _ _ _ => (pe_cal c_beats (hr.mono (by decide)) (pa_cons (pv 0) (pa_cons (pv 1) (pa_cons (pv 3) (pa_cons (pv 2) pa_nil))))))) pa_nil)))))) (fun _ _ _ _ _ => (pv 2))))), ?_⟩
  refine ⟨_, rfl, b, rfl, ⟨_, hb⟩, fun D hD => ?_⟩
  refine lc_vals (sq_nats hb) hD (fun j => !(l.any fun i => beatsM W l i j)) (fun j => .int (j : Nat)) (le_line hl) ?_ ?_
  ·rintro j hj _ H1 R N s1 rfl kR kN
   refine ⟨rfl, _, rfl, b, rfl, ⟨_, s1.seq hb⟩, fun D2 hD2 => ?_⟩
   refine lc_map (sq_nats (s1.seq hb)) hD2 (fun i => .bl (beatsM W l i j)) (le_line hl) ?_ gm_name ?_
   ·rintro i hi _ H2 R2 s2 rfl kR2
    exact ⟨rfl, _, rfl, _, rfl, _, rfl, _, rfl, a, b, W, l, i, j, rfl, ha.same (s1.trans s2), (s1.trans s2).seq hb, hrow, hk i hi, hk j hj, hk, hl, fun H3 s3 => kR2 H3 s3⟩
   ·intro H2 s2 hD2'
    refine ⟨D2, l.map fun i => beatsM W l i j, rfl, SqL.of (by rw [hD2', List.map_map]; rfl), ?_⟩
    rw [List.any_map]
    refine ⟨_, rfl, ite2 (fun h1 => ⟨_, rfl, kR h1 H2 s2⟩) (fun h1 => kN (by simpa using h1) H2 s2)⟩
  ·intro H1 s1 hD1
   refine k H1 D s1 hD ?_
   rw [hD1, List.map_map]
   rfl
def sp_answer_told : Sp := fun vs H Q _ => ∃ (a : Addr) (W : List (List Int)), vs = [.ref a] ∧ LO H a W ∧ W.length ≤ 4 ∧ (∀ r ∈ W, r.length ≤ 4) ∧ RetL Q H ((W.length : Int) :: W.flatten)
theorem sc_answer_told : FnScope ["wins", "answer", "row"] ["wins"] (defScope s_answer_told) := ⟨rfl, rfl, rfl, by decide +kernel, rfl, by decide +kernel, by decide +kernel⟩
theorem flat_len (W : List (List Int)) (h : ∀ r ∈ W, r.length ≤ 4) : W.flatten.length ≤ 4 * W.length := by
 induction W with
 | nil => simp
 | cons r W ih =>
  rw [List.flatten_cons, List.length_append, List.length_cons]
  have := ih fun q hq => h q (List.Mem.tail _ hq)
  have := h r (List.Mem.head _)
  omega
theorem c_answer_told (T : Txt K mg) : Cal P w K mg base "answer_told" 1 ["wins"] sp_answer_told := by
 refine cal_of T.d_answer_told sc_answer_told (fun vs H Q E h => ?_) (fun f cdv A outer s H vs Q E hr h => ?_)
 ·obtain ⟨a, W, rfl, _⟩ := h
  rfl
 ·obtain ⟨a, W, rfl, ha, hl, hr4, k⟩ := h
  refine ⟨_, (pss_cons (ps_set (i := 1) sc_answer_told.nd rfl (by first | exact Or.inl rfl | exact Or.inr rfl) (pe_lst (pa_cons (pe_callB (crLen (K := K) rfl) rfl T.b_len (by decide +kernel) (pa_cons (pv 0) pa_nil)) pa_nil)))
   (pss_cons (ps_for PassesOwn.never rfl (piL (K := K) rfl (pv 0)) (pg_name (i := 2) sc_answer_told.nd rfl (by first | exact Or.inl rfl | exact Or.inr rfl)) (pss_one (ps_expr (pe_bm PySem.F.plainAttrs_list PySem.F.slot_list_extend PySem.F.type_list_extend mt_extend (pv 1) (pa_cons (pv 2) pa_nil)))))
   (pss_one (ps_ret (pv 1))))), ?_⟩
  obtain ⟨rs, ha1, ha2⟩ := ha
  have hrl : rs.length = W.length := (Paired.length ha2).symm
  refine ⟨_, rfl, a, _, rfl, SqL.of ha1, line1, fun l hl0 => ?_⟩
  rw [List.length_map, hrl]
  have s1 := same_upd (o := .lst [.int (W.length : Nat)]) hl0
  refine ⟨_, rfl, a, rfl, ⟨_, SqL.of (s1 _ _ ha1)⟩, for_sq (sq_own (K := K) ha1 ha2) (fun i σ H' => ∃ v : Option V, σ = [some (.ref a), some (.ref l), v] ∧ Same H H' ∧ H' l = some (.lst (((W.length : Int) :: (W.take i).flatten).map V.int))) ?_ ?_ ?_ ?_⟩
  ·exact ⟨none, rfl, s1, upd_same⟩
  ·rintro i σ H' ⟨_, _, s2, _⟩
   exact s2
  ·rintro i r _ σ H2 H3 hi ⟨v, rfl, s2, hl2⟩ s3 ⟨q, rfl, hq⟩
   refine ⟨_, rfl, .inl ⟨rfl, _, SqL.of (s3 _ _ hl2)⟩, _, rfl, l, q, _, _, rfl, rfl, s3 _ _ hl2, hq, ?_, ?_⟩
   ·have h1 := flat_len (W.take i) fun r hr => hr4 r (List.mem_of_mem_take hr)
    have h2 : (W.take i).length ≤ 4 := by rw [List.length_take]; omega
    have h3 := hr4 r (List.mem_of_getElem? hi)
    have := line1000
    rw [List.length_map, List.length_map, List.length_cons]
    omega
   ·refine ⟨_, rfl, same_upd' (s2.trans s3) hl0, ?_⟩
    rw [upd_same, take_snoc hi, List.flatten_append, ← List.map_append]
    simp
  ·rintro σ H2 ⟨v, rfl, s2, hl2⟩
   refine ⟨_, rfl, k H2 l s2 hl0 ?_⟩
   rw [hl2, List.take_length]
def sp_answer_value (K : PySem.W.Frag) : Sp := fun vs H Q _ => ∃ (a b c : Addr) (W : List (List Int)) (p q : List Int), vs = [.ref a, .ref b, .ref c] ∧ LL K H a W ∧ Sqr 4 20 W ∧ LI K H b p ∧ LI K H c q ∧ p.length ≤ 16000 ∧ q.length ≤ 16000 ∧ RetL Q H (valueM W p q)
theorem Sqr.mat20 {W : List (List Int)} (h : Sqr 4 20 W) : Mat 1000 8000 W := ⟨Nat.le_trans h.len (by decide), fun r hr => by rw [h.row r hr]; exact Nat.le_trans h.len (by decide), fun r hr x hx => few_mono (h.few r hr x hx) (by decide)⟩
theorem Sqr.to200 {W : List (List Int)} (h : Sqr 4 20 W) : Sqr 4 200 W := ⟨h.len, h.row, fun r hr x hx => few_mono (h.few r hr x hx) (by decide)⟩
theorem few_won {W : List (List Int)} (h : Sqr 4 20 W) {ws : List Int} {n : Nat} (hw : ∀ x ∈ ws, Few n x) : ∀ x ∈ wonM W ws, Few (22 + n) x := by
 intro x hx
 unfold wonM at hx
 obtain ⟨r, hr2, rfl⟩ := List.mem_map.mp hx
 exact few_mono (few_wsum (k := 2) (h.few r hr2) hw (by rw [h.row r hr2]; exact h.len)) (by omega)
theorem sc_answer_value : FnScope ["wins", "p", "q"] ["wins", "p", "q"] (defScope s_answer_value) := ⟨rfl, rfl, rfl, by decide +kernel, rfl, by decide +kernel, by decide +kernel⟩
theorem c_answer_value (T : Txt K mg) : Cal P w K mg base "answer_value" 3 ["wins", "p", "q"] (sp_answer_value K) := by
 have c_are_weights := c_are_weights (P := P) (w := w) (base := base) T
 have c_fraction := c_fraction (P := P) (w := w) (base := base) T
 have c_weighted_sum := c_weighted_sum (P := P) (w := w) (base := base) T
 have c_won_against := c_won_against (P := P) (w := w) (base := base) T
 obtain ⟨t_OUT_OF_RANGE, h_OUT_OF_RANGE⟩ := T.k_OUT_OF_RANGE
 refine cal_of T.d_answer_value sc_answer_value (fun vs H Q E h => ?_) (fun f cdv A outer s H vs Q E hr h => ?_)
 ·obtain ⟨a, b, c, W, p, q, rfl, _⟩ := h
  rfl
 ·obtain ⟨a, b, c, W, p, q, rfl, ha, hW, hb, hc, hp, hq, k⟩ := h
  refine ⟨_, (pss_cons (ps_if (PW.pt (pw_or (pt_not (pt_val (pe_cal c_are_weights (hr.mono (by decide)) (pa_cons (pv 1) (pa_cons (pe_callB (crLen (K := K) rfl) rfl T.b_len (by decide +kernel) (pa_cons (pv 0) pa_nil)) pa_nil))))) (pw_or1 (pt_not (pt_val (pe_cal c_are_weights (hr.mono (by decide)) (pa_cons (pv 2) (pa_cons (pe_callB (crLen (K := K) rfl) rfl T.b_len (by decide +kernel) (pa_cons (pv 0) pa_nil)) pa_nil)))))))) (pss_one (ps_ret (pe_lst (pa_cons (pe_globI h_OUT_OF_RANGE) pa_nil)))) pss_nil)
   (pss_one (ps_ret (pe_op op_cat (pe_lst (pa_cons pe_int pa_nil)) (pe_cal c_fraction (hr.mono (by decide)) (pa_cons (pe_cal c_weighted_sum (hr.mono (by decide)) (pa_cons (pe_cal c_won_against (hr.mono (by decide)) (pa_cons (pv 0) (pa_cons (pv 2) pa_nil))) (pa_cons (pv 1) pa_nil))) (pa_cons (pe_op op_mulB (pe_callB (crSum (K := K) rfl rfl) rfl T.b_sum (by decide +kernel) (pa_cons (pv 1) pa_nil)) (pe_callB (crSum (K := K) rfl rfl) rfl T.b_sum (by decide +kernel) (pa_cons (pv 2) pa_nil))) pa_nil))))))), ?_⟩
  obtain ⟨xs, hxs, hxl⟩ := ha.ex
  have no : ∀ H', Same H H' → (areWeights W.length p && areWeights W.length q) = false → ∀ l, H' l = none → Q (.ref l) (upd H' l (.lst [.int (-1)])) := by
   intro H' s' e
   unfold valueM at k
   rw [e] at k
   exact k.fin s' rfl
  refine ⟨_, rfl, _, rfl, a, _, rfl, hxs, b, p, W.length, by rw [hxl]; rfl, hb, hp, fun H1 s1 => ⟨_, rfl, ite2 (fun h1 => ?_) (fun h1 => ?_)⟩⟩
  ·refine iteT ⟨line1, no H1 s1 ?_⟩
   rw [show areWeights W.length p = false by simpa using h1, Bool.false_and]
  ·obtain ⟨xs1, hxs1, hxl1⟩ := (ha.same s1).ex
   have h1' : areWeights W.length p = true := by simpa using h1
   refine ⟨_, rfl, _, rfl, a, _, rfl, hxs1, c, q, W.length, by rw [hxl1]; rfl, s1.seq hc, hq, fun H2 s2 => ⟨_, rfl, ite2 (fun h2 => ?_) (fun h2 => ?_)⟩⟩
   ·refine ⟨line1, no H2 (s1.trans s2) ?_⟩
    rw [show areWeights W.length q = false by simpa using h2, Bool.and_false]
   ·have h2' : areWeights W.length q = true := by simpa using h2
    have s12 := s1.trans s2
    have e : valueM W p q = 0 :: frI (wsum (wonM W q) p) (p.sum * q.sum) := by
     unfold valueM
     rw [h1', h2']
     rfl
    rw [e] at k
    refine ⟨line1, fun l hl0 => ?_⟩
    have s3 := same_upd (o := .lst [.int 0]) hl0
    have hl1 : upd H2 l (.lst [.int 0]) l = some (.lst [.int 0]) := upd_same
    generalize upd H2 l (.lst [.int 0]) = H3 at s3 hl1
    have s03 := s12.trans s3
    have f8 : ∀ {n : Nat} {l : List Int}, n ≤ 8000 → (∀ x ∈ l, Few n x) → ∀ x ∈ l, Few 8000 x := fun hn h x hx => few_mono (h x hx) hn
    refine ⟨_, rfl, _, rfl, a, c, W, q, rfl, ha.same s03, s03.seq hc, fun r hr2 => ⟨hW.mat20.row r hr2, hW.mat20.few r hr2⟩, f8 (by decide) (few_weights h2'), hW.mat20.len, fun H4 r s4 hr0 hr1 => ?_⟩
    have s04 := s03.trans s4
    refine ⟨_, rfl, r, b, _, p, rfl, SqL.of hr1, s04.seq hb, f8 (by decide) (few_won hW (few_weights h2')), f8 (by decide) (few_weights h1'), by rw [wonM, List.length_map]; have := hW.len; omega, fun H5 s5 => ?_⟩
    have s05 := s04.trans s5
    refine ⟨_, rfl, b, p, rfl, s05.seq hb, _, rfl, c, q, rfl, s05.seq hc, _, _, rfl, rfl, ⟨few_mono (few_wsumW h1' hW.len) (by decide), few_mono (few_wsumW h2' hW.len) (by decide)⟩, ?_⟩
    refine ⟨_, _, rfl, Int.mul_pos (weights_of h1').2.2 (weights_of h2').2.2, few_mono (few_mul (few_wsumW h1' hW.len) (few_wsumW h2' hW.len)) (by decide), fun r5 hr5 => ?_⟩
    refine ⟨l, r5, _, _, rfl, rfl, same_upd hr5 _ _ (s5 _ _ (s4 _ _ hl1)), upd_same, by show 1 + 2 ≤ sizeLine; decide, ?_⟩
    exact k.fin (s05.trans (same_upd hr5)) rfl
end
end Cw
end
section
set_option Elab.async false
set_option linter.all false
set_option maxRecDepth 100000
namespace Cw
open PySem PySem.Spec PyProof.Rows L2
theorem f8 {n : Nat} {l : List Int} (hn : n ≤ 8000) (h : ∀ x ∈ l, Few n x) : ∀ x ∈ l, Few 8000 x := fun x hx => few_mono (h x hx) hn
section
variable {P : Program} {w : World} {K : PySem.W.Frag} {mg : Str → Option Value} {base : Heap}
def repliesP (W : List (List Int)) (q : List Int) : List Int := if areWeights W.length q = true then 0 :: (frI (maxL (wonM W q)) q.sum ++ ((bestP W q).length : Int) :: nI (bestP W q)) else [-1]
def sp_answer_replies (K : PySem.W.Frag) : Sp := fun vs H Q _ => ∃ (a c : Addr) (W : List (List Int)) (q : List Int), vs = [.ref a, .ref c] ∧ LL K H a W ∧ Sqr 4 20 W ∧ 0 < W.length ∧ LI K H c q ∧ q.length ≤ 16000 ∧ RetL Q H (repliesP W q)
theorem sc_answer_replies : FnScope ["wins", "q", "best"] ["wins", "q"] (defScope s_answer_replies) := ⟨rfl, rfl, rfl, by decide +kernel, rfl, by decide +kernel, by decide +kernel⟩
theorem c_answer_replies (T : Txt K mg) : Cal P w K mg base "answer_replies" 4 ["wins", "q"] (sp_answer_replies K) := by
 have c_are_weights := c_are_weights (P := P) (w := w) (base := base) T
 have c_fraction := c_fraction (P := P) (w := w) (base := base) T
 have c_best_replies := c_best_replies (P := P) (w := w) (base := base) T
 have c_won_against := c_won_against (P := P) (w := w) (base := base) T
 obtain ⟨t_OUT_OF_RANGE, h_OUT_OF_RANGE⟩ := T.k_OUT_OF_RANGE
 refine cal_of T.d_answer_replies sc_answer_replies (fun vs H Q E h => ?_) (fun f cdv A outer s H vs Q E hr h => ?_)
 ·obtain ⟨a, c, W, q, rfl, _⟩ := h
  rfl
 ·obtain ⟨a, c, W, q, rfl, ha, hW, hpos, hc, hq, k⟩ := h
  refine ⟨_, (pss_cons (ps_if (pt_not (pt_val (pe_cal c_are_weights (hr.mono (by decide)) (pa_cons (pv 1) (pa_cons (pe_callB (crLen (K := K) rfl) rfl T.b_len (by decide +kernel) (pa_cons (pv 0) pa_nil)) pa_nil))))) (pss_one (ps_ret (pe_lst (pa_cons (pe_globI h_OUT_OF_RANGE) pa_nil)))) pss_nil)
   (pss_cons (ps_set (i := 2) sc_answer_replies.nd rfl (by first | exact Or.inl rfl | exact Or.inr rfl) (pe_cal c_best_replies (hr.mono (by decide)) (pa_cons (pv 0) (pa_cons (pv 1) pa_nil))))
   (pss_one (ps_ret (pe_op op_cat (pe_op op_cat (pe_op op_cat (pe_lst (pa_cons pe_int pa_nil)) (pe_cal c_fraction (hr.mono (by decide)) (pa_cons (pe_callB (crMax (K := K) rfl rfl) rfl T.b_max (by decide +kernel) (pa_cons (pe_cal c_won_against (hr.mono (by decide)) (pa_cons (pv 0) (pa_cons (pv 1) pa_nil))) pa_nil)) (pa_cons (pe_callB (crSum (K := K) rfl rfl) rfl T.b_sum (by decide +kernel) (pa_cons (pv 1) pa_nil)) pa_nil)))) (pe_lst (pa_cons (pe_callB (crLen (K := K) rfl) rfl T.b_len (by decide +kernel) (pa_cons (pv 2) pa_nil)) pa_nil))) (pv 2)))))), ?_⟩
  obtain ⟨xs, hxs, hxl⟩ := ha.ex
  refine ⟨_, rfl, _, rfl, a, _, rfl, hxs, c, q, W.length, by rw [hxl]; rfl, hc, hq, fun H1 s1 => ⟨_, rfl, ite2 (fun h1 => ?_) (fun h1 => ?_)⟩⟩
  ·refine ⟨line1, ?_⟩
   unfold repliesP at k
   rw [show areWeights W.length q = false by simpa using h1] at k
   exact k.fin s1 rfl
  ·have h1' : areWeights W.length q = true := by simpa using h1
   unfold repliesP at k
   rw [if_pos h1'] at k
   refine ⟨_, rfl, _, rfl, a, c, W, q, rfl, ha.same s1, s1.seq hc, hW.mat20, f8 (by decide) (few_weights h1'), fun H2 b s2 hb0 hb => ?_⟩
   have s02 := s1.trans s2
   refine ⟨line1, fun l hl0 => ?_⟩
   have s3 := same_upd (o := .lst [.int 0]) hl0
   have hl1 : upd H2 l (.lst [.int 0]) l = some (.lst [.int 0]) := upd_same
   generalize upd H2 l (.lst [.int 0]) = H3 at s3 hl1
   have s03 := s02.trans s3
   refine ⟨_, rfl, _, rfl, a, c, W, q, rfl, ha.same s03, s03.seq hc, fun r hr2 => ⟨hW.mat20.row r hr2, hW.mat20.few r hr2⟩, f8 (by decide) (few_weights h1'), hW.mat20.len, fun H4 r s4 hr0 hr1 => ?_⟩
   have s04 := s03.trans s4
   have hwl : (wonM W q).length = W.length := by rw [wonM, List.length_map]
   refine ⟨r, _, rfl, SqL.of hr1, by rw [hwl]; exact hpos, fun m hm1 hm2 => ?_⟩
   have em := maxL_eq hm1 hm2
   refine ⟨_, rfl, c, q, rfl, s04.seq hc, m, q.sum, rfl, (weights_of h1').2.2, few_mono (few_wsumW h1' hW.len) (by decide), fun r5 hr5 => ?_⟩
   have s5 := same_upd (o := .lst ((frI m q.sum).map V.int)) hr5
   refine ⟨l, r5, _, _, rfl, rfl, s5 _ _ (s4 _ _ hl1), upd_same, by show 1 + 2 ≤ sizeLine; decide, fun p1 hp1 => ?_⟩
   generalize upd H4 r5 (.lst ((frI m q.sum).map V.int)) = H5 at s5 hp1
   have s6 := same_upd (o := .lst ([V.int 0] ++ (frI m q.sum).map V.int)) hp1
   have hp1' : upd H5 p1 (.lst ([V.int 0] ++ (frI m q.sum).map V.int)) p1 = some (.lst ([V.int 0] ++ (frI m q.sum).map V.int)) := upd_same
   generalize upd H5 p1 (.lst ([V.int 0] ++ (frI m q.sum).map V.int)) = H6 at s6 hp1'
   have s46 := s5.trans s6
   have hb6 := s46 _ _ (s4 _ _ (s3 _ _ hb))
   refine ⟨_, rfl, b, _, rfl, SqL.of hb6, line1, fun l2 hl2 => ?_⟩
   have s7 := same_upd (o := .lst [.int (((nI (bestP W q)).map V.int).length : Nat)]) hl2
   refine ⟨p1, l2, _, _, rfl, rfl, s7 _ _ hp1', upd_same, by show 1 + 2 + 1 ≤ sizeLine; decide, fun p2 hp2 => ?_⟩
   generalize upd H6 l2 (.lst [.int (((nI (bestP W q)).map V.int).length : Nat)]) = H7 at s7 hp2
   have s8 := same_upd (o := .lst (([V.int 0] ++ (frI m q.sum).map V.int) ++ [.int (((nI (bestP W q)).map V.int).length : Nat)])) hp2
   refine ⟨_, rfl, p2, b, _, _, rfl, rfl, upd_same, s8 _ _ (s7 _ _ hb6), ?_, ?_⟩
   ·have hbl : (bestP W q).length ≤ 4 := Nat.le_trans (nodup_len (List.nodup_range.filter _) best_lt) hW.len
    have := line1000
    rw [List.length_map, List.length_map]
    show 1 + 2 + 1 + _ ≤ sizeLine
    omega
   ·refine k.fin ((s04.trans s46).trans (s7.trans s8)) ?_
    rw [em, List.length_map, List.length_map]
    simp
def sp_answer_survivors (K : PySem.W.Frag) : Sp := fun vs H Q _ => ∃ (a : Addr) (W : List (List Int)) (st : Vbecam.State), vs = [.ref a] ∧ LL K H a W ∧ StOk st W ∧ RetL Q H (Vbecam.act st .survivors).2
theorem sc_answer_survivors : FnScope ["wins", "there", "left"] ["wins"] (defScope s_answer_survivors) := ⟨rfl, rfl, rfl, by decide +kernel, rfl, by decide +kernel, by decide +kernel⟩
theorem c_answer_survivors (T : Txt K mg) : Cal P w K mg base "answer_survivors" 3 ["wins"] (sp_answer_survivors K) := by
 have c_unbeaten := c_unbeaten (P := P) (w := w) (base := base) T
 refine cal_of T.d_answer_survivors sc_answer_survivors (fun vs H Q E h => ?_) (fun f cdv A outer s H vs Q E hr h => ?_)
 ·obtain ⟨a, W, st, rfl, _⟩ := h
  rfl
 ·obtain ⟨a, W, st, rfl, ha, ok, k⟩ := h
  refine ⟨_, (pss_cons (ps_set (i := 1) sc_answer_survivors.nd rfl (by first | exact Or.inl rfl | exact Or.inr rfl) (pe_callTy (crListR rfl) rfl T.b_list (by decide +kernel) (pa_cons (pe_callTy crRange1 rfl T.b_range (by decide +kernel) (pa_cons (pe_callB (crLen (K := K) rfl) rfl T.b_len (by decide +kernel) (pa_cons (pv 0) pa_nil)) pa_nil)) pa_nil)))
   (pss_cons (ps_set (i := 2) sc_answer_survivors.nd rfl (by first | exact Or.inl rfl | exact Or.inr rfl) (pe_cal c_unbeaten (hr.mono (by decide)) (pa_cons (pv 0) (pa_cons (pv 1) pa_nil))))
   (pss_cons (ps_while PassesOwn.never (pt_cmpR op_lt (pe_callB (crLen (K := K) rfl) rfl T.b_len (by decide +kernel) (pa_cons (pv 2) pa_nil)) (pe_callB (crLen (K := K) rfl) rfl T.b_len (by decide +kernel) (pa_cons (pv 1) pa_nil)) (nomark _)) (pss_cons (ps_set (i := 1) sc_answer_survivors.nd rfl (by first | exact Or.inl rfl | exact Or.inr rfl) (pv 2))
   (pss_one (ps_set (i := 2) sc_answer_survivors.nd rfl (by first | exact Or.inl rfl | exact Or.inr rfl) (pe_cal c_unbeaten (hr.mono (by decide)) (pa_cons (pv 0) (pa_cons (pv 1) pa_nil)))))))
   (pss_one (ps_ret (pe_op op_cat (pe_lst (pa_cons (pe_callB (crLen (K := K) rfl) rfl T.b_len (by decide +kernel) (pa_cons (pv 2) pa_nil)) pa_nil)) (pv 2))))))), ?_⟩
  obtain ⟨xs, hxs, hxl⟩ := ha.ex
  have hn4 : W.length ≤ 4 := by rw [← ok.n]; exact ok.four
  have hrow : ∀ r ∈ W, r.length = W.length := fun r hr => by rw [ok.row r hr, ok.n]
  refine ⟨_, rfl, a, _, rfl, hxs, W.length, by rw [hxl], fun p0 hp0 => ⟨p0, W.length, rfl, upd_same, by omega, fun t ht => ?_⟩⟩
  have s1 := (same_upd (o := .rng 0 W.length) hp0).trans (same_upd (o := .lst ((List.range W.length).map fun (k : Nat) => V.int k)) ht)
  have ht1 : upd (upd H p0 (.rng 0 W.length)) t (.lst ((List.range W.length).map fun (k : Nat) => V.int k)) t = some (.lst ((nI (List.range W.length)).map V.int)) := by rw [upd_same, List.map_map]; rfl
  generalize upd (upd H p0 (.rng 0 W.length)) t (.lst ((List.range W.length).map fun (k : Nat) => V.int k)) = H1 at s1 ht1
  refine ⟨_, rfl, _, rfl, a, t, W, List.range W.length, rfl, ha.same s1, SqL.of ht1, hrow, fun i hi => List.mem_range.mp hi, by rw [List.length_range]; omega, fun H2 l s2 hl0 hl => ?_⟩
  refine while_by (fun σ H' => ∃ (t l : Addr) (there : List Nat), σ = [some (.ref a), some (.ref t), some (.ref l)] ∧ Same H H' ∧ H' t = some (.lst ((nI there).map V.int)) ∧ H' l = some (.lst ((nI (unbeatenM W there)).map V.int)) ∧ Surv st W there)
   (fun σ H' => match σ with | [_, some (.ref t), _] => (match H' t with | some (.lst xs) => xs.length | _ => 0) | _ => 0) ⟨t, l, _, rfl, s1.trans s2, s2 _ _ ht1, hl, by rw [← ok.n]; exact surv_start st W⟩ ?_ ?_
  ·rintro σ H3 ⟨t, l, there, rfl, s3, ht3, hl3, S⟩
   have hlt : ∀ i ∈ there, i < W.length := fun i hi => by rw [← ok.n]; exact S.lt i hi
   have hth : there.length ≤ 4 := by
    obtain ⟨m, _, hm⟩ := S.at_
    have := ok.four
    omega
   refine ⟨_, rfl, l, _, rfl, SqL.of hl3, _, rfl, t, _, rfl, SqL.of ht3, _, _, rfl, rfl, _, rfl, ite2 (fun h1 => ?_) (fun h1 => ?_)⟩
   ·have h1' : (unbeatenM W there).length < there.length := by
     have := of_decide_eq_true h1
     rw [List.length_map, List.length_map, List.length_map, List.length_map] at this
     omega
    have S2 := surv_turn ok S h1'
    refine ⟨_, rfl, _, rfl, _, rfl, a, l, W, unbeatenM W there, rfl, ha.same s3, SqL.of hl3, hrow, fun i hi => by rw [← ok.n]; exact S2.lt i hi, by omega, fun H4 l4 s4 hl40 hl4 => ?_⟩
    refine ⟨⟨l, l4, _, rfl, s3.trans s4, s4 _ _ hl3, hl4, S2⟩, ?_⟩
    show (match H4 l with | some (.lst xs) => xs.length | _ => 0) < (match H3 t with | some (.lst xs) => xs.length | _ => 0)
    rw [s4 _ _ hl3, ht3]
    show ((nI (unbeatenM W there)).map V.int).length < ((nI there).map V.int).length
    rw [List.length_map, List.length_map, List.length_map, List.length_map]
    exact h1'
   ·have h1' : ¬ (unbeatenM W there).length < there.length := by
     intro q
     apply h1
     apply decide_eq_true
     rw [List.length_map, List.length_map, List.length_map, List.length_map]
     omega
    have e := surv_end ok S h1'
    rw [e] at k
    refine ⟨_, rfl, l, _, rfl, SqL.of hl3, line1, fun l2 hl2 => ?_⟩
    have s4 := same_upd (o := .lst [.int (((nI (unbeatenM W there)).map V.int).length : Nat)]) hl2
    refine ⟨_, rfl, l2, l, _, _, rfl, rfl, upd_same, s4 _ _ hl3, ?_, ?_⟩
    ·have := unbeaten_sub W there
     have := line1000
     rw [List.length_map, List.length_map]
     show 1 + _ ≤ sizeLine
     omega
    ·refine k.fin (s3.trans s4) ?_
     rw [List.length_map, List.length_map]
     rfl
  ·rintro σ H3 Q1 Q2 hq ⟨v, h1, l, ys, e1, e2, v2, h2, t, zs, e3, e4, i, j, e5, e6, d, e7, q⟩
   exact ⟨v, h1, l, ys, e1, e2, v2, h2, t, zs, e3, e4, i, j, e5, e6, d, e7, hq _ _ q⟩
def supportP (W : List (List Int)) (ns : List Int) : List Int := if areStrategies W.length ns = true then
  match levelW W (Vbecam.nats ns) with
  | none => [-5]
  | some ws => if restP W (Vbecam.nats ns) ws = true then 1 :: (mixI ws ++ frI (maxL (wonM W ws)) ws.sum) else [0]
 else [-1]
theorem strats_of {n : Nat} {ns : List Int} (h : areStrategies n ns = true) : 0 < ns.length ∧ (∀ i ∈ ns, 0 ≤ i ∧ i < n) ∧ ns.Pairwise (· < ·) := by
 unfold areStrategies at h
 simp only [Bool.and_eq_true, decide_eq_true_eq, List.all_eq_true] at h
 obtain ⟨h1, h2, h3⟩ := h
 refine ⟨h1, fun i hi => ?_, ?_⟩
 ·have := h2 i hi
  omega
 ·rw [List.pairwise_iff_getElem]
  have step : ∀ (k : Nat) (hk : k + 1 < ns.length), ns[k] < ns[k + 1] := by
   intro k hk
   have := h3 k (List.mem_range.mpr (by omega))
   simpa [List.getD_eq_getElem?_getD, List.getElem?_eq_getElem (show k < ns.length by omega), List.getElem?_eq_getElem hk] using this
  intro i j hi hj hij
  obtain ⟨d, rfl⟩ : ∃ d, j = i + 1 + d := ⟨j - (i + 1), by omega⟩
  induction d with
  | zero => exact step i hj
  | succ d ih => exact Int.lt_trans (ih (by omega) (by omega)) (step (i + 1 + d) hj)
theorem nI_nats {n : Nat} {ns : List Int} (h : ∀ i ∈ ns, 0 ≤ i ∧ i < n) : nI (Vbecam.nats ns) = ns := by
 unfold Vbecam.nats
 rw [nI, List.map_map]
 conv => rhs; rw [← List.map_id ns]
 apply List.map_congr_left
 intro i hi
 have := h i hi
 show ((i.toNat : Nat) : Int) = i
 omega
theorem strats_set {n : Nat} {ns : List Int} (h : areStrategies n ns = true) : SetOk n (Vbecam.nats ns) ∧ nI (Vbecam.nats ns) = ns ∧ (Vbecam.nats ns).length ≤ n := by
 obtain ⟨h1, h2, h3⟩ := strats_of h
 have hlt : ∀ i ∈ Vbecam.nats ns, i < n := by
  intro i hi
  obtain ⟨z, hz, rfl⟩ := List.mem_map.mp hi
  have := h2 z hz
  omega
 have hnd : (Vbecam.nats ns).Nodup := by
  unfold Vbecam.nats
  rw [List.nodup_iff_pairwise_ne, List.pairwise_map]
  refine h3.imp_of_mem ?_
  intro a b ha hb hab
  have := h2 a ha
  have := h2 b hb
  omega
 exact ⟨⟨by simpa [Vbecam.nats] using h1, hnd, hlt⟩, nI_nats h2, card_le n _ hnd hlt⟩
def sp_answer_support (K : PySem.W.Frag) : Sp := fun vs H Q _ => ∃ (a b : Addr) (W : List (List Int)) (ns : List Int), vs = [.ref a, .ref b] ∧ LL K H a W ∧ Sqr 4 20 W ∧ 0 < W.length ∧ LI K H b ns ∧ ns.length ≤ 16000 ∧ RetL Q H (supportP W ns)
theorem level_pos {W : List (List Int)} {S : List Nat} {ws : List Int} (hS : SetOk W.length S) (hrow : ∀ r ∈ W, r.length = W.length) (h4 : W.length ≤ 4) (hp : 1 ≤ W.length) (h : levelW W S = some ws) : 0 < ws.sum := by
 have ok : StOk { n := W.length, wins := W.flatten } W := ⟨rfl, hrow, rfl, hp, h4⟩
 have hl := level_ok ok (S := S) hS
 unfold levelW at h
 cases e : solveI (S.length + 1) (eqsI W S) with
 | none => rw [e] at h; cases h
 | some sol =>
  rw [e] at h hl
  have := Option.some.inj h
  subst this
  obtain ⟨v, den, L⟩ := hl
  have h1 := L.sum
  have h2 := L.pos
  dsimp only at h1
  rw [h1]
  exact h2
theorem few_sumW {ws : List Int} {n : Nat} (h : ∀ x ∈ ws, Few n x) (hl : ws.length ≤ 4) : Few (n + 2) ws.sum := few_sumk (k := 2) h hl
theorem sc_answer_support : FnScope ["wins", "strategies", "weights"] ["wins", "strategies"] (defScope s_answer_support) := ⟨rfl, rfl, rfl, by decide +kernel, rfl, by decide +kernel, by decide +kernel⟩
theorem c_answer_support (T : Txt K mg) : Cal P w K mg base "answer_support" 5 ["wins", "strategies"] (sp_answer_support K) := by
 have c_are_strategies := c_are_strategies (P := P) (w := w) (base := base) T
 have c_level_weights := c_level_weights (P := P) (w := w) (base := base) T
 have c_is_at_rest := c_is_at_rest (P := P) (w := w) (base := base) T
 have c_mixture := c_mixture (P := P) (w := w) (base := base) T
 have c_fraction := c_fraction (P := P) (w := w) (base := base) T
 have c_won_against := c_won_against (P := P) (w := w) (base := base) T
 obtain ⟨t_OUT_OF_RANGE, h_OUT_OF_RANGE⟩ := T.k_OUT_OF_RANGE
 obtain ⟨t_SINGULAR, h_SINGULAR⟩ := T.k_SINGULAR
 refine cal_of T.d_answer_support sc_answer_support (fun vs H Q E h => ?_) (fun f cdv A outer s H vs Q E hr h => ?_)
 ·obtain ⟨a, b, W, ns, rfl, _⟩ := h
  rfl
 ·obtain ⟨a, b, W, ns, rfl, ha, hW, hpos, hb, hn, k⟩ := h
  refine ⟨_, (pss_cons (ps_if (pt_not (pt_val (pe_cal c_are_strategies (hr.mono (by decide)) (pa_cons (pv 1) (pa_cons (pe_callB (crLen (K := K) rfl) rfl T.b_len (by decide +kernel) (pa_cons (pv 0) pa_nil)) pa_nil))))) (pss_one (ps_ret (pe_lst (pa_cons (pe_globI h_OUT_OF_RANGE) pa_nil)))) pss_nil)
   (pss_cons (ps_set (i := 2) sc_answer_support.nd rfl (by first | exact Or.inl rfl | exact Or.inr rfl) (pe_cal c_level_weights (hr.mono (by decide)) (pa_cons (pv 0) (pa_cons (pv 1) pa_nil))))
   (pss_cons (ps_if (pt_cmp (pc_isN (pv 2))) (pss_one (ps_ret (pe_lst (pa_cons (pe_globI h_SINGULAR) pa_nil)))) pss_nil)
   (pss_cons (ps_if (pt_not (pt_val (pe_cal c_is_at_rest (hr.mono (by decide)) (pa_cons (pv 0) (pa_cons (pv 1) (pa_cons (pv 2) pa_nil)))))) (pss_one (ps_ret (pe_lst (pa_cons pe_int pa_nil)))) pss_nil)
   (pss_one (ps_ret (pe_op op_cat (pe_op op_cat (pe_lst (pa_cons pe_int pa_nil)) (pe_cal c_mixture (hr.mono (by decide)) (pa_cons (pv 2) pa_nil))) (pe_cal c_fraction (hr.mono (by decide)) (pa_cons (pe_callB (crMax (K := K) rfl rfl) rfl T.b_max (by decide +kernel) (pa_cons (pe_cal c_won_against (hr.mono (by decide)) (pa_cons (pv 0) (pa_cons (pv 2) pa_nil))) pa_nil)) (pa_cons (pe_callB (crSum (K := K) rfl rfl) rfl T.b_sum (by decide +kernel) (pa_cons (pv 2) pa_nil)) pa_nil)))))))))), ?_⟩
  obtain ⟨xs, hxs, hxl⟩ := ha.ex
  refine ⟨_, rfl, _, rfl, a, _, rfl, hxs, b, ns, W.length, by rw [hxl]; rfl, hb, hn, fun H1 s1 => ⟨_, rfl, ite2 (fun h1 => ?_) (fun h1 => ?_)⟩⟩
  ·refine ⟨line1, ?_⟩
   unfold supportP at k
   rw [show areStrategies W.length ns = false by simpa using h1] at k
   exact k.fin s1 rfl
  ·have h1' : areStrategies W.length ns = true := by simpa using h1
   obtain ⟨hS, hnI, hSl⟩ := strats_set h1'
   unfold supportP at k
   rw [if_pos h1'] at k
   have hlen4 := hW.len
   have hb1 : LI K H b (nI (Vbecam.nats ns)) := by rw [hnI]; exact hb
   refine ⟨_, rfl, _, rfl, a, b, W, Vbecam.nats ns, rfl, ha.same s1, s1.seq hb1, hS.lt, hW.to200, by omega, fun hnn H2 s2 => ?_, fun ws hws H2 c s2 hc0 hc => ?_⟩
   ·rw [hnn] at k
    refine ⟨_, rfl, _, rfl, iteT ⟨line1, k.fin (s1.trans s2) rfl⟩⟩
   ·rw [hws] at k
    dsimp only at k
    obtain ⟨hwl, hwf⟩ := level_few hW.to200 (by omega) hws
    have s02 := s1.trans s2
    refine ⟨_, rfl, _, rfl, iteF ?_⟩
    refine ⟨_, rfl, _, rfl, _, rfl, a, b, c, W, Vbecam.nats ns, ws, rfl, ha.same s02, s02.seq hb1, SqL.of hc, fun i hi => by rw [hwl]; exact hS.lt i hi, hW.mat20, f8 (by decide) hwf, by omega, fun H3 s3 => ?_⟩
    refine ⟨_, rfl, ite2 (fun h2 => ?_) (fun h2 => ?_)⟩
    ·rw [if_neg (by simpa using h2)] at k
     exact ⟨line1, k.fin (s02.trans s3) rfl⟩
    ·rw [if_pos (by simpa using h2)] at k
     have s03 := s02.trans s3
     have hsp := level_pos hS hW.row hlen4 hpos hws
     have hsf : Few 8000 ws.sum := few_mono (few_sumW hwf (by omega)) (by decide)
     refine ⟨line1, fun l hl0 => ?_⟩
     have s4 := same_upd (o := .lst [.int 1]) hl0
     have hl1 : upd H3 l (.lst [.int 1]) l = some (.lst [.int 1]) := upd_same
     generalize upd H3 l (.lst [.int 1]) = H4 at s4 hl1
     have hc4 := s4 _ _ (s3 _ _ hc)
     refine ⟨_, rfl, c, ws, rfl, SqL.of hc4, hsp, hsf, by omega, fun H5 m s5 hm0 hm => ?_⟩
     have hml : (mixI ws).length ≤ 8 := by
      unfold mixI
      have : ∀ (l : List Int), (l.flatMap fun x => frI x ws.sum).length = 2 * l.length := by
       intro l
       induction l with
       | nil => rfl
       | cons x l ih => rw [List.flatMap_cons, List.length_append, ih, List.length_cons]; show 2 + _ = _; omega
      rw [this]
      omega
     refine ⟨l, m, _, _, rfl, rfl, s5 _ _ hl1, hm, ?_, fun p1 hp1 => ?_⟩
     ·have := line1000
      rw [List.length_map]
      show 1 + _ ≤ sizeLine
      omega
     have s6 := same_upd (o := .lst ([V.int 1] ++ (mixI ws).map V.int)) hp1
     have hp1' : upd H5 p1 (.lst ([V.int 1] ++ (mixI ws).map V.int)) p1 = some (.lst ([V.int 1] ++ (mixI ws).map V.int)) := upd_same
     generalize upd H5 p1 (.lst ([V.int 1] ++ (mixI ws).map V.int)) = H6 at s6 hp1'
     have s46 := (s4.trans s5).trans s6
     have s06 := s03.trans s46
     have hc6 := s6 _ _ (s5 _ _ hc4)
     refine ⟨_, rfl, _, rfl, a, c, W, ws, rfl, ha.same s06, SqL.of hc6, fun r hr2 => ⟨hW.mat20.row r hr2, hW.mat20.few r hr2⟩, f8 (by decide) hwf, hW.mat20.len, fun H7 r s7 hr0 hr1 => ?_⟩
     refine ⟨r, _, rfl, SqL.of hr1, by rw [wonM, List.length_map]; exact hpos, fun m2 hm1 hm2 => ?_⟩
     have em := maxL_eq hm1 hm2
     refine ⟨_, rfl, c, ws, rfl, SqL.of (s7 _ _ hc6), m2, ws.sum, rfl, hsp, hsf, fun r5 hr5 => ?_⟩
     have s8 := same_upd (o := .lst ((frI m2 ws.sum).map V.int)) hr5
     refine ⟨p1, r5, _, _, rfl, rfl, s8 _ _ (s7 _ _ hp1'), upd_same, ?_, ?_⟩
     ·have := line1000
      rw [List.length_append, List.length_map]
      show 1 + _ + 2 ≤ sizeLine
      omega
     ·refine k.fin ((s06.trans s7).trans s8) ?_
      rw [em]
      simp
end
end Cw
end
section
set_option Elab.async false
set_option linter.all false
set_option maxRecDepth 100000
namespace Cw
open PySem PySem.Spec PyProof.Rows L2
theorem line100 : (100 : Nat) ≤ sizeLine := by decide
theorem pow4 {n : Nat} (h : n ≤ 4) : 2 ^ n ≤ 16 := by
 have : 2 ^ n ≤ 2 ^ 4 := Nat.pow_le_pow_right (by decide) h
 omega
theorem len_restL (W : List (List Int)) (l : List (Nat × List Nat)) : (restL W l).length ≤ l.length := List.length_filterMap_le _ _
theorem len_resting {W : List (List Int)} (h : W.length ≤ 4) : (restingM W).length ≤ 16 := by
 unfold restingM
 refine Nat.le_trans (len_restL _ _) ?_
 rw [List.length_zip, List.length_range, allG_len, Nat.min_self]
 exact pow4 h
theorem kvs_keys : ∀ (L : List (Nat × List Int)) (rs : List Addr), L.length = rs.length → (kvsOf L rs).map (fun kv => kV kv.1) = (nI (L.map (·.1))).map V.int
 | [], _, _ => rfl
 | _ :: _, [], h => by simp at h
 | p :: L, r :: rs, h => by
  have := kvs_keys L rs (by simpa using h)
  unfold kvsOf at this ⊢
  rw [List.zipWith_cons_cons, List.map_cons, this]
  rfl
section
variable {P : Program} {w : World} {K : PySem.W.Frag} {mg : Str → Option Value} {base : Heap}
def singM (W : List (List Int)) : List Nat := (List.range' 1 (2 ^ W.length - 1)).filter fun k => (levelW W ((allSetsG W.length).getD k [])).isNone
def equilibriaP (W : List (List Int)) : List Int := ((restingM W).length : Int) :: (nI ((restingM W).map (·.1)) ++ ((singM W).length : Int) :: nI (singM W))
def sp_answer_equilibria (K : PySem.W.Frag) : Sp := fun vs H Q _ => ∃ (a : Addr) (W : List (List Int)), vs = [.ref a] ∧ LL K H a W ∧ Sqr 4 20 W ∧ 0 < W.length ∧ RetL Q H (equilibriaP W)
theorem sc_answer_equilibria : FnScope ["wins", "sets", "resting", "singular", "number"] ["wins"] (defScope s_answer_equilibria) := ⟨rfl, rfl, rfl, by decide +kernel, rfl, by decide +kernel, by decide +kernel⟩
theorem c_answer_equilibria (T : Txt K mg) : Cal P w K mg base "answer_equilibria" 6 ["wins"] (sp_answer_equilibria K) := by
 have c_all_sets := c_all_sets (P := P) (w := w) (base := base) T
 have c_resting_sets := c_resting_sets (P := P) (w := w) (base := base) T
 have c_level_weights := c_level_weights (P := P) (w := w) (base := base) T
 refine cal_of T.d_answer_equilibria sc_answer_equilibria (fun vs H Q E h => ?_) (fun f cdv A outer s H vs Q E hr h => ?_)
 ·obtain ⟨a, W, rfl, _⟩ := h
  rfl
 ·obtain ⟨a, W, rfl, ha, hW, hpos, k⟩ := h
  refine ⟨_, (pss_cons (ps_set (i := 1) sc_answer_equilibria.nd rfl (by first | exact Or.inl rfl | exact Or.inr rfl) (pe_cal c_all_sets (hr.mono (by decide)) (pa_cons (pe_callB (crLen (K := K) rfl) rfl T.b_len (by decide +kernel) (pa_cons (pv 0) pa_nil)) pa_nil)))
   (pss_cons (ps_set (i := 2) sc_answer_equilibria.nd rfl (by first | exact Or.inl rfl | exact Or.inr rfl) (pe_callTy (crListD rfl) rfl T.b_list (by decide +kernel) (pa_cons (pe_cal c_resting_sets (hr.mono (by decide)) (pa_cons (pv 0) pa_nil)) pa_nil)))
   (pss_cons (ps_setLc (i := 3) rfl sc_answer_equilibria.nd rfl rfl (sw_true rfl rfl rfl (by decide +kernel)) (pi_range2 rfl T.b_range (pa_cons pe_int (pa_cons (pe_callB (crLen (K := K) rfl) rfl T.b_len (by decide +kernel) (pa_cons (pv 1) pa_nil)) pa_nil))) (blkOk_by (own := [("number", 4)]) rfl) (fun _ _ _ _ _ => (pg_name (i := 4) sc_answer_equilibria.nd rfl (by first | exact Or.inl rfl | exact Or.inr rfl))) (fun _ _ _ _ _ => (pts_one (pt_cmp (pc_isN (pe_cal c_level_weights (hr.mono (by decide)) (pa_cons (pv 0) (pa_cons (pe_ix (ixL (K := K) rfl) (pv 1) (pv 4) (fun _ _ => rfl)) pa_nil))))))) (fun _ _ _ _ _ => (pv 4)))
   (pss_one (ps_ret (pe_op op_cat (pe_op op_cat (pe_op op_cat (pe_lst (pa_cons (pe_callB (crLen (K := K) rfl) rfl T.b_len (by decide +kernel) (pa_cons (pv 2) pa_nil)) pa_nil)) (pv 2)) (pe_lst (pa_cons (pe_callB (crLen (K := K) rfl) rfl T.b_len (by decide +kernel) (pa_cons (pv 3) pa_nil)) pa_nil))) (pv 3))))))), ?_⟩
  obtain ⟨xs, hxs, hxl⟩ := ha.ex
  have hlen4 := hW.len
  have hpw : 2 ^ W.length ≤ 16 := pow4 hlen4
  have hpw1 : 1 ≤ 2 ^ W.length := Nat.one_le_two_pow
  refine ⟨_, rfl, a, _, rfl, hxs, W.length, by rw [hxl]; rfl, hlen4, fun H1 sa s1 hsa0 hsa => ?_⟩
  refine ⟨_, rfl, a, W, rfl, ha.same s1, hW.to200, fun H2 d rs s2 hd0 hd hdp => ?_⟩
  have hrl : (restingM W).length = rs.length := Paired.length hdp
  have hr16 := len_resting hlen4
  refine ⟨d, _, rfl, hd, by have := kvs_len (restingM W) rs; omega, fun l hl0 => ?_⟩
  rw [kvs_keys _ _ hrl]
  have s3 := same_upd (o := .lst ((nI ((restingM W).map (·.1))).map V.int)) hl0
  have hl1 : upd H2 l (.lst ((nI ((restingM W).map (·.1))).map V.int)) l = some (.lst ((nI ((restingM W).map (·.1))).map V.int)) := upd_same
  generalize upd H2 l (.lst ((nI ((restingM W).map (·.1))).map V.int)) = H3 at s3 hl1
  have s03 := (s1.trans s2).trans s3
  have hsa3 : LL K H3 sa ((allSetsG W.length).map nI) := (hsa.same (s2.trans s3)).ll
  obtain ⟨ys, hys, hyl⟩ := hsa3.ex
  rw [List.length_map, allG_len] at hyl
  refine ⟨_, rfl, sa, _, rfl, hys, _, _, rfl, ⟨by decide, by decide, by omega, by omega⟩, fun D hD => ?_⟩
  rw [hyl, show (((2 ^ W.length : Nat) : Int) - 1).toNat = 2 ^ W.length - 1 by omega]
  refine lc_vals (sq_range (lo := 1) (n := 2 ^ W.length - 1)) hD (fun k => (levelW W ((allSetsG W.length).getD (1 + k) [])).isNone) (fun k => .int ((1 + k : Nat) : Int)) (by rw [List.length_range]; exact le_line (by omega)) ?_ ?_
  ·rintro j hj _ H4 R N s4 rfl kR kN
   have hj' := List.mem_range.mp hj
   have hjl : 1 + j < (allSetsG W.length).length := by rw [allG_len]; omega
   have hmem : (allSetsG W.length).getD (1 + j) [] ∈ allSetsG W.length := getD_mem [] hjl
   have hlt := allG_lt _ _ hmem
   have hsh := allG_short _ _ hmem
   obtain ⟨x1, r1, a1, b1, c1⟩ := (hsa3.same s4).at (i := 1 + j) (by rw [List.length_map]; exact hjl)
   have eg : ((allSetsG W.length).map nI).getD (1 + j) [] = nI ((allSetsG W.length).getD (1 + j) []) := by
    rw [List.getD_eq_getElem?_getD, List.getElem?_map, List.getElem?_eq_getElem hjl, List.getD_eq_getElem?_getD, List.getElem?_eq_getElem hjl]
    rfl
   rw [eg] at c1
   have ej : (1 : Int) + (j : Int) = ((1 + j : Nat) : Int) := by omega
   rw [ej]
   refine ⟨rfl, _, rfl, _, rfl, _, rfl, sa, _, _, _, rfl, rfl, a1, b1, a, r1, W, _, rfl, ha.same (s03.trans s4), c1, hlt, hW.to200, by omega, fun hn H5 s5 => ?_, fun ws hws H5 c s5 hc0 hc => ?_⟩
   ·refine ⟨_, rfl, iteT ⟨_, rfl, kR ?_ H5 s5⟩⟩
    rw [hn]; rfl
   ·refine ⟨_, rfl, iteF (kN ?_ H5 s5)⟩
    rw [hws]; rfl
  ·intro H4 s4 hD4
   have hD4' : H4 D = some (.lst ((nI (singM W)).map V.int)) := by
    rw [hD4, singM, ← usable_range 1 (2 ^ W.length - 1), List.map_map, List.map_map]
    rfl
   have hl4 := s4 _ _ hl1
   have s04 := s03.trans s4
   have hsl : (singM W).length ≤ 16 := by
    unfold singM
    refine Nat.le_trans (List.length_filter_le _ _) ?_
    rw [List.length_range']
    omega
   refine ⟨_, rfl, l, _, rfl, SqL.of hl4, line1, fun l1 hl10 => ?_⟩
   rw [List.length_map, List.length_map, List.length_map]
   have s5 := same_upd (o := .lst [.int ((restingM W).length : Nat)]) hl10
   refine ⟨_, rfl, l1, l, _, _, rfl, rfl, upd_same, s5 _ _ hl4, ?_, fun p1 hp1 => ?_⟩
   ·have := line100
    rw [List.length_map, List.length_map, List.length_map]
    show 1 + _ ≤ sizeLine
    omega
   generalize upd H4 l1 (.lst [.int ((restingM W).length : Nat)]) = H5 at s5 hp1
   have s6 := same_upd (o := .lst ([.int ((restingM W).length : Nat)] ++ (nI ((restingM W).map (·.1))).map V.int)) hp1
   have hp1' : upd H5 p1 (.lst ([.int ((restingM W).length : Nat)] ++ (nI ((restingM W).map (·.1))).map V.int)) p1 = some (.lst ([.int ((restingM W).length : Nat)] ++ (nI ((restingM W).map (·.1))).map V.int)) := upd_same
   generalize upd H5 p1 (.lst ([.int ((restingM W).length : Nat)] ++ (nI ((restingM W).map (·.1))).map V.int)) = H6 at s6 hp1'
   have hD6 := s6 _ _ (s5 _ _ hD4')
   refine ⟨_, rfl, D, _, rfl, SqL.of hD6, line1, fun l2 hl2 => ?_⟩
   rw [List.length_map, List.length_map]
   have s7 := same_upd (o := .lst [.int ((singM W).length : Nat)]) hl2
   refine ⟨p1, l2, _, _, rfl, rfl, s7 _ _ hp1', upd_same, ?_, fun p2 hp2 => ?_⟩
   ·have := line100
    rw [List.length_append, List.length_map, List.length_map, List.length_map]
    show 1 + _ + 1 ≤ sizeLine
    omega
   generalize upd H6 l2 (.lst [.int ((singM W).length : Nat)]) = H7 at s7 hp2
   have s8 := same_upd (o := .lst (([.int ((restingM W).length : Nat)] ++ (nI ((restingM W).map (·.1))).map V.int) ++ [.int ((singM W).length : Nat)])) hp2
   refine ⟨_, rfl, p2, D, _, _, rfl, rfl, upd_same, s8 _ _ (s7 _ _ hD6), ?_, ?_⟩
   ·have := line100
    rw [List.length_append, List.length_append, List.length_map, List.length_map, List.length_map, List.length_map, List.length_map]
    show 1 + _ + 1 + _ ≤ sizeLine
    omega
   ·refine k.fin ((((s04.trans s5).trans s6).trans s7).trans s8) ?_
    unfold equilibriaP
    simp
def stableA (W : List (List Int)) (p : List Int) : List Int := if areWeights W.length p = true then [if stableP W p = true then 1 else 0] else [-1]
theorem inside_pos {p : List Int} (h0 : ∀ x ∈ p, 0 ≤ x) (h : 0 < p.sum) : 0 < (insideM p).length := by
 obtain ⟨v, hv, hpos⟩ := (sum_pos_iff p h0).mp h
 obtain ⟨i, hi⟩ := List.mem_iff_getElem?.mp hv
 have hil := (List.getElem?_eq_some_iff.mp hi).1
 apply List.length_pos_of_mem (a := i)
 unfold insideM
 rw [List.mem_filter]
 refine ⟨List.mem_range.mpr hil, ?_⟩
 rw [List.getD_eq_getElem?_getD, hi]
 exact decide_eq_true hpos
def sp_answer_stable (K : PySem.W.Frag) : Sp := fun vs H Q _ => ∃ (a b : Addr) (W : List (List Int)) (p : List Int), vs = [.ref a, .ref b] ∧ LL K H a W ∧ Sqr 4 20 W ∧ LI K H b p ∧ p.length ≤ 16000 ∧ RetL Q H (stableA W p)
theorem sc_answer_stable : FnScope ["wins", "p"] ["wins", "p"] (defScope s_answer_stable) := ⟨rfl, rfl, rfl, by decide +kernel, rfl, by decide +kernel, by decide +kernel⟩
theorem c_answer_stable (T : Txt K mg) : Cal P w K mg base "answer_stable" 6 ["wins", "p"] (sp_answer_stable K) := by
 have c_are_weights := c_are_weights (P := P) (w := w) (base := base) T
 have c_is_stable := c_is_stable (P := P) (w := w) (base := base) T
 obtain ⟨t_OUT_OF_RANGE, h_OUT_OF_RANGE⟩ := T.k_OUT_OF_RANGE
 refine cal_of T.d_answer_stable sc_answer_stable (fun vs H Q E h => ?_) (fun f cdv A outer s H vs Q E hr h => ?_)
 ·obtain ⟨a, b, W, p, rfl, _⟩ := h
  rfl
 ·obtain ⟨a, b, W, p, rfl, ha, hW, hb, hp, k⟩ := h
  refine ⟨_, (pss_cons (ps_if (pt_not (pt_val (pe_cal c_are_weights (hr.mono (by decide)) (pa_cons (pv 1) (pa_cons (pe_callB (crLen (K := K) rfl) rfl T.b_len (by decide +kernel) (pa_cons (pv 0) pa_nil)) pa_nil))))) (pss_one (ps_ret (pe_lst (pa_cons (pe_globI h_OUT_OF_RANGE) pa_nil)))) pss_nil)
   (pss_one (ps_ret (pe_lst (pa_cons (pe_ifExp (pt_val (pe_cal c_is_stable (hr.mono (by decide)) (pa_cons (pv 0) (pa_cons (pv 1) pa_nil)))) pe_int pe_int) pa_nil))))), ?_⟩
  obtain ⟨xs, hxs, hxl⟩ := ha.ex
  refine ⟨_, rfl, _, rfl, a, _, rfl, hxs, b, p, W.length, by rw [hxl]; rfl, hb, hp, fun H1 s1 => ⟨_, rfl, ite2 (fun h1 => ?_) (fun h1 => ?_)⟩⟩
  ·refine ⟨line1, ?_⟩
   unfold stableA at k
   rw [show areWeights W.length p = false by simpa using h1] at k
   exact k.fin s1 rfl
  ·have h1' : areWeights W.length p = true := by simpa using h1
   unfold stableA at k
   rw [if_pos h1'] at k
   obtain ⟨hp1, hp2, hp3⟩ := weights_of h1'
   refine ⟨_, rfl, _, rfl, a, b, W, p, rfl, ha.same s1, s1.seq hb, hW, hp1, f8 (by decide) (few_weights h1'), inside_pos (fun x hx => (hp2 x hx).1) hp3, fun H2 s2 => ?_⟩
   refine ⟨_, rfl, ite2 (fun h2 => ?_) (fun h2 => ?_)⟩
   ·rw [if_pos h2] at k
    exact ⟨line1, k.fin (s1.trans s2) rfl⟩
   ·rw [if_neg h2] at k
    exact ⟨line1, k.fin (s1.trans s2) rfl⟩
end
end Cw
end
section
set_option Elab.async false
set_option linter.all false
set_option maxRecDepth 100000
namespace Cw
open PySem PySem.Spec PyProof.Rows L2
theorem hu64 {A : Around} {k : Nat} (hr : Room k A) : A.units + 64 < cLine := hr.units
theorem eqv_ints : ∀ ns ms : List Int, PyData.eqvAll (ns.map PyData.int) (ms.map PyData.int) = decide (ns = ms)
 | [], [] => by simp [PyData.eqvAll]
 | [], _ :: _ => by simp [PyData.eqvAll]
 | _ :: _, [] => by simp [PyData.eqvAll]
 | a :: r, b :: t => by
  simp only [List.map_cons, PyData.eqvAll, PyData.eqv, eqv_ints r t]
  by_cases h : a = b <;> by_cases h' : r = t <;> simp [h, h']
theorem lay_ints : ∀ ns : List Int, PyData.canLayAll0 (ns.map PyData.int) = true ∧ PyData.depthAll (ns.map PyData.int) ≤ 1
 | [] => by simp [PyData.canLayAll0, PyData.depthAll]
 | a :: r => by
  have := lay_ints r
  simp only [List.map_cons, PyData.canLayAll0, PyData.canLay0, PyData.depthAll, PyData.depth]
  refine ⟨by rw [this.1]; rfl, by omega⟩
theorem shaped_ints (ns : List Int) : SeqAt.shaped (.list (ns.map PyData.int)) = true := by
 have := lay_ints ns
 unfold SeqAt.shaped
 rw [Bool.and_eq_true]
 refine ⟨?_, decide_eq_true ?_⟩
 ·simp only [PyData.canLay0]; exact this.1
 ·simp only [PyData.depth]; omega
theorem dp_ints (K : PySem.W.Frag) (H : Hp) : ∀ ns : List Int, DpAll K H (ns.map V.int) (ns.map PyData.int)
 | [] => .nil
 | a :: r => .cons (.int a) (dp_ints K H r)
theorem level_nil (W : List (List Int)) : levelW W [] = none := rfl
theorem mem_resting {W : List (List Int)} {p : Nat × List Int} (h : p ∈ restingM W) : ∃ S ∈ allSetsG W.length, levelW W S = some p.2 ∧ restP W S p.2 = true ∧ 0 < S.length := by
 unfold restingM restL at h
 obtain ⟨q, hq, e⟩ := List.mem_filterMap.mp h
 obtain ⟨ws, h1, h2⟩ := Option.map_eq_some_iff.mp e
 subst h2
 refine ⟨q.2, (List.of_mem_zip hq).2, ?_⟩
 unfold restOf at h1
 cases e2 : levelW W q.2 with
 | none => rw [e2] at h1; cases h1
 | some ws' =>
  rw [e2] at h1
  dsimp only at h1
  split at h1
  ·rename_i h3
   have := Option.some.inj h1
   subst this
   refine ⟨rfl, h3, ?_⟩
   apply Nat.pos_of_ne_zero
   intro e3
   rw [List.eq_nil_of_length_eq_zero e3, level_nil] at e2
   cases e2
  ·cases h1
theorem resting_ok {W : List (List Int)} (hW : Sqr 4 20 W) {p : Nat × List Int} (h : p ∈ restingM W) : p.2.length = W.length ∧ (∀ x ∈ p.2, Few 8000 x) ∧ 0 < (insideM p.2).length := by
 obtain ⟨S, hS, hl, hr, hne⟩ := mem_resting h
 have hlen4 := hW.len
 obtain ⟨h1, h2⟩ := level_few hW.to200 (Nat.le_trans (allG_short _ S hS) hlen4) hl
 refine ⟨h1, f8 (by decide) h2, ?_⟩
 have hm : S.getD 0 0 ∈ S := getD_mem 0 hne
 have := List.all_eq_true.mp hr _ hm
 rw [Bool.and_eq_true] at this
 apply List.length_pos_of_mem (a := S.getD 0 0)
 unfold insideM
 rw [List.mem_filter]
 exact ⟨List.mem_range.mpr (by rw [h1]; exact allG_lt _ S hS _ hm), this.1⟩
theorem kvs_at {L : List (Nat × List Int)} {rs : List Addr} {i : Nat} {p : Nat × List Int} {r : Addr} (h1 : L[i]? = some p) (h2 : rs[i]? = some r) : (kvsOf L rs)[i]? = some (Sum.inl (p.1 : Int), .ref r) := by
 unfold kvsOf
 rw [List.getElem?_zipWith, h1, h2]
theorem kvs_len2 {L : List (Nat × List Int)} {rs : List Addr} (h : L.length = rs.length) : (kvsOf L rs).length = L.length := by
 unfold kvsOf
 rw [List.length_zipWith, h, Nat.min_self]
theorem sq_items {H1 : Hp} {d : Addr} {o : Obj} {L : List (Nat × List Int)} {rs : List Addr} (h : H1 d = some (.frz o (.dK (kvsOf L rs)))) (hp : Paired (fun p r => H1 r = some (.lst (p.2.map V.int))) L rs) :
  Sq (Iti d o (kvsOf L rs)) H1 L (fun p x H => ∃ T r, x = .ref T ∧ H T = some (.tup [.int (p.1 : Nat), .ref r]) ∧ H r = some (.lst (p.2.map V.int))) where
 go := fun i H s hi => ⟨s _ _ h, by rw [kvs_len2 (Paired.length hp)]; exact hi⟩
 stop := fun H s => ⟨s _ _ h, by rw [kvs_len2 (Paired.length hp)]; exact Nat.le_refl _⟩
 yld := fun i H x H' p s hi y => by
  obtain ⟨T, k, v, h1, h2, h3, h4⟩ := y
  obtain ⟨r, hr, hq⟩ := paired_at hp i p hi
  rw [kvs_at hi hr] at h1
  have := Option.some.inj h1
  cases this
  subst h4
  exact ⟨same_upd h3, T, r, h2, upd_same, same_upd h3 _ _ (s _ _ hq)⟩
theorem bears_pos {x y : Int} (h : ¬ (x < 0 ∨ (x = 0 ∧ y ≤ 0))) (h6 : ¬ 0 ≤ y) : 0 < x - y := by omega
section
variable {P : Program} {w : World} {K : PySem.W.Frag} {mg : Str → Option Value} {base : Heap}
def stablesM (W : List (List Int)) : List Nat := ((restingM W).filter fun p => stableP W p.2).map (·.1)
def sp_answer_stables (K : PySem.W.Frag) : Sp := fun vs H Q _ => ∃ (a : Addr) (W : List (List Int)), vs = [.ref a] ∧ LL K H a W ∧ Sqr 4 20 W ∧ RetL Q H (((stablesM W).length : Int) :: nI (stablesM W))
theorem sc_answer_stables : FnScope ["wins", "stable", "number", "weights"] ["wins"] (defScope s_answer_stables) := ⟨rfl, rfl, rfl, by decide +kernel, rfl, by decide +kernel, by decide +kernel⟩
theorem c_answer_stables (T : Txt K mg) : Cal P w K mg base "answer_stables" 6 ["wins"] (sp_answer_stables K) := by
 have c_resting_sets := c_resting_sets (P := P) (w := w) (base := base) T
 have c_is_stable := c_is_stable (P := P) (w := w) (base := base) T
 refine cal_of T.d_answer_stables sc_answer_stables (fun vs H Q E h => ?_) (fun f cdv A outer s H vs Q E hr h => ?_)
 ·obtain ⟨a, W, rfl, _⟩ := h
  rfl
 ·obtain ⟨a, W, rfl, ha, hW, k⟩ := h
  refine ⟨_, (pss_cons (ps_setLc (i := 1) rfl sc_answer_stables.nd rfl rfl (sw_true rfl rfl rfl (by decide +kernel)) (pi_items (pe_lk (pe_cal c_resting_sets (hr.mono (by decide)) (pa_cons (pv 0) pa_nil)))) (blkOk_by (own := [("number", 2), ("weights", 3)]) rfl) (fun _ _ _ _ _ => (pgT (K := K) (n := 2) rfl rfl (pgs_cons (pg_name (i := 2) sc_answer_stables.nd rfl (by first | exact Or.inl rfl | exact Or.inr rfl)) (pgs_cons (pg_name (i := 3) sc_answer_stables.nd rfl (by first | exact Or.inl rfl | exact Or.inr rfl)) pgs_nil)))) (fun _ _ _ _ _ => (pts_one (pt_val (pe_cal c_is_stable (hr.mono (by decide)) (pa_cons (pv 0) (pa_cons (pv 3) pa_nil)))))) (fun _ _ _ _ _ => (pv 2)))
   (pss_one (ps_ret (pe_op op_cat (pe_lst (pa_cons (pe_callB (crLen (K := K) rfl) rfl T.b_len (by decide +kernel) (pa_cons (pv 1) pa_nil)) pa_nil)) (pv 1))))), ?_⟩
  have hlen4 := hW.len
  refine ⟨_, rfl, a, W, rfl, ha, hW.to200, fun H1 d rs s1 hd0 hd hdp => ?_⟩
  have hrl : (restingM W).length = rs.length := Paired.length hdp
  have hr16 := len_resting hlen4
  refine ⟨d, _, rfl, hd, trivial, fun od => ?_⟩
  have s2 : Same H (upd H1 d (.frz od (.dK (kvsOf (restingM W) rs)))) := same_upd' s1 hd0
  have hd2 : upd H1 d (.frz od (.dK (kvsOf (restingM W) rs))) d = some (.frz od (.dK (kvsOf (restingM W) rs))) := upd_same
  have hdp2 : Paired (fun p r => upd H1 d (.frz od (.dK (kvsOf (restingM W) rs))) r = some (.lst (p.2.map V.int))) (restingM W) rs := pmap (fun p r q => by
   rw [upd_ne (ne_of q hd (by intro z; cases z))]; exact q) hdp
  generalize upd H1 d (.frz od (.dK (kvsOf (restingM W) rs))) = H2 at s2 hd2 hdp2
  refine ⟨d, od, _, rfl, hd2, fun D hD => ?_⟩
  refine lc_vals (sq_items hd2 hdp2) hD (fun p => stableP W p.2) (fun p => .int (p.1 : Nat)) (le_line (by omega)) ?_ ?_
  ·rintro ⟨i, ws⟩ hp _ H3 R N s3 ⟨t, r, rfl, ht, hr3⟩ kR kN
   obtain ⟨h1, h2, h3⟩ := resting_ok hW hp
   refine ⟨t, _, rfl, SqT.of ht, rfl, _, _, rfl, _, _, rfl, rfl, rfl, _, rfl, _, rfl, a, r, W, ws, rfl, ha.same (s2.trans s3), SqL.of hr3, hW, h1, h2, h3, fun H4 s4 => ?_⟩
   exact ⟨_, rfl, ite2 (fun h1 => ⟨_, rfl, kR h1 H4 s4⟩) (fun h1 => kN (by simpa using h1) H4 s4)⟩
  ·intro H3 s3 hD3
   have hD3' : H3 D = some (.lst ((nI (stablesM W)).map V.int)) := by
    rw [hD3, stablesM, nI, List.map_map, List.map_map]
    rfl
   have s03 := s2.trans s3
   refine ⟨_, rfl, D, _, rfl, SqL.of hD3', line1, fun l2 hl2 => ?_⟩
   have s4 := same_upd (o := .lst [.int (((nI (stablesM W)).map V.int).length : Nat)]) hl2
   refine ⟨_, rfl, l2, D, _, _, rfl, rfl, upd_same, s4 _ _ hD3', ?_, ?_⟩
   ·have h5 : (stablesM W).length ≤ 16 := by
     unfold stablesM
     rw [List.length_map]
     exact Nat.le_trans (List.length_filter_le _ _) hr16
    have := line100
    rw [List.length_map, List.length_map]
    show 1 + _ ≤ sizeLine
    omega
   ·refine k.fin (s03.trans s4) ?_
    rw [List.length_map, List.length_map]
    rfl
def bearsM (W : List (List Int)) (p q : List Int) : List Int :=
 let ap := leadM p q (wonM W p) * q.sum
 let aq := leadM p q (wonM W q) * p.sum
 if ap < 0 ∨ (ap = 0 ∧ aq ≤ 0) then [0, 1] else if 0 ≤ aq then [1, 1] else frI ap (ap - aq)
def bearsA (W : List (List Int)) (p q : List Int) : List Int := if (areWeights W.length p && areWeights W.length q) = true then (if mixI p = mixI q then [-6] else bearsM W p q) else [-1]
def sp_answer_bears (K : PySem.W.Frag) : Sp := fun vs H Q _ => ∃ (a b c : Addr) (W : List (List Int)) (p q : List Int), vs = [.ref a, .ref b, .ref c] ∧ LL K H a W ∧ Sqr 4 20 W ∧ LI K H b p ∧ LI K H c q ∧ p.length ≤ 16000 ∧ q.length ≤ 16000 ∧ RetL Q H (bearsA W p q)
theorem sc_answer_bears : FnScope ["wins", "p", "q", "at_p", "at_q"] ["wins", "p", "q"] (defScope s_answer_bears) := ⟨rfl, rfl, rfl, by decide +kernel, rfl, by decide +kernel, by decide +kernel⟩
theorem c_answer_bears (T : Txt K mg) : Cal P w K mg base "answer_bears" 4 ["wins", "p", "q"] (sp_answer_bears K) := by
 have c_are_weights := c_are_weights (P := P) (w := w) (base := base) T
 have c_fraction := c_fraction (P := P) (w := w) (base := base) T
 have c_mixture := c_mixture (P := P) (w := w) (base := base) T
 have c_lead := c_lead (P := P) (w := w) (base := base) T
 have c_won_against := c_won_against (P := P) (w := w) (base := base) T
 obtain ⟨t_OUT_OF_RANGE, h_OUT_OF_RANGE⟩ := T.k_OUT_OF_RANGE
 obtain ⟨t_SAME_MIXTURE, h_SAME_MIXTURE⟩ := T.k_SAME_MIXTURE
 refine cal_of T.d_answer_bears sc_answer_bears (fun vs H Q E h => ?_) (fun f cdv A outer s H vs Q E hr h => ?_)
 ·obtain ⟨a, b, c, W, p, q, rfl, _⟩ := h
  rfl
 ·obtain ⟨a, b, c, W, p, q, rfl, ha, hW, hb, hc, hp, hq, k⟩ := h
  refine ⟨_, (pss_cons (ps_if (PW.pt (pw_or (pt_not (pt_val (pe_cal c_are_weights (hr.mono (by decide)) (pa_cons (pv 1) (pa_cons (pe_callB (crLen (K := K) rfl) rfl T.b_len (by decide +kernel) (pa_cons (pv 0) pa_nil)) pa_nil))))) (pw_or1 (pt_not (pt_val (pe_cal c_are_weights (hr.mono (by decide)) (pa_cons (pv 2) (pa_cons (pe_callB (crLen (K := K) rfl) rfl T.b_len (by decide +kernel) (pa_cons (pv 0) pa_nil)) pa_nil)))))))) (pss_one (ps_ret (pe_lst (pa_cons (pe_globI h_OUT_OF_RANGE) pa_nil)))) pss_nil)
   (pss_cons (ps_if (pt_cmpR (opEqD (K := K) rfl (hu64 hr)) (pe_cal c_mixture (hr.mono (by decide)) (pa_cons (pv 1) pa_nil)) (pe_cal c_mixture (hr.mono (by decide)) (pa_cons (pv 2) pa_nil)) (nomark _)) (pss_one (ps_ret (pe_lst (pa_cons (pe_globI h_SAME_MIXTURE) pa_nil)))) pss_nil)
   (pss_cons (ps_set (i := 3) sc_answer_bears.nd rfl (by first | exact Or.inl rfl | exact Or.inr rfl) (pe_op op_mulB (pe_cal c_lead (hr.mono (by decide)) (pa_cons (pv 1) (pa_cons (pv 2) (pa_cons (pe_cal c_won_against (hr.mono (by decide)) (pa_cons (pv 0) (pa_cons (pv 1) pa_nil))) pa_nil)))) (pe_callB (crSum (K := K) rfl rfl) rfl T.b_sum (by decide +kernel) (pa_cons (pv 2) pa_nil))))
   (pss_cons (ps_set (i := 4) sc_answer_bears.nd rfl (by first | exact Or.inl rfl | exact Or.inr rfl) (pe_op op_mulB (pe_cal c_lead (hr.mono (by decide)) (pa_cons (pv 1) (pa_cons (pv 2) (pa_cons (pe_cal c_won_against (hr.mono (by decide)) (pa_cons (pv 0) (pa_cons (pv 2) pa_nil))) pa_nil)))) (pe_callB (crSum (K := K) rfl rfl) rfl T.b_sum (by decide +kernel) (pa_cons (pv 1) pa_nil))))
   (pss_cons (ps_if (PW.pt (pw_or (pt_cmpR op_lt (pv 3) pe_int (nomark _)) (pw_or1 (PW.pt (pw_and (pt_cmpR op_eq (pv 3) pe_int (nomark _)) (pw_and1 (pt_cmpR op_le (pv 4) pe_int (nomark _)))))))) (pss_one (ps_ret (pe_lst (pa_cons pe_int (pa_cons pe_int pa_nil))))) pss_nil)
   (pss_cons (ps_if (pt_cmpR op_ge (pv 4) pe_int (nomark _)) (pss_one (ps_ret (pe_lst (pa_cons pe_int (pa_cons pe_int pa_nil))))) pss_nil)
   (pss_one (ps_ret (pe_cal c_fraction (hr.mono (by decide)) (pa_cons (pv 3) (pa_cons (pe_op op_sub (pv 3) (pv 4)) pa_nil))))))))))), ?_⟩
  obtain ⟨xs, hxs, hxl⟩ := ha.ex
  have no : ∀ H', Same H H' → (areWeights W.length p && areWeights W.length q) = false → ∀ l, H' l = none → Q (.ref l) (upd H' l (.lst [.int (-1)])) := by
   intro H' s' e
   unfold bearsA at k
   rw [e] at k
   exact k.fin s' rfl
  refine ⟨_, rfl, _, rfl, a, _, rfl, hxs, b, p, W.length, by rw [hxl]; rfl, hb, hp, fun H1 s1 => ⟨_, rfl, ite2 (fun h1 => ?_) (fun h1 => ?_)⟩⟩
  ·refine iteT ⟨line1, no H1 s1 ?_⟩
   rw [show areWeights W.length p = false by simpa using h1, Bool.false_and]
  ·obtain ⟨xs1, hxs1, hxl1⟩ := (ha.same s1).ex
   have h1' : areWeights W.length p = true := by simpa using h1
   refine ⟨_, rfl, _, rfl, a, _, rfl, hxs1, c, q, W.length, by rw [hxl1]; rfl, s1.seq hc, hq, fun H2 s2 => ⟨_, rfl, ite2 (fun h2 => ?_) (fun h2 => ?_)⟩⟩
   ·refine ⟨line1, no H2 (s1.trans s2) ?_⟩
    rw [show areWeights W.length q = false by simpa using h2, Bool.and_false]
   ·have h2' : areWeights W.length q = true := by simpa using h2
    have s02 := s1.trans s2
    unfold bearsA at k
    rw [h1', h2', Bool.and_self, if_pos rfl] at k
    obtain ⟨p1, p2, p3⟩ := weights_of h1'
    obtain ⟨q1, q2, q3⟩ := weights_of h2'
    have hlen4 := hW.len
    have fps := few_wsumW h1' hlen4
    have fqs := few_wsumW h2' hlen4
    have fp : ∀ x ∈ p, Few 12 x := fun x hx => few_mono (few_weights h1' x hx) (by decide)
    have fq : ∀ x ∈ q, Few 12 x := fun x hx => few_mono (few_weights h2' x hx) (by decide)
    refine ⟨_, rfl, b, p, rfl, s02.seq hb, p3, few_mono fps (by decide), by omega, fun H3 m s3 hm0 hm => ?_⟩
    refine ⟨_, rfl, c, q, rfl, (s02.trans s3).seq hc, q3, few_mono fqs (by decide), by omega, fun H4 n s4 hn0 hn => ?_⟩
    have s04 := (s02.trans s3).trans s4
    refine ⟨_, _, .lst (SqL.of (s4 _ _ hm)) (dp_ints _ _ _), .lst (SqL.of hn) (dp_ints _ _ _), shaped_ints _, shaped_ints _, _, rfl, ?_⟩
    rw [show PyData.eqv (.list ((mixI p).map PyData.int)) (.list ((mixI q).map PyData.int)) = decide (mixI p = mixI q) by rw [PyData.eqv]; exact eqv_ints _ _]
    refine ite2 (fun h3 => ?_) (fun h3 => ?_)
    ·rw [if_pos (of_decide_eq_true h3)] at k
     exact ⟨line1, k.fin s04 rfl⟩
    ·rw [if_neg (fun z => h3 (decide_eq_true z))] at k
     have fw1 := few_won hW fp
     have fw2 := few_won hW fq
     have hwl : ∀ ws, (wonM W ws).length ≤ 4 := fun ws => by rw [wonM, List.length_map]; exact hlen4
     have fl : ∀ ws, (∀ x ∈ wonM W ws, Few 34 x) → Few 7000 (leadM p q (wonM W ws)) := by
      intro ws hws
      unfold leadM
      refine few_mono (few_sub (n := 60) ?_ ?_) (by decide)
      ·exact few_mono (few_mul (few_wsum (k := 2) hws fp (hwl ws)) fqs) (by decide)
      ·exact few_mono (few_mul (few_wsum (k := 2) hws fq (hwl ws)) fps) (by decide)
     refine ⟨_, rfl, _, rfl, _, rfl, _, rfl, a, b, W, p, rfl, ha.same s04, s04.seq hb, fun r hr2 => ⟨hW.mat20.row r hr2, hW.mat20.few r hr2⟩, f8 (by decide) fp, hW.mat20.len, fun H5 r s5 hr0 hr1 => ?_⟩
     have s05 := s04.trans s5
     refine ⟨b, c, r, p, q, _, rfl, s05.seq hb, s05.seq hc, SqL.of hr1, fp, fq, fun x hx => few_mono (fw1 x hx) (by decide), hwl p, fps, fqs, fun H6 s6 => ?_⟩
     have s06 := s05.trans s6
     refine ⟨_, rfl, c, q, rfl, s06.seq hc, _, _, rfl, rfl, ⟨few_mono (fl p fw1) (by decide), few_mono fqs (by decide)⟩, ?_⟩
     refine ⟨_, rfl, _, rfl, _, rfl, _, rfl, a, c, W, q, rfl, ha.same s06, s06.seq hc, fun r hr2 => ⟨hW.mat20.row r hr2, hW.mat20.few r hr2⟩, f8 (by decide) fq, hW.mat20.len, fun H7 r7 s7 hr70 hr71 => ?_⟩
     have s07 := s06.trans s7
     refine ⟨b, c, r7, p, q, _, rfl, s07.seq hb, s07.seq hc, SqL.of hr71, fp, fq, fun x hx => few_mono (fw2 x hx) (by decide), hwl q, fps, fqs, fun H8 s8 => ?_⟩
     have s08 := s07.trans s8
     refine ⟨_, rfl, b, p, rfl, s08.seq hb, _, _, rfl, rfl, ⟨few_mono (fl q fw2) (by decide), few_mono fps (by decide)⟩, ?_⟩
     unfold bearsM at k
     have fa : Few 7900 (leadM p q (wonM W p) * q.sum) := few_mono (few_mul (fl p fw1) fqs) (by decide)
     have fb : Few 7900 (leadM p q (wonM W q) * p.sum) := few_mono (few_mul (fl q fw2) fps) (by decide)
     dsimp only at k
     refine ⟨_, rfl, _, _, rfl, rfl, _, rfl, ite2 (fun h4 => ?_) (fun h4 => ?_)⟩
     ·rw [if_pos (.inl (of_decide_eq_true h4))] at k
      exact iteT ⟨by show 2 ≤ sizeLine; decide, k.fin s08 rfl⟩
     ·have h4' : ¬ (leadM p q (wonM W p) * q.sum) < 0 := fun z => h4 (decide_eq_true z)
      refine ⟨_, rfl, rfl, _, rfl, ite2 (fun h5 => ?_) (fun h5 => ?_)⟩
      ·have h5' : (leadM p q (wonM W p) * q.sum) = 0 := of_decide_eq_true (decV h5)
       refine ⟨_, rfl, _, _, rfl, rfl, _, rfl, ite2 (fun h7 => ?_) (fun h7 => ?_)⟩
       ·rw [if_pos (.inr ⟨h5', of_decide_eq_true h7⟩)] at k
        exact ⟨by show 2 ≤ sizeLine; decide, k.fin s08 rfl⟩
       ·have hneg : ¬ ((leadM p q (wonM W p) * q.sum) < 0 ∨ ((leadM p q (wonM W p) * q.sum) = 0 ∧ (leadM p q (wonM W q) * p.sum) ≤ 0)) := by
         rintro (z | ⟨_, z⟩)
         ·exact h4' z
         ·exact h7 (decide_eq_true z)
        refine ⟨_, rfl, _, _, rfl, rfl, _, rfl, ite2 (fun h6 => ?_) (fun h6 => ?_)⟩
        ·have h6' : 0 ≤ (leadM p q (wonM W q) * p.sum) := of_decide_eq_true h6
         rw [if_neg hneg, if_pos h6'] at k
         exact ⟨by show 2 ≤ sizeLine; decide, k.fin s08 rfl⟩
        ·have h6' : ¬ 0 ≤ (leadM p q (wonM W q) * p.sum) := fun z => h6 (decide_eq_true z)
         rw [if_neg hneg, if_neg h6'] at k
         exact ⟨_, rfl, _, rfl, _, rfl, _, _, rfl, rfl, (leadM p q (wonM W p) * q.sum), (leadM p q (wonM W p) * q.sum) - (leadM p q (wonM W q) * p.sum), rfl, bears_pos hneg h6', few_mono (few_sub fa fb) (by decide), k.fin s08 rfl⟩
      ·have h5' : ¬ (leadM p q (wonM W p) * q.sum) = 0 := of_decide_eq_false (decVn h5)
       have hneg : ¬ ((leadM p q (wonM W p) * q.sum) < 0 ∨ ((leadM p q (wonM W p) * q.sum) = 0 ∧ (leadM p q (wonM W q) * p.sum) ≤ 0)) := by
        rintro (z | ⟨z, _⟩)
        ·exact h4' z
        ·exact h5' z
       refine iteF ?_
       refine ⟨_, rfl, _, _, rfl, rfl, _, rfl, ite2 (fun h6 => ?_) (fun h6 => ?_)⟩
       ·have h6' : 0 ≤ (leadM p q (wonM W q) * p.sum) := of_decide_eq_true h6
        rw [if_neg hneg, if_pos h6'] at k
        exact ⟨by show 2 ≤ sizeLine; decide, k.fin s08 rfl⟩
       ·have h6' : ¬ 0 ≤ (leadM p q (wonM W q) * p.sum) := fun z => h6 (decide_eq_true z)
        rw [if_neg hneg, if_neg h6'] at k
        exact ⟨_, rfl, _, rfl, _, rfl, _, _, rfl, rfl, (leadM p q (wonM W p) * q.sum), (leadM p q (wonM W p) * q.sum) - (leadM p q (wonM W q) * p.sum), rfl, bears_pos hneg h6', few_mono (few_sub fa fb) (by decide), k.fin s08 rfl⟩
end
end Cw
end
section
set_option Elab.async false
set_option linter.all false
set_option maxRecDepth 100000
namespace Cw
open PySem PySem.Spec PyProof.Rows L2
def minL (l : List Int) : Int := -(maxL (l.map fun x => -x))
theorem minL_eq {l : List Int} {m : Int} (h1 : m ∈ l) (h2 : ∀ y ∈ l, m ≤ y) : minL l = m := by
 unfold minL
 rw [maxL_eq (m := -m) (List.mem_map.mpr ⟨m, h1, rfl⟩) (fun y hy => ?_)]
 ·omega
 ·obtain ⟨z, hz, rfl⟩ := List.mem_map.mp hy
  have := h2 z hz
  omega
theorem minL_mem {l : List Int} (h : 0 < l.length) : minL l ∈ l := by
 have := maxL_mem (l := l.map fun x => -x) (by rw [List.length_map]; exact h)
 obtain ⟨z, hz, e⟩ := List.mem_map.mp this
 unfold minL
 rw [← e]
 have : - -z = z := by omega
 rw [this]
 exact hz
theorem minL_le {l : List Int} : ∀ y ∈ l, minL l ≤ y := by
 intro y hy
 have := maxL_le (l := l.map fun x => -x) (-y) (List.mem_map.mpr ⟨y, hy, rfl⟩)
 unfold minL
 omega
def anyNeg (W : List (List Int)) : Bool := W.any fun r => r.any fun x => decide (x < 0)
theorem anyNeg_min {W : List (List Int)} (hl : 0 < W.length) (hr : ∀ r ∈ W, 0 < r.length) {m : Int} (h1 : m ∈ W.map minL) (h2 : ∀ y ∈ W.map minL, m ≤ y) : anyNeg W = decide (m < 0) := by
 rw [Bool.eq_iff_iff, decide_eq_true_iff]
 unfold anyNeg
 rw [List.any_eq_true]
 constructor
 ·rintro ⟨r, hr1, h⟩
  obtain ⟨x, hx, h⟩ := List.any_eq_true.mp h
  have h3 := of_decide_eq_true h
  have h4 := h2 (minL r) (List.mem_map.mpr ⟨r, hr1, rfl⟩)
  have h5 := minL_le x hx
  omega
 ·intro h
  obtain ⟨r, hr1, rfl⟩ := List.mem_map.mp h1
  exact ⟨r, hr1, List.any_eq_true.mpr ⟨_, minL_mem (hr r hr1), decide_eq_true h⟩⟩
def growStep (W : List (List Int)) (ws : List Int) : List Int := List.zipWith (fun x y => x * y) ws (wonM W ws)
def growGo (W : List (List Int)) : Nat → List Int → Option (List Int)
 | 0, ws => some ws
 | t + 1, ws => if (growStep W ws).sum = 0 then none else growGo W t (growStep W ws)
def growA (W : List (List Int)) (t : Int) (p : List Int) : List Int := if ((decide (0 ≤ t) && decide (t ≤ 5)) && areWeights W.length p) = true then
  (if anyNeg W = true then [-7] else match growGo W t.toNat p with
   | none => [-8]
   | some ws => 0 :: mixI ws)
 else [-1]
def gb : Nat → Nat
 | 0 => 10
 | i + 1 => 2 * gb i + 22
theorem gb_le {i : Nat} (h : i ≤ 5) : gb i ≤ 1002 := by
 have : i = 0 ∨ i = 1 ∨ i = 2 ∨ i = 3 ∨ i = 4 ∨ i = 5 := by omega
 rcases this with rfl | rfl | rfl | rfl | rfl | rfl <;> decide
structure Wts (n b : Nat) (ws : List Int) : Prop where
 len : ws.length = n
 nn : ∀ x ∈ ws, 0 ≤ x
 few : ∀ x ∈ ws, Few b x
theorem won_nn {W : List (List Int)} {ws : List Int} (hW : ∀ r ∈ W, ∀ x ∈ r, 0 ≤ x) (hw : ∀ x ∈ ws, 0 ≤ x) : ∀ x ∈ wonM W ws, 0 ≤ x := by
 intro x hx
 unfold wonM at hx
 obtain ⟨r, hr, rfl⟩ := List.mem_map.mp hx
 unfold wsum
 apply sum_nonneg
 intro v hv
 rw [zip_with] at hv
 obtain ⟨q, hq, rfl⟩ := List.mem_map.mp hv
 have := List.of_mem_zip hq
 exact Int.mul_nonneg (hW r hr _ this.1) (hw _ this.2)
theorem Wts.step {W : List (List Int)} {ws : List Int} {b : Nat} (hW : Sqr 4 20 W) (hn : anyNeg W = false) (h : Wts W.length b ws) : Wts W.length (2 * b + 22) (growStep W ws) := by
 have hwn : ∀ r ∈ W, ∀ x ∈ r, 0 ≤ x := by
  intro r hr x hx
  unfold anyNeg at hn
  have := List.any_eq_false.mp hn r hr
  have h2 : ∀ y ∈ r, 0 ≤ y := by simpa using this
  exact h2 x hx
 have hw2 := won_nn hwn h.nn
 refine ⟨?_, ?_, ?_⟩
 ·unfold growStep wonM
  rw [List.length_zipWith, List.length_map, h.len, Nat.min_self]
 ·intro x hx
  unfold growStep at hx
  rw [zip_with] at hx
  obtain ⟨q, hq, rfl⟩ := List.mem_map.mp hx
  have := List.of_mem_zip hq
  exact Int.mul_nonneg (h.nn _ this.1) (hw2 _ this.2)
 ·intro x hx
  unfold growStep at hx
  rw [zip_with] at hx
  obtain ⟨q, hq, rfl⟩ := List.mem_map.mp hx
  have := List.of_mem_zip hq
  exact few_mono (few_mul (h.few _ this.1) (few_won hW h.few _ this.2)) (by omega)
theorem mixI_len (ws : List Int) : (mixI ws).length = 2 * ws.length := by
 unfold mixI
 have : ∀ (l : List Int), (l.flatMap fun x => frI x ws.sum).length = 2 * l.length := by
  intro l
  induction l with
  | nil => rfl
  | cons x l ih => rw [List.flatMap_cons, List.length_append, ih, List.length_cons]; show 2 + _ = _; omega
 exact this ws
section
variable {P : Program} {w : World} {K : PySem.W.Frag} {mg : Str → Option Value} {base : Heap}
def sp_answer_grow (K : PySem.W.Frag) : Sp := fun vs H Q _ => ∃ (a b : Addr) (W : List (List Int)) (t : Int) (p : List Int), vs = [.ref a, .int t, .ref b] ∧ LL K H a W ∧ Sqr 4 20 W ∧ 0 < W.length ∧ LI K H b p ∧ p.length ≤ 16000 ∧ RetL Q H (growA W t p)
theorem sc_answer_grow : FnScope ["wins", "t", "p", "row", "weights", "turn", "weight", "won"] ["wins", "t", "p"] (defScope s_answer_grow) := ⟨rfl, rfl, rfl, by decide +kernel, rfl, by decide +kernel, by decide +kernel⟩
theorem c_answer_grow (T : Txt K mg) : Cal P w K mg base "answer_grow" 4 ["wins", "t", "p"] (sp_answer_grow K) := by
 have c_are_weights := c_are_weights (P := P) (w := w) (base := base) T
 have c_mixture := c_mixture (P := P) (w := w) (base := base) T
 have c_won_against := c_won_against (P := P) (w := w) (base := base) T
 obtain ⟨t_OUT_OF_RANGE, h_OUT_OF_RANGE⟩ := T.k_OUT_OF_RANGE
 obtain ⟨t_MOST_TIMES, h_MOST_TIMES⟩ := T.k_MOST_TIMES
 obtain ⟨t_WIN_BELOW_ZERO, h_WIN_BELOW_ZERO⟩ := T.k_WIN_BELOW_ZERO
 obtain ⟨t_NOTHING_WON, h_NOTHING_WON⟩ := T.k_NOTHING_WON
 refine cal_of T.d_answer_grow sc_answer_grow (fun vs H Q E h => ?_) (fun f cdv A outer s H vs Q E hr h => ?_)
 ·obtain ⟨a, b, W, t, p, rfl, _⟩ := h
  rfl
 ·obtain ⟨a, b, W, t, p, rfl, ha, hW, hpos, hb, hp, k⟩ := h
  refine ⟨_, (pss_cons (ps_if (PW.pt (pw_or (pt_not (pt_chain op_le op_le pe_int (pv 1) (pe_globI h_MOST_TIMES))) (pw_or1 (pt_not (pt_val (pe_cal c_are_weights (hr.mono (by decide)) (pa_cons (pv 2) (pa_cons (pe_callB (crLen (K := K) rfl) rfl T.b_len (by decide +kernel) (pa_cons (pv 0) pa_nil)) pa_nil)))))))) (pss_one (ps_ret (pe_lst (pa_cons (pe_globI h_OUT_OF_RANGE) pa_nil)))) pss_nil)
   (pss_cons (ps_if (pt_cmpR op_lt (pe_callB (crMin (K := K) rfl rfl) rfl T.b_min (by decide +kernel) (pa_cons (pe_lc rfl sc_answer_grow.nd (piL (K := K) rfl (pv 0)) (blkOk_by (own := [("row", 3)]) rfl) (fun _ _ _ _ _ => (pg_name (i := 3) sc_answer_grow.nd rfl (by first | exact Or.inl rfl | exact Or.inr rfl))) (fun _ _ _ _ _ => pts_nil) (fun _ _ _ _ _ => (pe_callB (crMin (K := K) rfl rfl) rfl T.b_min (by decide +kernel) (pa_cons (pv 3) pa_nil)))) pa_nil)) pe_int (nomark _)) (pss_one (ps_ret (pe_lst (pa_cons (pe_globI h_WIN_BELOW_ZERO) pa_nil)))) pss_nil)
   (pss_cons (ps_set (i := 4) sc_answer_grow.nd rfl (by first | exact Or.inl rfl | exact Or.inr rfl) (pv 2))
   (pss_cons (ps_for PassesOwn.never rfl (pi_range1 rfl T.b_range (pa_cons (pv 1) pa_nil)) (pg_name (i := 5) sc_answer_grow.nd rfl (by first | exact Or.inl rfl | exact Or.inr rfl)) (pss_cons (ps_setLc (i := 4) rfl sc_answer_grow.nd rfl rfl (sw_true rfl rfl rfl (by decide +kernel)) (piZ (K := K) rfl T.b_zip (pa_cons (pv 4) (pa_cons (pe_cal c_won_against (hr.mono (by decide)) (pa_cons (pv 0) (pa_cons (pv 4) pa_nil))) pa_nil))) (blkOk_by (own := [("weight", 6), ("won", 7)]) rfl) (fun _ _ _ _ _ => (pgT (K := K) (n := 2) rfl rfl (pgs_cons (pg_name (i := 6) sc_answer_grow.nd rfl (by first | exact Or.inl rfl | exact Or.inr rfl)) (pgs_cons (pg_name (i := 7) sc_answer_grow.nd rfl (by first | exact Or.inl rfl | exact Or.inr rfl)) pgs_nil)))) (fun _ _ _ _ _ => pts_nil) (fun _ _ _ _ _ => (pe_op op_mulB (pv 6) (pv 7))))
   (pss_one (ps_if (pt_cmpR op_eq (pe_callB (crSum (K := K) rfl rfl) rfl T.b_sum (by decide +kernel) (pa_cons (pv 4) pa_nil)) pe_int (nomark _)) (pss_one (ps_ret (pe_lst (pa_cons (pe_globI h_NOTHING_WON) pa_nil)))) pss_nil))))
   (pss_one (ps_ret (pe_op op_cat (pe_lst (pa_cons pe_int pa_nil)) (pe_cal c_mixture (hr.mono (by decide)) (pa_cons (pv 4) pa_nil))))))))), ?_⟩
  have no : ∀ H', Same H H' → ((decide (0 ≤ t) && decide (t ≤ 5)) && areWeights W.length p) = false → ∀ l, H' l = none → Q (.ref l) (upd H' l (.lst [.int (-1)])) := by
   intro H' s' e
   unfold growA at k
   rw [e] at k
   exact k.fin s' rfl
  refine ⟨_, rfl, _, _, rfl, rfl, _, rfl, ite2 (fun h1 => ?_) (fun h1 => ?_)⟩
  ·refine ⟨_, _, rfl, rfl, _, rfl, ite2 (fun h2 => ?_) (fun h2 => ?_)⟩
   ·refine iteT ⟨line1, no H (Same.refl _) ?_⟩
    rw [show decide (t ≤ 5) = false by simpa using h2, Bool.and_false, Bool.false_and]
   ·have h1' : 0 ≤ t := of_decide_eq_true h1
    have h2' : t ≤ 5 := by simpa using h2
    obtain ⟨xs, hxs, hxl⟩ := ha.ex
    refine ⟨_, rfl, _, rfl, a, _, rfl, hxs, b, p, W.length, by rw [hxl]; rfl, hb, hp, fun H1 s1 => ⟨_, rfl, ite2 (fun h3 => ?_) (fun h3 => ?_)⟩⟩
    ·refine ⟨line1, no H1 s1 ?_⟩
     rw [show areWeights W.length p = false by simpa using h3, Bool.and_false]
    have h3' : areWeights W.length p = true := by simpa using h3
    unfold growA at k
    rw [h3', decide_eq_true h1', decide_eq_true h2', Bool.and_self, Bool.and_self, if_pos rfl] at k
    have hlen4 := hW.len
    obtain ⟨p1, p2, p3⟩ := weights_of h3'
    have hrpos : ∀ r ∈ W, 0 < r.length := fun r hr => by rw [hW.row r hr]; exact hpos
    obtain ⟨xs1, hxs1, hxl1⟩ := (ha.same s1).ex
    refine ⟨_, rfl, a, rfl, ⟨_, hxs1⟩, fun D hD => ?_⟩
    refine lc_map (ha.same s1).sq hD (fun r => .int (minL r)) (le_line (by omega)) ?_ gm_name ?_
    ·rintro r hr2 _ H2 R s2 ⟨q, rfl, hq⟩ kR
     refine ⟨rfl, _, rfl, q, r, rfl, hq, hrpos r hr2, fun m hm1 hm2 => ?_⟩
     rw [← minL_eq hm1 hm2]
     exact kR H2 (Same.refl _)
    ·intro H2 s2 hD2
     have s02 := s1.trans s2
     refine ⟨D, W.map minL, rfl, SqL.of (by rw [hD2, List.map_map]; rfl), by rw [List.length_map]; exact hpos, fun m hm1 hm2 => ?_⟩
     have hneg := anyNeg_min hpos hrpos hm1 hm2
     refine ⟨_, _, rfl, rfl, _, rfl, ite2 (fun h4 => ?_) (fun h4 => ?_)⟩
     ·rw [if_pos (by rw [hneg]; exact h4)] at k
      exact ⟨line1, k.fin s02 rfl⟩
     have hnn : anyNeg W = false := by rw [hneg]; simpa using h4
     rw [if_neg (by rw [hnn]; decide)] at k
     refine ⟨_, rfl, _, rfl, t, rfl, by omega, by omega, ?_⟩
     refine for_range (lo := 0) (n := t.toNat) (fun i σ H' => ∃ (l : Addr) (v5 : Option V) (ws : List Int), σ = [some (.ref a), some (.int t), some (.ref b), none, some (.ref l), v5, none, none] ∧ Same H H' ∧ LI K H' l ws ∧ Wts W.length (gb i) ws ∧ 0 < ws.sum ∧ growGo W t.toNat p = growGo W (t.toNat - i) ws) ?_ ?_ ?_
     ·exact ⟨b, none, p, rfl, s02, s02.seq hb, ⟨p1, fun x hx => (p2 x hx).1, few_weights h3'⟩, p3, rfl⟩
     ·rintro i σ H3 hi ⟨l, v5, ws, rfl, s3, hl, hw, hws, hgo⟩
      have hgb : gb i ≤ 1002 := gb_le (by omega)
      refine ⟨_, rfl, _, rfl, _, rfl, a, l, W, ws, rfl, ha.same s3, hl, fun r hr2 => ⟨hW.mat20.row r hr2, hW.mat20.few r hr2⟩, f8 (by omega) hw.few, hW.mat20.len, fun H4 c s4 hc0 hc => ?_⟩
      have s04 := s3.trans s4
      refine ⟨l, c, _, _, rfl, s4.seq hl, SqL.of hc, fun D2 hD2 => ?_⟩
      refine lc_map (sq_zipI (s4.seq hl) (SqL.of hc)) hD2 (fun q => .int (q.1 * q.2)) (Nat.le_trans (by rw [List.length_zip]; exact Nat.min_le_left _ _) (le_line (by rw [hw.len]; omega))) ?_ gm_pair ?_
      ·rintro ⟨x, y⟩ hq _ H5 R s5 ⟨u, rfl, hu⟩ kR
       have hm := List.of_mem_zip hq
       exact ⟨u, _, rfl, SqT.of hu, rfl, _, _, rfl, _, _, rfl, rfl, rfl, _, rfl, _, rfl, _, _, rfl, rfl, ⟨few_mono (hw.few x hm.1) (by omega), few_mono (few_won hW hw.few y hm.2) (by omega)⟩, kR H5 (Same.refl _)⟩
      ·intro H5 s5 hD5
       have hD5' : H5 D2 = some (.lst ((growStep W ws).map V.int)) := by
        rw [hD5, growStep, zip_with, List.map_map]
        rfl
       have hw2 := hw.step hW hnn
       have e : growGo W t.toNat p = if (growStep W ws).sum = 0 then none else growGo W (t.toNat - (i + 1)) (growStep W ws) := by
        rw [hgo, show t.toNat - i = (t.toNat - (i + 1)) + 1 by omega]
        rfl
       refine ⟨_, rfl, D2, _, rfl, SqL.of hD5', rfl, _, rfl, ite2 (fun h5 => ?_) (fun h5 => ?_)⟩
       ·rw [e, if_pos (of_decide_eq_true (decV h5))] at k
        exact ⟨line1, k.fin (s04.trans s5) rfl⟩
       ·have h5' : ¬ (growStep W ws).sum = 0 := of_decide_eq_false (decVn h5)
        rw [if_neg h5'] at e
        refine ⟨D2, _, _, rfl, s04.trans s5, SqL.of hD5', hw2, ?_, e⟩
        have := sum_nonneg _ hw2.nn
        omega
     ·rintro σ H3 ⟨l, v5, ws, rfl, s3, hl, hw, hws, hgo⟩
      have hgb : gb t.toNat ≤ 1002 := gb_le (by omega)
      rw [hgo, Nat.sub_self] at k
      refine ⟨line1, fun l0 hl0 => ?_⟩
      have s4 := same_upd (o := .lst [.int 0]) hl0
      have hl1 : upd H3 l0 (.lst [.int 0]) l0 = some (.lst [.int 0]) := upd_same
      generalize upd H3 l0 (.lst [.int 0]) = H4 at s4 hl1
      refine ⟨_, rfl, l, ws, rfl, s4.seq hl, hws, few_mono (few_sumW hw.few (by rw [hw.len]; omega)) (by omega), by rw [hw.len]; omega, fun H5 m s5 hm0 hm => ?_⟩
      refine ⟨l0, m, _, _, rfl, rfl, s5 _ _ hl1, hm, ?_, ?_⟩
      ·have hml := mixI_len ws
       have h5 := hw.len
       have := line100
       rw [List.length_map]
       show 1 + _ ≤ sizeLine
       omega
      ·exact k.fin ((s3.trans s4).trans s5) rfl
  ·refine ⟨_, rfl, ?_⟩
   refine iteT ?_
   refine iteT ⟨line1, no H (Same.refl _) ?_⟩
   rw [show decide (0 ≤ t) = false by simpa using h1, Bool.false_and, Bool.false_and]
end
end Cw
end
section
set_option Elab.async false
set_option linter.all false
set_option maxRecDepth 100000
namespace Cw
open PySem PySem.Spec PyProof.Rows L2
def cf (a : Addr) : List (Str × V) := putF "wins" (.ref a) []
theorem cf_wins (a : Addr) : (cf a).lookup ("wins" : Str) = some (.ref a) := by
 unfold cf
 rw [lookup_putF, if_pos rfl]
theorem cf_put (a b : Addr) : putF "wins" (.ref b) (cf a) = cf b := by
 show (if ("wins" : Str) = "wins" then [(("wins" : Str), V.ref b)] else _) = ([("wins", V.ref b)] : List (Str × V))
 rw [if_pos rfl]
def Bt (c : Addr) (H H' : Hp) : Prop := ∀ b o, H b = some o → b ≠ c → H' b = some o
theorem bt_of {c : Addr} {H H' : Hp} (s : Same H H') : Bt c H H' := fun b o e _ => s b o e
theorem Bt.trans {c : Addr} {H H1 H2 : Hp} (a : Bt c H H1) (b : Bt c H1 H2) : Bt c H H2 := fun x o e h => b x o (a x o e h) h
theorem bt_upd {c : Addr} {H : Hp} {o : HO} : Bt c H (upd H c o) := fun b u e h => by rw [upd_ne h]; exact e
structure Con (C dx : Addr) (H : Hp) (c : Addr) (a : Addr) (W : List (List Int)) : Prop where
 at_ : H c = some (.ins C dx (cf a))
 lo : LO H a W
theorem Con.same {C dx : Addr} {H H' : Hp} {c a : Addr} {W : List (List Int)} (h : Con C dx H c a W) (s : Same H H') : Con C dx H' c a W := ⟨s _ _ h.at_, h.lo.same s⟩
theorem LO.bt {C dx c : Addr} {fs : List (Str × V)} {H H' : Hp} {a : Addr} {W : List (List Int)} (h : LO H a W) (hc : H c = some (.ins C dx fs)) (s : Bt c H H') : LO H' a W := by
 obtain ⟨rs, h1, h2⟩ := h
 exact ⟨rs, s _ _ h1 (ne_of h1 hc (by intro z; cases z)), pmap (fun _ _ q => s _ _ q (ne_of q hc (by intro z; cases z))) h2⟩
def RetC (C dx c : Addr) (Q : VK) (H : Hp) (W : List (List Int)) (ans : List Int) : Prop :=
 ∀ H' r a, Bt c H H' → Con C dx H' c a W → H r = none → H' r = some (.lst (ans.map V.int)) → Q (.ref r) H'
theorem RetC.keep {C dx c a : Addr} {Q : VK} {H H1 : Hp} {W : List (List Int)} {ans : List Int} {l : List V} (k : RetC C dx c Q H W ans) (hc : Con C dx H c a W) (s : Same H H1) (e : l = ans.map V.int) : ∀ p, H1 p = none → Q (.ref p) (upd H1 p (.lst l)) := fun p hp =>
 k _ p a (bt_of (s.trans (same_upd hp))) (hc.same (s.trans (same_upd hp))) (s.free hp) (by rw [upd_same, e])
theorem RetC.on {C dx c : Addr} {Q : VK} {H H1 : Hp} {W : List (List Int)} {ans : List Int} (k : RetC C dx c Q H W ans) (s : Same H H1) : RetC C dx c Q H1 W ans :=
 fun H' r a b hc hr h => k H' r a ((bt_of s).trans b) hc (s.free hr) h
structure ClC (K : PySem.W.Frag) (mg : Str → Option Value) (C : Addr) : Prop where
 cl : Cls K C
 nW : NoAttr K C "wins"
theorem line_few (a : Addr) : (cf a).length < 1000 := by show 1 < 1000; decide
section
variable {P : Program} {w : World} {K : PySem.W.Frag} {mg : Str → Option Value} {base : Heap}
def inGrown (W : List (List Int)) : Bool := W.all fun r => r.all fun x => decide (-1000000 ≤ x) && decide (x ≤ 1000000)
def grownW (W0 W : List (List Int)) : List (List Int) := if inGrown W = true then W else W0
def grownAns (W : List (List Int)) : List Int := if inGrown W = true then [0] else [-9]
def sp_take_grown (C : Addr) : Sp := fun vs H Q _ => ∃ (c dx a0 a : Addr) (W0 W : List (List Int)), vs = [.ref c, .ref a] ∧ Con C dx H c a0 W0 ∧ LO H a W ∧ W.length ≤ 1000 ∧ (∀ r ∈ W, r.length ≤ 1000) ∧ RetC C dx c Q H (grownW W0 W) (grownAns W)
theorem sc_take_grown : FnScope ["contest", "wins", "row"] ["contest", "wins"] (defScope s_take_grown) := ⟨rfl, rfl, rfl, by decide +kernel, rfl, by decide +kernel, by decide +kernel⟩
theorem c_take_grown {C : Addr} (T : Txt K mg) (TC : ClC K mg C) : Cal P w K mg base "take_grown" 2 ["contest", "wins"] (sp_take_grown C) := by
 have c_are_within := c_are_within (P := P) (w := w) (base := base) T
 obtain ⟨t_MOST_GROWN_WIN, h_MOST_GROWN_WIN⟩ := T.k_MOST_GROWN_WIN
 obtain ⟨t_WIN_TOO_FAR, h_WIN_TOO_FAR⟩ := T.k_WIN_TOO_FAR
 refine cal_of T.d_take_grown sc_take_grown (fun vs H Q E h => ?_) (fun f cdv A outer s H vs Q E hr h => ?_)
 ·obtain ⟨c, dx, a0, a, W0, W, rfl, _⟩ := h
  rfl
 ·obtain ⟨c, dx, a0, a, W0, W, rfl, hc, ha, hl, hrl, k⟩ := h
  refine ⟨_, (pss_cons (ps_if (pt_not (pt_val (pe_callB (crAll (K := K) rfl rfl) rfl T.b_all (by decide +kernel) (pa_cons (pe_lc rfl sc_take_grown.nd (piL (K := K) rfl (pv 1)) (blkOk_by (own := [("row", 2)]) rfl) (fun _ _ _ _ _ => (pg_name (i := 2) sc_take_grown.nd rfl (by first | exact Or.inl rfl | exact Or.inr rfl))) (fun _ _ _ _ _ => pts_nil) (fun _ _ _ _ _ => (pe_cal c_are_within (hr.mono (by decide)) (pa_cons (pv 2) (pa_cons (pe_un un_neg (pe_globI h_MOST_GROWN_WIN)) (pa_cons (pe_globI h_MOST_GROWN_WIN) pa_nil)))))) pa_nil)))) (pss_one (ps_ret (pe_lst (pa_cons (pe_globI h_WIN_TOO_FAR) pa_nil)))) pss_nil)
   (pss_cons (ps_fld (pv 0) (pv 1) rfl)
   (pss_one (ps_ret (pe_lst (pa_cons pe_int pa_nil)))))), ?_⟩
  obtain ⟨xs, hxs, hxl⟩ := (ha.ll (K := K)).ex
  refine ⟨_, rfl, a, rfl, ⟨_, hxs⟩, fun D hD => ?_⟩
  refine lc_map (ha.ll (K := K)).sq hD (fun r => .bl (r.all fun x => decide (-1000000 ≤ x) && decide (x ≤ 1000000))) (le_line hl) ?_ gm_name ?_
  ·rintro r hr2 _ H1 R s1 ⟨q, rfl, hq⟩ kR
   exact ⟨rfl, _, rfl, _, rfl, q, r, -1000000, 1000000, rfl, hq, Nat.le_trans (hrl r hr2) (by decide), fun H2 s2 => kR H2 s2⟩
  ·intro H1 s1 hD1
   refine ⟨D, W.map fun r => r.all fun x => decide (-1000000 ≤ x) && decide (x ≤ 1000000), rfl, SqL.of (by rw [hD1, List.map_map]; rfl), _, rfl, ?_⟩
   rw [List.all_map]
   refine ite2 (fun h1 => ?_) (fun h1 => ?_)
   ·have e : inGrown W = false := by
     have : (!inGrown W) = true := h1
     simpa using this
    unfold grownW grownAns at k
    rw [e] at k
    exact ⟨line1, k.keep hc s1 rfl⟩
   ·have e : inGrown W = true := by
     have : ¬ (!inGrown W) = true := h1
     simpa using this
    unfold grownW grownAns at k
    rw [e, if_pos rfl, if_pos rfl] at k
    have hc1 := (hc.same s1).at_
    refine ⟨_, rfl, _, rfl, c, C, dx, _, rfl, hc1, TC.cl, TC.nW, line_few a0, line1, fun l hl0 => ?_⟩
    have hcl : l ≠ c := fun z => by
     subst z
     rw [upd_same] at hl0
     cases hl0
    have hl1 : H1 l = none := by rwa [upd_ne hcl] at hl0
    have s2 := same_upd (o := .lst [.int 0]) hl0
    have b2 : Bt c H1 (upd (upd H1 c (.ins C dx (putF "wins" (.ref a) (cf a0)))) l (.lst [.int 0])) := bt_upd.trans (bt_of s2)
    refine k _ l a ((bt_of s1).trans b2) ⟨?_, (ha.same s1).bt hc1 b2⟩ (s1.free hl1) upd_same
    rw [upd_ne (Ne.symm hcl), upd_same, cf_put]
def shiftOk (W : List (List Int)) (bs : List Int) : Bool := decide (bs.length = W.length) && bs.all fun x => decide (-1000 ≤ x) && decide (x ≤ 1000)
def shiftN (W : List (List Int)) (bs : List Int) : List (List Int) := W.map fun r => List.zipWith (fun x y => x + y) r bs
def shiftW (W : List (List Int)) (bs : List Int) : List (List Int) := if shiftOk W bs = true then grownW W (shiftN W bs) else W
def shiftA (W : List (List Int)) (bs : List Int) : List Int := if shiftOk W bs = true then grownAns (shiftN W bs) else [-1]
def sp_answer_shift (K : PySem.W.Frag) (C : Addr) : Sp := fun vs H Q _ => ∃ (c dx a b : Addr) (W : List (List Int)) (bs : List Int), vs = [.ref c, .ref b] ∧ Con C dx H c a W ∧ Sqr 4 20 W ∧ LI K H b bs ∧ bs.length ≤ 16000 ∧ RetC C dx c Q H (shiftW W bs) (shiftA W bs)
theorem sc_answer_shift : FnScope ["contest", "b", "win", "more", "row"] ["contest", "b"] (defScope s_answer_shift) := ⟨rfl, rfl, rfl, by decide +kernel, rfl, by decide +kernel, by decide +kernel⟩
theorem c_answer_shift {C : Addr} (T : Txt K mg) (TC : ClC K mg C) : Cal P w K mg base "answer_shift" 3 ["contest", "b"] (sp_answer_shift K C) := by
 have c_are_within := c_are_within (P := P) (w := w) (base := base) T
 have c_take_grown := c_take_grown (P := P) (w := w) (base := base) T TC
 obtain ⟨t_MOST_SHIFT, h_MOST_SHIFT⟩ := T.k_MOST_SHIFT
 obtain ⟨t_OUT_OF_RANGE, h_OUT_OF_RANGE⟩ := T.k_OUT_OF_RANGE
 refine cal_of T.d_answer_shift sc_answer_shift (fun vs H Q E h => ?_) (fun f cdv A outer s H vs Q E hr h => ?_)
 ·obtain ⟨c, dx, a, b, W, bs, rfl, _⟩ := h
  rfl
 ·obtain ⟨c, dx, a, b, W, bs, rfl, hc, hW, hb, hbl, k⟩ := h
  refine ⟨_, (pss_cons (ps_if (PW.pt (pw_or (pt_cmpR op_ne (pe_callB (crLen (K := K) rfl) rfl T.b_len (by decide +kernel) (pa_cons (pv 1) pa_nil)) (pe_callB (crLen (K := K) rfl) rfl T.b_len (by decide +kernel) (pa_cons (pe_fld (pv 0) rfl) pa_nil)) (nomark _)) (pw_or1 (pt_not (pt_val (pe_cal c_are_within (hr.mono (by decide)) (pa_cons (pv 1) (pa_cons (pe_un un_neg (pe_globI h_MOST_SHIFT)) (pa_cons (pe_globI h_MOST_SHIFT) pa_nil))))))))) (pss_one (ps_ret (pe_lst (pa_cons (pe_globI h_OUT_OF_RANGE) pa_nil)))) pss_nil)
   (pss_one (ps_ret (pe_cal c_take_grown (hr.mono (by decide)) (pa_cons (pv 0) (pa_cons (pe_lc rfl sc_answer_shift.nd (piL (K := K) rfl (pe_fld (pv 0) rfl)) (blkOk_by (own := [("row", 4)]) rfl) (fun _ _ _ _ _ => (pg_name (i := 4) sc_answer_shift.nd rfl (by first | exact Or.inl rfl | exact Or.inr rfl))) (fun _ _ _ _ _ => pts_nil) (fun _ _ _ _ _ => (pe_lc rfl sc_answer_shift.nd (piZ (K := K) rfl T.b_zip (pa_cons (pv 4) (pa_cons (pv 1) pa_nil))) (blkOk_by (own := [("win", 2), ("more", 3)]) rfl) (fun _ _ _ _ _ => (pgT (K := K) (n := 2) rfl rfl (pgs_cons (pg_name (i := 2) sc_answer_shift.nd rfl (by first | exact Or.inl rfl | exact Or.inr rfl)) (pgs_cons (pg_name (i := 3) sc_answer_shift.nd rfl (by first | exact Or.inl rfl | exact Or.inr rfl)) pgs_nil)))) (fun _ _ _ _ _ => pts_nil) (fun _ _ _ _ _ => (pe_op op_add (pv 2) (pv 3)))))) pa_nil)))))), ?_⟩
  have hlen4 := hW.len
  have hll := hc.lo.ll (K := K)
  obtain ⟨xs, hxs, hxl⟩ := hll.ex
  have no : ∀ H', Same H H' → shiftOk W bs = false → ∀ l, H' l = none → Q (.ref l) (upd H' l (.lst [.int (-1)])) := by
   intro H' s' e
   unfold shiftW shiftA at k
   rw [e] at k
   exact k.keep hc s' rfl
  refine ⟨_, rfl, b, _, rfl, hb, _, rfl, c, C, dx, _, _, rfl, hc.at_, TC.cl, TC.nW, cf_wins a, a, _, rfl, hxs, rfl, _, rfl, ?_⟩
  rw [List.length_map, hxl]
  refine ite2 (fun h1 => ?_) (fun h1 => ?_)
  ·refine iteT ⟨line1, no H (Same.refl _) ?_⟩
   unfold shiftOk
   rw [show decide (bs.length = W.length) = false by
    apply decide_eq_false
    intro e
    rw [e] at h1
    simp at h1, Bool.false_and]
  ·have e1 : bs.length = W.length := by
    have : decide (V.int (bs.length : Nat) = V.int (W.length : Nat)) = true := by simpa using h1
    have := of_decide_eq_true (decV this)
    omega
   refine ⟨_, rfl, _, rfl, b, bs, -1000, 1000, rfl, hb, hbl, fun H1 s1 => ⟨_, rfl, ite2 (fun h2 => ?_) (fun h2 => ?_)⟩⟩
   ·refine ⟨line1, no H1 s1 ?_⟩
    unfold shiftOk
    rw [show (bs.all fun x => decide (-1000 ≤ x) && decide (x ≤ 1000)) = false by simpa using h2, Bool.and_false]
   ·have e2 : shiftOk W bs = true := by
     unfold shiftOk
     rw [decide_eq_true e1, show (bs.all fun x => decide (-1000 ≤ x) && decide (x ≤ 1000)) = true by simpa using h2]
     rfl
    unfold shiftW shiftA at k
    rw [if_pos e2, if_pos e2] at k
    have hc1 := hc.same s1
    have hll1 := hll.same s1
    obtain ⟨xs1, hxs1, hxl1⟩ := hll1.ex
    refine ⟨_, rfl, _, rfl, c, C, dx, _, _, rfl, hc1.at_, TC.cl, TC.nW, cf_wins a, a, rfl, ⟨_, hxs1⟩, fun D hD => ?_⟩
    refine lc_lists hll1.sq hD (fun r => (List.zipWith (fun x y => x + y) r bs).map V.int) (le_line (by omega)) ?_ gm_name ?_
    ·rintro r hr2 _ H2 R s2 ⟨q, rfl, hq⟩ kR
     have hb2 := (s1.trans s2).seq hb
     refine ⟨rfl, _, rfl, _, rfl, q, b, _, _, rfl, hq, hb2, fun D2 hD2 => ?_⟩
     refine lc_map (sq_zipI hq hb2) hD2 (fun z => .int (z.1 + z.2)) (Nat.le_trans (by rw [List.length_zip]; exact Nat.min_le_left _ _) (le_line (by rw [hW.row r hr2]; omega))) ?_ gm_pair ?_
     ·rintro ⟨x, y⟩ hz _ H3 R3 s3 ⟨t, rfl, ht⟩ kR3
      exact ⟨t, _, rfl, SqT.of ht, rfl, _, _, rfl, _, _, rfl, rfl, rfl, _, rfl, _, rfl, _, _, rfl, rfl, kR3 H3 (Same.refl _)⟩
     ·intro H3 s3 hD3
      refine kR H3 D2 hD2 ?_ s3
      rw [hD3, zip_with, List.map_map]
      rfl
    ·intro H2 rs s2 hD2 hp2 hnew
     refine ⟨c, dx, a, D, W, shiftN W bs, rfl, hc1.same s2, ⟨rs, hD2, p_map hp2⟩, by unfold shiftN; rw [List.length_map]; omega, ?_, k.on (s1.trans s2)⟩
     intro r hr2
     obtain ⟨q, hq, rfl⟩ := List.mem_map.mp hr2
     rw [List.length_zipWith, hW.row q hq]
     omega
def scaleN (W : List (List Int)) (z : Int) : List (List Int) := W.map fun r => r.map fun x => x * z
def scaleOk (z : Int) : Bool := decide (1 ≤ z) && decide (z ≤ 100)
def scaleW (W : List (List Int)) (z : Int) : List (List Int) := if scaleOk z = true then grownW W (scaleN W z) else W
def scaleA (W : List (List Int)) (z : Int) : List Int := if scaleOk z = true then grownAns (scaleN W z) else [-1]
def sp_answer_scale (C : Addr) : Sp := fun vs H Q _ => ∃ (c dx a : Addr) (W : List (List Int)) (z : Int), vs = [.ref c, .int z] ∧ Con C dx H c a W ∧ Sqr 4 20 W ∧ RetC C dx c Q H (scaleW W z) (scaleA W z)
theorem sc_answer_scale : FnScope ["contest", "k", "win", "row"] ["contest", "k"] (defScope s_answer_scale) := ⟨rfl, rfl, rfl, by decide +kernel, rfl, by decide +kernel, by decide +kernel⟩
theorem c_answer_scale {C : Addr} (T : Txt K mg) (TC : ClC K mg C) : Cal P w K mg base "answer_scale" 3 ["contest", "k"] (sp_answer_scale C) := by
 have c_take_grown := c_take_grown (P := P) (w := w) (base := base) T TC
 obtain ⟨t_MOST_FACTOR, h_MOST_FACTOR⟩ := T.k_MOST_FACTOR
 obtain ⟨t_OUT_OF_RANGE, h_OUT_OF_RANGE⟩ := T.k_OUT_OF_RANGE
 refine cal_of T.d_answer_scale sc_answer_scale (fun vs H Q E h => ?_) (fun f cdv A outer s H vs Q E hr h => ?_)
 ·obtain ⟨c, dx, a, W, z, rfl, _⟩ := h
  rfl
 ·obtain ⟨c, dx, a, W, z, rfl, hc, hW, k⟩ := h
  refine ⟨_, (pss_cons (ps_if (pt_not (pt_chain op_le op_le pe_int (pv 1) (pe_globI h_MOST_FACTOR))) (pss_one (ps_ret (pe_lst (pa_cons (pe_globI h_OUT_OF_RANGE) pa_nil)))) pss_nil)
   (pss_one (ps_ret (pe_cal c_take_grown (hr.mono (by decide)) (pa_cons (pv 0) (pa_cons (pe_lc rfl sc_answer_scale.nd (piL (K := K) rfl (pe_fld (pv 0) rfl)) (blkOk_by (own := [("row", 3)]) rfl) (fun _ _ _ _ _ => (pg_name (i := 3) sc_answer_scale.nd rfl (by first | exact Or.inl rfl | exact Or.inr rfl))) (fun _ _ _ _ _ => pts_nil) (fun _ _ _ _ _ => (pe_lc rfl sc_answer_scale.nd (piL (K := K) rfl (pv 3)) (blkOk_by (own := [("win", 2)]) rfl) (fun _ _ _ _ _ => (pg_name (i := 2) sc_answer_scale.nd rfl (by first | exact Or.inl rfl | exact Or.inr rfl))) (fun _ _ _ _ _ => pts_nil) (fun _ _ _ _ _ => (pe_op op_mulB (pv 2) (pv 1)))))) pa_nil)))))), ?_⟩
  have hlen4 := hW.len
  have hll := hc.lo.ll (K := K)
  obtain ⟨xs, hxs, hxl⟩ := hll.ex
  have no : scaleOk z = false → ∀ l, H l = none → Q (.ref l) (upd H l (.lst [.int (-1)])) := by
   intro e
   unfold scaleW scaleA at k
   rw [e] at k
   exact k.keep hc (Same.refl _) rfl
  refine ⟨_, rfl, _, _, rfl, rfl, _, rfl, ite2 (fun h1 => ?_) (fun h1 => ?_)⟩
  ·refine ⟨_, _, rfl, rfl, _, rfl, ite2 (fun h2 => ?_) (fun h2 => ?_)⟩
   ·refine ⟨line1, no ?_⟩
    unfold scaleOk
    rw [show decide (z ≤ 100) = false by simpa using h2, Bool.and_false]
   ·have e : scaleOk z = true := by
     unfold scaleOk
     rw [h1, show decide (z ≤ 100) = true by simpa using h2]
     rfl
    unfold scaleW scaleA at k
    rw [if_pos e, if_pos e] at k
    have hz1 : 1 ≤ z := of_decide_eq_true h1
    have hz2 : z ≤ 100 := by simpa using h2
    have fz : Few 8000 z := few_lit 7 (by omega) (by decide)
    refine ⟨_, rfl, _, rfl, c, C, dx, _, _, rfl, hc.at_, TC.cl, TC.nW, cf_wins a, a, rfl, ⟨_, hxs⟩, fun D hD => ?_⟩
    refine lc_lists hll.sq hD (fun r => (r.map fun x => x * z).map V.int) (le_line (by omega)) ?_ gm_name ?_
    ·rintro r hr2 _ H2 R s2 ⟨q, rfl, hq⟩ kR
     refine ⟨rfl, _, rfl, q, rfl, ⟨_, hq⟩, fun D2 hD2 => ?_⟩
     refine lc_map (sq_ints hq) hD2 (fun x => .int (x * z)) (le_line (by rw [hW.row r hr2]; omega)) ?_ gm_name ?_
     ·rintro x hx _ H3 R3 s3 rfl kR3
      exact ⟨rfl, _, rfl, _, rfl, _, _, rfl, rfl, ⟨few_mono (hW.few r hr2 x hx) (by decide), fz⟩, kR3 H3 (Same.refl _)⟩
     ·intro H3 s3 hD3
      refine kR H3 D2 hD2 ?_ s3
      rw [hD3, List.map_map]
      rfl
    ·intro H2 rs s2 hD2 hp2 hnew
     refine ⟨c, dx, a, D, W, scaleN W z, rfl, hc.same s2, ⟨rs, hD2, p_map hp2⟩, by unfold scaleN; rw [List.length_map]; omega, ?_, k.on s2⟩
     intro r hr2
     obtain ⟨q, hq, rfl⟩ := List.mem_map.mp hr2
     rw [List.length_map, hW.row q hq]
     omega
  ·refine ⟨_, rfl, ?_⟩
   refine iteT ⟨line1, no ?_⟩
   unfold scaleOk
   rw [show decide (1 ≤ z) = false by simpa using h1, Bool.false_and]
end
end Cw
end
section
set_option Elab.async false
set_option linter.all false
set_option maxRecDepth 100000
namespace Cw
open PySem PySem.Spec PyProof.Rows L2
theorem slice_row (n : Nat) (xs : List V) (i : Nat) (h : xs.length = n * n) (hi : i < n) : cutV xs (some ((i : Int) * (n : Int))) (some ((i : Int) * (n : Int) + (n : Int))) = (xs.drop (i * n)).take n := by
 have e1 : (i : Int) * (n : Int) = ((i * n : Nat) : Int) := (Int.natCast_mul i n).symm
 have e2 : (i : Int) * (n : Int) + (n : Int) = ((i * n + n : Nat) : Int) := by rw [e1]; omega
 have hle : i * n + n ≤ n * n := by
  have : (i + 1) * n ≤ n * n := Nat.mul_le_mul_right n hi
  rw [Nat.succ_mul] at this
  exact this
 rw [e2, e1]
 unfold cutV
 rw [HT.sIx_nat, HT.sIx_nat, h, Nat.min_eq_left (show i * n ≤ n * n by omega), Nat.min_eq_left hle]
 congr 1
 omega
section
variable {P : Program} {w : World} {K : PySem.W.Frag} {mg : Str → Option Value} {base : Heap}
def subN (W : List (List Int)) (S : List Nat) : List (List Int) := S.map fun i => S.map fun j => gW W i j
def subW (W : List (List Int)) (ns : List Int) : List (List Int) := if areStrategies W.length ns = true then subN W (Vbecam.nats ns) else W
def subA (W : List (List Int)) (ns : List Int) : List Int := if areStrategies W.length ns = true then [(ns.length : Int)] else [-1]
def sp_answer_sub (K : PySem.W.Frag) (C : Addr) : Sp := fun vs H Q _ => ∃ (c dx a b : Addr) (W : List (List Int)) (ns : List Int), vs = [.ref c, .ref b] ∧ Con C dx H c a W ∧ Sqr 4 20 W ∧ LI K H b ns ∧ ns.length ≤ 16000 ∧ RetC C dx c Q H (subW W ns) (subA W ns)
theorem sc_answer_sub : FnScope ["contest", "strategies", "wins", "j", "i"] ["contest", "strategies"] (defScope s_answer_sub) := ⟨rfl, rfl, rfl, by decide +kernel, rfl, by decide +kernel, by decide +kernel⟩
theorem bt_seq {K : PySem.W.Frag} {C dx c : Addr} {fs : List (Str × V)} {H H' : Hp} {a : Addr} {xs : List V} (h : SqL K H a xs) (hc : H c = some (.ins C dx fs)) (s : Bt c H H') : SqL K H' a xs := by
 rcases h with (h | ⟨o, h⟩) | h
 ·exact .inl (.inl (s _ _ h (ne_of h hc (by intro z; cases z))))
 ·exact .inl (.inr ⟨o, s _ _ h (ne_of h hc (by intro z; cases z))⟩)
 ·exact .inr h
theorem c_answer_sub {C : Addr} (T : Txt K mg) (TC : ClC K mg C) : Cal P w K mg base "answer_sub" 3 ["contest", "strategies"] (sp_answer_sub K C) := by
 have c_are_strategies := c_are_strategies (P := P) (w := w) (base := base) T
 obtain ⟨t_OUT_OF_RANGE, h_OUT_OF_RANGE⟩ := T.k_OUT_OF_RANGE
 refine cal_of T.d_answer_sub sc_answer_sub (fun vs H Q E h => ?_) (fun f cdv A outer s H vs Q E hr h => ?_)
 ·obtain ⟨c, dx, a, b, W, ns, rfl, _⟩ := h
  rfl
 ·obtain ⟨c, dx, a, b, W, ns, rfl, hc, hW, hb, hbl, k⟩ := h
  refine ⟨_, (pss_cons (ps_set (i := 2) sc_answer_sub.nd rfl (by first | exact Or.inl rfl | exact Or.inr rfl) (pe_fld (pv 0) rfl))
   (pss_cons (ps_if (pt_not (pt_val (pe_cal c_are_strategies (hr.mono (by decide)) (pa_cons (pv 1) (pa_cons (pe_callB (crLen (K := K) rfl) rfl T.b_len (by decide +kernel) (pa_cons (pv 2) pa_nil)) pa_nil))))) (pss_one (ps_ret (pe_lst (pa_cons (pe_globI h_OUT_OF_RANGE) pa_nil)))) pss_nil)
   (pss_cons (ps_fld (pv 0) (pe_lc rfl sc_answer_sub.nd (piL (K := K) rfl (pv 1)) (blkOk_by (own := [("i", 4)]) rfl) (fun _ _ _ _ _ => (pg_name (i := 4) sc_answer_sub.nd rfl (by first | exact Or.inl rfl | exact Or.inr rfl))) (fun _ _ _ _ _ => pts_nil) (fun _ _ _ _ _ => (pe_lc rfl sc_answer_sub.nd (piL (K := K) rfl (pv 1)) (blkOk_by (own := [("j", 3)]) rfl) (fun _ _ _ _ _ => (pg_name (i := 3) sc_answer_sub.nd rfl (by first | exact Or.inl rfl | exact Or.inr rfl))) (fun _ _ _ _ _ => pts_nil) (fun _ _ _ _ _ => (pe_ix (ixL (K := K) rfl) (pe_ix (ixL (K := K) rfl) (pv 2) (pv 4) (fun _ _ => rfl)) (pv 3) (fun _ _ => rfl)))))) rfl)
   (pss_one (ps_ret (pe_lst (pa_cons (pe_callB (crLen (K := K) rfl) rfl T.b_len (by decide +kernel) (pa_cons (pv 1) pa_nil)) pa_nil))))))), ?_⟩
  have hlen4 := hW.len
  have hll := hc.lo.ll (K := K)
  obtain ⟨xs, hxs, hxl⟩ := hll.ex
  refine ⟨_, rfl, c, C, dx, _, _, rfl, hc.at_, TC.cl, TC.nW, cf_wins a, ?_⟩
  refine ⟨_, rfl, _, rfl, a, _, rfl, hxs, b, ns, W.length, by rw [hxl]; rfl, hb, hbl, fun H1 s1 => ⟨_, rfl, ite2 (fun h1 => ?_) (fun h1 => ?_)⟩⟩
  ·unfold subW subA at k
   rw [show areStrategies W.length ns = false by simpa using h1] at k
   exact ⟨line1, k.keep hc s1 rfl⟩
  ·have h1' : areStrategies W.length ns = true := by simpa using h1
   obtain ⟨hS, hnI, hSl⟩ := strats_set h1'
   unfold subW subA at k
   rw [if_pos h1', if_pos h1'] at k
   have hb1 : LI K H b (nI (Vbecam.nats ns)) := by rw [hnI]; exact hb
   have hro : ∀ {i : Nat}, i < W.length → (W.getD i []).length = W.length := fun hi => hW.row _ (getD_mem [] hi)
   refine ⟨_, rfl, b, rfl, ⟨_, s1.seq hb1⟩, fun D hD => ?_⟩
   refine lc_lists (sq_nats (s1.seq hb1)) hD (fun i => ((Vbecam.nats ns).map fun j => gW W i j).map V.int) (le_line (by omega)) ?_ gm_name ?_
   ·rintro i hi _ H2 R s2 rfl kR
    refine ⟨rfl, _, rfl, b, rfl, ⟨_, (s1.trans s2).seq hb1⟩, fun D2 hD2 => ?_⟩
    refine lc_map (sq_nats ((s1.trans s2).seq hb1)) hD2 (fun j => .int (gW W i j)) (le_line (by omega)) ?_ gm_name ?_
    ·rintro j hj _ H3 R3 s3 rfl kR3
     obtain ⟨x1, r1, a1, b1, c1, d1⟩ := (hll.same ((s1.trans s2).trans s3)).at2 (hS.lt i hi) (show j < _ by rw [hro (hS.lt i hi)]; exact hS.lt j hj)
     exact ⟨rfl, _, rfl, _, rfl, a, _, _, _, rfl, rfl, a1, b1, _, rfl, r1, _, _, _, rfl, rfl, c1, d1, kR3 H3 (Same.refl _)⟩
    ·intro H3 s3 hD3
     refine kR H3 D2 hD2 ?_ s3
     rw [hD3, List.map_map]
     rfl
   ·intro H2 rs s2 hD2 hp2 hnew
    have s02 := s1.trans s2
    have hc2 := (hc.same s02).at_
    have hb2 := s02.seq hb
    refine ⟨_, rfl, c, C, dx, _, rfl, hc2, TC.cl, TC.nW, line_few a, ?_⟩
    have b3 : Bt c H2 (upd H2 c (.ins C dx (putF "wins" (.ref D) (cf a)))) := bt_upd
    have hc3 : upd H2 c (.ins C dx (putF "wins" (.ref D) (cf a))) c = some (.ins C dx (cf D)) := by rw [upd_same, cf_put]
    have hlo : LO H2 D (subN W (Vbecam.nats ns)) := ⟨rs, hD2, p_map hp2⟩
    have hlo3 := hlo.bt hc2 b3
    have hb3 := bt_seq hb2 hc2 b3
    have fr3 : ∀ l, upd H2 c (.ins C dx (putF "wins" (.ref D) (cf a))) l = none → H2 l = none := by
     intro l hl
     by_cases e : l = c
     ·subst e; rw [upd_same] at hl; cases hl
     ·rwa [upd_ne e] at hl
    generalize upd H2 c (.ins C dx (putF "wins" (.ref D) (cf a))) = H3 at b3 hc3 hlo3 hb3 fr3
    refine ⟨_, rfl, b, _, rfl, hb3, line1, fun l hl0 => ?_⟩
    rw [List.length_map]
    have s4 := same_upd (o := .lst [.int (ns.length : Nat)]) hl0
    exact k _ l D (((bt_of s02).trans b3).trans (bt_of s4)) ⟨s4 _ _ hc3, hlo3.same s4⟩ (s02.free (fr3 l hl0)) upd_same
def conOk (n : Int) (ws : List Int) : Bool := (decide (1 ≤ n) && decide (n ≤ 4)) && (decide ((ws.length : Int) = n * n) && ws.all fun x => decide (-1000 ≤ x) && decide (x ≤ 1000))
def conW (W : List (List Int)) (n : Int) (ws : List Int) : List (List Int) := if conOk n ws = true then chunks n.toNat ws else W
def conA (n : Int) (ws : List Int) : List Int := if conOk n ws = true then [0] else [-1]
def sp_answer_contest (K : PySem.W.Frag) (C : Addr) : Sp := fun vs H Q _ => ∃ (c dx a b : Addr) (W : List (List Int)) (n : Int) (ws : List Int), vs = [.ref c, .int n, .ref b] ∧ Con C dx H c a W ∧ LI K H b ws ∧ ws.length ≤ 16000 ∧ RetC C dx c Q H (conW W n ws) (conA n ws)
theorem sc_answer_contest : FnScope ["contest", "n", "wins", "i"] ["contest", "n", "wins"] (defScope s_answer_contest) := ⟨rfl, rfl, rfl, by decide +kernel, rfl, by decide +kernel, by decide +kernel⟩
theorem c_answer_contest {C : Addr} (T : Txt K mg) (TC : ClC K mg C) : Cal P w K mg base "answer_contest" 3 ["contest", "n", "wins"] (sp_answer_contest K C) := by
 have c_are_within := c_are_within (P := P) (w := w) (base := base) T
 obtain ⟨t_OUT_OF_RANGE, h_OUT_OF_RANGE⟩ := T.k_OUT_OF_RANGE
 obtain ⟨t_MOST_STRATEGIES, h_MOST_STRATEGIES⟩ := T.k_MOST_STRATEGIES
 obtain ⟨t_MOST_WIN, h_MOST_WIN⟩ := T.k_MOST_WIN
 refine cal_of T.d_answer_contest sc_answer_contest (fun vs H Q E h => ?_) (fun f cdv A outer s H vs Q E hr h => ?_)
 ·obtain ⟨c, dx, a, b, W, n, ws, rfl, _⟩ := h
  rfl
 ·obtain ⟨c, dx, a, b, W, n, ws, rfl, hc, hb, hbl, k⟩ := h
  refine ⟨_, (pss_cons (ps_if (PW.pt (pw_or (pt_not (pt_chain op_le op_le pe_int (pv 1) (pe_globI h_MOST_STRATEGIES))) (pw_or (pt_cmpR op_ne (pe_callB (crLen (K := K) rfl) rfl T.b_len (by decide +kernel) (pa_cons (pv 2) pa_nil)) (pe_op op_mulB (pv 1) (pv 1)) (nomark _)) (pw_or1 (pt_not (pt_val (pe_cal c_are_within (hr.mono (by decide)) (pa_cons (pv 2) (pa_cons (pe_un un_neg (pe_globI h_MOST_WIN)) (pa_cons (pe_globI h_MOST_WIN) pa_nil)))))))))) (pss_one (ps_ret (pe_lst (pa_cons (pe_globI h_OUT_OF_RANGE) pa_nil)))) pss_nil)
   (pss_cons (ps_fld (pv 0) (pe_lc rfl sc_answer_contest.nd (pi_range1 rfl T.b_range (pa_cons (pv 1) pa_nil)) (blkOk_by (own := [("i", 3)]) rfl) (fun _ _ _ _ _ => (pg_name (i := 3) sc_answer_contest.nd rfl (by first | exact Or.inl rfl | exact Or.inr rfl))) (fun _ _ _ _ _ => pts_nil) (fun _ _ _ _ _ => (pe_slice (slL (K := K) rfl) (pv 2) (po_some (pe_op op_mulB (pv 3) (pv 1))) (po_some (pe_op op_add (pe_op op_mulB (pv 3) (pv 1)) (pv 1)))))) rfl)
   (pss_one (ps_ret (pe_lst (pa_cons pe_int pa_nil)))))), ?_⟩
  have no : ∀ H', Same H H' → conOk n ws = false → ∀ l, H' l = none → Q (.ref l) (upd H' l (.lst [.int (-1)])) := by
   intro H' s' e
   unfold conW conA at k
   rw [e] at k
   exact k.keep hc s' rfl
  refine ⟨_, rfl, _, _, rfl, rfl, _, rfl, ite2 (fun h1 => ?_) (fun h1 => ?_)⟩
  ·refine ⟨_, _, rfl, rfl, _, rfl, ite2 (fun h2 => ?_) (fun h2 => ?_)⟩
   ·refine iteT ⟨line1, no H (Same.refl _) ?_⟩
    unfold conOk
    rw [show decide (n ≤ 4) = false by simpa using h2, Bool.and_false, Bool.false_and]
   ·have h1' : 1 ≤ n := of_decide_eq_true h1
    have h2' : n ≤ 4 := by simpa using h2
    have fn : Few 8000 n := few_lit 3 (by omega) (by decide)
    refine ⟨_, rfl, b, _, rfl, hb, _, rfl, _, rfl, _, _, rfl, rfl, ⟨fn, fn⟩, rfl, _, rfl, ?_⟩
    rw [List.length_map]
    refine ite2 (fun h3 => ?_) (fun h3 => ?_)
    ·refine iteT ⟨line1, no H (Same.refl _) ?_⟩
     unfold conOk
     rw [show decide ((ws.length : Int) = n * n) = false by
      apply decide_eq_false
      intro e
      rw [e] at h3
      simp at h3, Bool.false_and, Bool.and_false]
    ·have e3 : (ws.length : Int) = n * n := by
      have : decide (V.int (ws.length : Nat) = V.int (n * n)) = true := by simpa using h3
      exact of_decide_eq_true (decV this)
     refine ⟨_, rfl, _, rfl, b, ws, -1000, 1000, rfl, hb, hbl, fun H1 s1 => ⟨_, rfl, ite2 (fun h4 => ?_) (fun h4 => ?_)⟩⟩
     ·refine ⟨line1, no H1 s1 ?_⟩
      unfold conOk
      rw [show (ws.all fun x => decide (-1000 ≤ x) && decide (x ≤ 1000)) = false by simpa using h4, Bool.and_false, Bool.and_false]
     ·have e : conOk n ws = true := by
       unfold conOk
       rw [decide_eq_true h1', decide_eq_true h2', decide_eq_true e3, show (ws.all fun x => decide (-1000 ≤ x) && decide (x ≤ 1000)) = true by simpa using h4]
       rfl
      unfold conW conA at k
      rw [if_pos e, if_pos e] at k
      obtain ⟨m, rfl⟩ : ∃ m : Nat, n = (m : Int) := ⟨n.toNat, by omega⟩
      have hwl : ws.length = m * m := by
       rw [← Int.natCast_mul] at e3
       omega
      rw [show ((m : Nat) : Int).toNat = m by omega] at k
      refine ⟨_, rfl, _, rfl, by omega, by omega, fun D hD => ?_⟩
      rw [show ((m : Nat) : Int).toNat = m by omega]
      refine lc_lists (sq_range (lo := 0) (n := m)) hD (fun i => ((ws.drop (i * m)).take m).map V.int) (by rw [List.length_range]; exact le_line (by omega)) ?_ gm_name ?_
      ·rintro i hi _ H2 R s2 rfl kR
       have hi' := List.mem_range.mp hi
       rw [show (0 : Int) + (i : Int) = (i : Int) by omega]
       have fi : Few 8000 (i : Int) := few_lit 3 (by omega) (by decide)
       refine ⟨rfl, _, rfl, _, rfl, _, rfl, _, _, rfl, rfl, ⟨fi, fn⟩, _, rfl, _, rfl, _, rfl, _, _, rfl, rfl, ⟨fi, fn⟩, _, rfl, _, _, rfl, rfl, _, rfl, b, _, rfl, (s1.trans s2).seq hb, fun p hp => ?_⟩
       rw [slice_row m _ i (by rw [List.length_map]; exact hwl) hi', ← List.map_drop, ← List.map_take]
       exact kR _ p hp upd_same (same_upd hp)
      ·intro H2 rs s2 hD2 hp2 hnew
       have s02 := s1.trans s2
       have hc2 := (hc.same s02).at_
       refine ⟨_, rfl, c, C, dx, _, rfl, hc2, TC.cl, TC.nW, line_few a, line1, fun l hl0 => ?_⟩
       have b3 : Bt c H2 (upd H2 c (.ins C dx (putF "wins" (.ref D) (cf a)))) := bt_upd
       have hc3 : upd H2 c (.ins C dx (putF "wins" (.ref D) (cf a))) c = some (.ins C dx (cf D)) := by rw [upd_same, cf_put]
       have hlo : LO H2 D (chunks m ws) := ⟨rs, hD2, p_map hp2⟩
       have hlo3 := hlo.bt hc2 b3
       have fr3 : H2 l = none := by
        by_cases e : l = c
        ·subst e; rw [upd_same] at hl0; cases hl0
        ·rwa [upd_ne e] at hl0
       have s4 := same_upd (o := .lst [.int 0]) hl0
       exact k _ l D (((bt_of s02).trans b3).trans (bt_of s4)) ⟨s4 _ _ hc3, hlo3.same s4⟩ (s02.free fr3) upd_same
  ·refine ⟨_, rfl, ?_⟩
   refine iteT ?_
   refine iteT ⟨line1, no H (Same.refl _) ?_⟩
   unfold conOk
   rw [show decide (1 ≤ n) = false by simpa using h1, Bool.false_and, Bool.false_and]
end
end Cw
end
section
set_option Elab.async false
set_option linter.all false
set_option maxRecDepth 100000
namespace Cw
open PySem PySem.Spec PyProof.Rows L2
def rf (ra : Addr) (p : Int) : List (Str × V) := [("calls", .ref ra), ("at", .int p)]
theorem rf_calls (ra : Addr) (p : Int) : (rf ra p).lookup ("calls" : Str) = some (.ref ra) := rfl
theorem rf_at (ra : Addr) (p : Int) : (rf ra p).lookup ("at" : Str) = some (.int p) := rfl
theorem rf_put (ra : Addr) (p q : Int) : putF "at" (.int q) (rf ra p) = rf ra q := rfl
theorem rf_few (ra : Addr) (p : Int) : (rf ra p).length < 1000 := by show 2 < 1000; decide
structure ClR (K : PySem.W.Frag) (R : Addr) : Prop where
 cl : Cls K R
 nC : NoAttr K R "calls"
 nA : NoAttr K R "at"
def MthC (P : Program) (w : World) (K : PySem.W.Frag) (mg : Str → Option Value) (base : Heap) (C : Addr) (m : Str) (k : Nat) (ps : List Str) (sp : Sp) : Prop :=
 ∃ f fd, FnOk P w K mg base CX0 k f fd ps sp ∧ Meth K C m f ∧ Binds K fd ps [] ∧ Cls K C
section
variable {X : Cx} {C : Addr} {m : Str} {k : Nat} {ps : List Str} {sp : Sp} {apos pos : Pos} {o : Expr} {ta : TE}
theorem pe_mth0 {pl : Sem Bool} (c : MthC X.prog X.w X.K X.mg X.base C m k ps sp) (hr : Room k X.A) (he : PE X o ta)
  (ht : eval (.Call (.Attribute o m apos) [] [] pos) X.env = (do
   let ov ← eval o X.env
   standAt apos.atName
   let (f, first) ← holding [ov] (getMethod ov m pl)
   callWith pos f first (backTo pos (starEach [] X.env)) (backToKw pos (keywordEach [] X.env))) := by rfl) : PE X (.Call (.Attribute o m apos) [] [] pos) (tMeth C m sp [] E0 ta tNil) := by
 obtain ⟨f, fd, F, hm, hb, hc⟩ := c
 exact pe_meth0 (pl := pl) he hc hm F hr hb .nil pass0 ht
end
def RdAt (R dr : Addr) (H : Hp) (r ra : Addr) (p : Nat) : Prop := H r = some (.ins R dr (rf ra (p : Nat)))
section
variable {P : Program} {w : World} {K : PySem.W.Frag} {mg : Str → Option Value} {base : Heap}
def sp_is_done (K : PySem.W.Frag) (R : Addr) : Sp := fun vs H Q _ => ∃ (r dr ra : Addr) (p : Nat) (L : List Int), vs = [.ref r] ∧ RdAt R dr H r ra p ∧ LI K H ra L ∧ Q (.bl (decide (L.length ≤ p))) H
theorem sc_Reader_is_done : FnScope ["self"] ["self"] (defScope s_Reader_is_done) := ⟨rfl, rfl, rfl, by decide +kernel, rfl, by decide +kernel, by decide +kernel⟩
theorem ok_is_done {f R : Addr} {fd : FuncData} (T : Txt K mg) (F : Fun K "is_done" "Reader.is_done" s_Reader_is_done f fd) (TR : ClR K R) : FnOk P w K mg base CX0 1 f fd ["self"] (sp_is_done K R) := by
 refine F.ok sc_Reader_is_done (fun vs H Q E h => ?_) (fun cdv A outer s H vs Q E hr h => ?_)
 ·obtain ⟨r, dr, ra, p, L, rfl, _⟩ := h
  rfl
 ·obtain ⟨r, dr, ra, p, L, rfl, h1, hL, k⟩ := h
  refine ⟨_, (pss_one (ps_ret (pe_cmpR op_ge (pe_fld (pv 0) rfl) (pe_callB (crLen (K := K) rfl) rfl T.b_len (by decide +kernel) (pa_cons (pe_fld (pv 0) rfl) pa_nil)) (nomark _)))), ?_⟩
  refine ⟨_, rfl, r, R, dr, _, _, rfl, h1, TR.cl, TR.nA, rf_at _ _, _, rfl, r, R, dr, _, _, rfl, h1, TR.cl, TR.nC, rf_calls _ _, ra, _, rfl, hL, _, _, rfl, rfl, ?_⟩
  rw [List.length_map]
  have e : decide ((p : Int) ≥ ((L.length : Nat) : Int)) = decide (L.length ≤ p) := by
   rw [Bool.eq_iff_iff, decide_eq_true_iff, decide_eq_true_iff]
   omega
  show Q (.bl (decide ((p : Int) ≥ ((L.length : Nat) : Int)))) H
  rw [e]
  exact k
def sp_take_number (K : PySem.W.Frag) (R : Addr) : Sp := fun vs H Q _ => ∃ (r dr ra : Addr) (p : Nat) (L : List Int) (z : Int), vs = [.ref r] ∧ RdAt R dr H r ra p ∧ LI K H ra L ∧ L[p]? = some z ∧ ∀ H', Bt r H H' → RdAt R dr H' r ra (p + 1) → (∀ b, b ≠ r → H' b = H b) → Q (.int z) H'
theorem sc_Reader_take_number : FnScope ["self"] ["self"] (defScope s_Reader_take_number) := ⟨rfl, rfl, rfl, by decide +kernel, rfl, by decide +kernel, by decide +kernel⟩
theorem ok_take_number {f R : Addr} {fd : FuncData} (F : Fun K "take_number" "Reader.take_number" s_Reader_take_number f fd) (TR : ClR K R) : FnOk P w K mg base CX0 1 f fd ["self"] (sp_take_number K R) := by
 refine F.ok sc_Reader_take_number (fun vs H Q E h => ?_) (fun cdv A outer s H vs Q E hr h => ?_)
 ·obtain ⟨r, dr, ra, p, L, z, rfl, _⟩ := h
  rfl
 ·obtain ⟨r, dr, ra, p, L, z, rfl, h1, hL, hz, k⟩ := h
  refine ⟨_, (pss_cons (ps_fld (pv 0) (pe_op op_add (pe_fld (pv 0) rfl) pe_int) rfl)
   (pss_one (ps_ret (pe_ix (ixL (K := K) rfl) (pe_fld (pv 0) rfl) (pe_op op_sub (pe_fld (pv 0) rfl) pe_int) (fun _ _ => rfl))))), ?_⟩
  refine ⟨_, rfl, r, R, dr, _, _, rfl, h1, TR.cl, TR.nA, rf_at _ _, _, _, rfl, rfl, _, rfl, r, R, dr, _, rfl, h1, TR.cl, TR.nA, rf_few _ _, ?_⟩
  have b1 : Bt r H (upd H r (.ins R dr (putF "at" (.int ((p : Int) + 1)) (rf ra (p : Nat))))) := bt_upd
  have h2 : upd H r (.ins R dr (putF "at" (.int ((p : Int) + 1)) (rf ra (p : Nat)))) r = some (.ins R dr (rf ra ((p + 1 : Nat) : Int))) := by
   rw [upd_same, rf_put]
   rfl
  have o2 : ∀ b, b ≠ r → upd H r (.ins R dr (putF "at" (.int ((p : Int) + 1)) (rf ra (p : Nat)))) b = H b := fun b hb => upd_ne hb
  have hL2 := bt_seq hL h1 b1
  refine ⟨_, rfl, r, R, dr, _, _, rfl, h2, TR.cl, TR.nC, rf_calls _ _, _, rfl, r, R, dr, _, _, rfl, h2, TR.cl, TR.nA, rf_at _ _, _, _, rfl, rfl, ra, _, _, _, rfl, rfl, hL2, at_of (j := p) (by omega) (by rw [List.getElem?_map, hz]; rfl), k _ b1 h2 o2⟩
structure RowAt (L : List Int) (p : Nat) (row : List Int) (p2 : Nat) : Prop where
 num : L[p]? = some (row.length : Int)
 seg : row = (L.drop (p + 1)).take row.length
 fits : p + 1 + row.length ≤ L.length
 nxt : p2 = p + 1 + row.length
def sp_take_row (K : PySem.W.Frag) (R : Addr) : Sp := fun vs H Q _ => ∃ (r dr ra : Addr) (p : Nat) (L row : List Int) (p2 : Nat), vs = [.ref r] ∧ RdAt R dr H r ra p ∧ LI K H ra L ∧ RowAt L p row p2 ∧ ∀ H' x, Bt r H H' → RdAt R dr H' r ra p2 → H x = none → H' x = some (.lst (row.map V.int)) → Q (.ref x) H'
theorem sc_Reader_take_row : FnScope ["self", "size"] ["self"] (defScope s_Reader_take_row) := ⟨rfl, rfl, rfl, by decide +kernel, rfl, by decide +kernel, by decide +kernel⟩
theorem ok_take_row {f R : Addr} {fd : FuncData} (F : Fun K "take_row" "Reader.take_row" s_Reader_take_row f fd) (TR : ClR K R) (m_take_number : MthC P w K mg base R "take_number" 1 ["self"] (sp_take_number K R)) : FnOk P w K mg base CX0 2 f fd ["self"] (sp_take_row K R) := by
 refine F.ok sc_Reader_take_row (fun vs H Q E h => ?_) (fun cdv A outer s H vs Q E hr h => ?_)
 ·obtain ⟨r, dr, ra, p, L, row, p2, rfl, _⟩ := h
  rfl
 ·obtain ⟨r, dr, ra, p, L, row, p2, rfl, h1, hL, hR, k⟩ := h
  refine ⟨_, (pss_cons (ps_set (i := 1) sc_Reader_take_row.nd rfl (by first | exact Or.inl rfl | exact Or.inr rfl) (pe_mth0 m_take_number (hr.mono (by decide)) (pv 0)))
   (pss_cons (ps_fld (pv 0) (pe_op op_add (pe_fld (pv 0) rfl) (pv 1)) rfl)
   (pss_one (ps_ret (pe_slice (slL (K := K) rfl) (pe_fld (pv 0) rfl) (po_some (pe_op op_sub (pe_fld (pv 0) rfl) (pv 1))) (po_some (pe_fld (pv 0) rfl))))))), ?_⟩
  refine ⟨_, rfl, r, dr, _, rfl, h1, rfl, r, dr, ra, p, L, _, rfl, h1, hL, hR.num, fun H1 b1 h2 o2 => ?_⟩
  have hL1 := bt_seq hL h1 b1
  refine ⟨_, rfl, r, R, dr, _, _, rfl, h2, TR.cl, TR.nA, rf_at _ _, _, rfl, _, _, rfl, rfl, _, rfl, r, R, dr, _, rfl, h2, TR.cl, TR.nA, rf_few _ _, ?_⟩
  have b2 : Bt r H1 (upd H1 r (.ins R dr (putF "at" (.int (((p + 1 : Nat) : Int) + (row.length : Int))) (rf ra ((p + 1 : Nat) : Int))))) := bt_upd
  have h3 : upd H1 r (.ins R dr (putF "at" (.int (((p + 1 : Nat) : Int) + (row.length : Int))) (rf ra ((p + 1 : Nat) : Int)))) r = some (.ins R dr (rf ra (p2 : Nat))) := by
   rw [upd_same, rf_put, show ((p + 1 : Nat) : Int) + (row.length : Int) = ((p2 : Nat) : Int) by have := hR.nxt; omega]
  have o3 : ∀ b, b ≠ r → upd H1 r (.ins R dr (putF "at" (.int (((p + 1 : Nat) : Int) + (row.length : Int))) (rf ra ((p + 1 : Nat) : Int)))) b = H1 b := fun b hb => upd_ne hb
  have hL2 := bt_seq hL1 h2 b2
  refine ⟨_, rfl, r, R, dr, _, _, rfl, h3, TR.cl, TR.nC, rf_calls _ _, _, rfl, r, R, dr, _, _, rfl, h3, TR.cl, TR.nA, rf_at _ _, _, rfl, _, _, rfl, rfl, _, rfl, _, rfl, r, R, dr, _, _, rfl, h3, TR.cl, TR.nA, rf_at _ _, _, rfl, ra, _, rfl, hL2, fun x hx => ?_⟩
  have hxr : x ≠ r := fun z => by
   subst z
   rw [h3] at hx
   cases hx
  have hx0 : H x = none := by
   rw [← o2 x hxr, ← o3 x hxr]
   exact hx
  have e : cutV (L.map V.int) (some ((p2 : Int) - (row.length : Int))) (some (p2 : Int)) = row.map V.int := by
   have hn := hR.nxt
   have hf := hR.fits
   rw [show (p2 : Int) - (row.length : Int) = ((p + 1 : Nat) : Int) by omega]
   unfold cutV
   rw [HT.sIx_nat, HT.sIx_nat, List.length_map, Nat.min_eq_left (by omega), Nat.min_eq_left (by omega), show p2 - (p + 1) = row.length by omega, ← List.map_drop, ← List.map_take]
   conv => rhs; rw [hR.seg]
  have s4 := same_upd (o := .lst (cutV (L.map V.int) (some ((p2 : Int) - (row.length : Int))) (some (p2 : Int)))) hx
  refine k _ x ((b1.trans b2).trans (bt_of s4)) (s4 _ _ h3) hx0 ?_
  rw [upd_same, e]
end
end Cw
end
section
set_option Elab.async false
set_option linter.all false
set_option maxRecDepth 100000
namespace Cw
open PySem PySem.Spec PyProof.Rows L2
theorem bt_free {r x : Addr} {o : HO} {H H1 : Hp} (b : Bt r H H1) (h : H1 r = some o) (hx : H1 x = none) : H x = none := by
 cases e : H x with
 | none => rfl
 | some u =>
  have hxr : x ≠ r := fun z => by subst z; rw [h] at hx; cases hx
  rw [b x u e hxr] at hx
  cases hx
def RetR (R dr r ra : Addr) (Q : VK) (H : Hp) (p2 : Nat) (ans : List Int) : Prop := ∀ H' x, Bt r H H' → RdAt R dr H' r ra p2 → H x = none → H' x = some (.lst (ans.map V.int)) → Q (.ref x) H'
theorem RetR.retL {R dr r ra : Addr} {Q : VK} {H H1 : Hp} {p2 : Nat} {ans : List Int} (k : RetR R dr r ra Q H p2 ans) (b : Bt r H H1) (h : RdAt R dr H1 r ra p2) : RetL Q H1 ans :=
 fun H' x s hx hx' => k H' x (b.trans (bt_of s)) (s _ _ h) (bt_free b h hx) hx'
inductive Asks (W : List (List Int)) (st : Vbecam.State) (L : List Int) (p : Nat) : Nat → List Int → Nat → Prop
 | told : Asks W st L p 1 ((W.length : Int) :: W.flatten) p
 | value {x y : List Int} {p1 p2 : Nat} : RowAt L p x p1 → RowAt L p1 y p2 → Asks W st L p 2 (valueM W x y) p2
 | replies {x : List Int} {p1 : Nat} : RowAt L p x p1 → Asks W st L p 3 (repliesP W x) p1
 | survivors : Asks W st L p 4 (Vbecam.act st .survivors).2 p
 | support {x : List Int} {p1 : Nat} : RowAt L p x p1 → Asks W st L p 5 (supportP W x) p1
 | equilibria : Asks W st L p 6 (equilibriaP W) p
 | stable {x : List Int} {p1 : Nat} : RowAt L p x p1 → Asks W st L p 7 (stableA W x) p1
 | stables : Asks W st L p 8 (((stablesM W).length : Int) :: nI (stablesM W)) p
 | bears {x y : List Int} {p1 p2 : Nat} : RowAt L p x p1 → RowAt L p1 y p2 → Asks W st L p 9 (bearsA W x y) p2
 | grow {t : Int} {x : List Int} {p1 : Nat} : L[p]? = some t → RowAt L (p + 1) x p1 → Asks W st L p 10 (growA W t x) p1
theorem RowAt.le {L : List Int} {p p2 : Nat} {row : List Int} (h : RowAt L p row p2) (hL : L.length ≤ 16000) : row.length ≤ 16000 := by have := h.fits; omega
section
variable {P : Program} {w : World} {K : PySem.W.Frag} {mg : Str → Option Value} {base : Heap}
def sp_answer_asking (K : PySem.W.Frag) (R : Addr) : Sp := fun vs H Q _ => ∃ (a r dr ra : Addr) (W : List (List Int)) (st : Vbecam.State) (L : List Int) (p call : Nat) (ans : List Int) (p2 : Nat), vs = [.ref a, .int (call : Nat), .ref r] ∧ LO H a W ∧ Sqr 4 20 W ∧ StOk st W ∧ RdAt R dr H r ra p ∧ LI K H ra L ∧ L.length ≤ 16000 ∧
 Asks W st L p call ans p2 ∧ RetR R dr r ra Q H p2 ans
theorem sc_answer_asking : FnScope ["wins", "call", "reader"] ["wins", "call", "reader"] (defScope s_answer_asking) := ⟨rfl, rfl, rfl, by decide +kernel, rfl, by decide +kernel, by decide +kernel⟩
theorem c_answer_asking {R : Addr} (T : Txt K mg) (m_take_number : MthC P w K mg base R "take_number" 1 ["self"] (sp_take_number K R)) (m_take_row : MthC P w K mg base R "take_row" 2 ["self"] (sp_take_row K R)) : Cal P w K mg base "answer_asking" 7 ["wins", "call", "reader"] (sp_answer_asking K R) := by
 have c_answer_told := c_answer_told (P := P) (w := w) (base := base) T
 have c_answer_value := c_answer_value (P := P) (w := w) (base := base) T
 have c_answer_replies := c_answer_replies (P := P) (w := w) (base := base) T
 have c_answer_survivors := c_answer_survivors (P := P) (w := w) (base := base) T
 have c_answer_support := c_answer_support (P := P) (w := w) (base := base) T
 have c_answer_equilibria := c_answer_equilibria (P := P) (w := w) (base := base) T
 have c_answer_stable := c_answer_stable (P := P) (w := w) (base := base) T
 have c_answer_stables := c_answer_stables (P := P) (w := w) (base := base) T
 have c_answer_bears := c_answer_bears (P := P) (w := w) (base := base) T
 have c_answer_grow := c_answer_grow (P := P) (w := w) (base := base) T
 refine cal_of T.d_answer_asking sc_answer_asking (fun vs H Q E h => ?_) (fun f cdv A outer s H vs Q E hr h => ?_)
 ·obtain ⟨a, r, dr, ra, W, st, L, p, call, ans, p2, rfl, _⟩ := h
  rfl
 ·obtain ⟨a, r, dr, ra, W, st, L, p, call, ans, p2, rfl, ha, hW, ok, hrd, hL, hLl, hask, k⟩ := h
  refine ⟨_, (pss_cons (ps_if (pt_cmpR op_eq (pv 1) pe_int (nomark _)) (pss_one (ps_ret (pe_cal c_answer_told (hr.mono (by decide)) (pa_cons (pv 0) pa_nil)))) pss_nil)
   (pss_cons (ps_if (pt_cmpR op_eq (pv 1) pe_int (nomark _)) (pss_one (ps_ret (pe_cal c_answer_value (hr.mono (by decide)) (pa_cons (pv 0) (pa_cons (pe_mth0 m_take_row (hr.mono (by decide)) (pv 2)) (pa_cons (pe_mth0 m_take_row (hr.mono (by decide)) (pv 2)) pa_nil)))))) pss_nil)
   (pss_cons (ps_if (pt_cmpR op_eq (pv 1) pe_int (nomark _)) (pss_one (ps_ret (pe_cal c_answer_replies (hr.mono (by decide)) (pa_cons (pv 0) (pa_cons (pe_mth0 m_take_row (hr.mono (by decide)) (pv 2)) pa_nil))))) pss_nil)
   (pss_cons (ps_if (pt_cmpR op_eq (pv 1) pe_int (nomark _)) (pss_one (ps_ret (pe_cal c_answer_survivors (hr.mono (by decide)) (pa_cons (pv 0) pa_nil)))) pss_nil)
   (pss_cons (ps_if (pt_cmpR op_eq (pv 1) pe_int (nomark _)) (pss_one (ps_ret (pe_cal c_answer_support (hr.mono (by decide)) (pa_cons (pv 0) (pa_cons (pe_mth0 m_take_row (hr.mono (by decide)) (pv 2)) pa_nil))))) pss_nil)
   (pss_cons (ps_if (pt_cmpR op_eq (pv 1) pe_int (nomark _)) (pss_one (ps_ret (pe_cal c_answer_equilibria (hr.mono (by decide)) (pa_cons (pv 0) pa_nil)))) pss_nil)
   (pss_cons (ps_if (pt_cmpR op_eq (pv 1) pe_int (nomark _)) (pss_one (ps_ret (pe_cal c_answer_stable (hr.mono (by decide)) (pa_cons (pv 0) (pa_cons (pe_mth0 m_take_row (hr.mono (by decide)) (pv 2)) pa_nil))))) pss_nil)
   (pss_cons (ps_if (pt_cmpR op_eq (pv 1) pe_int (nomark _)) (pss_one (ps_ret (pe_cal c_answer_stables (hr.mono (by decide)) (pa_cons (pv 0) pa_nil)))) pss_nil)
   (pss_cons (ps_if (pt_cmpR op_eq (pv 1) pe_int (nomark _)) (pss_one (ps_ret (pe_cal c_answer_bears (hr.mono (by decide)) (pa_cons (pv 0) (pa_cons (pe_mth0 m_take_row (hr.mono (by decide)) (pv 2)) (pa_cons (pe_mth0 m_take_row (hr.mono (by decide)) (pv 2)) pa_nil)))))) pss_nil)
   (pss_one (ps_ret (pe_cal c_answer_grow (hr.mono (by decide)) (pa_cons (pv 0) (pa_cons (pe_mth0 m_take_number (hr.mono (by decide)) (pv 2)) (pa_cons (pe_mth0 m_take_row (hr.mono (by decide)) (pv 2)) pa_nil))))))))))))))), ?_⟩
  have hpos : 0 < W.length := by rw [← ok.n]; exact ok.pos
  have hlen4 := hW.len
  cases hask with
  | told =>
   refine ⟨_, rfl, rfl, _, rfl, iteT ?_⟩
   exact ⟨_, rfl, a, W, rfl, ha, hlen4, fun r hr => by rw [hW.row r hr]; exact hlen4, k.retL (fun _ _ e _ => e) hrd⟩
  | value h1 h2 =>
   refine ⟨_, rfl, rfl, _, rfl, iteF ?_⟩
   refine ⟨_, rfl, rfl, _, rfl, iteT ?_⟩
   refine ⟨_, rfl, _, rfl, r, dr, _, rfl, hrd, rfl, r, dr, ra, _, L, _, _, rfl, hrd, hL, h1, fun H1 x1 b1 rd1 hx1 hx1' => ?_⟩
   have ha1 := ha.bt hrd b1
   have hL1 := bt_seq hL hrd b1
   refine ⟨_, rfl, r, dr, _, rfl, rd1, rfl, r, dr, ra, _, L, _, _, rfl, rd1, hL1, h2, fun H2 x2 b2 rd2 hx2 hx2' => ?_⟩
   have ha2 := (ha1.bt rd1 b2).ll (K := K)
   exact ⟨a, x1, x2, W, _, _, rfl, ha2, hW, bt_seq (SqL.of hx1') rd1 b2, SqL.of hx2', h1.le hLl, h2.le hLl, k.retL (b1.trans b2) rd2⟩
  | replies h1 =>
   refine ⟨_, rfl, rfl, _, rfl, iteF ?_⟩
   refine ⟨_, rfl, rfl, _, rfl, iteF ?_⟩
   refine ⟨_, rfl, rfl, _, rfl, iteT ?_⟩
   refine ⟨_, rfl, _, rfl, r, dr, _, rfl, hrd, rfl, r, dr, ra, _, L, _, _, rfl, hrd, hL, h1, fun H1 x1 b1 rd1 hx1 hx1' => ?_⟩
   have ha1 := (ha.bt hrd b1).ll (K := K)
   exact ⟨a, x1, W, _, rfl, ha1, hW, hpos, SqL.of hx1', h1.le hLl, k.retL b1 rd1⟩
  | survivors =>
   refine ⟨_, rfl, rfl, _, rfl, iteF ?_⟩
   refine ⟨_, rfl, rfl, _, rfl, iteF ?_⟩
   refine ⟨_, rfl, rfl, _, rfl, iteF ?_⟩
   refine ⟨_, rfl, rfl, _, rfl, iteT ?_⟩
   exact ⟨_, rfl, a, W, st, rfl, ha.ll, ok, k.retL (fun _ _ e _ => e) hrd⟩
  | support h1 =>
   refine ⟨_, rfl, rfl, _, rfl, iteF ?_⟩
   refine ⟨_, rfl, rfl, _, rfl, iteF ?_⟩
   refine ⟨_, rfl, rfl, _, rfl, iteF ?_⟩
   refine ⟨_, rfl, rfl, _, rfl, iteF ?_⟩
   refine ⟨_, rfl, rfl, _, rfl, iteT ?_⟩
   refine ⟨_, rfl, _, rfl, r, dr, _, rfl, hrd, rfl, r, dr, ra, _, L, _, _, rfl, hrd, hL, h1, fun H1 x1 b1 rd1 hx1 hx1' => ?_⟩
   have ha1 := (ha.bt hrd b1).ll (K := K)
   exact ⟨a, x1, W, _, rfl, ha1, hW, hpos, SqL.of hx1', h1.le hLl, k.retL b1 rd1⟩
  | equilibria =>
   refine ⟨_, rfl, rfl, _, rfl, iteF ?_⟩
   refine ⟨_, rfl, rfl, _, rfl, iteF ?_⟩
   refine ⟨_, rfl, rfl, _, rfl, iteF ?_⟩
   refine ⟨_, rfl, rfl, _, rfl, iteF ?_⟩
   refine ⟨_, rfl, rfl, _, rfl, iteF ?_⟩
   refine ⟨_, rfl, rfl, _, rfl, iteT ?_⟩
   exact ⟨_, rfl, a, W, rfl, ha.ll, hW, hpos, k.retL (fun _ _ e _ => e) hrd⟩
  | stable h1 =>
   refine ⟨_, rfl, rfl, _, rfl, iteF ?_⟩
   refine ⟨_, rfl, rfl, _, rfl, iteF ?_⟩
   refine ⟨_, rfl, rfl, _, rfl, iteF ?_⟩
   refine ⟨_, rfl, rfl, _, rfl, iteF ?_⟩
   refine ⟨_, rfl, rfl, _, rfl, iteF ?_⟩
   refine ⟨_, rfl, rfl, _, rfl, iteF ?_⟩
   refine ⟨_, rfl, rfl, _, rfl, iteT ?_⟩
   refine ⟨_, rfl, _, rfl, r, dr, _, rfl, hrd, rfl, r, dr, ra, _, L, _, _, rfl, hrd, hL, h1, fun H1 x1 b1 rd1 hx1 hx1' => ?_⟩
   have ha1 := (ha.bt hrd b1).ll (K := K)
   exact ⟨a, x1, W, _, rfl, ha1, hW, SqL.of hx1', h1.le hLl, k.retL b1 rd1⟩
  | stables =>
   refine ⟨_, rfl, rfl, _, rfl, iteF ?_⟩
   refine ⟨_, rfl, rfl, _, rfl, iteF ?_⟩
   refine ⟨_, rfl, rfl, _, rfl, iteF ?_⟩
   refine ⟨_, rfl, rfl, _, rfl, iteF ?_⟩
   refine ⟨_, rfl, rfl, _, rfl, iteF ?_⟩
   refine ⟨_, rfl, rfl, _, rfl, iteF ?_⟩
   refine ⟨_, rfl, rfl, _, rfl, iteF ?_⟩
   refine ⟨_, rfl, rfl, _, rfl, iteT ?_⟩
   exact ⟨_, rfl, a, W, rfl, ha.ll, hW, k.retL (fun _ _ e _ => e) hrd⟩
  | bears h1 h2 =>
   refine ⟨_, rfl, rfl, _, rfl, iteF ?_⟩
   refine ⟨_, rfl, rfl, _, rfl, iteF ?_⟩
   refine ⟨_, rfl, rfl, _, rfl, iteF ?_⟩
   refine ⟨_, rfl, rfl, _, rfl, iteF ?_⟩
   refine ⟨_, rfl, rfl, _, rfl, iteF ?_⟩
   refine ⟨_, rfl, rfl, _, rfl, iteF ?_⟩
   refine ⟨_, rfl, rfl, _, rfl, iteF ?_⟩
   refine ⟨_, rfl, rfl, _, rfl, iteF ?_⟩
   refine ⟨_, rfl, rfl, _, rfl, iteT ?_⟩
   refine ⟨_, rfl, _, rfl, r, dr, _, rfl, hrd, rfl, r, dr, ra, _, L, _, _, rfl, hrd, hL, h1, fun H1 x1 b1 rd1 hx1 hx1' => ?_⟩
   have ha1 := ha.bt hrd b1
   have hL1 := bt_seq hL hrd b1
   refine ⟨_, rfl, r, dr, _, rfl, rd1, rfl, r, dr, ra, _, L, _, _, rfl, rd1, hL1, h2, fun H2 x2 b2 rd2 hx2 hx2' => ?_⟩
   have ha2 := (ha1.bt rd1 b2).ll (K := K)
   exact ⟨a, x1, x2, W, _, _, rfl, ha2, hW, bt_seq (SqL.of hx1') rd1 b2, SqL.of hx2', h1.le hLl, h2.le hLl, k.retL (b1.trans b2) rd2⟩
  | grow ht h1 =>
   refine ⟨_, rfl, rfl, _, rfl, iteF ?_⟩
   refine ⟨_, rfl, rfl, _, rfl, iteF ?_⟩
   refine ⟨_, rfl, rfl, _, rfl, iteF ?_⟩
   refine ⟨_, rfl, rfl, _, rfl, iteF ?_⟩
   refine ⟨_, rfl, rfl, _, rfl, iteF ?_⟩
   refine ⟨_, rfl, rfl, _, rfl, iteF ?_⟩
   refine ⟨_, rfl, rfl, _, rfl, iteF ?_⟩
   refine ⟨_, rfl, rfl, _, rfl, iteF ?_⟩
   refine ⟨_, rfl, rfl, _, rfl, iteF ?_⟩
   refine ⟨_, rfl, _, rfl, r, dr, _, rfl, hrd, rfl, r, dr, ra, p, L, _, rfl, hrd, hL, ht, fun H1 b1 rd1 o1 => ?_⟩
   have ha1 := ha.bt hrd b1
   have hL1 := bt_seq hL hrd b1
   refine ⟨_, rfl, r, dr, _, rfl, rd1, rfl, r, dr, ra, _, L, _, _, rfl, rd1, hL1, h1, fun H2 x2 b2 rd2 hx2 hx2' => ?_⟩
   have ha2 := (ha1.bt rd1 b2).ll (K := K)
   exact ⟨a, x2, W, _, _, rfl, ha2, hW, hpos, SqL.of hx2', h1.le hLl, k.retL (b1.trans b2) rd2⟩
end
end Cw
end
section
set_option Elab.async false
set_option linter.all false
set_option maxRecDepth 100000
namespace Cw
open PySem PySem.Spec PyProof.Rows L2
inductive Nexts (W : List (List Int)) (st : Vbecam.State) (L : List Int) (p : Nat) : List (List Int) → List Int → Nat → Prop
 | contest {n : Int} {ws : List Int} {p2 : Nat} : L[p]? = some 0 → L[p + 1]? = some n → RowAt L (p + 2) ws p2 → Nexts W st L p (conW W n ws) (conA n ws) p2
 | shift {bs : List Int} {p2 : Nat} : L[p]? = some 11 → RowAt L (p + 1) bs p2 → Nexts W st L p (shiftW W bs) (shiftA W bs) p2
 | scale {z : Int} : L[p]? = some 12 → L[p + 1]? = some z → Nexts W st L p (scaleW W z) (scaleA W z) (p + 2)
 | sub {ns : List Int} {p2 : Nat} : L[p]? = some 13 → RowAt L (p + 1) ns p2 → Nexts W st L p (subW W ns) (subA W ns) p2
 | ask {c : Nat} {ans : List Int} {p2 : Nat} : 1 ≤ c → c ≤ 10 → L[p]? = some (c : Int) → Asks W st L (p + 1) c ans p2 → Nexts W st L p W ans p2
def Bt2 (c r : Addr) (H H' : Hp) : Prop := ∀ b o, H b = some o → b ≠ c → b ≠ r → H' b = some o
theorem Con.bt {C dx c a R dr r : Addr} {fs : List (Str × V)} {H H' : Hp} {W : List (List Int)} (h : Con C dx H c a W) (hr : H r = some (.ins R dr fs)) (hne : c ≠ r) (s : Bt r H H') : Con C dx H' c a W := ⟨s _ _ h.at_ hne, h.lo.bt hr s⟩
theorem int_ne {i j : Int} (h : i ≠ j) : ¬ decide (V.int i = V.int j) = true := fun e => h (V.int.inj (of_decide_eq_true e))
section
variable {P : Program} {w : World} {K : PySem.W.Frag} {mg : Str → Option Value} {base : Heap}
def sp_answer_next (K : PySem.W.Frag) (C R : Addr) : Sp := fun vs H Q _ => ∃ (c dx a r dr ra : Addr) (W : List (List Int)) (st : Vbecam.State) (L : List Int) (p : Nat) (W' : List (List Int)) (ans : List Int) (p2 : Nat), vs = [.ref c, .ref r] ∧ c ≠ r ∧ Con C dx H c a W ∧ Sqr 4 20 W ∧ StOk st W ∧ RdAt R dr H r ra p ∧ LI K H ra L ∧ L.length ≤ 16000 ∧
 Nexts W st L p W' ans p2 ∧ ∀ H' x a', Bt2 c r H H' → Con C dx H' c a' W' → RdAt R dr H' r ra p2 → H x = none → H' x = some (.lst (ans.map V.int)) → Q (.ref x) H'
theorem sc_answer_next : FnScope ["contest", "reader", "call"] ["contest", "reader"] (defScope s_answer_next) := ⟨rfl, rfl, rfl, by decide +kernel, rfl, by decide +kernel, by decide +kernel⟩
theorem c_answer_next {C R : Addr} (T : Txt K mg) (TC : ClC K mg C) (m_take_number : MthC P w K mg base R "take_number" 1 ["self"] (sp_take_number K R)) (m_take_row : MthC P w K mg base R "take_row" 2 ["self"] (sp_take_row K R)) : Cal P w K mg base "answer_next" 8 ["contest", "reader"] (sp_answer_next K C R) := by
 have c_answer_contest := c_answer_contest (P := P) (w := w) (base := base) T TC
 have c_answer_shift := c_answer_shift (P := P) (w := w) (base := base) T TC
 have c_answer_scale := c_answer_scale (P := P) (w := w) (base := base) T TC
 have c_answer_sub := c_answer_sub (P := P) (w := w) (base := base) T TC
 have c_answer_asking := c_answer_asking (P := P) (w := w) (base := base) T m_take_number m_take_row
 refine cal_of T.d_answer_next sc_answer_next (fun vs H Q E h => ?_) (fun f cdv A outer s H vs Q E hr h => ?_)
 ·obtain ⟨c, dx, a, r, dr, ra, W, st, L, p, W', ans, p2, rfl, _⟩ := h
  rfl
 ·obtain ⟨c, dx, a, r, dr, ra, W, st, L, p, W', ans, p2, rfl, hcr, hc, hW, ok, hrd, hL, hLl, hnext, k⟩ := h
  refine ⟨_, (pss_cons (ps_set (i := 2) sc_answer_next.nd rfl (by first | exact Or.inl rfl | exact Or.inr rfl) (pe_mth0 m_take_number (hr.mono (by decide)) (pv 1)))
   (pss_cons (ps_if (pt_cmpR op_eq (pv 2) pe_int (nomark _)) (pss_one (ps_ret (pe_cal c_answer_contest (hr.mono (by decide)) (pa_cons (pv 0) (pa_cons (pe_mth0 m_take_number (hr.mono (by decide)) (pv 1)) (pa_cons (pe_mth0 m_take_row (hr.mono (by decide)) (pv 1)) pa_nil)))))) pss_nil)
   (pss_cons (ps_if (pt_cmpR op_eq (pv 2) pe_int (nomark _)) (pss_one (ps_ret (pe_cal c_answer_shift (hr.mono (by decide)) (pa_cons (pv 0) (pa_cons (pe_mth0 m_take_row (hr.mono (by decide)) (pv 1)) pa_nil))))) pss_nil)
   (pss_cons (ps_if (pt_cmpR op_eq (pv 2) pe_int (nomark _)) (pss_one (ps_ret (pe_cal c_answer_scale (hr.mono (by decide)) (pa_cons (pv 0) (pa_cons (pe_mth0 m_take_number (hr.mono (by decide)) (pv 1)) pa_nil))))) pss_nil)
   (pss_cons (ps_if (pt_cmpR op_eq (pv 2) pe_int (nomark _)) (pss_one (ps_ret (pe_cal c_answer_sub (hr.mono (by decide)) (pa_cons (pv 0) (pa_cons (pe_mth0 m_take_row (hr.mono (by decide)) (pv 1)) pa_nil))))) pss_nil)
   (pss_one (ps_ret (pe_cal c_answer_asking (hr.mono (by decide)) (pa_cons (pe_fld (pv 0) rfl) (pa_cons (pv 2) (pa_cons (pv 1) pa_nil))))))))))), ?_⟩
  obtain ⟨z, hz⟩ : ∃ z, L[p]? = some z := by cases hnext <;> exact ⟨_, by assumption⟩
  refine ⟨_, rfl, r, dr, _, rfl, hrd, rfl, r, dr, ra, p, L, z, rfl, hrd, hL, hz, fun H1 b1 rd1 o1 => ?_⟩
  have hL1 := bt_seq hL hrd b1
  have hc1 := hc.bt hrd hcr b1
  have fin : ∀ (H2 : Hp), Bt r H1 H2 → RdAt R dr H2 r ra p2 → RetC C dx c Q H2 W' ans := by
   intro H2 b2 rd2 H' x a' bc hcon hx hx'
   refine k H' x a' (fun b o e h1 h2 => bc b o ((b1.trans b2) b o e h2) h1) hcon (bc _ _ rd2 (Ne.symm hcr)) ?_ hx'
   exact bt_free (b1.trans b2) rd2 hx
  cases hnext with
  | contest e0 hn h1 =>
   have ez : z = 0 := Option.some.inj (hz.symm.trans e0)
   subst ez
   refine ⟨_, rfl, rfl, _, rfl, iteT ?_⟩
   refine ⟨_, rfl, _, rfl, r, dr, _, rfl, rd1, rfl, r, dr, ra, _, L, _, rfl, rd1, hL1, hn, fun H2 b2 rd2 o2 => ?_⟩
   have hL2 := bt_seq hL1 rd1 b2
   have hc2 := hc1.bt rd1 hcr b2
   refine ⟨_, rfl, r, dr, _, rfl, rd2, rfl, r, dr, ra, _, L, _, _, rfl, rd2, hL2, h1, fun H3 x3 b3 rd3 hx3 hx3' => ?_⟩
   exact ⟨c, dx, a, x3, W, _, _, rfl, hc2.bt rd2 hcr b3, SqL.of hx3', h1.le hLl, fin H3 (b2.trans b3) rd3⟩
  | shift e0 h1 =>
   have ez : z = 11 := Option.some.inj (hz.symm.trans e0)
   subst ez
   refine ⟨_, rfl, rfl, _, rfl, iteF ?_⟩
   refine ⟨_, rfl, rfl, _, rfl, iteT ?_⟩
   refine ⟨_, rfl, _, rfl, r, dr, _, rfl, rd1, rfl, r, dr, ra, _, L, _, _, rfl, rd1, hL1, h1, fun H3 x3 b3 rd3 hx3 hx3' => ?_⟩
   exact ⟨c, dx, a, x3, W, _, rfl, hc1.bt rd1 hcr b3, hW, SqL.of hx3', h1.le hLl, fin H3 b3 rd3⟩
  | scale e0 hn =>
   have ez : z = 12 := Option.some.inj (hz.symm.trans e0)
   subst ez
   refine ⟨_, rfl, rfl, _, rfl, iteF ?_⟩
   refine ⟨_, rfl, rfl, _, rfl, iteF ?_⟩
   refine ⟨_, rfl, rfl, _, rfl, iteT ?_⟩
   refine ⟨_, rfl, _, rfl, r, dr, _, rfl, rd1, rfl, r, dr, ra, _, L, _, rfl, rd1, hL1, hn, fun H2 b2 rd2 o2 => ?_⟩
   exact ⟨c, dx, a, W, _, rfl, hc1.bt rd1 hcr b2, hW, fin H2 b2 rd2⟩
  | sub e0 h1 =>
   have ez : z = 13 := Option.some.inj (hz.symm.trans e0)
   subst ez
   refine ⟨_, rfl, rfl, _, rfl, iteF ?_⟩
   refine ⟨_, rfl, rfl, _, rfl, iteF ?_⟩
   refine ⟨_, rfl, rfl, _, rfl, iteF ?_⟩
   refine ⟨_, rfl, rfl, _, rfl, iteT ?_⟩
   refine ⟨_, rfl, _, rfl, r, dr, _, rfl, rd1, rfl, r, dr, ra, _, L, _, _, rfl, rd1, hL1, h1, fun H3 x3 b3 rd3 hx3 hx3' => ?_⟩
   exact ⟨c, dx, a, x3, W, _, rfl, hc1.bt rd1 hcr b3, hW, SqL.of hx3', h1.le hLl, fin H3 b3 rd3⟩
  | @ask cn _ _ h1 h10 e0 hask =>
   have ez : z = (cn : Int) := Option.some.inj (hz.symm.trans e0)
   subst ez
   refine ⟨_, rfl, rfl, _, rfl, ite2 (fun q => absurd q (int_ne (by omega))) (fun _ => ?_)⟩
   refine ⟨_, rfl, rfl, _, rfl, ite2 (fun q => absurd q (int_ne (by omega))) (fun _ => ?_)⟩
   refine ⟨_, rfl, rfl, _, rfl, ite2 (fun q => absurd q (int_ne (by omega))) (fun _ => ?_)⟩
   refine ⟨_, rfl, rfl, _, rfl, ite2 (fun q => absurd q (int_ne (by omega))) (fun _ => ?_)⟩
   refine ⟨_, rfl, c, C, dx, _, _, rfl, hc1.at_, TC.cl, TC.nW, cf_wins a, _, rfl, _, rfl, a, r, dr, ra, W, st, L, p + 1, cn, _, _, rfl, hc1.lo, hW, ok, rd1, hL1, hLl, hask, ?_⟩
   intro H' x b2 rd2 hx hx'
   exact k H' x a (fun b o e _ h2 => (b1.trans b2) b o e h2) (hc1.bt rd1 hcr b2) rd2 (bt_free b1 rd1 hx) hx'
end
end Cw
end
section
set_option Elab.async false
set_option linter.all false
set_option maxRecDepth 100000
namespace Cw
open PySem PySem.Spec PyProof.Rows L2
def NewO (P : Program) (w : World) (K : PySem.W.Frag) (mg : Str → Option Value) (base : Heap) (x : Str) (C : Addr) (k : Nat) (ps : List Str) (sp : Sp) : Prop :=
 ∃ f fd, Mk K C f ∧ FnOk P w K mg base CX0 k f fd ps sp ∧ mg x = some (.ref C) ∧ Binds K fd ps []
section
variable {X : Cx} {x : Str} {C : Addr} {k : Nat} {ps : List Str} {sp : Sp} {p pos : Pos} {e : Expr} {es : List Expr} {t : TA}
theorem pe_new0 (c : NewO X.prog X.w X.K X.mg X.base x C k ps sp) (hr : Room (k + 1) X.A) (hg : Gl X x := by rfl) (hdb : (x == ("__debug__" : Str)) = false := by decide) : PE X (.Call (.Name x p) [] [] pos) (tMake C sp [] E0 tNil) := by
 obtain ⟨f, fd, M, F, hm, hb⟩ := c
 exact pe_make0 M F hr hg hm hb .nil pass0 hdb
theorem pe_new (c : NewO X.prog X.w X.K X.mg X.base x C k ps sp) (hr : Room (k + 1) X.A) (ha : PA X (e :: es) t) (hg : Gl X x := by rfl) (hdb : (x == ("__debug__" : Str)) = false := by decide)
  (he : starEach (e :: es) X.env = (false, eval e X.env) :: starEach es X.env := by rfl) (hpl : (backTo pos (starEach es X.env)).any (·.1) = false := by rfl) : PE X (.Call (.Name x p) (e :: es) [] pos) (tMake C sp [] E0 t) := by
 obtain ⟨f, fd, M, F, hm, hb⟩ := c
 exact pe_make M F hr hg hm hb .nil pass0 ha hdb he hpl
end
inductive Runs (L : List Int) : List (List Int) → Nat → List Int → Nat → Prop
 | done {W : List (List Int)} {p : Nat} : L.length ≤ p → Runs L W p [] 0
 | step {W W' : List (List Int)} {st : Vbecam.State} {p p2 n : Nat} {ans out : List Int} : StOk st W → Sqr 4 20 W → p < L.length → Nexts W st L p W' ans p2 → p < p2 → ans.length ≤ 60 → Runs L W' p2 out n → Runs L W p ((ans.length : Int) :: (ans ++ out)) (n + 1)
theorem bt2_seq {K : PySem.W.Frag} {C dx c R dr r : Addr} {fs gs : List (Str × V)} {H H' : Hp} {a : Addr} {xs : List V} (h : SqL K H a xs) (hc : H c = some (.ins C dx fs)) (hr : H r = some (.ins R dr gs)) (s : Bt2 c r H H') : SqL K H' a xs := by
 rcases h with (h | ⟨o, h⟩) | h
 ·exact .inl (.inl (s _ _ h (ne_of h hc (by intro z; cases z)) (ne_of h hr (by intro z; cases z))))
 ·exact .inl (.inr ⟨o, s _ _ h (ne_of h hc (by intro z; cases z)) (ne_of h hr (by intro z; cases z))⟩)
 ·exact .inr h
theorem cut_upd {H : Hp} {t : Addr} {o : HO} : Same (cut H t) (upd H t o) := fun b u e => by
 have hbt : b ≠ t := fun z => by subst z; rw [cut_none] at e; cases e
 rw [upd_ne hbt]
 exact cut_same _ _ e
theorem Con.cutF {C dx c a t : Addr} {o : Obj} {u : HO} {H : Hp} {W : List (List Int)} (h : Con C dx H c a W) (ht : H t = some (.frz o u)) : Con C dx (cut H t) c a W := by
 obtain ⟨h1, rs, h2, h3⟩ := h
 exact ⟨cut_at h1 (ne_of h1 ht (by intro z; cases z)), rs, cut_at h2 (ne_of h2 ht (by intro z; cases z)), pmap (fun _ _ q => cut_at q (ne_of q ht (by intro z; cases z))) h3⟩
section
variable {P : Program} {w : World} {K : PySem.W.Frag} {mg : Str → Option Value} {base : Heap}
def sp_Contest_init (C : Addr) : Sp := fun vs H Q _ => ∃ (c dx : Addr), vs = [.ref c] ∧ H c = some (.ins C dx []) ∧ ∀ H' a, Con C dx H' c a [[0]] → Bt c H H' → Q .non H'
theorem sc_Contest_init : FnScope ["self"] ["self"] (defScope s_Contest_init) := ⟨rfl, rfl, rfl, by decide +kernel, rfl, by decide +kernel, by decide +kernel⟩
theorem ok_Contest_init {f C : Addr} {fd : FuncData} (F : Fun K "__init__" "Contest.__init__" s_Contest_init f fd) (TC : ClC K mg C) : FnOk P w K mg base CX0 1 f fd ["self"] (sp_Contest_init C) := by
 refine F.ok sc_Contest_init (fun vs H Q E h => ?_) (fun cdv A outer s H vs Q E hr h => ?_)
 ·obtain ⟨c, dx, rfl, _⟩ := h
  rfl
 ·obtain ⟨c, dx, rfl, h1, k⟩ := h
  refine ⟨_, (pss_one (ps_fld (pv 0) (pe_lst (pa_cons (pe_lst (pa_cons pe_int pa_nil)) pa_nil)) rfl)), ?_⟩
  refine ⟨line1, fun e0 he0 => ⟨line1, fun l0 hl0 => ?_⟩⟩
  have s1 := same_upd (o := .lst [.int 0]) he0
  have s2 := same_upd (o := .lst [.ref e0]) hl0
  have h2 := s2 _ _ (s1 _ _ h1)
  refine ⟨_, rfl, c, C, dx, _, rfl, h2, TC.cl, TC.nW, by show 0 < 1000; decide, ?_⟩
  have hl : LO (upd (upd H e0 (.lst [.int 0])) l0 (.lst [.ref e0])) l0 [[0]] := ⟨[e0], upd_same, .cons (s2 _ _ upd_same) .nil⟩
  exact k _ l0 ⟨upd_same, hl.bt h2 bt_upd⟩ ((bt_of (s1.trans s2)).trans bt_upd)
def sp_Reader_init (R : Addr) : Sp := fun vs H Q _ => ∃ (r dr ra : Addr), vs = [.ref r, .ref ra] ∧ H r = some (.ins R dr []) ∧ ∀ H', RdAt R dr H' r ra 0 → Bt r H H' → Q .non H'
theorem sc_Reader_init : FnScope ["self", "calls"] ["self", "calls"] (defScope s_Reader_init) := ⟨rfl, rfl, rfl, by decide +kernel, rfl, by decide +kernel, by decide +kernel⟩
theorem ok_Reader_init {f R : Addr} {fd : FuncData} (F : Fun K "__init__" "Reader.__init__" s_Reader_init f fd) (TR : ClR K R) : FnOk P w K mg base CX0 1 f fd ["self", "calls"] (sp_Reader_init R) := by
 refine F.ok sc_Reader_init (fun vs H Q E h => ?_) (fun cdv A outer s H vs Q E hr h => ?_)
 ·obtain ⟨r, dr, ra, rfl, _⟩ := h
  rfl
 ·obtain ⟨r, dr, ra, rfl, h1, k⟩ := h
  refine ⟨_, (pss_cons (ps_fld (pv 0) (pv 1) rfl)
   (pss_one (ps_fld (pv 0) pe_int rfl))), ?_⟩
  refine ⟨_, rfl, _, rfl, r, R, dr, _, rfl, h1, TR.cl, TR.nC, by show 0 < 1000; decide, ?_⟩
  refine ⟨_, rfl, r, R, dr, _, rfl, upd_same, TR.cl, TR.nA, by show 1 < 1000; decide, ?_⟩
  refine k _ ?_ (bt_upd.trans bt_upd)
  unfold RdAt
  rw [upd_same]
  rfl
def sp_answers (K : PySem.W.Frag) : Sp := fun vs H Q _ => ∃ (ra : Addr) (L out : List Int) (n : Nat), vs = [.ref ra] ∧ LI K H ra L ∧ L.length ≤ 16000 ∧ Runs L [[0]] 0 out n ∧ n ≤ 400 ∧ ∀ H' t, H' t = some (.lst (out.map V.int)) → Q (.ref t) H'
theorem sc_answers : FnScope ["calls", "contest", "reader", "told", "answer"] ["calls"] (defScope s_answers) := ⟨rfl, rfl, rfl, by decide +kernel, rfl, by decide +kernel, by decide +kernel⟩
theorem ok_answers {C R fa : Addr} {fda : FuncData} (F : Fun K "answers" "answers" s_answers fa fda) (T : Txt K mg) (TC : ClC K mg C) (T_Contest : NewO P w K mg base "Contest" C 1 ["self"] (sp_Contest_init C)) (T_Reader : NewO P w K mg base "Reader" R 1 ["self", "calls"] (sp_Reader_init R))
  (m_is_done : MthC P w K mg base R "is_done" 1 ["self"] (sp_is_done K R)) (m_take_number : MthC P w K mg base R "take_number" 1 ["self"] (sp_take_number K R)) (m_take_row : MthC P w K mg base R "take_row" 2 ["self"] (sp_take_row K R)) :
  FnOk P w K mg base CX0 9 fa fda ["calls"] (sp_answers K) := by
 have c_answer_next := c_answer_next (P := P) (w := w) (base := base) T TC m_take_number m_take_row
 refine F.ok sc_answers (fun vs H Q E h => ?_) (fun cdv A outer s H vs Q E hr h => ?_)
 ·obtain ⟨ra, L, out, n, rfl, _⟩ := h
  rfl
 ·obtain ⟨ra, L, out, n, rfl, hL, hLl, hrun, hn, k⟩ := h
  refine ⟨_, (pss_cons (ps_set (i := 1) sc_answers.nd rfl (by first | exact Or.inl rfl | exact Or.inr rfl) (pe_new0 T_Contest (hr.mono (by decide)) ))
   (pss_cons (ps_set (i := 2) sc_answers.nd rfl (by first | exact Or.inl rfl | exact Or.inr rfl) (pe_new T_Reader (hr.mono (by decide)) (pa_cons (pv 0) pa_nil)))
   (pss_cons (ps_set (i := 3) sc_answers.nd rfl (by first | exact Or.inl rfl | exact Or.inr rfl) (pe_lst pa_nil))
   (pss_cons (ps_while PassesOwn.never (pt_not (pt_val (pe_mth0 m_is_done (hr.mono (by decide)) (pv 2)))) (pss_cons (ps_lock (ps_set (i := 4) sc_answers.nd rfl (by first | exact Or.inl rfl | exact Or.inr rfl) (pe_cal c_answer_next (hr.mono (by decide)) (pa_cons (pv 1) (pa_cons (pv 2) pa_nil)))))
   (pss_cons (ps_expr (pe_bm PySem.F.plainAttrs_list PySem.F.slot_list_append PySem.F.type_list_append mt_append (pv 3) (pa_cons (pe_callB (crLen (K := K) rfl) rfl T.b_len (by decide +kernel) (pa_cons (pv 4) pa_nil)) pa_nil)))
   (pss_one (ps_expr (pe_bm PySem.F.plainAttrs_list PySem.F.slot_list_extend PySem.F.type_list_extend mt_extend (pv 3) (pa_cons (pv 4) pa_nil)))))))
   (pss_one (ps_ret (pv 3))))))), ?_⟩
  intro c dc nc ndc nec
  refine ⟨c, dc, rfl, upd_same, fun H1 a hcon b1 => ⟨rfl, ?_⟩⟩
  have s1 : Same H H1 := Same.made nc ndc b1
  refine ⟨_, rfl, ?_⟩
  intro r dr nr ndr ner
  refine ⟨r, dr, ra, rfl, upd_same, fun H2 hrd b2 => ⟨rfl, ?_⟩⟩
  have s2 : Same H1 H2 := Same.made nr ndr b2
  have hcr : c ≠ r := ne_of_none hcon.at_ nr
  refine ⟨Nat.zero_le _, fun t ht => ?_⟩
  have s3 := same_upd (o := .lst []) ht
  refine while_by (fun σ H' => ∃ (v4 : Option V) (a : Addr) (W : List (List Int)) (p m : Nat) (don rest : List Int), σ = [some (.ref ra), some (.ref c), some (.ref r), some (.ref t), v4] ∧ Con C dc (cut H' t) c a W ∧ RdAt R dr (cut H' t) r ra p ∧ LI K (cut H' t) ra L ∧ H' t = some (.lst (don.map V.int)) ∧ Runs L W p rest m ∧ out = don ++ rest ∧ don.length + 61 * m ≤ 30000)
   (fun σ H' => match H' r with | some (.ins _ _ fs) => (match fs.lookup ("at" : Str) with | some (.int p) => L.length - p.toNat | _ => 0) | _ => 0) ?_ ?_ ?_
  ·have sc : Same H2 (cut (upd H2 t (.lst [])) t) := cut_of ht s3
   exact ⟨none, a, _, 0, n, [], out, rfl, hcon.same (s2.trans sc), sc _ _ hrd, (s1.trans (s2.trans sc)).seq hL, upd_same, hrun, rfl, by show 0 + 61 * n ≤ 30000; omega⟩
  ·rintro σ H3 ⟨v4, a, W, p, m, don, rest, rfl, hc3, hr3, hL3, ht3, hrun3, hout, hb⟩
   refine ⟨_, rfl, r, dr, _, rfl, cut_same _ _ hr3, rfl, r, dr, ra, p, L, rfl, cut_same _ _ hr3, cut_same.seq hL3, _, rfl, ?_⟩
   cases hrun3 with
   | done hp =>
    rw [decide_eq_true hp]
    refine iteF ?_
    refine ⟨_, rfl, k H3 t ?_⟩
    rw [hout, List.append_nil]
    exact ht3
   | @step _ W' st _ p2 m' ans out' ok hW hp hnext hpp hal hrest =>
    rw [decide_eq_false (by omega)]
    refine iteT ?_
    refine ⟨t, _, ht3, trivial, fun od => ?_⟩
    have sl : Same (cut H3 t) (upd H3 t (.frz od (.lst (don.map V.int)))) := cut_upd
    have htl : upd H3 t (.frz od (.lst (don.map V.int))) t = some (.frz od (.lst (don.map V.int))) := upd_same
    generalize upd H3 t (.frz od (.lst (don.map V.int))) = Hl at sl htl
    refine ⟨_, rfl, _, rfl, c, dc, a, r, dr, ra, W, st, L, p, W', ans, p2, rfl, hcr, hc3.same sl, hW, ok, sl _ _ hr3, sl.seq hL3, hLl, hnext, fun H4 x a4 b4 hc4 hr4 hx hx4 => ?_⟩
    have hcl := sl _ _ hc3.at_
    have hrl := sl _ _ hr3
    have ht4 : H4 t = some (.frz od (.lst (don.map V.int))) := b4 _ _ htl (ne_of htl hcl (by intro z; cases z)) (ne_of htl hrl (by intro z; cases z))
    have bc : Bt2 c r (cut H3 t) (cut H4 t) := fun b o e h1 h2 => by
     have hbt : b ≠ t := fun z => by subst z; rw [cut_none] at e; cases e
     exact cut_at (b4 _ _ (sl _ _ e) h1 h2) hbt
    have hL4 := bt2_seq hL3 hc3.at_ hr3 bc
    have hcon4 : Con C dc (cut H4 t) c a4 W' := hc4.cutF ht4
    have hrd4 : RdAt R dr (cut H4 t) r ra p2 := cut_at hr4 (ne_of hr4 ht4 (by intro z; cases z))
    have hxt : x ≠ t := fun z => by
     subst z
     rw [htl] at hx
     cases hx
    have hline : (30000 : Nat) ≤ sizeLine := by decide
    refine ⟨ht4, ?_⟩
    have hx5 : upd H4 t (.lst (don.map V.int)) x = some (.lst (ans.map V.int)) := by rw [upd_ne hxt]; exact hx4
    refine ⟨_, rfl, .inl ⟨rfl, _, SqL.of upd_same⟩, _, rfl, x, _, rfl, SqL.of hx5, t, _, _, rfl, rfl, upd_same, by rw [List.length_map]; omega, ?_⟩
    have hx6 : upd (upd H4 t (.lst (don.map V.int))) t (.lst (don.map V.int ++ [.int ((ans.map V.int).length : Nat)])) x = some (.lst (ans.map V.int)) := by rw [upd_ne hxt]; exact hx5
    refine ⟨_, rfl, .inl ⟨rfl, _, SqL.of upd_same⟩, _, rfl, t, x, _, _, rfl, rfl, upd_same, hx6, ?_, ?_⟩
    ·rw [List.length_append, List.length_map, List.length_map]
     show don.length + 1 + ans.length ≤ sizeLine
     omega
    have s7 : Same (cut H4 t) (cut (upd (upd (upd H4 t (.lst (don.map V.int))) t (.lst (don.map V.int ++ [.int ((ans.map V.int).length : Nat)]))) t (.lst ((don.map V.int ++ [.int ((ans.map V.int).length : Nat)]) ++ ans.map V.int))) t) := by
     intro b o e
     have hbt : b ≠ t := fun z => by subst z; rw [cut_none] at e; cases e
     refine cut_at ?_ hbt
     rw [upd_ne hbt, upd_ne hbt, upd_ne hbt]
     exact cut_same _ _ e
    refine ⟨⟨_, a4, W', p2, m', don ++ ((ans.length : Int) :: ans), out', rfl, hcon4.same s7, s7 _ _ hrd4, s7.seq hL4, ?_, hrest, ?_, ?_⟩, ?_⟩
    ·rw [upd_same, List.length_map]
     simp
    ·rw [hout]
     simp
    ·rw [List.length_append, List.length_cons]
     omega
    ·have e1 := cut_same _ _ (s7 _ _ hrd4)
     have e2 := cut_same _ _ hr3
     rw [e1, e2]
     show L.length - ((p2 : Nat) : Int).toNat < L.length - ((p : Nat) : Int).toNat
     omega
  ·rintro σ H3 Q1 Q2 hq ⟨v, h1, a, dx, fs, e1, e2, e3, r, dr, ra, p, L, e4, e5, e6, d, e7, q⟩
   exact ⟨v, h1, a, dx, fs, e1, e2, e3, r, dr, ra, p, L, e4, e5, e6, d, e7, hq _ _ q⟩
end
end Cw
end
section
set_option linter.all false
set_option maxRecDepth 100000
namespace L2
open PySem PySem.Spec PyProof.Rows
def trk (h : Heap) (H : Hp) : List Addr := (List.range h.objs.size).filter fun a => (H a).isSome
def hidT (h : Heap) (H : Hp) : Heap := PySem.W.hideAll h (trk h H)
theorem hidT_size (h : Heap) (H : Hp) : (hidT h H).objs.size = h.objs.size := PySem.W.hideAll_size _ _
theorem hidT_get {h : Heap} {H : Hp} {b : Addr} {o : Obj} (e : h.get? b = some o) (n : H b = none) : (hidT h H).get? b = some o :=
  PySem.W.hideAll_get _ e fun hm => by
    have q : (H b).isSome = true := (List.mem_filter.mp hm).2
    rw [n] at q; simp at q
theorem of_hidT {h : Heap} {H : Hp} {b : Addr} {o : Obj} (e : (hidT h H).get? b = some o) : h.get? b = some o ∧ H b = none := by
  have e' : h.get? b = some o := PySem.W.of_hideAll (trk h H) e
  refine ⟨e', ?_⟩
  cases q : H b with
  | none => rfl
  | some x =>
    have hm : b ∈ trk h H := List.mem_filter.mpr ⟨List.mem_range.mpr (Heap.lt_size e'), by simp [q]⟩
    have z : (hidT h H).get? b = none := PySem.W.hideAll_none (trk h H) hm
    rw [z] at e; cases e
end L2
section
set_option Elab.async false
set_option linter.all false
set_option maxRecDepth 100000
set_option maxHeartbeats 2000000
namespace L2
open PySem PySem.Spec PyProof.Rows
open PySem.W (WData Codec OpenSpec Well WellAll ReadsW ReadsAllW)
mutual
/-- x stands for the datum d, lists and tuples all the way -/
inductive Dw (K : PySem.W.Frag) (H : Hp) : V → WData → Prop
  | non : Dw K H .non .none
  | bl (b : Bool) : Dw K H (.bl b) (.bool b)
  | int (i : Int) : Dw K H (.int i) (.int i)
  | str (x : Str) : Dw K H (.str x) (.str x)
  | byt (b : Array UInt8) : Dw K H (.byt b) (.bytes b.toList)
  | lst {a : Addr} {xs : List V} {ds : List WData} : SqL K H a xs → DwAll K H xs ds → Dw K H (.ref a) (.list ds)
  | tup {a : Addr} {xs : List V} {ds : List WData} : SqT K H a xs → DwAll K H xs ds → Dw K H (.ref a) (.tuple ds)
inductive DwAll (K : PySem.W.Frag) (H : Hp) : List V → List WData → Prop
  | nil : DwAll K H [] []
  | cons {v : V} {vs : List V} {d : WData} {ds : List WData} : Dw K H v d → DwAll K H vs ds → DwAll K H (v :: vs) (d :: ds)
end
theorem dw_ints {K : PySem.W.Frag} {H : Hp} : ∀ ns : List Int, DwAll K H (ns.map V.int) (ns.map WData.int)
  | [] => .nil
  | n :: r => .cons (.int n) (dw_ints r)
theorem ints_dw {K : PySem.W.Frag} {H : Hp} : ∀ (ns : List Int) (xs : List V), DwAll K H xs (ns.map WData.int) → xs = ns.map V.int
  | [], xs, h => by
    cases h
    rfl
  | n :: r, xs, h => by
    cases h with
    | cons h1 h2 =>
      cases h1
      rw [ints_dw r _ h2] <;> rfl
section
variable {P : Program} {w : World} {K : PySem.W.Frag} {H : Hp} {h : Heap} {R : PySem.W.WRecords} {cl : Str → Option Addr}
theorem sqL_at {a : Addr} {xs : List V} (hok : HOk P w H h) (KX : K.In h) (q : SqL K H a xs) : ∃ (its : List Value) (o : Obj) (n : Nat), Vals xs its ∧ h.get? a = some o ∧ o.cls = .type "list" ∧ o.data = .seq its.toArray n := by
  rcases q with q | ⟨o, its, n, e, hc, _, hd, _, hv⟩
  · obtain ⟨_, its, n, hv, e⟩ := (show ObjOk P w H h a (.lst xs) from q.ok hok)
    exact ⟨its, _, n, hv, e, rfl, rfl⟩
  · exact ⟨its.toList, o, n, hv, KX _ _ e, hc, by simp [hd]⟩
theorem sqT_at {a : Addr} {xs : List V} (hok : HOk P w H h) (KX : K.In h) (q : SqT K H a xs) : ∃ (its : List Value) (o : Obj) (n : Nat), Vals xs its ∧ h.get? a = some o ∧ o.cls = .type "tuple" ∧ o.data = .seq its.toArray n := by
  rcases q with q | ⟨o, its, n, e, hc, hd, _, hv⟩
  · obtain ⟨_, its, hv, o, e, hc, n, hd⟩ := (show ObjOk P w H h a (.tup xs) from q.ok hok)
    exact ⟨its, o, n, hv, e, hc, hd⟩
  · exact ⟨its.toList, o, n, hv, KX _ _ e, hc, by simp [hd]⟩
mutual
theorem Dw.reads (hok : HOk P w H h) (KX : K.In h) : ∀ (d : WData) (v : V) (u : Value), Dw K H v d → RelV v u → ∃ as, ReadsW R cl h u d as
  | .none, _, _, x, r => by
    cases x
    cases r
    exact ⟨_, ReadsW.none⟩
  | .bool b, _, _, x, r => by
    cases x
    cases r
    exact ⟨_, ReadsW.bool b⟩
  | .int i, _, _, x, r => by
    cases x
    obtain ⟨t, rfl⟩ := r
    exact ⟨_, ReadsW.int i t⟩
  | .str s, _, _, x, r => by
    cases x
    obtain ⟨t, rfl⟩ := r
    exact ⟨_, ReadsW.str s t⟩
  | .bytes b, _, _, x, r => by
    cases x
    obtain ⟨t, rfl⟩ := r
    exact ⟨_, ReadsW.bytes _ t⟩
  | .list ds, _, _, x, r => by
    cases x with
    | lst hs ha =>
      cases r
      obtain ⟨its, o, n, rv, ho, hc, hd⟩ := sqL_at hok KX hs
      obtain ⟨as, hr⟩ := Dw.readsAll hok KX ds _ its ha rv
      exact ⟨_, ReadsW.list ho hc hd hr⟩
  | .tuple ds, _, _, x, r => by
    cases x with
    | tup hs ha =>
      cases r
      obtain ⟨its, o, n, rv, ho, hc, hd⟩ := sqT_at hok KX hs
      obtain ⟨as, hr⟩ := Dw.readsAll hok KX ds _ its ha rv
      exact ⟨_, ReadsW.tuple ho hc hd hr⟩
  | .float _, _, _, x, _ => by cases x
  | .dict _, _, _, x, _ => by cases x
  | .bytearray _, _, _, x, _ => by cases x
  | .set _, _, _, x, _ => by cases x
  | .frozenset _, _, _, x, _ => by cases x
  | .obj _ _, _, _, x, _ => by cases x
theorem Dw.readsAll (hok : HOk P w H h) (KX : K.In h) : ∀ (ds : List WData) (vs : List V) (us : List Value), DwAll K H vs ds → Vals vs us → ∃ as, ReadsAllW R cl h us ds as
  | [], _, _, x, r => by
    cases x
    cases r
    exact ⟨_, ReadsAllW.nil⟩
  | d :: ds, _, _, x, r => by
    cases x with
    | cons h1 h2 =>
      cases r with
      | cons r1 r2 =>
        obtain ⟨as, q1⟩ := Dw.reads hok KX d _ _ h1 r1
        obtain ⟨bs, q2⟩ := Dw.readsAll hok KX ds _ _ h2 r2
        exact ⟨_, ReadsAllW.cons q1 q2⟩
end
end
mutual
/-- data that a codec tells -/
def plW : WData → Bool
  | .none => true
  | .bool _ => true
  | .int _ => true
  | .str _ => true
  | .bytes _ => true
  | .list xs => plWs xs
  | .tuple xs => plWs xs
  | _ => false
def plWs : List WData → Bool
  | [] => true
  | x :: r => plW x && plWs r
end
theorem plWs_map {α : Type} {f : α → WData} (h : ∀ a, plW (f a) = true) : ∀ l : List α, plWs (l.map f) = true
  | [] => rfl
  | x :: r => by
    show (plW (f x) && plWs (r.map f)) = true
    rw [h x, plWs_map h r] <;> rfl
theorem pl_enc : ∀ (c : Codec) (a : c.denote), plW (c.enc a) = true
  | .unit, _ => rfl
  | .bool, _ => rfl
  | .int _ _, _ => rfl
  | .nat _ _, _ => rfl
  | .u8, _ => rfl
  | .bytes _ _, _ => rfl
  | .text _ _ _ _, _ => rfl
  | .list _ _ c, a => plWs_map (fun x => pl_enc c x) a
  | .pair c d, a => by
    show (plW (c.enc a.1) && (plW (d.enc a.2) && true)) = true
    rw [pl_enc c a.1, pl_enc d a.2] <;> rfl
  | .triple c d e, a => by
    show (plW (c.enc a.1) && (plW (d.enc a.2.1) && (plW (e.enc a.2.2) && true))) = true
    rw [pl_enc c a.1, pl_enc d a.2.1, pl_enc e a.2.2] <;> rfl
  | .option c, none => rfl
  | .option c, some x => pl_enc c x
theorem pl_encAll : ∀ (cs : List Codec) (a : Codec.denoteAll cs), plWs (Codec.encAll cs a) = true
  | [], _ => rfl
  | c :: cs, a => by
    show (plW (c.enc a.1) && plWs (Codec.encAll cs a.2)) = true
    rw [pl_enc c a.1, pl_encAll cs a.2] <;> rfl
theorem weight_mem : ∀ {xs : List WData} {d : WData}, d ∈ xs → d.weight ≤ WData.weightAll xs
  | [], d, h => absurd h (by simp)
  | x :: r, d, h => by
    show d.weight ≤ x.weight + 1 + WData.weightAll r
    rcases List.mem_cons.mp h with e | m
    · rw [e]
      omega
    · have z := weight_mem m
      omega
def toV : Value → V
  | .none => .non
  | .bool b => .bl b
  | .int i _ => .int i
  | .str x _ => .str x
  | .bytes b _ => .byt b
  | .ref a => .ref a
  | _ => .non
def OkU (A : List Addr) : Value → Prop
  | .none => True
  | .bool _ => True
  | .int _ _ => True
  | .str _ _ => True
  | .bytes _ _ => True
  | .ref a => a ∈ A
  | _ => False
theorem OkU.mono {A B : List Addr} (h : ∀ a ∈ A, a ∈ B) : ∀ {u : Value}, OkU A u → OkU B u := fun {u} x => by
  cases u with
  | ref a => exact h a x
  | none => trivial
  | bool b => trivial
  | int i t => trivial
  | str s t => trivial
  | bytes b t => trivial
  | _ => exact False.elim x
theorem relV_toV {A : List Addr} {u : Value} (x : OkU A u) : RelV (toV u) u := by
  cases u with
  | ref a => rfl
  | none => rfl
  | bool b => rfl
  | int i t => exact ⟨t, rfl⟩
  | str s t => exact ⟨t, rfl⟩
  | bytes b t => exact ⟨t, rfl⟩
  | _ => exact False.elim x
theorem vals_toV {A : List Addr} : ∀ {vs : List Value}, (∀ u ∈ vs, OkU A u) → Vals (vs.map toV) vs
  | [], _ => .nil
  | u :: r, h => .cons (relV_toV (h u (List.mem_cons_self ..))) (vals_toV fun x hx => h x (List.mem_cons_of_mem _ hx))
def ArgOb (h : Heap) (A : List Addr) (a : Addr) : Prop := ∃ vs : List Value, vs.length ≤ sizeLine ∧ (∀ u ∈ vs, OkU A u) ∧
  (h.get? a = some { cls := .type "list", data := .seq vs.toArray } ∨ h.get? a = some { cls := .type "tuple", data := .seq vs.toArray })
theorem ArgOb.mono {h : Heap} {A B : List Addr} {a : Addr} (k : ∀ a ∈ A, a ∈ B) (x : ArgOb h A a) : ArgOb h B a := by
  obtain ⟨vs, h1, h2, h3⟩ := x
  exact ⟨vs, h1, fun u hu => (h2 u hu).mono k, h3⟩
theorem wellAll_len {P : Params} {h : Heap} : ∀ {vs : List Value} {ds : List WData}, WellAll P h vs ds → vs.length = ds.length
  | _, _, .nil => rfl
  | _, _, .cons _ b => by
    show _ + 1 = _ + 1
    rw [wellAll_len b]
theorem well_list {P : Params} {h : Heap} {v : Value} {ds : List WData} (x : Well P h v (.list ds)) : ∃ (a : Addr) (vs : List Value), v = .ref a ∧ h.get? a = some { cls := .type "list", data := .seq vs.toArray } ∧ WellAll P h vs ds := by
  cases x with
  | list ho hall => exact ⟨_, _, rfl, ho, hall⟩
theorem well_tuple {P : Params} {h : Heap} {v : Value} {ds : List WData} (x : Well P h v (.tuple ds)) : ∃ (a : Addr) (vs : List Value), v = .ref a ∧ h.get? a = some { cls := .type "tuple", data := .seq vs.toArray } ∧ WellAll P h vs ds := by
  cases x with
  | tuple ho hall => exact ⟨_, _, rfl, ho, hall⟩
theorem well_cons {P : Params} {h : Heap} {us : List Value} {d : WData} {ds : List WData} (x : WellAll P h us (d :: ds)) : ∃ (v : Value) (vs : List Value), us = v :: vs ∧ Well P h v d ∧ WellAll P h vs ds := by
  cases x with
  | cons a b => exact ⟨_, _, rfl, a, b⟩
theorem line_of {n : Nat} (h : n ≤ 1048576) : n ≤ sizeLine := Nat.le_trans h (by decide)
section
variable {P : Params} {h : Heap}
mutual
theorem area_one : ∀ (d : WData) (v : Value), Well P h v d → plW d = true → d.weight ≤ 1048576 → ∃ A : List Addr, OkU A v ∧ ∀ a ∈ A, ArgOb h A a
  | .none, _, x, _, _ => by
    cases x
    exact ⟨[], trivial, fun a m => absurd m (by simp)⟩
  | .bool b, _, x, _, _ => by
    cases x
    exact ⟨[], trivial, fun a m => absurd m (by simp)⟩
  | .int i, _, x, _, _ => by
    cases x
    exact ⟨[], trivial, fun a m => absurd m (by simp)⟩
  | .str s, _, x, _, _ => by
    cases x
    exact ⟨[], trivial, fun a m => absurd m (by simp)⟩
  | .bytes b, _, x, _, _ => by
    cases x
    exact ⟨[], trivial, fun a m => absurd m (by simp)⟩
  | .list ds, _, x, p, z => by
    obtain ⟨a, vs, rfl, ho, hall⟩ := well_list x
    have z2 : WData.weightAll ds ≤ 1048576 := z
    obtain ⟨A, h1, h2⟩ := area_all ds _ hall p fun d hd => Nat.le_trans (weight_mem hd) z2
    have k : ∀ b ∈ A, b ∈ a :: A := fun b hb => List.mem_cons_of_mem _ hb
    refine ⟨a :: A, List.mem_cons_self .., fun b hb => ?_⟩
    rcases List.mem_cons.mp hb with e | m
    · rw [e]
      exact ⟨vs, line_of (by rw [wellAll_len hall]; exact Nat.le_trans (PySem.W.length_le_weightAllW ds) z2), fun u hu => (h1 u hu).mono k, .inl ho⟩
    · exact (h2 b m).mono k
  | .tuple ds, _, x, p, z => by
    obtain ⟨a, vs, rfl, ho, hall⟩ := well_tuple x
    have z2 : WData.weightAll ds ≤ 1048576 := z
    obtain ⟨A, h1, h2⟩ := area_all ds _ hall p fun d hd => Nat.le_trans (weight_mem hd) z2
    have k : ∀ b ∈ A, b ∈ a :: A := fun b hb => List.mem_cons_of_mem _ hb
    refine ⟨a :: A, List.mem_cons_self .., fun b hb => ?_⟩
    rcases List.mem_cons.mp hb with e | m
    · rw [e]
      exact ⟨vs, line_of (by rw [wellAll_len hall]; exact Nat.le_trans (PySem.W.length_le_weightAllW ds) z2), fun u hu => (h1 u hu).mono k, .inr ho⟩
    · exact (h2 b m).mono k
  | .float _, _, _, p, _ => Bool.noConfusion (show false = true from p)
  | .dict _, _, _, p, _ => Bool.noConfusion (show false = true from p)
  | .bytearray _, _, _, p, _ => Bool.noConfusion (show false = true from p)
  | .set _, _, _, p, _ => Bool.noConfusion (show false = true from p)
  | .frozenset _, _, _, p, _ => Bool.noConfusion (show false = true from p)
  | .obj _ _, _, _, p, _ => Bool.noConfusion (show false = true from p)
theorem area_all : ∀ (ds : List WData) (vs : List Value), WellAll P h vs ds → plWs ds = true → (∀ d ∈ ds, d.weight ≤ 1048576) → ∃ A : List Addr, (∀ u ∈ vs, OkU A u) ∧ ∀ a ∈ A, ArgOb h A a
  | [], _, x, _, _ => by
    cases x
    exact ⟨[], fun u m => absurd m (by simp), fun a m => absurd m (by simp)⟩
  | d :: ds, _, x, p, z => by
    obtain ⟨v, vs, rfl, x1, x2⟩ := well_cons x
    have q : plW d = true ∧ plWs ds = true := Bool.and_eq_true_iff.mp p
    obtain ⟨A, a1, a2⟩ := area_one d v x1 q.1 (z d (List.mem_cons_self ..))
    obtain ⟨B, b1, b2⟩ := area_all ds vs x2 q.2 fun e he => z e (List.mem_cons_of_mem _ he)
    have kA : ∀ b ∈ A, b ∈ A ++ B := fun b hb => List.mem_append.mpr (.inl hb)
    have kB : ∀ b ∈ B, b ∈ A ++ B := fun b hb => List.mem_append.mpr (.inr hb)
    refine ⟨A ++ B, fun u hu => ?_, fun b hb => ?_⟩
    · rcases List.mem_cons.mp hu with e | m
      · rw [e]
        exact a1.mono kA
      · exact (b1 u m).mono kB
    · rcases List.mem_append.mp hb with m | m
      · exact (a2 b m).mono kA
      · exact (b2 b m).mono kB
end
end
def hoOf (o : Obj) : Option HO := match o.data with
  | .seq vs _ => if (o.cls == Value.type "list") = true then some (.frz o (.lst (vs.toList.map toV))) else some (.frz o (.tup (vs.toList.map toV)))
  | _ => none
def argH (K : PySem.W.Frag) (h : Heap) (A : List Addr) : Hp := fun b => if b ∈ A then (if (K.lookup b).isNone = true then (h.get? b).bind hoOf else none) else none
def OnlyF (H : Hp) : Prop := ∀ b, H b = none ∨ ∃ o u, H b = some (.frz o u)
theorem hoOf_lst (vs : List Value) : hoOf { cls := .type "list", data := .seq vs.toArray } = some (.frz { cls := .type "list", data := .seq vs.toArray } (.lst (vs.map toV))) := by
  show (if (Value.type "list" == Value.type "list") = true then some (HO.frz { cls := .type "list", data := .seq vs.toArray } (.lst (vs.toArray.toList.map toV))) else some (HO.frz { cls := .type "list", data := .seq vs.toArray } (.tup (vs.toArray.toList.map toV)))) = _
  rw [if_pos (beq_self_eq_true _)]
theorem hoOf_tup (vs : List Value) : hoOf { cls := .type "tuple", data := .seq vs.toArray } = some (.frz { cls := .type "tuple", data := .seq vs.toArray } (.tup (vs.map toV))) := by
  show (if (Value.type "tuple" == Value.type "list") = true then some (HO.frz { cls := .type "tuple", data := .seq vs.toArray } (.lst (vs.toArray.toList.map toV))) else some (HO.frz { cls := .type "tuple", data := .seq vs.toArray } (.tup (vs.toArray.toList.map toV)))) = _
  rw [if_neg (by decide)]
section
variable {P : Program} {w : World} {K : PySem.W.Frag} {h : Heap} {A : List Addr}
theorem argH_at {b : Addr} {o : Obj} (hb : b ∈ A) (hk : K.lookup b = none) (e : h.get? b = some o) : argH K h A b = hoOf o := by
  unfold argH
  rw [if_pos hb, hk, if_pos (show (none : Option Obj).isNone = true from rfl), e] <;> rfl
theorem of_argH {b : Addr} {u : HO} (q : argH K h A b = some u) : b ∈ A ∧ K.lookup b = none := by
  unfold argH at q
  by_cases hb : b ∈ A
  · rw [if_pos hb] at q
    cases hk : K.lookup b with
    | none => exact ⟨hb, rfl⟩
    | some o =>
      rw [hk, if_neg (by simp)] at q
      cases q
  · rw [if_neg hb] at q
    cases q
theorem argH_is (ar : ∀ a ∈ A, ArgOb h A a) {b : Addr} {u : HO} (q : argH K h A b = some u) : K.lookup b = none ∧ ∃ vs : List Value, vs.length ≤ sizeLine ∧ (∀ u ∈ vs, OkU A u) ∧
    ((h.get? b = some { cls := .type "list", data := .seq vs.toArray } ∧ u = .frz { cls := .type "list", data := .seq vs.toArray } (.lst (vs.map toV))) ∨
     (h.get? b = some { cls := .type "tuple", data := .seq vs.toArray } ∧ u = .frz { cls := .type "tuple", data := .seq vs.toArray } (.tup (vs.map toV)))) := by
  obtain ⟨hb, hk⟩ := of_argH q
  obtain ⟨vs, h1, h2, h3⟩ := ar b hb
  refine ⟨hk, vs, h1, h2, ?_⟩
  rcases h3 with e | e
  · rw [argH_at hb hk e, hoOf_lst] at q
    exact .inl ⟨e, (Option.some.inj q).symm⟩
  · rw [argH_at hb hk e, hoOf_tup] at q
    exact .inr ⟨e, (Option.some.inj q).symm⟩
theorem argH_only (ar : ∀ a ∈ A, ArgOb h A a) : OnlyF (argH K h A) := fun b => by
  cases q : argH K h A b with
  | none => exact .inl rfl
  | some u =>
    obtain ⟨_, vs, _, _, ⟨_, e⟩ | ⟨_, e⟩⟩ := argH_is ar q
    · exact .inr ⟨_, _, by rw [e]⟩
    · exact .inr ⟨_, _, by rw [e]⟩
theorem argH_ok (ar : ∀ a ∈ A, ArgOb h A a) : HOk P w (argH K h A) h := fun b u q => by
  obtain ⟨_, vs, h1, h2, ⟨e, rfl⟩ | ⟨e, rfl⟩⟩ := argH_is ar q
  · exact ⟨e, by rw [List.length_map]; exact h1, vs, _, vals_toV h2, e⟩
  · exact ⟨e, by rw [List.length_map]; exact h1, vs, vals_toV h2, _, e, rfl, _, rfl⟩
theorem seq_inj {c c' : Value} {vs us : List Value} (e : (some { cls := c, data := .seq vs.toArray } : Option Obj) = some { cls := c', data := .seq us.toArray }) : c = c' ∧ vs = us := by
  have e1 := Option.some.inj e
  have e2 : c = c' := congrArg Obj.cls e1
  have e3 : Data.seq vs.toArray = Data.seq us.toArray := congrArg Obj.data e1
  injection e3 with e4
  refine ⟨e2, ?_⟩
  have e5 := congrArg Array.toList e4
  simpa using e5
theorem argL (KX : K.In h) (ar : ∀ a ∈ A, ArgOb h A a) {a : Addr} {vs : List Value} (ha : a ∈ A) (e : h.get? a = some { cls := .type "list", data := .seq vs.toArray }) : (∀ u ∈ vs, OkU A u) ∧ SqL K (argH K h A) a (vs.map toV) := by
  obtain ⟨us, h1, h2, h3⟩ := ar a ha
  have hu : us = vs := by
    rcases h3 with q | q
    · rw [e] at q
      exact (seq_inj q).2.symm
    · rw [e] at q
      exact absurd (Value.type.inj (seq_inj q).1) (by decide)
  subst hu
  refine ⟨h2, ?_⟩
  cases hk : K.lookup a with
  | none => exact .inl (.inr ⟨_, by rw [argH_at ha hk e, hoOf_lst]⟩)
  | some o =>
    have e2 := KX a o hk
    rw [e] at e2
    obtain rfl := Option.some.inj e2
    exact .inr ⟨_, us.toArray, _, hk, rfl, rfl, rfl, by rw [List.size_toArray]; exact h1, by simpa using vals_toV h2⟩
theorem argT (KX : K.In h) (ar : ∀ a ∈ A, ArgOb h A a) {a : Addr} {vs : List Value} (ha : a ∈ A) (e : h.get? a = some { cls := .type "tuple", data := .seq vs.toArray }) : (∀ u ∈ vs, OkU A u) ∧ SqT K (argH K h A) a (vs.map toV) := by
  obtain ⟨us, h1, h2, h3⟩ := ar a ha
  have hu : us = vs := by
    rcases h3 with q | q
    · rw [e] at q
      exact absurd (Value.type.inj (seq_inj q).1) (by decide)
    · rw [e] at q
      exact (seq_inj q).2.symm
  subst hu
  refine ⟨h2, ?_⟩
  cases hk : K.lookup a with
  | none => exact .inl (.inr ⟨_, by rw [argH_at ha hk e, hoOf_tup]⟩)
  | some o =>
    have e2 := KX a o hk
    rw [e] at e2
    obtain rfl := Option.some.inj e2
    exact .inr ⟨_, us.toArray, _, hk, rfl, rfl, by rw [List.size_toArray]; exact h1, by simpa using vals_toV h2⟩
mutual
theorem dw_one {Pm : Params} (KX : K.In h) (ar : ∀ a ∈ A, ArgOb h A a) : ∀ (d : WData) (v : Value), Well Pm h v d → plW d = true → OkU A v → Dw K (argH K h A) (toV v) d
  | .none, _, x, _, _ => by
    cases x
    exact .non
  | .bool b, _, x, _, _ => by
    cases x
    exact .bl b
  | .int i, _, x, _, _ => by
    cases x
    exact .int i
  | .str s, _, x, _, _ => by
    cases x
    exact .str s
  | .bytes b, _, x, _, _ => by
    cases x
    have z := Dw.byt (K := K) (H := argH K h A) b.toArray
    exact z
  | .list ds, _, x, p, hu => by
    obtain ⟨a, vs, rfl, ho, hall⟩ := well_list x
    obtain ⟨h2, hs⟩ := argL KX ar hu ho
    exact .lst hs (dw_all KX ar ds _ hall p h2)
  | .tuple ds, _, x, p, hu => by
    obtain ⟨a, vs, rfl, ho, hall⟩ := well_tuple x
    obtain ⟨h2, hs⟩ := argT KX ar hu ho
    exact .tup hs (dw_all KX ar ds _ hall p h2)
  | .float _, _, _, p, _ => Bool.noConfusion (show false = true from p)
  | .dict _, _, _, p, _ => Bool.noConfusion (show false = true from p)
  | .bytearray _, _, _, p, _ => Bool.noConfusion (show false = true from p)
  | .set _, _, _, p, _ => Bool.noConfusion (show false = true from p)
  | .frozenset _, _, _, p, _ => Bool.noConfusion (show false = true from p)
  | .obj _ _, _, _, p, _ => Bool.noConfusion (show false = true from p)
theorem dw_all {Pm : Params} (KX : K.In h) (ar : ∀ a ∈ A, ArgOb h A a) : ∀ (ds : List WData) (vs : List Value), WellAll Pm h vs ds → plWs ds = true → (∀ u ∈ vs, OkU A u) → DwAll K (argH K h A) (vs.map toV) ds
  | [], _, x, _, _ => by
    cases x
    exact .nil
  | d :: ds, _, x, p, hu => by
    obtain ⟨v, vs, rfl, x1, x2⟩ := well_cons x
    have q : plW d = true ∧ plWs ds = true := Bool.and_eq_true_iff.mp p
    exact .cons (dw_one KX ar d v x1 q.1 (hu _ (List.mem_cons_self ..))) (dw_all KX ar ds vs x2 q.2 fun u m => hu u (List.mem_cons_of_mem _ m))
end
end
theorem spec_call {P : Program} {w : World} {K : PySem.W.Frag} {mg mb : Str → Option Value} {CX : CXT} {k : Nat} {fa : Addr} {fd : FuncData} {ps : List Str} {sp : Sp} {s₁ : Shared} {vals : List Value} {ds : List WData} {R : PySem.W.WRecords} {cl : Str → Option Addr} {d0 : WData}
    (KX : K.In s₁.heap) (hns : s₁.heap.Ns mainGlobals mg) (hb : s₁.heap.Ns builtinsNs mb) (hbb : ∀ x : Str, x ≠ "__name__" → mb x = bootBuiltins x) (hlim : s₁.heap.NoLimit) (hg : s₁.gens = #[])
    (hwl : WellAll w.params s₁.heap vals ds) (hpl : plWs ds = true) (hwt : ∀ d ∈ ds, d.weight ≤ 1048576) (hr : Room k callerA)
    (F : ∀ base : Heap, K.In base → base.Ns mainGlobals mg → FnOk P w K mg base CX k fa fd ps sp) (hbind : ∀ (s : Shared) (us : List Value), us.length = ps.length → BindsTo s fd ⟨us, []⟩ (ps.zip us)) (hlen : ds.length = ps.length)
    (hsp : ∀ (H : Hp) (xs : List V), OnlyF H → DwAll K H xs ds → sp xs H (fun v H' => Dw K H' v d0) fun _ _ _ => False)
    (hCX : ∀ H e s', CX [] H s₁ (fun _ _ _ => False) e s' → False) :
    codeAny (model P w) callerA (.call (.ref fa) ⟨vals, []⟩) (fun r s' => ∃ u as, r = .ok (.ret u) ∧ ReadsW R cl s'.heap u d0 as ∧ OldK s₁.heap s'.heap ∧ s'.os = s₁.os ∧ AllBare s'.gens) s₁ := by
  obtain ⟨A, ho, ar⟩ := area_all ds vals hwl hpl hwt
  have hO : OnlyF (argH K s₁.heap A) := argH_only ar
  have hok : HOk P w (argH K s₁.heap A) s₁.heap := argH_ok ar
  have hS := dw_all KX ar ds vals hwl hpl ho
  have hV := vals_toV ho
  have hK : ∀ b u, argH K s₁.heap A b = some u → K.lookup b = none := fun b u q => (argH_is ar q).1
  have noA : ∀ {b : Addr} {o : Obj} {es : Array DictEntry} {ep : Nat}, s₁.heap.get? b = some o → o.data = .dict es ep → argH K s₁.heap A b = none := fun {b o es ep} e d => by
    cases q : argH K s₁.heap A b with
    | none => rfl
    | some u =>
      obtain ⟨_, vs, _, _, ⟨e2, _⟩ | ⟨e2, _⟩⟩ := argH_is ar q
      · rw [e2] at e
        cases e
        have d' : Data.seq vs.toArray _ = Data.dict es ep := d
        cases d'
      · rw [e2] at e
        cases e
        have d' : Data.seq vs.toArray _ = Data.dict es ep := d
        cases d'
  generalize argH K s₁.heap A = H at hO hok hS hK noA
  have base_of : ∀ {b : Addr} {o : Obj}, s₁.heap.get? b = some o → H b = none → (hidT s₁.heap H).get? b = some o := fun e n => hidT_get e n
  have nsK : ∀ {b : Addr} {m : Str → Option Value}, s₁.heap.Ns b m → (hidT s₁.heap H).Ns b m := fun {b m} ⟨o, es, ep, e, d, r⟩ => ⟨o, es, ep, base_of e (noA e d), d, r⟩
  have nK : ∀ b o, K.lookup b = some o → H b = none := fun b o e => by
    cases q : H b with
    | none => rfl
    | some u =>
      rw [hK b u q] at e
      cases e
  have hKb : K.In (hidT s₁.heap H) := fun b o e => base_of (KX b o e) (nK b o e)
  have hM : Mod K mg (hidT s₁.heap H) := ⟨hKb, nsK hns, ⟨mb, nsK hb, hbb⟩, let ⟨mc, h1, h2⟩ := hlim; ⟨mc, nsK h1, h2⟩⟩
  have e0 : Env0 P w K mg (hidT s₁.heap H) callerA [] s₁ H := ⟨rfl, hM, fun b o e => of_hidT e, Nat.le_of_eq (hidT_size _ _), trivial, fun b hb => absurd (show b ∈ ([] : List Addr) from hb) (by simp), hok, .of_eq hg⟩
  have hl : vals.length = ps.length := by rw [wellAll_len hwl]; exact hlen
  refine codeAny_mono ((F _ hKb (nsK hns)).run callerA [] s₁ H ⟨vals, []⟩ vals (vals.map toV) _ _ hr e0 (hbind s₁ vals hl) hV (hsp H _ hO hS)) fun r s' x => ?_
  cases r with
  | error e => exact (hCX H e s' x).elim
  | ok fl =>
    cases fl with
    | next => exact False.elim x
    | brk => exact False.elim x
    | cont => exact False.elim x
    | ret u =>
      obtain ⟨v, H', os, bare, un, hok', r', q⟩ := x
      have kept : ∀ b o, s₁.heap.get? b = some o → s'.heap.get? b = some o := fun b o e => by
        cases q2 : H b with
        | none => exact un.keep b o e q2 (by intro z; exact absurd (show b ∈ ([] : List Addr) from z) (by simp)) (by simp)
        | some u2 =>
          rcases hO b with z | ⟨ob, u3, z⟩
          · rw [q2] at z
            cases z
          · have z2 := un.frzs b ob _ z
            obtain ⟨e1, _⟩ := hok b _ z
            obtain ⟨e2, _⟩ := hok' b _ z2
            rw [e] at e1
            cases e1
            exact e2
      have KX' : K.In s'.heap := fun b o e => kept b o (KX b o e)
      obtain ⟨as, hrd⟩ := Dw.reads (R := R) (cl := cl) hok' KX' d0 v u q r'
      exact ⟨u, as, rfl, hrd, OldK.of_keep kept, os, bare⟩
theorem layable_weight {ds : List WData} (h : WData.layableAll ds = true) : ∀ d ∈ ds, d.weight ≤ 1048576 := fun d hd =>
  (PySem.W.layableW_iff.mp (List.all_eq_true.mp h d hd)).2.2
theorem encAll_len : ∀ (cs : List Codec) (a : Codec.denoteAll cs), (Codec.encAll cs a).length = cs.length
  | [], _ => rfl
  | c :: cs, a => by
    show (Codec.encAll cs a.2).length + 1 = cs.length + 1
    rw [encAll_len cs a.2]
theorem walk_spec {r : OpenSpec} {k : Nat} {q : Program} {loose : List Str} {XP : (Str → Option Value) → Heap → Prop} {YP : World → Heap → Prop} {d : DefRec} {K : Params → PySem.W.Frag} {CX : World → CXT} {ps : List Str} {sp : World → Sp}
    (hwell : r.wellSaid = true) (hdf : d.params.defaults = []) (hlen : r.args.length = ps.length) (hr : Room k callerA)
    (hY : ∀ (w : World) (h : Heap), YP w h → (K w.params).In h)
    (F : ∀ (w : World) (mg : Str → Option Value) (fa : Addr) (h : Heap), YP w h → (K w.params).In h → h.Ns mainGlobals mg → mg d.name = some (.ref fa) →
      ∃ fd : FuncData, (∀ (s : Shared) (us : List Value), us.length = ps.length → BindsTo s fd ⟨us, []⟩ (ps.zip us)) ∧
        ∀ base : Heap, (K w.params).In base → base.Ns mainGlobals mg → FnOk r.prog w (K w.params) mg base (CX w) k fa fd ps (sp w))
    (hsp : ∀ (w : World) (H : Hp) (xs : List V) (a : Codec.denoteAll r.args), OnlyF H → Codec.withinAll r.args a = true → Codec.app r.args r.asked a = true → DwAll (K w.params) H xs (Codec.encAll r.args a) →
      sp w xs H (fun v H' => Dw (K w.params) H' v (r.ret.enc (Codec.app r.args r.f a))) fun _ _ _ => False)
    (hCX : ∀ (w : World) (H : Hp) (s : Shared) (e : Value) (s' : Shared), CX w [] H s (fun _ _ _ => False) e s' → False) :
    PySem.W.WalkOS q loose XP YP r d [] (fun f vs => PySem.call f vs) := by
  intro w s_0 s₁ mg mb G Y fa o pm cd doc dV kV ho hd hcd hD hmg hg args vals as hpre hlay hrd hwl hlo
  obtain ⟨a, e1, e2⟩ := PySem.W.os_pre_some hpre
  obtain ⟨e3, hwi⟩ := Codec.encAll_of_decAll r.args args a e1
  subst e3
  have KX := hY w _ Y
  obtain ⟨fd, hb, hF⟩ := F w mg fa _ Y KX G.T.g hmg
  refine PySem.W.enter_call (codeAny_mono (spec_call (R := []) (cl := classAt s_0.heap) (d0 := r.ret.enc (Codec.app r.args r.f a)) KX G.T.g G.T.b G.T.builtins G.T.nolimit hg hwl (pl_encAll _ _) (layable_weight hlay) hr hF hb (by rw [encAll_len]; exact hlen)
    (fun H xs hO hS => hsp w H xs a hO hwi e2 hS) fun H e s' => hCX w H s₁ e s') fun r' s' hq => ?_)
  obtain ⟨u, as', rfl, h1, h2, h3, h4⟩ := hq
  exact ⟨.inl ⟨u, _, as', rfl, fun _ => rfl, h1, (OpenSpec.post_iff hwell hwi _ _).mpr rfl, fun z => Bool.noConfusion (show false = true from z)⟩, h2, h3, h4⟩
theorem walk_specK {r : OpenSpec} {k : Nat} {q : Program} {loose : List Str} {XP : (Str → Option Value) → Heap → Prop} {YP : World → Heap → Prop} {d : DefRec} {K : Params → PySem.W.Frag} {CX : CXT} {ps : List Str} {sp : PySem.W.Frag → Sp}
    (hwell : r.wellSaid = true) (hdf : d.params.defaults = []) (hlen : r.args.length = ps.length) (hr : Room k callerA)
    (hY : ∀ (w : World) (h : Heap), YP w h → (K w.params).In h)
    (F : ∀ (w : World) (mg : Str → Option Value) (fa : Addr) (h : Heap), YP w h → (K w.params).In h → h.Ns mainGlobals mg → mg d.name = some (.ref fa) →
      ∃ fd : FuncData, (∀ (s : Shared) (us : List Value), us.length = ps.length → BindsTo s fd ⟨us, []⟩ (ps.zip us)) ∧
        ∀ base : Heap, (K w.params).In base → base.Ns mainGlobals mg → FnOk r.prog w (K w.params) mg base CX k fa fd ps (sp (K w.params)))
    (hsp : ∀ (K : PySem.W.Frag) (H : Hp) (xs : List V) (a : Codec.denoteAll r.args), OnlyF H → Codec.withinAll r.args a = true → Codec.app r.args r.asked a = true → DwAll K H xs (Codec.encAll r.args a) →
      sp K xs H (fun v H' => Dw K H' v (r.ret.enc (Codec.app r.args r.f a))) fun _ _ _ => False)
    (hCX : ∀ (H : Hp) (s : Shared) (e : Value) (s' : Shared), CX [] H s (fun _ _ _ => False) e s' → False) :
    PySem.W.WalkOS q loose XP YP r d [] (fun f vs => PySem.call f vs) :=
  walk_spec (K := K) (CX := fun _ => CX) (sp := fun w => sp (K w.params)) hwell hdf hlen hr hY F (fun w H xs a h1 h2 h3 h4 => hsp (K w.params) H xs a h1 h2 h3 h4) fun _ H s e s' => hCX H s e s'
end L2
end
end
section
set_option linter.all false
namespace Cw
open Vbecam
def due (s : State) (c : Call) : State × List Int := if inRange s c = false then (s, [-1]) else act s c
theorem due_value {s W} (h : StOk s W) (p q : List Int) : due s (.value p q) = (s, valueM W p q) := value_ok h p q
theorem weights_in {s W} (h : StOk s W) (q : List Int) : areWeights W.length q = mixtureIn s q := by rw [← h.n, areWeights_eq]
theorem won_pos {s W} (h : StOk s W) (q : List Int) : 0 < (wonM W q).length := by rw [wonM_len h]; exact h.pos
theorem due_replies {s W} (h : StOk s W) (q : List Int) : due s (.replies q) = (s, repliesP W q) := by
 unfold due repliesP
 show (if mixtureIn s q = false then _ else _) = _
 rw [← weights_in h]
 by_cases hq : areWeights W.length q = true
 ·rw [hq, if_pos rfl, if_neg (by decide), replies_ok h q hq (maxL_mem (won_pos h q)) maxL_le]
  rfl
 ·have hq' : areWeights W.length q = false := by simpa using hq
  rw [hq', if_pos rfl, if_neg (by decide)]
theorem strategies_in {s W} (h : StOk s W) (l : List Int) : areStrategies W.length l = someIn s l := by
 rw [← h.n, Bool.eq_iff_iff]
 constructor
 ·intro q
  obtain ⟨h1, h2, h3⟩ := strats_of q
  unfold someIn
  simp only [Bool.and_eq_true, List.all_eq_true]
  refine ⟨?_, (upward_pair l).mpr h3, fun i hi => ?_⟩
  ·cases l with
   | nil => simp at h1
   | cons x l => rfl
  ·have := h2 i hi
   unfold within
   simp only [Bool.and_eq_true, decide_eq_true_eq]
   omega
 ·intro q
  unfold someIn at q
  simp only [Bool.and_eq_true, List.all_eq_true] at q
  obtain ⟨h1, h2, h3⟩ := q
  have hp := (upward_pair l).mp h2
  unfold areStrategies
  simp only [Bool.and_eq_true, decide_eq_true_eq, List.all_eq_true]
  refine ⟨?_, fun i hi => ?_, fun k hk => ?_⟩
  ·cases l with
   | nil => simp at h1
   | cons x l => simp
  ·have := h3 i hi
   unfold within at this
   simpa only [Bool.and_eq_true, decide_eq_true_eq] using this
  ·have hk' := List.mem_range.mp hk
   rw [List.pairwise_iff_getElem] at hp
   have := hp k (k + 1) (by omega) (by omega) (by omega)
   simpa [List.getD_eq_getElem?_getD, List.getElem?_eq_getElem (show k < l.length by omega), List.getElem?_eq_getElem (show k + 1 < l.length by omega)] using this
theorem level_lev {s W} (h : StOk s W) {S : List Nat} (hS : SetOk s.n S) : (levelW W S = none ∧ balancedR s S = none) ∨ ∃ sol v den, levelW W S = some (weightsM s.n S sol) ∧ Lev s W S sol v den := by
 have hl := level_ok h hS
 unfold levelW
 cases e : solveI (S.length + 1) (eqsI W S) with
 | none => rw [e] at hl; exact .inl ⟨rfl, hl⟩
 | some sol =>
  rw [e] at hl
  obtain ⟨v, den, L⟩ := hl
  exact .inr ⟨sol, v, den, by rw [← h.n]; rfl, L⟩
theorem best_mem {W : List (List Int)} {w : List Int} {i : Nat} : i ∈ bestP W w ↔ i < W.length ∧ (wonM W w).getD i 0 = maxL (wonM W w) := by
 unfold bestP bestM
 rw [List.mem_filter, List.mem_range, decide_eq_true_iff]
theorem rest_restM {s W} (h : StOk s W) {S : List Nat} (hS : SetOk s.n S) {sol v den} (L : Lev s W S sol v den) : restP W S (weightsM s.n S sol) = restM W S (weightsM s.n S sol) (maxL (wonM W (weightsM s.n S sol))) := by
 have h0 : S.getD 0 0 ∈ S := getD_mem 0 hS.ne
 unfold restP restM
 rw [Bool.eq_iff_iff]
 simp only [List.all_eq_true, Bool.and_eq_true, decide_eq_true_eq, List.contains_iff_mem]
 constructor
 ·intro q
  exact ⟨fun i hi => (q i hi).1, (best_mem.mp (q _ h0).2).2⟩
 ·rintro ⟨q1, q2⟩ i hi
  refine ⟨q1 i hi, best_mem.mpr ⟨by rw [← h.n]; exact hS.lt i hi, ?_⟩⟩
  rw [L.won i hi, ← q2, L.won _ h0]
theorem lev_eq {s W} (h : StOk s W) {S : List Nat} (hS : SetOk s.n S) {sol v den} (L : Lev s W S sol v den) : equilibriumR s S = if restP W S (weightsM s.n S sol) = true then some (spreadR s S v) else none := by
 rw [rest_restM h hS L]
 exact L.eq h hS (maxL_mem (won_pos h _)) maxL_le
theorem due_support {s W} (h : StOk s W) (l : List Int) : due s (.support l) = (s, supportP W l) := by
 unfold due supportP
 show (if someIn s l = false then _ else _) = _
 rw [← strategies_in h]
 by_cases hq : areStrategies W.length l = true
 ·rw [hq, if_neg (by decide), if_pos rfl]
  obtain ⟨hS, hnI, _⟩ := strats_set hq
  rw [← h.n] at hS
  rcases level_lev h hS with ⟨e1, e2⟩ | ⟨sol, v, den, e1, L⟩
  ·rw [e1, support_none e2 l rfl]
  ·rw [e1, support_some h hS L (maxL_mem (won_pos h _)) maxL_le l rfl]
   dsimp only
   unfold supportM mixI
   rw [rest_restM h hS L]
 ·have hq' : areStrategies W.length l = false := by simpa using hq
  rw [hq', if_pos rfl, if_neg (by decide)]
theorem sets_eq : ∀ n, allSetsG n = allSets n
 | 0 => rfl
 | n + 1 => by unfold allSetsG allSets; rw [sets_eq n]
theorem rest_some {s W} (h : StOk s W) {S : List Nat} (hS : SetOk s.n S) : (restOf W S).isSome = (equilibriumR s S).isSome := by
 unfold restOf
 rcases level_lev h hS with ⟨e1, e2⟩ | ⟨sol, v, den, e1, L⟩
 ·rw [e1]
  unfold equilibriumR
  rw [e2]
  rfl
 ·rw [e1, lev_eq h hS L]
  dsimp only
  split <;> rfl
theorem level_some {s W} (h : StOk s W) {S : List Nat} (hS : SetOk s.n S) : (levelW W S).isNone = (balancedR s S).isNone := by
 rcases level_lev h hS with ⟨e1, e2⟩ | ⟨sol, v, den, e1, L⟩
 ·rw [e1, e2]
  rfl
 ·rw [e1, L.bal]
  rfl
theorem zip_range {α : Type} (d : α) (l : List α) {m : Nat} (h : l.length = m) : (List.range m).zip l = (List.range m).map fun k => (k, l.getD k d) := by
 apply List.ext_getElem?
 intro i
 by_cases hi : i < m
 ·have h1 : (List.range m)[i]? = some i := List.getElem?_range hi
  have h2 : ((List.range m).zip l)[i]? = some (i, l.getD i d) := List.getElem?_zip_eq_some.mpr ⟨h1, by rw [List.getD_eq_getElem?_getD, List.getElem?_eq_getElem (by omega)]; rfl⟩
  rw [h2, List.getElem?_map, h1]
  rfl
 ·rw [List.getElem?_eq_none (by simp; omega), List.getElem?_eq_none (by simp; omega)]
theorem fm_keys {α : Type} (g : Nat → Option α) (q : α → Bool) : ∀ l : List Nat, ((l.filterMap fun k => (g k).map fun w => (k, w)).filter fun p => q p.2).map (·.1) = l.filter fun k => match g k with | none => false | some w => q w
 | [] => rfl
 | k :: l => by
  have ih := fm_keys g q l
  cases e : g k with
  | none => simp [List.filterMap_cons, List.filter_cons, e, ih]
  | some w =>
   by_cases hq : q w = true
   ·simp [List.filterMap_cons, List.filter_cons, e, hq, ih]
   ·simp [List.filterMap_cons, List.filter_cons, e, hq, ih]
theorem resting_list {s W} (h : StOk s W) : restingM W = (List.range' 1 (2 ^ s.n - 1)).filterMap fun k => (restOf W ((allSets s.n).getD k [])).map fun ws => (k, ws) := by
 unfold restingM restL
 rw [← h.n, sets_eq, zip_range [] _ ((allSets_ok s.n h.four).1), List.filterMap_map]
 have e : List.range (2 ^ s.n) = 0 :: List.range' 1 (2 ^ s.n - 1) := by
  have h1 : 1 ≤ 2 ^ s.n := Nat.one_le_two_pow
  obtain ⟨m, hm⟩ : ∃ m, 2 ^ s.n = m + 1 := ⟨2 ^ s.n - 1, by omega⟩
  rw [hm, Nat.add_sub_cancel, List.range_eq_range', List.range'_succ]
 rw [e, List.filterMap_cons]
 have e0 : (allSets s.n).getD 0 [] = [] := by
  have h1 := h.four
  generalize s.n = n at h1
  match n, h1 with
  | 0, _ => rfl
  | 1, _ => rfl
  | 2, _ => rfl
  | 3, _ => rfl
  | 4, _ => rfl
 have e1 : restOf W [] = none := by unfold restOf; rw [level_nil]
 simp only [Function.comp, e0, e1, Option.map_none]
 rfl
theorem mask_set {s W} (h : StOk s W) {k : Nat} (hk : k ∈ List.range' 1 (2 ^ s.n - 1)) : SetOk s.n ((allSets s.n).getD k []) := by
 have := List.mem_range'_1.mp hk
 exact (allSets_ok s.n h.four).2 k (by omega) (by omega)
theorem due_equilibria {s W} (h : StOk s W) : due s .equilibria = (s, equilibriaP W) := by
 show act s .equilibria = _
 rw [equilibria_ok h]
 have e1 : (restingM W).map (·.1) = (List.range' 1 (2 ^ s.n - 1)).filter fun k => (equilibriumR s ((allSets s.n).getD k [])).isSome := by
  have := fm_keys (fun k => restOf W ((allSets s.n).getD k [])) (fun _ => true) (List.range' 1 (2 ^ s.n - 1))
  rw [← resting_list h, List.filter_eq_self.mpr (fun _ _ => rfl)] at this
  rw [this]
  apply List.filter_congr
  intro k hk
  rw [← rest_some h (mask_set h hk)]
  cases restOf W ((allSets s.n).getD k []) <;> rfl
 have e2 : singM W = (List.range' 1 (2 ^ s.n - 1)).filter fun k => (balancedR s ((allSets s.n).getD k [])).isNone := by
  unfold singM
  rw [← h.n, sets_eq]
  apply List.filter_congr
  intro k hk
  exact level_some h (mask_set h hk)
 unfold equilibriaP
 dsimp only
 rw [← e1, ← e2]
 unfold counted «ints»
 rw [List.length_map]
 rfl
end Cw
end
section
set_option linter.all false
namespace Cw
open Vbecam
theorem two_inj : ∀ l m : List Rat, l.flatMap two = m.flatMap two → l = m
 | [], [], _ => rfl
 | [], y :: m, h => by simp [List.flatMap_cons, two] at h
 | x :: l, [], h => by simp [List.flatMap_cons, two] at h
 | x :: l, y :: m, h => by
  simp only [List.flatMap_cons, two, List.cons_append, List.nil_append, List.cons.injEq] at h
  obtain ⟨h1, h2, h3⟩ := h
  have e : x = y := F_inj (by unfold F; rw [h1, h2])
  rw [e, two_inj l m h3]
theorem mixI_two {ws : List Int} (h : 0 < ws.sum) : mixI ws = (sharesR ws).flatMap two := by
 unfold mixI sharesR
 rw [List.flatMap_map]
 exact flat_congr _ _ _ fun x _ => frI_two h
theorem mix_iff {p q : List Int} (hp : 0 < p.sum) (hq : 0 < q.sum) : mixI p = mixI q ↔ sharesR p = sharesR q := by
 rw [mixI_two hp, mixI_two hq]
 exact ⟨two_inj _ _, fun e => by rw [e]⟩
theorem cast_ne {a : Int} (h : 0 < a) : ((a : Int) : Rat) ≠ 0 := by
 have := cast_pos h
 grind
theorem invm (x y : Rat) (hx : x ≠ 0) (hy : y ≠ 0) : (x * y)⁻¹ = x⁻¹ * y⁻¹ := by
 have i1 : x * x⁻¹ = 1 := Rat.mul_inv_cancel x hx
 have i2 : y * y⁻¹ = 1 := Rat.mul_inv_cancel y hy
 have i3 : (x * y) * (x * y)⁻¹ = 1 := Rat.mul_inv_cancel _ (by grind)
 generalize x⁻¹ = u at *
 generalize y⁻¹ = v at *
 generalize (x * y)⁻¹ = w at *
 grind
theorem fr1 (x y a b : Rat) (ha : a ≠ 0) (hb : b ≠ 0) : x / (a * a) - y / (b * a) = (x * b - y * a) * b / (a * a * (b * b)) := by
 have h1 : a * a ≠ 0 := by grind
 have h2 : b * a ≠ 0 := by grind
 have h3 : a * a * (b * b) ≠ 0 := by grind
 rw [eq_comm, Rat.div_def, Rat.div_def, Rat.div_def]
 have e1 : (a * a * (b * b))⁻¹ = (a⁻¹ * a⁻¹) * (b⁻¹ * b⁻¹) := by rw [invm _ _ (by grind) (by grind), invm _ _ ha ha, invm _ _ hb hb]
 have e2 : (a * a)⁻¹ = a⁻¹ * a⁻¹ := invm _ _ ha ha
 have e3 : (b * a)⁻¹ = b⁻¹ * a⁻¹ := invm _ _ hb ha
 have i1 : a * a⁻¹ = 1 := Rat.mul_inv_cancel a ha
 have i2 : b * b⁻¹ = 1 := Rat.mul_inv_cancel b hb
 rw [e1, e2, e3]
 generalize a⁻¹ = u at *
 generalize b⁻¹ = v at *
 grind
theorem fr2 (x y a b : Rat) (ha : a ≠ 0) (hb : b ≠ 0) : x / (a * b) - y / (b * b) = (x * b - y * a) * a / (a * a * (b * b)) := by
 rw [eq_comm, Rat.div_def, Rat.div_def, Rat.div_def]
 have e1 : (a * a * (b * b))⁻¹ = (a⁻¹ * a⁻¹) * (b⁻¹ * b⁻¹) := by rw [invm _ _ (by grind) (by grind), invm _ _ ha ha, invm _ _ hb hb]
 have e2 : (b * b)⁻¹ = b⁻¹ * b⁻¹ := invm _ _ hb hb
 have e3 : (a * b)⁻¹ = a⁻¹ * b⁻¹ := invm _ _ ha hb
 have i1 : a * a⁻¹ = 1 := Rat.mul_inv_cancel a ha
 have i2 : b * b⁻¹ = 1 := Rat.mul_inv_cancel b hb
 rw [e1, e2, e3]
 generalize a⁻¹ = u at *
 generalize b⁻¹ = v at *
 grind
theorem fr3 (x y N : Rat) (hN : N ≠ 0) (h : x - y ≠ 0) : x / N / (x / N - y / N) = x / (x - y) := by
 have e : x / N - y / N = (x - y) / N := by grind
 rw [e]
 grind
theorem due_bears {s W} (h : StOk s W) (p q : List Int) : due s (.bears p q) = (s, bearsA W p q) := by
 unfold due bearsA
 show (if (mixtureIn s p && mixtureIn s q) = false then _ else _) = _
 rw [← weights_in h, ← weights_in h]
 by_cases hh : (areWeights W.length p && areWeights W.length q) = true
 ·rw [hh, if_neg (by decide), if_pos rfl]
  rw [Bool.and_eq_true] at hh
  obtain ⟨h1, h2⟩ := hh
  obtain ⟨p1, p2, p3⟩ := weights_of h1
  obtain ⟨q1, q2, q3⟩ := weights_of h2
  rw [← h.n] at p1 q1
  show (if (mixture p == mixture q) = true then (s, [-6]) else (s, shown [Vbecam.bears s (mixture p) (mixture q)])) = _
  rw [mixture_F, mixture_F, mixture_beq]
  by_cases e : sharesR p = sharesR q
  ·rw [decide_eq_true e, if_pos rfl, if_pos ((mix_iff p3 q3).mpr e)]
  ·rw [decide_eq_false e, if_neg (by decide), if_neg (fun z => e ((mix_iff p3 q3).mp z)), bears_F]
   congr 1
   show shown ([bearsR s (sharesR p) (sharesR q)].map F) = _
   rw [shown_F]
   show two (bearsR s (sharesR p) (sharesR q)) ++ [] = _
   rw [List.append_nil]
   unfold bearsR bearsM
   dsimp only
   rw [value_scaled h p1 p1 (sharesR_get p) (sharesR_get p), value_scaled h q1 p1 (sharesR_get q) (sharesR_get p), value_scaled h p1 q1 (sharesR_get p) (sharesR_get q), value_scaled h q1 q1 (sharesR_get q) (sharesR_get q)]
   have hp := cast_pos p3
   have hq := cast_pos q3
   have hN : (0 : Rat) < (p.sum : Rat) * p.sum * (q.sum * q.sum) := Rat.mul_pos (Rat.mul_pos hp hp) (Rat.mul_pos hq hq)
   have ea : ((wsum (wonM W p) p : Int) : Rat) / ((p.sum : Rat) * (p.sum : Rat)) - ((wsum (wonM W p) q : Int) : Rat) / ((q.sum : Rat) * (p.sum : Rat)) = ((leadM p q (wonM W p) * q.sum : Int) : Rat) / ((p.sum : Rat) * p.sum * (q.sum * q.sum)) := by
    unfold leadM
    rw [Rat.intCast_mul, Rat.intCast_sub, Rat.intCast_mul, Rat.intCast_mul]
    exact fr1 _ _ _ _ (cast_ne p3) (cast_ne q3)
   have ec : ((wsum (wonM W q) p : Int) : Rat) / ((p.sum : Rat) * (q.sum : Rat)) - ((wsum (wonM W q) q : Int) : Rat) / ((q.sum : Rat) * (q.sum : Rat)) = ((leadM p q (wonM W q) * p.sum : Int) : Rat) / ((p.sum : Rat) * p.sum * (q.sum * q.sum)) := by
    unfold leadM
    rw [Rat.intCast_mul, Rat.intCast_sub, Rat.intCast_mul, Rat.intCast_mul]
    exact fr2 _ _ _ _ (cast_ne p3) (cast_ne q3)
   rw [ea, ec]
   generalize (leadM p q (wonM W p) * q.sum : Int) = x
   generalize (leadM p q (wonM W q) * p.sum : Int) = y
   generalize (p.sum : Rat) * p.sum * (q.sum * q.sum) = N at hN
   have z1 : ∀ a : Int, ((a : Int) : Rat) / N < 0 ↔ a < 0 := fun a => by
    have := (div_le (a := 0) (b := a) hN)
    have e0 : ((0 : Int) : Rat) / N = 0 := by grind
    rw [e0] at this
    constructor
    ·intro k
     apply Classical.byContradiction
     intro k2
     have := this.mpr (by omega)
     grind
    ·intro k
     apply Classical.byContradiction
     intro k2
     have := this.mp (by grind)
     omega
   have z2 : ∀ a : Int, ((a : Int) : Rat) / N = 0 ↔ a = 0 := fun a => by
    have := (div_inj (a := a) (b := 0) hN)
    have e0 : ((0 : Int) : Rat) / N = 0 := by grind
    rwa [e0] at this
   have z3 : ∀ a : Int, 0 < ((a : Int) : Rat) / N ↔ 0 < a := fun a => div_pos hN
   simp only [z1, z2, z3]
   by_cases k1 : x < 0
   ·rw [if_pos k1, if_pos (show x < 0 ∨ (x = 0 ∧ y ≤ 0) from .inl k1)]
    rfl
   ·rw [if_neg k1]
    by_cases k2 : x = 0
    ·rw [if_pos k2]
     by_cases k3 : 0 < y
     ·rw [if_pos k3, if_neg (show ¬ (x < 0 ∨ (x = 0 ∧ y ≤ 0)) by omega), if_pos (show 0 ≤ y by omega)]
      rfl
     ·rw [if_neg k3, if_pos (show x < 0 ∨ (x = 0 ∧ y ≤ 0) by omega)]
      rfl
    ·rw [if_neg k2, if_neg (show ¬ (x < 0 ∨ (x = 0 ∧ y ≤ 0)) by omega)]
     by_cases k3 : y < 0
     ·rw [if_pos k3, if_neg (show ¬ 0 ≤ y by omega), frI_two (show 0 < x - y by omega)]
      congr 1
      rw [Rat.intCast_sub]
      have hne : ((x : Int) : Rat) - (y : Rat) ≠ 0 := by
       have := cast_pos (a := x - y) (by omega)
       rw [Rat.intCast_sub] at this
       grind
      exact fr3 _ _ _ (by grind) hne
     ·rw [if_neg k3, if_pos (show 0 ≤ y by omega)]
      rfl
 ·have hh' : (areWeights W.length p && areWeights W.length q) = false := by simpa using hh
  rw [hh', if_pos rfl, if_neg (by decide)]
end Cw
end
section
set_option linter.all false
namespace Cw
open Vbecam
theorem any_flat : ∀ W : List (List Int), W.flatten.any (fun v => decide (v < 0)) = anyNeg W
 | [] => rfl
 | r :: W => by
  rw [List.flatten_cons, List.any_append, any_flat W]
  rfl
theorem step_sum (W : List (List Int)) (ws : List Int) : (growStep W ws).sum = wsum (wonM W ws) ws := by
 unfold growStep wsum
 congr 1
 rw [zip_with, zip_with]
 generalize wonM W ws = u
 have : ∀ (a b : List Int), ((a.zip b).map fun p => p.1 * p.2) = (b.zip a).map fun p => p.1 * p.2 := by
  intro a
  induction a with
  | nil => intro b; simp
  | cons x a ih =>
   intro b
   cases b with
   | nil => simp
   | cons y b => simp only [List.zip_cons_cons, List.map_cons, ih b]; rw [Int.mul_comm]
 exact this ws u
theorem step_get {s W} (h : StOk s W) {ws : List Int} (hw : ws.length = s.n) {i : Nat} (hi : i < s.n) : (growStep W ws).getD i 0 = ws.getD i 0 * (wonM W ws).getD i 0 := by
 unfold growStep
 rw [List.getD_eq_getElem?_getD, List.getElem?_zipWith, List.getElem?_eq_getElem (show i < ws.length by omega), List.getElem?_eq_getElem (show i < (wonM W ws).length by rw [wonM_len h]; exact hi)]
 simp only [Option.getD_some]
 rw [List.getD_eq_getElem?_getD, List.getElem?_eq_getElem (show i < ws.length by omega), List.getD_eq_getElem?_getD, List.getElem?_eq_getElem (show i < (wonM W ws).length by rw [wonM_len h]; exact hi)]
 rfl
theorem fr4 (a b c S : Rat) (hS : S ≠ 0) (hc : c ≠ 0) : a / S * (b / S) / (c / (S * S)) = a * b / c := by
 have e : c / (S * S) ≠ 0 := by
  intro z
  have : c / (S * S) * (S * S) = c := by grind
  rw [z] at this
  grind
 have e1 : a / S * (b / S) = a * b / (S * S) := by grind
 rw [e1]
 have h2 : S * S ≠ 0 := by grind
 grind
theorem grown_step {s W} (h : StOk s W) {ws : List Int} (hw : ws.length = s.n) (hp : 0 < ws.sum) (hg : (growStep W ws).sum ≠ 0) : grownR s (sharesR ws) = sharesR (growStep W ws) := by
 have hl : (growStep W ws).length = s.n := by
  unfold growStep
  rw [List.length_zipWith, wonM_len h, hw, Nat.min_self]
 have e1 : sharesR (growStep W ws) = (List.range s.n).map fun i => (sharesR (growStep W ws)).getD i 0 := list_of_getD (by unfold sharesR; rw [List.length_map]; exact hl)
 rw [e1]
 unfold grownR State.all
 apply List.map_congr_left
 intro i hi
 have hi' := List.mem_range.mp hi
 rw [sharesR_get, sharesR_get, against_scaled h hw (sharesR_get ws) hi', value_scaled h hw hw (sharesR_get ws) (sharesR_get ws), step_get h hw hi', step_sum, Rat.intCast_mul]
 refine fr4 _ _ _ _ (cast_ne hp) ?_
 rw [← step_sum]
 intro z
 exact hg (cast_zero.mp z)
theorem grow_go {s W} (h : StOk s W) (hn : anyNeg W = false) (t : Nat) : ∀ ws : List Int, ws.length = s.n → (∀ x ∈ ws, 0 ≤ x) → 0 < ws.sum →
  grownOftenR s t (sharesR ws) = (growGo W t ws).map sharesR ∧ ∀ v, growGo W t ws = some v → 0 < v.sum := by
 induction t with
 | zero => intro ws _ _ hp; exact ⟨rfl, fun v e => by cases e; exact hp⟩
 | succ t ih =>
  intro ws hw h0 hp
  have hwn : ∀ r ∈ W, ∀ x ∈ r, 0 ≤ x := by
   intro r hr x hx
   unfold anyNeg at hn
   have := List.any_eq_false.mp hn r hr
   have h2 : ∀ y ∈ r, 0 ≤ y := by simpa using this
   exact h2 x hx
  have hw2 := won_nn hwn h0
  have hs0 : ∀ x ∈ growStep W ws, 0 ≤ x := by
   intro x hx
   unfold growStep at hx
   rw [zip_with] at hx
   obtain ⟨q, hq, rfl⟩ := List.mem_map.mp hx
   have := List.of_mem_zip hq
   exact Int.mul_nonneg (h0 _ this.1) (hw2 _ this.2)
  have hsn := sum_nonneg _ hs0
  have hl : (growStep W ws).length = s.n := by
   unfold growStep
   rw [List.length_zipWith, wonM_len h, hw, Nat.min_self]
  have hv : 0 < valueR s (sharesR ws) (sharesR ws) ↔ 0 < (growStep W ws).sum := by
   rw [value_scaled h hw hw (sharesR_get ws) (sharesR_get ws), ← step_sum]
   exact div_pos (Rat.mul_pos (cast_pos hp) (cast_pos hp))
  unfold grownOftenR growGo
  by_cases e : (growStep W ws).sum = 0
  ·rw [if_neg (by rw [hv]; omega), if_pos e]
   exact ⟨rfl, fun v z => by cases z⟩
  ·rw [if_pos (by rw [hv]; omega), if_neg e, grown_step h hw hp e]
   exact ih _ hl hs0 (by omega)
theorem due_grow {s W} (h : StOk s W) (t : Int) (p : List Int) : due s (.grow t p) = (s, growA W t p) := by
 unfold due growA
 show (if (within t 0 5 && mixtureIn s p) = false then _ else _) = _
 rw [← weights_in h]
 have ew : within t 0 5 = (decide (0 ≤ t) && decide (t ≤ 5)) := rfl
 rw [ew]
 by_cases hh : ((decide (0 ≤ t) && decide (t ≤ 5)) && areWeights W.length p) = true
 ·rw [hh, if_neg (by decide), if_pos rfl]
  rw [Bool.and_eq_true] at hh
  obtain ⟨p1, p2, p3⟩ := weights_of hh.2
  rw [← h.n] at p1
  show (if s.wins.any (fun v => decide (v < 0)) = true then (s, [-7]) else match grownOften s t.toNat (mixture p) with | none => (s, [-8]) | some q => (s, 0 :: shown q)) = _
  rw [h.wins, any_flat]
  by_cases hn : anyNeg W = true
  ·rw [if_pos hn, if_pos hn]
  ·have hn' : anyNeg W = false := by simpa using hn
   rw [if_neg hn, if_neg hn, mixture_F, grownOften_F]
   obtain ⟨e1, e2⟩ := grow_go h hn' t.toNat p p1 (fun x hx => (p2 x hx).1) p3
   rw [e1]
   cases e : growGo W t.toNat p with
   | none => rfl
   | some v =>
    simp only [Option.map_some]
    rw [shown_F, mixI_two (e2 v e)]
 ·have hh' : ((decide (0 ≤ t) && decide (t ≤ 5)) && areWeights W.length p) = false := by simpa using hh
  rw [hh', if_pos rfl, if_neg (by decide)]
def Sized (W : List (List Int)) : Prop := ∀ r ∈ W, ∀ x ∈ r, -1000000 ≤ x ∧ x ≤ 1000000
theorem sqr_of {s W} (h : StOk s W) (z : Sized W) : Sqr 4 20 W := ⟨by rw [← h.n]; exact h.four, fun r hr => by rw [h.row r hr, h.n], fun r hr x hx => by
 have := z r hr x hx
 unfold Few
 omega⟩
theorem inGrown_iff (W : List (List Int)) : inGrown W = true ↔ Sized W := by
 unfold inGrown Sized
 simp only [List.all_eq_true, Bool.and_eq_true, decide_eq_true_eq]
theorem great_flat : ∀ W : List (List Int), tooGreat W.flatten = !inGrown W
 | [] => rfl
 | r :: W => by
  have ih := great_flat W
  unfold tooGreat at ih ⊢
  unfold inGrown at ih ⊢
  rw [List.flatten_cons, List.any_append, ih, List.all_cons, Bool.not_and]
  congr 1
  have : ∀ l : List Int, (l.any fun v => !within v (-LIMIT) LIMIT) = !(l.all fun x => decide (-1000000 ≤ x) && decide (x ≤ 1000000)) := by
   intro l
   induction l with
   | nil => rfl
   | cons x l ih2 => rw [List.any_cons, List.all_cons, Bool.not_and, ih2]; rfl
  exact this r
theorem due_contest {s W} (h : StOk s W) (z : Sized W) (n : Int) (l : List Int) : ∃ s', due s (.contest n l) = (s', conA n l) ∧ StOk s' (conW W n l) ∧ Sized (conW W n l) := by
 have e : inRange s (.contest n l) = conOk n l := by
  show (within n 1 4 && (l.length == n.toNat * n.toNat && l.all fun v => within v (-1000) 1000)) = _
  unfold conOk
  by_cases h1 : 1 ≤ n
  ·obtain ⟨m, rfl⟩ : ∃ m : Nat, n = (m : Int) := ⟨n.toNat, by omega⟩
   have : (l.length == ((m : Nat) : Int).toNat * ((m : Nat) : Int).toNat) = decide (((l.length : Nat) : Int) = (m : Int) * (m : Int)) := by
    rw [Bool.eq_iff_iff, decide_eq_true_iff, beq_iff_eq, Int.toNat_natCast, ← Int.natCast_mul]
    omega
   rw [this]
   rfl
  ·unfold within
   rw [decide_eq_false h1]
   rfl
 unfold due conA conW
 rw [e]
 by_cases hc : conOk n l = true
 ·rw [hc, if_neg (by decide), if_pos rfl, if_pos rfl]
  unfold conOk at hc
  simp only [Bool.and_eq_true, decide_eq_true_eq, List.all_eq_true] at hc
  obtain ⟨⟨h1, h2⟩, h3, h4⟩ := hc
  obtain ⟨m, rfl⟩ : ∃ m : Nat, n = (m : Int) := ⟨n.toNat, by omega⟩
  have hl : l.length = m * m := by rw [← Int.natCast_mul] at h3; omega
  refine ⟨_, rfl, ?_, ?_⟩
  ·rw [Int.toNat_natCast]
   exact contest_ok m l (by omega) (by omega) hl
  ·intro r hr x hx
   unfold chunks at hr
   obtain ⟨i, _, rfl⟩ := List.mem_map.mp hr
   have := h4 x (List.mem_of_mem_drop (List.mem_of_mem_take hx))
   omega
 ·have hc' : conOk n l = false := by simpa using hc
  rw [hc', if_pos rfl, if_neg (by decide), if_neg (by decide)]
  exact ⟨s, rfl, h, z⟩
theorem grown_ok {s W W'} (h : StOk s W) (z : Sized W) (h' : StOk { s with wins := W'.flatten } W') : ∃ s', (if tooGreat W'.flatten = true then (s, [-9]) else ({ s with wins := W'.flatten }, [0])) = (s', grownAns W') ∧ StOk s' (grownW W W') ∧ Sized (grownW W W') := by
 unfold grownAns grownW
 rw [great_flat]
 by_cases hg : inGrown W' = true
 ·rw [hg, if_neg (by decide), if_pos rfl, if_pos rfl]
  exact ⟨_, rfl, h', (inGrown_iff W').mp hg⟩
 ·have hg' : inGrown W' = false := by simpa using hg
  rw [hg']
  exact ⟨s, rfl, h, z⟩
theorem due_shift {s W} (h : StOk s W) (z : Sized W) (b : List Int) : ∃ s', due s (.shift b) = (s', shiftA W b) ∧ StOk s' (shiftW W b) ∧ Sized (shiftW W b) := by
 have e : inRange s (.shift b) = shiftOk W b := by
  show (b.length == s.n && b.all fun v => within v (-1000) 1000) = _
  unfold shiftOk
  rw [h.n]
  congr 1
 unfold due shiftA shiftW
 rw [e]
 by_cases hc : shiftOk W b = true
 ·rw [hc, if_neg (by decide), if_pos rfl, if_pos rfl]
  have hbl : b.length = s.n := by
   unfold shiftOk at hc
   rw [Bool.and_eq_true] at hc
   rw [h.n]
   exact of_decide_eq_true hc.1
  have el : (s.all.flatMap fun i => s.all.map fun j => win s i j + b.getD j 0) = (shiftN W b).flatten := by
   unfold State.all shiftN
   rw [List.flatMap_def]
   congr 1
   have eW : W = (List.range s.n).map fun i => W.getD i [] := by
    apply List.ext_getElem?
    intro i
    rw [List.getElem?_map]
    by_cases hi : i < s.n
    ·rw [List.getElem?_range hi, List.getElem?_eq_getElem (show i < W.length by rw [← h.n]; exact hi)]
     simp only [Option.map_some]
     rw [List.getD_eq_getElem?_getD, List.getElem?_eq_getElem (show i < W.length by rw [← h.n]; exact hi)]
     rfl
    ·rw [List.getElem?_eq_none (l := W) (by rw [← h.n]; omega), List.getElem?_eq_none (by simp; omega)]
     rfl
   conv => rhs; rw [eW, List.map_map]
   apply List.map_congr_left
   intro i hi
   have hi' := List.mem_range.mp hi
   have hrow : (W.getD i []).length = s.n := h.row _ (getD_mem [] (by rw [← h.n]; exact hi'))
   simp only [Function.comp]
   apply List.ext_getElem?
   intro j
   rw [List.getElem?_map, List.getElem?_zipWith]
   by_cases hj : j < s.n
   ·rw [List.getElem?_range hj, List.getElem?_eq_getElem (show j < (W.getD i []).length by omega), List.getElem?_eq_getElem (show j < b.length by omega)]
    simp only [Option.map_some]
    rw [h.win hi' hj, List.getD_eq_getElem?_getD (i := j), List.getElem?_eq_getElem (show j < (W.getD i []).length by omega), List.getD_eq_getElem?_getD (i := j) (l := b), List.getElem?_eq_getElem (show j < b.length by omega)]
    rfl
   ·rw [List.getElem?_eq_none (by simp; omega), List.getElem?_eq_none (l := W.getD i []) (by omega)]
    rfl
  show ∃ s', (let l := s.all.flatMap fun i => s.all.map fun j => win s i j + b.getD j 0; if tooGreat l = true then (s, [-9]) else ({ s with wins := l }, [0])) = (s', _) ∧ _
  rw [el]
  refine grown_ok h z ⟨?_, ?_, rfl, h.pos, h.four⟩
  ·unfold shiftN
   rw [List.length_map]
   exact h.n
  ·intro r hr
   obtain ⟨q, hq, rfl⟩ := List.mem_map.mp hr
   rw [List.length_zipWith, h.row q hq, hbl, Nat.min_self]
 ·have hc' : shiftOk W b = false := by simpa using hc
  rw [hc', if_pos rfl, if_neg (by decide), if_neg (by decide)]
  exact ⟨s, rfl, h, z⟩
theorem due_scale {s W} (h : StOk s W) (z : Sized W) (k : Int) : ∃ s', due s (.scale k) = (s', scaleA W k) ∧ StOk s' (scaleW W k) ∧ Sized (scaleW W k) := by
 have e : inRange s (.scale k) = scaleOk k := rfl
 unfold due scaleA scaleW
 rw [e]
 by_cases hc : scaleOk k = true
 ·rw [hc, if_neg (by decide), if_pos rfl, if_pos rfl]
  have el : (s.wins.map fun v => v * k) = (scaleN W k).flatten := by
   rw [h.wins, scaleN, List.map_flatten]
  show ∃ s', (let l := s.wins.map fun v => v * k; if tooGreat l = true then (s, [-9]) else ({ s with wins := l }, [0])) = (s', _) ∧ _
  rw [el]
  refine grown_ok h z ⟨?_, ?_, rfl, h.pos, h.four⟩
  ·unfold scaleN
   rw [List.length_map]
   exact h.n
  ·intro r hr
   obtain ⟨q, hq, rfl⟩ := List.mem_map.mp hr
   rw [List.length_map]
   exact h.row q hq
 ·have hc' : scaleOk k = false := by simpa using hc
  rw [hc', if_pos rfl, if_neg (by decide), if_neg (by decide)]
  exact ⟨s, rfl, h, z⟩
theorem due_sub {s W} (h : StOk s W) (z : Sized W) (l : List Int) : ∃ s', due s (.sub l) = (s', subA W l) ∧ StOk s' (subW W l) ∧ Sized (subW W l) := by
 unfold due subA subW
 show ∃ s', (if someIn s l = false then _ else _) = _ ∧ _
 rw [← strategies_in h]
 by_cases hc : areStrategies W.length l = true
 ·rw [hc, if_neg (by decide), if_pos rfl, if_pos rfl]
  obtain ⟨hS, hnI, hSl⟩ := strats_set hc
  have hnl : (nats l).length = l.length := by unfold nats; rw [List.length_map]
  refine ⟨{ n := l.length, wins := (nats l).flatMap fun i => (nats l).map fun j => win s i j }, rfl, ⟨?_, ?_, ?_, ?_, ?_⟩, ?_⟩
  ·unfold subN
   rw [List.length_map, hnl]
  ·intro r hr
   obtain ⟨i, hi, rfl⟩ := List.mem_map.mp hr
   rw [List.length_map, hnl]
  ·show ((nats l).flatMap fun i => (nats l).map fun j => win s i j) = _
   unfold subN
   rw [List.flatMap_def]
   congr 1
   apply List.map_congr_left
   intro i hi
   apply List.map_congr_left
   intro j hj
   rw [h.win (by rw [h.n]; exact hS.lt i hi) (by rw [h.n]; exact hS.lt j hj)]
   rfl
  ·show 1 ≤ l.length
   rw [← hnl]
   exact hS.ne
  ·show l.length ≤ 4
   rw [← hnl]
   have := h.four
   rw [h.n] at this
   omega
  ·intro r hr x hx
   obtain ⟨i, hi, rfl⟩ := List.mem_map.mp hr
   obtain ⟨j, hj, rfl⟩ := List.mem_map.mp hx
   have hri := getD_mem ([] : List Int) (hS.lt i hi)
   refine z _ hri _ (getD_mem 0 ?_)
   rw [h.row _ hri, h.n]
   exact hS.lt j hj
 ·have hc' : areStrategies W.length l = false := by simpa using hc
  rw [hc', if_pos rfl, if_neg (by decide), if_neg (by decide)]
  exact ⟨s, rfl, h, z⟩
end Cw
end
section
set_option linter.all false
namespace Cw
open Vbecam
theorem sub_sets (n : Nat) : ∀ T : List Nat, T.Sublist (List.range n) → T ∈ allSetsG n := by
 induction n with
 | zero =>
  intro T h
  have : T = [] := by simpa using h
  subst this
  exact List.Mem.head _
 | succ n ih =>
  intro T h
  rw [List.range_succ, List.sublist_append_iff] at h
  obtain ⟨T1, T2, rfl, h1, h2⟩ := h
  unfold allSetsG
  have hc : T2 = [] ∨ T2 = [n] := by
   cases h2 with
   | cons _ h => left; simpa using h
   | cons_cons _ h => right; congr 1; simpa using h
  rcases hc with rfl | rfl
  ·rw [List.append_nil]
   exact List.mem_append_left _ (ih T1 h1)
  ·exact List.mem_append_right _ (List.mem_map.mpr ⟨T1, ih T1 h1, rfl⟩)
theorem sets_sub (n : Nat) : ∀ T ∈ allSetsG n, T.Sublist (List.range n) := by
 induction n with
 | zero => intro T h; simp [allSetsG] at h; subst h; simp
 | succ n ih =>
  intro T h
  unfold allSetsG at h
  rw [List.range_succ]
  rcases List.mem_append.mp h with h | h
  ·exact (ih T h).trans (List.sublist_append_left _ _)
  ·obtain ⟨l, hl, rfl⟩ := List.mem_map.mp h
   exact (ih l hl).append (List.Sublist.refl _)
theorem sub_set {n : Nat} {T : List Nat} (h : T.Sublist (List.range n)) (hn : T ≠ []) : SetOk n T := ⟨List.length_pos_iff.mpr hn, h.nodup List.nodup_range, fun i hi => List.mem_range.mp (h.subset hi)⟩
theorem sm_ix (T : List Nat) (g : Nat → Rat) : ((List.range T.length).map fun k => g (T.getD k 0)).sum = sm T g := by
 unfold sm
 congr 1
 apply List.ext_getElem?
 intro k
 rw [List.getElem?_map, List.getElem?_map]
 by_cases hk : k < T.length
 ·rw [List.getElem?_range hk, List.getElem?_eq_getElem hk]
  simp only [Option.map_some]
  rw [List.getD_eq_getElem?_getD, List.getElem?_eq_getElem hk]
  rfl
 ·rw [List.getElem?_eq_none (by simp; omega), List.getElem?_eq_none (by omega)]
  rfl
def fR (F : List (List Int)) (i j : Nat) : Rat := ((gW F i j : Int) : Rat)
theorem bil_wsum {s F} (h : StOk s F) {ws : List Int} (hw : ws.length = s.n) : bil (List.range s.n) (fR F) (fun i => ((ws.getD i 0 : Int) : Rat)) (fun i => ((ws.getD i 0 : Int) : Rat)) = ((wsum (wonM F ws) ws : Int) : Rat) := by
 rw [wsum_range s.n _ _ (wonM_len h ws) hw, ← sum_cast]
 unfold bil
 refine smc fun i hi => ?_
 have hi' := List.mem_range.mp hi
 have hrow : (F.getD i []).length = s.n := h.row _ (getD_mem [] (by rw [← h.n]; exact hi'))
 rw [wonM_get h ws hi', wsum_range s.n _ _ hrow hw, Rat.intCast_mul, ← sum_cast]
 have : app (List.range s.n) (fR F) (fun i => ((ws.getD i 0 : Int) : Rat)) i = ((List.range s.n).map fun j => (((F.getD i []).getD j 0 * ws.getD j 0 : Int) : Rat)).sum := by
  unfold app
  refine smc fun j _ => ?_
  rw [Rat.intCast_mul]
  rfl
 rw [this]
 grind
theorem app_won {s F} (h : StOk s F) {ws : List Int} (hw : ws.length = s.n) {i : Nat} (hi : i < s.n) : sm (List.range s.n) (fun j => fR F i j * ((ws.getD j 0 : Int) : Rat)) = (((wonM F ws).getD i 0 : Int) : Rat) := by
 have hrow : (F.getD i []).length = s.n := h.row _ (getD_mem [] (by rw [← h.n]; exact hi))
 rw [wonM_get h ws hi, wsum_range s.n _ _ hrow hw, ← sum_cast]
 refine smc fun j _ => ?_
 rw [Rat.intCast_mul]
 rfl
theorem sum_range {ws : List Int} {n : Nat} (hw : ws.length = n) : sm (List.range n) (fun i => ((ws.getD i 0 : Int) : Rat)) = ((ws.sum : Int) : Rat) := by
 have e := listI_of_getD hw
 conv => rhs; rw [e]
 exact sum_cast _ _
theorem face_of {s F} (h : StOk s F) {T : List Nat} (hT : SetOk s.n T) (hb : badSet F T = false) : Face (fR F) T := by
 rcases level_lev h hT with ⟨e1, e2⟩ | ⟨sol, v, den, e1, L⟩
 ·-- singular
  left
  unfold balancedR at e2
  rw [eqs_rat h hT.lt] at e2
  obtain ⟨x, ⟨j0, hj0, hx0⟩, hk⟩ := singular_kernel (T.length + 1) (eqsI F T) (eqs_len F T) (eqs_row F T) e2
  have hd : ∀ k, k < T.length → (fun i => x ((T.findIdx? fun y => y == i).getD 0)) (T.getD k 0) = x k := by
   intro k hk
   dsimp only
   rw [findIdx_nodup hT.nd hk]
   rfl
  refine ⟨fun i => x ((T.findIdx? fun y => y == i).getD 0), x T.length, ?_, ?_, ?_⟩
  ·by_cases hj : j0 < T.length
   ·left
    refine ⟨T.getD j0 0, getD_mem 0 hj, ?_⟩
    rw [hd j0 hj]
    exact hx0
   ·right
    have : j0 = T.length := by omega
    rw [← this]
    exact hx0
  ·have := hk _ (List.mem_append_right _ (List.Mem.head _))
   rw [List.range_succ, List.map_append, List.sum_append] at this
   obtain ⟨r1, r2, r3⟩ := row_at T (fun _ => 1) 0 1
   simp only [List.map_cons, List.map_nil, List.sum_cons, List.sum_nil, r2] at this
   rw [← sm_ix]
   have e : ((List.range T.length).map fun k => (fun i => x ((T.findIdx? fun y => y == i).getD 0)) (T.getD k 0)) = (List.range T.length).map fun j => ((((T.map fun _ => (1 : Int)) ++ [0, 1]).getD j 0 : Int) : Rat) * x j := by
    apply List.map_congr_left
    intro k hk2
    have hk3 := List.mem_range.mp hk2
    rw [hd k hk3, r1 k hk3]
    have : ((1 : Int) : Rat) = 1 := rfl
    rw [this]
    grind
   rw [e]
   have z : ((0 : Int) : Rat) = 0 := rfl
   rw [z] at this
   grind
  ·intro i hi
   have := hk _ (List.mem_append_left _ (List.mem_map.mpr ⟨i, hi, rfl⟩))
   rw [List.range_succ, List.map_append, List.sum_append] at this
   obtain ⟨r1, r2, r3⟩ := row_at T (fun j => (F.getD i []).getD j 0) (-1) 0
   simp only [List.map_cons, List.map_nil, List.sum_cons, List.sum_nil, r2] at this
   unfold app
   rw [← sm_ix]
   have e : ((List.range T.length).map fun k => (fun j => fR F i j * (fun i => x ((T.findIdx? fun y => y == i).getD 0)) j) (T.getD k 0)) = (List.range T.length).map fun j => ((((T.map fun j => (F.getD i []).getD j 0) ++ [-1, 0]).getD j 0 : Int) : Rat) * x j := by
    apply List.map_congr_left
    intro k hk2
    have hk3 := List.mem_range.mp hk2
    have h1 := hd k hk3
    dsimp only at h1 ⊢
    rw [h1, r1 k hk3]
    rfl
   rw [e]
   have z : ((-1 : Int) : Rat) = -1 := rfl
   rw [z] at this
   grind
 ·-- one solution
  right
  have hlen := weightsM_len s.n T sol
  have hden := cast_pos L.pos
  have hout : ∀ j, j ∉ T → (weightsM s.n T sol).getD j 0 = 0 := fun j hj => L.wout hT hj
  have onT : ∀ g : Nat → Rat, (∀ j, j ∉ T → g j = 0) → sm (List.range s.n) g = sm T g := fun g hg => sum_on s.n T g hT.nd hT.lt (fun i _ hi => hg i hi)
  have hsum : sm T (fun i => (((weightsM s.n T sol).getD i 0 : Int) : Rat)) = (den : Rat) := by
   rw [← onT _ (fun j hj => by rw [hout j hj]; rfl), sum_range hlen, L.sum]
  refine ⟨fun i => (den : Rat)⁻¹ * (((weightsM s.n T sol).getD i 0 : Int) : Rat), (den : Rat)⁻¹ * ((sol.getD T.length 0 : Int) : Rat), ?_, ?_, ?_⟩
  ·rw [smm, hsum]
   exact Rat.inv_mul_cancel _ (by grind)
  ·intro i hi
   unfold app
   have e : sm T (fun j => fR F i j * ((den : Rat)⁻¹ * (((weightsM s.n T sol).getD j 0 : Int) : Rat))) = (den : Rat)⁻¹ * sm T (fun j => fR F i j * (((weightsM s.n T sol).getD j 0 : Int) : Rat)) := by
    rw [← smm]
    exact smc fun j _ => by grind
   rw [e, ← onT _ (fun j hj => by rw [hout j hj]; exact Rat.mul_zero _), app_won h hlen (hT.lt i hi), L.won i hi]
  ·rintro ⟨h1, h2⟩
   have hinv : 0 < (den : Rat)⁻¹ := Rat.inv_pos.mpr hden
   have hws : ∀ x ∈ weightsM s.n T sol, 0 ≤ x := by
    intro x hx
    obtain ⟨i, hi⟩ := List.mem_iff_getElem?.mp hx
    have hg : (weightsM s.n T sol).getD i 0 = x := by rw [List.getD_eq_getElem?_getD, hi]; rfl
    by_cases hiT : i ∈ T
    ·have := h1 i hiT
     have h3 : 0 ≤ (((weightsM s.n T sol).getD i 0 : Int) : Rat) := by
      apply Classical.byContradiction
      intro z
      have := Rat.mul_pos hinv (show 0 < -(((weightsM s.n T sol).getD i 0 : Int) : Rat) by grind)
      grind
     rw [hg] at h3
     exact_mod_cast h3
    ·rw [← hg, hout i hiT]
     exact Int.le_refl _
   have hv : ((sol.getD T.length 0 : Int) : Rat) ≤ 0 := nonpos_of_mul hinv h2
   have hq : wsum (wonM F (weightsM s.n T sol)) (weightsM s.n T sol) ≤ 0 := by
    have e3 : ((wsum (wonM F (weightsM s.n T sol)) (weightsM s.n T sol) : Int) : Rat) = ((sol.getD T.length 0 : Int) : Rat) * den := by
     rw [wsum_range s.n _ _ (wonM_len h _) hlen, ← sum_cast]
     show sm (List.range s.n) _ = _
     rw [onT _ (fun j hj => by rw [hout j hj, Int.mul_zero]; rfl), ← hsum, ← smm]
     refine smc fun i hi => ?_
     rw [L.won i hi, Rat.intCast_mul]
    have e4 : ((wsum (wonM F (weightsM s.n T sol)) (weightsM s.n T sol) : Int) : Rat) ≤ 0 := by
     rw [e3]
     have := Rat.mul_nonneg (show 0 ≤ -((sol.getD T.length 0 : Int) : Rat) by grind) (Rat.le_of_lt hden)
     grind
    exact_mod_cast e4
   unfold badSet at hb
   rw [e1] at hb
   dsimp only at hb
   rw [show ((weightsM s.n T sol).all fun x => decide (0 ≤ x)) = true from List.all_eq_true.mpr fun x hx => decide_eq_true (hws x hx), decide_eq_true hq] at hb
   cases hb
theorem above_iff {s F} (h : StOk s F) (sym : ∀ i j, gW F i j = gW F j i) : aboveM F = true ↔ ∀ x : Nat → Rat, (∀ i ∈ List.range s.n, 0 ≤ x i) → (∃ i ∈ List.range s.n, x i ≠ 0) → 0 < bil (List.range s.n) (fR F) x x := by
 constructor
 ·intro ha
  have hall : ∀ S ∈ allSetsG s.n, badSet F S = false := by
   unfold aboveM at ha
   rw [← h.n, Bool.not_eq_true', List.any_eq_false] at ha
   intro S hS
   simpa using ha S hS
  exact faces (fR F) (fun i j => by unfold fR; rw [sym]) s.n (List.range s.n) List.length_range List.nodup_range (fun T hT hne => face_of h (sub_set hT hne) (hall T (sub_sets s.n T hT)))
 ·intro hx
  unfold aboveM
  rw [← h.n, Bool.not_eq_true', List.any_eq_false]
  intro S hS hb
  unfold badSet at hb
  by_cases hne : S = []
  ·rw [hne, level_nil] at hb
   cases hb
  have hSok := sub_set (sets_sub s.n S hS) hne
  rcases level_lev h hSok with ⟨e1, _⟩ | ⟨sol, v, den, e1, L⟩
  ·rw [e1] at hb
   cases hb
  ·rw [e1] at hb
   dsimp only at hb
   rw [Bool.and_eq_true, List.all_eq_true] at hb
   obtain ⟨h1, h2⟩ := hb
   have hlen := weightsM_len s.n S sol
   have h3 := hx (fun i => (((weightsM s.n S sol).getD i 0 : Int) : Rat)) (fun i hi => by
    have := of_decide_eq_true (h1 _ (getD_mem 0 (by rw [hlen]; exact List.mem_range.mp hi)))
    exact_mod_cast this) (by
    apply Classical.byContradiction
    intro z
    have z2 : sm (List.range s.n) (fun i => (((weightsM s.n S sol).getD i 0 : Int) : Rat)) = 0 := sm_zero fun i hi => by
     apply Classical.byContradiction
     intro y
     exact z ⟨i, hi, y⟩
    rw [sum_range hlen, L.sum] at z2
    have := cast_ne L.pos
    exact this z2)
   rw [bil_wsum h hlen] at h3
   have h4 := of_decide_eq_true h2
   have h5 : 0 < wsum (wonM F (weightsM s.n S sol)) (weightsM s.n S sol) := by exact_mod_cast h3
   omega
end Cw
end
section
set_option linter.all false
namespace Cw
open Vbecam
def cR (F : List (List Int)) : List (List Rat) := F.map ratRow
theorem rl {r : List Int} : r.length = 1 → ∃ a, r = [a] := by
 intro h
 match r, h with
 | [a], _ => exact ⟨a, rfl⟩
theorem rl2 {r : List Int} : r.length = 2 → ∃ a b, r = [a, b] := by
 intro h
 match r, h with
 | [a, b], _ => exact ⟨a, b, rfl⟩
theorem rl3 {r : List Int} : r.length = 3 → ∃ a b c, r = [a, b, c] := by
 intro h
 match r, h with
 | [a, b, c], _ => exact ⟨a, b, c, rfl⟩
theorem frm1 {b : Nat} {F : List (List Int)} (h : Frm 1 b F) : ∃ a, F = [[a]] := by
 obtain ⟨h1, h2, _⟩ := h
 match F, h1 with
 | [r], _ =>
  obtain ⟨a, rfl⟩ := rl (h2 r (List.Mem.head _))
  exact ⟨a, rfl⟩
theorem frm2 {b : Nat} {F : List (List Int)} (h : Frm 2 b F) (sym : ∀ i j, gW F i j = gW F j i) : ∃ a d c, F = [[a, d], [d, c]] := by
 obtain ⟨h1, h2, _⟩ := h
 match F, h1 with
 | [r, q], _ =>
  obtain ⟨a, d, rfl⟩ := rl2 (h2 r (List.Mem.head _))
  obtain ⟨e, c, rfl⟩ := rl2 (h2 q (List.Mem.tail _ (List.Mem.head _)))
  have : d = e := sym 0 1
  subst this
  exact ⟨a, d, c, rfl⟩
theorem frm3 {b : Nat} {F : List (List Int)} (h : Frm 3 b F) (sym : ∀ i j, gW F i j = gW F j i) : ∃ a b c d e f, F = [[a, d, e], [d, b, f], [e, f, c]] := by
 obtain ⟨h1, h2, _⟩ := h
 match F, h1 with
 | [r, q, t], _ =>
  obtain ⟨a, d, e, rfl⟩ := rl3 (h2 r (List.Mem.head _))
  obtain ⟨d', b, f, rfl⟩ := rl3 (h2 q (List.Mem.tail _ (List.Mem.head _)))
  obtain ⟨e', f', c, rfl⟩ := rl3 (h2 t (List.Mem.tail _ (List.Mem.tail _ (List.Mem.head _))))
  have h3 : d = d' := sym 0 1
  have h4 : e = e' := sym 0 2
  have h5 : f = f' := sym 1 2
  subst h3 h4 h5
  exact ⟨a, b, c, d, e, f, rfl⟩
theorem above1 (a : Int) : aboveM [[a]] = copR (cR [[a]]) := by
 have ok : StOk { n := 1, wins := [a] } [[a]] := ⟨rfl, by simp, rfl, Nat.le_refl _, by show 1 ≤ 4; decide⟩
 rw [Bool.eq_iff_iff, above_iff ok (by
  intro i j
  unfold gW
  match i, j with
  | 0, 0 => rfl
  | 0, j + 1 => simp
  | i + 1, 0 => simp
  | i + 1, j + 1 => simp), ← yes_zero]
 show _ ↔ yes 0 [[(a : Rat)]] = true
 rw [sem1 0 (by decide)]
 have e : ∀ x : Nat → Rat, bil (List.range 1) (fR [[a]]) x x = a * x 0 * x 0 := by
  intro x
  show x 0 * ((a : Rat) * x 0 + 0) + 0 = _
  grind
 constructor
 ·intro q x h1 h2
  have := q (fun _ => x) (fun i hi => h1 (Nat.le_refl _)) ⟨0, by simp, h2⟩
  rwa [e] at this
 ·intro q x h1 h2
  rw [e]
  refine q (x 0) (fun _ => h1 0 (by simp)) ?_
  obtain ⟨i, hi, hx⟩ := h2
  have : i = 0 := by simpa using hi
  rwa [this] at hx
theorem above2 (a d c : Int) : aboveM [[a, d], [d, c]] = copR (cR [[a, d], [d, c]]) := by
 have ok : StOk { n := 2, wins := [a, d, d, c] } [[a, d], [d, c]] := ⟨rfl, by simp, rfl, by show 1 ≤ 2; decide, by show 2 ≤ 4; decide⟩
 rw [Bool.eq_iff_iff, above_iff ok (by
  intro i j
  unfold gW
  match i, j with
  | 0, 0 => rfl
  | 0, 1 => rfl
  | 1, 0 => rfl
  | 1, 1 => rfl
  | 0, j + 2 => simp
  | 1, j + 2 => simp
  | i + 2, 0 => simp
  | i + 2, 1 => simp
  | i + 2, j + 2 => simp), ← yes_zero]
 show _ ↔ yes 0 [[(a : Rat), (d : Rat)], [(d : Rat), (c : Rat)]] = true
 rw [sem2 0 (by decide)]
 have e : ∀ x : Nat → Rat, bil (List.range 2) (fR [[a, d], [d, c]]) x x = a * x 0 * x 0 + 2 * d * x 0 * x 1 + c * x 1 * x 1 := by
  intro x
  show x 0 * ((a : Rat) * x 0 + ((d : Rat) * x 1 + 0)) + (x 1 * ((d : Rat) * x 0 + ((c : Rat) * x 1 + 0)) + 0) = _
  grind
 constructor
 ·intro q x y h1 h2 h3
  have := q (fun i => if i = 0 then x else y) (fun i hi => by
   by_cases hi0 : i = 0
   ·rw [if_pos hi0]; exact h1 (Nat.le_refl _)
   ·rw [if_neg hi0]; exact h2 (by decide)) (by
   rcases h3 with h3 | h3
   ·exact ⟨0, by simp, by simpa using h3⟩
   ·exact ⟨1, by simp, by simpa using h3⟩)
  rw [e] at this
  simpa using this
 ·intro q x h1 h2
  rw [e]
  refine q (x 0) (x 1) (fun _ => h1 0 (by simp)) (fun _ => h1 1 (by simp)) ?_
  obtain ⟨i, hi, hx⟩ := h2
  have : i = 0 ∨ i = 1 := by
   have := List.mem_range.mp hi
   dsimp only at this
   omega
  rcases this with rfl | rfl
  ·exact .inl hx
  ·exact .inr hx
theorem above3 (a b c d e f : Int) : aboveM [[a, d, e], [d, b, f], [e, f, c]] = copR (cR [[a, d, e], [d, b, f], [e, f, c]]) := by
 have ok : StOk { n := 3, wins := [a, d, e, d, b, f, e, f, c] } [[a, d, e], [d, b, f], [e, f, c]] := ⟨rfl, by simp, rfl, by show 1 ≤ 3; decide, by show 3 ≤ 4; decide⟩
 rw [Bool.eq_iff_iff, above_iff ok (by
  intro i j
  unfold gW
  match i, j with
  | 0, 0 => rfl
  | 0, 1 => rfl
  | 0, 2 => rfl
  | 1, 0 => rfl
  | 1, 1 => rfl
  | 1, 2 => rfl
  | 2, 0 => rfl
  | 2, 1 => rfl
  | 2, 2 => rfl
  | 0, j + 3 => simp
  | 1, j + 3 => simp
  | 2, j + 3 => simp
  | i + 3, 0 => simp
  | i + 3, 1 => simp
  | i + 3, 2 => simp
  | i + 3, j + 3 => simp), ← yes_zero]
 show _ ↔ yes 0 [[(a : Rat), (d : Rat), (e : Rat)], [(d : Rat), (b : Rat), (f : Rat)], [(e : Rat), (f : Rat), (c : Rat)]] = true
 rw [sem3 0 (by decide)]
 have ex : ∀ x : Nat → Rat, bil (List.range 3) (fR [[a, d, e], [d, b, f], [e, f, c]]) x x = Q3 a b c d e f (x 0) (x 1) (x 2) := by
  intro x
  show x 0 * ((a : Rat) * x 0 + ((d : Rat) * x 1 + ((e : Rat) * x 2 + 0))) + (x 1 * ((d : Rat) * x 0 + ((b : Rat) * x 1 + ((f : Rat) * x 2 + 0))) + (x 2 * ((e : Rat) * x 0 + ((f : Rat) * x 1 + ((c : Rat) * x 2 + 0))) + 0)) = _
  unfold Q3
  grind
 constructor
 ·intro q x y z h1 h2 h3 h4
  have := q (fun i => if i = 0 then x else if i = 1 then y else z) (fun i hi => by
   by_cases hi0 : i = 0
   ·rw [if_pos hi0]; exact h1 (Nat.le_refl _)
   ·rw [if_neg hi0]
    by_cases hi1 : i = 1
    ·rw [if_pos hi1]; exact h2 (by decide)
    ·rw [if_neg hi1]; exact h3 (by decide)) (by
   rcases h4 with h4 | h4 | h4
   ·exact ⟨0, by simp, by simpa using h4⟩
   ·exact ⟨1, by simp, by simpa using h4⟩
   ·exact ⟨2, by simp, by simpa using h4⟩)
  rw [ex] at this
  simpa using this
 ·intro q x h1 h2
  rw [ex]
  refine q (x 0) (x 1) (x 2) (fun _ => h1 0 (by simp)) (fun _ => h1 1 (by simp)) (fun _ => h1 2 (by simp)) ?_
  obtain ⟨i, hi, hx⟩ := h2
  have : i = 0 ∨ i = 1 ∨ i = 2 := by
   have := List.mem_range.mp hi
   dsimp only at this
   omega
  rcases this with rfl | rfl | rfl
  ·exact .inl hx
  ·exact .inr (.inl hx)
  ·exact .inr (.inr hx)
theorem red1 (a : Int) : ∀ k, k ≤ 1 → redM k [[a]] = yes k [[(a : Rat)]]
 | 0, _ => above1 a
 | 1, _ => by
  rw [yes1]
  show (if a ≤ 0 then false else aboveM []) = _
  have e : aboveM [] = true := by decide
  rw [e]
  by_cases h : a ≤ 0
  ·rw [if_pos h, decide_eq_false]
   intro z
   have : 0 < a := by exact_mod_cast z
   omega
  ·rw [if_neg h, decide_eq_true]
   exact cast_pos (by omega)
theorem yes_sc1 (k : Nat) (hk : k ≤ 1) (a c : Rat) (hc : 0 < c) : yes k [[c * a]] = yes k [[a]] := by
 rw [Bool.eq_iff_iff, sem1 k hk, sem1 k hk]
 constructor
 ·intro q x h1 h2
  have := q x h1 h2
  exact pos_of_mul hc (by grind)
 ·intro q x h1 h2
  have := Rat.mul_pos hc (q x h1 h2)
  grind
theorem yes_sc2 (k : Nat) (hk : k ≤ 2) (a b d c : Rat) (hc : 0 < c) : yes k [[c * a, c * d], [c * d, c * b]] = yes k [[a, d], [d, b]] := by
 rw [Bool.eq_iff_iff, sem2 k hk, sem2 k hk]
 constructor
 ·intro q x y h1 h2 h3
  have := q x y h1 h2 h3
  exact pos_of_mul hc (by grind)
 ·intro q x y h1 h2 h3
  have := Rat.mul_pos hc (q x y h1 h2 h3)
  grind
theorem fdiv1 (x : Int) : x.fdiv 1 = x := Int.fdiv_one x
theorem red2 (a d c : Int) : ∀ k, k ≤ 2 → redM k [[a, d], [d, c]] = yes k [[(a : Rat), (d : Rat)], [(d : Rat), (c : Rat)]]
 | 0, _ => above2 a d c
 | k + 1, hk => by
  rw [yes2]
  have e1 : redOne [[a, d], [d, c]] = [[a * c - d * d]] := by
   show [[(a * c - d * d).fdiv 1]] = _
   rw [fdiv1]
  show (if a ≤ 0 then false else redM k (redOne [[a, d], [d, c]])) = _
  rw [e1]
  by_cases h : a ≤ 0
  ·rw [if_pos h, if_neg]
   intro z
   have : 0 < a := by exact_mod_cast z
   omega
  ·have ha : (0 : Rat) < a := cast_pos (by omega)
   rw [if_neg h, if_pos ha, red1 _ k (by omega)]
   have e : ((a * c - d * d : Int) : Rat) = (a : Rat) * ((c : Rat) - d * d / a) := by
    rw [Rat.intCast_sub, Rat.intCast_mul, Rat.intCast_mul]
    grind
   rw [e, yes_sc1 k (by omega) _ _ ha]
theorem red3 (a b c d e f : Int) : ∀ k, k ≤ 3 → redM k [[a, d, e], [d, b, f], [e, f, c]] = yes k [[(a : Rat), (d : Rat), (e : Rat)], [(d : Rat), (b : Rat), (f : Rat)], [(e : Rat), (f : Rat), (c : Rat)]]
 | 0, _ => above3 a b c d e f
 | k + 1, hk => by
  rw [yes3]
  have e1 : redOne [[a, d, e], [d, b, f], [e, f, c]] = [[a * b - d * d, a * f - d * e], [a * f - d * e, a * c - e * e]] := by
   show [[(a * b - d * d).fdiv 1, (a * f - d * e).fdiv 1], [(a * f - e * d).fdiv 1, (a * c - e * e).fdiv 1]] = _
   rw [fdiv1, fdiv1, fdiv1, fdiv1, Int.mul_comm e d]
  show (if a ≤ 0 then false else redM k (redOne [[a, d, e], [d, b, f], [e, f, c]])) = _
  rw [e1]
  by_cases h : a ≤ 0
  ·rw [if_pos h, if_neg]
   intro z
   have : 0 < a := by exact_mod_cast z
   omega
  ·have ha : (0 : Rat) < a := cast_pos (by omega)
   rw [if_neg h, if_pos ha, red2 _ _ _ k (by omega)]
   have e2 : ((a * b - d * d : Int) : Rat) = (a : Rat) * ((b : Rat) - d * d / a) := by
    rw [Rat.intCast_sub, Rat.intCast_mul, Rat.intCast_mul]
    grind
   have e3 : ((a * f - d * e : Int) : Rat) = (a : Rat) * ((f : Rat) - d * e / a) := by
    rw [Rat.intCast_sub, Rat.intCast_mul, Rat.intCast_mul]
    grind
   have e4 : ((a * c - e * e : Int) : Rat) = (a : Rat) * ((c : Rat) - e * e / a) := by
    rw [Rat.intCast_sub, Rat.intCast_mul, Rat.intCast_mul]
    grind
   have e5 : (f : Rat) - e * d / a = (f : Rat) - d * e / a := by grind
   rw [e2, e3, e4, e5, yes_sc2 k (by omega) _ _ _ _ ha]
theorem red_yes {n b : Nat} {F : List (List Int)} (h : Frm n b F) (sym : ∀ i j, gW F i j = gW F j i) (hn : n ≤ 3) (k : Nat) (hk : k ≤ n) : redM k F = yes k (cR F) := by
 have : n = 0 ∨ n = 1 ∨ n = 2 ∨ n = 3 := by omega
 rcases this with rfl | rfl | rfl | rfl
 ·have : F = [] := List.eq_nil_of_length_eq_zero h.len
  subst this
  have : k = 0 := by omega
  subst this
  show aboveM [] = copR []
  decide
 ·obtain ⟨a, rfl⟩ := frm1 h
  exact red1 a k hk
 ·obtain ⟨a, d, c, rfl⟩ := frm2 h sym
  exact red2 a d c k hk
 ·obtain ⟨a, b, c, d, e, f, rfl⟩ := frm3 h sym
  exact red3 a b c d e f k hk
end Cw
end
section
set_option linter.all false
namespace Cw
open Vbecam
theorem inside_eq {s : State} {p : List Int} {q : List Rat} {t : Rat} (ht : 0 < t) (hp : p.length = s.n) (hq : ∀ j, q.getD j 0 = ((p.getD j 0 : Int) : Rat) / t) : supportR s q = insideM p := by
 unfold supportR insideM State.all
 rw [hp]
 apply List.filter_congr
 intro i _
 rw [hq, Bool.eq_iff_iff, decide_eq_true_iff, decide_eq_true_iff]
 exact div_pos ht
theorem replies_eq {s W} (h : StOk s W) {p : List Int} {q : List Rat} {t : Rat} (ht : 0 < t) (hp : p.length = s.n) (hq : ∀ j, q.getD j 0 = ((p.getD j 0 : Int) : Rat) / t) : repliesR s q = bestP W p := by
 rw [replies_scaled h ht hp hq (maxL_mem (won_pos h p)) maxL_le]
 unfold bestP bestM
 rw [h.n]
theorem rest_eq {s W} (h : StOk s W) {p : List Int} {q : List Rat} {t : Rat} (ht : 0 < t) (hp : p.length = s.n) (hq : ∀ j, q.getD j 0 = ((p.getD j 0 : Int) : Rat) / t) : isRestR s q = restP W (insideM p) p := by
 unfold isRestR restP
 rw [inside_eq ht hp hq, replies_eq h ht hp hq, Bool.eq_iff_iff, List.all_eq_true, List.all_eq_true]
 constructor
 ·intro z i hi
  rw [Bool.and_eq_true]
  exact ⟨(List.mem_filter.mp hi).2, z i hi⟩
 ·intro z i hi
  have := z i hi
  rw [Bool.and_eq_true] at this
  exact this.2
theorem loss_sym (W : List (List Int)) (m : Nat) (l : List Nat) : ∀ i j, gW (lossM W m l) i j = gW (lossM W m l) j i := by
 intro i j
 have key : ∀ i j, gW (lossM W m l) i j = if i < l.length ∧ j < l.length then lossI W m (l.getD i 0) (l.getD j 0) else 0 := by
  intro i j
  unfold gW lossM
  by_cases hi : i < l.length
  ·have e1 : (l.map fun i => l.map fun j => lossI W m i j).getD i [] = l.map fun j => lossI W m (l.getD i 0) j := by
    rw [List.getD_eq_getElem?_getD, List.getElem?_map, List.getElem?_eq_getElem hi, List.getD_eq_getElem?_getD, List.getElem?_eq_getElem hi]
    rfl
   rw [e1]
   by_cases hj : j < l.length
   ·rw [if_pos ⟨hi, hj⟩, List.getD_eq_getElem?_getD, List.getElem?_map, List.getElem?_eq_getElem hj, List.getD_eq_getElem?_getD (i := j), List.getElem?_eq_getElem hj]
    rfl
   ·rw [if_neg (fun z => hj z.2), List.getD_eq_getElem?_getD, List.getElem?_eq_none (by rw [List.length_map]; omega)]
    rfl
  ·rw [if_neg (fun z => hi z.1)]
   rw [show (l.map fun i => l.map fun j => lossI W m i j).getD i [] = [] by rw [List.getD_eq_getElem?_getD, List.getElem?_eq_none (by rw [List.length_map]; omega)]; rfl]
   rfl
 rw [key, key]
 by_cases hh : i < l.length ∧ j < l.length
 ·rw [if_pos hh, if_pos ⟨hh.2, hh.1⟩]
  unfold lossI bothI
  omega
 ·rw [if_neg hh, if_neg (fun z => hh ⟨z.2, z.1⟩)]
theorem tail_filter (l : List Nat) (hn : l.Nodup) : (l.filter fun i => i != l.headD 0) = l.tail := by
 cases l with
 | nil => rfl
 | cons a l =>
  have hna := (List.nodup_cons.mp hn).1
  rw [List.filter_cons]
  show (if (a != a) = true then _ else _) = l
  rw [if_neg (by simp)]
  apply List.filter_eq_self.mpr
  intro x hx
  have : x ≠ a := fun e => hna (e ▸ hx)
  simpa using this
theorem form_eq {s W} (h : StOk s W) {p : List Int} {q : List Rat} {t : Rat} (ht : 0 < t) (hp : p.length = s.n) (hq : ∀ j, q.getD j 0 = ((p.getD j 0 : Int) : Rat) / t) (h0 : ∀ x ∈ p, 0 ≤ x) (hin : 0 < (insideM p).length) :
  formRows s q = cR (lossM W ((insideM p).getD 0 0) ((insideM p).tail ++ outsideM W p)) := by
 have hnd : (insideM p).Nodup := List.nodup_range.filter _
 have hhd : (insideM p).headD 0 = (insideM p).getD 0 0 := by
  cases e : insideM p with
  | nil => rfl
  | cons a l => rfl
 have eo : ((bestP W p).filter fun i => !(insideM p).contains i) = outsideM W p := by
  unfold outsideM
  apply List.filter_congr
  intro i hi
  have hil : i < p.length := by rw [hp, h.n]; exact best_lt i hi
  rw [Bool.eq_iff_iff, Bool.not_eq_true', decide_eq_true_iff]
  have h1 := h0 _ (getD_mem 0 hil)
  constructor
  ·intro z
   apply Classical.byContradiction
   intro y
   have : i ∈ insideM p := List.mem_filter.mpr ⟨List.mem_range.mpr hil, decide_eq_true (by omega)⟩
   rw [List.contains_iff_mem.mpr this] at z
   cases z
  ·intro z
   cases e : (insideM p).contains i with
   | false => rfl
   | true =>
    have := of_decide_eq_true (List.mem_filter.mp (List.contains_iff_mem.mp e)).2
    omega
 unfold formRows
 dsimp only
 rw [inside_eq ht hp hq, replies_eq h ht hp hq, tail_filter _ hnd, eo, hhd]
 have ho := (others_ok (W := W) (p := p) (by rw [hp, h.n])).1
 have hm : (insideM p).getD 0 0 < s.n := by rw [← hp]; exact inside_lt _ (getD_mem 0 hin)
 generalize (insideM p).tail ++ outsideM W p = l at ho
 generalize (insideM p).getD 0 0 = m at hm
 unfold cR lossM
 rw [List.map_map]
 apply List.map_congr_left
 intro i hi
 have hi' : i < s.n := by rw [h.n]; exact ho i hi
 simp only [Function.comp, ratRow, List.map_map]
 apply List.map_congr_left
 intro j hj
 have hj' : j < s.n := by rw [h.n]; exact ho j hj
 simp only [Function.comp]
 congr 1
 unfold formI lossI bothI gW
 rw [h.win hm hj', h.win hi' hm, h.win hi' hj', h.win hm hm, h.win hm hi', h.win hj' hm, h.win hj' hi']
 omega
theorem stable_eq {s W} (h : StOk s W) (z : Sized W) {p : List Int} {q : List Rat} {t : Rat} (ht : 0 < t) (hp : p.length = s.n) (hq : ∀ j, q.getD j 0 = ((p.getD j 0 : Int) : Rat) / t) (h0 : ∀ x ∈ p, 0 ≤ x) (hin : 0 < (insideM p).length) : stableR s q = stableP W p := by
 unfold stableR stableP
 rw [rest_eq h ht hp hq, form_eq h ht hp hq h0 hin, inside_eq ht hp hq]
 have ho := (others_ok (W := W) (p := p) (by rw [hp, h.n])).2
 have h4 := h.four
 rw [h.n] at h4
 have hlen : ((insideM p).tail ++ outsideM W p).length ≤ 3 := by omega
 have hk : (insideM p).length - 1 ≤ ((insideM p).tail ++ outsideM W p).length := by rw [List.length_append, List.length_tail]; omega
 have e := red_yes (Frm.loss (sqr_of h z).few ((insideM p).getD 0 0) ((insideM p).tail ++ outsideM W p)) (loss_sym _ _ _) hlen _ hk
 rw [e]
 cases restP W (insideM p) p with
 | false => rfl
 | true =>
  rw [if_neg (by decide), Bool.true_and]
  rfl
theorem due_stable {s W} (h : StOk s W) (z : Sized W) (p : List Int) : due s (.stable p) = (s, stableA W p) := by
 unfold due stableA
 show (if mixtureIn s p = false then _ else _) = _
 rw [← weights_in h]
 by_cases hh : areWeights W.length p = true
 ·rw [hh, if_neg (by decide), if_pos rfl]
  obtain ⟨p1, p2, p3⟩ := weights_of hh
  show (s, [if Vbecam.stable s (mixture p) = true then 1 else 0]) = _
  rw [mixture_F, stable_F, stable_eq h z (cast_pos p3) (by rw [p1, h.n]) (sharesR_get p) (fun x hx => (p2 x hx).1) (inside_pos (fun x hx => (p2 x hx).1) p3)]
 ·have hh' : areWeights W.length p = false := by simpa using hh
  rw [hh', if_pos rfl, if_neg (by decide)]
theorem due_stables {s W} (h : StOk s W) (z : Sized W) : due s .stables = (s, ((stablesM W).length : Int) :: nI (stablesM W)) := by
 show (s, counted ((masks s).filter fun k => match equilibrium s (membersOf s k) with | none => false | some p => Vbecam.stable s p)) = _
 have e : ((masks s).filter fun k => match equilibrium s (membersOf s k) with | none => false | some p => Vbecam.stable s p) = stablesM W := by
  unfold stablesM
  rw [resting_list h, fm_keys, masks_eq]
  apply List.filter_congr
  intro k hk
  have hkr := List.mem_range'_1.mp hk
  have hS := mask_set h hk
  rw [members_all s h.four k (by omega), equilibrium_F]
  generalize (allSets s.n).getD k [] = S at hS
  unfold restOf
  rcases level_lev h hS with ⟨e1, e2⟩ | ⟨sol, v, den, e1, L⟩
  ·rw [e1]
   unfold equilibriumR
   rw [e2]
   rfl
  ·rw [e1, lev_eq h hS L]
   dsimp only
   by_cases hr : restP W S (weightsM s.n S sol) = true
   ·rw [if_pos hr, if_pos hr]
    simp only [Option.map_some]
    rw [stable_F]
    have hall := List.all_eq_true.mp hr
    have hpos : ∀ i ∈ S, 0 < (weightsM s.n S sol).getD i 0 := fun i hi => by
     have := hall i hi
     rw [Bool.and_eq_true] at this
     exact of_decide_eq_true this.1
    refine stable_eq h z (cast_pos L.pos) (weightsM_len s.n S sol) (L.share hS) (fun x hx => ?_) ?_
    ·obtain ⟨i, hi⟩ := List.mem_iff_getElem?.mp hx
     have hg : (weightsM s.n S sol).getD i 0 = x := by rw [List.getD_eq_getElem?_getD, hi]; rfl
     by_cases hiS : i ∈ S
     ·have := hpos i hiS
      omega
     ·have := L.wout hS hiS
      omega
    ·have hm := getD_mem (0 : Nat) hS.ne
     apply List.length_pos_of_mem (a := S.getD 0 0)
     exact List.mem_filter.mpr ⟨List.mem_range.mpr (by rw [weightsM_len]; exact hS.lt _ hm), decide_eq_true (hpos _ hm)⟩
   ·rw [if_neg hr, if_neg hr]
    rfl
 rw [e]
 rfl
theorem due_told {s W} (h : StOk s W) : due s .told = (s, (W.length : Int) :: W.flatten) := told_ok h
theorem due_survivors {s : State} : due s .survivors = (s, (act s .survivors).2) := rfl
end Cw
end
section
set_option linter.all false
namespace Cw
open Vbecam
theorem drop_cons {L : List Int} {p : Nat} {z : Int} {r : List Int} (h : L.drop p = z :: r) : L[p]? = some z ∧ r = L.drop (p + 1) ∧ p < L.length := by
 have hp : p < L.length := by
  apply Classical.byContradiction
  intro q
  rw [List.drop_eq_nil_of_le (by omega)] at h
  cases h
 have e := List.drop_eq_getElem_cons hp
 rw [h] at e
 have e1 := List.cons.inj e
 refine ⟨?_, e1.2, hp⟩
 rw [List.getElem?_eq_getElem hp, e1.1]
theorem row_at_of {L : List Int} {p : Nat} {x t : List Int} (h : PyFlat.row (L.drop p) = some (x, t)) : ∃ p2, RowAt L p x p2 ∧ L.drop p2 = t ∧ p < p2 := by
 cases e : L.drop p with
 | nil => rw [e] at h; cases h
 | cons n r =>
  obtain ⟨h1, h2, h3⟩ := drop_cons e
  rw [e] at h
  dsimp only [PyFlat.row] at h
  split at h
  ·rename_i hc
   have := Option.some.inj h
   have ex : r.take n.toNat = x := congrArg Prod.fst this
   have et : r.drop n.toNat = t := congrArg Prod.snd this
   have hl : x.length = n.toNat := by rw [← ex, List.length_take]; omega
   have hrl : r.length = L.length - (p + 1) := by rw [h2, List.length_drop]
   refine ⟨p + 1 + x.length, ⟨?_, ?_, by omega, rfl⟩, ?_, by omega⟩
   ·rw [h1, hl]
    congr 1
    omega
   ·rw [hl, ← h2]
    exact ex.symm
   ·rw [hl, ← et, h2, List.drop_drop]
  ·cases h
theorem rows1 {r t : List Int} {xs : List (List Int)} (h : PyFlat.rows 1 r = some (xs, t)) : ∃ x, xs = [x] ∧ PyFlat.row r = some (x, t) := by
 rw [show PyFlat.rows 1 r = (match PyFlat.row r with | none => none | some (x, s) => some ([x], s)) from rfl] at h
 cases e : PyFlat.row r with
 | none => rw [e] at h; cases h
 | some q =>
  obtain ⟨x, s⟩ := q
  rw [e] at h
  have := Option.some.inj h
  cases this
  exact ⟨x, rfl, rfl⟩
theorem rows2 {r t : List Int} {xs : List (List Int)} (h : PyFlat.rows 2 r = some (xs, t)) : ∃ x y s, xs = [x, y] ∧ PyFlat.row r = some (x, s) ∧ PyFlat.row s = some (y, t) := by
 rw [show PyFlat.rows 2 r = (match PyFlat.row r with | none => none | some (x, s) => match PyFlat.rows 1 s with | none => none | some (xs, t) => some (x :: xs, t)) from rfl] at h
 cases e : PyFlat.row r with
 | none => rw [e] at h; cases h
 | some q =>
  obtain ⟨x, s⟩ := q
  rw [e] at h
  dsimp only at h
  cases e2 : PyFlat.rows 1 s with
  | none => rw [e2] at h; cases h
  | some q2 =>
   obtain ⟨ys, u⟩ := q2
   rw [e2] at h
   have := Option.some.inj h
   cases this
   obtain ⟨y, rfl, h2⟩ := rows1 e2
   exact ⟨x, y, s, rfl, rfl, h2⟩
theorem level_len {W : List (List Int)} {S : List Nat} {ws : List Int} (h : levelW W S = some ws) : ws.length = W.length := by
 unfold levelW at h
 obtain ⟨sol, _, rfl⟩ := Option.map_eq_some_iff.mp h
 exact weightsM_len _ _ _
theorem fr_len (a b : Int) : (frI a b).length = 2 := rfl
theorem best_len (W : List (List Int)) (q : List Int) : (bestP W q).length ≤ W.length := by
 unfold bestP bestM
 refine Nat.le_trans (List.length_filter_le _ _) ?_
 rw [List.length_range]
 exact Nat.le_refl _
theorem kept_len (s : State) (n : Nat) : ∀ l, (kept s n l).length ≤ l.length := by
 induction n with
 | zero => intro l; exact Nat.le_refl _
 | succ n ih => intro l; exact Nat.le_trans (ih _) (List.length_filter_le _ _)
theorem grow_len {s W} (h : StOk s W) (t : Nat) : ∀ ws v, ws.length = W.length → growGo W t ws = some v → v.length = W.length := by
 induction t with
 | zero => intro ws v hw e; cases e; exact hw
 | succ t ih =>
  intro ws v hw e
  unfold growGo at e
  split at e
  ·cases e
  ·refine ih _ _ ?_ e
   unfold growStep
   rw [List.length_zipWith, wonM_len h, h.n, hw, Nat.min_self]
theorem asks_len {W s L p c ans p2} (h : StOk s W) (a : Asks W s L p c ans p2) : ans.length ≤ 60 := by
 have h4 : W.length ≤ 4 := by rw [← h.n]; exact h.four
 have hpw := pow4 h4
 cases a with
 | told =>
  have := flat_len W (fun r hr => by rw [h.row r hr]; exact h.four)
  rw [List.length_cons]
  omega
 | @value x y p1 p2 _ _ =>
  unfold valueM
  split
  ·rw [List.length_cons, fr_len]; decide
  ·decide
 | @replies x p1 _ =>
  unfold repliesP
  split
  ·have := best_len W x
   rw [List.length_cons, List.length_append, fr_len, List.length_cons, List.length_map]
   omega
  ·decide
 | survivors =>
  show (counted (Vbecam.survivors s)).length ≤ 60
  have := kept_len s s.n s.all
  have hn := h.four
  unfold counted «ints» Vbecam.survivors
  unfold State.all at this
  rw [List.length_range] at this
  rw [List.length_cons, List.length_map]
  unfold State.all
  omega
 | @support x p1 _ =>
  unfold supportP
  split
  ·split
   ·decide
   ·rename_i ws hws
    have := level_len hws
    split
    ·rw [List.length_cons, List.length_append, mixI_len, fr_len]
     omega
    ·decide
  ·decide
 | equilibria =>
  have h1 := len_resting h4
  have h2 : (singM W).length ≤ 16 := by
   unfold singM
   refine Nat.le_trans (List.length_filter_le _ _) ?_
   rw [List.length_range']
   omega
  unfold equilibriaP
  rw [List.length_cons, List.length_append, List.length_cons, List.length_map, List.length_map, List.length_map]
  omega
 | stable _ =>
  unfold stableA
  split
  ·simp
  ·decide
 | stables =>
  have h1 := len_resting h4
  have h2 : (stablesM W).length ≤ 16 := by
   unfold stablesM
   rw [List.length_map]
   exact Nat.le_trans (List.length_filter_le _ _) h1
  rw [List.length_cons, List.length_map]
  omega
 | @bears x y p1 p2 _ _ =>
  unfold bearsA bearsM
  dsimp only
  split
  ·split
   ·decide
   ·split
    ·decide
    ·split
     ·decide
     ·rw [fr_len]; decide
  ·decide
 | @grow t x p1 _ _ =>
  unfold growA
  split
  ·rename_i hc
   rw [Bool.and_eq_true] at hc
   split
   ·decide
   ·split
    ·decide
    ·rename_i ws hws
     have := grow_len h _ _ _ (weights_of hc.2).1 hws
     rw [List.length_cons, mixI_len]
     omega
  ·decide
theorem nexts_len {W s L p W' ans p2} (h : StOk s W) (a : Nexts W s L p W' ans p2) : ans.length ≤ 60 := by
 cases a with
 | contest _ _ _ => unfold conA; split <;> decide
 | shift _ _ => unfold shiftA grownAns; split <;> (try split) <;> decide
 | scale _ _ => unfold scaleA grownAns; split <;> (try split) <;> decide
 | sub _ _ => unfold subA; split <;> simp
 | ask _ _ _ ha => exact asks_len h ha
def Next (s : State) (W : List (List Int)) (L : List Int) (p : Nat) (c : List (List Int)) (t : List Int) : Prop :=
 ∃ s' W' ans p2, Nexts W s L p W' ans p2 ∧ VbecamNeutral.step s (PyVbecam.whole c) = (s', ans) ∧ StOk s' W' ∧ Sized W' ∧ L.drop p2 = t ∧ p < p2
theorem next_ask {s W L p c t} (h : StOk s W) (z : Sized W) {k : Nat} {ans : List Int} {p2 : Nat} (h1 : 1 ≤ k) (h2 : k ≤ 10) (e : L[p]? = some (k : Int)) (a : Asks W s L (p + 1) k ans p2) (hs : VbecamNeutral.step s (PyVbecam.whole c) = (s, ans)) (hd : L.drop p2 = t) (hp : p < p2) : Next s W L p c t :=
 ⟨s, W, ans, p2, .ask h1 h2 e a, hs, h, z, hd, hp⟩
theorem call_next {s W} (h : StOk s W) (z : Sized W) {L : List Int} {p : Nat} {c : List (List Int)} {t : List Int} (hc : PyFlat.call PyVbecam.shape (L.drop p) = some (c, t)) : Next s W L p c t := by
 cases e : L.drop p with
 | nil => rw [e] at hc; cases hc
 | cons x r =>
  obtain ⟨h1, h2, h3⟩ := drop_cons e
  rw [e] at hc
  dsimp only [PyFlat.call] at hc
  have go00 : PyVbecam.shape x = some (0, 0) → c = [[x]] ∧ L.drop (p + 1) = t := by
   intro hs
   rw [hs] at hc
   have := Option.some.inj hc
   cases this
   exact ⟨rfl, h2.symm⟩
  have go01 : PyVbecam.shape x = some (0, 1) → ∃ y p2, c = [[x], y] ∧ RowAt L (p + 1) y p2 ∧ L.drop p2 = t ∧ p + 1 < p2 := by
   intro hs
   rw [hs] at hc
   dsimp only at hc
   rw [if_neg (by omega)] at hc
   cases e2 : PyFlat.rows 1 (r.drop 0) with
   | none => rw [e2] at hc; cases hc
   | some q =>
    obtain ⟨xs, u⟩ := q
    rw [e2] at hc
    have := Option.some.inj hc
    cases this
    obtain ⟨y, rfl, hr⟩ := rows1 e2
    rw [List.drop_zero, h2] at hr
    obtain ⟨p2, ra, hd, hp⟩ := row_at_of hr
    exact ⟨y, p2, rfl, ra, hd, hp⟩
  have go02 : PyVbecam.shape x = some (0, 2) → ∃ y w p1 p2, c = [[x], y, w] ∧ RowAt L (p + 1) y p1 ∧ RowAt L p1 w p2 ∧ L.drop p2 = t ∧ p + 1 < p2 := by
   intro hs
   rw [hs] at hc
   dsimp only at hc
   rw [if_neg (by omega)] at hc
   cases e2 : PyFlat.rows 2 (r.drop 0) with
   | none => rw [e2] at hc; cases hc
   | some q =>
    obtain ⟨xs, u⟩ := q
    rw [e2] at hc
    have := Option.some.inj hc
    cases this
    obtain ⟨y, w, s1, rfl, hr, hr2⟩ := rows2 e2
    rw [List.drop_zero, h2] at hr
    obtain ⟨p1, ra, hd, hp⟩ := row_at_of hr
    rw [← hd] at hr2
    obtain ⟨p2, ra2, hd2, hp2⟩ := row_at_of hr2
    exact ⟨y, w, p1, p2, rfl, ra, ra2, hd2, by omega⟩
  have one : ¬ r.length < 1 → ∃ y, r.take 1 = [y] ∧ L[p + 1]? = some y ∧ r.drop 1 = L.drop (p + 2) := by
   intro hr
   cases r with
   | nil => simp at hr
   | cons y r' =>
    obtain ⟨k1, k2, _⟩ := drop_cons h2.symm
    exact ⟨y, rfl, k1, k2⟩
  have go11 : PyVbecam.shape x = some (1, 1) → ∃ n y p2, c = [[x, n], y] ∧ L[p + 1]? = some n ∧ RowAt L (p + 2) y p2 ∧ L.drop p2 = t ∧ p + 2 < p2 := by
   intro hs
   rw [hs] at hc
   dsimp only at hc
   split at hc
   ·cases hc
   ·rename_i hrl
    obtain ⟨n, k1, k2, k3⟩ := one hrl
    rw [k1, k3] at hc
    cases e2 : PyFlat.rows 1 (L.drop (p + 2)) with
    | none => rw [e2] at hc; cases hc
    | some q =>
     obtain ⟨xs, u⟩ := q
     rw [e2] at hc
     have := Option.some.inj hc
     cases this
     obtain ⟨y, rfl, hr⟩ := rows1 e2
     obtain ⟨p2, ra, hd, hp⟩ := row_at_of hr
     exact ⟨n, y, p2, rfl, k2, ra, hd, hp⟩
  have go10 : PyVbecam.shape x = some (1, 0) → ∃ n, c = [[x, n]] ∧ L[p + 1]? = some n ∧ L.drop (p + 2) = t := by
   intro hs
   rw [hs] at hc
   dsimp only at hc
   split at hc
   ·cases hc
   ·rename_i hrl
    obtain ⟨n, k1, k2, k3⟩ := one hrl
    rw [k1, k3] at hc
    have := Option.some.inj hc
    cases this
    exact ⟨n, rfl, k2, rfl⟩
  by_cases c0 : x = 0
  ·subst c0
   obtain ⟨n, y, p2, rfl, k1, ra, hd, hp⟩ := go11 rfl
   obtain ⟨s', d1, d2, d3⟩ := due_contest h z n y
   exact ⟨s', _, _, p2, .contest h1 k1 ra, d1, d2, d3, hd, by omega⟩
  by_cases c1 : x = 1
  ·subst c1
   obtain ⟨rfl, hd⟩ := go00 rfl
   exact next_ask h z (k := 1) (by decide) (by decide) h1 .told (due_told h) hd (by omega)
  by_cases c2 : x = 2
  ·subst c2
   obtain ⟨y, w, p1, p2, rfl, ra, rb, hd, hp⟩ := go02 rfl
   exact next_ask h z (k := 2) (by decide) (by decide) h1 (.value ra rb) (due_value h y w) hd (by omega)
  by_cases c3 : x = 3
  ·subst c3
   obtain ⟨y, p2, rfl, ra, hd, hp⟩ := go01 rfl
   exact next_ask h z (k := 3) (by decide) (by decide) h1 (.replies ra) (due_replies h y) hd (by omega)
  by_cases c4 : x = 4
  ·subst c4
   obtain ⟨rfl, hd⟩ := go00 rfl
   exact next_ask h z (k := 4) (by decide) (by decide) h1 .survivors due_survivors hd (by omega)
  by_cases c5 : x = 5
  ·subst c5
   obtain ⟨y, p2, rfl, ra, hd, hp⟩ := go01 rfl
   exact next_ask h z (k := 5) (by decide) (by decide) h1 (.support ra) (due_support h y) hd (by omega)
  by_cases c6 : x = 6
  ·subst c6
   obtain ⟨rfl, hd⟩ := go00 rfl
   exact next_ask h z (k := 6) (by decide) (by decide) h1 .equilibria (due_equilibria h) hd (by omega)
  by_cases c7 : x = 7
  ·subst c7
   obtain ⟨y, p2, rfl, ra, hd, hp⟩ := go01 rfl
   exact next_ask h z (k := 7) (by decide) (by decide) h1 (.stable ra) (due_stable h z y) hd (by omega)
  by_cases c8 : x = 8
  ·subst c8
   obtain ⟨rfl, hd⟩ := go00 rfl
   exact next_ask h z (k := 8) (by decide) (by decide) h1 .stables (due_stables h z) hd (by omega)
  by_cases c9 : x = 9
  ·subst c9
   obtain ⟨y, w, p1, p2, rfl, ra, rb, hd, hp⟩ := go02 rfl
   exact next_ask h z (k := 9) (by decide) (by decide) h1 (.bears ra rb) (due_bears h y w) hd (by omega)
  by_cases c10 : x = 10
  ·subst c10
   obtain ⟨n, y, p2, rfl, k1, ra, hd, hp⟩ := go11 rfl
   exact next_ask h z (k := 10) (by decide) (by decide) h1 (.grow k1 ra) (due_grow h n y) hd (by omega)
  by_cases c11 : x = 11
  ·subst c11
   obtain ⟨y, p2, rfl, ra, hd, hp⟩ := go01 rfl
   obtain ⟨s', d1, d2, d3⟩ := due_shift h z y
   exact ⟨s', _, _, p2, .shift h1 ra, d1, d2, d3, hd, by omega⟩
  by_cases c12 : x = 12
  ·subst c12
   obtain ⟨n, rfl, k1, hd⟩ := go10 rfl
   obtain ⟨s', d1, d2, d3⟩ := due_scale h z n
   exact ⟨s', _, _, p + 2, .scale h1 k1, d1, d2, d3, hd, by omega⟩
  by_cases c13 : x = 13
  ·subst c13
   obtain ⟨y, p2, rfl, ra, hd, hp⟩ := go01 rfl
   obtain ⟨s', d1, d2, d3⟩ := due_sub h z y
   exact ⟨s', _, _, p2, .sub h1 ra, d1, d2, d3, hd, by omega⟩
  ·have hn : PyVbecam.shape x = none := by
    unfold PyVbecam.shape
    rw [if_neg c0, if_neg c1, if_neg c2, if_neg c3, if_neg c4, if_neg c5, if_neg c6, if_neg c7, if_neg c8, if_neg c9, if_neg c10, if_neg c11, if_neg c12, if_neg c13]
   rw [hn] at hc
   cases hc
theorem runs_go (L : List Int) (f : Nat) : ∀ (p : Nat) (s : State) (W : List (List Int)) (cs : List (List (List Int))), StOk s W → Sized W → PyFlat.calls PyVbecam.shape f (L.drop p) = some cs →
  Runs L W p (PyFlat.told (PyFlat.played VbecamNeutral.step s (cs.map PyVbecam.whole))) cs.length := by
 induction f with
 | zero =>
  intro p s W cs h z hc
  cases e : L.drop p with
  | nil =>
   rw [e] at hc
   have := Option.some.inj hc
   subst this
   refine .done ?_
   have := congrArg List.length e
   rw [List.length_drop] at this
   simp at this
   omega
  | cons x r => rw [e] at hc; cases hc
 | succ f ih =>
  intro p s W cs h z hc
  cases e : L.drop p with
  | nil =>
   rw [e] at hc
   have := Option.some.inj hc
   subst this
   refine .done ?_
   have := congrArg List.length e
   rw [List.length_drop] at this
   simp at this
   omega
  | cons x r =>
   obtain ⟨_, _, hpl⟩ := drop_cons e
   rw [e] at hc
   dsimp only [PyFlat.calls] at hc
   rw [← e] at hc
   cases e2 : PyFlat.call PyVbecam.shape (L.drop p) with
   | none => rw [e2] at hc; cases hc
   | some q =>
    obtain ⟨c, t⟩ := q
    rw [e2] at hc
    dsimp only at hc
    obtain ⟨s', W', ans, p2, hn, hs, h', z', hd, hp⟩ := call_next h z e2
    cases e3 : PyFlat.calls PyVbecam.shape f t with
    | none => rw [e3] at hc; cases hc
    | some ds =>
     rw [e3] at hc
     have := Option.some.inj hc
     subst this
     have hr := ih p2 s' W' ds h' z' (by rw [hd]; exact e3)
     have := Runs.step h (sqr_of h z) hpl hn hp (nexts_len h hn) hr
     rw [List.map_cons, List.length_cons]
     unfold PyFlat.played
     rw [hs]
     exact this
theorem runs_of (L : List Int) (h : PyVbecam.answers_asked L = true) : ∃ n, n ≤ 400 ∧ Runs L [[0]] 0 (PyVbecam.answers L) n := by
 unfold PyVbecam.answers_asked PyVbecam.calls at h
 unfold PyVbecam.answers PyVbecam.calls
 cases e : PyFlat.calls PyVbecam.shape L.length L with
 | none => rw [e] at h; cases h
 | some cs =>
  rw [e] at h
  dsimp only at h ⊢
  rw [Bool.and_eq_true] at h
  have h1 : cs.length ≤ 400 := by
   have := of_decide_eq_true h.1
   rwa [List.length_map] at this
  have ok : StOk VbecamNeutral.start [[0]] := ⟨rfl, by intro r hr; simp at hr; subst hr; rfl, rfl, Nat.le_refl _, by show 1 ≤ 4; decide⟩
  have z : Sized [[0]] := by
   intro r hr x hx
   simp at hr
   subst hr
   simp at hx
   subst hx
   decide
  exact ⟨cs.length, h1, runs_go L L.length 0 _ _ cs ok z e⟩
end Cw
end
section
set_option Elab.async false
set_option linter.all false
set_option maxRecDepth 100000
set_option maxHeartbeats 2000000
namespace Cw
open PySem PySem.Spec PyProof.Rows L2
def DefIn (K : PySem.W.Frag) (x : Str) (st : Stmt) : Prop := ∃ (f : Addr) (oc : Value) (od : Option Addr) (osl : Array (Option Value)) (kV doc pm : Value) (an : Option Addr) (cdv ct : Value),
  PySem.W.nsIn K mainGlobals x = some (some (.ref f)) ∧ K.lookup f = some ⟨oc, od, .func (PySem.W.fnOf x x (defArgs st) (defBody st) (defScope st) .none kV doc pm an cdv ct), osl⟩ ∧ PySem.W.codeIn K cdv x = true ∧ PySem.W.keepIn K (.ref f) = true
def MethIn (K : PySem.W.Frag) (C : Addr) (m qual : Str) (st : Stmt) : Prop := ∃ (f : Addr) (oc : Value) (od : Option Addr) (osl : Array (Option Value)) (kV doc pm : Value) (an : Option Addr) (cdv ct : Value),
  PySem.W.findIn K (.ref C) m = some (some (.ref f)) ∧ PySem.W.isFn K (.ref f) = true ∧ K.lookup f = some ⟨oc, od, .func (PySem.W.fnOf m qual (defArgs st) (defBody st) (defScope st) .none kV doc pm an cdv ct), osl⟩ ∧ PySem.W.codeIn K cdv qual = true ∧ PySem.W.keepIn K (.ref f) = true
structure ClsIn (K : PySem.W.Frag) (x : Str) (C : Addr) : Prop where
  at_ : PySem.W.nsIn K mainGlobals x = some (some (.ref C))
  pg : PySem.W.plainGet K C Str.empty = true
  hd : PySem.W.hasDictIn K C = true
  po : PySem.W.plainOver K C = true
  sa : PySem.W.findIn K (.ref C) "__setattr__" = some (some (.builtin "object.__setattr__"))
  mks : PySem.W.makesIn K C = true
  kc : PySem.W.keepIn K (.ref C) = true
section
variable {P : Program} {w : World} {K : PySem.W.Frag} {h : Heap} {mg : Str → Option Value} {base : Heap}
theorem dn_of {x : Str} {st : Stmt} {ps : List Str} (X : K.In h) (G : h.Ns mainGlobals mg) (D : DefIn K x st)
    (hb : ∀ (kV doc pm : Value) (an : Option Addr) (cdv ct : Value) (us : List Value), us.length = ps.length → bindArgs (PySem.W.fnOf x x (defArgs st) (defBody st) (defScope st) .none kV doc pm an cdv ct) ⟨us, []⟩ = pure (ps.zip us)) : Dn K mg x st ps := by
  obtain ⟨f, oc, od, osl, kV, doc, pm, an, cdv, ct, a, l, c, k⟩ := D
  have F := fun_mk (st := st) l c k
  exact ⟨f, _, F, PySem.W.mg_of X G a, F.binds hb⟩
theorem meth_of {C : Addr} {m qual : Str} {st : Stmt} {ps : List Str} {k : Nat} {sp : Sp} (D : MethIn K C m qual st) (hc : Cls K C)
    (hb : ∀ (kV doc pm : Value) (an : Option Addr) (cdv ct : Value) (us : List Value), us.length = ps.length → bindArgs (PySem.W.fnOf m qual (defArgs st) (defBody st) (defScope st) .none kV doc pm an cdv ct) ⟨us, []⟩ = pure (ps.zip us))
    (ok : ∀ f fd, Fun K m qual st f fd → FnOk P w K mg base CX0 k f fd ps sp) : MthC P w K mg base C m k ps sp := by
  obtain ⟨f, oc, od, osl, kV, doc, pm, an, cdv, ct, a, i, l, c, kp⟩ := D
  have F := fun_mk (st := st) l c kp
  exact ⟨f, _, ok f _ F, ⟨a, i, kp⟩, F.binds hb, hc⟩
theorem new_of {x : Str} {C : Addr} {qual : Str} {st : Stmt} {ps : List Str} {k : Nat} {sp : Sp} (X : K.In h) (G : h.Ns mainGlobals mg) (CI : ClsIn K x C) (D : MethIn K C "__init__" qual st)
    (hb : ∀ (kV doc pm : Value) (an : Option Addr) (cdv ct : Value) (us : List Value), us.length = ps.length → bindArgs (PySem.W.fnOf "__init__" qual (defArgs st) (defBody st) (defScope st) .none kV doc pm an cdv ct) ⟨us, []⟩ = pure (ps.zip us))
    (ok : ∀ f fd, Fun K "__init__" qual st f fd → FnOk P w K mg base CX0 k f fd ps sp) : NewO P w K mg base x C k ps sp := by
  obtain ⟨f, oc, od, osl, kV, doc, pm, an, cdv, ct, a, i, l, c, kp⟩ := D
  have F := fun_mk (st := st) l c kp
  exact ⟨f, _, ⟨CI.mks, a, i, CI.kc⟩, ok f _ F, PySem.W.mg_of X G CI.at_, F.binds hb⟩
theorem def_mk {x : Str} {st : Stmt} {f : Addr} {oc : Value} {od : Option Addr} {osl : Array (Option Value)} {kV doc pm : Value} {an : Option Addr} {cdv ct : Value} (a : PySem.W.nsIn K mainGlobals x = some (some (.ref f)))
    (l : K.lookup f = some ⟨oc, od, .func (PySem.W.fnOf x x (defArgs st) (defBody st) (defScope st) .none kV doc pm an cdv ct), osl⟩) (c : PySem.W.codeIn K cdv x = true) (k : PySem.W.keepIn K (.ref f) = true) : DefIn K x st := ⟨f, oc, od, osl, kV, doc, pm, an, cdv, ct, a, l, c, k⟩
theorem meth_mk {C : Addr} {m qual : Str} {st : Stmt} {f : Addr} {oc : Value} {od : Option Addr} {osl : Array (Option Value)} {kV doc pm : Value} {an : Option Addr} {cdv ct : Value} (a : PySem.W.findIn K (.ref C) m = some (some (.ref f))) (i : PySem.W.isFn K (.ref f) = true)
    (l : K.lookup f = some ⟨oc, od, .func (PySem.W.fnOf m qual (defArgs st) (defBody st) (defScope st) .none kV doc pm an cdv ct), osl⟩) (c : PySem.W.codeIn K cdv qual = true) (k : PySem.W.keepIn K (.ref f) = true) : MethIn K C m qual st := ⟨f, oc, od, osl, kV, doc, pm, an, cdv, ct, a, i, l, c, k⟩
theorem const_mk {x : Str} {n : Int} {v : Value} (e : PySem.W.nsIn K mainGlobals x = some (some v)) (r : ∃ t, v = .int n t) : ∃ v, PySem.W.nsIn K mainGlobals x = some (some v) ∧ ∃ t, v = .int n t := ⟨v, e, r⟩
theorem const_of {x : Str} {n : Int} (X : K.In h) (G : h.Ns mainGlobals mg) (A : ∃ v, PySem.W.nsIn K mainGlobals x = some (some v) ∧ ∃ t, v = .int n t) : ∃ t, mg x = some (.int n t) := by
  obtain ⟨v, e, t, rfl⟩ := A
  exact ⟨t, PySem.W.mg_of X G e⟩
theorem len1 {us : List Value} (e : us.length = 1) : ∃ a, us = [a] := by
  cases us with
  | nil => cases e
  | cons a r => exact ⟨a, by rw [List.eq_nil_of_length_eq_zero (Nat.succ.inj e)]⟩
theorem len2 {us : List Value} (e : us.length = 2) : ∃ a b, us = [a, b] := by
  cases us with
  | nil => cases e
  | cons a r => obtain ⟨b, rfl⟩ := len1 (Nat.succ.inj e); exact ⟨a, b, rfl⟩
theorem len3 {us : List Value} (e : us.length = 3) : ∃ a b c, us = [a, b, c] := by
  cases us with
  | nil => cases e
  | cons a r => obtain ⟨b, c, rfl⟩ := len2 (Nat.succ.inj e); exact ⟨a, b, c, rfl⟩
theorem len4 {us : List Value} (e : us.length = 4) : ∃ a b c d, us = [a, b, c, d] := by
  cases us with
  | nil => cases e
  | cons a r => obtain ⟨b, c, d, rfl⟩ := len3 (Nat.succ.inj e); exact ⟨a, b, c, d, rfl⟩
structure Top (K : PySem.W.Frag) (C R : Addr) : Prop where
  b_abs : PySem.W.nsIn K mainGlobals "abs" = some none
  b_all : PySem.W.nsIn K mainGlobals "all" = some none
  b_any : PySem.W.nsIn K mainGlobals "any" = some none
  b_enumerate : PySem.W.nsIn K mainGlobals "enumerate" = some none
  b_len : PySem.W.nsIn K mainGlobals "len" = some none
  b_list : PySem.W.nsIn K mainGlobals "list" = some none
  b_max : PySem.W.nsIn K mainGlobals "max" = some none
  b_min : PySem.W.nsIn K mainGlobals "min" = some none
  b_range : PySem.W.nsIn K mainGlobals "range" = some none
  b_sum : PySem.W.nsIn K mainGlobals "sum" = some none
  b_zip : PySem.W.nsIn K mainGlobals "zip" = some none
  k_MOST_STRATEGIES : ∃ v, PySem.W.nsIn K mainGlobals "MOST_STRATEGIES" = some (some v) ∧ ∃ t, v = .int (4) t
  k_MOST_WIN : ∃ v, PySem.W.nsIn K mainGlobals "MOST_WIN" = some (some v) ∧ ∃ t, v = .int (1000) t
  k_MOST_WEIGHT : ∃ v, PySem.W.nsIn K mainGlobals "MOST_WEIGHT" = some (some v) ∧ ∃ t, v = .int (1000) t
  k_MOST_TIMES : ∃ v, PySem.W.nsIn K mainGlobals "MOST_TIMES" = some (some v) ∧ ∃ t, v = .int (5) t
  k_MOST_SHIFT : ∃ v, PySem.W.nsIn K mainGlobals "MOST_SHIFT" = some (some v) ∧ ∃ t, v = .int (1000) t
  k_MOST_FACTOR : ∃ v, PySem.W.nsIn K mainGlobals "MOST_FACTOR" = some (some v) ∧ ∃ t, v = .int (100) t
  k_MOST_GROWN_WIN : ∃ v, PySem.W.nsIn K mainGlobals "MOST_GROWN_WIN" = some (some v) ∧ ∃ t, v = .int (1000000) t
  k_OUT_OF_RANGE : ∃ v, PySem.W.nsIn K mainGlobals "OUT_OF_RANGE" = some (some v) ∧ ∃ t, v = .int (-1) t
  k_SINGULAR : ∃ v, PySem.W.nsIn K mainGlobals "SINGULAR" = some (some v) ∧ ∃ t, v = .int (-5) t
  k_SAME_MIXTURE : ∃ v, PySem.W.nsIn K mainGlobals "SAME_MIXTURE" = some (some v) ∧ ∃ t, v = .int (-6) t
  k_WIN_BELOW_ZERO : ∃ v, PySem.W.nsIn K mainGlobals "WIN_BELOW_ZERO" = some (some v) ∧ ∃ t, v = .int (-7) t
  k_NOTHING_WON : ∃ v, PySem.W.nsIn K mainGlobals "NOTHING_WON" = some (some v) ∧ ∃ t, v = .int (-8) t
  k_WIN_TOO_FAR : ∃ v, PySem.W.nsIn K mainGlobals "WIN_TOO_FAR" = some (some v) ∧ ∃ t, v = .int (-9) t
  d_greatest_divisor : DefIn K "greatest_divisor" s_greatest_divisor
  d_fraction : DefIn K "fraction" s_fraction
  d_mixture : DefIn K "mixture" s_mixture
  d_are_within : DefIn K "are_within" s_are_within
  d_are_weights : DefIn K "are_weights" s_are_weights
  d_are_strategies : DefIn K "are_strategies" s_are_strategies
  d_weighted_sum : DefIn K "weighted_sum" s_weighted_sum
  d_won_against : DefIn K "won_against" s_won_against
  d_best_replies : DefIn K "best_replies" s_best_replies
  d_cleared : DefIn K "cleared" s_cleared
  d_solve : DefIn K "solve" s_solve
  d_level_equations : DefIn K "level_equations" s_level_equations
  d_level_weights : DefIn K "level_weights" s_level_weights
  d_is_at_rest : DefIn K "is_at_rest" s_is_at_rest
  d_all_sets : DefIn K "all_sets" s_all_sets
  d_resting_sets : DefIn K "resting_sets" s_resting_sets
  d_loss_form : DefIn K "loss_form" s_loss_form
  d_is_above_zero : DefIn K "is_above_zero" s_is_above_zero
  d_is_stable : DefIn K "is_stable" s_is_stable
  d_lead : DefIn K "lead" s_lead
  d_beats : DefIn K "beats" s_beats
  d_unbeaten : DefIn K "unbeaten" s_unbeaten
  d_answer_contest : DefIn K "answer_contest" s_answer_contest
  d_answer_told : DefIn K "answer_told" s_answer_told
  d_answer_value : DefIn K "answer_value" s_answer_value
  d_answer_replies : DefIn K "answer_replies" s_answer_replies
  d_answer_survivors : DefIn K "answer_survivors" s_answer_survivors
  d_answer_support : DefIn K "answer_support" s_answer_support
  d_answer_equilibria : DefIn K "answer_equilibria" s_answer_equilibria
  d_answer_stable : DefIn K "answer_stable" s_answer_stable
  d_answer_stables : DefIn K "answer_stables" s_answer_stables
  d_answer_bears : DefIn K "answer_bears" s_answer_bears
  d_answer_grow : DefIn K "answer_grow" s_answer_grow
  d_take_grown : DefIn K "take_grown" s_take_grown
  d_answer_shift : DefIn K "answer_shift" s_answer_shift
  d_answer_scale : DefIn K "answer_scale" s_answer_scale
  d_answer_sub : DefIn K "answer_sub" s_answer_sub
  d_answer_asking : DefIn K "answer_asking" s_answer_asking
  d_answer_next : DefIn K "answer_next" s_answer_next
  d_answers : DefIn K "answers" s_answers
  cC : ClsIn K "Contest" C
  cR : ClsIn K "Reader" R
  nW : PySem.W.findIn K (.ref C) "wins" = some none
  nC : PySem.W.findIn K (.ref R) "calls" = some none
  nA : PySem.W.findIn K (.ref R) "at" = some none
  m_Contest_init : MethIn K C "__init__" "Contest.__init__" s_Contest_init
  m_Reader_init : MethIn K R "__init__" "Reader.__init__" s_Reader_init
  m_Reader_is_done : MethIn K R "is_done" "Reader.is_done" s_Reader_is_done
  m_Reader_take_number : MethIn K R "take_number" "Reader.take_number" s_Reader_take_number
  m_Reader_take_row : MethIn K R "take_row" "Reader.take_row" s_Reader_take_row
theorem txt_of {C R : Addr} (X : K.In h) (G : h.Ns mainGlobals mg) (A : Top K C R) : Txt K mg where
  b_abs := PySem.W.mg_none_of X G A.b_abs
  b_all := PySem.W.mg_none_of X G A.b_all
  b_any := PySem.W.mg_none_of X G A.b_any
  b_enumerate := PySem.W.mg_none_of X G A.b_enumerate
  b_len := PySem.W.mg_none_of X G A.b_len
  b_list := PySem.W.mg_none_of X G A.b_list
  b_max := PySem.W.mg_none_of X G A.b_max
  b_min := PySem.W.mg_none_of X G A.b_min
  b_range := PySem.W.mg_none_of X G A.b_range
  b_sum := PySem.W.mg_none_of X G A.b_sum
  b_zip := PySem.W.mg_none_of X G A.b_zip
  k_MOST_STRATEGIES := const_of X G A.k_MOST_STRATEGIES
  k_MOST_WIN := const_of X G A.k_MOST_WIN
  k_MOST_WEIGHT := const_of X G A.k_MOST_WEIGHT
  k_MOST_TIMES := const_of X G A.k_MOST_TIMES
  k_MOST_SHIFT := const_of X G A.k_MOST_SHIFT
  k_MOST_FACTOR := const_of X G A.k_MOST_FACTOR
  k_MOST_GROWN_WIN := const_of X G A.k_MOST_GROWN_WIN
  k_OUT_OF_RANGE := const_of X G A.k_OUT_OF_RANGE
  k_SINGULAR := const_of X G A.k_SINGULAR
  k_SAME_MIXTURE := const_of X G A.k_SAME_MIXTURE
  k_WIN_BELOW_ZERO := const_of X G A.k_WIN_BELOW_ZERO
  k_NOTHING_WON := const_of X G A.k_NOTHING_WON
  k_WIN_TOO_FAR := const_of X G A.k_WIN_TOO_FAR
  d_greatest_divisor := dn_of X G A.d_greatest_divisor (fun _ _ _ _ _ _ us hl => by obtain ⟨a, b, rfl⟩ := len2 hl; rfl)
  d_fraction := dn_of X G A.d_fraction (fun _ _ _ _ _ _ us hl => by obtain ⟨a, b, rfl⟩ := len2 hl; rfl)
  d_mixture := dn_of X G A.d_mixture (fun _ _ _ _ _ _ us hl => by obtain ⟨a, rfl⟩ := len1 hl; rfl)
  d_are_within := dn_of X G A.d_are_within (fun _ _ _ _ _ _ us hl => by obtain ⟨a, b, c, rfl⟩ := len3 hl; rfl)
  d_are_weights := dn_of X G A.d_are_weights (fun _ _ _ _ _ _ us hl => by obtain ⟨a, b, rfl⟩ := len2 hl; rfl)
  d_are_strategies := dn_of X G A.d_are_strategies (fun _ _ _ _ _ _ us hl => by obtain ⟨a, b, rfl⟩ := len2 hl; rfl)
  d_weighted_sum := dn_of X G A.d_weighted_sum (fun _ _ _ _ _ _ us hl => by obtain ⟨a, b, rfl⟩ := len2 hl; rfl)
  d_won_against := dn_of X G A.d_won_against (fun _ _ _ _ _ _ us hl => by obtain ⟨a, b, rfl⟩ := len2 hl; rfl)
  d_best_replies := dn_of X G A.d_best_replies (fun _ _ _ _ _ _ us hl => by obtain ⟨a, b, rfl⟩ := len2 hl; rfl)
  d_cleared := dn_of X G A.d_cleared (fun _ _ _ _ _ _ us hl => by obtain ⟨a, b, c, d, rfl⟩ := len4 hl; rfl)
  d_solve := dn_of X G A.d_solve (fun _ _ _ _ _ _ us hl => by obtain ⟨a, rfl⟩ := len1 hl; rfl)
  d_level_equations := dn_of X G A.d_level_equations (fun _ _ _ _ _ _ us hl => by obtain ⟨a, b, rfl⟩ := len2 hl; rfl)
  d_level_weights := dn_of X G A.d_level_weights (fun _ _ _ _ _ _ us hl => by obtain ⟨a, b, rfl⟩ := len2 hl; rfl)
  d_is_at_rest := dn_of X G A.d_is_at_rest (fun _ _ _ _ _ _ us hl => by obtain ⟨a, b, c, rfl⟩ := len3 hl; rfl)
  d_all_sets := dn_of X G A.d_all_sets (fun _ _ _ _ _ _ us hl => by obtain ⟨a, rfl⟩ := len1 hl; rfl)
  d_resting_sets := dn_of X G A.d_resting_sets (fun _ _ _ _ _ _ us hl => by obtain ⟨a, rfl⟩ := len1 hl; rfl)
  d_loss_form := dn_of X G A.d_loss_form (fun _ _ _ _ _ _ us hl => by obtain ⟨a, b, c, rfl⟩ := len3 hl; rfl)
  d_is_above_zero := dn_of X G A.d_is_above_zero (fun _ _ _ _ _ _ us hl => by obtain ⟨a, rfl⟩ := len1 hl; rfl)
  d_is_stable := dn_of X G A.d_is_stable (fun _ _ _ _ _ _ us hl => by obtain ⟨a, b, rfl⟩ := len2 hl; rfl)
  d_lead := dn_of X G A.d_lead (fun _ _ _ _ _ _ us hl => by obtain ⟨a, b, c, rfl⟩ := len3 hl; rfl)
  d_beats := dn_of X G A.d_beats (fun _ _ _ _ _ _ us hl => by obtain ⟨a, b, c, d, rfl⟩ := len4 hl; rfl)
  d_unbeaten := dn_of X G A.d_unbeaten (fun _ _ _ _ _ _ us hl => by obtain ⟨a, b, rfl⟩ := len2 hl; rfl)
  d_answer_contest := dn_of X G A.d_answer_contest (fun _ _ _ _ _ _ us hl => by obtain ⟨a, b, c, rfl⟩ := len3 hl; rfl)
  d_answer_told := dn_of X G A.d_answer_told (fun _ _ _ _ _ _ us hl => by obtain ⟨a, rfl⟩ := len1 hl; rfl)
  d_answer_value := dn_of X G A.d_answer_value (fun _ _ _ _ _ _ us hl => by obtain ⟨a, b, c, rfl⟩ := len3 hl; rfl)
  d_answer_replies := dn_of X G A.d_answer_replies (fun _ _ _ _ _ _ us hl => by obtain ⟨a, b, rfl⟩ := len2 hl; rfl)
  d_answer_survivors := dn_of X G A.d_answer_survivors (fun _ _ _ _ _ _ us hl => by obtain ⟨a, rfl⟩ := len1 hl; rfl)
  d_answer_support := dn_of X G A.d_answer_support (fun _ _ _ _ _ _ us hl => by obtain ⟨a, b, rfl⟩ := len2 hl; rfl)
  d_answer_equilibria := dn_of X G A.d_answer_equilibria (fun _ _ _ _ _ _ us hl => by obtain ⟨a, rfl⟩ := len1 hl; rfl)
  d_answer_stable := dn_of X G A.d_answer_stable (fun _ _ _ _ _ _ us hl => by obtain ⟨a, b, rfl⟩ := len2 hl; rfl)
  d_answer_stables := dn_of X G A.d_answer_stables (fun _ _ _ _ _ _ us hl => by obtain ⟨a, rfl⟩ := len1 hl; rfl)
  d_answer_bears := dn_of X G A.d_answer_bears (fun _ _ _ _ _ _ us hl => by obtain ⟨a, b, c, rfl⟩ := len3 hl; rfl)
  d_answer_grow := dn_of X G A.d_answer_grow (fun _ _ _ _ _ _ us hl => by obtain ⟨a, b, c, rfl⟩ := len3 hl; rfl)
  d_take_grown := dn_of X G A.d_take_grown (fun _ _ _ _ _ _ us hl => by obtain ⟨a, b, rfl⟩ := len2 hl; rfl)
  d_answer_shift := dn_of X G A.d_answer_shift (fun _ _ _ _ _ _ us hl => by obtain ⟨a, b, rfl⟩ := len2 hl; rfl)
  d_answer_scale := dn_of X G A.d_answer_scale (fun _ _ _ _ _ _ us hl => by obtain ⟨a, b, rfl⟩ := len2 hl; rfl)
  d_answer_sub := dn_of X G A.d_answer_sub (fun _ _ _ _ _ _ us hl => by obtain ⟨a, b, rfl⟩ := len2 hl; rfl)
  d_answer_asking := dn_of X G A.d_answer_asking (fun _ _ _ _ _ _ us hl => by obtain ⟨a, b, c, rfl⟩ := len3 hl; rfl)
  d_answer_next := dn_of X G A.d_answer_next (fun _ _ _ _ _ _ us hl => by obtain ⟨a, b, rfl⟩ := len2 hl; rfl)
  d_answers := dn_of X G A.d_answers (fun _ _ _ _ _ _ us hl => by obtain ⟨a, rfl⟩ := len1 hl; rfl)
theorem all_ok {C R fa : Addr} (X : K.In h) (G : h.Ns mainGlobals mg) (A : Top K C R) (hfa : mg "answers" = some (.ref fa)) :
    ∃ fd : FuncData, (∀ (s : Shared) (us : List Value), us.length = (["calls"] : List Str).length → BindsTo s fd ⟨us, []⟩ ((["calls"] : List Str).zip us)) ∧ ∀ base : Heap, K.In base → base.Ns mainGlobals mg → FnOk P w K mg base CX0 9 fa fd ["calls"] (sp_answers K) := by
  have T := txt_of X G A
  obtain ⟨f, oc, od, osl, kV, doc, pm, an, cdv, ct, a, l, c, kp⟩ := A.d_answers
  have e := hfa.symm.trans (PySem.W.mg_of X G a)
  cases e
  have F := fun_mk (st := s_answers) l c kp
  refine ⟨PySem.W.fnOf "answers" "answers" (defArgs s_answers) (defBody s_answers) (defScope s_answers) .none kV doc pm an cdv ct, fun s us hu => match us, hu with | [_], _ => .of_eq rfl, fun base _ _ => ?_⟩
  have cC : Cls K C := ⟨A.cC.pg, A.cC.hd, A.cC.po, A.cC.sa⟩
  have cR : Cls K R := ⟨A.cR.pg, A.cR.hd, A.cR.po, A.cR.sa⟩
  have TC : ClC K mg C := ⟨cC, A.nW⟩
  have TR : ClR K R := ⟨cR, A.nC, A.nA⟩
  have m1 : MthC P w K mg base R "is_done" 1 ["self"] (sp_is_done K R) := meth_of A.m_Reader_is_done cR (fun _ _ _ _ _ _ us hl => by obtain ⟨a, rfl⟩ := len1 hl; rfl) fun f fd F => ok_is_done T F TR
  have m2 : MthC P w K mg base R "take_number" 1 ["self"] (sp_take_number K R) := meth_of A.m_Reader_take_number cR (fun _ _ _ _ _ _ us hl => by obtain ⟨a, rfl⟩ := len1 hl; rfl) fun f fd F => ok_take_number F TR
  have m3 : MthC P w K mg base R "take_row" 2 ["self"] (sp_take_row K R) := meth_of A.m_Reader_take_row cR (fun _ _ _ _ _ _ us hl => by obtain ⟨a, rfl⟩ := len1 hl; rfl) fun f fd F => ok_take_row F TR m2
  have n1 : NewO P w K mg base "Contest" C 1 ["self"] (sp_Contest_init C) := new_of X G A.cC A.m_Contest_init (fun _ _ _ _ _ _ us hl => by obtain ⟨a, rfl⟩ := len1 hl; rfl) fun f fd F => ok_Contest_init F TC
  have n2 : NewO P w K mg base "Reader" R 1 ["self", "calls"] (sp_Reader_init R) := new_of X G A.cR A.m_Reader_init (fun _ _ _ _ _ _ us hl => by obtain ⟨a, b, rfl⟩ := len2 hl; rfl) fun f fd F => ok_Reader_init F TR
  exact ok_answers F T TC n1 n2 m1 m2 m3
end
end Cw
open PySem PySem.W PyProof.Rows
set_option maxRecDepth 100000 in
set_option maxHeartbeats 0 in
theorem PySem.Challenge.cw_contestways_s01_answers_holds : PySem.Challenge.rw_contestways_s01_answers.Holds := by
  w_on
  refine holds_os (q := Cw.view) (loose := []) (Xt := fun s => xlAt Cw.view [] s && recOk [] s) (XP := XL Cw.view []) (Yf := Hook.obs (kHook Cw.top.heap_1 Cw.at_ Cw.at_eq)) (Ya := Hook.val (kHook Cw.top.heap_1 Cw.at_ Cw.at_eq)) (YP := Hook.says (kHook Cw.top.heap_1 Cw.at_ Cw.at_eq)) (N := 3772) Cw.left (Hook.of _) (Hook.keeps _) (fun s e => xl_of s (Bool.and_eq_true_iff.mp e).1) XL.keeps (by rfl) (by rfl) (by rfl) (fun s e => recFacts_of (Bool.and_eq_true_iff.mp e).2) os_shapes (by decide +kernel) (by decide +kernel) ⟨rfl, rfl, rfl, rfl, rfl, by decide +kernel⟩ ⟨[.list [.int 1]], by decide +kernel, by decide +kernel⟩ ?hc
  k_fillS
  refine L2.walk_specK (r := PySem.Challenge.rw_contestways_s01_answers) (k := 9) (CX := L2.CX0) (ps := ["calls"]) (sp := Cw.sp_answers) (by decide +kernel) rfl rfl ⟨rfl, by decide, by decide⟩ (fun w h Y => PySem.W.kIn_of Y) ?F ?S (fun _ _ _ _ z => z)
  case F =>
    intro w mg fa h Y KX G hmg
    refine' Cw.all_ok KX G ?A hmg
    case A =>
      refine' Cw.Top.mk ?b_abs ?b_all ?b_any ?b_enumerate ?b_len ?b_list ?b_max ?b_min ?b_range ?b_sum ?b_zip ?k_MOST_STRATEGIES ?k_MOST_WIN ?k_MOST_WEIGHT ?k_MOST_TIMES ?k_MOST_SHIFT ?k_MOST_FACTOR ?k_MOST_GROWN_WIN ?k_OUT_OF_RANGE ?k_SINGULAR ?k_SAME_MIXTURE ?k_WIN_BELOW_ZERO ?k_NOTHING_WON ?k_WIN_TOO_FAR ?d_greatest_divisor ?d_fraction ?d_mixture ?d_are_within ?d_are_weights ?d_are_strategies ?d_weighted_sum ?d_won_against ?d_best_replies ?d_cleared ?d_solve ?d_level_equations ?d_level_weights ?d_is_at_rest ?d_all_sets ?d_resting_sets ?d_loss_form ?d_is_above_zero ?d_is_stable ?d_lead ?d_beats ?d_unbeaten ?d_answer_contest ?d_answer_told ?d_answer_value ?d_answer_replies ?d_answer_survivors ?d_answer_support ?d_answer_equilibria ?d_answer_stable ?d_answer_stables ?d_answer_bears ?d_answer_grow ?d_take_grown ?d_answer_shift ?d_answer_scale ?d_answer_sub ?d_answer_asking ?d_answer_next ?d_answers ?cC ?cR ?nW ?nC ?nA ?m0 ?m1 ?m2 ?m3 ?m4
      (case b_abs => k_is)
      (case b_all => k_is)
      (case b_any => k_is)
      (case b_enumerate => k_is)
      (case b_len => k_is)
      (case b_list => k_is)
      (case b_max => k_is)
      (case b_min => k_is)
      (case b_range => k_is)
      (case b_sum => k_is)
      (case b_zip => k_is)
      (case k_MOST_STRATEGIES => (refine' Cw.const_mk ?e ?r; (case e => k_is); (case r => exact ⟨_, rfl⟩)))
      (case k_MOST_WIN => (refine' Cw.const_mk ?e ?r; (case e => k_is); (case r => exact ⟨_, rfl⟩)))
      (case k_MOST_WEIGHT => (refine' Cw.const_mk ?e ?r; (case e => k_is); (case r => exact ⟨_, rfl⟩)))
      (case k_MOST_TIMES => (refine' Cw.const_mk ?e ?r; (case e => k_is); (case r => exact ⟨_, rfl⟩)))
      (case k_MOST_SHIFT => (refine' Cw.const_mk ?e ?r; (case e => k_is); (case r => exact ⟨_, rfl⟩)))
      (case k_MOST_FACTOR => (refine' Cw.const_mk ?e ?r; (case e => k_is); (case r => exact ⟨_, rfl⟩)))
      (case k_MOST_GROWN_WIN => (refine' Cw.const_mk ?e ?r; (case e => k_is); (case r => exact ⟨_, rfl⟩)))
      (case k_OUT_OF_RANGE => (refine' Cw.const_mk ?e ?r; (case e => k_is); (case r => exact ⟨_, rfl⟩)))
      (case k_SINGULAR => (refine' Cw.const_mk ?e ?r; (case e => k_is); (case r => exact ⟨_, rfl⟩)))
      (case k_SAME_MIXTURE => (refine' Cw.const_mk ?e ?r; (case e => k_is); (case r => exact ⟨_, rfl⟩)))
      (case k_WIN_BELOW_ZERO => (refine' Cw.const_mk ?e ?r; (case e => k_is); (case r => exact ⟨_, rfl⟩)))
      (case k_NOTHING_WON => (refine' Cw.const_mk ?e ?r; (case e => k_is); (case r => exact ⟨_, rfl⟩)))
      (case k_WIN_TOO_FAR => (refine' Cw.const_mk ?e ?r; (case e => k_is); (case r => exact ⟨_, rfl⟩)))
      (case d_greatest_divisor => (refine' Cw.def_mk ?a ?l ?c ?k; (case a => k_is); (case l => k_is); (case c => k_is); (case k => k_is)))
      (case d_fraction => (refine' Cw.def_mk ?a ?l ?c ?k; (case a => k_is); (case l => k_is); (case c => k_is); (case k => k_is)))
      (case d_mixture => (refine' Cw.def_mk ?a ?l ?c ?k; (case a => k_is); (case l => k_is); (case c => k_is); (case k => k_is)))
      (case d_are_within => (refine' Cw.def_mk ?a ?l ?c ?k; (case a => k_is); (case l => k_is); (case c => k_is); (case k => k_is)))
      (case d_are_weights => (refine' Cw.def_mk ?a ?l ?c ?k; (case a => k_is); (case l => k_is); (case c => k_is); (case k => k_is)))
      (case d_are_strategies => (refine' Cw.def_mk ?a ?l ?c ?k; (case a => k_is); (case l => k_is); (case c => k_is); (case k => k_is)))
      (case d_weighted_sum => (refine' Cw.def_mk ?a ?l ?c ?k; (case a => k_is); (case l => k_is); (case c => k_is); (case k => k_is)))
      (case d_won_against => (refine' Cw.def_mk ?a ?l ?c ?k; (case a => k_is); (case l => k_is); (case c => k_is); (case k => k_is)))
      (case d_best_replies => (refine' Cw.def_mk ?a ?l ?c ?k; (case a => k_is); (case l => k_is); (case c => k_is); (case k => k_is)))
      (case d_cleared => (refine' Cw.def_mk ?a ?l ?c ?k; (case a => k_is); (case l => k_is); (case c => k_is); (case k => k_is)))
      (case d_solve => (refine' Cw.def_mk ?a ?l ?c ?k; (case a => k_is); (case l => k_is); (case c => k_is); (case k => k_is)))
      (case d_level_equations => (refine' Cw.def_mk ?a ?l ?c ?k; (case a => k_is); (case l => k_is); (case c => k_is); (case k => k_is)))
      (case d_level_weights => (refine' Cw.def_mk ?a ?l ?c ?k; (case a => k_is); (case l => k_is); (case c => k_is); (case k => k_is)))
      (case d_is_at_rest => (refine' Cw.def_mk ?a ?l ?c ?k; (case a => k_is); (case l => k_is); (case c => k_is); (case k => k_is)))
      (case d_all_sets => (refine' Cw.def_mk ?a ?l ?c ?k; (case a => k_is); (case l => k_is); (case c => k_is); (case k => k_is)))
      (case d_resting_sets => (refine' Cw.def_mk ?a ?l ?c ?k; (case a => k_is); (case l => k_is); (case c => k_is); (case k => k_is)))
      (case d_loss_form => (refine' Cw.def_mk ?a ?l ?c ?k; (case a => k_is); (case l => k_is); (case c => k_is); (case k => k_is)))
      (case d_is_above_zero => (refine' Cw.def_mk ?a ?l ?c ?k; (case a => k_is); (case l => k_is); (case c => k_is); (case k => k_is)))
      (case d_is_stable => (refine' Cw.def_mk ?a ?l ?c ?k; (case a => k_is); (case l => k_is); (case c => k_is); (case k => k_is)))
      (case d_lead => (refine' Cw.def_mk ?a ?l ?c ?k; (case a => k_is); (case l => k_is); (case c => k_is); (case k => k_is)))
      (case d_beats => (refine' Cw.def_mk ?a ?l ?c ?k; (case a => k_is); (case l => k_is); (case c => k_is); (case k => k_is)))
      (case d_unbeaten => (refine' Cw.def_mk ?a ?l ?c ?k; (case a => k_is); (case l => k_is); (case c => k_is); (case k => k_is)))
      (case d_answer_contest => (refine' Cw.def_mk ?a ?l ?c ?k; (case a => k_is); (case l => k_is); (case c => k_is); (case k => k_is)))
      (case d_answer_told => (refine' Cw.def_mk ?a ?l ?c ?k; (case a => k_is); (case l => k_is); (case c => k_is); (case k => k_is)))
      (case d_answer_value => (refine' Cw.def_mk ?a ?l ?c ?k; (case a => k_is); (case l => k_is); (case c => k_is); (case k => k_is)))
      (case d_answer_replies => (refine' Cw.def_mk ?a ?l ?c ?k; (case a => k_is); (case l => k_is); (case c => k_is); (case k => k_is)))
      (case d_answer_survivors => (refine' Cw.def_mk ?a ?l ?c ?k; (case a => k_is); (case l => k_is); (case c => k_is); (case k => k_is)))
      (case d_answer_support => (refine' Cw.def_mk ?a ?l ?c ?k; (case a => k_is); (case l => k_is); (case c => k_is); (case k => k_is)))
      (case d_answer_equilibria => (refine' Cw.def_mk ?a ?l ?c ?k; (case a => k_is); (case l => k_is); (case c => k_is); (case k => k_is)))
      (case d_answer_stable => (refine' Cw.def_mk ?a ?l ?c ?k; (case a => k_is); (case l => k_is); (case c => k_is); (case k => k_is)))
      (case d_answer_stables => (refine' Cw.def_mk ?a ?l ?c ?k; (case a => k_is); (case l => k_is); (case c => k_is); (case k => k_is)))
      (case d_answer_bears => (refine' Cw.def_mk ?a ?l ?c ?k; (case a => k_is); (case l => k_is); (case c => k_is); (case k => k_is)))
      (case d_answer_grow => (refine' Cw.def_mk ?a ?l ?c ?k; (case a => k_is); (case l => k_is); (case c => k_is); (case k => k_is)))
      (case d_take_grown => (refine' Cw.def_mk ?a ?l ?c ?k; (case a => k_is); (case l => k_is); (case c => k_is); (case k => k_is)))
      (case d_answer_shift => (refine' Cw.def_mk ?a ?l ?c ?k; (case a => k_is); (case l => k_is); (case c => k_is); (case k => k_is)))
      (case d_answer_scale => (refine' Cw.def_mk ?a ?l ?c ?k; (case a => k_is); (case l => k_is); (case c => k_is); (case k => k_is)))
      (case d_answer_sub => (refine' Cw.def_mk ?a ?l ?c ?k; (case a => k_is); (case l => k_is); (case c => k_is); (case k => k_is)))
      (case d_answer_asking => (refine' Cw.def_mk ?a ?l ?c ?k; (case a => k_is); (case l => k_is); (case c => k_is); (case k => k_is)))
      (case d_answer_next => (refine' Cw.def_mk ?a ?l ?c ?k; (case a => k_is); (case l => k_is); (case c => k_is); (case k => k_is)))
      (case d_answers => (refine' Cw.def_mk ?a ?l ?c ?k; (case a => k_is); (case l => k_is); (case c => k_is); (case k => k_is)))
      (case cC => (refine' Cw.ClsIn.mk ?ca ?pg ?hd ?po ?sa ?mk ?kc; (case ca => k_is); (case pg => k_is); (case hd => k_is); (case po => k_is); (case sa => k_is); (case mk => k_is); (case kc => k_is)))
      (case cR => (refine' Cw.ClsIn.mk ?ca ?pg ?hd ?po ?sa ?mk ?kc; (case ca => k_is); (case pg => k_is); (case hd => k_is); (case po => k_is); (case sa => k_is); (case mk => k_is); (case kc => k_is)))
      (case nW => k_is)
      (case nC => k_is)
      (case nA => k_is)
      (case m0 => (refine' Cw.meth_mk ?a ?i ?l ?c ?k; (case a => k_is); (case i => k_is); (case l => k_is); (case c => k_is); (case k => k_is)))
      (case m1 => (refine' Cw.meth_mk ?a ?i ?l ?c ?k; (case a => k_is); (case i => k_is); (case l => k_is); (case c => k_is); (case k => k_is)))
      (case m2 => (refine' Cw.meth_mk ?a ?i ?l ?c ?k; (case a => k_is); (case i => k_is); (case l => k_is); (case c => k_is); (case k => k_is)))
      (case m3 => (refine' Cw.meth_mk ?a ?i ?l ?c ?k; (case a => k_is); (case i => k_is); (case l => k_is); (case c => k_is); (case k => k_is)))
      (case m4 => (refine' Cw.meth_mk ?a ?i ?l ?c ?k; (case a => k_is); (case i => k_is); (case l => k_is); (case c => k_is); (case k => k_is)))
  case S =>
    intro K H xs a hO hwi hask hx
    cases hx with
    | cons h1 h2 =>
      cases h2
      cases h1 with
      | lst hs ha =>
        have e := L2.ints_dw a.1 _ ha
        subst e
        have q : ((Codec.inLen 0 16000 a.1 && a.1.all (Codec.inInt (-9223372036854775808) 9223372036854775807)) && true) = true := hwi
        rw [Bool.and_eq_true, Bool.and_eq_true] at q
        obtain ⟨n, hn, hr⟩ := Cw.runs_of a.1 hask
        exact ⟨_, a.1, _, n, rfl, hs, (Codec.inNat_iff.mp q.1.1).2, hr, hn, fun H' p hp => .lst (L2.SqL.of hp) (L2.dw_ints _)⟩
end
